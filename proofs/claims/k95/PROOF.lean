import PyProof.Rows.All
import Wide.All
import OpenK.AllK
import Wide.FinOn
import Lean
import PyProof.EqAt
import PyProof.EqKinds
import PyProof.TupleCall
import PySem.Challenge.RW_yesorno_k95_atoms_refused
set_option Elab.async false
set_option linter.all false
set_option compiler.extract_closed false
set_option genSizeOf false
set_option maxRecDepth 100000
set_option maxHeartbeats 8000000
def lM{α β}{l:List α}(f:α→β):(l.map f).length=l.length:=List.length_map f
def lAq{α}{a b:List α}:(a++b).length=a.length+b.length:=List.length_append
def mAq{α β}{f:α→β}{a b:List α}:(a++b).map f=a.map f++b.map f:=List.map_append
def lS{α}{a:α}:[a].length=1:=rfl
def mOq{α}{l:List α}{i:Nat}{a:α}(h:l[i]?=some a):a∈l:=List.mem_of_getElem? h
def mPq{α}{a:α}{s t:List α}(h:a∈s++t):a∈s∨a∈t:=List.mem_append.mp h
def mS{α}{a b:α}(h:a∈[b]):a=b:=List.mem_singleton.mp h
def gEq{α}{i:Nat}{a:α}{l:List α}(h:l[i]?=some a):∃h,l[i]=a:=List.getElem?_eq_some_iff.mp h
def gG{α}{l:List α}{i:Nat}(h:i<l.length):l[i]?=some l[i]:=List.getElem?_eq_getElem h
def sA{α}{l:List α}:l.toArray.size=l.length:=List.size_toArray
def nRq(n:Nat):n≤n:=Nat.le_refl n
def tO{α}{i:Nat}{l:List α}(h:l.length≤i):l.take i=l:=List.take_of_length_le h
def dTq{p:Prop}[Decidable p](h:p):decide p=true:=decide_eq_true h
def oDq{p:Prop}[Decidable p](h:decide p=true):p:=of_decide_eq_true h
def dFq{p:Prop}[Decidable p](h:¬p):decide p=false:=decide_eq_false h
def hG{h:PySem.Heap}{a:PySem.Addr}{u:PySem.Obj}(o:PySem.Obj)(e:h.get? a=some u):(h.push o).get? a=some u:=PySem.Heap.get?_push_of_some o e
def bLq:PySem.bootBuiltins "len"=some (.builtin "len"):=PySem.boot_len
def hLq{h:PySem.Heap}{a:PySem.Addr}{o:PySem.Obj}(e:h.get? a=some o):a<h.objs.size:=PySem.Heap.lt_size e
namespace L2
open PySem PySem.Spec PyProof.Rows
abbrev Key:=Sum Int Str
def ze5:Key→Value→Bool
  | .inl k,v=>Value.isInt k v
  | .inr x,v=>Value.isStrOf x v
def keyH (w:World):Key→Int
  | .inl k=>hashInt k
  | .inr x=>hashStr w x
def za7:∀ {k:Key} {v:Value},ze5 k v=true→(∃ i t,k=Sum.inl i∧v=Value.int i t)∨(∃ x t,k=Sum.inr x∧v=Value.str x t)
  | .inl i,v,h=>by obtain⟨t,e⟩:=Value.isInt_shape (k:=i) (v:=v) h;exact .inl ⟨i,t,rfl,e⟩
  | .inr x,v,h=>by obtain⟨t,e⟩:=Value.isStrOf_shape (x:=x) (v:=v) h;exact .inr ⟨x,t,rfl,e⟩
def zlU (i:Int)(t:Tok):ze5 (.inl i) (.int i t)=true:=by simp [ze5,Value.isInt]
def zlT (x:Str)(t:Tok):ze5 (.inr x) (.str x t)=true:=by simp [ze5,Value.isStrOf]
def key_ll (a b:Int):decide ((Sum.inl a:Key)=Sum.inl b)=(a == b):=by
  by_cases e:a=b
  · subst e;simp
  · have h:¬(Sum.inl a:Key)=Sum.inl b:=λq=>e (Sum.inl.inj q);rw[dFq h];exact(beq_eq_false_iff_ne.mpr e).symm
def key_rr (a b:Str):decide ((Sum.inr a:Key)=Sum.inr b)=decide (a=b):=by
  by_cases e:a=b
  · subst e;simp
  · have h:¬(Sum.inr a:Key)=Sum.inr b:=λq=>e (Sum.inr.inj q);rw[dFq h,dFq e]
def key_lr (a:Int)(b:Str):decide ((Sum.inl a:Key)=Sum.inr b)=false:=dFq (λq=>nomatch q)
def key_rl (a:Str)(b:Int):decide ((Sum.inr a:Key)=Sum.inl b)=false:=dFq (λq=>nomatch q)
def zaJ (prog:Program)(w:World):PySem.KeyKind prog w Key where
  is:=ze5
  hash:=keyH w
  inj:=λv a b l f=>by
    rcases za7 l with ⟨i,t,rfl,rfl⟩ | ⟨x,t,rfl,rfl⟩
    · rcases za7 f with ⟨j,u,rfl,e⟩ | ⟨y,u,rfl,e⟩
      · injection e with c _;rw[c]
      · exact nomatch e
    · rcases za7 f with ⟨j,u,rfl,e⟩ | ⟨y,u,rfl,e⟩
      · exact nomatch e
      · injection e with c _;rw[c]
  byValue:=λk v h=>by rcases za7 h with ⟨i,t,rfl,rfl⟩ | ⟨x,t,rfl,rfl⟩ <;> rfl
  pyHash:=λd h=>by
    rcases za7 d with ⟨i,t,rfl,rfl⟩ | ⟨x,t,rfl,rfl⟩
    · exact wpAny_pyHash_int h
    · exact wpAny_pyHash_str h
  eqBool:=λg d h=>by
    rcases za7 g with ⟨i,t,rfl,rfl⟩ | ⟨x,t,rfl,rfl⟩
    · rcases za7 d with ⟨j,u,rfl,rfl⟩ | ⟨y,u,rfl,rfl⟩
      · rw[key_ll]at h;exact wpAny_eqBool_int h
      · rw[key_lr]at h;exact SeqAt.EqAt.int_str i t y u _ _ _ _ h
    · rcases za7 d with ⟨j,u,rfl,rfl⟩ | ⟨y,u,rfl,rfl⟩
      · rw[key_rl]at h;exact SeqAt.EqAt.str_int x t j u _ _ _ _ h
      · rw[key_rr]at h;exact wpAny_eqBool_str h
  «strs»:=λk x t v h=>by
    rcases za7 h with ⟨i,u,rfl,e⟩ | ⟨y,u,rfl,e⟩
    · exact nomatch e
    · injection e with c _;subst c;cases v <;> rfl
def zjz (prog:Program)(w:World)(i:Int)(t:Tok):(zaJ prog w).is (.inl i) (.int i t)=true:=zlU i t
def zjy (prog:Program)(w:World)(x:Str)(t:Tok):(zaJ prog w).is (.inr x) (.str x t)=true:=zlT x t
inductive V where
  | non | bl (b:Bool) | int (i:Int) | str (x:Str) | byt (b:Array UInt8) | flt (b:UInt64) | ref (a:Addr) | ty (n:String)
  deriving DecidableEq
def aY:V→Value→Prop
  | .non,u=>u=Value.none
  | .bl b,u=>u=Value.bool b
  | .int i,u=>∃ t,u=Value.int i t
  | .str x,u=>∃ t,u=Value.str x t
  | .byt b,u=>∃ t,u=Value.bytes b t
  | .flt b,u=>∃ t,u=Value.float b t
  | .ref a,u=>u=Value.ref a
  | .ty n,u=>u=Value.type n
abbrev aQ:List V→List Value→Prop:=Paired aY
def aQ.length (r:aQ xs us):xs.length=us.length:=Paired.length r
def aQ.get:∀ {xs:List V} {us:List Value} {i:Nat} {x:V},aQ xs us→xs[i]?=some x→∃ u,us[i]?=some u∧aY x u
  | _,_,_,_,.nil,e=>by simp at e
  | _,_,0,_,.cons r _,e=>by simp at e;subst e;exact⟨_,rfl,r⟩
  | _,_,i+1,x,.cons _ t,e=>by obtain⟨u,b,a⟩:=aQ.get (i:=i) (x:=x) t (by simpa using e);exact⟨u,by simpa using b,a⟩
def aQ.append:∀ {xs ys:List V} {us a:List Value},aQ xs us→aQ ys a→aQ (xs++ys) (us++a)
  | _,_,_,_,.nil,s=>s
  | _,_,_,_,.cons r t,s=>.cons r (aQ.append t s)
def aQ.take:∀ {xs:List V} {us:List Value} (n:Nat),aQ xs us→aQ (xs.take n) (us.take n)
  | _,_,0,_=>.nil
  | _,_,_+1,.nil=>.nil
  | _,_,n+1,.cons r t=>.cons r (aQ.take n t)
def aQ.drop:∀ {xs:List V} {us:List Value} (n:Nat),aQ xs us→aQ (xs.drop n) (us.drop n)
  | _,_,0,r=>r
  | _,_,_+1,.nil=>.nil
  | _,_,n+1,.cons _ t=>aQ.drop n t
def zb2:Option V→Option Value→Prop
  | some v,some u=>aY v u
  | none,none=>True
  | _,_=>False
def KV {a:Type}:List (a × V)→List (a × Value)→Prop:=Paired λ(p:a × V) (q:a × Value)=>p.1=q.1∧aY p.2 q.2
def kV:Key→V
  | .inl i=>.int i
  | .inr x=>.str x
inductive HO where
    | lst (xs:List V)
    | tup (xs:List V)
    | dK (kvs:List (Key × V)) | dT (kvs:List (List Key × V))
    | set (S:Int→Bool)(n:Nat)
    | ins (C dx:Addr)(fs:List (Str × V))
    | own (x:Addr)
    | xd (fs:List (Str × V))
    | met (f x:Addr)
    | rng (lo hi:Int)
    | frz (o:Obj)(u:HO)
    | tbl (ps:Array Value)
    | ext (φ:Heap→Prop)
abbrev Hp:=Addr→Option HO
def upd (H:Hp)(a:Addr)(o:HO):Hp:=λb=>if b=a then some o else H b
def af:upd H a o a=some o:=by unfold upd;rw[if_pos rfl]
def ag (h:b≠a):upd H a o b=H b:=by unfold upd;rw[if_neg h]
def zhv:upd (upd H a o) a u=upd H a u:=by funext b;unfold upd;split <;> rfl
def zdc {H:Hp}{a b:Addr}{o u:HO}(h:H a=some o)(h':H b=some u)(d:o≠u):a≠b:=by intro e;subst e;rw[h]at h';exact d (Option.some.inj h')
def zad {H:Hp}{a b:Addr}{o:HO}(h:H a=some o)(h':H b=none):a≠b:=by intro e;subst e;rw[h]at h';cases h'
def zeg (h:Heap)(a:Addr)(items:Array Value):Prop:=∃ o,h.get? a=some o∧(o.cls,o.dict)=(Value.type "tuple",none)∧∃ n,o.data=.seq items n
def zeg.up (x:zeg h a items):IsTup h a items:=let ⟨o,e,c,d⟩:=x;⟨o,e,(Prod.mk.inj c).1,d⟩
def zeg.lt (x:zeg h a items):a < h.objs.size:=x.up.lt
def zeg.new (h:Heap)(items:Array Value):zeg (h.push { cls:=.type "tuple",data:=.seq items }) h.objs.size items:=⟨_,Heap.get?_push_size _ rfl,rfl,_,rfl⟩
section
variable (P:Program) (w:World)
def zaz (H:Hp)(h:Heap)(a:Addr):HO→Prop
  | .lst xs=>xs.length≤sizeLine∧∃(b:List Value) (n:Nat),aQ xs b∧h.get? a=some { cls:=.type "list",data:=.seq b.toArray n }
  | .tup xs=>xs.length≤sizeLine∧∃ b:List Value,aQ xs b∧zeg h a b.toArray
  | .dK kvs=>kvs.length≤sizeLine∧(a == sysModules)=false∧∃ vs,KV kvs vs∧h.DictOf (zaJ P w) a vs
  | .dT kvs=>kvs.length≤sizeLine∧(a == sysModules)=false∧∃ xs:List (List Key × Addr × Value),
      Paired (λ(p:List Key × V) (q:List Key × Addr × Value)=>p.1=q.1∧H q.2.1=some (.tup (p.1.map kV))∧aY p.2 q.2.2) kvs xs ∧
      ∃ o es l,h.get? a=some o∧o.ExactDict∧o.data=.dict es l∧es.toList=xs.map (entryOfKey (tupleKind (zaJ P w)))∧(xs.map (·.1)).Nodup
  | .set S n=>h.SetOf (intKind P w) a S n
  | .ins C e d=>H e=some (.own a)∧d.length≤1000∧e≠a∧h.get? a=some (PySem.W.instObj C e) ∧
      ∃ c,h.Ns1 e c∧(∀ f,zb2 (d.lookup f) (c f))∧PySem.Within c (d.map (·.1))
  | .own _=>∃ o,h.get? a=some o
  | .xd d=>∃ c,h.Ns1 a c∧∀ f,zb2 (d.lookup f) (c f)
  | .rng lo k=>∃ t u v,h.get? a=some { cls:=.type "range",data:=.fields #[.int lo t,.int k u,.int 1 v] }
  | .frz o u=>h.get? a=some o∧zaz H h a u
  | .tbl ps=>h.get? a=some { cls:=.none,data:=.fields ps }
  | .met f x=>h.get? a=some (PySem.W.methodObj (.ref f) (.ref x))
  | .ext g=>g h∧(∃ o,h.get? a=some o)∧∀ j i:Heap,g j→(∀ o,j.get? a=some o→i.get? a=some o)→g i
def HOk (H:Hp)(h:Heap):Prop:=∀ a o,H a=some o→zaz P w H h a o
end
section
variable {P:Program} {w:World} {H H':Hp} {h h':Heap} {a:Addr} {o:HO}
def zaz.lt (x:zaz P w H h a o):a < h.objs.size:=by
  cases o with
  | lst xs=>obtain⟨_,_,_,_,e⟩:=x;exact hLq e
  | tup xs=>obtain⟨_,_,_,p⟩:=x;exact p.lt
  | dK kvs=>obtain⟨_,_,_,_,o,_,_,e,_⟩:=x;exact hLq e
  | dT kvs=>obtain⟨_,_,_,_,o,_,_,e,_⟩:=x;exact hLq e
  | set S n=>obtain⟨o,_,_,_,e,_⟩:=x;exact hLq e
  | ins C i b=>obtain⟨_,_,_,e,_⟩:=x;exact hLq e
  | own y=>obtain⟨_,e⟩:=x;exact hLq e
  | xd b=>obtain⟨_,⟨_,_,_,e,_⟩,_⟩:=x;exact hLq e
  | rng lo g=>obtain⟨_,_,_,e⟩:=x;exact hLq e
  | frz d u=>obtain⟨e,_⟩:=x;exact hLq e
  | tbl ps=>exact hLq (show h.get? a=some _ from x)
  | met f y=>exact hLq (show h.get? a=some _ from x)
  | ext c=>obtain⟨_,⟨_,e⟩,_⟩:=x;exact hLq e
def Paired.mapP:∀ {d:List α} {c:List β},Paired F d c→(∀ a b,F a b→G a b)→Paired G d c
  | _,_,.nil,_=>.nil
  | _,_,.cons r t,f=>.cons (f _ _ r) (Paired.mapP t f)
def zaz.stay (x:zaz P w H h a o)(k:∀ b u,(b=a∨H b=some (.own a))→h.get? b=some u→h'.get? b=some u)
    (D:∀ b,H b=some (.own a)→H' b=some (.own a))(B:∀ b xs,H b=some (.tup xs)→H' b=some (.tup xs)):zaz P w H' h' a o:=by
  induction o with
  | lst xs=>obtain⟨z,j,n,r,e⟩:=x;exact⟨z,j,n,r,k _ _ (.inl rfl) e⟩
  | tup xs=>obtain⟨z,j,r,g,e,c⟩:=x;exact⟨z,j,r,g,k _ _ (.inl rfl) e,c⟩
  | dK kvs=>obtain⟨z,y,vs,r,g,es,i,e,c⟩:=x;exact⟨z,y,vs,r,g,es,i,k _ _ (.inl rfl) e,c⟩
  | dT kvs =>
    obtain⟨z,y,xs,r,g,es,i,e,c⟩:=x;exact⟨z,y,xs,Paired.mapP r λp q z=>⟨z.1,B _ _ z.2.1,z.2.2⟩,g,es,i,k _ _ (.inl rfl) e,c⟩
  | set S n=>obtain⟨g,es,i,t,e,c⟩:=x;exact⟨g,es,i,t,k _ _ (.inl rfl) e,c⟩
  | ins C J E =>
    obtain⟨d,z,s,e,l,⟨od,es,i,F,c⟩,r⟩:=x;exact⟨D _ d,z,s,k _ _ (.inl rfl) e,l,⟨od,es,i,k _ _ (.inr d) F,c⟩,r⟩
  | own y=>obtain⟨g,e⟩:=x;exact⟨g,k _ _ (.inl rfl) e⟩
  | xd E=>obtain⟨l,⟨od,es,i,e,c⟩,r⟩:=x;exact⟨l,⟨od,es,i,k _ _ (.inl rfl) e,c⟩,r⟩
  | rng lo I=>obtain⟨t,u,v,e⟩:=x;exact⟨t,u,v,k _ _ (.inl rfl) e⟩
  | frz g u A=>obtain⟨e,q⟩:=x;exact⟨k _ _ (.inl rfl) e,A q⟩
  | tbl ps =>
    have e:h.get? a=some { cls:=.none,data:=.fields ps }:=x;show h'.get? a=some { cls:=.none,data:=.fields ps };exact k a _ (.inl rfl) e
  | met f y =>
    have e:h.get? a=some (PySem.W.methodObj (.ref f) (.ref y)):=x;show h'.get? a=some (PySem.W.methodObj (.ref f) (.ref y));exact k a _ (.inl rfl) e
  | ext G=>obtain⟨p,⟨o,e⟩,st⟩:=x;exact⟨st _ _ p λo q=>k _ _ (.inl rfl) q,⟨o,k _ _ (.inl rfl) e⟩,st⟩
def HOk.lt (x:HOk P w H h)(e:H a=some o):a < h.objs.size:=(x a o e).lt
def HOk.fresh (x:HOk P w H h)(e:h.objs.size≤a):H a=none:=by
  cases q:H a with
  | none=>rfl
  | some u=>exact absurd (Nat.lt_of_lt_of_le (x.lt q) e) (Nat.lt_irrefl _)
def HOk.kept (x:HOk P w H h)(k:∀ b u,h.get? b=some u→h'.get? b=some u):HOk P w H h':=λa o e =>
  (x a o e).stay (λb u _ q=>k b u q) (λ_ q=>q) λ_ _ q=>q
def HOk.laid (x:HOk P w H h)(k:∀ b u,h.get? b=some u→h'.get? b=some u)(i:h.objs.size≤a)(d:zaz P w (upd H a o) h' a o):HOk P w (upd H a o) h':=λb u e=>by
  have f:=x.fresh i;by_cases g:b=a
  · subst g;rw[af]at e;cases e;exact d
  · rw[ag g]at e;exact(x b u e).stay (λc v _ q=>k c v q) (λc q=>by rw[ag (zad q f)];exact q) λc xs q=>by rw[ag (zad q f)];exact q
end
def Rd (H:Hp)(a:Addr)(u:HO):Prop:=H a=some u∨∃ o,H a=some (.frz o u)
def Rd.ok (r:Rd H a u)(x:HOk P w H h):zaz P w H h a u:=by
  rcases r with r | ⟨o,r⟩
  · exact x a u r
  · obtain⟨_,q⟩:=x a _ r;exact q
def Mut:Option HO→Prop
  | some (.lst _)=>True
  | some (.dK _)=>True
  | some (.dT _)=>True
  | some (.set _ _)=>True
  | some (.ins _ _ _)=>True
  | some (.ext _)=>True
  | _=>False
section
variable {P:Program} {w:World} {H:Hp} {h h':Heap} {x e:Addr} {o':HO}
def HOk.write (s:HOk P w H h)(g:Mut (H x))(p:e=x∨H e=some (.own x))(k:∀ b u,b≠e→h.get? b=some u→h'.get? b=some u)(n:∃ u,h'.get? e=some u)
    (l:zaz P w (upd H x o') h' x o'):HOk P w (upd H x o') h':=λb u q=>by
  have d:∀ c y,H c=some (.own y)→c≠x:=λc y r z=>by subst z;rw[r]at g;exact g
  have f:∀ c xs,H c=some (.tup xs)→c≠x:=λc xs r z=>by subst z;rw[r]at g;exact g
  by_cases j:b=x
  · subst j;rw[af]at q;cases q;exact l
  · rw[ag j]at q;by_cases a:b=e
    · have o:H b=some (.own x):=by
        rcases p with z | z
        · exact absurd (a.trans z) j
        · rw[a];exact z
      rw[q]at o;cases o;obtain⟨v,t⟩:=n;exact⟨v,by rw[a];exact t⟩
    · refine(s b u q).stay (λc v i r=>k c v ?_ r) (λc r=>by rw[ag (d c b r)];exact r) λc xs r=>by rw[ag (f c xs r)];exact r
      rcases i with rfl | i
      · exact a
      · rintro rfl;rcases p with z | z
        · exact d c b i z
        · rw[i]at z;cases z;exact j rfl
end
structure Un (fs ex:List Addr)(H H':Hp)(h h':Heap):Prop where
  keep:∀ b o,h.get? b=some o→H b=none→b∉fs→b∉ex→h'.get? b=some o
  slot:∀ b o,h.get? b=some o→H b=none→b∈fs→b∉ex→∃ sl,h'.get? b=some { o with slots:=sl }
  free:∀ b o,h.get? b=some o→H b=none→b∉ex→H' b=none
  there:∀ b o,h.get? b=some o→b∉ex→∃ o',h'.get? b=some o'
  tups:∀ b xs,H b=some (.tup xs)→H' b=some (.tup xs)
  frzs:∀ b o u,H b=some (.frz o u)→H' b=some (.frz o u)
  tbls:∀ b ps,H b=some (.tbl ps)→∃ more,H' b=some (.tbl (ps++more))
section
variable {fs fs' ex ex':List Addr} {H H1 H2:Hp} {h h1 h2 h':Heap} {a x e:Addr} {o:HO}
def Un.any (u:Un fs ex H H1 h h1){b:Addr}{c:Obj}(q:h.get? b=some c)(n:H b=none)(d:b∉ex):∃ g,h1.get? b=some { c with slots:=g }:=by
  by_cases f:b∈fs
  · exact u.slot b c q n f d
  · exact⟨c.slots,u.keep b c q n f d⟩
def Un.trans (a:Un fs ex H H1 h h1)(b:Un fs ex H1 H2 h1 h2):Un fs ex H H2 h h2 where
  keep:=λc d q n i f=>b.keep c d (a.keep c d q n i f) (a.free c d q n f) i f
  slot:=λc d q n i f=>by obtain⟨s,g⟩:=a.slot c d q n i f;obtain⟨j,l⟩:=b.slot c _ g (a.free c d q n f) i f;exact⟨j,l⟩
  free:=λc d q n f=>by obtain⟨k,g⟩:=a.there c d q f;exact b.free c k g (a.free c d q n f) f
  there:=λc d q f=>by obtain⟨k,g⟩:=a.there c d q f;exact b.there c k g f
  tups:=λc xs q=>b.tups c xs (a.tups c xs q)
  frzs:=λc d xs q=>b.frzs c d xs (a.frzs c d xs q)
  tbls:=λc ps q=>by obtain⟨r,g⟩:=a.tbls c ps q;obtain⟨p,l⟩:=b.tbls c _ g;exact⟨r++p,by rw[l,Array.append_assoc]⟩
def Un.kept (k:∀ b u,h.get? b=some u→h'.get? b=some u):Un fs ex H H h h' :=
  ⟨λb c q _ _ _=>k b c q,λb c q _ _ _=>⟨c.slots,k b c q⟩,λ_ _ _ n _=>n,λb c q _=>⟨c,k b c q⟩,λ_ _ q=>q,λ_ _ _ q=>q,λ_ ps q=>⟨#[],by rw[q];simp⟩⟩
def Un.refl:Un fs ex H H h h:=Un.kept λ_ _ q=>q
def Un.laid (k:∀ b u,h.get? b=some u→h'.get? b=some u)(d:h.objs.size≤a)(c:H a=none):Un fs ex H (upd H a o) h h' where
  keep:=λb u q _ _ _=>k b u q
  slot:=λb u q _ _ _=>⟨u.slots,k b u q⟩
  free:=λb u q n _=>by rw[ag (Nat.ne_of_lt (Nat.lt_of_lt_of_le (hLq q) d))];exact n
  there:=λb u q _=>⟨u,k b u q⟩
  tups:=λb xs q=>by rw[ag (zad q c)];exact q
  frzs:=λb u xs q=>by rw[ag (zad q c)];exact q
  tbls:=λb ps q=>⟨#[],by rw[ag (zad q c),q];simp⟩
def Un.write (d:Mut (H x))(l:e=x∨H e=some (.own x))(k:∀ b u,b≠e→h.get? b=some u→h'.get? b=some u)(g:∃ u,h'.get? e=some u):Un fs ex H (upd H x o) h h':=by
  have i:∀ b,H b=none→b≠x:=λb n z=>by subst z;rw[n]at d;exact d
  have j:∀ b,H b=none→b≠e:=λb n z=>by
    subst z;rcases l with r | r
    · exact i b n r
    · rw[n]at r;cases r
  have f:∀ b u,H b=some u→¬Mut (some u)→b≠x:=λb u q nm z=>by subst z;rw[q]at d;exact nm d
  refine⟨λb u q n _ _=>k b u (j b n) q,λb u q n _ _=>⟨u.slots,k b u (j b n) q⟩,λb u q n _=>by rw[ag (i b n)];exact n,λb u q _=>?_,
    λb xs q=>by rw[ag (f b _ q λz=>z)];exact q,λb u xs q=>by rw[ag (f b _ q λz=>z)];exact q,λb ps q=>⟨#[],by rw[ag (f b _ q λz=>z),q];simp⟩⟩
  by_cases c:b=e
  · subst c;exact g
  · exact⟨u,k b u c q⟩
end
def trk (h:Heap)(H:Hp):List Addr:=(List.range h.objs.size).filter λa=>(H a).isSome
def ze4 (h:Heap)(H:Hp):Heap:=PySem.W.hideAll h (trk h H)
def zlV (h:Heap)(H:Hp):(ze4 h H).objs.size=h.objs.size:=PySem.W.hideAll_size _ _
def zm4 (e:h.get? b=some o)(n:H b=none):(ze4 h H).get? b=some o :=
  PySem.W.hideAll_get _ e λa=>by have q:(H b).isSome=true:=(List.mem_filter.mp a).2;rw[n]at q;simp at q
def znW (e:(ze4 h H).get? b=some o):h.get? b=some o∧H b=none:=by
  have a:h.get? b=some o:=PySem.W.of_hideAll (trk h H) e;refine⟨a,?_⟩;cases q:H b with
  | none=>rfl
  | some x =>
    have c:b∈trk h H:=List.mem_filter.mpr ⟨List.mem_range.mpr (hLq a),by simp [q]⟩;have z:(ze4 h H).get? b=none:=PySem.W.hideAll_none (trk h H) c;rw[z]at e;cases e
def zoi (g h:Heap)(L:Addr):List (Addr × Obj):=(List.range h.objs.size).filterMap λa=>if a=L∨(g.get? a).isSome=true then none else(h.get? a).map λo=>(a,o)
def rest (g h:Heap)(L d:Addr):List (Addr × Obj):=(zoi g h L).filter λp=>decide (p.1≠d)
structure Mod (K:PySem.W.Frag)(mg:Str→Option Value)(base:Heap):Prop where
  kin:K.In base
  glob:base.Ns mainGlobals mg
  blt:∃ mb,base.Ns builtinsNs mb∧∀ x:Str,x≠"__name__"→mb x=bootBuiltins x
  nolimit:base.NoLimit
structure Cx where
  prog:Program
  w:World
  K:PySem.W.Frag
  mg:Str→Option Value
  base:Heap
  A:Around
  N:List Str
  s₀:Shared
  H₀:Hp
  env:Env
  outer:List Env
  stack:List Env
  ex:List Addr
  fn:Str→Bool
  calm:Bool
  pn:List (Addr × Obj)
  xe:Value→Shared→Prop
def frs (l:List Env):List Addr:=l.filterMap (·.frame)
abbrev Cx.fs (X:Cx):List Addr:=frs X.outer
def Vis (sc:Scope)(x:Str):Prop:=sc.names.lookup x=some .local∨sc.names.lookup x=some .cell∨sc.names.lookup x=some .free
def Loc (sc:Scope)(x:Str):Prop:=sc.names.lookup x=some .local∨sc.names.lookup x=some .cell
def Look (env:Env)(h:Heap)(m:Str→Option Value)(x:Str)(u:Value):Prop :=
  (env.kindOf x=some .local∧m x=some u)∨((env.kindOf x=some .cell∨env.kindOf x=some .free)∧∃ c,env.cells.lookup x=some c∧h.IsCell c (some u))
structure Cx.Ok (X:Cx):Prop where
  mod:Mod X.K X.mg X.base
  kind:X.env.scope.kind=.function
  glob:X.env.globals=mainGlobals
  blt:X.env.builtins=builtinsNs
  above:X.s₀.heap.objs.size≤X.env.locals
  inj:∀ x y c,X.env.cells.lookup x=some c→X.env.cells.lookup y=some c→x=y
  has:∀ x,(X.env.kindOf x=some .cell∨X.env.kindOf x=some .free)→∃ c,X.env.cells.lookup x=some c
  cab:∀ x c,X.fn x=true→X.env.cells.lookup x=some c→X.s₀.heap.objs.size≤c
  hd:X.calm=true→X.A.handled=none
  frames:X.A.frames=some X.stack
  stk:X.stack=X.outer∨(X.stack=X.env :: X.outer∧X.env.frame=some X.env.locals)
  exf:∀ b∈X.ex,b≠X.env.locals∧∀ x c,X.env.cells.lookup x=some c→c≠b
  bs:∀ b o,X.base.get? b=some o→X.s₀.heap.get? b=some o∧X.H₀ b=none
  bsz:X.base.objs.size≤X.s₀.heap.objs.size
  noex:∀ b o,X.base.get? b=some o→b∉X.ex
  exfs:∀ b∈X.ex,b∉X.fs
  funs:X.s₀.heap.FunFrames X.base X.outer
  frf:∀ b∈X.fs,X.H₀ b=none
structure Inv (X:Cx)(pins:List (Addr × Obj))(σ:List (Option V))(H:Hp)(s:Shared):Prop where
  ok:X.Ok
  os:s.os=X.s₀.os
  bare:AllBare s.gens
  base:Un X.fs X.ex X.H₀ H X.s₀.heap s.heap
  loc:∃ m,s.heap.Ns X.env.locals m∧∀(i:Nat) (x:Str) (v:V),X.N[i]?=some x→σ[i]?=some (some v)→Vis X.env.scope x→∃ u,aY v u∧Look X.env s.heap m x u
  cell:∀ x c,X.env.cells.lookup x=some c→∃ v,s.heap.IsCell c v
  free:H X.env.locals=none
  freeC:∀ x c,X.env.cells.lookup x=some c→H c=none
  pin:∀ p∈X.pn++pins,s.heap.get? p.1=some p.2∧H p.1=none∧p.1≠X.env.locals∧p.1∉X.fs∧∀ v,p.2.data≠.cell v
  hok:HOk X.prog X.w H s.heap
  len:σ.length=X.N.length
section
variable {X:Cx} {pins:List (Addr × Obj)} {σ:List (Option V)} {H H':Hp} {s:Shared} {h':Heap}
def Cx.Ok.nofr (a:X.Ok){b:Addr}{o:Obj}(e:X.base.get? b=some o):b∉X.fs:=λc=>by have:=(a.funs.mem c).1;rw[e]at this;cases this
def Inv.bs (I:Inv X pins σ H s):∀ b o,X.base.get? b=some o→s.heap.get? b=some o∧H b=none:=λb o e =>
  ⟨I.base.keep b o (I.ok.bs b o e).1 (I.ok.bs b o e).2 (I.ok.nofr e) (I.ok.noex b o e),I.base.free b o (I.ok.bs b o e).1 (I.ok.bs b o e).2 (I.ok.noex b o e)⟩
def Inv.bk (I:Inv X pins σ H s):∀ b o,X.base.get? b=some o→s.heap.get? b=some o:=λb o e=>(I.bs b o e).1
def Inv.mod (I:Inv X pins σ H s):Mod X.K X.mg X.base:=I.ok.mod
def Inv.kIn (I:Inv X pins σ H s):X.K.In s.heap:=I.ok.mod.kin.keeps I.bk
def Inv.fr (I:Inv X pins σ H s):∃ m,Fr X.base X.env.locals s.heap m :=
  let ⟨m,hn,_⟩:=I.loc
  ⟨m,hn,I.bk,Nat.le_trans I.ok.bsz I.ok.above⟩
def Inv.lt (I:Inv X pins σ H s):X.env.locals < s.heap.objs.size:=let ⟨_,hn,_⟩:=I.loc;hn.lt
def Inv.sz (I:Inv X pins σ H s):X.s₀.heap.objs.size≤s.heap.objs.size:=Nat.le_trans I.ok.above (Nat.le_of_lt I.lt)
def Inv.nofs (I:Inv X pins σ H s){a:Addr}(h:s.heap.objs.size≤a):a∉X.fs:=λc=>by obtain⟨_,o,b,_⟩:=I.ok.funs.mem c;exact absurd (Nat.lt_of_lt_of_le (hLq b) (Nat.le_trans I.sz h)) (Nat.lt_irrefl _)
def Inv.cne (I:Inv X pins σ H s):∀ x c,X.env.cells.lookup x=some c→c≠X.env.locals:=λx c e z=>by obtain⟨v,o,d,f⟩:=I.cell x c e;obtain⟨m,⟨g,es,h,a,b,_⟩,_⟩:=I.loc;rw[z,a]at d;cases d;rw[b]at f;cases f
def Inv.funs (I:Inv X pins σ H s):s.heap.FunFrames X.base X.outer:=by
  have d:∀(l:List Env),(∀ b∈frs l,b∈X.fs)→X.s₀.heap.FunFrames X.base l→s.heap.FunFrames X.base l:=by
    intro l
    induction l with
    | nil=>intro _ _;trivial
    | cons env r f =>
      intro hs j;obtain⟨k,⟨L,o,hf,i,h,n⟩,g⟩:=j;have c:L∈X.fs:=hs L (by unfold frs;rw[List.filterMap_cons,hf];exact List.mem_cons_self);obtain⟨p,e⟩:=I.base.slot L o h (I.ok.frf L c) c λz=>I.ok.exfs L z c;exact⟨k,⟨L,_,hf,i,e,n⟩,f (λb a=>hs b (by unfold frs;rw[List.filterMap_cons,hf];exact List.mem_cons_of_mem _ a)) g⟩
  exact d X.outer (λ_ a=>a) I.ok.funs
def Inv.stack (I:Inv X pins σ H s):s.heap.FunFrames X.base X.stack:=by
  rcases I.ok.stk with e | ⟨e,hf⟩
  · rw[e];exact I.funs
  · rw[e];obtain⟨m,a,_⟩:=I.loc;refine .cons (by rw[I.ok.kind];decide) hf a ?_ I.funs;exact Heap.get?_none_of_le (Nat.le_trans I.ok.bsz I.ok.above)
def Inv.stkSub (I:Inv X pins σ H s):∀ b∈frs X.stack,b∈X.env.locals :: X.fs:=λb a=>by
  rcases I.ok.stk with e | ⟨e,hf⟩
  · rw[e]at a;exact List.mem_cons_of_mem _ a
  · rw[e]at a;unfold frs at a;rw[List.filterMap_cons,hf]at a;exact a
def Inv.stkFree (I:Inv X pins σ H s):∀ b∈frs X.stack,H b=none:=λb a=>by
  rcases List.mem_cons.mp (I.stkSub b a) with e | a
  · rw[e];exact I.free
  · obtain⟨_,o,c,_⟩:=I.ok.funs.mem a;exact I.base.free b o c (I.ok.frf b a) λz=>I.ok.exfs b z a
def Inv.step {g':Array GenState}{t':Nat}{d':Drawn}{ch:List Addr}(I:Inv X pins σ H s)
    (j:∀ b∈ch,(b∈X.ex∨X.s₀.heap.objs.size≤b)∧b≠X.env.locals∧(∀ x c,X.env.cells.lookup x=some c→c≠b)∧∀ p∈X.pn++pins,p.1≠b)
    (h:∀ b o,b≠X.env.locals→b∉X.fs→b∉ch→s.heap.get? b=some o→H b=none→h'.get? b=some o)
    (B:∀ b o,b≠X.env.locals→b∈X.fs→b∉ch→s.heap.get? b=some o→H b=none→∃ P,h'.get? b=some { o with slots:=P })(f:∀ b o,b∉ch→s.heap.get? b=some o→H b=none→H' b=none)
    (C:∀ b o,b∉ch→s.heap.get? b=some o→∃ J,h'.get? b=some J)
    (F:∀ b xs,H b=some (.tup xs)→H' b=some (.tup xs))(M:∀ b o u,H b=some (.frz o u)→H' b=some (.frz o u))(G:∀ b ps,H b=some (.tbl ps)→∃ L,H' b=some (.tbl (ps++L)))
    (ns:∀ m,s.heap.Ns X.env.locals m→h'.Ns X.env.locals m)(Q:HOk X.prog X.w H' h')(hg:AllBare g') :
    Inv X pins σ H' { s with heap:=h',gens:=g',drawn:=d',toks:=t' }:=by
  have K:∀ b o,X.s₀.heap.get? b=some o→b≠X.env.locals:=λb o e=>Nat.ne_of_lt (Nat.lt_of_lt_of_le (hLq e) I.ok.above);have y:∀ b o,X.s₀.heap.get? b=some o→b∉X.ex→b∉ch:=λb o e a D=>by
    rcases(j b D).1 with z | z
    · exact a z
    · exact absurd (Nat.lt_of_lt_of_le (hLq e) z) (Nat.lt_irrefl _)
  have t:∀ x c,X.env.cells.lookup x=some c→∀ v,s.heap.IsCell c v→h'.IsCell c v:=λx c e v ⟨o,E,R⟩=>by
    have g:c∉ch:=λz=>(j c z).2.2.1 x c e rfl;by_cases U:c∈X.fs
    · obtain⟨P,q⟩:=B c o (I.cne x c e) U g E (I.freeC x c e);exact⟨_,q,R⟩
    · exact⟨o,h c o (I.cne x c e) U g E (I.freeC x c e),R⟩
  refine⟨I.ok,I.os,hg,⟨λb o e n D a=>?_,λb o e n D a=>?_,λb o e n a=>?_,λb o e a=>?_,λb xs e=>F b xs (I.base.tups b xs e),λb o xs e=>M b o xs (I.base.frzs b o xs e),λb ps e=>?_⟩,?_,λx c e=>?_,?_,λx c e=>?_,λp T=>?_,Q,I.len⟩
  · exact h b o (K b o e) D (y b o e a) (I.base.keep b o e n D a) (I.base.free b o e n a)
  · obtain⟨P,A⟩:=I.base.slot b o e n D a;obtain⟨O,N⟩:=B b _ (K b o e) D (y b o e a) A (I.base.free b o e n a);exact⟨O,N⟩
  · obtain⟨J,A⟩:=I.base.there b o e a;exact f b J (y b o e a) A (I.base.free b o e n a)
  · obtain⟨J,A⟩:=I.base.there b o e a;exact C b J (y b o e a) A
  · obtain⟨Y,A⟩:=I.base.tbls b ps e;obtain⟨W,N⟩:=G b _ A;exact⟨Y++W,by rw[N,Array.append_assoc]⟩
  · obtain⟨m,Z,hl⟩:=I.loc;refine⟨m,ns m Z,λi x v A N e3=>?_⟩;obtain⟨u,r,l⟩:=hl i x v A N e3;refine⟨u,r,?_⟩;rcases l with l | ⟨k,c,e,z⟩
    · exact .inl l
    · exact .inr ⟨k,c,e,t x c e _ z⟩
  · obtain⟨v,z⟩:=I.cell x c e;exact⟨v,t x c e v z⟩
  · obtain⟨m,⟨o,_,_,E,_⟩,_⟩:=I.loc;exact f _ o (λz=>(j _ z).2.1 rfl) E I.free
  · obtain⟨v,o,E,R⟩:=I.cell x c e;exact f c o (λz=>(j c z).2.2.1 x c e rfl) E (I.freeC x c e)
  · obtain⟨e,n,S,nf,d⟩:=I.pin p T;have g:p.1∉ch:=λz=>(j p.1 z).2.2.2 p T rfl;exact⟨h p.1 p.2 S nf g e n,f p.1 p.2 g e n,S,nf,d⟩
def Inv.un {t':Nat}(I:Inv X pins σ H s)(u:Un X.fs [] H H' s.heap h')(c:HOk X.prog X.w H' h'):Inv X pins σ H' { s with heap:=h',toks:=t' }:=by
  obtain⟨m,⟨o,es,t,h,r⟩,_⟩:=id I.loc;obtain⟨l,k⟩:=u.any h I.free (by simp);exact I.step (g':=s.gens) (d':=s.drawn) (ch:=[]) (λ_ z=>nomatch z) (λb o _ d _ e n=>u.keep b o e n d (by simp)) (λb o _ d _ e n=>u.slot b o e n d (by simp)) (λb o _ e n=>u.free b o e n (by simp)) (λb o _ e=>u.there b o e (by simp)) u.tups u.frzs u.tbls (λq j=>by obtain⟨p,f,g,a,i⟩:=j;rw[h]at a;cases a;exact⟨_,f,g,k,i⟩) c I.bare
def Inv.call {g':Array GenState}{t':Nat}{d':Drawn}{ch:List Addr}(I:Inv X pins σ H s)(u:Un (frs X.stack) ch H H' s.heap h')(g:HOk X.prog X.w H' h')(t:AllBare g')
    (f:∀ b∈ch,(b∈X.ex∨X.s₀.heap.objs.size≤b)∧b≠X.env.locals∧(∀ x c,X.env.cells.lookup x=some c→c≠b)∧∀ p∈X.pn++pins,p.1≠b) :
    Inv X pins σ H' { s with heap:=h',gens:=g',drawn:=d',toks:=t' }:=by
  obtain⟨m,⟨o,es,C,k,r⟩,_⟩:=id I.loc;obtain⟨y,h⟩:=u.any k I.free λz=>(f _ z).2.1 rfl;exact I.step (ch:=ch) f (λb o h v a e n=>u.keep b o e n (λz=>(List.mem_cons.mp (I.stkSub b z)).elim h v) a) (λb o _ _ a e n=>u.any e n a) (λb o a e n=>u.free b o e n a) (λb o a e=>u.there b o e a) u.tups u.frzs u.tbls (λB q=>by obtain⟨A,i,j,d,l⟩:=q;rw[k]at d;cases d;exact⟨_,i,j,h,l⟩) g t
def Inv.turned {t':Nat}{it:Addr}(I:Inv X pins σ H s)(k:∀ b o,b≠it→s.heap.get? b=some o→h'.get? b=some o)(h:H it=none)(f:it≠X.env.locals)
    (w:it∈X.ex∨X.s₀.heap.objs.size≤it)(t:∀ x c,X.env.cells.lookup x=some c→c≠it)(l:∀ p∈X.pn++pins,p.1≠it):Inv X pins σ H { s with heap:=h',toks:=t' }:=by
  have d:∀ b u,H b=some u→b≠it:=λb u e z=>by rw[z,h]at e;cases e
  refine I.step (g':=s.gens) (d':=s.drawn) (ch:=[it]) (λb j=>?_) (λb o _ _ a e _=>k b o (λz=>a (by simp [z])) e) (λb o _ _ a e _=>⟨o.slots,k b o (λz=>a (by simp [z])) e⟩) (λ_ _ _ _ n=>n)
    (λb o a e=>⟨o,k b o (λz=>a (by simp [z])) e⟩) (λ_ _ e=>e) (λ_ _ _ e=>e) (λb ps e=>⟨#[],by rw[e];simp⟩) (λm i=>?_) (λb u e=>?_) I.bare
  · have e:b=it:=by simpa using j
    subst e;exact⟨w,f,t,l⟩
  · obtain⟨o,es,y,g,r⟩:=i;exact⟨o,es,y,k _ o (Ne.symm f) g,r⟩
  · refine(I.hok b u e).stay (λc v a q=>k c v ?_ q) (λ_ q=>q) λ_ _ q=>q;rcases a with z | z
    · rw[z];exact d b u e
    · exact d c _ z
def Inv.tok (I:Inv X pins σ H s)(t:Nat):Inv X pins σ H { s with toks:=t }:=I.un (h':=s.heap) (t':=t) Un.refl I.hok
def Inv.kept (I:Inv X pins σ H s)(k:∀ b u,s.heap.get? b=some u→h'.get? b=some u):Inv X pins σ H { s with heap:=h',toks:=t' }:=I.un (Un.kept k) (I.hok.kept k)
def Inv.laid (I:Inv X pins σ H s)(k:∀ b u,s.heap.get? b=some u→h'.get? b=some u)(d:s.heap.objs.size≤a)(c:zaz X.prog X.w (upd H a o) h' a o) :
    Inv X pins σ (upd H a o) { s with heap:=h',toks:=t' }:=I.un (Un.laid k d (I.hok.fresh d)) (I.hok.laid k d c)
def Inv.write (I:Inv X pins σ H s)(d:Mut (H x))(f:e=x∨H e=some (.own x))(k:∀ b u,b≠e→s.heap.get? b=some u→h'.get? b=some u)(a:∃ u,h'.get? e=some u)
    (c:zaz X.prog X.w (upd H x o) h' x o):Inv X pins σ (upd H x o) { s with heap:=h',toks:=t' }:=I.un (Un.write d f k a) (I.hok.write d f k a c)
def Inv.pins_of (I:Inv X pins σ H s)(h:∀ p∈pins',s.heap.get? p.1=some p.2∧H p.1=none∧p.1≠X.env.locals∧p.1∉X.fs∧∀ v,p.2.data≠.cell v):Inv X pins' σ H s :=
  ⟨I.ok,I.os,I.bare,I.base,I.loc,I.cell,I.free,I.freeC,λp a=>(mPq a).elim (λz=>I.pin p (List.mem_append_left _ z)) (h p),I.hok,I.len⟩
def zjc {N:List Str}(c:N.Nodup){i j:Nat}{x:Str}(a:N[i]?=some x)(b:N[j]?=some x):i=j:=by obtain⟨g,e⟩:=gEq a;obtain⟨f,d⟩:=gEq b;exact(List.getElem_inj c).mp (e.trans d.symm)
def zfJ {M:Model}{A:Around}{E:Value→Shared→Prop}{i:Nat}{x:Str}{v:V}{u:Value}{Q:Unit→Shared→Prop}(I:Inv X pins σ H s)(hN:X.N.Nodup)(R:X.N[i]?=some x)(t:Loc X.env.scope x)(r:aY v u)
    (h:∀ s',Inv X pins (σ.set i (some v)) H s'→(∃ a,Heap.SameBut a s.heap s'.heap∧(a=X.env.locals∨X.env.cells.lookup x=some a))→Q () s')(hf:X.fn x=true∨X.env.scope.names.lookup x=some .local:=by first | exact .inl rfl | exact .inr rfl | assumption):wpAny M A (storeName X.env x u) Q E s:=by
  obtain⟨m,hn,hl⟩:=id I.loc;have S:(X.env.scope.kind == .class||(X.env.scope.kind == .module&&X.env.locals != X.env.globals))=false:=by rw[I.ok.kind];rfl
  have F:i < σ.length:=by rw[I.len];exact(gEq R).1
  have L:=I.cne;have f:∀ {a:Addr} {h':Heap},(∃ o,s.heap.get? a=some o∧H a=none)→Heap.SameBut a s.heap h'→HOk X.prog X.w H h':=λ{a h'} ha hs b ob e=>by
    obtain⟨_,_,B⟩:=ha;refine(I.hok b ob e).stay (λc W l q=>(hs.2 c ?_).trans q) (λ_ q=>q) λ_ _ q=>q;rintro rfl;rcases l with rfl | l
    · rw[B]at e;cases e
    · rw[B]at l;cases l
  rcases t with D | D
  · refine wpAny_storeName_local D hn (λh' hn' hs=>?_) S;obtain⟨oL,_,_,hoL,_⟩:=id hn;refine h _ ⟨I.ok,I.os,I.bare,⟨λb o e n K t=>?_,λb o e n K t=>?_,I.base.free,λb o e t=>?_,I.base.tups,I.base.frzs,I.base.tbls⟩,⟨_,hn',λj y v' g C e3=>?_⟩,λy c e=>?_,I.free,I.freeC,λp hp=>?_,f ⟨oL,hoL,I.free⟩ hs,by simpa using I.len⟩ ⟨_,hs,.inl rfl⟩
    · exact(hs.2 b (Nat.ne_of_lt (Nat.lt_of_lt_of_le (hLq e) I.ok.above))).trans (I.base.keep b o e n K t)
    · obtain⟨sl,g⟩:=I.base.slot b o e n K t;exact⟨sl,(hs.2 b (Nat.ne_of_lt (Nat.lt_of_lt_of_le (hLq e) I.ok.above))).trans g⟩
    · obtain⟨o',g⟩:=I.base.there b o e t;exact⟨o',(hs.2 b (Nat.ne_of_lt (Nat.lt_of_lt_of_le (hLq e) I.ok.above))).trans g⟩
    · by_cases G:j=i
      · subst G;rw[R]at g;cases g;rw[List.getElem?_set_self F]at C;cases C;exact⟨u,r,.inl ⟨D,by simp⟩⟩
      · rw[List.getElem?_set_ne (Ne.symm G)]at C;obtain⟨u',r',q⟩:=hl j y v' g C e3;refine⟨u',r',?_⟩;rcases q with ⟨k,e⟩ | ⟨k,c,e,z⟩
        · refine .inl ⟨k,?_⟩;have:y≠x:=λe=>G (zjc hN g (e ▸ R));simp [this,e]
        · exact .inr ⟨k,c,e,z.sameBut hs (L y c e)⟩
    · obtain⟨W,z⟩:=I.cell y c e;exact⟨W,z.sameBut hs (L y c e)⟩
    · obtain⟨e,n,Y,nf,d⟩:=I.pin p hp;exact⟨(hs.2 p.1 Y).trans e,n,Y,nf,d⟩
  · have J:X.fn x=true:=by
      rcases hf with z | z
      · exact z
      · rw[z]at D;cases D
    obtain⟨c,l⟩:=I.ok.has x (.inl D);obtain⟨W,z⟩:=I.cell x c l;refine wpAny_storeName_cell I.ok.kind D l z (λh' U hs=>?_);obtain⟨oc,P,O⟩:=id z;refine h { s with heap:=h' } ⟨I.ok,I.os,I.bare,⟨λb o e n K t=>?_,λb o e n K t=>?_,I.base.free,λb o e t=>?_,I.base.tups,I.base.frzs,I.base.tbls⟩,⟨m,hn.sameBut hs (Ne.symm (L x c l)),λj y v' g C e3=>?_⟩,λy Z e=>?_,I.free,I.freeC,λp hp=>?_,f ⟨oc,P,I.freeC x c l⟩ hs,by simpa using I.len⟩ ⟨c,hs,.inr l⟩
    · exact(hs.2 b (Nat.ne_of_lt (Nat.lt_of_lt_of_le (hLq e) (I.ok.cab x c J l)))).trans (I.base.keep b o e n K t)
    · obtain⟨sl,g⟩:=I.base.slot b o e n K t;exact⟨sl,(hs.2 b (Nat.ne_of_lt (Nat.lt_of_lt_of_le (hLq e) (I.ok.cab x c J l)))).trans g⟩
    · obtain⟨o',g⟩:=I.base.there b o e t;exact⟨o',(hs.2 b (Nat.ne_of_lt (Nat.lt_of_lt_of_le (hLq e) (I.ok.cab x c J l)))).trans g⟩
    · by_cases G:j=i
      · subst G;rw[R]at g;cases g;rw[List.getElem?_set_self F]at C;cases C;exact⟨u,r,.inr ⟨.inl D,c,l,U⟩⟩
      · rw[List.getElem?_set_ne (Ne.symm G)]at C;obtain⟨u',r',q⟩:=hl j y v' g C e3;refine⟨u',r',?_⟩;rcases q with q | ⟨k,Z,e,z'⟩
        · exact .inl q
        · refine .inr ⟨k,Z,e,z'.sameBut hs ?_⟩;rintro rfl;exact G (zjc hN g (I.ok.inj _ _ _ e l ▸ R))
    · by_cases T:Z=c
      · subst T;exact⟨_,U⟩
      · obtain⟨w2,z2⟩:=I.cell y Z e;exact⟨w2,z2.sameBut hs T⟩
    · obtain⟨e,n,Y,nf,d⟩:=I.pin p hp;refine⟨(hs.2 p.1 ?_).trans e,n,Y,nf,d⟩;intro q;rw[q,P]at e;have q':oc=p.2:=Option.some.inj e;exact d W (by rw[←q'];exact O)
def zfb (I:Inv X pins σ H s)(c:X.N.Nodup)(b:X.N[i]?=some x)(a:Loc X.env.scope x)(r:aY v u)
    (h:∀ s',Inv X pins (σ.set i (some v)) H s'→Q () s')(hf:X.fn x=true∨X.env.scope.names.lookup x=some .local:=by first | exact .inl rfl | exact .inr rfl | assumption):wpAny M A (storeName X.env x u) Q E s :=
  zfJ I c b a r (λs' d _=>h s' d) hf
def Inv.call' (I:Inv X pins σ H s)(g:s'.os=s.os)(u:Un (frs X.stack) ch H H' s.heap s'.heap)(a:HOk X.prog X.w H' s'.heap)(h:AllBare s'.gens)
    (d:∀ b∈ch,(b∈X.ex∨X.s₀.heap.objs.size≤b)∧b≠X.env.locals∧(∀ x c,X.env.cells.lookup x=some c→c≠b)∧∀ p∈X.pn++pins,p.1≠b):Inv X pins σ H' s':=by obtain⟨h',g',d',t',f⟩:=s';have e:f=s.os:=g;subst e;exact I.call (g':=g') (t':=t') (d':=d') u a h d
end
abbrev XK:=Value→Option Addr→Hp→Prop
abbrev St:=List (Option V)
abbrev VK:=V→Hp→Prop
abbrev TE:=St→Hp→VK→Prop
abbrev TT:=St→Hp→(Bool→Hp→Prop)→Prop
abbrev TA:=St→Hp→(List V→Hp→Prop)→Prop
structure zcW where
  nx:St→Hp→Prop
  rt:VK
  bk:St→Hp→Prop:=λ_ _=>False
  ct:St→Hp→Prop:=λ_ _=>False
abbrev TS:=zcW→St→Hp→Prop
def EP (X:Cx)(a:List (Addr × Obj))(b:St)(Q:VK)(u:Value)(s':Shared):Prop:=∃ v H',Inv X a b H' s'∧aY v u∧Q v H'
def TP (X:Cx)(a:List (Addr × Obj))(c:St)(Q:Bool→Hp→Prop)(b:Bool)(s':Shared):Prop:=∃ H',Inv X a c H' s'∧Q b H'
def AP (X:Cx)(a:List (Addr × Obj))(b:St)(Q:List V→Hp→Prop)(us:List Value)(s':Shared):Prop:=∃ vs H',Inv X a b H' s'∧aQ vs us∧Q vs H'
def SP (X:Cx)(b:List (Addr × Obj))(D:zcW)(f:Flow)(s':Shared):Prop :=
  match f with
  | .next=>∃ a H',Inv X b a H' s'∧D.nx a H'
  | .brk=>∃ a H',Inv X b a H' s'∧D.bk a H'
  | .cont=>∃ a H',Inv X b a H' s'∧D.ct a H'
  | .ret u=>∃ v a H',Inv X b a H' s'∧aY v u∧D.rt v H'
def PE (X:Cx)(e:Expr)(t:TE):Prop :=
  ∀(a:List (Addr × Obj)) (s:Shared) (b:St) (H:Hp) (Q:VK),Inv X a b H s→t b H Q→wpAny (model X.prog X.w) X.A (eval e X.env) (EP X a b Q) X.xe s
def PT (X:Cx)(e:Expr)(t:TT):Prop :=
  ∀(a:List (Addr × Obj)) (s:Shared) (b:St) (H:Hp) (Q:Bool→Hp→Prop),Inv X a b H s→t b H Q→wpAny (model X.prog X.w) X.A (isTrue e X.env (eval e X.env)) (TP X a b Q) X.xe s
def PW (X:Cx)(e:Expr)(t:TT):Prop :=
  ∀(b:Sem Value) (a:List (Addr × Obj)) (s:Shared) (c:St) (H:Hp) (Q:Bool→Hp→Prop),Inv X a c H s→t c H Q→wpAny (model X.prog X.w) X.A (isTrue e X.env b) (TP X a c Q) X.xe s
def PW.pt (h:PW X e t):PT X e t:=h _
def PA (X:Cx)(es:List Expr)(t:TA):Prop :=
  ∀(c:Pos) (a:List (Addr × Obj)) (s:Shared) (b:St) (H:Hp) (Q:List V→Hp→Prop),Inv X a b H s→t b H Q→wpAny (model X.prog X.w) X.A (spliced (backTo c (starEach es X.env))) (AP X a b Q) X.xe s
def PS (X:Cx)(st:Stmt)(t:TS):Prop :=
  ∀(a:List (Addr × Obj)) (s:Shared) (b:St) (H:Hp) (D:zcW),Inv X a b H s→t D b H→wpAny (model X.prog X.w) X.A (exec st X.env) (SP X a D) X.xe s
def PSs (X:Cx)(st:List Stmt)(t:TS):Prop :=
  ∀(a:List (Addr × Obj)) (s:Shared) (b:St) (H:Hp) (D:zcW),Inv X a b H s→t D b H→wpAny (model X.prog X.w) X.A (execs st X.env) (SP X a D) X.xe s
def thn (h:wpAny M A t Q E s)(b:∀ a s,Q a s→Q' a s):wpAny M A t Q' E s:=wpAny_mono h b λ_ _ x=>x
section
variable {X:Cx}
inductive zfz (i:Nat):TE|m{σ H Q} v:σ[i]?=some (some v)→Q v H→zfz i σ H Q
def tC (v:V):TE:=λ_ H Q=>Q v H
def pe_var (w:X.N[i]?=some x)(o:Vis X.env.scope x)(g:(x == ("__debug__":Str))=false:=by decide)(j:(x == ("__classdict__":Str))=false:=by decide):PE X (.Name x pos) (zfz i):=by
  intro f s n H Q I h;obtain⟨v,e,h⟩:=h;obtain⟨m,p,t⟩:=I.loc;obtain⟨u,r,l⟩:=t i x v w e o;have d:EP X f n Q u s:=⟨v,H,I,r,h⟩;rcases l with ⟨b,q⟩ | ⟨b,c,k,a⟩
  · exact wpAny_Name (wpAny_loadName_local I.ok.kind b p q d) g
  · rcases b with b | b
    · exact wpAny_Name (wpAny_loadName_cell I.ok.kind b k a d) g
    · exact wpAny_Name (wpAny_loadName_free I.ok.kind b k a d j) g
def ai:PE X (.Constant (.int i) j pos) (tC (.int i)):=λ_ _ _ H _ I h=>wpAny_Constant_int ⟨.int i,H,I.tok _,⟨_,rfl⟩,h⟩
def za8:PE X (.Constant (.bool b) j pos) (tC (.bl b)):=λ_ _ _ H _ I h=>Constant_bool ⟨.bl b,H,I,rfl,h⟩
def zcc:PE X (.Constant .none j pos) (tC .non):=λ_ _ _ H _ I h=>Constant_none ⟨.non,H,I,rfl,h⟩
def zaU:PE X (.Constant (.str x) j pos) (tC (.str x)):=λ_ _ _ H _ I h=>Calls.Constant_str ⟨.str x,H,I.tok _,⟨_,rfl⟩,h⟩
def Gl (X:Cx)(x:Str):Prop:=X.env.kindOf x=some .globalImplicit
def zc4 (I:Inv X pins σ H s)(b:Gl X x)(a:X.mg x=some u)(h:Q u s)
    (c:(x == ("__debug__":Str))=false:=by decide):wpAny (model X.prog X.w) X.A (eval (.Name x pos) X.env) Q E s :=
  Calls.Name_function_global I.ok.kind b (Calls.loadGlobal_global (by rw[I.ok.glob];exact I.mod.glob.keeps I.bk) a h) c
def zbU (I:Inv X pins σ H s)(d:Gl X x)(c:X.mg x=none)(a:bootBuiltins x=some u)(h:Q u s)
    (b:x≠"__name__":=by decide)(e:(x == ("__debug__":Str))=false:=by decide):wpAny (model X.prog X.w) X.A (eval (.Name x pos) X.env) Q E s:=by obtain⟨i,g,f⟩:=I.mod.blt;exact Calls.Name_function_global I.ok.kind d (Calls.loadGlobal_builtin (by rw[I.ok.glob];exact I.mod.glob.keeps I.bk) c (by rw[I.ok.blt];exact g.keeps I.bk) ((f x b).trans a) h) e
def zaR (b:Gl X x)(a:X.mg x=some u)(r:aY v u)(c:(x == ("__debug__":Str))=false:=by decide):PE X (.Name x pos) (tC v) :=
  λ_ _ _ H _ I h=>zc4 I b a ⟨v,H,I,r,h⟩ c
def znJ (d:Gl X x)(c:X.mg x=none)(a:bootBuiltins x=some u)(r:aY v u)(b:x≠"__name__":=by decide)(e:(x == ("__debug__":Str))=false:=by decide):PE X (.Name x pos) (tC v) :=
  λ_ _ _ H _ I h=>zbU I d c a ⟨v,H,I,r,h⟩ b e
variable {a b:Expr} {ta tb:TE} {pos:Pos}
def PC (X:Cx)(g:CmpOp)(a b:Expr)(t:TE):Prop :=
  ∀(c:List (Addr × Obj)) (s:Shared) (f:St) (H:Hp) (Q:VK),Inv X c f H s→t f H Q →
    wpAny (model X.prog X.w) X.A (eval a X.env) (λv e=>wpAny (model X.prog X.w) X.A (eval b X.env) (λu d=>wpAny (model X.prog X.w) X.A (compareOp g v u) (EP X c f Q) X.xe d) X.xe e) X.xe s
inductive isB:V→Hp→(Bool→Hp→Prop)→Prop|m{x H Q} c:x=.bl c→Q c H→isB x H Q
def tB (t:TE):TT:=λc H Q=>t c H λx d=>isB x d Q
def zcM (h:PC X op a b t)(f:behindInMarks op b=false:=by first | exact nobehind _ (by decide) (by decide) | rfl):PT X (.Compare a [op] [b] pos) (tB t):=by intro e s g H Q I j;refine wpAny_isTrue_Compare1 (thn (h e s g H _ I j) λv r f=>thn f λu p k=>thn k λc o ⟨x,n,l,i,q1⟩=>?_) f;obtain⟨d,rfl,q⟩:=q1;cases i;exact wpAny_truthy_bool ⟨n,l,q⟩
def zcr (h:PE X e t)(k:∀ c,isTrue e X.env c=(do let v ←c;standAt e.pos;holding [v] (truthy v)):=by intro _;rfl):PT X e (tB t):=by intro f s g H Q I j;refine isTrue_plain (thn (h f s g H _ I j) λv o ⟨x,n,l,i,q1⟩=>?_) (k _);obtain⟨d,rfl,q⟩:=q1;cases i;exact wpAny_truthy_bool ⟨n,l,q⟩
variable {tA tB':TT} {rest:List Expr}
def tAnd (t u:TT):TT:=λd H Q=>t d H λc e=>if c=true then u d e Q else Q false e
def tOr (t u:TT):TT:=λd H Q=>t d H λc e=>if c=true then Q true e else u d e Q
def tNot (t:TT):TT:=λd H Q=>t d H λc e=>Q (!c) e
def zgk (g:PT X a tA):PW X (.BoolOp .And [a] pos) tA:=by
  intro i d s f H Q I h;refine isTrue_and (thn (g d s f H Q I h) λc j e=>?_);cases c with
  | true=>exact isTrue_and_nil e
  | false=>exact e
def zcb (g:PT X a tA):PW X (.BoolOp .Or [a] pos) tA:=by
  intro i d s f H Q I h;refine isTrue_or (thn (g d s f H Q I h) λc j e=>?_);cases c with
  | false=>exact isTrue_or_nil e
  | true=>exact e
def zhd (l:PT X a tA)(k:PW X (.BoolOp .And (b :: rest) pos) tB'):PW X (.BoolOp .And (a :: b :: rest) pos) (tAnd tA tB'):=by
  intro i d s e H Q I h;refine isTrue_and (thn (l d s e H _ I h) λc j ⟨g,f,q1⟩=>?_);cases c with
  | true=>exact k i d j e g Q f q1
  | false=>exact⟨g,f,q1⟩
def zcB (l:PT X a tA)(k:PW X (.BoolOp .Or (b :: rest) pos) tB'):PW X (.BoolOp .Or (a :: b :: rest) pos) (tOr tA tB'):=by
  intro i d s e H Q I h;refine isTrue_or (thn (l d s e H _ I h) λc j ⟨g,f,q1⟩=>?_);cases c with
  | true=>exact⟨g,f,q1⟩
  | false=>exact k i d j e g Q f q1
def zei (f:PT X a tA):PT X (.UnaryOp .Not a pos) (tNot tA):=by intro d s e H Q I h;exact isTrue_not (f d s e H (λc g=>Q (!c) g) I h)
def tAndV (ta tb:TE):TE:=λd H Q=>ta d H λx e=>∃ c,x=.bl c∧if c=true then tb d e Q else Q (.bl false) e
def tOrV (ta tb:TE):TE:=λd H Q=>ta d H λx e=>∃ c,x=.bl c∧if c=true then Q (.bl true) e else tb d e Q
def zeQ (h:PE X a t):PE X (.BoolOp op [a] pos) t:=λc s d H Q I e=>BoolOp_one (h c s d H Q I e)
def zej (l:PE X a ta)(k:PE X (.BoolOp .And (b :: rest) pos) tb):PE X (.BoolOp .And (a :: b :: rest) pos) (tAndV ta tb):=by
  intro d s e H Q I h;refine BoolOp_and (thn (l d s e H _ I h) λv i ⟨x,g,f,j,q1⟩=>?_);obtain⟨c,rfl,q1⟩:=q1;cases j;refine wpAny_truthy_bool ?_;cases c with
  | true=>exact k d i e g Q f q1
  | false=>exact⟨.bl false,g,f,rfl,q1⟩
def pe_or (l:PE X a ta)(k:PE X (.BoolOp .Or (b :: rest) pos) tb):PE X (.BoolOp .Or (a :: b :: rest) pos) (tOrV ta tb):=by
  intro d s e H Q I h;refine BoolOp_or (thn (l d s e H _ I h) λv i ⟨x,g,f,j,q1⟩=>?_);obtain⟨c,rfl,q1⟩:=q1;cases j;refine wpAny_truthy_bool ?_;cases c with
  | false=>exact k d i e g Q f q1
  | true=>exact⟨.bl true,g,f,rfl,q1⟩
def tIf (t:TT)(ta tb:TE):TE:=λd H Q=>t d H λc e=>if c=true then ta d e Q else tb d e Q
def zct (k:PT X c tA)(n:PE X a ta)(l:PE X b tb):PE X (.IfExp c a b pos) (tIf tA ta tb):=by
  intro e s f H Q I h;refine wpAny_IfExp (thn (k e s f H _ I h) λd g ⟨j,i,q1⟩=>?_);cases d with
  | true=>exact n e g f j Q i q1
  | false=>exact l e g f j Q i q1
end
def SqL (K:PySem.W.Frag)(H:Hp)(a:Addr)(xs:List V):Prop :=
  Rd H a (.lst xs) ∨
    ∃(o:Obj) (b:Array Value) (n:Nat),K.lookup a=some o∧o.cls=.type "list"∧o.dict=none∧o.data=.seq b n∧b.size≤sizeLine∧aQ xs b.toList
def SqT (K:PySem.W.Frag)(H:Hp)(a:Addr)(xs:List V):Prop :=
  Rd H a (.tup xs) ∨
    ∃(o:Obj) (b:Array Value) (n:Nat),K.lookup a=some o∧(o.cls,o.dict)=(Value.type "tuple",none)∧o.data=.seq b n∧b.size≤sizeLine∧aQ xs b.toList
def absV:Value→Option V
  | .none=>some .non
  | .bool b=>some (.bl b)
  | .int i _=>some (.int i)
  | .str x _=>some (.str x)
  | .bytes b _=>some (.byt b)
  | .float b _=>some (.flt b)
  | .ref a=>some (.ref a)
  | .type n=>some (.ty n)
  | _=>none
def aY.abs (r:aY x u):absV u=some x:=by
  cases x with
  | non=>cases r;rfl
  | bl _=>cases r;rfl
  | int _=>obtain⟨t,rfl⟩:=r;rfl
  | str _=>obtain⟨t,rfl⟩:=r;rfl
  | byt _=>obtain⟨t,rfl⟩:=r;rfl
  | flt _=>obtain⟨t,rfl⟩:=r;rfl
  | ref _=>cases r;rfl
  | ty _=>cases r;rfl
def aY.inj (r:aY x u)(q:aY y u):x=y:=Option.some.inj (r.abs.symm.trans q.abs)
def aQ.inj:∀ {xs ys:List V} {us:List Value},aQ xs us→aQ ys us→xs=ys
  | _,_,_,.nil,.nil=>rfl
  | _,_,_,.cons r t,.cons a t'=>by rw[r.inj a,aQ.inj t t']
section
variable {X:Cx} {pins:List (Addr × Obj)} {σ:St} {H:Hp} {s:Shared} {a:Addr} {xs ys:List V}
def SqL.of {K:PySem.W.Frag}(h:H a=some (.lst xs)):SqL K H a xs:=.inl (.inl h)
def SqT.of {K:PySem.W.Frag}(h:H a=some (.tup xs)):SqT K H a xs:=.inl (.inl h)
def Inv.list (I:Inv X pins σ H s)(h:SqL X.K H a xs):∃ b:List Value,aQ xs b∧PlainL s.heap a b.toArray∧xs.length≤sizeLine:=by
  rcases h with h | ⟨o,b,n,c,f,d,hs,g,r⟩
  · obtain⟨z,b,n,r,e⟩:=h.ok I.hok;exact⟨b,r,⟨_,n,e,rfl,rfl,rfl⟩,z⟩
  · refine⟨b.toList,r,⟨o,n,I.kIn a o c,f,d,by simpa using hs⟩,?_⟩;have e:=r.length;simp only[Array.length_toList]at e;lia
def Inv.tupD (I:Inv X pins σ H s)(h:SqT X.K H a xs):∃ b:List Value,aQ xs b∧zeg s.heap a b.toArray∧xs.length≤sizeLine:=by
  rcases h with h | ⟨o,b,n,c,d,hs,f,r⟩
  · obtain⟨z,b,r,p⟩:=h.ok I.hok;exact⟨b,r,p,z⟩
  · refine⟨b.toList,r,⟨o,I.kIn a o c,d,n,by simpa using hs⟩,?_⟩;have e:=r.length;simp only[Array.length_toList]at e;lia
def Inv.tuple (I:Inv X pins σ H s)(h:SqT X.K H a xs):∃ b:List Value,aQ xs b∧IsTup s.heap a b.toArray∧xs.length≤sizeLine:=by obtain⟨b,r,p,z⟩:=I.tupD h;exact⟨b,r,p.up,z⟩
def Inv.list_inj (I:Inv X pins σ H s)(h:SqL X.K H a xs)(h':SqL X.K H a ys):xs=ys:=by
  obtain⟨b,r,⟨o,n,e,_,_,d⟩,_⟩:=I.list h;obtain⟨its',f,⟨i,j,c,_,_,d'⟩,_⟩:=I.list h';rw[e]at c;cases c;rw[d]at d';injection d' with g _;have:b=its':=by simpa using congrArg Array.toList g
  subst this;exact r.inj f
def Inv.tuple_inj (I:Inv X pins σ H s)(h:SqT X.K H a xs)(h':SqT X.K H a ys):xs=ys:=by
  obtain⟨b,r,⟨o,e,_,n,d⟩,_⟩:=I.tuple h;obtain⟨its',f,⟨i,c,_,j,d'⟩,_⟩:=I.tuple h';rw[e]at c;cases c;rw[d]at d';injection d' with g _;have:b=its':=by simpa using congrArg Array.toList g
  subst this;exact r.inj f
end
abbrev Cx.wish (X:Cx)(E:Value→Shared→Prop):Cx:={ X with xe:=E }
abbrev Cx.nox (X:Cx):Cx:=X.wish λ_ _=>False
def Cx.Ok.wish {X:Cx}(a:X.Ok)(E:Value→Shared→Prop):(X.wish E).Ok :=
  ⟨a.mod,a.kind,a.glob,a.blt,a.above,a.inj,a.has,a.cab,a.hd,a.frames,a.stk,a.exf,a.bs,a.bsz,a.noex,a.exfs,a.funs,a.frf⟩
def Cx.Ok.unwish {X:Cx}{E:Value→Shared→Prop}(a:(X.wish E).Ok):X.Ok :=
  ⟨a.mod,a.kind,a.glob,a.blt,a.above,a.inj,a.has,a.cab,a.hd,a.frames,a.stk,a.exf,a.bs,a.bsz,a.noex,a.exfs,a.funs,a.frf⟩
section
variable {X:Cx} {pins:List (Addr × Obj)} {σ:St} {H:Hp} {s:Shared} {E:Value→Shared→Prop}
def Inv.wish (I:Inv X pins σ H s)(E:Value→Shared→Prop):Inv (X.wish E) pins σ H s:=⟨I.ok.wish E,I.os,I.bare,I.base,I.loc,I.cell,I.free,I.freeC,I.pin,I.hok,I.len⟩
def Inv.unwish (I:Inv (X.wish E) pins σ H s):Inv X pins σ H s:=⟨I.ok.unwish,I.os,I.bare,I.base,I.loc,I.cell,I.free,I.freeC,I.pin,I.hok,I.len⟩
def SP.unwish (h:SP (X.wish E) pins D f s'):SP X pins D f s':=by
  cases f with
  | next=>obtain⟨a,H',I,q⟩:=h;exact⟨a,H',I.unwish,q⟩
  | brk=>obtain⟨a,H',I,q⟩:=h;exact⟨a,H',I.unwish,q⟩
  | cont=>obtain⟨a,H',I,q⟩:=h;exact⟨a,H',I.unwish,q⟩
  | ret u=>obtain⟨v,a,H',I,r,q⟩:=h;exact⟨v,a,H',I.unwish,r,q⟩
def PE.nox (h:PE X.nox e t):PE X e t:=λpins s σ H Q I a =>
  wpAny_mono (h pins s σ H Q (I.wish _) a) (λ_ _ ⟨v,H',b,r,q⟩=>⟨v,H',b.unwish,r,q⟩) λ_ _ z=>False.elim z
def PT.nox (h:PT X.nox e t):PT X e t:=λpins s σ H Q I a =>
  wpAny_mono (h pins s σ H Q (I.wish _) a) (λ_ _ ⟨H',b,q⟩=>⟨H',b.unwish,q⟩) λ_ _ z=>False.elim z
def PSs.nox {st:List Stmt}{t:TS}(h:PSs X.nox st t):PSs X st t:=λpins s σ H D I a =>
  wpAny_mono (h pins s σ H D (I.wish _) a) (λ_ _ q=>q.unwish) λ_ _ z=>False.elim z
end
section
variable {X:Cx} {st:Stmt} {rest:List Stmt} {t u:TS} {e:Expr} {te:TE} {pos:Pos}
def tNext:TS:=λ⟨n,_,_,_⟩ a H=>n a H
def tSeq (t u:TS):TS:=λ⟨n,r,b,c⟩ a H=>t ⟨u ⟨n,r,b,c⟩,r,b,c⟩ a H
def zac:PSs X [] tNext:=λ_ _ a H _ I h=>wpAny_execs_nil ⟨a,H,I,h⟩
def ae (i:PS X st t)(g:PSs X rest u):PSs X (st :: rest) (tSeq t u):=by
  intro a s c H D I h;refine wpAny_execs_cons (thn (i a s c H { D with nx:=u D } I h) λf d q=>?_);cases f with
  | next =>
    obtain⟨b,H',j,q⟩:=q;exact g a d b H' D j q
  | ret v=>exact q
  | brk=>exact q
  | cont=>exact q
def ak (c:PS X st t):PSs X [st] t:=by
  intro a s b H D I h;refine wpAny_execs_cons (thn (c a s b H D I h) λf d q=>?_);cases f with
  | next=>exact wpAny_execs_nil q
  | ret v=>exact q
  | brk=>exact q
  | cont=>exact q
def Inv.quiet (I:Inv X pins σ H s):interactive X.env=false:=by simp [interactive,I.ok.kind]
def tDrop (te:TE):TS:=λ⟨n,_,_,_⟩ a H=>te a H λ_ b=>n a b
def zag (c:PE X e te)(hs:swapsWith e none pos.line X.env=pure false:=by rfl):PS X (.Expr e pos) (tDrop te):=by intro a s b H D I h;exact wpAny_Expr_any (thn (c a s b H _ I h) λv g ⟨x,f,d,i,q1⟩=>⟨b,f,d,q1⟩) I.quiet hs
def tRet (te:TE):TS:=λ⟨_,r,_,_⟩ a H=>te a H r
def aJ (d:PE X e te):PS X (.Return (some e) pos) (tRet te):=by intro a s b H D I h;exact wpAny_Return_some (thn (d a s b H _ I h) λv i ⟨x,g,f,c,q1⟩=>⟨x,b,g,f,c,q1⟩)
def tIfS (c:TT)(t u:TS):TS:=λD a H=>c a H λb d=>if b=true then t D a d else u D a d
def zaj (l:PT X c tc)(o:PSs X a t)(n:PSs X b u):PS X (.If c a b pos) (tIfS tc t u):=by
  intro f s g H D I h;refine wpAny_If (thn (l f s g H _ I h) λd i ⟨k,j,q1⟩=>?_);cases d with
  | true=>exact o f i g k D j q1
  | false=>exact n f i g k D j q1
def tNever:TS:=λ_ _ _=>False
end
abbrev TG:=V→St→Hp→(St→Hp→Prop)→Prop
abbrev TGs:=List V→St→Hp→(St→Hp→Prop)→Prop
def PG (X:Cx)(a:Expr)(t:TG):Prop :=
  ∀(b:List (Addr × Obj)) (s:Shared) (d:St) (H:Hp) (v:V) (u:Value) (Q:St→Hp→Prop),Inv X b d H s→aY v u→t v d H Q →
    wpAny (model X.prog X.w) X.A (assign a X.env u) (λ_ s'=>∃ c H',Inv X b c H' s'∧Q c H') X.xe s
def PGs (X:Cx)(ts:List Expr)(t:TGs):Prop :=
  ∀(a:List (Addr × Obj)) (s:Shared) (c:St) (H:Hp) (vs:List V) (us:List Value) (Q:St→Hp→Prop),Inv X a c H s→aQ vs us→t vs c H Q →
    wpAny (model X.prog X.w) X.A (assignInOrder ((assignEach ts X.env).map (·.2)) us) (λ_ s'=>∃ b H',Inv X a b H' s'∧Q b H') X.xe s
abbrev TIp:=V→V→Hp→VK→Prop
def PIp (X:Cx)(c:Operator)(t:TIp):Prop :=
  ∀(a:List (Addr × Obj)) (s:Shared) (b:St) (H:Hp) (x y:V) (v u:Value) (Q:VK),Inv X a b H s→aY x v→aY y u→t x y H Q →
    wpAny (model X.prog X.w) X.A (inplaceOp c v u) (EP X a b Q) X.xe s
section
variable {X:Cx} {pos:Pos}
def zd4 (i:Nat):TG:=λv a H Q=>Q (a.set i (some v)) H
def zae (d:X.N.Nodup)(c:X.N[i]?=some x)(b:Loc X.env.scope x)(hf:X.fn x=true∨X.env.scope.names.lookup x=some .local:=by first | exact .inl rfl | exact .inr rfl | assumption):PG X (.Name x pos) (zd4 i):=by intro a s f H v u Q I r h;exact wpAny_assign_Name (zfb I d c b r (λs' e=>⟨_,H,e,h⟩) hf)
def gNil:TGs:=λvs a H Q=>vs=[]∧Q a H
inductive gCons (t:TG)(u:TGs):TGs|m{vs σ H Q} v r:vs=v :: r→(t v σ H λσ' H'=>u r σ' H' Q)→gCons t u vs σ H Q
def zcf:PGs X [] gNil:=by intro a s b H vs us Q I r h;obtain⟨e,h⟩:=h;subst e;cases r;exact assignInOrder_nil ⟨b,H,I,h⟩
def zaB (i:PG X e t)(g:PGs X es u)
    (hs:(assignEach (e :: es) X.env).map (·.2)=assign e X.env :: (assignEach es X.env).map (·.2):=by rfl):PGs X (e :: es) (gCons t u):=by
  intro a s c H vs us Q I r h;obtain⟨v,n,j,h⟩:=h;subst j;cases r with
  | cons r f =>
    rw[hs];refine assignInOrder_cons (thn (i a s c H _ _ _ I r h) λ_ d ⟨b,l,k,q1⟩=>?_);exact g a d b l _ _ Q k f q1
inductive gTup (K:PySem.W.Frag)(n:Nat)(t:TGs):TG|m{v σ H Q} a xs:v=.ref a→SqT K H a xs→xs.length=n→t xs σ H Q→gTup K n t v σ H Q
def zcO (y:X.calm=true)(h:PGs X es t)
    (w:(assignEach es X.env).length=n:=by rfl)(f:(assignEach es X.env).findIdx? (·.1)=none:=by rfl):PG X (.Tuple es k pos) (gTup X.K n t):=by intro c s g H v u Q I r d;obtain⟨a,xs,z,q,x,d⟩:=d;subst z;cases r;obtain⟨j,i,p,B⟩:=I.tuple q;refine assign_Tuple_tuple (I.ok.hd y) p (by simp [w,←x,i.length]) f λh' l=>?_;have A:Inv X c g H { s with heap:=h' }:=I.kept (t':=s.toks) λb o e=>l b o (Nat.ne_of_lt (hLq e)) e;exact h c _ g H xs _ Q A (by simpa using i) d
def tAsg (te:TE)(g:TG):TS:=λ⟨n,_,_,_⟩ a H=>te a H λx b=>g x a b n
def zk2 (j:PE X e te)(i:PG X tg g)(hs:swapsWithSole [tg] e pos.line X.env=pure false:=by rfl)(f:swappedStores [tg] e X.env=pure none:=by rfl)
    (k:(assignEach [tg] X.env).map (·.2)=[assign tg X.env]:=by rfl):PS X (.Assign [tg] e pos) (tAsg te g):=by intro a s b H D I h;refine wpAny_Assign_stores (thn (j a s b H _ I h) λv c ⟨x,n,l,d,q1⟩=>?_) hs f;rw[k];exact thn (i a c b n x v _ l d q1) λ_ o q=>q
def aF (j:X.N.Nodup)(f:X.N[i]?=some x)(d:Loc X.env.scope x)(g:PE X e te)(hs:swapsWith e (some (.Name x pos')) pos.line X.env=pure false:=by rfl)(hf:X.fn x=true∨X.env.scope.names.lookup x=some .local:=by first | exact .inl rfl | exact .inr rfl | assumption) :
    PS X (.Assign [.Name x pos'] e pos) (tAsg te (zd4 i)):=by intro a s b H D I h;refine wpAny_Assign_Name (thn (g a s b H _ I h) λv p ⟨y,n,l,c,q1⟩=>?_) hs;exact zfb l j f d c (λo k=>⟨_,n,k,q1⟩) hf
inductive tAug (i:Nat)(te:TE)(ti:TIp):TS|m{D σ H} x:σ[i]?=some (some x)→(te σ H λy H1=>ti x y H1 λz H2=>D.nx (σ.set i (some z)) H2)→tAug i te ti D σ H
def ps_aug (O:X.N.Nodup)(p:X.N[i]?=some x)(n:Loc X.env.scope x)(L:PE X e te)(F:PIp X op ti)(hf:X.fn x=true∨X.env.scope.names.lookup x=some .local:=by first | exact .inl rfl | exact .inr rfl | assumption) :
    PS X (.AugAssign (.Name x pos') op e pos) (tAug i te ti):=by
  intro a s o H D I h;obtain⟨v,P,h⟩:=h;obtain⟨m,G,K⟩:=I.loc;have j:Vis X.env.scope x:=by rcases n with k | k;exact .inl k;exact .inr (.inl k)
  obtain⟨u,r,l⟩:=K i x v p P j;refine wpAny_AugAssign_Name ?_;have q:wpAny (model X.prog X.w) X.A (eval e X.env) (λw g=>wpAny (model X.prog X.w) X.A (inplaceOp op u w) (λr f=>wpAny (model X.prog X.w) X.A (storeName X.env x r) (λ_=>SP X a D .next) X.xe f) X.xe g) X.xe s:=by refine thn (L a s o H _ I h) λw t ⟨y,U,S,C,q1⟩=>?_;refine thn (F a t o U v y u w _ S r C q1) λz Z ⟨W,T,R,B,E⟩=>?_;exact zfb R O p n B (λY Q=>⟨_,T,Q,E⟩) hf
  rcases l with ⟨b,J⟩ | ⟨b,c,M,d⟩
  · exact wpAny_loadName_local I.ok.kind b G J q
  · rcases b with b | b
    · exact wpAny_loadName_cell I.ok.kind b M d q
    · rcases n with k | k
      · have:X.env.scope.names.lookup x=some .free:=b;rw[k]at this;cases this
      · have:X.env.scope.names.lookup x=some .free:=b;rw[k]at this;cases this
inductive ipI (f:Int→Int→Int):TIp|m{x y H Q} i j:x=.int i→y=.int j→Q (.int (f i j)) H→ipI f x y H Q
def ip_add:PIp X .Add (ipI λi j=>i+j):=by intro a s f H x y v u Q I c b h;obtain⟨i,j,e,d,q⟩:=h;subst e;subst d;obtain⟨t,rfl⟩:=c;obtain⟨t',rfl⟩:=b;exact iadd_int ⟨.int _,H,I.tok _,⟨_,rfl⟩,q⟩
end
section
variable {X:Cx} {pos:Pos}
def tWhile (c:TT)(tb:TS):TS:=λD a H=>∃ W:Nat→St→Hp→Prop,(∃ m,W m a H)∧∀ m a H,W m a H →
  c a H λb f=>if b=true then ∃ N:St→Hp→Prop,(∀ d H',N d H'→∃ e,e < m∧W e d H')∧tb { D with nx:=N,ct:=N,bk:=D.nx } a f else D.nx a f
def zep (u:PassesOwn (model X.prog X.w) X.A X.env X.xe)(L:PT X c tc)(M:PSs X body tb):PS X (.While c body [] pos) (tWhile tc tb):=by
  intro d s C H D I h;obtain⟨W,⟨K,F⟩,i⟩:=h;refine wpAny_While (codeAny_whileLoop (λn s'=>∃ g H',Inv X d g H' s'∧W n g H') ?_ K ⟨C,H,I,F⟩);rintro n J ⟨e,B,O,E⟩;refine wpAny_passesOwn u (thn (L d J e B _ O (i n e B E)) λb G ⟨z,y,l⟩=>?_);cases b with
  | true =>
    obtain⟨N,x,l⟩:=l;rw[if_pos rfl];refine wpAny_passesOwn u (thn (M d G e z _ y l) λf P k=>?_);cases f with
    | next =>
      obtain⟨a,j,t,p⟩:=k;obtain⟨q,r,o⟩:=x a j p;exact⟨q,r,a,j,t,o⟩
    | cont =>
      obtain⟨a,j,t,p⟩:=k;obtain⟨q,r,o⟩:=x a j p;exact⟨q,r,a,j,t,o⟩
    | brk=>exact k
    | ret v=>exact k
  | false =>
    rw[if_neg Bool.false_ne_true];exact wpAny_execs_nil ⟨e,z,y,l⟩
end
structure It where
  go:Nat→Hp→Prop
  yld:Nat→Hp→V→Hp→Prop
  stop:Nat→Hp→Prop
def zbS (X:Cx)(a:List (Addr × Obj))(H:Hp)(b:Addr):Prop :=
  H b=none∧b≠X.env.locals∧b∉X.fs∧(b∈X.ex∨X.s₀.heap.objs.size≤b)∧(∀ x c,X.env.cells.lookup x=some c→c≠b)∧∀ p∈X.pn++a,p.1≠b
def Inv.fpOk (I:Inv X pins σ H s)(a:s.heap.objs.size≤b)(f:H' b=none):zbS X pins H' b:=by
  refine⟨f,Nat.ne_of_gt (Nat.lt_of_lt_of_le I.lt a),I.nofs a,.inr (Nat.le_trans I.sz a),λx c e z=>?_,λp d z=>?_⟩
  · obtain⟨v,q⟩:=I.cell x c e;exact absurd (Nat.lt_of_lt_of_le q.lt (by rw[z];exact a)) (Nat.lt_irrefl _)
  · exact absurd (Nat.lt_of_lt_of_le (hLq (I.pin p d).1) (by rw[z];exact a)) (Nat.lt_irrefl _)
structure zee (P:Program)(w:World)(K:PySem.W.Frag)(tg:Expr)(J:It)(fp:List Addr)(it:Addr)(tn:Nat→Heap→Prop):Prop where
  mem:it∈fp
  obj:∀ i h,tn i h→∀ b∈fp,∃ o,h.get? b=some o∧∀ v,o.data≠.cell v
  keep:∀ i h h',tn i h→(∀ b∈fp,∀ o,h.get? b=some o→h'.get? b=some o)→tn i h'
  item:∀(X:Cx),X.prog=P→X.w=w→X.K=K→X.calm=true→∀(i:Nat) (pins:List (Addr × Obj)) (s:Shared) (σ:St) (H:Hp) (E:Value→Shared→Prop),Inv X pins σ H s→(∀ b∈fp,zbS X pins H b)→tn i s.heap→J.go i H →
    wpAny (model P w) X.A (pyNext (.ref it)) (λr s1=>∃ u,r=some u ∧
      wpAny (model P w) X.A (letOwnedTupleGo tg (.ref it) u) (λ_ s2=>∃ x H',Inv X pins σ H' s2∧aY x u∧J.yld i H x H'∧tn (i+1) s2.heap∧∀ b∈fp,H' b=none) E s1) E s
  done:∀(X:Cx),X.prog=P→X.w=w→X.K=K→X.calm=true→∀(i:Nat) (pins:List (Addr × Obj)) (s:Shared) (σ:St) (H:Hp) (E:Value→Shared→Prop),Inv X pins σ H s→(∀ b∈fp,zbS X pins H b)→tn i s.heap→J.stop i H →
    wpAny (model P w) X.A (pyNext (.ref it)) (λr s1=>r=none∧Inv X pins σ H s1) E s
  self:∀(A:Around) (i:Nat) (s:Shared) (Q:Value→Shared→Prop) (E:Value→Shared→Prop),tn i s.heap→Q (.ref it) s→wpAny (model P w) A (pyIter (.ref it)) Q E s
abbrev TI:=St→Hp→(It→Hp→Prop)→Prop
def PIE (X:Cx)(a:List (Addr × Obj))(g:St)(h:Expr)(R:It→Hp→Prop)(c:Value)(e:Shared):Prop :=
  ∃(it:Addr) (f:List Addr) (d:Nat→Heap→Prop) (J:It) (H':Hp),c=.ref it∧Inv X a g H' e∧zee X.prog X.w X.K h J f it d∧d 0 e.heap∧(∀ b∈f,zbS X a H' b)∧R J H'
def PI (X:Cx)(e b:Expr)(d:TI):Prop :=
  ∀(a:List (Addr × Obj)) (s:Shared) (c:St) (H:Hp) (R:It→Hp→Prop),Inv X a c H s→d c H R →
    wpAny (model X.prog X.w) X.A (eval b X.env) (λv f=>wpAny (model X.prog X.w) X.A (pyIter v) (PIE X a c e R) X.xe f) X.xe s
def ze7 (b:s.heap.get? it=some o)(e:o.cls=.type n)(d:o.data=.fields vs)
    (c:["enumerate","zip","dict_itemiterator","dict_reverseitemiterator","odict_iterator","itertools.zip_longest","itertools.pairwise"].contains n=false)(a:Q () s):wpAny M A (letOwnedTupleGo tg (.ref it) u) Q E s:=by
  unfold letOwnedTupleGo;cases tg <;> first
    | exact wpAny_pure a
    | (cases u <;> first
        | exact wpAny_pure a
        | (refine wpAny_bind (wpAny_load b ?_)
           rw[e,d];show wpAny M A (if(["enumerate","zip","dict_itemiterator","dict_reverseitemiterator","odict_iterator","itertools.zip_longest","itertools.pairwise"].contains n&&vs[0]? == some (rawInt _))=true then _ else _) Q E s
           rw[if_neg (by intro h;rw[c,Bool.false_and]at h;cases h)];exact wpAny_pure a))
def Itl (K:PySem.W.Frag)(a:Addr):It :=
  ⟨λi H=>∃ xs x,SqL K H a xs∧xs[i]?=some x,λi H x H'=>H'=H∧∀ xs,SqL K H a xs→xs[i]?=some x,λi H=>∃ xs,SqL K H a xs∧xs.length≤i⟩
def Itt (K:PySem.W.Frag)(a:Addr):It :=
  ⟨λi H=>∃ xs x,SqT K H a xs∧xs[i]?=some x,λi H x H'=>H'=H∧∀ xs,SqT K H a xs→xs[i]?=some x,λi H=>∃ xs,SqT K H a xs∧xs.length≤i⟩
def Itr (lo:Int)(n:Nat):It:=⟨λi _=>i < n,λi H x H'=>H'=H∧x=.int (lo+i),λi _=>n≤i⟩
def zfI {P:Program}{w:World}{K:PySem.W.Frag}{N:Expr}(a it:Addr):zee P w K N (Itl K a) [it] it (λi h=>h.IsListIter it a i) where
  mem:=by simp
  obj:=λi h st b g=>by
    have e:b=it:=by simpa using g
    subst e;obtain⟨o,e,c,d⟩:=st;exact⟨o,e,λv z=>by rw[d]at z;cases z⟩
  keep:=λi h h' st k=>st.at λo e=>k it (by simp) o e
  item:=by intro X A t B M i f s L H E I hf st y;subst A t B;obtain⟨xs,x,l,r⟩:=y;obtain⟨q,n,p,R⟩:=I.list l;obtain⟨u,T,Q⟩:=n.get r;obtain⟨J,G,U,F,D,C⟩:=hf it (by simp);refine wpAny_pyNext_list_item st p.isList (x:=u) (by simpa using T) λh' j O=>?_;have Z:Inv X f L H { s with heap:=h' }:=I.turned (t':=s.toks) (λb o g e=>(O.2 b g).trans e) J G F D C;obtain⟨o,e,c,d⟩:=id j;exact⟨u,rfl,ze7 (s:={ s with heap:=h' }) e c d (by decide) ⟨x,H,Z,Q,⟨rfl,λys S=>by rw[I.list_inj S l];exact r⟩,j,λb g=>(hf b g).1⟩⟩
  done:=by intro X A t B M i f s L H E I hf st y;subst A t B;obtain⟨xs,l,r⟩:=y;obtain⟨q,n,p,R⟩:=I.list l;obtain⟨J,G,U,F,D,C⟩:=hf it (by simp);have hl:=n.length;exact wpAny_pyNext_list_end (I.ok.hd M) st p.isList (by simp;lia) λh' Y=>⟨rfl,I.turned (t':=s.toks) (λb o g e=>Y b o g e) J G F D C⟩
  self:=λ_ _ _ _ _ st h=>wpAny_pyIter_listiter st h
def zfo {P:Program}{w:World}{K:PySem.W.Frag}{N:Expr}(a it:Addr):zee P w K N (Itt K a) [it] it (λi h=>h.IsTupleIter it a i) where
  mem:=by simp
  obj:=λi h st b j=>by
    have e:b=it:=by simpa using j
    subst e;obtain⟨o,e,c,d⟩:=st;exact⟨o,e,λv z=>by rw[d]at z;cases z⟩
  keep:=λi h h' st k=>st.at λo e=>k it (by simp) o e
  item:=by intro X A t B M i f s L H E I hf st y;subst A t B;obtain⟨xs,x,n,r⟩:=y;obtain⟨g,q,p,R⟩:=I.tuple n;obtain⟨u,T,Q⟩:=q.get r;obtain⟨J,G,U,F,D,C⟩:=hf it (by simp);refine wpAny_pyNext_tuple_item st (show s.heap.IsTuple a g.toArray from p) (x:=u) (by simpa using T) λh' l O=>?_;have Z:Inv X f L H { s with heap:=h' }:=I.turned (t':=s.toks) (λb o j e=>(O.2 b j).trans e) J G F D C;obtain⟨o,e,c,d⟩:=id l;exact⟨u,rfl,ze7 (s:={ s with heap:=h' }) e c d (by decide) ⟨x,H,Z,Q,⟨rfl,λys S=>by rw[I.tuple_inj S n];exact r⟩,l,λb j=>(hf b j).1⟩⟩
  done:=by intro X A t B M i f s L H E I hf st y;subst A t B;obtain⟨xs,n,r⟩:=y;obtain⟨g,q,p,R⟩:=I.tuple n;obtain⟨J,G,U,F,D,C⟩:=hf it (by simp);have hl:=q.length;exact wpAny_pyNext_tuple_end (I.ok.hd M) st (show s.heap.IsTuple a g.toArray from p) (by simp;lia) λh' Y=>⟨rfl,I.turned (t':=s.toks) (λb o j e=>Y b o j e) J G F D C⟩
  self:=λ_ _ _ _ _ st h=>wpAny_pyIter_tupleiter st h
def zkw {P:Program}{w:World}{K:PySem.W.Frag}{C:Expr}(it:Addr)(lo:Int)(n:Nat):zee P w K C (Itr lo n) [it] it (λi h=>IsRangeIter h it (lo+(i:Nat) * 1) ((n:Int) - (i:Nat)) 1) where
  mem:=by simp
  obj:=λi h st b c=>by
    have e:b=it:=by simpa using c
    subst e;exact⟨_,st,λv z=>by have B:Data.fields _=Data.cell v:=z;cases B⟩
  keep:=λi h h' st k=>k it (by simp) _ st
  item:=by intro X l f p j i a s A H E I hf st g;subst l f p;obtain⟨y,x,G,u,r,q⟩:=hf it (by simp);have W:=Walks.range (prog:=X.prog) (w:=X.w) (I.ok.hd j) it lo 1 n;refine W.item i s _ _ g st λv h' tk F d D=>?_;obtain⟨t,rfl⟩:=F;have L:Inv X a A H { s with heap:=h',toks:=tk }:=I.turned (λb o c e=>D b o (by simpa using c) e) y x u r q;refine⟨_,rfl,ze7 (s:={ s with heap:=h',toks:=tk }) (n:="range_iterator") d rfl rfl (by decide) ⟨.int (lo+i),H,L,⟨t,?_⟩,⟨rfl,rfl⟩,d,λb c=>(hf b c).1⟩⟩;rw[Int.mul_one]
  done:=by intro X l f p j i a s A H E I hf st g;subst l f p;obtain⟨y,x,G,u,r,q⟩:=hf it (by simp);exact wpAny_pyNext_range_end (I.ok.hd j) st (by have:n≤i:=g;lia) λh' J=>⟨rfl,I.turned (t':=s.toks) (λb o c e=>J b o c e) y x u r q⟩
  self:=λ_ _ _ _ _ st h=>wpAny_pyIter_rangeiter st h
section
variable {X:Cx} {tg:Expr}
inductive rItl (K:PySem.W.Frag):V→Hp→(It→Hp→Prop)→Prop|m{x H R} a:x=.ref a→(∃ xs,SqL K H a xs)→R (Itl K a) H→rItl K x H R
inductive rItt (K:PySem.W.Frag):V→Hp→(It→Hp→Prop)→Prop|m{x H R} a:x=.ref a→(∃ xs,SqT K H a xs)→R (Itt K a) H→rItt K x H R
def iList (K:PySem.W.Frag)(b:TE):TI:=λa H R=>b a H λx c=>rItl K x c R
def iTup (K:PySem.W.Frag)(b:TE):TI:=λa H R=>b a H λx c=>rItt K x c R
def zbE {l:Expr}{g:TE}(r:PE X l g):PI X tg l (iList X.K g):=by
  intro c s i H R I h;refine thn (r c s i H _ I h) λv d ⟨x,u,f,j,q1⟩=>?_;obtain⟨a,e,⟨xs,n⟩,q⟩:=q1;subst e;cases j;obtain⟨k,w,p,y⟩:=f.list n;refine wpAny_pyIter_list p.isList ?_;refine⟨d.heap.objs.size,[d.heap.objs.size],_,_,u,rfl,f.kept (t':=d.toks) λb o e=>hG _ e,zfI a _,⟨_,Heap.get?_push_size _ rfl,rfl,rfl⟩,λb t=>?_,q⟩;have e:b=d.heap.objs.size:=by simpa using t
  subst e;exact f.fpOk (nRq _) (f.hok.fresh (nRq _))
def zdK {l:Expr}{i:TE}(r:PE X l i):PI X tg l (iTup X.K i):=by
  intro d s j H R I h;refine thn (r d s j H _ I h) λv c ⟨x,u,f,k,q1⟩=>?_;obtain⟨a,e,⟨xs,n⟩,q⟩:=q1;subst e;cases k;obtain⟨g,w,p,y⟩:=f.tuple n;refine wpAny_pyIter_tuple (show c.heap.IsTuple a g.toArray from p) ?_;refine⟨c.heap.objs.size,[c.heap.objs.size],_,_,u,rfl,f.kept (t':=c.toks) λb o e=>hG _ e,zfo a _,⟨_,Heap.get?_push_size _ rfl,rfl,rfl⟩,λb t=>?_,q⟩;have e:b=c.heap.objs.size:=by simpa using t
  subst e;exact f.fpOk (nRq _) (f.hok.fresh (nRq _))
def zmp {c:List (Addr × Obj)}{d:St}{H:Hp}{s:Shared}{R:It→Hp→Prop}{E:Value→Shared→Prop}{lo a:Int}{t u v:Tok}{tk:Nat}(I:Inv X c d H s)(k:-(2 ^ 62)≤lo)(j:lo < 2 ^ 62)(i:-(2 ^ 62)≤a)(h:a < 2 ^ 62)
    (q:R (Itr lo (a - lo).toNat) H):wpAny (model X.prog X.w) X.A (pyIter (.ref s.heap.objs.size)) (PIE X c d tg R) E { s with heap:=s.heap.push { cls:=.type "range",data:=.fields #[.int lo t,.int a u,.int 1 v] },toks:=tk }:=by
  refine wpAny_pyIter_range (IsRange.new ..) (small_one k j i h) ?_;have f:Inv X c d H { s with heap:=s.heap.push { cls:=.type "range",data:=.fields #[.int lo t,.int a u,.int 1 v] },toks:=tk }:=I.kept λb o e=>hG _ e;refine⟨(s.heap.push { cls:=.type "range",data:=.fields #[.int lo t,.int a u,.int 1 v] }).objs.size,[(s.heap.push { cls:=.type "range",data:=.fields #[.int lo t,.int a u,.int 1 v] }).objs.size],_,_,H,rfl,
    f.kept (t':=tk) λb o e=>hG _ e,zkw _ lo (a - lo).toNat,?_,λb g=>?_,q⟩
  · have n:lo+((0:Nat):Int) * 1=lo:=by simp
    have l:(((a - lo).toNat:Nat):Int) - ((0:Nat):Int)=Builtin.Range.rangeSize lo a 1:=by rw[rangeSize_one];split <;> lia
    show IsRangeIter _ _ (lo+((0:Nat):Int) * 1) ((((a - lo).toNat:Nat):Int) - ((0:Nat):Int)) 1;rw[n,l];exact Heap.get?_push_size _ rfl
  · have e:b=(s.heap.push { cls:=.type "range",data:=.fields #[.int lo t,.int a u,.int 1 v] }).objs.size:=by simpa using g
    subst e;exact f.fpOk (nRq _) (f.hok.fresh (nRq _))
def iRng1 (b:TA):TI:=λa H R=>b a H λvs c=>∃ j:Int,vs=[.int j]∧-(2 ^ 62)≤j∧j < 2 ^ 62∧R (Itr 0 j.toNat) c
def zc5 {a:Expr}{d:TA}{p b:Pos}(n:Gl X "range")(l:X.mg "range"=none)(o:PA X [a] d)(hs:starEach [a] X.env=[(false,eval a X.env)]:=by rfl):PI X tg (.Call (.Name "range" p) [a] [] b) (iRng1 d):=by
  intro c s f H R I h;refine Call_ (zbU I n l boot_range (PyProof.Rows.callWith_type1 (thn (o b c s f H _ I h) λus v ⟨vs,w,u,i,q1⟩=>?_) hs rfl));obtain⟨j,e,q1,k,q⟩:=q1;subst e;cases i with
  | cons r g =>
    cases g;obtain⟨t,rfl⟩:=r;exact call_range_1 (zmp u (by lia) (by lia) q1 k (by simpa using q))
def tFor (e:TI)(g:TG)(tb:TS):TS:=λD a H=>e a H λJ h=>∃ W:Nat→Nat→St→Hp→Prop,(∃ m,W 0 m a h)∧∀ i m a H,W i m a H →
  (J.stop i H∧D.nx a H)∨(J.go i H∧∃ N:St→Hp→Prop,(∀ b H',N b H'→∃ d,d < m∧W (i+1) d b H')∧∀ x H',J.yld i H x H'→g x a H' λc f=>tb { D with nx:=N,ct:=N,bk:=D.nx } c f)
def zeP (a:List Addr)(h:Heap):List (Addr × Obj):=a.filterMap λb=>(h.get? b).map λo=>(b,o)
def zbL (a:b∈fp)(e:h.get? b=some o):(b,o)∈zeP fp h:=List.mem_filterMap.mpr ⟨b,a,by rw[e];rfl⟩
def zlH (a:p∈zeP fp h):p.1∈fp∧h.get? p.1=some p.2:=by
  obtain⟨b,c,e⟩:=List.mem_filterMap.mp a;cases q:h.get? b with
  | none=>rw[q]at e;cases e
  | some o =>
    rw[q]at e;have d:(b,o)=p:=Option.some.inj e;subst d;exact⟨c,q⟩
def Inv.pinned (I:Inv X pins σ H s)(hf:∀ b∈fp,zbS X pins H b)(g:∀ b∈fp,∃ o,s.heap.get? b=some o∧∀ v,o.data≠.cell v):Inv X (pins++zeP fp s.heap) σ H s :=
  I.pins_of λp f=>(mPq f).elim (λz=>I.pin p (List.mem_append_right _ z)) λz=>by obtain⟨a,e⟩:=zlH z;obtain⟨j,i,h,_⟩:=hf p.1 a;obtain⟨o,c,d⟩:=g p.1 a;rw[e]at c;cases c;exact⟨e,j,i,h,d⟩
def Inv.unpinned (I:Inv X (pins++pl) σ H s):Inv X pins σ H s:=I.pins_of λp a=>I.pin p (List.mem_append_right _ (List.mem_append_left _ a))
def zaN (K:PassesOwn (model X.prog X.w) X.A X.env X.xe)(hc:X.calm=true)(hi:PI X tg iter wi)(hg:PG X tg g)(p:PSs X body tb)
    (hs:∀ x,foldedSetIterable iter X.env x=pure x:=by intro _;rfl):PS X (.For tg iter body [] pos) (tFor wi g tb):=by
  intro c s Z H D I h;refine wpAny_For (thn (hi c s Z H _ I h) λv s1 h1=>thn h1 λitv s2 h2=>?_) hs;obtain⟨it,M,tn,J,H2,e,I2,T,Q,f2,W,⟨m0,w0⟩,C⟩:=h2;subst e;have l:∀ {H':Hp},(∀ b∈M,H' b=none)→∀ b∈M,zbS X c H' b:=λhn b p=>⟨hn b p,(f2 b p).2⟩;refine codeAny_forLoop_any (λn s'=>∃ i k H',Inv X c k H' s'∧tn i s'.heap∧(∀ b∈M,H' b=none)∧W i n k H') ?_ m0 ⟨0,Z,H2,I2,Q,λb p=>(f2 b p).1,w0⟩;rintro n s3 ⟨i,j,O,I3,F,L,w3⟩;rcases C i n j O w3 with ⟨E,qn⟩ | ⟨go,N,hN,step⟩
  · refine wpAny_passesOwn K (thn (T.done X rfl rfl rfl hc i c s3 j O X.xe I3 (l L) F E) λr s4 ⟨S,I4⟩=>?_);subst S;exact wpAny_execs_nil ⟨j,O,I4,qn⟩
  · refine wpAny_passesOwn K (thn (T.item X rfl rfl rfl hc i c s3 j O X.xe I3 (l L) F go) λr s4 ⟨u,S,h4⟩=>?_);subst S;refine wpAny_passesOwn K (thn h4 λ_ s5 ⟨x,H5,I5,r5,y5,B,U⟩=>?_);have Y:=I5.pinned (l U) (T.obj _ _ B);refine wpAny_passesOwn K (thn (hg _ s5 j H5 x u _ Y r5 (step x H5 y5)) λ_ s6 ⟨P,H6,I6,q6⟩=>?_);refine wpAny_passesOwn K (thn (p _ s6 P H6 _ I6 q6) λf R z=>?_);have q:∀ {a:St} {y:Hp},Inv X (c++zeP M s5.heap) a y R→N a y→∃ m,m < n∧∃ i k H',Inv X c k H' R∧tn i R.heap∧(∀ b∈M,H' b=none)∧W i m k H':=λ{a y} t G=>by obtain⟨m',hm,w7⟩:=hN a y G;refine⟨m',hm,i+1,a,y,t.unpinned,T.keep _ _ _ B λb p o e=>(t.pin (b,o) (List.mem_append_right _ (List.mem_append_right _ (zbL p e)))).1,λb p=>?_,w7⟩;obtain⟨o,e,d⟩:=T.obj _ _ B b p;exact(t.pin (b,o) (List.mem_append_right _ (List.mem_append_right _ (zbL p e)))).2.1
    cases f with
    | next=>obtain⟨a,y,t,G⟩:=z;exact q t G
    | cont=>obtain⟨a,y,t,G⟩:=z;exact q t G
    | brk=>obtain⟨a,y,t,z⟩:=z;exact⟨a,y,t.unpinned,z⟩
    | ret v=>obtain⟨x7,a,y,t,r7,z⟩:=z;exact⟨x7,a,y,t.unpinned,r7,z⟩
end
def zgZ {K:PySem.W.Frag}{a:Addr}{xs:List V}{g:TG}{tb:TS}{D:zcW}{b:St}{H:Hp}(c:Nat→St→Hp→Prop)(h0:c 0 b H)(n:∀ i b H,i≤xs.length→c i b H→SqL K H a xs)
    (hs:∀ i x b H,xs[i]?=some x→c i b H→g x b H λd j=>tb { D with nx:=c (i+1),ct:=c (i+1),bk:=D.nx } d j)(r:∀ b H,c xs.length b H→D.nx b H) :
    ∃ W:Nat→Nat→St→Hp→Prop,(∃ m,W 0 m b H)∧∀ i m b H,W i m b H →
      ((Itl K a).stop i H∧D.nx b H)∨((Itl K a).go i H∧∃ N:St→Hp→Prop,(∀ f H',N f H'→∃ k,k < m∧W (i+1) k f H')∧∀ x H',(Itl K a).yld i H x H'→g x b H' λd j=>tb { D with nx:=N,ct:=N,bk:=D.nx } d j):=by
  refine⟨λi m b H=>m=xs.length - i∧i≤xs.length∧c i b H,⟨xs.length,by simp,Nat.zero_le _,h0⟩,?_⟩;rintro i m b H ⟨rfl,o,p⟩;have q:=n i b H o p;by_cases h:i < xs.length
  · refine .inr ⟨⟨xs,xs[i],q,by simp [h]⟩,c (i+1),λf H' l=>⟨xs.length - (i+1),by lia,rfl,h,l⟩,λx H' y=>?_⟩;obtain⟨e,y⟩:=y;subst e;exact hs i x b _ (y xs q) p
  · have e:i=xs.length:=by lia
    subst e;exact .inl ⟨⟨xs,q,nRq _⟩,r b H p⟩
def zj8 {K:PySem.W.Frag}{a:Addr}{xs:List V}{g:TG}{tb:TS}{D:zcW}{b:St}{H:Hp}(c:Nat→St→Hp→Prop)(h0:c 0 b H)(n:∀ i b H,i≤xs.length→c i b H→SqT K H a xs)
    (hs:∀ i x b H,xs[i]?=some x→c i b H→g x b H λd j=>tb { D with nx:=c (i+1),ct:=c (i+1),bk:=D.nx } d j)(r:∀ b H,c xs.length b H→D.nx b H) :
    ∃ W:Nat→Nat→St→Hp→Prop,(∃ m,W 0 m b H)∧∀ i m b H,W i m b H →
      ((Itt K a).stop i H∧D.nx b H)∨((Itt K a).go i H∧∃ N:St→Hp→Prop,(∀ f H',N f H'→∃ k,k < m∧W (i+1) k f H')∧∀ x H',(Itt K a).yld i H x H'→g x b H' λd j=>tb { D with nx:=N,ct:=N,bk:=D.nx } d j):=by
  refine⟨λi m b H=>m=xs.length - i∧i≤xs.length∧c i b H,⟨xs.length,by simp,Nat.zero_le _,h0⟩,?_⟩;rintro i m b H ⟨rfl,o,p⟩;have q:=n i b H o p;by_cases h:i < xs.length
  · refine .inr ⟨⟨xs,xs[i],q,by simp [h]⟩,c (i+1),λf H' l=>⟨xs.length - (i+1),by lia,rfl,h,l⟩,λx H' y=>?_⟩;obtain⟨e,y⟩:=y;subst e;exact hs i x b _ (y xs q) p
  · have e:i=xs.length:=by lia
    subst e;exact .inl ⟨⟨xs,q,nRq _⟩,r b H p⟩
def zih {lo:Int}{n:Nat}{g:TG}{tb:TS}{D:zcW}{a:St}{H:Hp}(f:Nat→St→Hp→Prop)(h0:f 0 a H)
    (hs:∀ i a H,i < n→f i a H→g (.int (lo+i)) a H λb h=>tb { D with nx:=f (i+1),ct:=f (i+1),bk:=D.nx } b h)(l:∀ a H,f n a H→D.nx a H) :
    ∃ W:Nat→Nat→St→Hp→Prop,(∃ m,W 0 m a H)∧∀ i m a H,W i m a H →
      ((Itr lo n).stop i H∧D.nx a H)∨((Itr lo n).go i H∧∃ N:St→Hp→Prop,(∀ c H',N c H'→∃ j,j < m∧W (i+1) j c H')∧∀ x H',(Itr lo n).yld i H x H'→g x a H' λb h=>tb { D with nx:=N,ct:=N,bk:=D.nx } b h):=by
  refine⟨λi m a H=>m=n - i∧i≤n∧f i a H,⟨n,by simp,Nat.zero_le _,h0⟩,?_⟩;rintro i m a H ⟨rfl,o,p⟩;by_cases d:i < n
  · refine .inr ⟨d,f (i+1),λc H' k=>⟨n - (i+1),by lia,rfl,d,k⟩,λx H' y=>?_⟩;obtain⟨e,y⟩:=y;subst e y;exact hs i a _ d p
  · have e:i=n:=by lia
    subst e;exact .inl ⟨nRq _,l a H p⟩
abbrev R2:=V→V→Hp→VK→Prop
def OpR (X:Cx)(f:Value→Value→Sem Value)(r:R2):Prop :=
  ∀(a:List (Addr × Obj)) (s:Shared) (b:St) (H:Hp) (x y:V) (v u:Value) (Q:VK),Inv X a b H s→aY x v→aY y u→r x y H Q →
    wpAny (model X.prog X.w) X.A (f v u) (EP X a b Q) X.xe s
def UnR (X:Cx)(f:Value→Sem Value)(r:V→Hp→VK→Prop):Prop :=
  ∀(a:List (Addr × Obj)) (s:Shared) (b:St) (H:Hp) (x:V) (v:Value) (Q:VK),Inv X a b H s→aY x v→r x H Q →
    wpAny (model X.prog X.w) X.A (f v) (EP X a b Q) X.xe s
def zbt (X:Cx)(f:Value)(r:List V→Hp→VK→Prop):Prop :=
  ∀(a:List (Addr × Obj)) (s:Shared) (b:St) (H:Hp) (xs:List V) (us:List Value) (Q:VK),Inv X a b H s→aQ xs us→r xs H Q →
    wpAny (model X.prog X.w) X.A (call f us) (EP X a b Q) X.xe s
def tOp (r:R2)(b tb:TE):TE:=λa H Q=>b a H λx d=>tb a d λy c=>r x y c Q
def tUn (r:V→Hp→VK→Prop)(b:TE):TE:=λa H Q=>b a H λx c=>r x c Q
inductive rI (C:Int→Int→Prop)(g:Int→Int→V):R2|m{x y H Q} i j:x=.int i→y=.int j→C i j→Q (g i j) H→rI C g x y H Q
inductive rI0 (g:Int→Int→V):R2|m{x y H Q} i j:x=.int i→y=.int j→Q (g i j) H→rI0 g x y H Q
inductive rU (g:Int→V):V→Hp→VK→Prop|m{x H Q} i:x=.int i→Q (g i) H→rU g x H Q
section
variable {X:Cx} {a b c:Expr} {ta tb tc:TE} {pos:Pos}
def binT (t:PE X a ta)(r:PE X b tb){d:List (Addr × Obj)}{s:Shared}{e:St}{H:Hp}{R:V→V→Hp→Prop}(I:Inv X d e H s)
    (h:ta e H λx l=>tb e l λy g=>R x y g){Q:Value→Shared→Prop}{f:Value→Value→Sem Value}
    (hf:∀ v u k x y g,Inv X d e g k→aY x v→aY y u→R x y g→wpAny (model X.prog X.w) X.A (f v u) Q X.xe k) :
    wpAny (model X.prog X.w) X.A (eval a X.env) (λv j=>wpAny (model X.prog X.w) X.A (eval b X.env) (λu i=>wpAny (model X.prog X.w) X.A (f v u) Q X.xe i) X.xe j) X.xe s:=by refine thn (t d s e H _ I h) λv n ⟨x,l,B,p,q1⟩=>?_;refine thn (r d n e l _ B q1) λu k ⟨y,g,z,o,q⟩=>?_;exact hf v u k x y g z p o q
def aU (j:OpR X (binaryOp op) r)(l:PE X a ta)(k:PE X b tb):PE X (.BinOp a op b pos) (tOp r ta tb):=by intro d s e H Q I h;exact wpAny_BinOp (binT l k I h λv u f x y o n i g q=>j d f e o x y v u Q n i g q)
def zaI (i:UnR X (unaryOp op) r)(j:PE X a ta):PE X (.UnaryOp op a pos) (tUn r ta):=by intro d s e H Q I h;exact UnaryOp_ (thn (j d s e H _ I h) λv f ⟨x,l,k,g,q1⟩=>i d f e l x v Q k g q1)
def opI {f:Value→Value→Sem Value}{C:Int→Int→Prop}{g:Int→Int→Int}
    (d:∀(i j:Int) (t u:Tok) (s:Shared) (Q:Value→Shared→Prop) (E:Value→Shared→Prop),C i j→Q (.int (g i j) s.toks) { s with toks:=s.toks+1 }→wpAny (model X.prog X.w) X.A (f (.int i t) (.int j u)) Q E s) :
    OpR X f (rI C λi j=>.int (g i j)):=by intro e s o H x y v u Q I l k h;obtain⟨i,j,rfl,rfl,n,q⟩:=h;obtain⟨t,rfl⟩:=l;obtain⟨t',rfl⟩:=k;exact d i j t t' s _ _ n ⟨.int (g i j),H,I.tok _,⟨_,rfl⟩,q⟩
def opI0 {f:Value→Value→Sem Value}{g:Int→Int→Int}
    (d:∀(i j:Int) (t u:Tok) (s:Shared) (Q:Value→Shared→Prop) (E:Value→Shared→Prop),Q (.int (g i j) s.toks) { s with toks:=s.toks+1 }→wpAny (model X.prog X.w) X.A (f (.int i t) (.int j u)) Q E s) :
    OpR X f (rI0 λi j=>.int (g i j)):=by intro e s n H x y v u Q I l k h;obtain⟨i,j,rfl,rfl,q⟩:=h;obtain⟨t,rfl⟩:=l;obtain⟨t',rfl⟩:=k;exact d i j t t' s _ _ ⟨.int (g i j),H,I.tok _,⟨_,rfl⟩,q⟩
def opB0 {f:Value→Value→Sem Value}{g:Int→Int→Bool}
    (d:∀(i j:Int) (t u:Tok) (s:Shared) (Q:Value→Shared→Prop) (E:Value→Shared→Prop),Q (.bool (g i j)) s→wpAny (model X.prog X.w) X.A (f (.int i t) (.int j u)) Q E s) :
    OpR X f (rI0 λi j=>.bl (g i j)):=by intro e s n H x y v u Q I l k h;obtain⟨i,j,rfl,rfl,q⟩:=h;obtain⟨t,rfl⟩:=l;obtain⟨t',rfl⟩:=k;exact d i j t t' s _ _ ⟨.bl (g i j),H,I,rfl,q⟩
def CDiv (i j:Int):Prop:=0 < j∧j < 1073741824
def CPow (i j:Int):Prop:=0≤j∧j≤1000000∧i.natAbs < 2 ^ 64
def CMul (i j:Int):Prop:=(-(2 ^ 64) < i∧i < 2 ^ 64)∨(-(2 ^ 64) < j∧j < 2 ^ 64)
def CMul.ok (h:CMul i j):IntMulOk i j:=by
  rcases h with ⟨e,d⟩ | ⟨e,d⟩
  · exact .of_left (intBits_le_64 e d)
  · exact .of_right (intBits_le_64 e d)
def zbj:OpR X (binaryOp .Add) (rI0 λi j=>.int (i+j)):=opI0 λ_ _ _ _ _ _ _ q=>add_int q
def zdg:OpR X (binaryOp .Sub) (rI0 λi j=>.int (i - j)):=opI0 λ_ _ _ _ _ _ _ q=>sub_int q
def op_mul:OpR X (binaryOp .Mult) (rI CMul λi j=>.int (i * j)):=opI λ_ _ _ _ _ _ _ d q=>mul_int q d.ok
def zbV:OpR X (binaryOp .FloorDiv) (rI CDiv λi j=>.int (i / j)):=opI λi j _ _ _ _ _ d q=>by have f:(0:Int) < j:=d.1;have e:j < 1073741824:=d.2;exact floordiv_int (by lia) (by rw[Int.fdiv_eq_ediv_of_nonneg i (by lia)];exact q) (.inl (PyProof.noPylong_small (by lia)))
def zaO:OpR X (binaryOp .Mod) (rI (λ_ j=>0 < j) λi j=>.int (i % j)):=opI λi j _ _ _ _ _ d q=>by have e:(0:Int) < j:=d;exact mod_int' (by lia) (by rw[Int.fmod_eq_emod_of_nonneg i (by lia)];exact q)
def op_pow:OpR X (binaryOp .Pow) (rI CPow λi j=>.int (i ^ j.toNat)):=opI λ_ _ _ _ _ _ _ d q=>pow_int_small d.1 d.2.1 d.2.2 q
def unI {f:Value→Sem Value}{g:Int→Int}
    (d:∀(i:Int) (t:Tok) (s:Shared) (Q:Value→Shared→Prop) (E:Value→Shared→Prop),Q (.int (g i) s.toks) { s with toks:=s.toks+1 }→wpAny (model X.prog X.w) X.A (f (.int i t)) Q E s) :
    UnR X f (rU λi=>.int (g i)):=by intro e s k H x v Q I j h;obtain⟨i,rfl,q⟩:=h;obtain⟨t,rfl⟩:=j;exact d i t s _ _ ⟨.int (g i),H,I.tok _,⟨_,rfl⟩,q⟩
def zay:UnR X (unaryOp .USub) (rU λi=>.int (-i)):=unI λ_ _ _ _ _ q=>neg_int q
end
def scal:V→V→Bool
  | .non,.non=>true | .non,.int _=>true | .int _,.non=>true | .non,.bl _=>true | .bl _,.non=>true | .non,.str _=>true | .str _,.non=>true
  | .int _,.int _=>true | .bl _,.bl _=>true | .str _,.str _=>true | .byt _,.byt _=>true
  | .int _,.str _=>true | .str _,.int _=>true | .bl _,.str _=>true | .str _,.bl _=>true
  | _,_=>false
def rEq:R2:=λx y H Q=>scal x y=true∧Q (.bl (decide (x=y))) H
def rNe:R2:=λx y H Q=>scal x y=true∧Q (.bl (!decide (x=y))) H
def zkb:decide (V.int i=V.int j)=(i == j):=by rw[Bool.eq_iff_iff];simp
def zlh:decide (V.bl i=V.bl j)=(i == j):=by rw[Bool.eq_iff_iff];simp
def zka:decide (V.str i=V.str j)=(i == j):=by rw[Bool.eq_iff_iff];simp
def zkc:decide (V.byt i=V.byt j)=(i.toList == j.toList):=by rw[Bool.eq_iff_iff];cases i;cases j;simp
section
variable {X:Cx} {a b c:Expr} {ta tb tc:TE} {pos:Pos}
def zau (I:Inv X pins σ H s)(q:Q (.bl k) H)(e:k=k'):EP X pins σ Q (.bool k') s:=by subst e;exact⟨.bl k,H,I,rfl,q⟩
def zbd:OpR X (compareOp .Eq) rEq:=by
  intro f s g H x y v u Q I e d h;obtain⟨hs,q⟩:=h;cases x with
  | non =>
    cases e;cases y with
    | non=>cases d;exact PySem.EqNone.eq_none_none (zau I q (by simp))
    | bl j=>cases d;exact PySem.EqNone.eq_none_bool (zau I q (by simp))
    | int j=>obtain⟨t',rfl⟩:=d;exact PySem.EqNone.eq_none_int (zau I q (by simp))
    | str j=>obtain⟨t',rfl⟩:=d;exact PySem.EqNone.eq_none_str (zau I q (by simp))
    | _=>exact absurd (show false=true from hs) Bool.false_ne_true
  | bl i =>
    cases e;cases y with
    | non=>cases d;exact PySem.EqNone.eq_bool_none (zau I q (by simp))
    | bl j=>cases d;exact eq_bool (zau I q zlh)
    | str j=>obtain⟨t',rfl⟩:=d;exact PySem.EqMixed.eq_bool_str (zau I q (by simp))
    | _=>exact absurd (show false=true from hs) Bool.false_ne_true
  | int i =>
    obtain⟨t,rfl⟩:=e;cases y with
    | non=>cases d;exact PySem.EqNone.eq_int_none (zau I q (by simp))
    | int j=>obtain⟨t',rfl⟩:=d;exact eq_int (zau I q zkb)
    | str j=>obtain⟨t',rfl⟩:=d;exact PySem.EqMixed.eq_int_str (zau I q (by simp))
    | _=>exact absurd (show false=true from hs) Bool.false_ne_true
  | str i =>
    obtain⟨t,rfl⟩:=e;cases y with
    | non=>cases d;exact PySem.EqNone.eq_str_none (zau I q (by simp))
    | bl j=>cases d;exact PySem.EqMixed.eq_str_bool (zau I q (by simp))
    | int j=>obtain⟨t',rfl⟩:=d;exact PySem.EqMixed.eq_str_int (zau I q (by simp))
    | str j=>obtain⟨t',rfl⟩:=d;exact eq_str (zau I q zka)
    | _=>exact absurd (show false=true from hs) Bool.false_ne_true
  | byt i =>
    obtain⟨t,rfl⟩:=e;cases y with
    | byt j=>obtain⟨t',rfl⟩:=d;exact PySem.W.eq_bytes (zau I q zkc)
    | _=>exact absurd (show false=true from hs) Bool.false_ne_true
  | _=>cases y <;> exact absurd (show false=true from hs) Bool.false_ne_true
def zd0:OpR X (compareOp .NotEq) rNe:=by
  intro f s g H x y v u Q I e d h;obtain⟨hs,q⟩:=h;cases x with
  | non =>
    cases e;cases y with
    | non=>cases d;exact PySem.EqNone.ne_none_none (zau I q (by simp))
    | bl j=>cases d;exact PySem.EqNone.ne_none_bool (zau I q (by simp))
    | int j=>obtain⟨t',rfl⟩:=d;exact PySem.EqNone.ne_none_int (zau I q (by simp))
    | str j=>obtain⟨t',rfl⟩:=d;exact PySem.EqNone.ne_none_str (zau I q (by simp))
    | _=>exact absurd (show false=true from hs) Bool.false_ne_true
  | bl i =>
    cases e;cases y with
    | non=>cases d;exact PySem.EqNone.ne_bool_none (zau I q (by simp))
    | bl j=>cases d;exact ne_bool (zau I q (congrArg not zlh))
    | str j=>obtain⟨t',rfl⟩:=d;exact PySem.EqMixed.ne_bool_str (zau I q (by simp))
    | _=>exact absurd (show false=true from hs) Bool.false_ne_true
  | int i =>
    obtain⟨t,rfl⟩:=e;cases y with
    | non=>cases d;exact PySem.EqNone.ne_int_none (zau I q (by simp))
    | int j=>obtain⟨t',rfl⟩:=d;exact ne_int (zau I q (congrArg not zkb))
    | str j=>obtain⟨t',rfl⟩:=d;exact PySem.EqMixed.ne_int_str (zau I q (by simp))
    | _=>exact absurd (show false=true from hs) Bool.false_ne_true
  | str i =>
    obtain⟨t,rfl⟩:=e;cases y with
    | non=>cases d;exact PySem.EqNone.ne_str_none (zau I q (by simp))
    | bl j=>cases d;exact PySem.EqMixed.ne_str_bool (zau I q (by simp))
    | int j=>obtain⟨t',rfl⟩:=d;exact PySem.EqMixed.ne_str_int (zau I q (by simp))
    | str j=>obtain⟨t',rfl⟩:=d;exact ne_str (zau I q (congrArg not zka))
    | _=>exact absurd (show false=true from hs) Bool.false_ne_true
  | byt i =>
    obtain⟨t,rfl⟩:=e;cases y with
    | byt j=>obtain⟨t',rfl⟩:=d;exact PySem.W.ne_bytes (zau I q (congrArg not zkc))
    | _=>exact absurd (show false=true from hs) Bool.false_ne_true
  | _=>cases y <;> exact absurd (show false=true from hs) Bool.false_ne_true
def zd1:OpR X (compareOp .Lt) (rI0 λi j=>.bl (decide (i < j))):=opB0 λ_ _ _ _ _ _ _ q=>lt_int q
def op_le:OpR X (compareOp .LtE) (rI0 λi j=>.bl (decide (i≤j))):=opB0 λ_ _ _ _ _ _ _ q=>le_int q
def zbk:OpR X (compareOp .Gt) (rI0 λi j=>.bl (decide (j < i))):=opB0 λ_ _ _ _ _ _ _ q=>gt_int q
def zkt:OpR X (compareOp .GtE) (rI0 λi j=>.bl (decide (j≤i))):=opB0 λ_ _ _ _ _ _ _ q=>ge_int q
def zlz:OpR X (compareOp .In) (λx y H Q=>∃ i j,x=.str i∧y=.str j∧Q (.bl (!(Builtin.Str.occurrences j i 0 j.length 1).isEmpty)) H):=by intro d s g H x y v u Q I f e h;obtain⟨i,j,rfl,rfl,q⟩:=h;obtain⟨t,rfl⟩:=f;obtain⟨t',rfl⟩:=e;exact in_str (zau I q rfl)
def zk8:OpR X (compareOp .Is) (λx y H Q=>y=.non∧Q (.bl (decide (x=.non))) H):=by
  intro e s g H x y v u Q I d f h;obtain⟨rfl,q⟩:=h;cases f;refine is_none_gen (zau I q ?_);cases x <;> first
    | (cases d;rfl)
    | (obtain⟨t,rfl⟩:=d;rfl)
def zgo:OpR X (compareOp .IsNot) (λx y H Q=>y=.non∧Q (.bl (!decide (x=.non))) H):=by
  intro e s g H x y v u Q I d f h;obtain⟨rfl,q⟩:=h;cases f;refine isnot_none_gen (zau I q ?_);cases x <;> first
    | (cases d;rfl)
    | (obtain⟨t,rfl⟩:=d;rfl)
def zla (b:Expr){d:CmpOp}(h:d≠.In:=by decide)(e:d≠.NotIn:=by decide):behindInMarks d b=false:=by
  have g:(d == CmpOp.In)=false:=by cases d <;> first | rfl | exact absurd rfl h
  have f:(d == CmpOp.NotIn)=false:=by cases d <;> first | rfl | exact absurd rfl e
  cases b <;> simp [behindInMarks,g,f]
def zbc (j:OpR X (compareOp op) r)(n:PE X a ta)(l:PE X b tb)(k:behindInMarks op b=false:=by exact zla _):PE X (.Compare a [op] [b] pos) (tOp r ta tb):=by intro d s e H Q I h;exact wpAny_Compare1 (binT n l I h λv u f x y p o i g q=>j d f e p x y v u Q o i g q) k
def tTest (t:TE):TT:=λd H Q=>t d H λx H'=>isB x H' Q
def aA (q:OpR X (compareOp op) r)(A:PE X a ta)(w:PE X b tb)(t:behindInMarks op b=false:=by exact zla _):PT X (.Compare a [op] [b] pos) (tTest (tOp r ta tb)):=by
  intro d s f H Q I h;refine wpAny_isTrue_Compare1 (thn (A d s f H _ I h) λv i ⟨x,G,D,n,q1⟩=>thn (w d i f G _ D q1) λu g ⟨y,F,C,l,p⟩ =>
    thn (q d g f F x y v u _ C n l p) λc J ⟨z,E,B,j,k,e,o⟩=>?_) t
  subst e;cases j;exact wpAny_truthy_bool ⟨E,B,o⟩
def zeS:(sizeLine:Nat) < 2 ^ 63:=by rw[sizeLine_eq];decide
def zcx (r:aQ [x] us):∃ u,us=[u]∧aY x u:=by
  cases r with
  | cons e d=>cases d;exact⟨_,rfl,e⟩
def zg4 (r:aQ [x,y] us):∃ u d,us=[u,d]∧aY x u∧aY y d:=by
  cases r with
  | cons h g =>
    cases g with
    | cons f e=>cases e;exact⟨_,_,rfl,h,f⟩
def zdD:zbt X (.builtin "abs") (λxs H Q=>∃ i,xs=[.int i]∧Q (.int (if i < 0 then -i else i)) H):=by intro d s e H xs us Q I r h;obtain⟨i,rfl,q⟩:=h;obtain⟨u,rfl,t,rfl⟩:=zcx r;exact call_abs_int λu tk=>⟨.int (if i < 0 then -i else i),H,I.tok _,⟨_,rfl⟩,q⟩
def zl1 (f:X.calm=true):zbt X (.builtin "max") (λxs H Q=>∃ i j,xs=[.int i,.int j]∧Q (.int (if j > i then j else i)) H):=by
  intro e s g H xs us Q I r h;obtain⟨i,j,rfl,q⟩:=h;obtain⟨u,l,rfl,⟨t,rfl⟩,⟨t',rfl⟩⟩:=zg4 r;refine max_two_ints (I.ok.hd f) λh' tk k=>⟨_,H,I.kept k,?_,q⟩;by_cases d:j > i
  · rw[if_pos d,if_pos d];exact⟨_,rfl⟩
  · rw[if_neg d,if_neg d];exact⟨_,rfl⟩
def zl0 (f:X.calm=true):zbt X (.builtin "min") (λxs H Q=>∃ i j,xs=[.int i,.int j]∧Q (.int (if j < i then j else i)) H):=by
  intro e s g H xs us Q I r h;obtain⟨i,j,rfl,q⟩:=h;obtain⟨u,l,rfl,⟨t,rfl⟩,⟨t',rfl⟩⟩:=zg4 r;refine min_two_ints (I.ok.hd f) λh' tk k=>⟨_,H,I.kept k,?_,q⟩;by_cases d:j < i
  · rw[if_pos d,if_pos d];exact⟨_,rfl⟩
  · rw[if_neg d,if_neg d];exact⟨_,rfl⟩
def zl4:zbt X (.type "int") (λxs H Q=>(∃ i,xs=[.int i]∧Q (.int i) H)∨∃ k,xs=[.bl k]∧Q (.int (if k then 1 else 0)) H):=by
  intro d s f H xs us Q I r h;rcases h with ⟨i,rfl,q⟩ | ⟨k,rfl,q⟩
  · obtain⟨u,rfl,t,rfl⟩:=zcx r;exact call_int_int ⟨.int i,H,I,⟨_,rfl⟩,q⟩
  · obtain⟨u,rfl,e⟩:=zcx r;cases e;exact call_int_bool ⟨.int (if k then 1 else 0),H,I.tok _,⟨_,rfl⟩,q⟩
end
structure zgB (h:Heap)(x dx C:Addr)(mA:Str→Option Value):Prop where
  obj:h.get? x=some (PySem.W.instObj C dx)
  ns:h.Ns1 dx mA
  ne:dx≠x
def zlR {h:Heap}{d:Addr}{c:Str→Option Value}(n:h.Ns1 d c):∃ od,h.get? d=some od∧∀ name,PySem.W.lookIn name od=some (c name):=by
  obtain⟨o,es,p,g,k,j,_,i⟩:=n;refine⟨o,g,λname=>?_⟩;have e:=i name;unfold nsFind findBy at e;rw[←Array.find?_toList]at e;unfold PySem.W.lookIn;rw[k];dsimp only;split
  · rename_i y q;rw[q]at e;exact congrArg some e
  · rename_i q;rw[q]at e;have a:es.toList.any (·.refKey)=false:=by rw[List.any_eq_false];intro y f;obtain⟨z,t,b⟩:=j y (Array.mem_toList_iff.mp f);simp [DictEntry.refKey,b]
    have l:¬es.toList.any (·.refKey)=true:=by rw[a];exact Bool.false_ne_true
    rw[if_neg l];exact congrArg some e
def zgB.look (I:zgB h x dx C mA):∃ od,PySem.W.InstAt h x (PySem.W.instObj C dx) C (some od)∧∀ name,PySem.W.lookIn name od=some (mA name) :=
  let ⟨od,ho,hl⟩:=zlR I.ns
  ⟨od,⟨I.obj,rfl,rfl,ho⟩,hl⟩
section
variable {prog:Program} {w:World} {A:Around} {E:Value→Shared→Prop} {s:Shared} {K:PySem.W.Frag} {x dx C f:Addr} {mA:Str→Option Value} {name:Str} {v:Value}
def zod (X:K.In s.heap)(I:zgB s.heap x dx C mA)(e:PySem.W.plainGet K C name=true)(d:PySem.W.hasDictIn K C=true)
    (g:PySem.W.findIn K (.ref C) name=some none)(b:mA name=some v)(a:PySem.W.handedIn v=true)(h:Q v { s with toks:=s.toks+1 }) :
    wpAny (model prog w) A (getAttr (.ref x) name expr) Q E s:=by obtain⟨od,J,c⟩:=I.look;exact PySem.W.get_value X J (PySem.W.plainGet_of e).1 (PySem.W.findObj_own d g rfl (by rw[c,b])) a h
def zm6 (X:K.In s.heap)(I:zgB s.heap x dx C mA)(a:PySem.W.plainGet K C name=true)
    (hf:PySem.W.findIn K (.ref C) name=some (some (.ref f)))(c:PySem.W.isFn K (.ref f)=true)(b:mA name=none)(h:Q (.ref f,[.ref x]) s) :
    wpAny (model prog w) A (getMethod (.ref x) name pl) Q E s:=by obtain⟨od,J,d⟩:=I.look;exact PySem.W.method_fn X J (PySem.W.plainGet_of a).1 (PySem.W.plainGet_of a).2 hf (beq_iff_eq.mp c) (by show(PySem.W.lookIn name od).map (·.isSome)=some false;rw[d,b];rfl) h
def znv (X:K.In s.heap)(I:zgB s.heap x dx C mA)
    (hs:PySem.W.findIn K (.ref C) "__setattr__"=some (some (.builtin "object.__setattr__")))(o:PySem.W.plainOver K C=true)(n:PySem.W.takerIn K C name=some none)(p:PySem.W.hasDictIn K C=true)
    (l:PySem.Within mA ns)(hsz:ns.length≤sizeLine)
    (h:∀ h',zgB h' x dx C (λy=>if y=name then some v else mA y)→Heap.SameBut dx s.heap h'→Q () { s with heap:=h',toks:=s.toks+2 }) :
    wpAny (model prog w) A (setAttr (.ref x) name v) Q E s:=by obtain⟨od,J,B⟩:=I.look;refine PySem.W.set_plain X J hs (PySem.W.osa_open (s:={ s with toks:=s.toks+1 }) (r:=none) X J o n λb=>?_);obtain⟨D,q,i⟩:=PySem.W.any_some p;have k:s.heap.get? x=some ⟨.ref C,some dx,.plain,#[]⟩:=I.obj;refine wpAny_bind (wpAny_pure (wpAny_bind (wpAny_bind (wpAny_loadPart k (wpAny_bind (PySem.W.Looks.here (s:={ s with toks:=s.toks+1 }) (PySem.W.looks_clsIn X q) ?_))))));rw[i];refine wpAny_pure (a:=some dx) (wpAny_bind (wpAny_pure (wpAny_bind ?_)));refine wpAny_nsSet1 (s:={ s with toks:=s.toks+1 }) I.ns λh' d c=>?_;obtain⟨z,t,u,e,g,j⟩:=d.count (PySem.Within.cons name v l);refine wpAny_bind (wpAny_lookBehind e (by rw[g];exact pastItsLine_dict (Nat.le_trans j (by rw[List.length_cons];lia))) ?_);exact wpAny_pure (h _ ⟨(c.2 _ (Ne.symm I.ne)).trans I.obj,d,I.ne⟩ c)
def zmY (X:K.In s.heap)(b:PySem.W.makesIn K C=true)
    (c:PySem.W.findIn K (.ref C) "__init__"=some (some (.ref f)))(hf:PySem.W.typeIn K (.ref f)=some (.type "function"))
    (h:codeAny (model prog w) (A.under (.builtin "type.__call__" ⟨.ref C :: vs,kw⟩)) (.call (.ref f) ⟨.ref (s.heap.objs.size+1) :: vs,kw⟩) (PySem.W.InitBack (s.heap.objs.size+1) R)
      { s with heap:=(s.heap.push PySem.W.emptyDict).push (PySem.W.instObj C s.heap.objs.size) }) :
    codeAny (model prog w) A (.call (.ref C) ⟨vs,kw⟩) R s:=by obtain⟨i,g,d,t,e⟩:=s;exact PySem.W.make_core (PySem.W.makes_of X b) (PySem.W.looks_findIn X c) (λa=>PySem.W.bind_fn X a hf) (.inl rfl) h
end
def zaT (f:Str)(v:V):List (Str × V)→List (Str × V)
  | []=>[(f,v)]
  | (g,x) :: r=>if g=f then(g,v) :: r else(g,x) :: zaT f v r
def za1 (f g:Str)(v:V):∀ c:List (Str × V),(zaT f v c).lookup g=if g=f then some v else c.lookup g
  | []=>by
    show List.lookup g [(f,v)]=_;by_cases h:g=f
    · have a:(g == f)=true:=beq_iff_eq.mpr h;simp only[List.lookup,a,if_pos h]
    · have a:(g == f)=false:=beq_eq_false_iff_ne.mpr h;simp only[List.lookup,a,if_neg h]
  | (k,x) :: r=>by
    have d:=za1 f g v r;rw[show zaT f v ((k,x) :: r)=(if k=f then(k,v) :: r else(k,x) :: zaT f v r) from rfl]
    by_cases b:k=f
    · rw[if_pos b];by_cases h:g=k
      · have a:(g == k)=true:=beq_iff_eq.mpr h;simp only[List.lookup,a,if_pos (h.trans b)]
      · have a:(g == k)=false:=beq_eq_false_iff_ne.mpr h;simp only[List.lookup,a,if_neg (λe:g=f=>h (e.trans b.symm))]
    · rw[if_neg b];by_cases h:g=k
      · have a:(g == k)=true:=beq_iff_eq.mpr h;simp only[List.lookup,a,if_neg (λe:g=f=>b (h.symm.trans e))]
      · have a:(g == k)=false:=beq_eq_false_iff_ne.mpr h;simp only[List.lookup,a];exact d
def zfY (f:Str)(v:V):∀ b:List (Str × V),f∈(zaT f v b).map (·.1)∧∀ g,g∈b.map (·.1)→g∈(zaT f v b).map (·.1)
  | []=>⟨by simp [zaT],λg h=>by simp at h⟩
  | (k,x) :: r=>by
    obtain⟨d,c⟩:=zfY f v r;rw[show zaT f v ((k,x) :: r)=(if k=f then(k,v) :: r else(k,x) :: zaT f v r) from rfl]
    by_cases a:k=f
    · rw[if_pos a];subst a;exact⟨by simp,λg h=>by simpa using h⟩
    · rw[if_neg a];refine⟨?_,λg h=>?_⟩
      · rw[List.map_cons];exact List.mem_cons_of_mem _ d
      · rw[List.map_cons]at h ⊢;rcases List.mem_cons.mp h with e | e
        · exact List.mem_cons.mpr (.inl e)
        · exact List.mem_cons_of_mem _ (c g e)
def zgy (f:Str)(v:V):∀ b:List (Str × V),(zaT f v b).length≤b.length+1
  | []=>by simp [zaT]
  | (k,x) :: r=>by
    have c:=zgy f v r;rw[show zaT f v ((k,x) :: r)=(if k=f then(k,v) :: r else(k,x) :: zaT f v r) from rfl]
    by_cases a:k=f
    · rw[if_pos a,List.length_cons,List.length_cons];lia
    · rw[if_neg a,List.length_cons,List.length_cons];lia
def zb2.some_of (r:zb2 (some v) o):∃ u,o=some u∧aY v u:=by
  cases o with
  | none=>exact(show False from r).elim
  | some u=>exact⟨u,rfl,r⟩
def zb2.none_of (r:zb2 none o):o=none:=by
  cases o with
  | none=>rfl
  | some u=>exact(show False from r).elim
def zlW (r:aY v u):PySem.W.handedIn u=true:=by
  cases v with
  | non=>cases (show u=Value.none from r);rfl
  | bl b=>cases (show u=Value.bool b from r);rfl
  | int i=>obtain⟨t,e⟩:=(show ∃ t,u=Value.int i t from r);cases e;rfl
  | str x=>obtain⟨t,e⟩:=(show ∃ t,u=Value.str x t from r);cases e;rfl
  | byt b=>obtain⟨t,e⟩:=(show ∃ t,u=Value.bytes b t from r);cases e;rfl
  | flt b=>obtain⟨t,e⟩:=(show ∃ t,u=Value.float b t from r);cases e;rfl
  | ref a=>cases (show u=Value.ref a from r);rfl
  | ty n=>cases (show u=Value.type n from r);rfl
section
variable {P:Program} {w:World} {H H':Hp} {h h':Heap} {a C dx:Addr} {fs fs':List (Str × V)}
def zhL (c:HOk P w H h)(e:H a=some (.ins C dx fs)):∃ b,zgB h a dx C b∧(∀ f,zb2 (fs.lookup f) (b f))∧PySem.Within b (fs.map (·.1))∧fs.length≤1000∧H dx=some (.own a):=by obtain⟨d,z,i,g,b,n,r,q⟩:=(show zaz P w H h a (.ins C dx fs) from c a _ e);exact⟨b,⟨g,n,i⟩,r,q,z,d⟩
end
structure Cls (K:PySem.W.Frag)(C:Addr):Prop where
  pg:PySem.W.plainGet K C Str.empty=true
  hd:PySem.W.hasDictIn K C=true
  po:PySem.W.plainOver K C=true
  sa:PySem.W.findIn K (.ref C) "__setattr__"=some (some (.builtin "object.__setattr__"))
def Cls.get {K:PySem.W.Frag}{C:Addr}(c:Cls K C)(f:Str):PySem.W.plainGet K C f=true:=c.pg
def zaE (K:PySem.W.Frag)(C:Addr)(f:Str):Prop:=PySem.W.findIn K (.ref C) f=some none
def zaE.taker {K:PySem.W.Frag}{C:Addr}{f:Str}(n:zaE K C f):PySem.W.takerIn K C f=some none:=by unfold PySem.W.takerIn;rw[show PySem.W.findIn K (.ref C) f=some none from n];rfl
structure zbh (K:PySem.W.Frag)(C:Addr)(m:Str)(f:Addr):Prop where
  at_:PySem.W.findIn K (.ref C) m=some (some (.ref f))
  fn:PySem.W.isFn K (.ref f)=true
  kp:PySem.W.keepIn K (.ref f)=true
section
variable {X:Cx} {pins:List (Addr × Obj)} {σ:St} {H:Hp} {s:Shared} {a C dx:Addr} {fs:List (Str × V)} {f:Str} {v:V} {A:Around} {E:Value→Shared→Prop}
def zhq (I:Inv X pins σ H s)(e:H a=some (.ins C dx fs))(c:Cls X.K C)(n:zaE X.K C f)(l:fs.lookup f=some v)
    (h:∀ u s',Inv X pins σ H s'→aY v u→Q u s'):wpAny (model X.prog X.w) A (getAttr (.ref a) f b) Q E s:=by obtain⟨g,O,r,_,_,_⟩:=zhL I.hok e;obtain⟨u,i,d⟩:=zb2.some_of (v:=v) (o:=g f) (by rw[←l];exact r f);exact zod I.kIn O (c.get f) c.hd n i (zlW d) (h u _ (I.tok _) d)
def zhp (I:Inv X pins σ H s)(e:H a=some (.ins C dx fs))(c:Cls X.K C)(k:zbh X.K C m g)(l:fs.lookup m=none)
    (h:Q (.ref g,[.ref a]) s):wpAny (model X.prog X.w) A (getMethod (.ref a) m pl) Q E s:=by obtain⟨b,O,r,_,_,_⟩:=zhL I.hok e;have d:b m=none:=zb2.none_of (by rw[←l];exact r m);exact zm6 I.kIn O (c.get m) k.at_ k.fn d h
def zhj (I:Inv X pins σ H s)(e:H a=some (.ins C dx fs))(c:Cls X.K C)(n:zaE X.K C f)(G:fs.length < 1000)(p:aY y u)
    (h:∀ s',Inv X pins σ (upd H a (.ins C dx (zaT f y fs))) s'→Q () s'):wpAny (model X.prog X.w) A (setAttr (.ref a) f u) Q E s:=by
  obtain⟨j,O,r,i,_,k⟩:=zhL I.hok e;have t:(fs.map (·.1)).length≤sizeLine:=by rw[lM,sizeLine_eq];lia
  refine znv I.kIn O c.sa c.po n.taker c.hd i t λh' d l=>h _ ?_;have D:∃ o,h'.get? dx=some o:=let ⟨o,_,_,e',_⟩:=d.ns;⟨o,e'⟩;refine I.write (x:=a) (e:=dx) (by rw[e];exact True.intro) (.inr k) (λb q F z=>(l.2 b F).trans z) D ?_;refine⟨by rw[ag O.ne];exact k,?_,O.ne,d.obj,_,d.ns,λg=>?_,λg B=>?_⟩
  · have:=zgy f y fs;lia
  · show zb2 ((zaT f y fs).lookup g) (if g=f then some u else j g)
    rw[za1];by_cases q:g=f
    · rw[if_pos q,if_pos q];exact p
    · rw[if_neg q,if_neg q];exact r g
  · by_cases q:g=f
    · rw[q];exact(zfY f y fs).1
    · refine(zfY f y fs).2 g (i g λz=>B ?_);show(if g=f then some u else j g)=none
      rw[if_neg q];exact z
def Inv.made (I:Inv X pins σ H s):Inv X pins σ (upd (upd H s.heap.objs.size (.own (s.heap.objs.size+1))) (s.heap.objs.size+1) (.ins C s.heap.objs.size []))
    { s with heap:=(s.heap.push PySem.W.emptyDict).push (PySem.W.instObj C s.heap.objs.size) }:=by
  have d:(s.heap.push PySem.W.emptyDict).get? s.heap.objs.size=some PySem.W.emptyDict:=Heap.get?_push_size s.heap rfl;have j:((s.heap.push PySem.W.emptyDict).push (PySem.W.instObj C s.heap.objs.size)).get? (s.heap.objs.size+1)=some (PySem.W.instObj C s.heap.objs.size):=by have:=Heap.get?_push_size (s.heap.push PySem.W.emptyDict) (o:=PySem.W.instObj C s.heap.objs.size) rfl;rwa [Heap.size_push]at this
  have i:(s.heap.push PySem.W.emptyDict).Ns s.heap.objs.size (λ_=>none):=⟨PySem.W.emptyDict,#[],_,d,rfl,(λe h=>absurd h (by simp)),λ_=>rfl⟩;have k:=I.laid (a:=s.heap.objs.size) (o:=.own (s.heap.objs.size+1)) (h':=s.heap.push PySem.W.emptyDict) (t':=s.toks) (λb u q=>hG _ q) (nRq _) ⟨_,d⟩;refine k.laid (a:=s.heap.objs.size+1) (o:=.ins C s.heap.objs.size []) (t':=s.toks) (λb u q=>hG _ q) (Nat.le_of_eq (Heap.size_push _ _)) ?_;have c:s.heap.objs.size≠s.heap.objs.size+1:=Nat.ne_of_lt (Nat.lt_succ_self _);refine⟨by rw[ag c,af],Nat.zero_le _,c,j,λ_=>none,(Heap.Ns1.of_empty i).at λo q=>hG _ q,λ_=>True.intro,λy g=>absurd rfl g⟩
def zoh (c:attributeBase e f env (eval e env)=eval e env)
    (h:wpAny (model prog w) A (eval e env) (λo b=>wpAny (model prog w) A (getAttr o f true) Q E b) E s):wpAny (model prog w) A (eval (.Attribute e f pos) env) Q E s :=
  Attribute_any_ h (by rw[arm_eval_Attribute,c])
end
inductive rFld (K:PySem.W.Frag)(f:Str):V→Hp→VK→Prop|m{x H Q} a C dx fs v:x=.ref a→H a=some (.ins C dx fs)→Cls K C→zaE K C f→fs.lookup f=some v→Q v H→rFld K f x H Q
def tFld (K:PySem.W.Frag)(b:TE)(f:Str):TE:=λa H Q=>b a H λx c=>rFld K f x c Q
def sFld (K:PySem.W.Frag)(h g:TE)(f:Str):TS:=λD b H=>g b H λy i=>h b i λx e=>∃ a C d c,x=.ref a∧e a=some (.ins C d c)∧Cls K C∧zaE K C f∧c.length < 1000 ∧
  D.nx b (upd e a (.ins C d (zaT f y c)))
def InOp (X:Cx)(d:Operator)(c:V→V→Hp→VK→Prop):Prop :=
  ∀(a:List (Addr × Obj)) (s:Shared) (b:St) (H:Hp) (x y:V) (u v:Value) (Q:VK),Inv X a b H s→aY x u→aY y v→c x y H Q→wpAny (model X.prog X.w) X.A (inplaceOp d u v) (EP X a b Q) X.xe s
def znz (K:PySem.W.Frag)(j i:TE)(k:V→V→Hp→VK→Prop)(f:Str):TS:=λD d H=>j d H λx h=>∃ a C l e v,x=.ref a∧h a=some (.ins C l e)∧Cls K C∧zaE K C f∧e.lookup f=some v ∧
  i d h λy n=>k v y n λz g=>∃ c b,g a=some (.ins C c b)∧b.length < 1000∧D.nx d (upd g a (.ins C c (zaT f z b)))
section
variable {X:Cx} {o e value:Expr} {f:Str} {pos pos' tpos:Pos} {ta tv:TE}
def aB (j:PE X e ta)(k:attributeBase e f X.env (eval e X.env)=eval e X.env):PE X (.Attribute e f pos) (tFld X.K ta f):=by intro b s d H Q I h;refine zoh k (thn (j b s d H _ I h) λu A ⟨x,w,t,g,a,C,D,B,v,p,ea,c,n,l,q⟩=>?_);subst p;obtain rfl:u=Value.ref a:=g;exact zhq t ea c n l λy z r i=>⟨v,w,r,i,q⟩
def zaY (t:PE X o ta)(r:PE X value tv)(hs:swapsWith value (some (.Attribute o f pos')) pos.line X.env=pure false):PS X (.Assign [.Attribute o f pos'] value pos) (sFld X.K ta tv f):=by intro b s d H D I h;refine plainObj_wpAny_Assign_Attribute (thn (r b s d H _ I h) λu g ⟨y,B,A,i,q⟩=>thn (t b g d B _ A q) λp F ⟨x,L,z,j,a,C,J,G,v,ea,c,n,l,k⟩=>?_) hs;subst v;obtain rfl:p=Value.ref a:=j;exact zhj z ea c n l i λE w=>⟨d,_,w,k⟩
def zlt (L:PE X o ta)(J:PE X value tv)(g:InOp X op rd):PS X (.AugAssign (.Attribute o f tpos) op value pos) (znz X.K ta tv rd f):=by intro b s d H D I h;refine wpAny_AugAssign_AttributeAny (thn (L b s d H _ I h) λF s1 ⟨x,W,T,w,a,C,dx,fs,v,N,ea,c,n,l,q⟩=>?_);subst N;obtain rfl:F=Value.ref a:=w;refine zhq T ea c n l λu p S A=>thn (J b p d W _ S q) λj k ⟨y,U,R,t,E⟩=>thn (g b k d U v y u j _ R A t E) λY s4 ⟨z,H3,Q,r,O,M,i,G,B⟩=>?_;exact zhj Q i c n G r λZ P=>⟨d,_,P,B⟩
inductive rAdd:V→V→Hp→VK→Prop|m{x y H Q} i j:x=.int i→y=.int j→Q (.int (i+j)) H→rAdd x y H Q
def in_add:InOp X .Add rAdd:=by rintro a s d H x y u v Q I c b ⟨i,j,rfl,rfl,q⟩;obtain⟨t,rfl⟩:=(show ∃ t,u=Value.int i t from c);obtain⟨t',rfl⟩:=(show ∃ t',v=Value.int j t' from b);exact PyProof.Rows.iadd_int ⟨.int (i+j),H,I.tok _,⟨_,rfl⟩,q⟩
end
structure zax (k:Nat)(A:Around):Prop where
  hd:A.handled=none
  dp:A.depth+3 * k+5 < recursionLimit
  un:A.units+16 * k+200 < cLine
  gd:A.guards=some []
def zax.mono (r:zax k A)(h:j≤k):zax j A:=⟨r.hd,by have:=r.dp;lia,by have:=r.un;lia,r.gd⟩
def zax.deeper (r:zax (k+1) A)(env:Env):zax k (A.deeper env) :=
  ⟨r.hd,by have:=r.dp;show A.depth+1+3 * k+5 < _;lia,by have:=r.un;show A.units+3+16 * k+200 < _;lia,r.gd⟩
def zkK {A:Around}{C:Addr}{us:List Value}{a:List (Str × Value)}:(A.under (.builtin "type.__call__" ⟨.ref C :: us,a⟩)).depth=A.depth+1:=by
  first | rfl | simp [Around.under,Code.weight,Code.isCreation,Code.isGuard,Code.isCaller,Code.frames,Code.isFrame,guardIds]
def zkJ {A:Around}{C:Addr}{us:List Value}{a:List (Str × Value)}:(A.under (.builtin "type.__call__" ⟨.ref C :: us,a⟩)).units=A.units+1:=by
  first | rfl | simp [Around.under,Code.cUnits,Code.frames,Code.isFrame]
def zjC {A:Around}{C:Addr}{us:List Value}{a:List (Str × Value)}(h:A.guards=some []):(A.under (.builtin "type.__call__" ⟨.ref C :: us,a⟩)).guards=some []:=by
  first | exact h | simp [Around.under,Code.guards,Code.isGuard,guardIds,pushGuards,h]
def zax.make {k:Nat}{A:Around}(r:zax (k+1) A)(C:Addr)(us:List Value)(a:List (Str × Value)):zax k (A.under (.builtin "type.__call__" ⟨.ref C :: us,a⟩)) :=
  ⟨r.hd,by have:=r.dp;rw[zkK];lia,by have:=r.un;rw[zkJ];lia,zjC r.gd⟩
def zax.depth (r:zax k A):A.depth < recursionLimit:=by have:=r.dp;lia
def zax.units (r:zax k A):A.units+64 < cLine:=by have:=r.un;lia
def zc7:TA:=λ_ H Q=>Q [] H
def ziw (c:TE)(b:TA):TA:=λa H Q=>c a H λx e=>b a e λxs d=>Q (x :: xs) d
section
variable {X:Cx} {e:Expr} {es:List Expr} {te:TE} {t:TA} {pos:Pos}
def ac:PA X [] zc7:=λ_ _ _ _ H Q I h=>Calls.spliced_nil ⟨[],H,I,.nil,h⟩
def aa (j:PE X e te)(i:PA X es t)(hs:starEach (e :: es) X.env=(false,eval e X.env) :: starEach es X.env:=by rfl):PA X (e :: es) (ziw te t):=by intro pos a s b H Q I h;rw[hs];show wpAny _ _ (spliced ((false,eval e X.env) :: backTo pos (starEach es X.env))) _ _ s;refine Calls.spliced_cons (thn (j a s b H _ I h) λu c ⟨x,o,l,f,q1⟩=>?_);exact thn (i pos a c b o _ l q1) λus p ⟨xs,n,k,d,g⟩=>⟨x :: xs,n,k,.cons f d,g⟩
def tTup (t:TA):TE:=λb H Q=>t b H λxs a=>xs.length≤sizeLine∧∀ p,a p=none→Q (.ref p) (upd a p (.tup xs))
def tLst (t:TA):TE:=λb H Q=>t b H λxs a=>xs.length≤sizeLine∧∀ p,a p=none→Q (.ref p) (upd a p (.lst xs))
def zbz (h:PA X es t):PE X (.Tuple es x1 pos) (tTup t):=by intro a s g H Q I i;refine wpAny_Tuple_spliced (thn (h pos a s g H _ I i) λus c ⟨xs,f,d,r,z,q⟩=>⟨by rw[←r.length];exact z,?_⟩);have hf:f c.heap.objs.size=none:=d.hok.fresh (nRq _);refine⟨.ref c.heap.objs.size,upd f c.heap.objs.size (.tup xs),d.laid (t':=c.toks) (λb u e=>hG _ e) (nRq _) ?_,rfl,q _ hf⟩;exact⟨z,us,r,⟨_,Heap.get?_push_size _ rfl,rfl,_,rfl⟩⟩
def zaD (h:PA X es t):PE X (.List es pos) (tLst t):=by intro a s g H Q I i;refine wpAny_List_spliced (thn (h pos a s g H _ I i) λus c ⟨xs,f,d,r,z,q⟩=>⟨by rw[←r.length];exact z,?_⟩);have hf:f c.heap.objs.size=none:=d.hok.fresh (nRq _);refine⟨.ref c.heap.objs.size,upd f c.heap.objs.size (.lst xs),d.laid (t':=c.toks) (λb u e=>hG _ e) (nRq _) ?_,rfl,q _ hf⟩;exact⟨z,us,0,r,Heap.get?_push_size _ rfl⟩
end
abbrev Sp:=List V→Hp→VK→XK→Prop
abbrev CXT:=List Env→Hp→Shared→XK→Value→Shared→Prop
structure zfA (P:Program)(w:World)(K:PySem.W.Frag)(mg:Str→Option Value)(base:Heap)(A:Around)(outer:List Env)(s:Shared)(H:Hp):Prop where
  frames:A.frames=some outer
  mod:Mod K mg base
  bs:∀ b o,base.get? b=some o→s.heap.get? b=some o∧H b=none
  bsz:base.objs.size≤s.heap.objs.size
  funs:s.heap.FunFrames base outer
  frf:∀ b∈frs outer,H b=none
  hok:HOk P w H s.heap
  bare:AllBare s.gens
def CE (outer:List Env)(P:Program)(w:World)(H:Hp)(s:Shared)(Q:VK)(u:Value)(s':Shared):Prop :=
  ∃ v H',s'.os=s.os∧AllBare s'.gens∧Un (frs outer) [] H H' s.heap s'.heap∧HOk P w H' s'.heap∧aY v u∧Q v H'
def CR (CX:CXT)(outer:List Env)(P:Program)(w:World)(H:Hp)(s:Shared)(Q:VK)(E:XK)(r:Result)(s':Shared):Prop :=
  match r with
  | .ok (.ret u)=>CE outer P w H s Q u s'
  | .ok _=>False
  | .error e=>CX outer H s E e s'
structure aI (P:Program)(w:World)(K:PySem.W.Frag)(mg:Str→Option Value)(base:Heap)(CX:CXT)(k:Nat)(f:Addr)(fd:FuncData)(ps:List Str)(sp:Sp):Prop where
  len:∀ vs H Q E,sp vs H Q E→vs.length=ps.length
  run:∀(A:Around) (outer:List Env) (s:Shared) (H:Hp) (args:Args) (us:List Value) (vs:List V) (Q:VK) (E:XK),zax k A→zfA P w K mg base A outer s H→BindsTo s fd args (ps.zip us)→aQ vs us→sp vs H Q E →
    codeAny (model P w) A (.call (.ref f) args) (CR CX outer P w H s Q E) s
def zfA.make {P:Program}{w:World}{K:PySem.W.Frag}{mg:Str→Option Value}{base:Heap}{A:Around}{outer:List Env}{s:Shared}{H:Hp}(e:zfA P w K mg base A outer s H)(C:Addr)(us:List Value)(a:List (Str × Value)) :
    zfA P w K mg base (A.under (.builtin "type.__call__" ⟨.ref C :: us,a⟩)) outer s H:=⟨by first | exact e.frames | (simpa [Around.under,Code.envs,Code.isFrame,pushEnvs] using e.frames),e.mod,e.bs,e.bsz,e.funs,e.frf,e.hok,e.bare⟩
section
variable {X:Cx} {pins:List (Addr × Obj)} {σ:St} {H:Hp} {s s':Shared}
def Inv.env0 (I:Inv X pins σ H s):zfA X.prog X.w X.K X.mg X.base X.A X.stack s H :=
  ⟨I.ok.frames,I.ok.mod,I.bs,Nat.le_trans I.ok.bsz I.sz,I.stack,I.stkFree,I.hok,I.bare⟩
def Inv.after (I:Inv X pins σ H s)(h:CE X.stack X.prog X.w H s Q u s'):EP X pins σ Q u s':=by obtain⟨v,H',i,a,f,e,r,q⟩:=h;obtain⟨j,g,d,t,c⟩:=s';obtain rfl:c=s.os:=i;exact⟨v,H',I.call (h':=j) (g':=g) (d':=d) (t':=t) (ch:=[]) f e a (λb z=>absurd z (by simp)),r,q⟩
end
def zkl (sp:Sp)(a:List V)(E:XK)(t:TA):TE:=λb H Q=>t b H λvs c=>sp (vs++a) c Q E
inductive isO (C:Addr)(m:Str):V→Hp→Prop→Prop|m{x H R} a dx fs:x=.ref a→H a=some (.ins C dx fs)→fs.lookup m=none→R→isO C m x H R
def zkk (C:Addr)(m:Str)(sp:Sp)(a:List V)(E:XK)(d:TE)(t:TA):TE:=λb H Q=>d b H λx c=>isO C m x c <| t b c λvs e=>sp (x :: (vs++a)) e Q E
def tMake (C:Addr)(sp:Sp)(b:List V)(E:XK)(t:TA):TE:=λd H Q=>t d H λvs c=>∀ x a,c x=none→c a=none→a≠x →
  sp (.ref x :: (vs++b)) (upd (upd c a (.own x)) x (.ins C a [])) (λv e=>v=.non∧Q (.ref x) e) E
def az (K:PySem.W.Frag)(b:FuncData)(ps:List Str)(a:List Value):Prop :=
  ∀(s:Shared) (us:List Value),K.In s.heap→(us++a).length=ps.length→BindsTo s b ⟨us,[]⟩ (ps.zip (us++a))
def az.all {K:PySem.W.Frag}{b:FuncData}{ps:List Str}(h:∀ us:List Value,us.length=ps.length→bindArgs b ⟨us,[]⟩=pure (ps.zip us)):az K b ps []:=λs us _ a=>by rw[List.append_nil]at a ⊢;exact .of_eq (h us a)
def zcP (CX:CXT)(X:Cx)(E:XK):Prop:=∀(a:List (Addr × Obj)) (b:St) (H:Hp) (s:Shared) (e:Value) (s':Shared),Inv X a b H s→CX X.stack H s E e s'→X.xe e s'
section
variable {X:Cx} {CX:CXT} {k:Nat} {f C:Addr} {fd:FuncData} {ps:List Str} {sp:Sp} {dvs:List V} {ds:List Value} {E:XK} {x m:Str} {p pos apos:Pos} {e o:Expr} {es:List Expr} {ta:TE} {t:TA}
def ziL (F:aI X.prog X.w X.K X.mg X.base CX k f fd ps sp)(d:zax k X.A)(j:az X.K fd ps ds)(i:aQ dvs ds)(c:zcP CX X E)
    (I:Inv X pins σ H s)(r:aQ vs us)(h:sp (vs++dvs) H Q E):wpAny (model X.prog X.w) X.A (call (.ref f) us) (EP X pins σ Q) X.xe s:=by
  have b:aQ (vs++dvs) (us++ds):=r.append i;have g:(us++ds).length=ps.length:=by rw[←b.length];exact F.len _ _ _ _ h
  refine wpAny_call (codeAny_mono (F.run X.A X.stack s H ⟨us,[]⟩ (us++ds) (vs++dvs) Q E d I.env0 (j s us I.kIn g) b h) λr s' a=>?_);cases r with
  | error e=>exact c pins σ H s e s' I a
  | ok l =>
    cases l with
    | ret u=>exact I.after a
    | next=>exact False.elim a
    | brk=>exact False.elim a
    | cont=>exact False.elim a
def zai (F:aI X.prog X.w X.K X.mg X.base CX k f fd ps sp)(j:zax k X.A)(u:Gl X x)(l:X.mg x=some (.ref f))(n:PySem.W.keepIn X.K (.ref f)=true)(z:az X.K fd ps ds)(y:aQ dvs ds)(i:zcP CX X E)
    (B:PA X (e :: es) t)(c:(x == ("__debug__":Str))=false:=by decide)(v:starEach (e :: es) X.env=(false,eval e X.env) :: starEach es X.env:=by rfl)(b:(backTo pos (starEach es X.env)).any (·.1)=false:=by rfl) :
    PE X (.Call (.Name x p) (e :: es) [] pos) (zkl sp dvs E t):=by intro a s g H Q I h;refine wpAny_Call_Name_kw (zc4 I u l ?_ c);refine PySem.W.callWith_K (h₀:=X.base) I.ok.mod.kin n (thn (B pos a s g H _ I h) λus D ⟨vs,G,d,r,q⟩=>⟨d.kIn,?_⟩) v b;exact ziL F j z y i d r q
def zaZ (M:PE X o ta)(c:Cls X.K C)(n:zbh X.K C m f)(F:aI X.prog X.w X.K X.mg X.base CX k f fd ps sp)(L:zax k X.A)(O:az X.K fd ps ds)(N:aQ dvs ds)(G:zcP CX X E)(P:PA X (e :: es) t)
    (d:starEach (e :: es) X.env=(false,eval e X.env) :: starEach es X.env:=by rfl)(g:(backTo pos (starEach es X.env)).any (·.1)=false:=by rfl)
    (J:eval (.Call (.Attribute o m apos) (e :: es) [] pos) X.env=(do
      let j ←eval o X.env
      standAt apos.atName
      let (f,first) ←holding [j] (getMethod j m pl)
      callWith pos f first (backTo pos (starEach (e :: es) X.env)) (backToKw pos (keywordEach [] X.env))):=by rfl) :
    PE X (.Call (.Attribute o m apos) (e :: es) [] pos) (zkk C m sp dvs E ta t):=by
  intro b s i H Q I h;refine PySem.W.methodCall_KW (pl:=pl) (thn (M b s i H _ I h) λu z ⟨x,S,y,B,a,Y,U,R,ea,l,q⟩=>?_) J;subst R;obtain rfl:u=Value.ref a:=B;refine zhp y ea c n l ?_;refine PySem.W.callWith_K (first:=[.ref a]) (h₀:=X.base) I.ok.mod.kin n.kp (thn (P pos b z i S _ y q) λus T ⟨vs,Z,v,r,D⟩=>⟨v.kIn,?_⟩) d g
  exact ziL (us:=.ref a :: us) (vs:=.ref a :: vs) F L O N G v (.cons rfl r) D
def zeq (z:PE X o ta)(c:Cls X.K C)(i:zbh X.K C m f)(F:aI X.prog X.w X.K X.mg X.base CX k f fd ps sp)(y:zax k X.A)(D:az X.K fd ps ds)(B:aQ dvs ds)(r:zcP CX X E)
    (v:eval (.Call (.Attribute o m apos) [] [] pos) X.env=(do
      let g ←eval o X.env
      standAt apos.atName
      let (f,first) ←holding [g] (getMethod g m pl)
      callWith pos f first (backTo pos (starEach [] X.env)) (backToKw pos (keywordEach [] X.env))):=by rfl) :
    PE X (.Call (.Attribute o m apos) [] [] pos) (zkk C m sp dvs E ta zc7):=by intro b s j H Q I h;refine PySem.W.methodCall_KW (pl:=pl) (thn (z b s j H _ I h) λu J ⟨x,N,d,n,a,M,L,G,ea,l,q⟩=>?_) v;subst G;obtain rfl:u=Value.ref a:=n;refine zhp d ea c i l ?_;exact PySem.W.callWith_K0 (first:=[.ref a]) d.kIn i.kp (ziL (us:=[.ref a]) (vs:=[.ref a]) F y D B r d (.cons rfl .nil) q)
structure Mk (K:PySem.W.Frag)(C f:Addr):Prop where
  makes:PySem.W.makesIn K C=true
  init:PySem.W.findIn K (.ref C) "__init__"=some (some (.ref f))
  fn:PySem.W.isFn K (.ref f)=true
  kp:PySem.W.keepIn K (.ref C)=true
def zi6 (M:Mk X.K C f)(F:aI X.prog X.w X.K X.mg X.base CX k f fd ps sp)(n:zax (k+1) X.A)(z:az X.K fd ps ds)(y:aQ dvs ds)
    (l:zcP CX X E)(I:Inv X pins σ H s)(r:aQ vs us)
    (h:∀ x b,H x=none→H b=none→b≠x→sp (.ref x :: (vs++dvs)) (upd (upd H b (.own x)) x (.ins C b [])) (λv J=>v=.non∧Q (.ref x) J) E) :
    wpAny (model X.prog X.w) X.A (call (.ref C) us) (EP X pins σ Q) X.xe s:=by
  have g:=h (s.heap.objs.size+1) s.heap.objs.size (I.hok.fresh (Nat.le_succ _)) (I.hok.fresh (nRq _)) (Nat.ne_of_lt (Nat.lt_succ_self _));have c:=Inv.made (C:=C) I;have d:aQ (V.ref (s.heap.objs.size+1) :: (vs++dvs)) (Value.ref (s.heap.objs.size+1) :: (us++ds)):=.cons rfl (r.append y);have q:(Value.ref (s.heap.objs.size+1) :: us++ds).length=ps.length:=by have e:=d.length;rw[F.len _ _ _ _ g]at e;exact e.symm
  refine wpAny_call (zmY (f:=f) I.kIn M.makes M.init (beq_iff_eq.mp M.fn) (codeAny_mono (F.run _ X.stack _ _ ⟨Value.ref (s.heap.objs.size+1) :: us,[]⟩ (Value.ref (s.heap.objs.size+1) :: (us++ds)) _ _ E (n.make C us [])
    (c.env0.make C us []) (z _ (Value.ref (s.heap.objs.size+1) :: us) c.kIn q) d g) λr s' a=>?_))
  cases r with
  | error e=>exact l pins σ _ _ e s' c a
  | ok B =>
    cases B with
    | ret u =>
      obtain⟨v,H',G,i,D,j⟩:=c.after a;subst D;exact⟨i,⟨V.ref (s.heap.objs.size+1),H',G,rfl,j⟩⟩
    | next=>exact False.elim a
    | brk=>exact False.elim a
    | cont=>exact False.elim a
def zjZ (M:Mk X.K C f)(F:aI X.prog X.w X.K X.mg X.base CX k f fd ps sp)(j:zax (k+1) X.A)(n:Gl X x)(l:X.mg x=some (.ref C))(y:az X.K fd ps ds)(v:aQ dvs ds)(i:zcP CX X E)
    (z:PA X (e :: es) t)(c:(x == ("__debug__":Str))=false:=by decide)(u:starEach (e :: es) X.env=(false,eval e X.env) :: starEach es X.env:=by rfl)(b:(backTo pos (starEach es X.env)).any (·.1)=false:=by rfl) :
    PE X (.Call (.Name x p) (e :: es) [] pos) (tMake C sp dvs E t):=by intro a s g H Q I h;refine wpAny_Call_Name_kw (zc4 I n l ?_ c);refine PySem.W.callWith_K (h₀:=X.base) I.ok.mod.kin M.kp (thn (z pos a s g H _ I h) λus B ⟨vs,D,d,r,q⟩=>⟨d.kIn,?_⟩) u b;exact zi6 M F j y v i d r q
def zfj (M:Mk X.K C f)(F:aI X.prog X.w X.K X.mg X.base CX k f fd ps sp)(d:zax (k+1) X.A)(i:Gl X x)(g:X.mg x=some (.ref C))(l:az X.K fd ps ds)(j:aQ dvs ds)(c:zcP CX X E)
    (a:(x == ("__debug__":Str))=false:=by decide):PE X (.Call (.Name x p) [] [] pos) (tMake C sp dvs E zc7):=by intro b s n H Q I h;refine wpAny_Call_Name_kw (zc4 I i g ?_ a);exact PySem.W.callWith_K0 I.kIn M.kp (zi6 (us:=[]) M F d l j c I .nil h)
end
def PK (X:Cx)(d:List Keyword)(t:TA):Prop :=
  ∀(c:Pos) (a:List (Addr × Obj)) (s:Shared) (b:St) (H:Hp) (Q:List V→Hp→Prop),Inv X a b H s→t b H Q→wpAny (model X.prog X.w) X.A (evalAll ((backToKw c (keywordEach d X.env)).map (·.2))) (AP X a b Q) X.xe s
section
variable {X:Cx} {CX:CXT} {k:Nat} {f C:Addr} {fd:FuncData} {ps ks:List Str} {sp:Sp} {E:XK} {x m:Str} {p pos apos kpos:Pos} {e o:Expr} {es:List Expr} {kws:List Keyword} {te ta:TE} {t tk:TA} {nm:Option Str}
def zk3:PK X [] zc7:=λ_ _ _ _ H Q I h=>wpAny_evalAll_nil ⟨[],H,I,.nil,h⟩
def zjY (l:PE X e te)(j:PK X kws t):PK X (⟨nm,e,kpos⟩ :: kws) (ziw te t):=by
  intro pos a s b H Q I h;show wpAny _ _ (evalAll ((do let v ←eval e X.env;standAt pos;pure v) :: (backToKw pos (keywordEach kws X.env)).map (·.2))) _ _ s
  refine wpAny_evalAll_cons (wpAny_bind (thn (l a s b H _ I h) λu c ⟨x,w,q,g,q1⟩=>wpAny_bind (wpAny_standAt (wpAny_pure ?_))));exact thn (j pos a c b w _ q q1) λus y ⟨xs,r,n,d,i⟩=>⟨x :: xs,r,n,.cons g d,i⟩
variable {g:List Value→List Value→List Value} {gV:List V→List V→List V}
end
structure zab (N P:List Str)(sc:Scope):Prop where
  kind:sc.kind=.function
  co:sc.isCoroutine=false
  gen:sc.isGenerator=false
  nd:N.Nodup
  pre:N.take P.length=P
  par:∀ x∈P,sc.names.lookup x=some .local∨sc.names.lookup x=some .cell
  nofree:∀ y∈sc.names,y.2≠.free
def fsc (a:sc.kind=.function:=by exact rfl)(b:sc.isCoroutine=false:=by exact rfl)(c:sc.isGenerator=false:=by exact rfl)(d:N.Nodup:=by decide +kernel)(e:N.take P.length=P:=by exact rfl)(f:∀ x∈P,sc.names.lookup x=some .local∨sc.names.lookup x=some .cell:=by decide +kernel)(g:∀ y∈sc.names,y.2≠.free:=by decide +kernel):zab N P sc:=⟨a,b,c,d,e,f,g⟩
def zil {b:Str→Option NameKind}{x:Str}:∀ {a:List (Str × Value)} {m:Str→Option Value},(∀ v,(x,v)∉a)→bindL b a m x=m x
  | [],_,_=>rfl
  | (n,v) :: r,m,h=>by
    unfold bindL;rw[zil λw c=>h w (List.mem_cons_of_mem _ c)];split
    · have:x≠n:=by rintro rfl;exact h v List.mem_cons_self
      simp [this]
    · rfl
def zin {b:Str→Option NameKind}{x:Str}:∀ {a:List (Str × Value)} {m:Str→Option Value},(∀ v,(x,v)∉a)→bindC b a m x=m x
  | [],_,_=>rfl
  | (n,v) :: r,m,h=>by
    unfold bindC;rw[zin λw c=>h w (List.mem_cons_of_mem _ c)];split
    · rfl
    · have:x≠n:=by rintro rfl;exact h v List.mem_cons_self
      simp [this]
def zim {a:Str→Option NameKind}{x:Str}{v:Value}:∀ {P:List Str} {vs:List Value} {i:Nat} {m:Str→Option Value},P.Nodup→P[i]?=some x→vs[i]?=some v→a x=some .local →
    bindL a (P.zip vs) m x=some v
  | [],_,_,_,_,h,_,_=>by simp at h
  | _ :: _,[],_,_,_,_,h,_=>by simp at h
  | p :: P,w :: vs,0,m,d,c,b,e=>by simp at c b;subst c;subst b;show bindL a ((p,w) :: P.zip vs) m p=_;unfold bindL;rw[zil λv f=>(List.nodup_cons.mp d).1 (List.of_mem_zip f).1,if_pos e];simp
  | p :: P,w :: vs,i+1,m,d,c,b,e=>by show bindL a ((p,w) :: P.zip vs) m x=_;unfold bindL;exact zim (i:=i) (List.nodup_cons.mp d).2 (by simpa using c) (by simpa using b) e
def zio {a:Str→Option NameKind}{x:Str}{v:Value}:∀ {P:List Str} {vs:List Value} {i:Nat} {m:Str→Option Value},P.Nodup→P[i]?=some x→vs[i]?=some v→a x≠some .local →
    bindC a (P.zip vs) m x=some v
  | [],_,_,_,_,h,_,_=>by simp at h
  | _ :: _,[],_,_,_,_,h,_=>by simp at h
  | p :: P,w :: vs,0,m,d,c,b,e=>by simp at c b;subst c;subst b;show bindC a ((p,w) :: P.zip vs) m p=_;unfold bindC;rw[zin λv f=>(List.nodup_cons.mp d).1 (List.of_mem_zip f).1,if_neg e];simp
  | p :: P,w :: vs,i+1,m,d,c,b,e=>by show bindC a ((p,w) :: P.zip vs) m x=_;unfold bindC;exact zio (i:=i) (List.nodup_cons.mp d).2 (by simpa using c) (by simpa using b) e
def zcz (N:List Str)(vs:List V):St:=vs.map some++List.replicate (N.length - vs.length) none
def aZ (CX:CXT)(P:Program)(w:World)(K:PySem.W.Frag)(mg:Str→Option Value)(base:Heap)(N:List Str)(b:Str)(a:Scope)(f:Addr)(d:Value)(A:Around)(outer:List Env)(s:Shared)(H:Hp)(E:XK):Cx where
  prog:=P
  w:=w
  K:=K
  mg:=mg
  base:=base
  A:=A.deeper (envOfC b a s.heap.objs.size f d)
  N:=N
  s₀:=s
  H₀:=H
  env:=envOfC b a s.heap.objs.size f d
  outer:=outer
  stack:=envOfC b a s.heap.objs.size f d :: outer
  ex:=[]
  calm:=true
  fn:=λ_=>true
  pn:=[]
  xe:=λe s'=>wpAny (model P w) (A.deeper (envOfC b a s.heap.objs.size f d)) (leaving (envOfC b a s.heap.objs.size f d) e) (λ_ c=>CX outer H s E e c) (λg c=>CX outer H s E g c) s'
def zjs {sc:Scope}{n:Nat}{x:Str}(h:sc.names.lookup x=some .cell):∃ c,(cellsFrom n sc.names []).lookup x=some c:=by have q:=PySem.W.cellsFrom_some sc.names n [] (.inl h);exact Option.isSome_iff_exists.mp q
def zie {CX:CXT}{P:Program}{w:World}{K:PySem.W.Frag}{mg:Str→Option Value}{base:Heap}{N ps:List Str}{g:Str}{d:Scope}{f:Addr}{G:Value}{A:Around}{outer:List Env}{s I:Shared}{H:Hp}{E:XK}{us:List Value}{vs:List V}
    (S:zab N ps d)(Q:A.handled=none)(l:zfA P w K mg base A outer s H)(T:vs.length=ps.length)(r:aQ vs us)
    (x:InCallC s s.heap.objs.size (bindL (envOfC g d s.heap.objs.size f G).kindOf (ps.zip us) λ_=>none) (cellsFrom (s.heap.objs.size+1) d.names []) (bindC (envOfC g d s.heap.objs.size f G).kindOf (ps.zip us) λ_=>none) I) :
    Inv (aZ CX P w K mg base N g d f G A outer s H E) [] (zcz N vs) H I:=by
  have O:ps.length≤N.length:=by have:=congrArg List.length S.pre;rw[List.length_take]at this;lia
  obtain⟨F,tk,rfl,L⟩:=x.done;have o:∀ b:Addr,b∉(aZ CX P w K mg base N g d f G A outer s H E).ex:=λb z=>absurd (show b∈([]:List Addr) from z) (by simp);refine⟨⟨l.mod,S.kind,rfl,rfl,nRq _,λy z c F j=>?_,λy t=>?_,λy c _ h=>?_,λ_=>Q,Around.frames_deeper l.frames,.inr ⟨rfl,rfl⟩,λb z=>absurd z (o b),l.bs,l.bsz,λb _ _=>o b,λb z=>absurd z (o b),l.funs,l.frf⟩,
    rfl,l.bare,Un.kept L,⟨_,x.toInCall.ns,λi y v F j U=>?_⟩,λy c h=>⟨_,x.cell y c h⟩,l.hok.fresh (nRq _),λy c h=>?_,λp C=>absurd (show p∈([]:List (Addr × Obj)) from C) (by simp),l.hok.kept L,?_⟩
  · exact name_of_addr x.apart (PySem.mem_of_lookup F) (PySem.mem_of_lookup j)
  · have t:d.names.lookup y=some .cell∨d.names.lookup y=some .free:=t;rcases t with t | t
    · exact zjs t
    · exact absurd rfl (S.nofree _ (PySem.mem_of_lookup t))
  · exact Nat.le_of_lt (x.above y c (PySem.mem_of_lookup h))
  · have D:i < vs.length:=by
      unfold zcz at j;by_cases D:i < vs.length
      · exact D
      · rw[List.getElem?_append_right (by simpa using D)]at j;rw[List.getElem?_replicate]at j;split at j <;> cases j
    have R:vs[i]?=some v:=by
      unfold zcz at j;rw[List.getElem?_append_left (by simpa using D),List.getElem?_map]at j;cases e:vs[i]? with
      | none=>rw[e]at j;cases j
      | some a=>rw[e]at j;cases j;rfl
    obtain⟨u,J,M⟩:=r.get R;have C:ps[i]?=some y:=by rw[←S.pre,List.getElem?_take_of_lt (by lia)];exact F
    have B:ps.Nodup:=by rw[←S.pre];exact S.nd.sublist (List.take_sublist _ _)
    refine⟨u,M,?_⟩;rcases S.par y (mOq C) with k | k
    · exact .inl ⟨k,zim B C J k⟩
    · obtain⟨c,e⟩:=zjs (n:=s.heap.objs.size+1) k;refine .inr ⟨.inl k,c,e,?_⟩;have q:=x.cell y c e;rw[zio B C J (by show d.names.lookup y≠_;rw[k];decide)]at q;exact q
  · exact l.hok.fresh (Nat.le_of_lt (x.above y c (PySem.mem_of_lookup h)))
  · unfold zcz;show _=N.length;rw[lAq,lM,List.length_replicate];lia
def zkv {CX:CXT}{P:Program}{w:World}{K:PySem.W.Frag}{mg:Str→Option Value}{base:Heap}{k:Nat}{f:Addr}{name c:Str}{d:Arguments}{g:List Stmt}{a:Scope}{T kV C R cdv U oc:Value}{Y od:Option Addr}
    {F:Array (Option Value)}{N ps:List Str}{sp:Sp}(lk:K.lookup f=some ⟨oc,od,.func (PySem.W.fnOf name c d g a T kV C R Y cdv U),F⟩)(M:PySem.W.codeIn K cdv c=true)(S:zab N ps a)
    (l:∀ vs H Q E,sp vs H Q E→vs.length=ps.length)
    (j:∀(A:Around) (outer:List Env) (s:Shared) (H:Hp) (vs:List V) (Q:VK) (E:XK),zax k (A.deeper (envOfC c a s.heap.objs.size f cdv))→sp vs H Q E →
      ∃ t,PSs (aZ CX P w K mg base N c a f cdv A outer s H E) g t∧t { nx:=λ_ H'=>Q .non H',rt:=Q } (zcz N vs) H) :
    aI P w K mg base CX (k+1) f (PySem.W.fnOf name c d g a T kV C R Y cdv U) ps sp:=by
  refine⟨l,λA outer s H X us vs Q E L B hb r p=>?_⟩;have hl:=l _ _ _ _ p;have Z:K.In s.heap:=B.mod.kin.keeps λb o e=>(B.bs b o e).1;have G:s.heap.NoLimit:=B.mod.nolimit.keeps λb o e=>(B.bs b o e).1;have i:∀ y∈ps.zip us,a.names.lookup y.1=some .local∨(a.names.lookup y.1=some .cell∧((cellsFrom (s.heap.objs.size+1) a.names []).lookup y.1).isSome=true):=λ⟨n,v⟩ hy=>by
    rcases S.par n (List.of_mem_zip hy).1 with q | q
    · exact .inl q
    · exact .inr ⟨q,PySem.W.cellsFrom_some _ _ _ (.inl q)⟩
  refine codeAny_call_function L.depth (Z _ _ lk) rfl S.co S.gen rfl (PySem.W.codeRec_of Z M) (hb _ _ _ _ ?_);refine wpAny_newFunctionEnv_cells S.kind i λenv he O x=>?_;subst he;refine⟨G.keeps x.toInCall.keep,codeAny_func ?_⟩;obtain⟨t,ht,hq⟩:=j A outer s H vs Q E (L.deeper _) p;have I:Inv (aZ CX P w K mg base N c a f cdv A outer s H E) [] (zcz N vs) H O:=zie S L.hd B hl r x;refine wpAny_mono (ht [] O (zcz N vs) H _ I hq) (λfl s' hs=>?_) λe s' hs=>hs;have z:∀ {h:St} {H':Hp} {v:V} {u:Value},Inv (aZ CX P w K mg base N c a f cdv A outer s H E) [] h H' s'→aY v u→Q v H'→CE outer P w H s Q u s' :=
    λ{h H' v u} J D q=>⟨v,H',J.os,J.bare,J.base,J.hok,D,q⟩
  cases fl with
  | ret u =>
    obtain⟨v,h,H',J,D,q⟩:=hs;exact z J D q
  | next =>
    obtain⟨h,H',J,q⟩:=hs;exact z (v:=V.non) (u:=Value.none) J rfl q
  | brk =>
    obtain⟨_,_,_,q⟩:=hs;exact False.elim q
  | cont =>
    obtain⟨_,_,_,q⟩:=hs;exact False.elim q
section
variable {X:Cx} {x:Str} {p pos:Pos} {e:Expr} {es:List Expr} {t:TA} {id T:String} {r:List V→Hp→VK→Prop}
def tCB (r:List V→Hp→VK→Prop)(t:TA):TE:=λa H Q=>t a H λvs b=>r vs b Q
def aw (o:zbt X (.builtin id) r)(l:Gl X x)(k:X.mg x=none)(i:bootBuiltins x=some (.builtin id))(q:PA X (e :: es) t)(j:x≠"__name__":=by decide)(c:(x == ("__debug__":Str))=false:=by decide)
    (n:starEach (e :: es) X.env=(false,eval e X.env) :: starEach es X.env:=by rfl)(b:(backTo pos (starEach es X.env)).any (·.1)=false:=by rfl):PE X (.Call (.Name x p) (e :: es) [] pos) (tCB r t):=by intro a s d H Q I h;refine wpAny_Call_Name_kw (zbU I l k i ?_ j c);exact PyProof.Rows.callWith_builtin1 (thn (q pos a s d H _ I h) λus f ⟨vs,v,u,g,q1⟩=>o a f d v vs us Q u g q1) n b
def zaL (o:zbt X (.type T) r)(l:Gl X x)(k:X.mg x=none)(i:bootBuiltins x=some (.type T))(q:PA X (e :: es) t)(j:x≠"__name__":=by decide)(c:(x == ("__debug__":Str))=false:=by decide)
    (n:starEach (e :: es) X.env=(false,eval e X.env) :: starEach es X.env:=by rfl)(b:(backTo pos (starEach es X.env)).any (·.1)=false:=by rfl):PE X (.Call (.Name x p) (e :: es) [] pos) (tCB r t):=by intro a s d H Q I h;refine wpAny_Call_Name_kw (zbU I l k i ?_ j c);exact PyProof.Rows.callWith_type1 (thn (q pos a s d H _ I h) λus f ⟨vs,v,u,g,q1⟩=>o a f d v vs us Q u g q1) n b
end
end L2
namespace HT
open PySem PyProof.Rows
section
variable {prog:Program} {w:World} {A:Around} {E:Value→Shared→Prop} {s:Shared}
def sIx (n d:Nat):Option Int→Nat
  | none=>d
  | some v=>if v < 0 then(v+(n:Int)).toNat else min v.toNat n
def sIx_none (n d:Nat):sIx n d none=d:=rfl
def sIx_nat (n d k:Nat):sIx n d (some (k:Int))=min k n:=by
  show(if(k:Int) < 0 then((k:Int)+(n:Int)).toNat else min (k:Int).toNat n)=min k n
  rw[if_neg (by lia),Int.toNat_natCast]
def sIx_le (n d:Nat)(b:d≤n)(o:Option Int):sIx n d o≤n:=by
  cases o with
  | none=>exact b
  | some v =>
    show(if v < 0 then(v+(n:Int)).toNat else min v.toNat n)≤n
    by_cases a:v < 0
    · rw[if_pos a];lia
    · rw[if_neg a];exact Nat.min_le_right _ _
def zke (v:Int)(n d:Nat):(if v < 0 then max (v+(n:Int)) 0 else min v (n:Int))=((sIx n d (some v):Nat):Int):=by
  show(if v < 0 then max (v+(n:Int)) 0 else min v (n:Int))=(((if v < 0 then(v+(n:Int)).toNat else min v.toNat n):Nat):Int)
  by_cases a:v < 0
  · simp only[if_pos a];lia
  · simp only[if_neg a];lia
def zkV (lo a:Option Int)(n:Nat):Builtin.Slice.sliceAdjust lo a 1 (n:Int)=(((sIx n 0 lo:Nat):Int),((sIx n n a:Nat):Int)):=by
  have b:¬((1:Int) < 0):=by lia
  unfold Builtin.Slice.sliceAdjust;simp only[b,if_false];refine Prod.ext ?_ ?_
  · cases lo with
    | none=>rfl
    | some v=>exact zke v n 0
  · cases a with
    | none=>rfl
    | some v=>exact zke v n n
def zkC (i j:Nat):Builtin.Slice.slicePlaces (i:Int) (j:Int) 1=j - i:=by
  unfold Builtin.Slice.slicePlaces;have a:(1:Int) > 0:=by lia
  simp only[a,if_true,Int.ediv_one];split <;> lia
def zhi (p:IsPart v o)(h:Q o s):wpAny (model prog w) A (Builtin.Slice.slicePartIndex v) Q E s:=by
  cases p with
  | none=>exact slicePart_none h
  | int i t=>exact slicePart_int h
def zez {f:Addr}{e d:Value}{lo b:Option Int}{n:Nat}{Q:Int × Int × Nat→Shared→Prop}(hs:s.heap.IsSliceOf f e d .none)(pl:IsPart e lo)(g:IsPart d b)
    (h:Q (((sIx n 0 lo:Nat):Int),1,sIx n n b - sIx n 0 lo) s):wpAny (model prog w) A (Builtin.Slice.sliceApplied (.ref f) (pure (n:Int))) Q E s:=by
  obtain⟨j,a,i,c⟩:=id hs;unfold Builtin.Slice.sliceApplied Builtin.Slice.sliceFields;refine wpAny_bind (wpAny_bind (wpAny_field a c (x:=e) rfl (wpAny_bind (wpAny_field a c (x:=d) rfl (wpAny_bind (wpAny_field a c (x:=.none) rfl (wpAny_pure ?_)))))));refine wpAny_bind (slicePart_none ?_);show wpAny _ _ (if((1:Int) == 0)=true then _ else _) _ _ s
  rw[if_neg (by decide)];refine wpAny_bind (zhi pl (wpAny_bind (zhi g (wpAny_bind (wpAny_pure ?_)))));show wpAny _ _ (match Builtin.Slice.sliceAdjust lo b 1 (n:Int) with | (lo,b)=>pure (lo,(1:Int),Builtin.Slice.slicePlaces lo b 1)) _ _ s
  rw[zkV lo b n];show wpAny _ _ (pure (((sIx n 0 lo:Nat):Int),(1:Int),Builtin.Slice.slicePlaces ((sIx n 0 lo:Nat):Int) ((sIx n n b:Nat):Int) 1)) _ _ s;rw[zkC];exact wpAny_pure h
def zms (xs:Array Value)(i k:Nat):((List.range k).filterMap λ(m:Nat)=>xs[((i:Int)+(m:Int) * 1).toNat]?).toArray=((xs.toList.drop i).take k).toArray:=by
  have e:(λ(m:Nat)=>xs[((i:Int)+(m:Int) * 1).toNat]?)=λm=>xs[i+m]?:=by
    funext m;have:((i:Int)+(m:Int) * 1).toNat=i+m:=by lia
    rw[this]
  rw[e];have:=pick_run xs i k;rw[List.filterMap_map]at this;have a:((λx=>xs[x]?) ∘ λx=>i+x)=λm=>xs[i+m]?:=rfl;rw[a]at this;rw[this]
def getItem_tuple_cut {t d:Addr}{items:Array Value}{k j:Value}{lo b:Option Int}{Q:Value→Shared→Prop}(c:IsTup s.heap t items)(hs:s.heap.IsSliceOf d k j .none)(pl:IsPart k lo)(l:IsPart j b)
    (o:¬(sIx items.size 0 lo=0∧sIx items.size items.size b=items.size))
    (h:Q (.ref s.heap.objs.size) { s with heap:=s.heap.push { cls:=.type "tuple",data:=.seq ((items.toList.drop (sIx items.size 0 lo)).take (sIx items.size items.size b - sIx items.size 0 lo)).toArray } })
    (hsz:items.size≤sizeLine):wpAny (model prog w) A (getItem (.ref t) (.ref d)) Q E s:=by
  have a:sizeOk (.seq ((items.toList.drop (sIx items.size 0 lo)).take (sIx items.size items.size b - sIx items.size 0 lo)).toArray):=by show((items.toList.drop (sIx items.size 0 lo)).take (sIx items.size items.size b - sIx items.size 0 lo)).toArray.size≤sizeLine;rw[sA,List.length_take,List.length_drop,Array.length_toList];lia
  have u:sIx items.size items.size b≤items.size:=sIx_le _ _ (nRq _) b;obtain⟨n,e,g,p⟩:=id hs;have i:s.TypeIs (.ref d) "slice":=⟨n,e,g⟩;unfold getItem
  try with_reducible refine wpAny_holding ?_
  first | refine wpAny_bind (wpAny_pure ?_) | skip
  refine wpAny_bind (wpAny_sequenceKey c.typeIs (by decide) ?_);refine wpAny_bind (wpAny_callSpecial?_slot (name:=Str.ofString "__getitem__") c.typeIs PyProof.Rows.slot_tuple_getitem
    (wpAny_call_entry PyProof.Rows.slot_tuple_getitem c.typeIs entry_tuple_getitem ?_ (args_tuple_getitem _ _)))
  show wpAny _ _ (Builtin.Tuple.tupleItemsOf (.ref t) >>= _) _ _ s;refine wpAny_bind (tupleItemsOf_ c ?_);refine wpAny_bind (wpAny_typeOf i ?_);rw[if_pos (by decide)];refine wpAny_bind (zez hs pl l ?_);have f:¬((((sIx items.size 0 lo:Nat):Int) == 0&&(1:Int) == 1&&(sIx items.size items.size b - sIx items.size 0 lo) == items.size)=true):=by intro q;rw[Bool.and_eq_true,Bool.and_eq_true]at q;have q1:((sIx items.size 0 lo:Nat):Int)=0:=eq_of_beq q.1.1;have r:sIx items.size items.size b - sIx items.size 0 lo=items.size:=eq_of_beq q.2;exact o ⟨by lia,by lia⟩
  show wpAny _ _ (if(((sIx items.size 0 lo:Nat):Int) == 0&&(1:Int) == 1&&(sIx items.size items.size b - sIx items.size 0 lo) == items.size)=true then _ else _) _ _ s
  rw[if_neg f,zms]
  first
    | exact wpAny_bind (m:=Builtin.Tuple.tupleExact _) (wpAny_newObj_type (wpAny_pure ⟨_,rfl,wpAny_pure h⟩) a)
    | exact wpAny_bind (m:=Builtin.Tuple.tupleExact _) (wpAny_newObj_type (wpAny_bind (wpAny_pure (wpAny_pure ⟨_,rfl,wpAny_pure h⟩))) a)
    | exact wpAny_bind (wpAny_bind (m:=Builtin.Tuple.tupleExact _) (wpAny_newObj_type (wpAny_pure (wpAny_pure ⟨_,rfl,wpAny_pure h⟩)) a))
    | exact wpAny_bind (wpAny_bind (m:=Builtin.Tuple.tupleExact _) (wpAny_newObj_type (wpAny_pure ⟨_,rfl,wpAny_pure h⟩) a))
end
end HT
namespace L2
open PySem PySem.Spec PyProof.Rows
abbrev TO:=St→Hp→(Option Int→Hp→Prop)→Prop
def PO (X:Cx)(e:Option Expr)(t:TO):Prop :=
  ∀(a:List (Addr × Obj)) (s:Shared) (b:St) (H:Hp) (Q:Option Int→Hp→Prop),Inv X a b H s→t b H Q →
    wpAny (model X.prog X.w) X.A (evalPart e X.env) (λu s'=>∃ o H',Inv X a b H' s'∧IsPart u o∧Q o H') X.xe s
def zjH:TO:=λ_ H Q=>Q none H
def tPart (t:TE):TO:=λa H Q=>t a H λx b=>∃ i,x=.int i∧Q (some i) b
def zkM:∀ {us:List Value},aQ (ns.map V.int) us→IntsAre us ns:=by
  induction ns with
  | nil=>intro us r;rw[List.map_nil]at r;cases r;exact .nil
  | cons n ns c =>
    intro us r;rw[List.map_cons]at r;cases r with
    | cons b a =>
      obtain⟨t,e⟩:=b;subst e;exact .cons n t (c a)
section
variable {X:Cx} {e:Expr} {te:TE} {lo hi:Option Expr} {tl th:TO} {pos p2:Pos}
def zdt:PO X none zjH:=by intro a s b H Q I h;rw[evalPart_none];exact wpAny_pure ⟨none,H,I,.none,h⟩
def zds (h:PE X e te):PO X (some e) (tPart te):=by intro a s b H Q I d;rw[evalPart_some];refine thn (h a s b H _ I d) λu j ⟨x,g,f,c,q1⟩=>?_;obtain⟨i,rfl,q⟩:=q1;obtain⟨t,rfl⟩:=c;exact⟨some i,g,f,.int i t,q⟩
def SlR (X:Cx)(r:V→Option Int→Option Int→Hp→VK→Prop):Prop :=
  ∀(a:List (Addr × Obj)) (s:Shared) (b:St) (H:Hp) (x:V) (v d c:Value) (lo hi:Option Int) (f:Addr) (Q:VK),Inv X a b H s→aY x v→s.heap.IsSliceOf f d c .none→IsPart d lo→IsPart c hi→r x lo hi H Q →
    ∃ T id,typeLookup (.type T) "__getitem__"=pure (some (.builtin id))∧s.TypeIs v T∧wpAny (model X.prog X.w) X.A (getItem v (.ref f)) (EP X a b Q) X.xe s
def SlR.or (h:SlR X r)(h':SlR X r'):SlR X (λx lo hi H Q=>r x lo hi H Q∨r' x lo hi H Q):=by
  intro a s b H x v d c lo hi f Q I g hs pl i q;rcases q with q | q
  · exact h a s b H x v d c lo hi f Q I g hs pl i q
  · exact h' a s b H x v d c lo hi f Q I g hs pl i q
def tSl (r:V→Option Int→Option Int→Hp→VK→Prop)(te:TE)(tl th:TO):TE:=λa H Q=>te a H λx d=>tl a d λl c=>th a c λu b=>r x l u b Q
def zc0 (B:SlR X r)(E:PE X e te)(C:PO X lo tl)(y:PO X hi th):PE X (.Subscript e (.Slice lo hi none p2) pos) (tSl r te tl th):=by intro a s d H Q I h;refine Subscript_ (thn (E a s d H _ I h) λv k ⟨x,N,L,n,q1⟩=>?_);refine wpAny_Slice (thn (C a k d N _ L q1) λg j ⟨l,M,K,pl,p⟩=>thn (y a j d M _ K p) λf c ⟨u,i,J,t,o⟩=>?_);rw[evalPart_none];refine wpAny_pure ?_;have G:Inv X a d i { c with heap:=c.heap.push { cls:=.type "slice",data:=.fields #[g,f,.none] } }:=J.kept (t':=c.toks) λb O q=>hG _ q;obtain⟨T,id,F,z,D⟩:=B a { c with heap:=c.heap.push { cls:=.type "slice",data:=.fields #[g,f,.none] } } d i x v g f l u c.heap.objs.size Q G n (Heap.IsSliceOf.new ..) pl t o;show wpAny (model X.prog X.w) X.A (subscriptTail e (.Slice lo hi none p2) v (.ref c.heap.objs.size)) (EP X a d Q) X.xe { c with heap:=c.heap.push { cls:=.type "slice",data:=.fields #[g,f,.none] } };exact tail_any (ops:=[.ref c.heap.objs.size,v]) z F D (by with_unfolding_all rfl)
def zcp (xs:List V)(lo hi:Option Int):List V:=(xs.drop (HT.sIx xs.length 0 lo)).take (HT.sIx xs.length xs.length hi - HT.sIx xs.length 0 lo)
def zgz (xs:List V)(lo hi:Option Int):(zcp xs lo hi).length≤xs.length:=by unfold zcp;rw[List.length_take,List.length_drop];lia
inductive rSlT (K:PySem.W.Frag):V→Option Int→Option Int→Hp→VK→Prop|m{x lo hi H Q} a xs:x=.ref a→SqT K H a xs→¬(HT.sIx xs.length 0 lo=0∧HT.sIx xs.length xs.length hi=xs.length)→(∀ p,H p=none→Q (.ref p) (upd H p (.tup (zcp xs lo hi))))→rSlT K x lo hi H Q
def sl_tup:SlR X (rSlT X.K):=by
  intro f s p H x v u t lo hi w Q I j hs pl k h;obtain⟨a,xs,rfl,l,n,q⟩:=h;cases j;obtain⟨d,r,i,g⟩:=I.tuple l;have c:d.toArray.size=xs.length:=by rw[sA];exact r.length.symm
  refine⟨"tuple",_,PyProof.Rows.slot_tuple_getitem.lookup,i.typeIs,?_⟩;refine HT.getItem_tuple_cut i hs pl k (by rw[c];exact n) ?_ (by rw[c];exact g);rw[c];refine⟨.ref s.heap.objs.size,_,I.laid (t':=s.toks) (o:=.tup (zcp xs lo hi)) (λb y q=>hG _ q) (nRq _) ?_,rfl,q _ (I.hok.fresh (nRq _))⟩;exact⟨Nat.le_trans (zgz xs lo hi) g,_,(r.drop (HT.sIx xs.length 0 lo)).take (HT.sIx xs.length xs.length hi - HT.sIx xs.length 0 lo),zeg.new _ _⟩
end
def ixN (n:Nat)(i:Int):Option Nat:=if 0≤i then(if i < n then some i.toNat else none) else if -(n:Int)≤i then some (i+n).toNat else none
def atI {a:Type}(xs:List a)(i:Int):Option a:=(ixN xs.length i).bind λj=>xs[j]?
def zn7 (h:ixN n i=some j):seqIndex? i n=some j∧j < n∧-(n:Int)≤i∧i < n:=by
  unfold ixN at h;by_cases h0:0≤i
  · rw[if_pos h0]at h;by_cases a:i < n
    · rw[if_pos a]at h;have e:i.toNat=j:=Option.some.inj h;exact⟨by rw[seqIndex_of h0 a,e],by lia,by lia,a⟩
    · rw[if_neg a]at h;cases h
  · rw[if_neg h0]at h;by_cases a:-(n:Int)≤i
    · rw[if_pos a]at h;have e:(i+n).toNat=j:=Option.some.inj h;exact⟨by rw[seqIndex_neg (by lia) a,e],by lia,a,by lia⟩
    · rw[if_neg a]at h;cases h
def zhR (h:atI xs i=some v):∃ j,seqIndex? i xs.length=some j∧xs[j]?=some v∧j < xs.length∧-(xs.length:Int)≤i∧i < xs.length:=by
  unfold atI at h;cases e:ixN xs.length i with
  | none=>rw[e]at h;cases h
  | some j =>
    rw[e]at h;obtain⟨d,c,b,a⟩:=zn7 e;exact⟨j,d,h,c,b,a⟩
def zah {a:Type}{xs:List a}{j:Nat}{v:a}(h:xs[j]?=some v):atI xs (j:Int)=some v:=by
  have b:j < xs.length:=(gEq h).1;have e:ixN xs.length (j:Int)=some j:=by unfold ixN;rw[if_pos (by lia),if_pos (by lia)];simp
  unfold atI;rw[e];exact h
def znf (xs:List α)(v:α):atI (xs++[v]) (-1)=some v:=by
  have a:(xs++[v]).length=xs.length+1:=by simp
  have e:ixN (xs++[v]).length (-1)=some xs.length:=by unfold ixN;rw[a,if_neg (by decide),if_pos (by lia)];congr 1;lia
  unfold atI;rw[e];show(xs++[v])[xs.length]?=some v;simp
def zoj (b:Expr):Prop:=∀ o i,subscripted b false o i=operate [o,i] (getItem o i)
def IxR (X:Cx)(r:R2):Prop :=
  ∀(c a:Expr) (b:List (Addr × Obj)) (s:Shared) (d:St) (H:Hp) (x y:V) (v u:Value) (Q:VK),Inv X b d H s→aY x v→aY y u→r x y H Q →
    subscripted a false v u=operate [v,u] (getItem v u)→wpAny (model X.prog X.w) X.A (subscriptTail c a v u) (EP X b d Q) X.xe s
def MtR (X:Cx)(id:String)(r:V→List V→Hp→VK→Prop):Prop :=
  ∀(a:List (Addr × Obj)) (s:Shared) (b:St) (H:Hp) (x:V) (xs:List V) (v:Value) (us:List Value) (Q:VK),Inv X a b H s→aY x v→aQ xs us→r x xs H Q →
    wpAny (model X.prog X.w) X.A (call (.builtin id) (v :: us)) (EP X a b Q) X.xe s
section
variable {X:Cx} {a b:Expr} {ta tb:TE} {pos:Pos}
def aW (i:IxR X r)(k:PE X a ta)(j:PE X b tb)(hs:zoj b:=by exact λ_ _=>rfl):PE X (.Subscript a b pos) (tOp r ta tb):=by intro c s d H Q I h;exact Subscript_ (binT k j I h λv u e x y n l g f q=>i a b c e d n x y v u Q l g f q (hs _ _))
inductive rIxL (K:PySem.W.Frag):R2|m{x y H Q} p xs i v:x=.ref p→y=.int i→SqL K H p xs→atI xs i=some v→Q v H→rIxL K x y H Q
inductive zeb (K:PySem.W.Frag):R2|m{x y H Q} p xs i v:x=.ref p→y=.int i→SqT K H p xs→atI xs i=some v→Q v H→zeb K x y H Q
inductive rIxS:R2|m{x y H Q} z i c:x=.str z→y=.int i→z.length≤sizeLine→atI z.cps.toList i=some c→Q (.str ⟨#[c]⟩) H→rIxS x y H Q
def zaK:IxR X (rIxL X.K):=by
  intro f g c s o H x y v u Q I C B h hs;obtain⟨p,xs,i,z,rfl,rfl,D,F,q⟩:=h;cases C;obtain⟨t,rfl⟩:=B;obtain⟨l,r,pl,M⟩:=I.list D;obtain⟨j,e,L,O,J,G⟩:=zhR F;obtain⟨w,A,k⟩:=r.get L;have E:=r.length;have N:=zeS;have d:EP X c o Q w s:=⟨z,H,I,k,q⟩;by_cases h0:0≤i
  · have n:i.toNat=j:=by rw[seqIndex_of h0 G]at e;exact Option.some.inj e
    exact item_listR pl.isList h0 (by lia) (by rw[n];simpa using A) d hs
  · have n:(i+(l.toArray.size:Int)).toNat=j:=by rw[seqIndex_neg (by lia) J]at e;rw[sA,←E];exact Option.some.inj e
    exact subscriptTail_builtinR (x:=w) pl.isList.typeIs slot_list_getitem.lookup
      (wpAny_getItem_list_neg (Q:=λr s'=>r=w∧EP X c o Q r s') pl.isList (by lia) (by rw[sA] <;> lia) (by lia) (by rw[n];simpa using A) ⟨rfl,d⟩) hs
def zal:IxR X (zeb X.K):=by
  intro d e c s k H x y v u Q I n l h hs;obtain⟨p,xs,i,z,rfl,rfl,A,C,q⟩:=h;cases n;obtain⟨t,rfl⟩:=l;obtain⟨o,r,pl,G⟩:=I.tuple A;obtain⟨j,E,D,N,M,L⟩:=zhR C;obtain⟨w,F,f⟩:=r.get D;have B:=r.length;have J:=zeS;have g:EP X c k Q w s:=⟨z,H,I,f,q⟩;exact subscriptTail_builtinR (x:=w) pl.typeIs slot_tuple_getitem.lookup
    (getItem_tuple (j:=j) (Q:=λr s'=>r=w∧EP X c k Q r s') pl (by lia) (by lia) (by rw[sA,←B];exact E) (by simpa using F) ⟨rfl,g⟩) hs
def ix_str:IxR X rIxS:=by
  intro d e f s C H x y v u Q I l k h hs;obtain⟨z,i,c,rfl,rfl,D,o,q⟩:=h;obtain⟨t,rfl⟩:=l;obtain⟨t',rfl⟩:=k;obtain⟨j,g,w,F,r,p⟩:=zhR o;have n:z.cps.toList.length=z.length:=by simp [Str.length]
  rw[n]at g r p;have E:=zeS;exact tail_any (typeIs_str s z t) slot_str_getitem.lookup (getItem_str (c:=c) (by have B:decide (i < -(2 ^ 63:Int))=false:=dFq (by lia);have A:decide (i≥2 ^ 63)=false:=dFq (by lia);rw[B,A,Bool.or_false]) (by rw[g];simpa using w) ⟨.str ⟨#[c]⟩,H,I.tok _,⟨_,rfl⟩,q⟩) hs
def Inv.lst (I:Inv X pins σ H s)(h:H p=some (.lst xs)) :
    ∃(c:List Value) (n:Nat),aQ xs c∧s.heap.get? p=some { cls:=.type "list",data:=.seq c.toArray n }∧xs.length≤sizeLine:=by obtain⟨z,c,n,r,e⟩:=I.hok p _ h;exact⟨c,n,r,e,z⟩
def zju (lo c:Option Int)(n:Nat):(sliceBounds lo c none n).1=((HT.sIx n 0 lo:Nat):Int)∧(sliceBounds lo c none n).2.1=((HT.sIx n n c:Nat):Int)∧(sliceBounds lo c none n).2.2=1:=by
  refine⟨?_,?_,rfl⟩
  · cases lo with
    | none=>simp [sliceBounds,HT.sIx]
    | some i =>
      simp only[sliceBounds,HT.sIx,Option.getD_none,show(1:Int) > 0 by decide,if_true];by_cases h:i < 0
      · simp only[h,if_true] <;> lia
      · simp only[h,if_false] <;> lia
  · cases c with
    | none=>simp [sliceBounds,HT.sIx]
    | some i =>
      simp only[sliceBounds,HT.sIx,Option.getD_none,show(1:Int) > 0 by decide,if_true];by_cases h:i < 0
      · simp only[h,if_true] <;> lia
      · simp only[h,if_false] <;> lia
def ziq (c:List Value)(lo d:Option Int):slicePick c.toArray lo d none=((c.drop (HT.sIx c.length 0 lo)).take (HT.sIx c.length c.length d - HT.sIx c.length 0 lo)).toArray:=by obtain⟨g,f,e⟩:=zju lo d c.toArray.size;unfold slicePick;rw[g,f,e];simp only[sliceRange_one,pick_run,sA] <;> rfl
inductive rSlL (K:PySem.W.Frag):V→Option Int→Option Int→Hp→VK→Prop|m{x lo hi H Q} a xs:x=.ref a→SqL K H a xs→(∀ p,H p=none→Q (.ref p) (upd H p (.lst (zcp xs lo hi))))→rSlL K x lo hi H Q
def zeX:SlR X (rSlL X.K):=by intro e s n H x v t p lo d u Q I g hs pl i h;obtain⟨a,xs,rfl,l,q⟩:=h;cases g;obtain⟨j,r,f,k⟩:=I.list l;have c:=r.length;refine⟨"list",_,slot_list_getitem.lookup,f.isList.typeIs,?_⟩;refine wpAny_getItem_list_slice f.isList hs pl i .none (by simp) ?_ (by rw[sA] <;> lia);rw[ziq,←c];refine⟨.ref s.heap.objs.size,_,I.laid (t':=s.toks) (o:=.lst (zcp xs lo d)) (λb w q=>hG _ q) (nRq _) ?_,rfl,q _ (I.hok.fresh (nRq _))⟩;exact⟨Nat.le_trans (zgz xs lo d) k,_,0,(r.drop (HT.sIx xs.length 0 lo)).take (HT.sIx xs.length xs.length d - HT.sIx xs.length 0 lo),Heap.get?_push_size _ rfl⟩
def zdF:V→Bool
  | .non=>true
  | .bl _=>true
  | .int _=>true
  | .str _=>true
  | _=>false
def eqV:V→V→Bool
  | .non,.non=>true
  | .bl a,.bl b=>a == b
  | .bl a,.int b=>(if a then 1 else 0) == b
  | .int a,.bl b=>a == (if b then 1 else 0)
  | .int a,.int b=>a == b
  | .str a,.str b=>a == b
  | _,_=>false
def zfD (d:aY y u)(c:aY x v)(f:zdF y=true)(e:zdF x=true):SeqAt.EqAt A s u v (eqV y x):=by
  cases y with
  | non =>
    cases d;cases x with
    | non=>cases c;exact SeqAt.EqAt.same _
    | bl b=>cases c;exact SeqAt.EqAt.none_bool b
    | int b=>obtain⟨t,rfl⟩:=c;exact SeqAt.EqAt.none_int b t
    | str b=>obtain⟨t,rfl⟩:=c;exact SeqAt.EqAt.none_str b t
    | _=>exact absurd (show false=true from e) Bool.false_ne_true
  | bl a =>
    cases d;cases x with
    | non=>cases c;exact SeqAt.EqAt.bool_none a
    | bl b=>cases c;exact SeqAt.EqAt.bool_bool a b
    | int b=>obtain⟨t,rfl⟩:=c;exact SeqAt.EqAt.bool_int a b t
    | str b=>obtain⟨t,rfl⟩:=c;exact SeqAt.EqAt.bool_str a b t
    | _=>exact absurd (show false=true from e) Bool.false_ne_true
  | int a =>
    obtain⟨t',rfl⟩:=d;cases x with
    | non=>cases c;exact SeqAt.EqAt.int_none a t'
    | bl b=>cases c;exact SeqAt.EqAt.int_bool a t' b
    | int b=>obtain⟨t,rfl⟩:=c;exact SeqAt.EqAt.int_int a t' b t
    | str b=>obtain⟨t,rfl⟩:=c;exact SeqAt.EqAt.int_str a t' b t
    | _=>exact absurd (show false=true from e) Bool.false_ne_true
  | str a =>
    obtain⟨t',rfl⟩:=d;cases x with
    | non=>cases c;exact SeqAt.EqAt.str_none a t'
    | bl b=>cases c;exact SeqAt.EqAt.str_bool a t' b
    | int b=>obtain⟨t,rfl⟩:=c;exact SeqAt.EqAt.str_int a t' b t
    | str b=>obtain⟨t,rfl⟩:=c;exact SeqAt.EqAt.str_str a t' b t
    | _=>exact absurd (show false=true from e) Bool.false_ne_true
  | _=>exact absurd (show false=true from f) Bool.false_ne_true
def eqU (x:V)(u:Value):Bool:=match u with
  | .none=>eqV .non x
  | .bool b=>eqV (.bl b) x
  | .int i _=>eqV (.int i) x
  | .str z _=>eqV (.str z) x
  | _=>false
def zlf (r:aY y u)(f:zdF y=true):eqU x u=eqV y x:=by
  cases y with
  | non=>cases r;rfl
  | bl b=>cases r;rfl
  | int i=>obtain⟨t,rfl⟩:=r;rfl
  | str z=>obtain⟨t,rfl⟩:=r;rfl
  | _=>exact absurd (show false=true from f) Bool.false_ne_true
def ze1:∀ {xs:List V} {us:List Value},aQ xs us→xs.all zdF=true→us.any (eqU x)=xs.any λy=>eqV y x
  | _,_,.nil,_=>rfl
  | y :: xs,u :: us,.cons r t,f=>by rw[List.all_cons,Bool.and_eq_true]at f;rw[List.any_cons,List.any_cons,zlf r f.1,ze1 t f.2]
def zer (d:aY x v)(e:zdF x=true):∀ {xs:List V} {us:List Value},aQ xs us→xs.all zdF=true→∀ u∈us,SeqAt.EqAt A s u v (eqU x u)
  | _,_,.nil,_=>λu c=>by cases c
  | y :: xs,u :: us,.cons r t,f=>λg c=>by
    rw[List.all_cons,Bool.and_eq_true]at f;rcases List.mem_cons.mp c with rfl | c
    · rw[zlf r f.1];exact zfD r d f.1 e
    · exact zer d e t f.2 g c
def inV (x:V)(xs:List V):Bool:=xs.any λy=>eqV y x
inductive rIn (K:PySem.W.Frag)(neg:Bool):R2|m{x y H Q} p xs:y=.ref p→(SqL K H p xs∨SqT K H p xs)→zdF x=true→xs.all zdF=true→Q (.bl (if neg then !inV x xs else inV x xs)) H→rIn K neg x y H Q
def zdP:OpR X (compareOp .In) (rIn X.K false):=by
  intro i s n H x y v u Q I g k h;obtain⟨p,xs,rfl,d,j,e,q⟩:=h;cases k;rcases d with d | d
  · obtain⟨c,r,pl,l⟩:=I.list d;refine SeqAt.in_listAt (eqU x) pl.isList (λw f=>zer g j r e w (by simpa using f)) ⟨.bl _,H,I,rfl,?_⟩;rw[show c.toArray.any (eqU x)=c.any (eqU x) by simp,ze1 r e];exact q
  · obtain⟨c,r,pl,l⟩:=I.tuple d;refine SeqAt.in_tupleAt (eqU x) pl (λw f=>zer g j r e w (by simpa using f)) ⟨.bl _,H,I,rfl,?_⟩;rw[show c.toArray.any (eqU x)=c.any (eqU x) by simp,ze1 r e];exact q
def zf7:OpR X (compareOp .NotIn) (rIn X.K true):=by
  intro i s n H x y v u Q I g k h;obtain⟨p,xs,rfl,d,j,e,q⟩:=h;cases k;rcases d with d | d
  · obtain⟨c,r,pl,l⟩:=I.list d;refine SeqAt.notIn_listAt (eqU x) pl.isList (λw f=>zer g j r e w (by simpa using f)) ⟨.bl _,H,I,rfl,?_⟩;rw[show c.toArray.any (eqU x)=c.any (eqU x) by simp,ze1 r e];exact q
  · obtain⟨c,r,pl,l⟩:=I.tuple d;refine SeqAt.notIn_tupleAt (eqU x) pl (λw f=>zer g j r e w (by simpa using f)) ⟨.bl _,H,I,rfl,?_⟩;rw[show c.toArray.any (eqU x)=c.any (eqU x) by simp,ze1 r e];exact q
inductive zkr (K:PySem.W.Frag):List V→Hp→VK→Prop|m{xs H Q} p ys:xs=[.ref p]→(SqL K H p ys∨SqT K H p ys)→Q (.int ys.length) H→zkr K xs H Q
def zaa:zbt X (.builtin "len") (zkr X.K):=by
  intro g s k H xs us Q I r h;obtain⟨p,ys,rfl,d,q⟩:=h;obtain⟨u,rfl,i⟩:=zcx r;cases i;have l:=zeS;rcases d with d | d
  · obtain⟨f,e,pl,j⟩:=I.list d;have c:=e.length;exact Calls.call_len_list pl.isList (by simp only[sA] <;> lia) ⟨.int ys.length,H,I.tok _,⟨s.toks+1,by rw[sA,c]⟩,q⟩
  · obtain⟨f,e,pl,j⟩:=I.tuple d;have c:=e.length;exact len_tuple pl (by simp only[sA] <;> lia) ⟨.int ys.length,H,I.tok _,⟨s.toks+1,by rw[sA,c]⟩,q⟩
def zgb:zbt X (.builtin "len") (λxs H Q=>∃ z,xs=[.str z]∧z.length≤sizeLine∧Q (.int z.length) H):=by intro c s d H xs us Q I r h;obtain⟨z,rfl,e,q⟩:=h;obtain⟨u,rfl,t,rfl⟩:=zcx r;have f:=zeS;exact len_str (by lia) ⟨.int z.length,H,I.tok _,⟨_,rfl⟩,q⟩
inductive rLsO (K:PySem.W.Frag):List V→Hp→VK→Prop|m{xs H Q} p ys:xs=[.ref p]→(SqL K H p ys∨SqT K H p ys)→(∀ l,H l=none→Q (.ref l) (upd H l (.lst ys)))→rLsO K xs H Q
def zcw:zbt X (.type "list") (rLsO X.K):=by
  intro g s A H xs us Q I r h;obtain⟨p,ys,rfl,k,q⟩:=h;obtain⟨u,rfl,B⟩:=zcx r;cases B;have t:∀(c:List Value),aQ ys c→ys.length≤sizeLine→∀(h':Heap) (f:Nat),(∀ b z,s.heap.get? b=some z→h'.get? b=some z) →
      h'.get? s.heap.objs.size=some { cls:=.type "list",dict:=none,data:=.seq c.toArray f,slots:=#[] }→EP X g A Q (.ref s.heap.objs.size) { s with heap:=h' }:=λc d j h' f i e =>
    ⟨.ref s.heap.objs.size,_,I.laid (t':=s.toks) i (nRq _) (show zaz X.prog X.w _ h' _ (.lst ys) from⟨j,c,f,d,e⟩),rfl,q _ (I.hok.fresh (nRq _))⟩
  rcases k with k | k
  · obtain⟨c,d,pl,j⟩:=I.list k;have l:=d.length;obtain⟨o,v,y,n,x⟩:=pl.isList;exact call_list_seq p (.inl rfl) v y x (λh' f i e=>t c d j h' f i e) (by simp only[sA] <;> lia)
  · obtain⟨c,d,pl,j⟩:=I.tuple k;have l:=d.length;obtain⟨o,v,y,n,x⟩:=pl;exact call_list_seq p (.inr rfl) v y x (λh' f i e=>t c d j h' f i e) (by simp only[sA] <;> lia)
inductive rTpO (K:PySem.W.Frag):List V→Hp→VK→Prop|m{xs H Q} p ys:xs=[.ref p]→((SqL K H p ys∧∀ l,H l=none→Q (.ref l) (upd H l (.tup ys)))∨(SqT K H p ys∧Q (.ref p) H))→rTpO K xs H Q
def zce:zbt X (.type "tuple") (rTpO X.K):=by
  intro c s i H xs us Q I r h;obtain⟨p,ys,rfl,h⟩:=h;obtain⟨u,rfl,n⟩:=zcx r;cases n;rcases h with ⟨g,q⟩ | ⟨g,q⟩
  · obtain⟨d,f,pl,j⟩:=I.list g;have k:=f.length;refine call_tuple_list pl.isList (λh' t=>?_) (by simp only[sA] <;> lia);have l:Inv X c i H { s with heap:=h' }:=I.kept (t':=s.toks) t;have v:Inv X c i (upd H h'.objs.size (.tup ys)) { s with heap:=h'.push { cls:=.type "tuple",data:=.seq d.toArray } } :=
      l.laid (t':=s.toks) (λb o e=>hG _ e) (nRq _) (show zaz X.prog X.w _ _ _ (.tup ys) from⟨j,d,f,zeg.new _ _⟩)
    exact⟨.ref h'.objs.size,_,v,rfl,q _ (l.hok.fresh (nRq _))⟩
  · obtain⟨d,f,pl,j⟩:=I.tuple g;exact call_tuple_same pl ⟨.ref p,H,I,rfl,q⟩
def tyV (K:PySem.W.Frag)(T:String)(x:V)(H:Hp):Prop:=match x with
  | .str _=>T="str"
  | .int _=>T="int"
  | .ref p=>(T="list"∧∃ xs,SqL K H p xs)∨(T="tuple"∧∃ o,K.lookup p=some o∧o.cls=.type "tuple"∧o.dict=none) ∨
      (T="dict"∧((∃ kvs,H p=some (.dK kvs))∨∃ kvs,H p=some (.dT kvs)))∨(T="set"∧∃ S n,H p=some (.set S n))∨(T="tuple"∧∃ xs,SqT K H p xs)
  | _=>False
def zkY (I:Inv X pins σ H s)(r:aY x v)(ty:tyV X.K T x H) :
    s.TypeIs v T∧∀ a,v=.ref a→∃ k,s.heap.get? a=some k∧k.dict=none:=by
  cases x with
  | str z =>
    obtain⟨t,rfl⟩:=r;cases (show T="str" from ty);exact⟨typeIs_str s z t,λ_ e=>nomatch e⟩
  | int i =>
    obtain⟨t,rfl⟩:=r;cases (show T="int" from ty);exact⟨typeIs_int s i t,λ_ e=>nomatch e⟩
  | ref p =>
    cases r;rcases ty with ⟨rfl,xs,l⟩ | ⟨rfl,o,d,q,j⟩ | ⟨rfl,d⟩ | ⟨rfl,S,n,d⟩ | ⟨rfl,xs,d⟩
    · obtain⟨h,_,pl,_⟩:=I.list l;refine⟨pl.isList.typeIs,λa e=>?_⟩;cases e;obtain⟨o,n,e,c,j,_⟩:=pl;exact⟨o,e,j⟩
    · refine⟨⟨o,I.kIn p o d,q⟩,λa e=>?_⟩;cases e;exact⟨o,I.kIn _ o d,j⟩
    · have z:∃ o,s.heap.get? p=some o∧o.ExactDict:=by
        rcases d with ⟨kvs,d⟩ | ⟨kvs,d⟩
        · obtain⟨_,_,_,_,o,_,_,e,f,_⟩:=I.hok p _ d;exact⟨o,e,f⟩
        · obtain⟨_,_,_,_,o,_,_,e,f,_⟩:=I.hok p _ d;exact⟨o,e,f⟩
      obtain⟨o,e,f⟩:=z;refine⟨⟨o,e,f.1⟩,λa g=>?_⟩;cases g;exact⟨o,e,f.2.1⟩
    · obtain⟨o,_,_,_,e,f,_⟩:=I.hok p _ d;refine⟨⟨o,e,f.1⟩,λa g=>?_⟩;cases g;exact⟨o,e,f.2.1⟩
    · obtain⟨h,_,⟨o,e,c,_⟩,_⟩:=I.tupD d;refine⟨⟨o,e,(Prod.mk.inj c).1⟩,λa g=>?_⟩;cases g;exact⟨o,e,(Prod.mk.inj c).2⟩
  | _=>exact False.elim ty
def tBM0 (K:PySem.W.Frag)(T:String)(r:V→List V→Hp→VK→Prop)(e:TE):TE:=λd H Q=>e d H λx c=>tyV K T x c∧r x [] c Q
def tBM (K:PySem.W.Frag)(T:String)(r:V→List V→Hp→VK→Prop)(e:TE)(t:TA):TE:=λc H Q=>e c H λx d=>tyV K T x d∧t c d λxs f=>r x xs f Q
variable {o e:Expr} {es:List Expr} {to:TE} {t:TA} {name:Str} {apos cpos:Pos} {T id:String} {r:V→List V→Hp→VK→Prop}
def pe_bm0 (p:PlainAttrs T)(g:Slot T name id)(i:typeOf (.builtin id)=pure (.type "method_descriptor"))(u:MtR X id r)(q:PE X o to)
    (f:attributeBase o name X.env (eval o X.env)=eval o X.env:=by rfl)(d:(apos.endLine == cpos.line)=true:=by rfl):PE X (.Call (.Attribute o name apos) [] [] cpos) (tBM0 X.K T r to):=by intro c s j H Q I h;refine wpAny_Call_method0_late f d (thn (q c s j H _ I h) λv n ⟨x,z,l,k,ty,q1⟩=>?_);obtain⟨y,w⟩:=zkY l k ty;exact⟨T,id,p,g,i,y,w,Calls.callWith_builtin rfl (PySem.evalArgs_none (u c n j z x [] v [] Q l k .nil q1))⟩
def za2 (A:PlainAttrs T)(i:Slot T name id)(l:typeOf (.builtin id)=pure (.type "method_descriptor"))(C:MtR X id r)(B:PE X o to)(D:PA X (e :: es) t)
    (g:attributeBase o name X.env (eval o X.env)=eval o X.env:=by rfl)
    (j:((backTo cpos (starEach (e :: es) X.env)).all (λx=>!x.1)&&(backToKw cpos (keywordEach [] X.env)).all (λx=>x.1.isSome)
      && decide ((e :: es).length+([]:List Keyword).length+(if([]:List Keyword).isEmpty then 0 else 1) < 30))=true:=by rfl)
    (f:(apos.endLine == cpos.line)=true:=by rfl)(hs:starEach (e :: es) X.env=(false,eval e X.env) :: starEach es X.env:=by rfl)(d:(backTo cpos (starEach es X.env)).any (·.1)=false:=by rfl) :
    PE X (.Call (.Attribute o name apos) (e :: es) [] cpos) (tBM X.K T r to t):=by intro c s k H Q I h;refine wpAny_Call_method_late g j f rfl (thn (B c s k H _ I h) λv w ⟨x,L,q,n,ty,q1⟩=>?_);obtain⟨F,E⟩:=zkY q n ty;refine⟨T,id,A,i,l,F,E,?_⟩;have p:=D cpos c w k L _ q q1;rw[hs]at p ⊢;refine Calls.callWith_builtin (by show(false||(backTo cpos (starEach es X.env)).any (·.1))=false;rw[d] <;> rfl) (Calls.evalArgs_plain ?_);exact thn p λus u ⟨vs,J,G,y,z⟩=>C c u k J x vs v us Q G n y z
end
def MtM (X:Cx)(id:String)(r:V→List V→Hp→VK→Prop):Prop :=
  ∀(a:List (Addr × Obj)) (s:Shared) (b:St) (H:Hp) (x:V) (xs:List V) (v:Value) (us:List Value) (Q:VK),Inv X a b H s→aY x v→aQ xs us→r x xs H Q →
    wpAny (model X.prog X.w) X.A (call (.builtin id) (v :: us)) (EP X a b Q) X.xe s
def aQ.one (h:aQ [x] us):∃ u,us=[u]∧aY x u:=by
  cases h with
  | cons r h=>cases h;exact⟨_,rfl,r⟩
def aQ.two (h:aQ [x,y] us):∃ u v,us=[u,v]∧aY x u∧aY y v:=by
  cases h with
  | cons r h=>cases h with
    | cons q h=>cases h;exact⟨_,_,rfl,r,q⟩
def aQ.zero:∀ {us:List Value},aQ [] us→us=[]
  | _,.nil=>rfl
def aQ.dropLast (h:aQ xs us):aQ xs.dropLast us.dropLast:=by
  induction h with
  | nil=>exact .nil
  | cons r t a =>
    cases t with
    | nil=>exact .nil
    | cons q t'=>exact .cons r a
def aQ.reverse (h:aQ xs us):aQ xs.reverse us.reverse:=by
  induction h with
  | nil=>exact .nil
  | cons r t a=>rw[List.reverse_cons,List.reverse_cons];exact aQ.append a (.cons r .nil)
def zkR (l:List α):l.eraseIdx (l.length - 1)=l.dropLast:=by
  induction l with
  | nil=>rfl
  | cons a r c =>
    cases r with
    | nil=>rfl
    | cons b r =>
      have e:(a :: b :: r).length - 1=((b :: r).length - 1)+1:=by have f:(a :: b :: r).length=r.length+2:=rfl;have d:(b :: r).length=r.length+1:=rfl;lia
      rw[e,List.eraseIdx_cons_succ,c]
      all_goals rfl
section
variable {X:Cx} {pins:List (Addr × Obj)} {σ:St} {H:Hp} {s:Shared} {l b:Addr} {xs ys zs:List V}
def Inv.lset {a its':List Value}{n:Nat}{f:Array Value→Array Value}{t':Nat}(I:Inv X pins σ H s)(i:H l=some (.lst xs))
    (e:s.heap.get? l=some { cls:=.type "list",data:=.seq a.toArray n })(hf:f a.toArray=its'.toArray)(d:aQ ys its')(c:ys.length≤sizeLine) :
    Inv X pins σ (upd H l (.lst ys)) { s with heap:=s.heap.update l (Obj.mapSeq f),toks:=t' }:=by have q:=PySem.IsL.update e f;rw[hf]at q;refine I.write (x:=l) (e:=l) (by rw[i];exact trivial) (.inl rfl) (λj u h g=>(Heap.get?_update_other s.heap (Obj.mapSeq f) (Ne.symm h)).trans g) ⟨_,q⟩ ?_;exact⟨c,its',_,d,q⟩
def Inv.lnew (I:Inv X pins σ H s)(c:aQ ys its)(a:ys.length≤sizeLine) :
    Inv X pins σ (upd H s.heap.objs.size (.lst ys)) { s with heap:=s.heap.push { cls:=.type "list",data:=.seq its.toArray },toks:=t' } :=
  I.laid (λ_ _ q=>hG _ q) (nRq _) ⟨a,its,0,c,Heap.get?_push_size _ rfl⟩
def Inv.fresh (I:Inv X pins σ H s):H s.heap.objs.size=none:=I.hok.fresh (nRq _)
def Inv.lstM (I:Inv X pins σ H s)(c:H l=some (.lst xs)):xs.length≤sizeLine∧∃(a:List Value) (n:Nat),aQ xs a∧xs.length=a.length∧s.heap.get? l=some { cls:=.type "list",data:=.seq a.toArray n }:=by obtain⟨z,a,n,r,e⟩:=I.hok l _ c;exact⟨z,a,n,r,r.length,e⟩
def zmU (h:n≤sizeLine):Builtin.List.listTooLong n=false:=by unfold Builtin.List.listTooLong;exact dFq (by lia)
end
section
variable {X:Cx}
inductive zjW:V→List V→Hp→VK→Prop|m{x vs H Q} l xs y:x=.ref l→vs=[y]→H l=some (.lst xs)→xs.length < sizeLine→Q .non (upd H l (.lst (xs++[y])))→zjW x vs H Q
def zaA:MtM X "list.append" zjW:=by intro b s i H x vs v us Q I d f h;obtain⟨l,xs,y,rfl,rfl,c,j,q⟩:=h;cases d;obtain⟨u,rfl,g⟩:=f.one;obtain⟨z,a,n,r,k,e⟩:=I.lstM c;refine call_meets F.slot_list_append ⟨_,e,rfl⟩ F.entry_list_append (F.args_list_append_2 _ _) (PySem.list_append l a.toArray n u (by rw[sA];lia)) ⟨e,?_⟩;refine⟨.non,_,I.lset (its':=a++[u]) c e (by simp) (r.append (.cons g .nil)) ?_,rfl,q⟩;rw[lAq,lS];lia
inductive zjU:V→List V→Hp→VK→Prop|m{x vs H Q} l b xs zs:x=.ref l→vs=[.ref b]→H l=some (.lst xs)→H b=some (.lst zs)→xs.length+zs.length≤sizeLine→Q .non (upd H l (.lst (xs++zs)))→zjU x vs H Q
def zfX:MtM X "list.extend" zjU:=by
  intro f s A H x vs v us Q I i j h;obtain⟨l,b,xs,zs,rfl,rfl,g,w,C,q⟩:=h;cases i;obtain⟨u,rfl,k⟩:=j.one;cases k;obtain⟨z,c,n,r,D,e⟩:=I.lstM g;obtain⟨B,a,p,o,t,y⟩:=I.lstM w;have hsz:c.toArray.size+a.toArray.size≤sizeLine:=by rw[sA,sA];lia
  have d:¬(!c.toArray.isEmpty&&Builtin.List.listTooLong (c.toArray.size+a.toArray.size))=true:=by rw[zmU hsz,Bool.and_false];exact Bool.false_ne_true
  refine call_meets F.slot_list_extend ⟨_,e,rfl⟩ F.entry_list_extend (F.args_list_extend_2 _ _)
    (AutoSeq1.list_extend_list_list_0 l c.toArray n b a.toArray p d (by rw[sA];lia) (by lia)) ⟨e,y,?_⟩
  refine⟨.non,_,I.lset (its':=c++a) g e (by simp) (r.append o) ?_,rfl,q⟩;rw[lAq];lia
inductive rPop:V→List V→Hp→VK→Prop|m{x vs H Q} l xs y:x=.ref l→vs=[]→H l=some (.lst xs)→xs[xs.length - 1]?=some y→Q y (upd H l (.lst xs.dropLast))→rPop x vs H Q
def mt_pop:MtM X "list.pop" rPop:=by
  intro d s t H x vs v us Q I g i h;obtain⟨l,xs,y,rfl,rfl,f,k,q⟩:=h;cases g;have c:=i.zero;subst c;obtain⟨z,a,n,r,p,e⟩:=I.lstM f;obtain⟨u,o,j⟩:=r.get k;have b:a.toArray[a.toArray.size - 1]?=some u:=by show a.toArray[a.length - 1]?=some u;rw[←Array.getElem?_toList,←p];exact o
  refine call_meets F.slot_list_pop ⟨_,e,rfl⟩ F.entry_list_pop (F.args_list_pop_1 _) (MeetsSeq.list_pop_last l a.toArray n u b (by rw[sA];lia)) ⟨e,?_⟩;refine⟨y,_,I.lset (its':=a.dropLast) f e ?_ r.dropLast ?_,j,q⟩
  · show a.toArray.eraseIdxIfInBounds (a.toArray.size - 1)=a.dropLast.toArray;rw[sA,List.eraseIdxIfInBounds_toArray,zkR]
  · rw[List.length_dropLast];lia
inductive rCat:R2|m{x y H Q} l b xs zs:x=.ref l→y=.ref b→H l=some (.lst xs)→H b=some (.lst zs)→xs.length+zs.length≤sizeLine→(∀ p,H p=none→Q (.ref p) (upd H p (.lst (xs++zs))))→rCat x y H Q
def ziO:OpR X (binaryOp .Add) rCat:=by
  intro d s t H x y v u Q I g f h;obtain⟨l,b,xs,zs,rfl,rfl,k,o,B,q⟩:=h;cases g;cases f;obtain⟨z,c,n,r,C,e⟩:=I.lstM k;obtain⟨w,a,A,i,j,p⟩:=I.lstM o;refine PySem.P.add_list e p ?_ (by rw[sA,sA];lia);have ea:c.toArray++a.toArray=(c++a).toArray:=by simp
  rw[ea];exact⟨.ref _,_,I.lnew (t':=s.toks) (r.append i) (by rw[lAq];lia),rfl,q _ I.fresh⟩
end
end L2
namespace Att
open PySem PySem.W PySem.Calls PyProof.Rows
def zht:∀(ns:List Int) (vs:List Value),WellAll P h vs (ns.map WData.int)→IntsAre vs ns:=by
  intro ns
  induction ns with
  | nil =>
    intro vs w;rw[List.map_nil]at w;cases w;exact .nil
  | cons n ns c =>
    intro vs w;rw[List.map_cons]at w;cases w with
    | cons a b =>
      cases a;exact .cons _ _ (c _ b)
def zlq {l:OpenLaw}{n:Nat}(u:l.most=some n){P:Params}{h:Heap}{args:List WData}{vals:List Value}
    (b:l.row.toRowW.claim.pre args=true)(i:WellAll P h vals args) :
    ∃ a vs ns,vals=[Value.ref a]∧args=[WData.list (ns.map WData.int)]∧h.get? a=some { cls:=.type "list",data:=.seq vs.toArray }∧IntsAre vs ns∧ns.length≤n:=by
  have j:WShape.hasAll [] args [.list .int]=true:=(pre_splitW b).1;have k:l.pre.holds [] { args:=args }=true:=(pre_splitW b).2;obtain⟨d,r,rfl,x,w⟩:=hasAllW_cons j;obtain rfl:=hasAllW_nil w;obtain⟨xs,rfl,v⟩:=hasW_list x;obtain⟨ns,rfl⟩:=items_int v;have c:ns.length≤n:=by
    unfold OpenLaw.pre at k;have g:(WTm.not (.lt (.lit (.int (n:Int))) (.len (.arg 0)))).holds [] { args:=[.list (ns.map .int)] }=true:=by have g:=(holds_andW k).1;rw[u]at g;exact g
    have f:=condW_of g (w_not (w_lt w_lit (w_len_list (w_arg rfl))));rw[lM]at f;refine Nat.le_of_not_lt λq=>?_;have s:(n:Int) < ((ns.length:Nat):Int):=by lia
    first
      | (rw[dTq s]at f;exact absurd f (by decide))
      | (simp at f;lia)
  cases i with
  | cons p o =>
    cases o;cases p with
    | list t e=>exact⟨_,_,ns,rfl,rfl,t,zht ns _ e,c⟩
def zlu (l:OpenLaw)(args:List WData):l.row.toRowW.claim.post args (.bool true) args=true :=
  postW_of (r:=l.row.toRowW) (X:=(true == true))
    (show WShape.has [] (.bool true) .bool=true by first | rfl | decide | simp [WShape.has,WShape.arms,WShape.armsAll])
    (show(WTm.eq .res (.lit (.bool true))).value [] { args:=args,res:=some (.bool true),after:=args }=some (.bool (true == true)) from w_eq_bool (w_res rfl) w_lit) rfl
def attach_call {l:OpenLaw}{n:Nat}{q:Program}{e:List Str}{F:(Str→Option Value)→Heap→Prop}{E:World→Heap→Prop}{d:DefRec}
    (K:l.most=some n)(z:d.params.defaults=[])
    (s:∀(w:World) (c b:Shared) (mg v:Str→Option Value) (p:Addr) (o:Obj) (u t h:Value) (a:Addr) (vs:List Value) (ns:List Int),
      Ground q e [] F w c mg v b.heap→E w b.heap →
      b.heap.get? p=some o→o.data=.func (docDef d.name d.params d.body d.scope u t h)→b.heap.CodeRec t d.name→mg d.name=some (.ref p) →
      b.heap.get? a=some { cls:=.type "list",data:=.seq vs.toArray }→IntsAre vs ns→ns.length≤n→b.gens=#[] →
      codeAny (model l.prog w) callerA (.call (.ref p) ⟨[.ref a],[]⟩) (λr s'=>r=.ok (.ret (.bool true))∧OldK b.heap s'.heap∧s'.os=b.os∧AllBare s'.gens) b) :
    WalkO q e F E l.row.toRowW d [] (λf vs=>PySem.call f vs):=by intro w c b mg v G Y p o u t h S kV J O A C y N D vals T i B H x M;obtain rfl:S=.none:=Dflts.none C z;obtain rfl:kV=.none:=Dflts.noKw C;obtain⟨a,vs,ns,rfl,rfl,j,g,k⟩:=zlq K i x;refine enter_call (codeAny_mono (s w c b mg v p o u t h a vs ns G Y J (fd_plain O) A y j g k N) λr s' I=>?_);obtain⟨rfl,R,Q,P⟩:=I;exact⟨.inl ⟨.bool true,.bool true,[],rfl,λ_=>rfl,.bool true,zlu l _,λ_=>⟨List.Pairwise.nil,λ_ L=>(nomatch L)⟩⟩,R,Q,P⟩
section
variable {prog:Program} {w:World} {A:Around} {E:Value→Shared→Prop} {s:Shared} {K:Frag}
def ledger (h:Heap)(L d:Addr):List (Addr × Obj):=(List.range h.objs.size).filterMap λa=>if a=L∨a=d then none else(h.get? a).map λo=>(a,o)
end
end Att
namespace L2
open PySem PySem.Spec PyProof.Rows
def zfH:∀ {vs:List Value} {ns:List Int},IntsAre vs ns→aQ (ns.map V.int) vs
  | _,_,.nil=>.nil
  | _,_,.cons n t h=>.cons ⟨t,rfl⟩ (zfH h)
def Only (H:Hp):Prop:=∀ b,H b=none∨∃ o xs,H b=some (.frz o (.lst xs))
def zm0 {P:Program}{w:World}{K:PySem.W.Frag}{mg L:Str→Option Value}{CX:CXT}{k:Nat}{Q a:Addr}{fd:FuncData}{x:Str}{sp:Sp}{c:Shared}{vs:List Value}{ns:List Int}
    (KX:K.In c.heap)(B:c.heap.Ns mainGlobals mg)(g:c.heap.Ns builtinsNs L)(N:∀ x:Str,x≠"__name__"→L x=bootBuiltins x)(C:c.heap.NoLimit)(hg:c.gens=#[])
    (I:c.heap.get? a=some { cls:=.type "list",data:=.seq vs.toArray })(X:IntsAre vs ns)(U:ns.length≤sizeLine)(hr:zax k callerA)
    (F:∀ base:Heap,K.In base→base.Ns mainGlobals mg→aI P w K mg base CX k Q fd [x] sp)(l:∀(s:Shared) (u:Value),BindsTo s fd ⟨[u],[]⟩ [(x,u)])
    (M:∀ H:Hp,Only H→SqL K H a (ns.map V.int)→sp [.ref a] H (λv _=>v=.bl true) λ_ _ _=>False)
    (O:∀ H e s',CX [] H c (λ_ _ _=>False) e s'→False) :
    codeAny (model P w) callerA (.call (.ref Q) ⟨[.ref a],[]⟩) (λr s'=>r=.ok (.ret (.bool true))∧OldK c.heap s'.heap∧s'.os=c.os∧AllBare s'.gens) c:=by
  have T:=zfH X;have t:=X.length;have j:∀ H:Hp,Only H→SqL K H a (ns.map V.int)→HOk P w H c.heap→(∀ b,H b≠none→b=a)→(H a≠none→K.lookup a=none) →
      codeAny (model P w) callerA (.call (.ref Q) ⟨[.ref a],[]⟩) (λr s'=>r=.ok (.ret (.bool true))∧OldK c.heap s'.heap∧s'.os=c.os∧AllBare s'.gens) c:=by
    intro H Y hS A Z hK;have f:∀ {b:Addr} {o:Obj},c.heap.get? b=some o→H b=none→(ze4 c.heap H).get? b=some o:=λe n=>zm4 e n;have J:∀ {b:Addr} {o:Obj} {es:Array DictEntry} {E:Nat},c.heap.get? b=some o→o.data=.dict es E→H b=none:=λ{b o es E} e d=>by
      cases q:H b with
      | none=>rfl
      | some u =>
        have R:b=a:=Z b (by rw[q];simp);subst R;rw[I]at e;cases e;have d':Data.seq vs.toArray _=Data.dict es E:=d;cases d'
    have i:∀ {b:Addr} {m:Str→Option Value},c.heap.Ns b m→(ze4 c.heap H).Ns b m:=λ{b m} ⟨o,es,E,e,d,r⟩=>⟨o,es,E,f e (J e d),d,r⟩;have D:K.In (ze4 c.heap H):=λb o e=>f (KX b o e) (by
      cases q:H b with
      | none=>rfl
      | some u =>
        have R:b=a:=Z b (by rw[q];simp);subst R;rw[hK (by rw[q];simp)]at e;cases e)
    have hM:Mod K mg (ze4 c.heap H):=⟨D,i B,⟨L,i g,N⟩,let ⟨mc,h1,h2⟩:=C;⟨mc,i h1,h2⟩⟩;have e0:zfA P w K mg (ze4 c.heap H) callerA [] c H:=⟨rfl,hM,λb o e=>znW e,Nat.le_of_eq (zlV _ _),trivial,λb g=>absurd (show b∈([]:List Addr) from g) (by simp),A,.of_eq hg⟩;refine codeAny_mono ((F _ D (i B)).run callerA [] c H ⟨[.ref a],[]⟩ [.ref a] [.ref a] _ _ hr e0 (l c (.ref a)) (.cons rfl .nil) (M H Y hS)) λr s' h=>?_;cases r with
    | error e=>exact(O H e s' h).elim
    | ok fl =>
      cases fl with
      | next=>exact False.elim h
      | brk=>exact False.elim h
      | cont=>exact False.elim h
      | ret u =>
        obtain⟨v,H',os,G,S,y,r',q⟩:=h;have q':v=.bl true:=q;subst q';obtain rfl:u=Value.bool true:=r';refine⟨rfl,OldK.of_keep λb o e=>?_,os,G⟩;cases q:H b with
        | none=>exact S.keep b o e q (by intro z;exact absurd (show b∈([]:List Addr) from z) (by simp)) (by simp)
        | some u =>
          rcases Y b with z | ⟨ob,xs,z⟩
          · rw[q]at z;cases z
          · have z2:=S.frzs b ob _ z;obtain⟨e1,_⟩:=A b _ z;obtain⟨e2,_⟩:=y b _ z2;rw[e]at e1;cases e1;exact e2
  cases hk:K.lookup a with
  | some o =>
    have e:=KX a o hk;rw[I]at e;cases e;refine j (λ_=>none) (λ_=>.inl rfl) (.inr ⟨_,vs.toArray,_,hk,rfl,rfl,rfl,by rw[sA,t];exact U,by simpa using T⟩) (λb u z=>by have p:(none:Option HO)=some u:=z;cases p) (λb z=>absurd rfl z) λz=>absurd rfl z
  | none =>
    refine j (λb=>if b=a then some (.frz { cls:=.type "list",data:=.seq vs.toArray } (.lst (ns.map V.int))) else none) (λb=>?_) (.inl (.inr ⟨{ cls:=.type "list",data:=.seq vs.toArray },if_pos rfl⟩)) (λb u z=>?_) (λb z=>?_) λ_=>hk
    · by_cases g:b=a
      · exact .inr ⟨_,_,if_pos g⟩
      · exact .inl (if_neg g)
    · by_cases g:b=a
      · have p:=(if_pos g).symm.trans z;cases p;subst g;exact⟨I,by rw[lM];exact U,vs,_,T,I⟩
      · have p:=(if_neg g).symm.trans z;cases p
    · by_cases g:b=a
      · exact g
      · exact absurd (if_neg g) z
abbrev KOf {K:PySem.W.Frag}{h:Heap}(_:K.In h):PySem.W.Frag:=K
def walk_of {l:PySem.W.OpenLaw}{n k:Nat}{q:Program}{i:List Str}{Z:(Str→Option Value)→Heap→Prop}{I:World→Heap→Prop}{d:DefRec}{K:Params→PySem.W.Frag}{CX:World→CXT}{sp:World→Sp}{x:Str}
    (M:l.most=some n)(z:n≤sizeLine)(B:d.params.defaults=[])(L:zax k callerA)
    (Q:∀(w:World) (h:Heap),I w h→(K w.params).In h)
    (F:∀(w:World) (mg:Str→Option Value) (t:Addr) (h:Heap),(K w.params).In h→h.Ns mainGlobals mg→mg d.name=some (.ref t) →
      ∃ D:FuncData,(∀(s:Shared) (u:Value),BindsTo s D ⟨[u],[]⟩ [(x,u)]) ∧
        ∀ base:Heap,(K w.params).In base→base.Ns mainGlobals mg→aI l.prog w (K w.params) mg base (CX w) k t D [x] (sp w))
    (y:∀(w:World) (H:Hp) (a:Addr) (ns:List Int),ns.length≤n→Only H→SqL (K w.params) H a (ns.map V.int)→sp w [.ref a] H (λv _=>v=.bl true) λ_ _ _=>False)
    (C:∀(w:World) (H:Hp) (s:Shared) (e:Value) (s':Shared),CX w [] H s (λ_ _ _=>False) e s'→False) :
    PySem.W.WalkO q i Z I l.row.toRowW d [] (λf vs=>PySem.call f vs):=by refine Att.attach_call M B λw E p mg mb t o pm cd X a vs ns G Y ho hd O A r j c N=>?_;have J:=Q w _ Y;obtain⟨D,P,U⟩:=F w mg t _ J G.T.g A;exact zm0 J G.T.g G.T.b G.T.builtins G.T.nolimit N r j (Nat.le_trans c z) L U P (λH S R=>y w H a ns c S R) λH e s'=>C w H p e s'
def za0 (s:Stmt)(j:Nat):Stmt:=match s with
  | .ClassDef _ _ _ a _ _ _ _ _ _ _=>a.getD j (.Pass ⟨0,0,0,0⟩)
  | _=>.Pass ⟨0,0,0,0⟩
def zbo (s:Stmt):Arguments:=match s with
  | .FunctionDef _ a _ _ _ _ _ _ _ _=>a
  | _=>{ posonlyargs:=[],args:=[],vararg:=none,kwonlyargs:=[],kw_defaults:=[],kwarg:=none,defaults:=[] }
def zap (s:Stmt):List Stmt:=match s with
  | .FunctionDef _ _ b _ _ _ _ _ _ _=>b
  | _=>[]
def ao (s:Stmt):Scope:=match s with
  | .FunctionDef _ _ _ _ _ _ sc _ _ _=>sc
  | _=>{ kind:=.function,names:=[],isGenerator:=false,isCoroutine:=false }
abbrev CX0:CXT:=λ_ _ _ _ _ _=>False
abbrev E0:XK:=λ_ _ _=>False
def zak:zcP CX0 X E0:=λ_ _ _ _ _ _ _ h=>h.elim
structure Fun (K:PySem.W.Frag)(x qual:Str)(st:Stmt)(f:Addr)(fd:FuncData):Prop where
  ex:∃(oc:Value) (od:Option Addr) (kV doc pm:Value) (an:Option Addr) (cdv ct:Value) (osl:Array (Option Value)),
    fd=PySem.W.fnOf x qual (zbo st) (zap st) (ao st) .none kV doc pm an cdv ct∧K.lookup f=some ⟨oc,od,.func fd,osl⟩∧PySem.W.codeIn K cdv qual=true
  kp:PySem.W.keepIn K (.ref f)=true
section
variable {P:Program} {w:World} {K:PySem.W.Frag} {mg:Str→Option Value} {base:Heap}
def Fun.ok {x a:Str}{st:Stmt}{f:Addr}{g:FuncData}{N ps:List Str}{k:Nat}{sp:Sp}(F:Fun K x a st f g)(S:zab N ps (ao st))(c:∀ vs H Q E,sp vs H Q E→vs.length=ps.length)
    (b:∀(cdv:Value) (A:Around) (outer:List Env) (s:Shared) (H:Hp) (vs:List V) (Q:VK) (E:XK),zax k (A.deeper (envOfC a (ao st) s.heap.objs.size f cdv))→sp vs H Q E →
      ∃ t,PSs (aZ CX0 P w K mg base N a (ao st) f cdv A outer s H E).nox (zap st) t∧t { nx:=λ_ H'=>Q .non H',rt:=Q } (zcz N vs) H):aI P w K mg base CX0 (k+1) f g ps sp:=by obtain⟨p,od,kV,n,o,u,cdv,r,i,rfl,j,e⟩:=F.ex;refine zkv j e S c λA outer s H vs Q E l d=>?_;obtain⟨t,h,q⟩:=b cdv A outer s H vs Q E l d;exact⟨t,h.nox,q⟩
def Fun.binds {x a:Str}{st:Stmt}{f:Addr}{g:FuncData}{ps:List Str}(F:Fun K x a st f g)
    (h:∀(kV b c:Value) (e:Option Addr) (cdv d:Value) (us:List Value),us.length=ps.length→bindArgs (PySem.W.fnOf x a (zbo st) (zap st) (ao st) .none kV b c e cdv d) ⟨us,[]⟩=pure (ps.zip us)):az K g ps []:=by obtain⟨k,od,kV,b,c,e,cdv,d,i,rfl,l,j⟩:=F.ex;exact .all (h kV b c e cdv d)
def zle {x a:Str}{st:Stmt}{f:Addr}{i:Value}{od h:Option Addr}{d:Array (Option Value)}{kV b e cdv g:Value}(l:K.lookup f=some ⟨i,od,.func (PySem.W.fnOf x a (zbo st) (zap st) (ao st) .none kV b e h cdv g),d⟩)
    (c:PySem.W.codeIn K cdv a=true)(k:PySem.W.keepIn K (.ref f)=true):Fun K x a st f (PySem.W.fnOf x a (zbo st) (zap st) (ao st) .none kV b e h cdv g):=⟨⟨i,od,kV,b,e,h,cdv,g,d,rfl,l,c⟩,k⟩
end
def zb5 (a:zax k A):A.units+1 < cLine:=Nat.lt_of_le_of_lt (Nat.add_le_add_left (by decide:1≤64) _) a.units
def zbu (h:n≤1000):n < sizeLine:=Nat.lt_of_le_of_lt h (by decide)
section
variable {X:Cx}
def pv (i:Nat){x:Str}{a:Pos}(e:X.N[i]?=some x:=by rfl)(c:Vis X.env.scope x:=by first | exact Or.inl rfl | exact Or.inr (Or.inl rfl) | exact Or.inr (Or.inr rfl))(d:(x == ("__debug__":Str))=false:=by decide)
    (b:(x == ("__classdict__":Str))=false:=by decide):PE X (.Name x a) (zfz i):=pe_var e c d b
end
def zck {A B:Prop}(h:B):if false=true then A else B:=by rw[if_neg Bool.false_ne_true];exact h
def zcj {A B:Prop}(h:A):if true=true then A else B:=by rw[if_pos rfl];exact h
def aO {c A B:Prop}[Decidable c](b:c→A)(a:¬c→B):if c then A else B:=by
  by_cases h:c
  · rw[if_pos h];exact b h
  · rw[if_neg h];exact a h
def ap (H H':Hp):Prop:=∀ b o,H b=some o→H' b=some o
def ap.refl (H:Hp):ap H H:=λ_ _ h=>h
def ap.trans (a:ap H H1)(b:ap H1 H2):ap H H2:=λc o h=>b c o (a c o h)
def ap.free (e:ap H H'){l:Addr}(h:H' l=Option.none):H l=Option.none:=by
  cases q:H l with
  | none=>rfl
  | some o =>
    rw[e l o q]at h;cases h
def ap.seq {K:PySem.W.Frag}{H H':Hp}{a:Addr}{xs:List V}(e:ap H H')(h:SqL K H a xs):SqL K H' a xs:=by
  rcases h with (h | ⟨o,h⟩) | h
  · exact .inl (.inl (e _ _ h))
  · exact .inl (.inr ⟨o,e _ _ h⟩)
  · exact .inr h
end L2
def lS0:0≤PySem.sizeLine:=by decide
def lS1:1≤PySem.sizeLine:=by decide
def lS2:2≤PySem.sizeLine:=by decide
def lS3:3≤PySem.sizeLine:=by decide
def lS4:4≤PySem.sizeLine:=by decide
namespace L2
open PySem PySem.Spec PyProof.Rows
section
variable {X:Cx} {e l:Expr} {te tl:TE} {pos:Pos} {tg:Expr}
def Its (z:Str):It:=⟨λi _=>i < z.length,λi H x H'=>H'=H∧∃ c,z.cps[i]?=some c∧x=.str ⟨#[c]⟩,λi _=>z.length≤i⟩
def ziW {P:Program}{w:World}{K:W.Frag}{ty:String}(n:ty="str_ascii_iterator"∨ty="str_iterator")(it:Addr)(z:Str)(t:Tok):zee P w K tg (Its z) [it] it (λi h=>h.IsStrIter it ty z t i) where
 mem:=by simp
 obj:=λi h st b a=>by
  have e:b=it:=by simpa using a
  subst e;obtain⟨o,e,c,d⟩:=st;exact⟨o,e,λv z=>by rw[d]at z;cases z⟩
 keep:=λi h h' st k=>by obtain⟨o,e,r⟩:=st;exact⟨o,k it (by simp) o e,r⟩
 item:=by
  intro X J C L G i g s A H E I hf st F;subst J C L;have D:i < z.cps.size:=F;have j:z.cps[i]?=some z.cps[i]:=by simp [D]
  obtain⟨y,x,O,u,q,p⟩:=hf it (by simp);rcases n with rfl | rfl
  ·refine wpAny_pyNext_ascii_item st j λh' f B=>?_;have N:Inv X g A H { s with heap:=h',toks:=s.toks+1 }:=I.turned (t':=s.toks+1) (λb o a e=>(B.2 b a).trans e) y x u q p;obtain⟨o,e,c,d⟩:=id f;exact⟨_,rfl,ze7 (s:={ s with heap:=h',toks:=s.toks+1 }) e c d (by decide) ⟨.str ⟨#[z.cps[i]]⟩,H,N,⟨_,rfl⟩,⟨rfl,_,j,rfl⟩,f,λb a=>(hf b a).1⟩⟩
  ·refine wpAny_pyNext_wide_item st j λh' f B=>?_;have N:Inv X g A H { s with heap:=h',toks:=s.toks+1 }:=I.turned (t':=s.toks+1) (λb o a e=>(B.2 b a).trans e) y x u q p;obtain⟨o,e,c,d⟩:=id f;exact⟨_,rfl,ze7 (s:={ s with heap:=h',toks:=s.toks+1 }) e c d (by decide) ⟨.str ⟨#[z.cps[i]]⟩,H,N,⟨_,rfl⟩,⟨rfl,_,j,rfl⟩,f,λb a=>(hf b a).1⟩⟩
 done:=by
  intro X J C L G i g s A H E I hf st F;subst J C L;have D:z.cps.size≤i:=F;have j:z.cps[i]?=none:=by simp [D]
  obtain⟨y,x,O,u,q,p⟩:=hf it (by simp);rcases n with rfl | rfl
  ·exact wpAny_pyNext_ascii_end (I.ok.hd G) st j λh' M=>⟨rfl,I.turned (t':=s.toks) (λb o a e=>M b o a e) y x u q p⟩
  ·exact wpAny_pyNext_wide_end (I.ok.hd G) st j λh' M=>⟨rfl,I.turned (t':=s.toks) (λb o a e=>M b o a e) y x u q p⟩
 self:=λ_ _ _ _ _ st h=>by
  rcases n with rfl | rfl
  ·exact wpAny_pyIter_striter_ascii st h
  ·exact wpAny_pyIter_striter_wide st h
def iStr (tl:TE):TI:=λa H R=>tl a H λx b=>∃ z,x=.str z∧R (Its z) b
def pi_str (k:PE X l tl):PI X tg l (iStr tl):=by
 intro c s i H R I h;refine thn (k c s i H _ I h) λv a ⟨x,f,d,j,q1⟩=>?_;obtain⟨z,e,q⟩:=q1;subst e;obtain⟨t,rfl⟩:=j;have g:∀ b∈[a.heap.objs.size],zbS X c f b:=λb n=>by
  have e:b=a.heap.objs.size:=by simpa using n
  subst e;exact d.fpOk (nRq _) (d.hok.fresh (nRq _))
 cases ha:z.cps.all (· < 128) with
 | true =>
  refine wpAny_pyIter_ascii ha ?_;exact⟨a.heap.objs.size,[a.heap.objs.size],_,_,f,rfl,d.kept (t':=a.toks) λb o e=>hG _ e,ziW (.inl rfl) _ z t,⟨_,Heap.get?_push_size _ rfl,rfl,rfl⟩,g,q⟩
 | false =>
  refine wpAny_pyIter_wide ha ?_;exact⟨a.heap.objs.size,[a.heap.objs.size],_,_,f,rfl,d.kept (t':=a.toks) λb o e=>hG _ e,ziW (.inr rfl) _ z t,⟨_,Heap.get?_push_size _ rfl,rfl,rfl⟩,g,q⟩
def zhZ (J:X.calm=true):zbt X (.builtin "all") (λxs H Q=>∃(p:Addr) (bs:List Bool),xs=[.ref p]∧SqL X.K H p (bs.map V.bl)∧Q (.bl (bs.all id)) H):=by
 intro k s O H xs us Q I r h;obtain⟨p,bs,rfl,B,q⟩:=h;obtain⟨u,rfl,w⟩:=zcx r;cases w;obtain⟨a,j,pl,R⟩:=I.list B;have F:=j.length;rw[lM]at F;have C:p < s.heap.objs.size:=by obtain⟨o,D,_⟩:=pl.isList;exact hLq D
 have g:p≠s.heap.objs.size:=Nat.ne_of_lt C;refine call_all_walk (wpAny_pyIter_list pl.isList ?_);refine⟨s.heap.objs.size,[s.heap.objs.size,p],[s.heap.objs.size],a.toArray.size,_,_,λi=>bs.getD i true,rfl,Walks.list (show X.A.in1.handled=none from I.ok.hd J) _ p g a.toArray,⟨⟨_,Heap.get?_push_size _ rfl,rfl,rfl⟩,pl.isList.push _⟩,?_,λh' tk G=>?_⟩
 ·intro i v s' S T z M;have c:a[i]?=some v:=by simpa using z
  have f:i < a.length:=(gEq c).1;have L:bs[i]?=some (bs.getD i true):=by rw[List.getD_eq_getElem?_getD,gG (by lia)];rfl
  obtain⟨P,t,N⟩:=j.get (i:=i) (x:=.bl (bs.getD i true)) (by rw[List.getElem?_map,L];rfl);rw[c]at t;cases t;cases (show v=Value.bool _ from N);exact wpAny_truthy_bool M
 ·have e:(List.range a.toArray.size).all (λi=>bs.getD i true)=bs.all id:=by
   rw[Bool.eq_iff_iff,List.all_eq_true,List.all_eq_true];constructor
   ·intro h x y;obtain⟨i,f,rfl⟩:=List.mem_iff_getElem.mp y;have:=h i (List.mem_range.mpr (by simp only[sA];lia));rw[List.getD_eq_getElem?_getD,gG f]at this;exact this
   ·intro h i f;have d:i < bs.length:=by have:=List.mem_range.mp f;simp only[sA]at this;lia
    rw[List.getD_eq_getElem?_getD,gG d];exact h _ (List.getElem_mem d)
  refine⟨.bl (bs.all id),H,I.kept (t':=tk) λb o n=>G b o ?_ (hG _ n),congrArg Value.bool e,q⟩;intro E;have:b=s.heap.objs.size:=by simpa using E
  exact absurd (hLq n) (by rw[this];exact Nat.lt_irrefl _)
end
structure Clo (X:Cx)(scope:Scope)(cl:List (Str × Addr)):Prop where
 eq:closureFor scope X.env=pure cl
 sub:∀ y c,cl.lookup y=some c→X.env.cells.lookup y=some c
 has:∀ y,((relabel scope X.env).names.lookup y=some .cell∨(relabel scope X.env).names.lookup y=some .free)→∃ c,cl.lookup y=some c
def zcv (a:∀ x∈scope.names,x.2≠.free)(b:∀ x∈scope.names,x.2≠.cell):Clo X scope []:=by
 refine⟨closureFor_none a,λy c h=>by simp at h,λy h=>?_⟩;have e:(relabel scope X.env).names=scope.names:=by
  unfold relabel;refine map_eq_self (λx d=>?_);obtain⟨n,k⟩:=x;have:(k == NameKind.free)=false:=by simpa using a _ d
  simp [this]
 rw[e]at h;rcases h with h | h
 ·exact absurd rfl (b _ (PySem.mem_of_lookup h))
 ·exact absurd rfl (a _ (PySem.mem_of_lookup h))
def zao (X:Cx)(N':List Str)(b:Scope)(e:List (Str × Addr))(d:List Addr)(a:Shared)(c:Hp):Cx where
 prog:=X.prog
 w:=X.w
 K:=X.K
 mg:=X.mg
 base:=X.base
 A:=X.A
 N:=N'
 s₀:=a
 H₀:=c
 env:=compEnvC b e a.heap.objs.size X.env
 outer:=X.stack
 stack:=X.stack
 ex:=d
 calm:=X.calm
 fn:=λ_=>false
 pn:=[]
 xe:=λ_ _=>False
def fvs (a:St)(ix:List Nat):St:=ix.map λi=>(a[i]?).join
def tLC (f:TI)(ix:List Nat)(te:TE):TE:=λb H Q=>f b H λJ e=>∀ D,e D=none →
 ∃ W:Nat→Nat→List V→Hp→Prop,(∃ m,W 0 m [] (upd e D (.lst []))) ∧
  ∀ i m ys H',W i m ys H'→H' D=some (.lst ys) ∧
   ((J.stop i H'∧Q (.ref D) H')∨(J.go i H'∧∀ x a,J.yld i H' x a→te (some x :: fvs b ix) a λy d =>
    d D=some (.lst ys)∧ys.length < sizeLine∧∃ c,c < m∧W (i+1) c (ys++[y]) (upd d D (.lst (ys++[y])))))
def zjE (I:Nat→Shared→Prop)
  (j:∀ n s,I n s→wpAny (model prog w) A (pyNext it) (λr b=>match r with
   | none=>R (.ok .next) b
   | some v=>wpAny (model prog w) A (letOwnedTupleGo target it v) (λ_ a=>wpAny (model prog w) A (assign target env v) (λ_ f=>wpAny (model prog w) A (eval elt env) (λx d =>
     wpAny (model prog w) A (call (.builtin "list.append") [acc,x]) (λ_ c=>∃ m,m < n∧I m c) (notedBy (model prog w) A env λe s'=>R (.error e) s') d)
     (notedBy (model prog w) A env λe s'=>R (.error e) s') f) (notedBy (model prog w) A env λe s'=>R (.error e) s') a) (notedBy (model prog w) A env λe s'=>R (.error e) s') b) (notedBy (model prog w) A env λe s'=>R (.error e) s') s)
  (n:Nat)(h:I n s) :
  codeAny (model prog w) A (.compLoop (.ListComp elt [⟨target,iter,[],0⟩] scope pos) 0 it acc env) R s:=by
 refine codeAny_loop rfl I (λn s p=>?_) n h;show wpAny _ _ ((compTurn (.ListComp elt [⟨target,iter,[],0⟩] scope pos) 0 it acc env).onRaise (λx=>do noteFrame x env;theTreesLotGoes x)) _ _ s
 refine wpAny_noted ?_;rw[compTurn_list1];refine wpAny_bind (wpAny_standAt (wpAny_bind (wpAny_mono (j n s p) (λr b g=>?_) λ_ _ h'=>h')));cases r with
 | none=>exact wpAny_pure g
 | some v =>
  refine wpAny_bind (wpAny_mono g (λ_ a i=>?_) λ_ _ h'=>h');exact wpAny_bind (wpAny_mono i (λ_ f o=>wpAny_bind (wpAny_bind (wpAny_mono o (λx d l=>wpAny_bind (wpAny_mono l
   (λ_ c k=>wpAny_pure (wpAny_pure ⟨rfl,k⟩)) λ_ _ h'=>h')) λ_ _ h'=>h'))) λ_ _ h'=>h')
section
variable {X:Cx} {N':List Str} {scope:Scope} {cl:List (Str × Addr)} {fp:List Addr} {pins:List (Addr × Obj)} {σ:St} {H:Hp} {s:Shared}
def zdy (I:Inv X pins σ H s)(C:Clo X scope cl)(a:scope.kind=.function)(hf:∀ b∈fp,zbS X pins H b)(e:∀ b∈fp,b < s.heap.objs.size):(zao X N' scope cl fp s H).Ok where
 mod:=I.ok.mod
 kind:=a
 glob:=I.ok.glob
 blt:=I.ok.blt
 above:=nRq _
 inj:=λx y c g f=>I.ok.inj x y c (C.sub x c g) (C.sub y c f)
 has:=λx h=>C.has x h
 cab:=λx c h=>by cases (show false=true from h)
 hd:=I.ok.hd
 frames:=I.ok.frames
 stk:=.inl rfl
 exf:=λb d=>⟨Nat.ne_of_lt (e b d),λx c h=>(hf b d).2.2.2.2.1 x c (C.sub x c h)⟩
 bs:=λb o h=>I.bs b o h
 bsz:=Nat.le_trans I.ok.bsz I.sz
 noex:=λb o h d=>by
  rcases(hf b d).2.2.2.1 with z | z
  ·exact I.ok.noex b o h z
  ·exact absurd (Nat.lt_of_lt_of_le (hLq h) (Nat.le_trans I.ok.bsz z)) (Nat.lt_irrefl _)
 exfs:=λb d hs=>by
  rcases List.mem_cons.mp (I.stkSub b hs) with z | z
  ·exact(hf b d).2.1 z
  ·exact(hf b d).2.2.1 z
 funs:=I.stack
 frf:=I.stkFree
def zfv (I:Inv X pins σ H s)(C:Clo X scope cl)(d:scope.kind=.function)(hf:∀ b∈fp,zbS X pins H b)(D:∀ b∈fp,b < s.heap.objs.size)
  (g:N'.length=ix.length+1)(F:∀(j i:Nat),ix[j]?=some i→∃ y,X.N[i]?=some y∧N'[j+1]?=some y∧(X.env.kindOf y=some .cell∨X.env.kindOf y=some .free)∧((relabel scope X.env).names.lookup y=some .cell∨(relabel scope X.env).names.lookup y=some .free))
  (R:h₁.Ns s.heap.objs.size m)(t:∀ b o,s.heap.get? b=some o→h₁.get? b=some o):Inv (zao X N' scope cl fp s H) [] (none :: fvs σ ix) H { s with heap:=h₁,toks:=t' }:=by
 have f:∀ x c,cl.lookup x=some c→∃ v,h₁.IsCell c v:=λx c h=>by obtain⟨v,o,B,G⟩:=I.cell x c (C.sub x c h);exact⟨v,o,t c o B,G⟩
 refine⟨zdy I C d hf D,rfl,I.bare,Un.kept t,⟨m,R,λi y v U K h3=>?_⟩,f,I.hok.fresh (nRq _),λx c h=>I.freeC x c (C.sub x c h),λp P=>absurd (show p∈([]:List (Addr × Obj)) from P) (by simp),I.hok.kept t,?_⟩
 ·cases i with
  | zero=>cases (show some (none:Option V)=some (some v) from K)
  | succ j =>
   have a:(fvs σ ix)[j]?=some (some v):=K;unfold fvs at a;rw[List.getElem?_map]at a;cases e:ix[j]? with
   | none=>rw[e]at a;cases a
   | some i =>
    rw[e]at a;have w:(σ[i]?).join=some v:=Option.some.inj a;have T:σ[i]?=some (some v):=by
     cases e':σ[i]? with
     | none=>rw[e']at w;cases w
     | some q =>
      rw[e']at w;have S:q=some v:=w;rw[S]
    obtain⟨r,O,M,k1,k2⟩:=F j i e;have W:r=y:=Option.some.inj (M.symm.trans U);subst W;obtain⟨Z,Q,E⟩:=I.loc;have A:Vis X.env.scope r:=k1.elim (λz=>.inr (.inl z)) λz=>.inr (.inr z);obtain⟨u,L,l⟩:=E i r v O T A;refine⟨u,L,.inr ⟨k2,?_⟩⟩;rcases l with ⟨k,_⟩ | ⟨_,c,Y,o,B,G⟩
    ·rcases k1 with z | z
     ·rw[z]at k;cases k
     ·rw[z]at k;cases k
    ·obtain⟨J,n⟩:=C.has r k2;have:J=c:=Option.some.inj ((C.sub _ _ n).symm.trans Y);subst this;exact⟨J,n,o,t J o B,G⟩
 ·show(none :: fvs σ ix:St).length=N'.length;rw[g];simp [fvs]
def zfm (I:Inv X pins σ H s)(J:Inv (zao X N' scope cl fp s H) [] σ' H' s')(hf:∀ b∈fp,zbS X pins H b)(hs:Heap.SameBut s.heap.objs.size s'.heap h'):Inv X pins σ H' { s' with heap:=h' }:=by
 have h:∀ b o,s.heap.get? b=some o→b≠s.heap.objs.size:=λb o e=>Nat.ne_of_lt (hLq e);have g:∀ b,b≠s.heap.objs.size→h'.get? b=s'.heap.get? b:=λb f=>hs.2 b f;have B:=J.base;have u:Un (frs X.stack) fp H H' s.heap h' :=
  ⟨λb o e n d j=>(g b (h b o e)).trans (B.keep b o e n d j),λb o e n d j=>by
   obtain⟨k,q⟩:=B.slot b o e n d j;exact⟨k,(g b (h b o e)).trans q⟩,λb o e n d=>B.free b o e n d,λb o e d=>by obtain⟨p,q⟩:=B.there b o e d;exact⟨p,(g b (h b o e)).trans q⟩,B.tups,B.frzs,B.tbls⟩
 have a:H' s.heap.objs.size=none:=J.free;have i:HOk X.prog X.w H' h':=λb l e=>by
  refine(J.hok b l e).stay (λc t r q=>(g c ?_).trans q) (λ_ q=>q) λ_ _ q=>q;rintro rfl;rcases r with z | z
  ·rw[←z,a]at e;cases e
  ·rw[a]at z;cases z
 exact I.call' (s':={ s' with heap:=h' }) (ch:=fp) J.os u i J.bare λb f=>⟨(hf b f).2.2.2.1,(hf b f).2.1,(hf b f).2.2.2.2.1,(hf b f).2.2.2.2.2⟩
end
section
variable {X:Cx} {N':List Str} {scope:Scope} {elt iter:Expr} {x:Str} {px pos:Pos} {wi:TI} {te:TE} {ix:List Nat}
def zj5 (hc:X.calm=true)(k:scope.kind=.function)(hcell:∀ y∈scope.names,y.2≠.cell)(P:∀ y∈scope.names,y.2=.local→scope.names.lookup y.1=some .local)(hx:scope.names.lookup x=some .local)
  (hclo:X.Ok→∃ F,Clo X scope F)(hN:N'.Nodup)(hN0:N'[0]?=some x)(hlen:N'.length=ix.length+1)
  (hix:∀(j i:Nat),ix[j]?=some i→∃ y,X.N[i]?=some y∧N'[j+1]?=some y∧(X.env.kindOf y=some .cell∨X.env.kindOf y=some .free)∧((relabel scope X.env).names.lookup y=some .cell∨(relabel scope X.env).names.lookup y=some .free))
  (hi:PI X (.Name x px) iter wi)(he:∀ F l s₃ H₃,PE (zao X N' scope F l s₃ H₃) elt te)(hs:∀ v,foldedSetIterable iter X.env v=pure v){use:Option (Value→Sem Unit)}{Qf:Value→Shared→Prop}{t:List (Addr × Obj)}{s:Shared}{S:St}{H:Hp}{Q:VK}{cp:Pos}(I:Inv X t S H s)(h:tLC wi ix te S H Q)
  (fin:∀(F:List (Str × Addr)) (l:List Addr) (g s6:Shared) (K H5:Hp) (σ6:St) (D:Addr),Inv X t S K g→Inv (zao X N' scope F l g K) [] σ6 H5 s6→(∀ b∈l,zbS X t K b)→Q (.ref D) H5→compPost (model X.prog X.w) X.A X.xe use Qf (.ref D) g.heap.objs.size (.ok .next) s6) :
  wpAny (model X.prog X.w) X.A (comprehension (.ListComp elt [⟨.Name x px,iter,[],0⟩] scope pos) scope X.env cp (newList []) false (eval iter X.env) use) Qf X.xe s:=by
 obtain⟨F,C⟩:=hclo I.ok;refine wpAny_comprehension_free rfl hs C.eq k P (thn (hi t s S H _ I h) λv s1 h1=>thn h1 λitv E h2=>?_);obtain⟨it,l,tn,J,H2,e,I2,T,st2,f2,q2⟩:=h2;subst e;have hD:H2 E.heap.objs.size=none:=I2.fresh;obtain⟨W,⟨m0,w0⟩,turn⟩:=q2 E.heap.objs.size hD;refine wpAny_newObj_type (wpAny_newFunctionEnv hcell (by intro y hy;simp at hy) (λL B z=>?_) k);dsimp only at B z ⊢;have I3:Inv X t S (upd H2 E.heap.objs.size (.lst [])) { E with heap:=E.heap.push { cls:=.type "list",data:=.seq ([]:List Value).toArray },toks:=E.toks }:=I2.lnew .nil (Nat.zero_le _);generalize hs3:({ E with heap:=E.heap.push { cls:=.type "list",data:=.seq ([]:List Value).toArray },toks:=E.toks }:Shared)=g at I3;have e3:g.heap=E.heap.push { cls:=.type "list",data:=.seq ([]:List Value).toArray }:=by rw[←hs3]
 generalize R:E.heap.objs.size=D at *;generalize hH3:upd H2 D (.lst [])=K at *;have lt2:∀ b∈l,b < E.heap.objs.size:=λb a=>by obtain⟨o,ho,_⟩:=T.obj 0 _ st2 b a;exact hLq ho
 have neD:∀ b∈l,b≠D:=λb a=>by rw[←R];exact Nat.ne_of_lt (lt2 b a)
 have f3:∀ b∈l,zbS X t K b:=λb a=>⟨by rw[←hH3,ag (neD b a)];exact(f2 b a).1,(f2 b a).2⟩;have sz3:g.heap.objs.size=D+1:=by rw[e3,Heap.size_push,R]
 have O:∀ b∈l,b < g.heap.objs.size:=λb a=>by have q:=lt2 b a;rw[sz3];rw[R]at q;exact Nat.lt_succ_of_lt q
 have old:∀ b o,g.heap.get? b=some o→L.get? b=some o:=λb o Y=>by
  have a:b < D+1:=by rw[←sz3];exact hLq Y
  refine z.extBut b o ?_ (hG _ (by rw[←e3];exact Y));rw[Heap.size_push,R];exact Nat.ne_of_lt a
 have szC:(E.heap.push { cls:=.type "list",data:=.seq ([]:List Value).toArray }).objs.size=g.heap.objs.size:=by rw[e3]
 have os3:g.os=E.os:=by rw[←hs3]
 rw[szC]at B z;have I4:Inv (zao X N' scope F l g K) [] (none :: fvs S ix) K { g with heap:=L,toks:=E.toks+([]:List (Str × Value)).length }:=zfv I3 C k f3 O hlen hix B old;have st4:tn 0 L:=T.keep 0 _ _ st2 λb a o Y=>old b o (by rw[e3];exact hG _ Y);have M:∀ {H':Hp},(∀ b∈l,H' b=none)→∀ b∈l,zbS (zao X N' scope F l g K) [] H' b:=λhn b a =>
  ⟨hn b a,Nat.ne_of_lt (O b a),λhs'=>(zdy (N':=N') I3 C k f3 O).exfs b a hs',.inl a,λy c hy=>((zdy (N':=N') I3 C k f3 O).exf b a).2 y c hy,λp hp=>absurd (show p∈([]:List (Addr × Obj)) from hp) (by simp)⟩
 have U:∀ s4:Shared,s4={ g with heap:=L,toks:=E.toks+([]:List (Str × Value)).length } →
   codeAny (model X.prog X.w) X.A (.compLoop (.ListComp elt [⟨.Name x px,iter,[],0⟩] scope pos) 0 (.ref it) (.ref D) (compEnvC scope F g.heap.objs.size X.env))
    (compPost (model X.prog X.w) X.A X.xe use Qf (.ref D) g.heap.objs.size) s4:=by
  rintro s4 rfl;refine zjE (λn s'=>∃ i σ0 H' ys,Inv (zao X N' scope F l g K) [] (σ0 :: fvs S ix) H' s'∧tn i s'.heap∧(∀ b∈l,H' b=none)∧W i n ys H') ?_ m0 ⟨0,none,K,[],I4,st4,λb a=>(f3 b a).1,w0⟩;rintro n s5 ⟨i,σ0,H5,ys,I5,st5,fr5,w5⟩;obtain⟨hD5,alt⟩:=turn i n ys H5 w5;rcases alt with ⟨stop,q⟩ | ⟨go,step⟩
  ·refine thn (T.done (zao X N' scope F l g K) rfl rfl rfl hc i [] s5 _ H5 _ I5 (M fr5) st5 stop) λr s6 ⟨hr,I6⟩=>?_;subst hr;exact fin F l g s6 K H5 _ D I3 I6 f3 q
  ·refine thn (T.item (zao X N' scope F l g K) rfl rfl rfl hc i [] s5 _ H5 _ I5 (M fr5) st5 go) λr s6 ⟨u,hr,h6⟩=>?_;subst hr;refine thn h6 λ_ s7 ⟨y7,H7,I7,r7,yl7,Z,fr7⟩=>?_;have I7':=I7.pinned (M fr7) (T.obj _ _ Z);have G:PG (zao X N' scope F l g K) (.Name x px) (zd4 0):=zae hN hN0 (.inl (lookup_relabel_local hx)) (.inr (lookup_relabel_local hx));refine wpAny_mono (G _ s7 _ H7 y7 u (λσ' H'=>σ'=some y7 :: fvs S ix∧H'=H7) I7' r7 ⟨rfl,rfl⟩) (λ_ s8 h8=>?_) λ_ _ f=>False.elim f;obtain⟨σ8,H8,I8,rfl,rfl⟩:=h8;refine wpAny_mono (he F l g K _ s8 _ H8 _ I8 (step y7 H8 yl7)) (λyv s9 h9=>?_) λ_ _ f=>False.elim f;obtain⟨y9,H9,I9,r9,hD9,hl9,m',hm',w9⟩:=h9;refine wpAny_mono (zaA (X:=zao X N' scope F l g K) _ s9 _ H9 (.ref D) [y9] (.ref D) [yv] (λ_ H'=>H'=upd H9 D (.lst (ys++[y9]))) I9 rfl (.cons r9 .nil) ⟨D,ys,y9,rfl,rfl,hD9,hl9,rfl⟩) (λ_ s10 h10=>?_) λ_ _ f=>False.elim f;obtain⟨_,H10,I10,_,rfl⟩:=h10;refine⟨m',hm',i+1,some y7,_,ys++[y9],I10.unpinned,T.keep _ _ _ Z λb a o Y=>(I10.pin (b,o) (List.mem_append_right _ (List.mem_append_right _ (zbL a Y)))).1,λb a=>?_,w9⟩;obtain⟨o,Y,d⟩:=T.obj _ _ Z b a;exact(I10.pin (b,o) (List.mem_append_right _ (List.mem_append_right _ (zbL a Y)))).2.1
 subst hs3;have fin':=codeAny_compStart_list (U _ rfl) (T.self X.A 0 _ _ _ st4 (U _ rfl));exact fin'
def zcS (C:X.calm=true)(b:scope.kind=.function)(c:∀ y∈scope.names,y.2≠.cell)(a:∀ y∈scope.names,y.2=.local→scope.names.lookup y.1=some .local)(w:scope.names.lookup x=some .local)
  (f:X.Ok→∃ k,Clo X scope k)(E:N'.Nodup)(o:N'[0]?=some x)(e:N'.length=ix.length+1)
  (n:∀(j i:Nat),ix[j]?=some i→∃ y,X.N[i]?=some y∧N'[j+1]?=some y∧(X.env.kindOf y=some .cell∨X.env.kindOf y=some .free)∧((relabel scope X.env).names.lookup y=some .cell∨(relabel scope X.env).names.lookup y=some .free))
  (A:PI X (.Name x px) iter wi)(B:∀ k r d g,PE (zao X N' scope k r d g) elt te)(hs:∀ v,foldedSetIterable iter X.env v=pure v:=by intro _;rfl) :
  PE X (.ListComp elt [⟨.Name x px,iter,[],0⟩] scope pos) (tLC wi ix te):=by intro p s K H Q I h;rw[eval_ListComp];refine zj5 C b c a w f E o e n A B hs I h λk r M L O J u D G t F q=>?_;obtain⟨m,z,_⟩:=t.loc;exact⟨m,z,λh' l=>⟨.ref D,J,zfm G t F l,rfl,q⟩⟩
end
section
variable {X:Cx} {e l:Expr} {es:List Expr} {te tl:TE} {pos:Pos} {tg:Expr}
def tFmt (te:TE):TE:=λb H Q=>te b H λx a=>(∃ z,x=.str z∧z.length≤sizeLine∧Q (.str z) a)∨∃ i:Int,x=.int i∧i.natAbs.log2 < 1920∧Q (.str (toString i)) a
def zdZ (k:PE X e te):PE X (.FormattedValue e (-1) none pos) (tFmt te):=by
 intro a s f H Q I h;refine FormattedValue_plain (thn (k a s f H _ I h) λv n ⟨x,d,c,b,q1⟩=>?_);rcases q1 with ⟨z,rfl,g,q⟩ | ⟨i,rfl,j,q⟩
 ·obtain⟨t,rfl⟩:=b;exact formatField_str (λt' tk=>⟨.str z,d,c.tok _,⟨_,rfl⟩,q⟩) g
 ·obtain⟨t,rfl⟩:=b;exact formatField_int_small j ⟨.str _,d,c.tok _,⟨_,rfl⟩,q⟩
def tRepr (te:TE):TE:=λa H Q=>te a H λx b=>∃ z,x=.str z∧(reprText z).length≤sizeLine∧Q (.str (reprText z)) b
def pe_fvr (f:PE X e te):PE X (.FormattedValue e 114 none pos) (tRepr te):=by intro a s c H Q I h;refine wpAny_FormattedValue_repr (thn (f a s c H _ I h) λv j ⟨x,i,g,d,q1⟩=>?_);obtain⟨z,rfl,b,q⟩:=q1;obtain⟨t,rfl⟩:=d;refine wpAny_pyReprObj_str ?_ b;exact formatField_str (λt' tk=>⟨.str (reprText z),i,g.tok _,⟨_,rfl⟩,q⟩) b
abbrev TJ:=St→Hp→Str→(Str→Hp→Prop)→Prop
def PJ (X:Cx)(es:List Expr)(t:TJ):Prop :=
 ∀(a:List (Addr × Obj)) (s:Shared) (c:St) (H:Hp) (acc:Str) (Q:Str→Hp→Prop) (R:Str→Shared→Prop),Inv X a c H s→t c H acc Q→(∀ b d f,Inv X a c f d→Q b f→R b d)→Joins (model X.prog X.w) X.A X.xe (evalEach es X.env) acc R s
def jNil:TJ:=λ_ H acc Q=>Q acc H
def jCons (te:TE)(t:TJ):TJ:=λa H acc Q=>te a H λx b=>∃ y,x=.str y∧(acc++y).length≤sizeLine∧t a b (acc++y) Q
def zcN:PJ X [] jNil:=λ_ _ _ _ _ _ _ I h k=>k _ _ _ I h
def zaC (i:PE X e te)(g:PJ X es t):PJ X (e :: es) (jCons te t):=by intro a s b H acc Q R I h k;refine thn (i a s b H _ I h) λv c ⟨x,n,j,d,q1⟩=>?_;obtain⟨y,rfl,f,q⟩:=q1;obtain⟨t,rfl⟩:=d;exact⟨y,_,rfl,f,g a c b n _ Q R j q k⟩
def znn (t:TJ):TE:=λb H Q=>t b H Str.empty λa c=>a.length≤sizeLine∧Q (.str a) c
def zbv (h:PJ X (v1 :: v2 :: es) t):PE X (.JoinedStr (v1 :: v2 :: es) pos) (znn t):=by intro a s c H Q I d;exact wpAny_JoinedStr (h a s c H _ _ _ I d λb i g f q=>⟨q.1,.str b,g,f.tok _,⟨_,rfl⟩,q.2⟩)
def iSeq (K:W.Frag)(tl:TE):TI:=λc H R=>tl c H λx b=>∃ a,x=.ref a∧(((∃ xs,SqL K b a xs)∧R (Itl K a) b)∨((∃ xs,SqT K b a xs)∧R (Itt K a) b))
def zk5 (w:PE X l tl):PI X tg l (iSeq X.K tl):=by
 intro d s n H R I h;refine thn (w d s n H _ I h) λv c ⟨x,j,f,t,q1⟩=>?_;obtain⟨a,rfl,q⟩:=q1;cases t;have k:∀ b∈[c.heap.objs.size],zbS X d j b:=λb y=>by
  have e:b=c.heap.objs.size:=by simpa using y
  subst e;exact f.fpOk (nRq _) (f.hok.fresh (nRq _))
 rcases q with ⟨⟨xs,i⟩,q⟩ | ⟨⟨xs,i⟩,q⟩
 ·obtain⟨g,r,p,u⟩:=f.list i;refine wpAny_pyIter_list p.isList ?_;exact⟨c.heap.objs.size,[c.heap.objs.size],_,_,j,rfl,f.kept (t':=c.toks) λb o e=>hG _ e,zfI a _,⟨_,Heap.get?_push_size _ rfl,rfl,rfl⟩,k,q⟩
 ·obtain⟨g,r,p,u⟩:=f.tuple i;refine wpAny_pyIter_tuple (show c.heap.IsTuple a g.toArray from p) ?_;exact⟨c.heap.objs.size,[c.heap.objs.size],_,_,j,rfl,f.kept (t':=c.toks) λb o e=>hG _ e,zfo a _,⟨_,Heap.get?_push_size _ rfl,rfl,rfl⟩,k,q⟩
end
def zg1:∀(l:List (Str × NameKind)) (acc:List (Str × Addr)),(∀ y∈l,y.2=.free→∃ c,env.cells.lookup y.1=some c) →
  ∃ b,(forIn l acc (λ(y:Str × NameKind) o=>if(y.2 == NameKind.free)=true then do let c ←cellOf env y.1;pure (ForInStep.yield ((y.1,c) :: o)) else pure (ForInStep.yield o)):Sem (List (Str × Addr)))=pure b ∧
   (∀ y c,b.lookup y=some c→acc.lookup y=some c∨env.cells.lookup y=some c)∧∀ y,((y,NameKind.free)∈l∨∃ c,acc.lookup y=some c)→∃ c,b.lookup y=some c
 | [],acc,_=>⟨acc,rfl,λ_ _ h=>.inl h,λy h=>h.elim (λz=>by cases z) λz=>z⟩
 | (n,k) :: r,acc,hf=>by
  by_cases e:k=.free
  ·subst e;obtain⟨c,j⟩:=hf (n,.free) List.mem_cons_self rfl;obtain⟨b,i,g,f⟩:=zg1 r ((n,c) :: acc) λy a=>hf y (List.mem_cons_of_mem _ a);refine⟨b,?_,λy d h=>?_,λy h=>?_⟩
   ·rw[List.forIn_cons];have q:cellOf env n=pure c:=by unfold cellOf;rw[show env.cells.lookup n=some c from j]
    have s:(NameKind.free == NameKind.free)=true:=rfl;simp only[s,if_true,q,pure_bind];exact i
   ·rcases g y d h with z | z
    ·by_cases a:y=n
     ·subst a;rw[List.lookup_cons,beq_self_eq_true]at z;cases z;exact .inr j
     ·rw[List.lookup_cons,beq_eq_false_iff_ne.mpr a]at z;exact .inl z
    ·exact .inr z
   ·refine f y ?_;by_cases a:y=n
    ·subst a;exact .inr ⟨c,by rw[List.lookup_cons,beq_self_eq_true]⟩
    ·rcases h with z | ⟨d,z⟩
     ·rcases List.mem_cons.mp z with z | z
      ·exact absurd (congrArg Prod.fst z) a
      ·exact .inl z
     ·exact .inr ⟨d,by rw[List.lookup_cons,beq_eq_false_iff_ne.mpr a];exact z⟩
  ·obtain⟨b,i,g,f⟩:=zg1 r acc λy a=>hf y (List.mem_cons_of_mem _ a);refine⟨b,?_,g,λy h=>f y ?_⟩
   ·rw[List.forIn_cons];have p:(k == NameKind.free)=false:=by simpa using e
    simp only[p,Bool.false_eq_true,if_false,pure_bind];exact i
   ·rcases h with z | z
    ·rcases List.mem_cons.mp z with z | z
     ·exact absurd (congrArg Prod.snd z).symm e
     ·exact .inl z
    ·exact .inr z
def zcd (o:X.Ok)(i:X.env.scope=sc)(a:∀ x∈scope.names,x.2≠.cell)
  (hf:∀ y∈scope.names,y.2=.free→sc.names.lookup y.1=some .cell∨sc.names.lookup y.1=some .free):∃ e,Clo X scope e:=by
 obtain⟨e,v,u,t⟩:=zg1 (env:=X.env) scope.names [] λy p h=>o.has y.1 (by show X.env.scope.names.lookup y.1=_∨X.env.scope.names.lookup y.1=_;rw[i];exact hf y p h)
 refine⟨e,?_,λy c h=>(u y c h).elim (λz=>by cases z) λz=>z,λy h=>t y (.inl ?_)⟩
 ·unfold closureFor;have w:(forIn scope.names ([]:List (Str × Addr)) (λ(x:Str × NameKind) n=>match x with
    | (name,d)=>if(d == NameKind.free)=true then do let c ←cellOf X.env name;pure (ForInStep.yield ((name,c) :: n)) else pure (ForInStep.yield n)):Sem (List (Str × Addr)))=pure e:=v
  show(forIn scope.names ([]:List (Str × Addr)) _ >>= λz=>pure z)=pure e;rw[bind_pure];exact w
 ·have m:∃ k,(k=.cell∨k=.free)∧(y,k)∈(relabel scope X.env).names:=by
   rcases h with h | h
   ·exact⟨_,.inl rfl,PySem.mem_of_lookup h⟩
   ·exact⟨_,.inr rfl,PySem.mem_of_lookup h⟩
  obtain⟨k,q,l⟩:=m;unfold relabel at l;obtain⟨⟨g,k0⟩,h0,b⟩:=List.mem_map.mp l;by_cases f:(k0 == NameKind.free&&X.env.scope.kind == .function&&X.env.kindOf g == some .cell)=true
  ·dsimp only at b;rw[if_pos f]at b;have j:g=y:=congrArg Prod.fst b;have s:k0=.free:=by rw[Bool.and_eq_true,Bool.and_eq_true]at f;simpa using f.1.1
   rw[j,s]at h0;exact h0
  ·dsimp only at b;rw[if_neg f]at b;have j:g=y:=congrArg Prod.fst b;have r:k0=k:=congrArg Prod.snd b;rw[j,r]at h0;rcases q with z | z
   ·exact absurd z (a _ h0)
   ·rw[z]at h0;exact h0
def tLCI (h:TI)(ix:List Nat)(j:TT)(te:TE):TE:=λd H Q=>h d H λJ g=>∀ D,g D=none →
 ∃ W:Nat→Nat→List V→Hp→Prop,(∃ m,W 0 m [] (upd g D (.lst []))) ∧
  ∀ i m ys H',W i m ys H'→H' D=some (.lst ys) ∧
   ((J.stop i H'∧Q (.ref D) H')∨(J.go i H'∧∀ x c,J.yld i H' x c→j (some x :: fvs d ix) c λb f =>
    if b=true then te (some x :: fvs d ix) f λy e=>e D=some (.lst ys)∧ys.length < sizeLine∧∃ a,a < m∧W (i+1) a (ys++[y]) (upd e D (.lst (ys++[y])))
    else ∃ a,a < m∧W (i+1) a ys f))
def zf9 (J:Nat→Shared→Prop)
  (step:∀ n s,J n s→wpAny (model prog w) A (pyNext it) (λr d=>match r with
   | none=>R (.ok .next) d
   | some v=>wpAny (model prog w) A (letOwnedTupleGo target it v) (λ_ i=>wpAny (model prog w) A (assign target env v) (λ_ h=>wpAny (model prog w) A (isTrue c env (eval c env)) (λb a=>if b=true then wpAny (model prog w) A (eval elt env) (λx g =>
     wpAny (model prog w) A (call (.builtin "list.append") [acc,x]) (λ_ f=>∃ m,m < n∧J m f) (notedBy (model prog w) A env λe s'=>R (.error e) s') g) (notedBy (model prog w) A env λe s'=>R (.error e) s') a
     else ∃ m,m < n∧J m a) (notedBy (model prog w) A env λe s'=>R (.error e) s') h)
     (notedBy (model prog w) A env λe s'=>R (.error e) s') i) (notedBy (model prog w) A env λe s'=>R (.error e) s') d) (notedBy (model prog w) A env λe s'=>R (.error e) s') s)
  (n:Nat)(h0:J n s):codeAny (model prog w) A (.compLoop (.ListComp elt [⟨target,iter,[c],0⟩] scope pos) 0 it acc env) R s:=by
 refine codeAny_loop rfl J (λn s l=>?_) n h0;show wpAny _ A ((compTurn (.ListComp elt [⟨target,iter,[c],0⟩] scope pos) 0 it acc env).onRaise (λx=>do noteFrame x env;theTreesLotGoes x)) _ _ s
 refine wpAny_noted ?_;rw[compTurn_list];refine wpAny_bind (wpAny_standAt (wpAny_bind (wpAny_mono (step n s l) (λr d k=>?_) λ_ _ z=>z)));cases r with
 | none=>exact wpAny_pure k
 | some v =>
  refine wpAny_bind (wpAny_mono k (λ_ i t=>?_) λ_ _ z=>z);refine wpAny_bind (wpAny_mono t (λ_ h q=>?_) λ_ _ z=>z);refine wpAny_bind ?_;rw[List.forIn_cons];refine wpAny_bind ?_;rw[if_pos rfl];refine wpAny_bind (wpAny_mono q (λb a j=>wpAny_pure ?_) λ_ _ z=>z);show wpAny _ A (forIn ([]:List Expr) b _) _ _ a;rw[List.forIn_nil];refine wpAny_pure ?_;cases b with
  | false=>exact wpAny_pure ⟨rfl,j⟩
  | true=>exact wpAny_bind (wpAny_bind (wpAny_mono j (λx g p=>wpAny_bind (wpAny_mono p (λ_ f o=>wpAny_pure (wpAny_pure ⟨rfl,o⟩)) λ_ _ z=>z)) λ_ _ z=>z))
section
variable {X:Cx} {N':List Str} {scope:Scope} {elt iter c:Expr} {x:Str} {px pos:Pos} {wi:TI} {tc:TT} {te:TE} {ix:List Nat}
def zeR (hc:X.calm=true)(k:scope.kind=.function)(hcell:∀ y∈scope.names,y.2≠.cell)(Y:∀ y∈scope.names,y.2=.local→scope.names.lookup y.1=some .local)(hx:scope.names.lookup x=some .local)
  (hclo:X.Ok→∃ B,Clo X scope B)(hN:N'.Nodup)(hN0:N'[0]?=some x)(hlen:N'.length=ix.length+1)
  (hix:∀(j i:Nat),ix[j]?=some i→∃ y,X.N[i]?=some y∧N'[j+1]?=some y∧(X.env.kindOf y=some .cell∨X.env.kindOf y=some .free)∧((relabel scope X.env).names.lookup y=some .cell∨(relabel scope X.env).names.lookup y=some .free))
  (hi:PI X (.Name x px) iter wi)(ht:∀ B g M R,PT (zao X N' scope B g M R) c tc)(he:∀ B g M R,PE (zao X N' scope B g M R) elt te)(hs:∀ v,foldedSetIterable iter X.env v=pure v:=by intro _;rfl) :
  PE X (.ListComp elt [⟨.Name x px,iter,[c],0⟩] scope pos) (tLCI wi ix tc te):=by
 intro F s σ H Q I h;obtain⟨B,C⟩:=hclo I.ok;rw[eval_ListComp];refine wpAny_comprehension_free (use:=none) rfl hs C.eq k Y (thn (hi F s σ H _ I h) λv s1 h1=>thn h1 λitv E h2=>?_);obtain⟨it,g,tn,J,H2,e,I2,T,st2,f2,q2⟩:=h2;subst e;have hD:H2 E.heap.objs.size=none:=I2.fresh;obtain⟨W,⟨m0,w0⟩,turn⟩:=q2 E.heap.objs.size hD;refine wpAny_newObj_type (wpAny_newFunctionEnv hcell (by intro y hy;simp at hy) (λK z t=>?_) k);dsimp only at z t ⊢;have I3:Inv X F σ (upd H2 E.heap.objs.size (.lst [])) { E with heap:=E.heap.push { cls:=.type "list",data:=.seq ([]:List Value).toArray },toks:=E.toks }:=I2.lnew .nil (Nat.zero_le _);generalize hs3:({ E with heap:=E.heap.push { cls:=.type "list",data:=.seq ([]:List Value).toArray },toks:=E.toks }:Shared)=l at I3;have e3:l.heap=E.heap.push { cls:=.type "list",data:=.seq ([]:List Value).toArray }:=by rw[←hs3]
 generalize Z:E.heap.objs.size=D at *;generalize hH3:upd H2 D (.lst [])=L at *;have lt2:∀ b∈g,b < E.heap.objs.size:=λb a=>by obtain⟨o,ho,_⟩:=T.obj 0 _ st2 b a;exact hLq ho
 have neD:∀ b∈g,b≠D:=λb a=>by rw[←Z];exact Nat.ne_of_lt (lt2 b a)
 have f3:∀ b∈g,zbS X F L b:=λb a=>⟨by rw[←hH3,ag (neD b a)];exact(f2 b a).1,(f2 b a).2⟩;have sz3:l.heap.objs.size=D+1:=by rw[e3,Heap.size_push,Z]
 have U:∀ b∈g,b < l.heap.objs.size:=λb a=>by have q:=lt2 b a;rw[sz3];rw[Z]at q;exact Nat.lt_succ_of_lt q
 have old:∀ b o,l.heap.get? b=some o→K.get? b=some o:=λb o eb=>by
  have a:b < D+1:=by rw[←sz3];exact hLq eb
  refine t.extBut b o ?_ (hG _ (by rw[←e3];exact eb));rw[Heap.size_push,Z];exact Nat.ne_of_lt a
 have szC:(E.heap.push { cls:=.type "list",data:=.seq ([]:List Value).toArray }).objs.size=l.heap.objs.size:=by rw[e3]
 rw[szC]at z t;have I4:Inv (zao X N' scope B g l L) [] (none :: fvs σ ix) L { l with heap:=K,toks:=E.toks+([]:List (Str × Value)).length }:=zfv I3 C k f3 U hlen hix z old;have st4:tn 0 K:=T.keep 0 _ _ st2 λb a o eb=>old b o (by rw[e3];exact hG _ eb);have O:∀ {H':Hp},(∀ b∈g,H' b=none)→∀ b∈g,zbS (zao X N' scope B g l L) [] H' b:=λhn b a =>
  ⟨hn b a,Nat.ne_of_lt (U b a),λhs'=>(zdy (N':=N') I3 C k f3 U).exfs b a hs',.inl a,λy c hy=>((zdy (N':=N') I3 C k f3 U).exf b a).2 y c hy,λp hp=>absurd (show p∈([]:List (Addr × Obj)) from hp) (by simp)⟩
 have loop:∀ s4:Shared,s4={ l with heap:=K,toks:=E.toks+([]:List (Str × Value)).length } →
   codeAny (model X.prog X.w) X.A (.compLoop (.ListComp elt [⟨.Name x px,iter,[c],0⟩] scope pos) 0 (.ref it) (.ref D) (compEnvC scope B l.heap.objs.size X.env))
    (compPost (model X.prog X.w) X.A X.xe none (EP X F σ Q) (.ref D) l.heap.objs.size) s4:=by
  rintro s4 rfl;refine zf9 (λn s'=>∃ i S H' ys,Inv (zao X N' scope B g l L) [] (S :: fvs σ ix) H' s'∧tn i s'.heap∧(∀ b∈g,H' b=none)∧W i n ys H') ?_ m0 ⟨0,none,L,[],I4,st4,λb a=>(f3 b a).1,w0⟩;rintro n s5 ⟨i,S,H5,ys,I5,st5,fr5,w5⟩;obtain⟨hD5,alt⟩:=turn i n ys H5 w5;rcases alt with ⟨stop,q⟩ | ⟨go,step⟩
  ·refine thn (T.done (zao X N' scope B g l L) rfl rfl rfl hc i [] s5 _ H5 _ I5 (O fr5) st5 stop) λr s6 ⟨hr,I6⟩=>?_;subst hr;obtain⟨m,hn,_⟩:=I6.loc;exact⟨m,hn,λh' hsb=>⟨.ref D,H5,zfm I3 I6 f3 hsb,rfl,q⟩⟩
  ·refine thn (T.item (zao X N' scope B g l L) rfl rfl rfl hc i [] s5 _ H5 _ I5 (O fr5) st5 go) λr s6 ⟨u,hr,h6⟩=>?_;subst hr;refine thn h6 λ_ s7 ⟨y7,H7,I7,r7,yl7,st7,fr7⟩=>?_;have I7':=I7.pinned (O fr7) (T.obj _ _ st7);have G:PG (zao X N' scope B g l L) (.Name x px) (zd4 0):=zae hN hN0 (.inl (lookup_relabel_local hx)) (.inr (lookup_relabel_local hx));refine wpAny_mono (G _ s7 _ H7 y7 u (λσ' H'=>σ'=some y7 :: fvs σ ix∧H'=H7) I7' r7 ⟨rfl,rfl⟩) (λ_ s8 h8=>?_) λ_ _ f=>False.elim f;obtain⟨σ8,H8,I8,rfl,rfl⟩:=h8;have fin:∀ {σ9:Option V} {H9:Hp} {s9:Shared} {zs:List V} {m':Nat},Inv (zao X N' scope B g l L) ([]++zeP g s7.heap) (σ9 :: fvs σ ix) H9 s9→m' < n→W (i+1) m' zs H9→∃ m,m < n∧∃ i S H' ys,Inv (zao X N' scope B g l L) [] (S :: fvs σ ix) H' s9∧tn i s9.heap∧(∀ b∈g,H' b=none)∧W i m ys H':=λ{σ9 H9 s9 zs m'} I9 P w9=>by refine⟨m',P,i+1,σ9,H9,zs,I9.unpinned,T.keep _ _ _ st7 λb a o eb=>(I9.pin (b,o) (List.mem_append_right _ (List.mem_append_right _ (zbL a eb)))).1,λb a=>?_,w9⟩;obtain⟨o,eb,d⟩:=T.obj _ _ st7 b a;exact(I9.pin (b,o) (List.mem_append_right _ (List.mem_append_right _ (zbL a eb)))).2.1
   refine wpAny_mono (ht B g l L _ s8 _ H8 _ I8 (step y7 H8 yl7)) (λb s9 h9=>?_) λ_ _ f=>False.elim f;obtain⟨H9,I9,q9⟩:=h9;cases b with
   | false =>
    obtain⟨m',P,w9⟩:=q9;exact fin I9 P w9
   | true =>
    refine wpAny_mono (he B g l L _ s9 _ H9 _ I9 q9) (λyv s10 h10=>?_) λ_ _ f=>False.elim f;obtain⟨y10,H10,I10,r10,hD10,hl10,m',P,w10⟩:=h10;refine wpAny_mono (zaA (X:=zao X N' scope B g l L) _ s10 _ H10 (.ref D) [y10] (.ref D) [yv] (λ_ H'=>H'=upd H10 D (.lst (ys++[y10]))) I10 rfl (.cons r10 .nil) ⟨D,ys,y10,rfl,rfl,hD10,hl10,rfl⟩) (λ_ s11 h11=>?_) λ_ _ f=>False.elim f;obtain⟨_,H11,I11,_,rfl⟩:=h11;exact fin I11 P w10
 subst hs3;have fin:=codeAny_compStart_list (loop _ rfl) (T.self X.A 0 _ _ _ st4 (loop _ rfl));exact fin
end
def Inv.skip (I:Inv X pins σ H s)(hs:Heap.SameBut C s.heap h')(t:X.s₀.heap.objs.size≤C)(r:C≠X.env.locals)(f:∀ x c,X.env.cells.lookup x=some c→c≠C)(l:∀ p∈X.pn++pins,p.1≠C)(hf:H C=none) :
  Inv X pins σ H { s with heap:=h' }:=by
 have a:∀ b,b≠C→h'.get? b=s.heap.get? b:=λb g=>hs.2 b g;have nm:∀ {b:Addr},b∉[C]→b≠C:=λh z=>h (by rw[z];exact List.mem_cons_self);have u:Un (frs X.stack) [C] H H s.heap h':=⟨λb o e _ _ i=>(a b (nm i)).trans e,λb o e _ _ i=>⟨o.slots,(a b (nm i)).trans e⟩,λb o e n _=>n,λb o e v=>⟨o,(a b (nm v)).trans e⟩,λ_ _ q=>q,λ_ _ _ q=>q,λ_ ps q=>⟨#[],by rw[q];simp⟩⟩;have d:HOk X.prog X.w H h':=λb j e=>by
  refine(I.hok b j e).stay (λc y k q=>(a c ?_).trans q) (λ_ q=>q) λ_ _ q=>q;rintro rfl;rcases k with z | z
  ·rw[←z,hf]at e;cases e
  ·rw[hf]at z;cases z
 refine I.call' (s':={ s with heap:=h' }) (ch:=[C]) rfl u d I.bare λb g=>?_;have e:b=C:=mS g;subst e;exact⟨.inr t,r,f,l⟩
section
variable {X:Cx} {N':List Str} {scope:Scope} {elt iter:Expr} {x:Str} {px pos:Pos} {wi:TI} {te:TE} {ix:List Nat}
def zmr (F:X.N.Nodup)(C:X.N[i]?=some y0)(W:Loc X.env.scope y0)(hc:X.calm=true)(f:scope.kind=.function)(g:∀ y∈scope.names,y.2≠.cell)(b:∀ y∈scope.names,y.2=.local→scope.names.lookup y.1=some .local)(Y:scope.names.lookup x=some .local)
  (t:X.Ok→∃ w,Clo X scope w)(hN:N'.Nodup)(G:N'[0]?=some x)(r:N'.length=ix.length+1)
  (E:∀(j i:Nat),ix[j]?=some i→∃ y,X.N[i]?=some y∧N'[j+1]?=some y∧(X.env.kindOf y=some .cell∨X.env.kindOf y=some .free)∧((relabel scope X.env).names.lookup y=some .cell∨(relabel scope X.env).names.lookup y=some .free))
  (hi:PI X (.Name x px) iter wi)(he:∀ w P n u,PE (zao X N' scope w P n u) elt te)(A:swapsWith (.ListComp elt [⟨.Name x px,iter,[],0⟩] scope pos) (some (.Name y0 py)) spos.line X.env=pure true:=by rfl)
  (hf:X.fn y0=true∨X.env.scope.names.lookup y0=some .local:=by first | exact .inl rfl | exact .inr rfl | assumption)(hs:∀ v,foldedSetIterable iter X.env v=pure v:=by intro _;rfl) :
  PS X (.Assign [.Name y0 py] (.ListComp elt [⟨.Name x px,iter,[],0⟩] scope pos) spos) (tAsg (tLC wi ix te) (zd4 i)):=by
 intro d s L H S I h;rw[exec_Assign_Name_used _ _ _ _ A];refine wpAny_bind (wpAny_standAt (wpAny_bind ?_));rw[arm_evalThenUse_ListComp];refine wpAny_bind (wpAny_mono (zj5 (use:=some (assign (.Name y0 py) X.env)) (Qf:=λ_ s'=>∃ l H',Inv X d l H' s'∧S.nx l H') (Q:=λx H1=>zd4 i x L H1 S.nx) hc f g b Y t hN G r E hi he hs I h λw P O M H3 R T D k K f3 q=>?_) (λ_ s' h'=>wpAny_pure (wpAny_pure h')) λ_ _ z=>z);obtain⟨m,hn,_⟩:=K.loc;have Io:Inv X d L R M:=zfm (h':=M.heap) k K f3 ⟨rfl,λ_ _=>rfl⟩;refine wpAny_assign_Name (zfJ (v:=.ref D) Io F C W rfl (λs7 I7 ⟨a,U,ha⟩=>?_) hf);have o:∀ x c,X.env.cells.lookup x=some c→c < O.heap.objs.size:=λx c e=>by obtain⟨v,Z⟩:=k.cell x c e;exact Z.lt
 have J:O.heap.objs.size≠a:=by
  rintro rfl;rcases ha with z | z
  ·exact absurd k.lt (by rw[←z];exact Nat.lt_irrefl _)
  ·exact absurd (o _ _ z) (Nat.lt_irrefl _)
 refine⟨m,hn.sameBut U J,λh' B=>⟨_,R,?_,q⟩⟩;exact I7.skip B k.sz (Nat.ne_of_gt k.lt) (λx c e=>Nat.ne_of_lt (o x c e)) (λp hp=>Nat.ne_of_lt (hLq (k.pin p hp).1)) K.free
end
section
variable {X:Cx} {N':List Str} {scope:Scope} {elt iter c:Expr} {x:Str} {px pos:Pos} {wi:TI} {tc:TT} {te:TE} {ix:List Nat}
def zls (hNy:X.N.Nodup)(hiy:X.N[i]?=some y0)(hy:Loc X.env.scope y0)(hc:X.calm=true)(l:scope.kind=.function)(hcell:∀ y∈scope.names,y.2≠.cell)(hnames:∀ y∈scope.names,y.2=.local→scope.names.lookup y.1=some .local)(hx:scope.names.lookup x=some .local)
  (hclo:X.Ok→∃ K,Clo X scope K)(hN:N'.Nodup)(hN0:N'[0]?=some x)(hlen:N'.length=ix.length+1)
  (hix:∀(j i:Nat),ix[j]?=some i→∃ y,X.N[i]?=some y∧N'[j+1]?=some y∧(X.env.kindOf y=some .cell∨X.env.kindOf y=some .free)∧((relabel scope X.env).names.lookup y=some .cell∨(relabel scope X.env).names.lookup y=some .free))
  (hi:PI X (.Name x px) iter wi)(ht:∀ K k R Y,PT (zao X N' scope K k R Y) c tc)(he:∀ K k R Y,PE (zao X N' scope K k R Y) elt te)(hsw:swapsWith (.ListComp elt [⟨.Name x px,iter,[c],0⟩] scope pos) (some (.Name y0 py)) spos.line X.env=pure true:=by rfl)
  (hf:X.fn y0=true∨X.env.scope.names.lookup y0=some .local:=by first | exact .inl rfl | exact .inr rfl | assumption)(hs:∀ v,foldedSetIterable iter X.env v=pure v:=by intro _;rfl) :
  PS X (.Assign [.Name y0 py] (.ListComp elt [⟨.Name x px,iter,[c],0⟩] scope pos) spos) (tAsg (tLCI wi ix tc te) (zd4 i)):=by
 intro B s σ H Dn I h;obtain⟨K,C⟩:=hclo I.ok;rw[exec_Assign_Name_used _ _ _ _ hsw];refine wpAny_bind (wpAny_standAt (wpAny_bind ?_));rw[arm_evalThenUse_ListComp];refine wpAny_bind (wpAny_mono (wpAny_comprehension_free (use:=some (assign (.Name y0 py) X.env)) (Q:=λ_ s'=>∃ L H',Inv X B L H' s'∧Dn.nx L H') rfl hs C.eq l hnames (thn (hi B s σ H _ I h) λv s1 h1=>thn h1 λitv M h2=>?_)) (λ_ s' h'=>wpAny_pure (wpAny_pure h')) λ_ _ z=>z);obtain⟨it,k,tn,J,H2,e,I2,T,st2,f2,q2⟩:=h2;subst e;have hD:H2 M.heap.objs.size=none:=I2.fresh;obtain⟨W,⟨m0,w0⟩,turn⟩:=q2 M.heap.objs.size hD;refine wpAny_newObj_type (wpAny_newFunctionEnv hcell (by intro y hy;simp at hy) (λO F E=>?_) l);dsimp only at F E ⊢;have Z:Inv X B σ (upd H2 M.heap.objs.size (.lst [])) { M with heap:=M.heap.push { cls:=.type "list",data:=.seq ([]:List Value).toArray },toks:=M.toks }:=I2.lnew .nil (Nat.zero_le _);generalize hs3:({ M with heap:=M.heap.push { cls:=.type "list",data:=.seq ([]:List Value).toArray },toks:=M.toks }:Shared)=t at Z;have e3:t.heap=M.heap.push { cls:=.type "list",data:=.seq ([]:List Value).toArray }:=by rw[←hs3]
 generalize hDD:M.heap.objs.size=D at *;generalize hH3:upd H2 D (.lst [])=P at *;have lt2:∀ b∈k,b < M.heap.objs.size:=λb g=>by obtain⟨o,ho,_⟩:=T.obj 0 _ st2 b g;exact hLq ho
 have neD:∀ b∈k,b≠D:=λb g=>by rw[←hDD];exact Nat.ne_of_lt (lt2 b g)
 have f3:∀ b∈k,zbS X B P b:=λb g=>⟨by rw[←hH3,ag (neD b g)];exact(f2 b g).1,(f2 b g).2⟩;have sz3:t.heap.objs.size=D+1:=by rw[e3,Heap.size_push,hDD]
 have lt3:∀ b∈k,b < t.heap.objs.size:=λb g=>by have q:=lt2 b g;rw[sz3];rw[hDD]at q;exact Nat.lt_succ_of_lt q
 have old:∀ b o,t.heap.get? b=some o→O.get? b=some o:=λb o eb=>by
  have g:b < D+1:=by rw[←sz3];exact hLq eb
  refine E.extBut b o ?_ (hG _ (by rw[←e3];exact eb));rw[Heap.size_push,hDD];exact Nat.ne_of_lt g
 have szC:(M.heap.push { cls:=.type "list",data:=.seq ([]:List Value).toArray }).objs.size=t.heap.objs.size:=by rw[e3]
 rw[szC]at F E;have I4:Inv (zao X N' scope K k t P) [] (none :: fvs σ ix) P { t with heap:=O,toks:=M.toks+([]:List (Str × Value)).length }:=zfv Z C l f3 lt3 hlen hix F old;have st4:tn 0 O:=T.keep 0 _ _ st2 λb g o eb=>old b o (by rw[e3];exact hG _ eb);have S:∀ {H':Hp},(∀ b∈k,H' b=none)→∀ b∈k,zbS (zao X N' scope K k t P) [] H' b:=λhn b g =>
  ⟨hn b g,Nat.ne_of_lt (lt3 b g),λhs'=>(zdy (N':=N') Z C l f3 lt3).exfs b g hs',.inl g,λy c hy=>((zdy (N':=N') Z C l f3 lt3).exf b g).2 y c hy,λp hp=>absurd (show p∈([]:List (Addr × Obj)) from hp) (by simp)⟩
 have loop:∀ s4:Shared,s4={ t with heap:=O,toks:=M.toks+([]:List (Str × Value)).length } →
   codeAny (model X.prog X.w) X.A (.compLoop (.ListComp elt [⟨.Name x px,iter,[c],0⟩] scope pos) 0 (.ref it) (.ref D) (compEnvC scope K t.heap.objs.size X.env))
    (compPost (model X.prog X.w) X.A X.xe (some (assign (.Name y0 py) X.env)) (λ_ s'=>∃ L H',Inv X B L H' s'∧Dn.nx L H') (.ref D) t.heap.objs.size) s4:=by
  rintro s4 rfl;refine zf9 (λn s'=>∃ i σ0 H' ys,Inv (zao X N' scope K k t P) [] (σ0 :: fvs σ ix) H' s'∧tn i s'.heap∧(∀ b∈k,H' b=none)∧W i n ys H') ?_ m0 ⟨0,none,P,[],I4,st4,λb g=>(f3 b g).1,w0⟩;rintro n s5 ⟨i,σ0,H5,ys,I5,st5,fr5,w5⟩;obtain⟨hD5,alt⟩:=turn i n ys H5 w5;rcases alt with ⟨stop,q⟩ | ⟨go,step⟩
  ·refine thn (T.done (zao X N' scope K k t P) rfl rfl rfl hc i [] s5 _ H5 _ I5 (S fr5) st5 stop) λr s6 ⟨hr,I6⟩=>?_;subst hr;obtain⟨m,hn,_⟩:=I6.loc;have Io:Inv X B σ H5 s6:=zfm (h':=s6.heap) Z I6 f3 ⟨rfl,λ_ _=>rfl⟩;refine wpAny_assign_Name (zfJ (v:=.ref D) Io hNy hiy hy rfl (λs7 I7 ⟨a,sb,ha⟩=>?_) hf);have ltC:∀ x c,X.env.cells.lookup x=some c→c < t.heap.objs.size:=λx c e=>by obtain⟨v,hv⟩:=Z.cell x c e;exact hv.lt
   have hCa:t.heap.objs.size≠a:=by
    rintro rfl;rcases ha with z | z
    ·exact absurd Z.lt (by rw[←z];exact Nat.lt_irrefl _)
    ·exact absurd (ltC _ _ z) (Nat.lt_irrefl _)
   refine⟨m,hn.sameBut sb hCa,λh' hsb=>⟨_,H5,?_,q⟩⟩;exact I7.skip hsb Z.sz (Nat.ne_of_gt Z.lt) (λx c e=>Nat.ne_of_lt (ltC x c e)) (λp hp=>Nat.ne_of_lt (hLq (Z.pin p hp).1)) I6.free
  ·refine thn (T.item (zao X N' scope K k t P) rfl rfl rfl hc i [] s5 _ H5 _ I5 (S fr5) st5 go) λr s6 ⟨u,hr,h6⟩=>?_;subst hr;refine thn h6 λ_ s7 ⟨y7,H7,I7,r7,yl7,st7,fr7⟩=>?_;have I7':=I7.pinned (S fr7) (T.obj _ _ st7);have G:PG (zao X N' scope K k t P) (.Name x px) (zd4 0):=zae hN hN0 (.inl (lookup_relabel_local hx)) (.inr (lookup_relabel_local hx));refine wpAny_mono (G _ s7 _ H7 y7 u (λL H'=>L=some y7 :: fvs σ ix∧H'=H7) I7' r7 ⟨rfl,rfl⟩) (λ_ s8 h8=>?_) λ_ _ f=>False.elim f;obtain⟨σ8,H8,I8,rfl,rfl⟩:=h8;have fin:∀ {σ9:Option V} {H9:Hp} {s9:Shared} {zs:List V} {m':Nat},Inv (zao X N' scope K k t P) ([]++zeP k s7.heap) (σ9 :: fvs σ ix) H9 s9→m' < n→W (i+1) m' zs H9→∃ m,m < n∧∃ i σ0 H' ys,Inv (zao X N' scope K k t P) [] (σ0 :: fvs σ ix) H' s9∧tn i s9.heap∧(∀ b∈k,H' b=none)∧W i m ys H':=λ{σ9 H9 s9 zs m'} I9 U w9=>by refine⟨m',U,i+1,σ9,H9,zs,I9.unpinned,T.keep _ _ _ st7 λb g o eb=>(I9.pin (b,o) (List.mem_append_right _ (List.mem_append_right _ (zbL g eb)))).1,λb g=>?_,w9⟩;obtain⟨o,eb,d⟩:=T.obj _ _ st7 b g;exact(I9.pin (b,o) (List.mem_append_right _ (List.mem_append_right _ (zbL g eb)))).2.1
   refine wpAny_mono (ht K k t P _ s8 _ H8 _ I8 (step y7 H8 yl7)) (λb s9 h9=>?_) λ_ _ f=>False.elim f;obtain⟨H9,I9,q9⟩:=h9;cases b with
   | false =>
    obtain⟨m',U,w9⟩:=q9;exact fin I9 U w9
   | true =>
    refine wpAny_mono (he K k t P _ s9 _ H9 _ I9 q9) (λyv s10 h10=>?_) λ_ _ f=>False.elim f;obtain⟨y10,H10,I10,r10,hD10,hl10,m',U,w10⟩:=h10;refine wpAny_mono (zaA (X:=zao X N' scope K k t P) _ s10 _ H10 (.ref D) [y10] (.ref D) [yv] (λ_ H'=>H'=upd H10 D (.lst (ys++[y10]))) I10 rfl (.cons r10 .nil) ⟨D,ys,y10,rfl,rfl,hD10,hl10,rfl⟩) (λ_ s11 h11=>?_) λ_ _ f=>False.elim f;obtain⟨_,H11,I11,_,rfl⟩:=h11;exact fin I11 U w10
 subst hs3;have fin:=codeAny_compStart_list (loop _ rfl) (T.self X.A 0 _ _ _ st4 (loop _ rfl));exact fin
end
inductive Dt where
 | non | bl (b:Bool) | int (i:Int) | str (x:Str) | tup (xs:List Dt) | lst (xs:List Dt)
mutual
def peq:Dt→Dt→Bool
 | .non,.non=>true
 | .bl a,.bl b=>a == b
 | .bl a,.int b=>(if a then 1 else 0) == b
 | .int a,.bl b=>a == (if b then 1 else 0)
 | .int a,.int b=>a == b
 | .str a,.str b=>a == b
 | .tup xs,.tup ys=>zbx xs ys
 | .lst xs,.lst ys=>zbx xs ys
 | _,_=>false
def zbx:List Dt→List Dt→Bool
 | [],[]=>true
 | x :: xs,y :: ys=>peq x y&&zbx xs ys
 | _,_=>false
end
mutual
def dep:Dt→Nat
 | .tup xs=>zaQ xs+1
 | .lst xs=>zaQ xs+1
 | _=>0
def zaQ:List Dt→Nat
 | []=>0
 | x :: xs=>max (dep x) (zaQ xs)
end
mutual
def nob:Dt→Bool
 | .bl _=>false
 | .tup xs=>zeJ xs
 | .lst xs=>zeJ xs
 | _=>true
def zeJ:List Dt→Bool
 | []=>true
 | x :: xs=>nob x&&zeJ xs
end
mutual
def zcs:∀ d:Dt,peq d d=true
 | .non=>rfl
 | .bl _=>by simp [peq]
 | .int _=>by simp [peq]
 | .str _=>by simp [peq]
 | .tup xs=>by simp only[peq];exact zeG xs
 | .lst xs=>by simp only[peq];exact zeG xs
def zeG:∀ d:List Dt,zbx d d=true
 | []=>by simp [zbx]
 | x :: xs=>by simp only[zbx,zcs x,zeG xs,Bool.and_self]
end
mutual
def zk6:∀ d e:Dt,nob d=true→nob e=true→peq d e=true→d=e
 | .non,e,_,_,h=>by cases e <;> first | rfl | (simp [peq]at h)
 | .bl _,e,h,_,_=>by simp [nob]at h
 | .int _,e,_,a,h=>by cases e <;> first | (simp [nob]at a;done) | (simp [peq]at h;done) | (simp [peq]at h;rw[h])
 | .str _,e,_,a,h=>by cases e <;> first | (simp [peq]at h;done) | (simp [peq]at h;rw[h])
 | .tup xs,e,b,a,h=>by
  cases e with
  | tup ys=>simp only[peq]at h;simp only[nob]at b a;rw[zgm xs ys b a h]
  | _=>simp [peq]at h
 | .lst xs,e,b,a,h=>by
  cases e with
  | lst ys=>simp only[peq]at h;simp only[nob]at b a;rw[zgm xs ys b a h]
  | _=>simp [peq]at h
def zgm:∀ d e:List Dt,zeJ d=true→zeJ e=true→zbx d e=true→d=e
 | [],e,_,_,h=>by cases e <;> first | rfl | (simp [zbx]at h)
 | x :: xs,e,b,a,h=>by
  cases e with
  | nil=>simp [zbx]at h
  | cons y ys =>
   simp only[zbx,Bool.and_eq_true]at h;simp only[zeJ,Bool.and_eq_true]at b a;rw[zk6 x y b.1 a.1 h.1,zgm xs ys b.2 a.2 h.2]
end
mutual
def Has (K:W.Frag)(H:Hp):Dt→V→Prop
 | .non,v=>v=.non
 | .bl b,v=>v=.bl b
 | .int i,v=>v=.int i
 | .str x,v=>v=.str x
 | .tup c,v=>∃ a xs,v=.ref a∧SqT K H a xs∧aq K H c xs
 | .lst c,v=>∃ a xs,v=.ref a∧SqL K H a xs∧aq K H c xs
def aq (K:W.Frag)(H:Hp):List Dt→List V→Prop
 | [],vs=>vs=[]
 | d :: a,vs=>∃ v r,vs=v :: r∧Has K H d v∧aq K H a r
end
def aq.length {K:W.Frag}{H:Hp}:∀ {a:List Dt} {vs:List V},aq K H a vs→a.length=vs.length
 | [],vs,h=>by simp only[aq]at h;rw[h];rfl
 | d :: a,vs,h=>by simp only[aq]at h;obtain⟨v,r,rfl,_,b⟩:=h;rw[List.length_cons,List.length_cons,aq.length b]
def aq.get {K:W.Frag}{H:Hp}:∀ {a:List Dt} {vs:List V} {i:Nat} {v:V},aq K H a vs→vs[i]?=some v→∃ d,a[i]?=some d∧Has K H d v
 | [],vs,i,v,h,e=>by simp only[aq]at h;rw[h]at e;simp at e
 | d :: a,vs,i,v,h,e=>by
  simp only[aq]at h;obtain⟨j,r,rfl,c,b⟩:=h;cases i with
  | zero=>simp at e;subst e;exact⟨d,rfl,c⟩
  | succ i =>
   obtain⟨d',g,f⟩:=aq.get (i:=i) b (by simpa using e);exact⟨d',by simpa using g,f⟩
def aq.getD {K:W.Frag}{H:Hp}:∀ {a:List Dt} {vs:List V} {i:Nat} {d:Dt},aq K H a vs→a[i]?=some d→∃ v,vs[i]?=some v∧Has K H d v
 | [],vs,i,d,h,e=>by simp at e
 | k :: a,vs,i,d,h,e=>by
  simp only[aq]at h;obtain⟨b,r,rfl,f,c⟩:=h;cases i with
  | zero=>simp at e;subst e;exact⟨b,rfl,f⟩
  | succ i =>
   obtain⟨v,j,g⟩:=aq.getD (i:=i) c (by simpa using e);exact⟨v,by simpa using j,g⟩
def aq.append {K:W.Frag}{H:Hp}:∀ {b es:List Dt} {vs a:List V},aq K H b vs→aq K H es a→aq K H (b++es) (vs++a)
 | [],es,vs,a,h,h'=>by simp only[aq]at h;rw[h];exact h'
 | d :: b,es,vs,a,h,h'=>by simp only[aq]at h;obtain⟨v,r,rfl,e,c⟩:=h;show aq K H (d :: (b++es)) (v :: (r++a));simp only[aq];exact⟨v,r++a,rfl,e,aq.append c h'⟩
def aq.one {K:W.Frag}{H:Hp}{d:Dt}{v:V}(h:Has K H d v):aq K H [d] [v]:=by simp only[aq];exact⟨v,[],rfl,h,rfl⟩
def aq.ints {K:W.Frag}{H:Hp}:∀ ns:List Int,aq K H (ns.map Dt.int) (ns.map V.int)
 | []=>by simp [aq]
 | n :: ns=>by simp only[List.map_cons,aq];exact⟨_,_,rfl,by simp only[Has],aq.ints ns⟩
mutual
def nol:Dt→Bool
 | .lst _=>false
 | .tup xs=>zaP xs
 | _=>true
def zaP:List Dt→Bool
 | []=>true
 | x :: xs=>nol x&&zaP xs
end
def aV (H H':Hp):Prop:=∀ b xs,Rd H b (.tup xs)→Rd H' b (.tup xs)
def aV.sq {K:W.Frag}{H H':Hp}{a:Addr}{xs:List V}(k:aV H H')(h:SqT K H a xs):SqT K H' a xs:=h.elim (λz=>.inl (k a xs z)) .inr
def aV.trans (a:aV H H1)(b:aV H1 H2):aV H H2:=λc xs h=>b c xs (a c xs h)
def aV.of_same (e:ap H H'):aV H H':=λb xs h=>by
 rcases h with h | ⟨o,h⟩
 ·exact .inl (e _ _ h)
 ·exact .inr ⟨o,e _ _ h⟩
def aV.lst (h:H l=some (.lst xs)):aV H (upd H l (.lst ys)):=λb zs q=>by
 rcases q with q | ⟨o,q⟩
 ·exact .inl (by rw[ag (zdc q h (λz=>by cases z))];exact q)
 ·exact .inr ⟨o,by rw[ag (zdc q h (λz=>by cases z))];exact q⟩
def aV.new (h:H l=none):aV H (upd H l o):=aV.of_same λb u q=>by rw[ag (zad q h)];exact q
mutual
def Has.keep {K:W.Frag}{H H':Hp}(k:aV H H'):∀ {d:Dt} {v:V},nol d=true→Has K H d v→Has K H' d v
 | .non,v,_,h=>by simp only[Has]at h ⊢;exact h
 | .bl _,v,_,h=>by simp only[Has]at h ⊢;exact h
 | .int _,v,_,h=>by simp only[Has]at h ⊢;exact h
 | .str _,v,_,h=>by simp only[Has]at h ⊢;exact h
 | .tup f,v,n,h=>by simp only[Has]at h ⊢;simp only[nol]at n;obtain⟨a,xs,e,c,b⟩:=h;exact⟨a,xs,e,k.sq c,aq.keep k n b⟩
 | .lst _,v,n,h=>by simp [nol]at n
def aq.keep {K:W.Frag}{H H':Hp}(k:aV H H'):∀ {a:List Dt} {vs:List V},zaP a=true→aq K H a vs→aq K H' a vs
 | [],vs,_,h=>by simp only[aq]at h ⊢;exact h
 | d :: a,vs,n,h=>by simp only[aq]at h ⊢;simp only[zaP,Bool.and_eq_true]at n;obtain⟨v,r,e,c,b⟩:=h;exact⟨v,r,e,Has.keep k n.1 c,aq.keep k n.2 b⟩
end
section
variable {X:Cx} {pins:List (Addr × Obj)} {σ:St} {H:Hp} {s:Shared}
def ziZ (I:Inv X pins σ H s){a:Addr}{xs ys:List V}(h:SqL X.K H a xs)(h':SqT X.K H a ys):False:=by obtain⟨g,_,p,_⟩:=I.list h;obtain⟨f,_,q,_⟩:=I.tuple h';obtain⟨o,e,c,_⟩:=p.isList;obtain⟨i,b,d,_⟩:=q;rw[e]at b;cases b;rw[c]at d;exact absurd (Value.type.inj d) (by decide)
mutual
def Has.inj (I:Inv X pins σ H s):∀(d e:Dt) (v:V),Has X.K H d v→Has X.K H e v→d=e
 | .non,e,v,h,h'=>by simp only[Has]at h;subst h;cases e <;> simp only[Has]at h' <;> first | rfl | (cases h';done) | (obtain⟨_,_,z,_⟩:=h';cases z)
 | .bl b,e,v,h,h'=>by simp only[Has]at h;subst h;cases e <;> simp only[Has]at h' <;> first | (cases h';done) | (cases h';rfl) | (obtain⟨_,_,z,_⟩:=h';cases z)
 | .int b,e,v,h,h'=>by simp only[Has]at h;subst h;cases e <;> simp only[Has]at h' <;> first | (cases h';done) | (cases h';rfl) | (obtain⟨_,_,z,_⟩:=h';cases z)
 | .str b,e,v,h,h'=>by simp only[Has]at h;subst h;cases e <;> simp only[Has]at h' <;> first | (cases h';done) | (cases h';rfl) | (obtain⟨_,_,z,_⟩:=h';cases z)
 | .tup j,e,v,h,h'=>by
  simp only[Has]at h;obtain⟨a,xs,rfl,g,i⟩:=h;cases e with
  | tup es =>
   simp only[Has]at h';obtain⟨k,ys,z,f,c⟩:=h';cases z;rw[I.tuple_inj f g]at c;rw[aq.inj I j es xs i c]
  | lst es =>
   simp only[Has]at h';obtain⟨k,ys,z,f,c⟩:=h';cases z;exact(ziZ I f g).elim
  | _=>simp only[Has]at h';cases h'
 | .lst j,e,v,h,h'=>by
  simp only[Has]at h;obtain⟨a,xs,rfl,g,i⟩:=h;cases e with
  | lst es =>
   simp only[Has]at h';obtain⟨k,ys,z,f,c⟩:=h';cases z;rw[I.list_inj f g]at c;rw[aq.inj I j es xs i c]
  | tup es =>
   simp only[Has]at h';obtain⟨k,ys,z,f,c⟩:=h';cases z;exact(ziZ I g f).elim
  | _=>simp only[Has]at h';cases h'
def aq.inj (I:Inv X pins σ H s):∀(a es:List Dt) (vs:List V),aq X.K H a vs→aq X.K H es vs→a=es
 | [],es,vs,h,h'=>by
  simp only[aq]at h;subst h;cases es with
  | nil=>rfl
  | cons e es=>simp only[aq]at h';obtain⟨_,_,z,_⟩:=h';cases z
 | d :: a,es,vs,h,h'=>by
  simp only[aq]at h;obtain⟨v,r,rfl,g,f⟩:=h;cases es with
  | nil=>simp only[aq]at h';cases h'
  | cons e es =>
   simp only[aq]at h';obtain⟨i,j,z,c,b⟩:=h';cases z;rw[Has.inj I d e v g c,aq.inj I a es r f b]
end
def zcE (a es:List Dt)(j:Nat):Bool:=match a[j]?,es[j]? with
 | some d,some e=>peq d e
 | _,_=>true
def zkS (d e:Dt)(a es:List Dt):zcE (d :: a) (e :: es) 0=peq d e:=rfl
def zgu:∀(a es:List Dt),((List.range (min a.length es.length)).all (zcE a es)&&a.length == es.length)=zbx a es
 | [],[]=>by simp [zbx]
 | [],e :: es=>by simp [zbx]
 | d :: a,[]=>by simp [zbx]
 | d :: a,e :: es=>by
  have b:=zgu a es;have f:min (d :: a).length (e :: es).length=min a.length es.length+1:=by simp only[List.length_cons];lia
  rw[f,List.range_succ_eq_map,List.all_cons,zkS,List.all_map];have c:(zcE (d :: a) (e :: es) ∘ Nat.succ)=zcE a es:=by funext j;rfl
  rw[c,List.length_cons,List.length_cons];simp only[zbx];rw[←b,Bool.and_assoc];congr 2;simp
def zng (h:ds.length=es.length):(List.range ds.length).all (zcE ds es)=zbx ds es:=by rw[←zgu,←h,Nat.min_self];simp
def zmw (h:ds.length≠es.length):zbx ds es=false:=by
 rw[←zgu];have:(ds.length == es.length)=false:=by simpa using h
 rw[this,Bool.and_false]
def zcm (I:Inv X pins σ H s){a:Addr}{xs:List V}{c:List Dt}(h:SqT X.K H a xs)(g:aq X.K H c xs):∃ b:List Value,aQ xs b∧s.heap.IsTuple a b.toArray∧b.toArray.size=c.length:=by obtain⟨b,r,p,_⟩:=I.tuple h;exact⟨b,r,p,by rw[sA,←r.length,←g.length]⟩
def zcn (I:Inv X pins σ H s){a:Addr}{xs:List V}{c:List Dt}(h:SqL X.K H a xs)(g:aq X.K H c xs):∃ b:List Value,aQ xs b∧s.heap.IsList a b.toArray∧b.toArray.size=c.length:=by obtain⟨b,r,p,_⟩:=I.list h;exact⟨b,r,p.isList,by rw[sA,←r.length,←g.length]⟩
def zkj (s:Shared)(A:Around)(a es:List Dt)(xs ys:List V):Prop :=
 ∀(us zs:List Value),aQ xs us→aQ ys zs→∀(j:Nat) (u z:Value),us[j]?=some u→zs[j]?=some z→SeqAt.EqAt A.in1 s u z (zcE a es j)
def rcTT (I:Inv X pins σ H s){A:Around}{a b:Addr}{xs ys:List V}{f es:List Dt}(v:SqT X.K H a xs)(x:aq X.K H f xs)(u:SqT X.K H b ys)(w:aq X.K H es ys)(l:A.units < cLine)
  (t:zkj s A f es xs ys):SeqAt.RcAt A s (.ref a) (.ref b) (zbx f es)∧SeqAt.RcNeAt A s (.ref a) (.ref b) (!zbx f es):=by obtain⟨d,r,k,o⟩:=zcm I v x;obtain⟨c,p,i,n⟩:=zcm I u w;have q:∀ j (k1:j < d.toArray.size) (k2:j < c.toArray.size),SeqAt.EqAt A.in1 s d.toArray[j] c.toArray[j] (zcE f es j):=λj k1 k2=>t d c r p j _ _ (by simp at k1 ⊢) (by simp at k2 ⊢);have h:=SeqAt.RcAt.tuples (e:=zcE f es) k i l q;have g:=SeqAt.RcNeAt.tuples (e:=zcE f es) k i l q;rw[o,n,zgu]at h g;exact⟨h,g⟩
def rcLL (I:Inv X pins σ H s){A:Around}{a b:Addr}{xs ys:List V}{f es:List Dt}(x:SqL X.K H a xs)(z:aq X.K H f xs)(w:SqL X.K H b ys)(y:aq X.K H es ys)(n:A.units < cLine)
  (v:zkj s A f es xs ys):SeqAt.RcAt A s (.ref a) (.ref b) (zbx f es)∧SeqAt.RcNeAt A s (.ref a) (.ref b) (!zbx f es):=by
 obtain⟨d,u,l,i⟩:=zcn I x z;obtain⟨c,t,k,o⟩:=zcn I w y;by_cases h:f.length=es.length
 ·have q:∀ j (k1:j < d.toArray.size) (k2:j < c.toArray.size),SeqAt.EqAt A.in1 s d.toArray[j] c.toArray[j] (zcE f es j):=λj k1 k2=>v d c u t j _ _ (by simp at k1 ⊢) (by simp at k2 ⊢);have r:=SeqAt.RcAt.lists (e:=zcE f es) l k (by rw[i,o,h]) n q;have p:=SeqAt.RcNeAt.lists (e:=zcE f es) l k (by rw[i,o,h]) n q;rw[i,zng h]at r p;exact⟨r,p⟩
 ·have g:(d.toArray.size != c.toArray.size)=true:=by rw[i,o];simpa using h
  rw[zmw h];exact⟨SeqAt.RcAt.lists_lengths l k g n,SeqAt.RcNeAt.lists_lengths l k g n⟩
def zdo {A:Around}{d:Dt}(h:A.units+dep d < cLine):A.units < cLine:=Nat.lt_of_le_of_lt (Nat.le_add_right _ _) h
mutual
def zlg (I:Inv X pins σ H s):∀(d e:Dt) (v w:V) (u z:Value) (A:Around),Has X.K H d v→Has X.K H e w→aY v u→aY w z→A.units+dep d < cLine→SeqAt.EqAt A s u z (peq d e)
 | .non,e,v,w,u,z,A,h,h',r,f,l=>by
  have c:=zdo l;simp only[Has]at h;subst h;cases e with
  | tup es =>
   simp only[Has]at h';obtain⟨b,ys,rfl,i,g⟩:=h';obtain⟨_,_,p,_⟩:=zcm I i g;cases (show z=Value.ref b from f);cases (show u=Value.none from r);exact SeqAt.EqAt.none_tuple p c
  | lst es =>
   simp only[Has]at h';obtain⟨b,ys,rfl,i,g⟩:=h';obtain⟨_,_,p,_⟩:=zcn I i g;cases (show z=Value.ref b from f);cases (show u=Value.none from r);exact SeqAt.EqAt.none_list p c
  | _=>simp only[Has]at h';subst h';exact zfD r f rfl rfl
 | .bl k,e,v,w,u,z,A,h,h',r,f,l=>by
  have c:=zdo l;simp only[Has]at h;subst h;cases e with
  | tup es =>
   simp only[Has]at h';obtain⟨b,ys,rfl,i,g⟩:=h';obtain⟨_,_,p,_⟩:=zcm I i g;cases (show z=Value.ref b from f);cases (show u=Value.bool k from r);exact SeqAt.EqAt.bool_tuple k p c
  | lst es =>
   simp only[Has]at h';obtain⟨b,ys,rfl,i,g⟩:=h';obtain⟨_,_,p,_⟩:=zcn I i g;cases (show z=Value.ref b from f);cases (show u=Value.bool k from r);exact SeqAt.EqAt.bool_list k p c
  | _=>simp only[Has]at h';subst h';exact zfD r f rfl rfl
 | .int k,e,v,w,u,z,A,h,h',r,f,l=>by
  have c:=zdo l;simp only[Has]at h;subst h;cases e with
  | tup es =>
   simp only[Has]at h';obtain⟨b,ys,rfl,i,g⟩:=h';obtain⟨_,_,p,_⟩:=zcm I i g;cases (show z=Value.ref b from f);obtain⟨t,rfl⟩:=r;exact SeqAt.EqAt.int_tuple k t p c
  | lst es =>
   simp only[Has]at h';obtain⟨b,ys,rfl,i,g⟩:=h';obtain⟨_,_,p,_⟩:=zcn I i g;cases (show z=Value.ref b from f);obtain⟨t,rfl⟩:=r;exact SeqAt.EqAt.int_list k t p c
  | _=>simp only[Has]at h';subst h';exact zfD r f rfl rfl
 | .str k,e,v,w,u,z,A,h,h',r,f,l=>by
  have c:=zdo l;simp only[Has]at h;subst h;cases e with
  | tup es =>
   simp only[Has]at h';obtain⟨b,ys,rfl,i,g⟩:=h';obtain⟨_,_,p,_⟩:=zcm I i g;cases (show z=Value.ref b from f);obtain⟨t,rfl⟩:=r;exact SeqAt.EqAt.str_tuple k t p c
  | lst es =>
   simp only[Has]at h';obtain⟨b,ys,rfl,i,g⟩:=h';obtain⟨_,_,p,_⟩:=zcn I i g;cases (show z=Value.ref b from f);obtain⟨t,rfl⟩:=r;exact SeqAt.EqAt.str_list k t p c
  | _=>simp only[Has]at h';subst h';exact zfD r f rfl rfl
 | .tup y,e,v,w,u,z,A,h,h',r,f,l=>by
  have c:=zdo l;have G:=h;simp only[Has]at h;obtain⟨a,xs,rfl,x,o⟩:=h;cases (show u=Value.ref a from r);obtain⟨_,_,p,_⟩:=zcm I x o;have E:A.in1.units+zaQ y < cLine:=by simp only[dep]at l;rw[Around.in1_units];lia
  cases e with
  | tup es =>
   have F:=h';simp only[Has]at h';obtain⟨b,ys,rfl,i,g⟩:=h';cases (show z=Value.ref b from f);by_cases n:a=b
   ·subst n;rw[Has.inj I _ _ _ G F,zcs];exact SeqAt.EqAt.same _
   ·have q:=(rcTT I x o i g c λus zs C B j u z L J=>zfE I y es xs ys us zs A.in1 o g C B E j u z L J).1;simp only[peq];exact SeqAt.EqAt.of_refs n q
  | lst es =>
   simp only[Has]at h';obtain⟨b,ys,rfl,i,g⟩:=h';cases (show z=Value.ref b from f);obtain⟨_,_,D,_⟩:=zcn I i g;exact SeqAt.EqAt.tuple_list p D c
  | non=>simp only[Has]at h';subst h';cases (show z=Value.none from f);exact SeqAt.EqAt.tuple_none p c
  | bl k=>simp only[Has]at h';subst h';cases (show z=Value.bool k from f);exact SeqAt.EqAt.tuple_bool k p c
  | int k=>simp only[Has]at h';subst h';obtain⟨t,rfl⟩:=f;exact SeqAt.EqAt.tuple_int k t p c
  | str k=>simp only[Has]at h';subst h';obtain⟨t,rfl⟩:=f;exact SeqAt.EqAt.tuple_str k t p c
 | .lst y,e,v,w,u,z,A,h,h',r,f,l=>by
  have c:=zdo l;have G:=h;simp only[Has]at h;obtain⟨a,xs,rfl,x,o⟩:=h;cases (show u=Value.ref a from r);obtain⟨_,_,p,_⟩:=zcn I x o;have E:A.in1.units+zaQ y < cLine:=by simp only[dep]at l;rw[Around.in1_units];lia
  cases e with
  | lst es =>
   have F:=h';simp only[Has]at h';obtain⟨b,ys,rfl,i,g⟩:=h';cases (show z=Value.ref b from f);by_cases n:a=b
   ·subst n;rw[Has.inj I _ _ _ G F,zcs];exact SeqAt.EqAt.same _
   ·have q:=(rcLL I x o i g c λus zs C B j u z L J=>zfE I y es xs ys us zs A.in1 o g C B E j u z L J).1;simp only[peq];exact SeqAt.EqAt.of_refs n q
  | tup es =>
   simp only[Has]at h';obtain⟨b,ys,rfl,i,g⟩:=h';cases (show z=Value.ref b from f);obtain⟨_,_,D,_⟩:=zcm I i g;exact SeqAt.EqAt.list_tuple p D c
  | non=>simp only[Has]at h';subst h';cases (show z=Value.none from f);exact SeqAt.EqAt.list_none p c
  | bl k=>simp only[Has]at h';subst h';cases (show z=Value.bool k from f);exact SeqAt.EqAt.list_bool k p c
  | int k=>simp only[Has]at h';subst h';obtain⟨t,rfl⟩:=f;exact SeqAt.EqAt.list_int k t p c
  | str k=>simp only[Has]at h';subst h';obtain⟨t,rfl⟩:=f;exact SeqAt.EqAt.list_str k t p c
def zfE (I:Inv X pins σ H s):∀(c es:List Dt) (vs f:List V) (us zs:List Value) (A:Around),aq X.K H c vs→aq X.K H es f→aQ vs us→aQ f zs→A.units+zaQ c < cLine →
  ∀(j:Nat) (u z:Value),us[j]?=some u→zs[j]?=some z→SeqAt.EqAt A s u z (zcE c es j)
 | [],es,vs,f,us,zs,A,h,h',r,g,i,j,u,z,b,a=>by simp only[aq]at h;subst h;cases r;simp at b
 | d :: c,es,vs,f,us,zs,A,h,h',r,g,i,j,u,z,b,a=>by
  simp only[aq]at h;obtain⟨v,rs,rfl,y,x⟩:=h;cases r with
  | cons p o =>
   cases es with
   | nil =>
    simp only[aq]at h';subst h';cases g;simp at a
   | cons e es =>
    simp only[aq]at h';obtain⟨w,k,rfl,t,q⟩:=h';simp only[zaQ]at i;cases g with
    | cons n l =>
     cases j with
     | zero =>
      simp at b a;subst b a;exact zlg I d e v w _ _ A y t p n (by lia)
     | succ j=>exact zfE I c es rs k _ _ A x q o l (by lia) j u z (by simpa using b) (by simpa using a)
end
end
section
variable {X:Cx} {pins:List (Addr × Obj)} {σ:St} {H:Hp} {s:Shared}
def rc_D (I:Inv X pins σ H s)(A:Around)(d e:Dt)(v w:V)(u z:Value)(h:Has X.K H d v)(h':Has X.K H e w)(r:aY v u)(f:aY w z)(B:A.units+dep d < cLine) :
  SeqAt.RcAt A s u z (peq d e)∧SeqAt.RcNeAt A s u z (!peq d e):=by
 have c:=zdo B;cases d with
 | non =>
  simp only[Has]at h;subst h;cases (show u=Value.none from r);cases e with
  | non =>
   simp only[Has]at h';subst h';cases (show z=Value.none from f);exact⟨SeqAt.RcAt.none_none,SeqAt.RcNeAt.none_none⟩
  | bl k2 =>
   simp only[Has]at h';subst h';cases (show z=Value.bool k2 from f);exact⟨SeqAt.RcAt.none_bool k2,SeqAt.RcNeAt.none_bool k2⟩
  | int k2 =>
   simp only[Has]at h';subst h';obtain⟨g,rfl⟩:=f;exact⟨SeqAt.RcAt.none_int k2 g,SeqAt.RcNeAt.none_int k2 g⟩
  | str k2 =>
   simp only[Has]at h';subst h';obtain⟨g,rfl⟩:=f;exact⟨SeqAt.RcAt.none_str k2 g,SeqAt.RcNeAt.none_str k2 g⟩
  | tup es =>
   simp only[Has]at h';obtain⟨b,ys,rfl,l,k⟩:=h';obtain⟨_,_,p,_⟩:=zcm I l k;cases (show z=Value.ref b from f);exact⟨SeqAt.RcAt.none_tuple p c,SeqAt.RcNeAt.none_tuple p c⟩
  | lst es =>
   simp only[Has]at h';obtain⟨b,ys,rfl,l,k⟩:=h';obtain⟨_,_,p,_⟩:=zcn I l k;cases (show z=Value.ref b from f);exact⟨SeqAt.RcAt.none_list p c,SeqAt.RcNeAt.none_list p c⟩
 | bl k1 =>
  simp only[Has]at h;subst h;cases (show u=Value.bool k1 from r);cases e with
  | non =>
   simp only[Has]at h';subst h';cases (show z=Value.none from f);exact⟨SeqAt.RcAt.bool_none k1,SeqAt.RcNeAt.bool_none k1⟩
  | bl k2 =>
   simp only[Has]at h';subst h';cases (show z=Value.bool k2 from f);exact⟨SeqAt.RcAt.bool_bool k1 k2,SeqAt.RcNeAt.bool_bool k1 k2⟩
  | int k2 =>
   simp only[Has]at h';subst h';obtain⟨g,rfl⟩:=f;exact⟨SeqAt.RcAt.bool_int k1 k2 g,SeqAt.RcNeAt.bool_int k1 k2 g⟩
  | str k2 =>
   simp only[Has]at h';subst h';obtain⟨g,rfl⟩:=f;exact⟨SeqAt.RcAt.bool_str k1 k2 g,SeqAt.RcNeAt.bool_str k1 k2 g⟩
  | tup es =>
   simp only[Has]at h';obtain⟨b,ys,rfl,l,k⟩:=h';obtain⟨_,_,p,_⟩:=zcm I l k;cases (show z=Value.ref b from f);exact⟨SeqAt.RcAt.bool_tuple k1 p c,SeqAt.RcNeAt.bool_tuple k1 p c⟩
  | lst es =>
   simp only[Has]at h';obtain⟨b,ys,rfl,l,k⟩:=h';obtain⟨_,_,p,_⟩:=zcn I l k;cases (show z=Value.ref b from f);exact⟨SeqAt.RcAt.bool_list k1 p c,SeqAt.RcNeAt.bool_list k1 p c⟩
 | int k1 =>
  simp only[Has]at h;subst h;obtain⟨i,rfl⟩:=r;cases e with
  | non =>
   simp only[Has]at h';subst h';cases (show z=Value.none from f);exact⟨SeqAt.RcAt.int_none k1 i,SeqAt.RcNeAt.int_none k1 i⟩
  | bl k2 =>
   simp only[Has]at h';subst h';cases (show z=Value.bool k2 from f);exact⟨SeqAt.RcAt.int_bool k1 i k2,SeqAt.RcNeAt.int_bool k1 i k2⟩
  | int k2 =>
   simp only[Has]at h';subst h';obtain⟨g,rfl⟩:=f;exact⟨SeqAt.RcAt.int_int k1 i k2 g,SeqAt.RcNeAt.int_int k1 i k2 g⟩
  | str k2 =>
   simp only[Has]at h';subst h';obtain⟨g,rfl⟩:=f;exact⟨SeqAt.RcAt.int_str k1 i k2 g,SeqAt.RcNeAt.int_str k1 i k2 g⟩
  | tup es =>
   simp only[Has]at h';obtain⟨b,ys,rfl,l,k⟩:=h';obtain⟨_,_,p,_⟩:=zcm I l k;cases (show z=Value.ref b from f);exact⟨SeqAt.RcAt.int_tuple k1 i p c,SeqAt.RcNeAt.int_tuple k1 i p c⟩
  | lst es =>
   simp only[Has]at h';obtain⟨b,ys,rfl,l,k⟩:=h';obtain⟨_,_,p,_⟩:=zcn I l k;cases (show z=Value.ref b from f);exact⟨SeqAt.RcAt.int_list k1 i p c,SeqAt.RcNeAt.int_list k1 i p c⟩
 | str k1 =>
  simp only[Has]at h;subst h;obtain⟨i,rfl⟩:=r;cases e with
  | non =>
   simp only[Has]at h';subst h';cases (show z=Value.none from f);exact⟨SeqAt.RcAt.str_none k1 i,SeqAt.RcNeAt.str_none k1 i⟩
  | bl k2 =>
   simp only[Has]at h';subst h';cases (show z=Value.bool k2 from f);exact⟨SeqAt.RcAt.str_bool k1 i k2,SeqAt.RcNeAt.str_bool k1 i k2⟩
  | int k2 =>
   simp only[Has]at h';subst h';obtain⟨g,rfl⟩:=f;exact⟨SeqAt.RcAt.str_int k1 i k2 g,SeqAt.RcNeAt.str_int k1 i k2 g⟩
  | str k2 =>
   simp only[Has]at h';subst h';obtain⟨g,rfl⟩:=f;exact⟨SeqAt.RcAt.str_str k1 i k2 g,SeqAt.RcNeAt.str_str k1 i k2 g⟩
  | tup es =>
   simp only[Has]at h';obtain⟨b,ys,rfl,l,k⟩:=h';obtain⟨_,_,p,_⟩:=zcm I l k;cases (show z=Value.ref b from f);exact⟨SeqAt.RcAt.str_tuple k1 i p c,SeqAt.RcNeAt.str_tuple k1 i p c⟩
  | lst es =>
   simp only[Has]at h';obtain⟨b,ys,rfl,l,k⟩:=h';obtain⟨_,_,p,_⟩:=zcn I l k;cases (show z=Value.ref b from f);exact⟨SeqAt.RcAt.str_list k1 i p c,SeqAt.RcNeAt.str_list k1 i p c⟩
 | tup t =>
  simp only[Has]at h;obtain⟨a,xs,rfl,q,n⟩:=h;cases (show u=Value.ref a from r);obtain⟨_,_,p,_⟩:=zcm I q n;have C:A.in1.units+zaQ t < cLine:=by simp only[dep]at B;rw[Around.in1_units];lia
  cases e with
  | non =>
   simp only[Has]at h';subst h';cases (show z=Value.none from f);exact⟨SeqAt.RcAt.tuple_none p c,SeqAt.RcNeAt.tuple_none p c⟩
  | bl k2 =>
   simp only[Has]at h';subst h';cases (show z=Value.bool k2 from f);exact⟨SeqAt.RcAt.tuple_bool k2 p c,SeqAt.RcNeAt.tuple_bool k2 p c⟩
  | int k2 =>
   simp only[Has]at h';subst h';obtain⟨g,rfl⟩:=f;exact⟨SeqAt.RcAt.tuple_int k2 g p c,SeqAt.RcNeAt.tuple_int k2 g p c⟩
  | str k2 =>
   simp only[Has]at h';subst h';obtain⟨g,rfl⟩:=f;exact⟨SeqAt.RcAt.tuple_str k2 g p c,SeqAt.RcNeAt.tuple_str k2 g p c⟩
  | tup es =>
   simp only[Has]at h';obtain⟨b,ys,rfl,l,k⟩:=h';cases (show z=Value.ref b from f);simp only[peq];exact rcTT I q n l k c λus zs y x j u z E D=>zfE I t es xs ys us zs A.in1 n k y x C j u z E D
  | lst es =>
   simp only[Has]at h';obtain⟨b,ys,rfl,l,k⟩:=h';cases (show z=Value.ref b from f);obtain⟨_,_,o,_⟩:=zcn I l k;exact⟨SeqAt.RcAt.tuple_list p o c,SeqAt.RcNeAt.tuple_list p o c⟩
 | lst t =>
  simp only[Has]at h;obtain⟨a,xs,rfl,q,n⟩:=h;cases (show u=Value.ref a from r);obtain⟨_,_,p,_⟩:=zcn I q n;have C:A.in1.units+zaQ t < cLine:=by simp only[dep]at B;rw[Around.in1_units];lia
  cases e with
  | non =>
   simp only[Has]at h';subst h';cases (show z=Value.none from f);exact⟨SeqAt.RcAt.list_none p c,SeqAt.RcNeAt.list_none p c⟩
  | bl k2 =>
   simp only[Has]at h';subst h';cases (show z=Value.bool k2 from f);exact⟨SeqAt.RcAt.list_bool k2 p c,SeqAt.RcNeAt.list_bool k2 p c⟩
  | int k2 =>
   simp only[Has]at h';subst h';obtain⟨g,rfl⟩:=f;exact⟨SeqAt.RcAt.list_int k2 g p c,SeqAt.RcNeAt.list_int k2 g p c⟩
  | str k2 =>
   simp only[Has]at h';subst h';obtain⟨g,rfl⟩:=f;exact⟨SeqAt.RcAt.list_str k2 g p c,SeqAt.RcNeAt.list_str k2 g p c⟩
  | tup es =>
   simp only[Has]at h';obtain⟨b,ys,rfl,l,k⟩:=h';cases (show z=Value.ref b from f);obtain⟨_,_,o,_⟩:=zcm I l k;exact⟨SeqAt.RcAt.list_tuple p o c,SeqAt.RcNeAt.list_tuple p o c⟩
  | lst es =>
   simp only[Has]at h';obtain⟨b,ys,rfl,l,k⟩:=h';cases (show z=Value.ref b from f);simp only[peq];exact rcLL I q n l k c λus zs y x j u z E D=>zfE I t es xs ys us zs A.in1 n k y x C j u z E D
inductive rEqD (K:W.Frag):R2|m{x y H Q} d e:Has K H d x→Has K H e y→dep d≤60→Q (.bl (peq d e)) H→rEqD K x y H Q
inductive rNeD (K:W.Frag):R2|m{x y H Q} d e:Has K H d x→Has K H e y→dep d≤60→Q (.bl (!peq d e)) H→rNeD K x y H Q
def op_eqD (g:X.A.units+64 < cLine):OpR X (compareOp .Eq) (rEqD X.K):=by intro pins s σ H x y v u Q I b a h;obtain⟨d,e,f,c,i,q⟩:=h;exact(rc_D I X.A d e x y v u f c b a (by lia)).1 _ _ _ _ ⟨.bl _,H,I,rfl,q⟩
def ziN (g:X.A.units+64 < cLine):OpR X (compareOp .NotEq) (rNeD X.K):=by intro pins s σ H x y v u Q I b a h;obtain⟨d,e,f,c,i,q⟩:=h;exact(rc_D I X.A d e x y v u f c b a (by lia)).2 _ _ _ _ ⟨.bl _,H,I,rfl,q⟩
open Classical in
noncomputable def hitD (K:W.Frag) (H:Hp) (d:Dt) (u:Value):Bool:=decide (∃(v:V) (d':Dt),aY v u∧Has K H d' v∧peq d' d=true)
open Classical in
def zgr (I:Inv X pins σ H s){d d':Dt}{v:V}{u:Value}(r:aY v u)(h:Has X.K H d' v):hitD X.K H d u=peq d' d:=by
 unfold hitD;cases e:peq d' d with
 | true=>exact dTq ⟨v,d',r,h,e⟩
 | false =>
  refine dFq λ⟨c,f,b,h',a⟩=>?_;rw[b.inj r]at h';rw[Has.inj I _ _ _ h' h,e]at a;cases a
def zeu (I:Inv X pins σ H s){d:Dt}:∀ {a:List Dt} {vs:List V} {us:List Value},aq X.K H a vs→aQ vs us→us.any (hitD X.K H d)=a.any λd'=>peq d' d
 | [],vs,us,h,r=>by simp only[aq]at h;subst h;cases r;rfl
 | d' :: a,vs,us,h,r=>by
  simp only[aq]at h;obtain⟨v,rs,rfl,f,e⟩:=h;cases r with
  | cons c b=>rw[List.any_cons,List.any_cons,zgr I c f,zeu I e b]
def zc2 (I:Inv X pins σ H s){A:Around}{d:Dt}{x:V}{c:Value}(g:Has X.K H d x)(e:aY x c):∀ {b:List Dt} {vs:List V} {us:List Value},aq X.K H b vs→aQ vs us→A.units+zaQ b < cLine→∀ u∈us,SeqAt.EqAt A s u c (hitD X.K H d u)
 | [],vs,us,h,r,i,u,a=>by simp only[aq]at h;subst h;cases r;cases a
 | d' :: b,vs,us,h,r,i,u,a=>by
  simp only[aq]at h;obtain⟨v,rs,rfl,j,l⟩:=h;simp only[zaQ]at i;cases r with
  | cons f k =>
   rcases List.mem_cons.mp a with rfl | a
   ·rw[zgr I f j];exact zlg I d' d v x _ _ A j g f e (by lia)
   ·exact zc2 I g e l k (by lia) u a
inductive rInD (K:W.Frag)(neg:Bool):R2|m{x y H Q} p xs ds d:y=.ref p→(SqL K H p xs∨SqT K H p xs)→aq K H ds xs→Has K H d x→zaQ ds≤60→Q (.bl (if neg then !(ds.any λd'=>peq d' d) else ds.any λd'=>peq d' d)) H→rInD K neg x y H Q
def op_inD (l:X.A.units+64 < cLine):OpR X (compareOp .In) (rInD X.K false):=by
 intro pins s σ H x y v u Q I f i h;obtain⟨p,xs,k,d,rfl,b,hs,g,n,q⟩:=h;cases i;have c:X.A.in1.units+zaQ k < cLine:=by rw[Around.in1_units];lia
 rcases b with b | b
 ·obtain⟨a,r,pl,j⟩:=I.list b;refine SeqAt.in_listAt (hitD X.K H d) pl.isList (λw e=>zc2 I g f hs r c w (by simpa using e)) ⟨.bl _,H,I,rfl,?_⟩;rw[show a.toArray.any (hitD X.K H d)=a.any (hitD X.K H d) by simp,zeu I hs r];exact q
 ·obtain⟨a,r,pl,j⟩:=I.tuple b;refine SeqAt.in_tupleAt (hitD X.K H d) pl (λw e=>zc2 I g f hs r c w (by simpa using e)) ⟨.bl _,H,I,rfl,?_⟩;rw[show a.toArray.any (hitD X.K H d)=a.any (hitD X.K H d) by simp,zeu I hs r];exact q
def zly (l:X.A.units+64 < cLine):OpR X (compareOp .NotIn) (rInD X.K true):=by
 intro pins s σ H x y v u Q I f i h;obtain⟨p,xs,k,d,rfl,b,hs,g,n,q⟩:=h;cases i;have c:X.A.in1.units+zaQ k < cLine:=by rw[Around.in1_units];lia
 rcases b with b | b
 ·obtain⟨a,r,pl,j⟩:=I.list b;refine SeqAt.notIn_listAt (hitD X.K H d) pl.isList (λw e=>zc2 I g f hs r c w (by simpa using e)) ⟨.bl _,H,I,rfl,?_⟩;rw[show a.toArray.any (hitD X.K H d)=a.any (hitD X.K H d) by simp,zeu I hs r];exact q
 ·obtain⟨a,r,pl,j⟩:=I.tuple b;refine SeqAt.notIn_tupleAt (hitD X.K H d) pl (λw e=>zc2 I g f hs r c w (by simpa using e)) ⟨.bl _,H,I,rfl,?_⟩;rw[show a.toArray.any (hitD X.K H d)=a.any (hitD X.K H d) by simp,zeu I hs r];exact q
inductive zjT (K:W.Frag):V→List V→Hp→VK→Prop|m{x vs H Q} l xs ds y d j:x=.ref l→vs=[y]→H l=some (.lst xs)→aq K H ds xs→Has K H d y→zaQ ds≤60→(∃ dj,ds[j]?=some dj∧peq dj d=true)→(∀ m dm,m < j→ds[m]?=some dm→peq dm d=false)→Q (.int (j:Nat)) H→zjT K x vs H Q
def zia (Z:X.A.units+64 < cLine):MtM X "list.index" (zjT X.K):=by
 intro pins s σ H x vs v us Q I L M h;obtain⟨l,xs,p,y,d,j,rfl,rfl,T,hs,O,hd,⟨dj,J,S⟩,B,q⟩:=h;cases L;obtain⟨u,rfl,N⟩:=M.one;obtain⟨z,a,n,r,hl,e⟩:=I.lstM T;have G:=hs.length;have R:j < p.length:=(gEq J).1;have D:X.A.in1.units+zaQ p < cLine:=by rw[Around.in1_units];lia
 have o:∀ m (b:m < a.toArray.size),∃ k,p[m]?=some k∧hitD X.K H d a.toArray[m]=peq k d:=λm b=>by
  have f:m < p.length:=by rw[sA]at b;lia
  obtain⟨w,c,i⟩:=hs.getD (gG f);obtain⟨E,Y,W⟩:=r.get c;have U:a.toArray[m]=E:=by have:a[m]?=some E:=Y;simp only[List.getElem_toArray];rw[gG (by rw[sA]at b;exact b)]at this;exact Option.some.inj this
  exact⟨_,gG f,by rw[U];exact zgr I W i⟩
 have g:j < a.toArray.size:=by rw[sA];lia
 have t:(j:Int) < 2 ^ 63 - 1:=by have:=sizeLine_eq;lia
 refine call_meets F.slot_list_index ⟨_,e,rfl⟩ F.entry_list_index (F.args_list_index_2 _ _) (SeqAt.list_indexAt l a.toArray n none #[] u (hitD X.K H d) j g t ?_ ?_) ⟨e,?_,?_⟩
 ·obtain⟨k,c,i⟩:=o j g;rw[J]at c;cases c;rw[i,S]
 ·intro m b C;obtain⟨k,c,i⟩:=o m b;rw[i,B m k C c]
 ·intro w P;exact zc2 I O N hs r D w (by simpa using P)
 ·exact⟨.int (j:Nat),H,I.tok _,⟨_,rfl⟩,q⟩
end
structure FB (P:Program)(w:World)(K:W.Frag)(mg:Str→Option Value)(base:Heap)(CX:CXT)(k:Nat)(x:Str)(f:Addr)(fd:FuncData)(ps:List Str)(sp:Sp):Prop where
 ok:aI P w K mg base CX k f fd ps sp
 b:az K fd ps []
 kp:W.keepIn K (.ref f)=true
 m:mg x=some (.ref f)
def bsz (n:Nat)(h:n≤1000):n≤sizeLine:=Nat.le_of_lt (zbu h)
def zan {a:Type}{xs:List a}{i:Nat}{x:a}(h:xs[i]?=some x):xs.take (i+1)=xs.take i++[x]:=by rw[List.take_add_one,h];rfl
def au (h:H p=none)(o:HO):ap H (upd H p o):=λb u q=>by rw[ag (zad q h)];exact q
def ap.upd (s:ap H0 H)(h:H0 l=none):ap H0 (upd H l o):=λb u q=>by rw[ag (zad q h)];exact s b u q
def ap.kt (s:ap H H'):aV H H':=aV.of_same s
def ap.tup {K:W.Frag}{H H':Hp}{a:Addr}{xs:List V}(s:ap H H')(h:SqT K H a xs):SqT K H' a xs:=s.kt.sq h
structure Wk (J:It)(n:Nat)(Ok:Hp→Prop):Prop where
 stop:∀ i H,Ok H→n≤i→J.stop i H
 go:∀ i H,Ok H→i < n→J.go i H
def zfa {lo:Int}{n:Nat}:Wk (Itr lo n) n (λ_=>True):=⟨λ_ _ _ h=>h,λ_ _ _ h=>h⟩
def zbD {K:W.Frag}{a:Addr}{xs:List V}:Wk (Itl K a) xs.length (λH=>SqL K H a xs):=⟨λ_ _ h b=>⟨xs,h,b⟩,λi _ h b=>⟨xs,xs[i],h,by simp [b]⟩⟩
def zdf {K:W.Frag}{a:Addr}{xs:List V}:Wk (Itt K a) xs.length (λH=>SqT K H a xs):=⟨λ_ _ h b=>⟨xs,h,b⟩,λi _ h b=>⟨xs,xs[i],h,by simp [b]⟩⟩
def LcW (n:Nat)(D:Addr)(a:Nat→List V→Hp→Prop)(i m:Nat)(ys:List V)(H:Hp):Prop:=m=n - i∧i≤n∧ys.length≤i∧H D=some (.lst ys)∧a i ys H
def ziT (n:Nat)(D:Addr)(c:Nat→List V→Hp→Prop)(i:Nat)(ys:List V):VK:=λy b=>b D=some (.lst ys)∧ys.length < sizeLine∧∃ a,a < n - i∧LcW n D c (i+1) a (ys++[y]) (upd b D (.lst (ys++[y])))
def zlj (n:Nat)(D:Addr)(b:Nat→List V→Hp→Prop)(i:Nat)(ys:List V)(c:Hp):Prop:=∃ a,a < n - i∧LcW n D b (i+1) a ys c
def za5 (c:n≤sizeLine)(a:i < n)(d:ys.length≤i)(b:H3 D=some (.lst ys))(p:Pv (i+1) (ys++[y]) (upd H3 D (.lst (ys++[y])))):ziT n D Pv i ys y H3 :=
 ⟨b,by lia,n - (i+1),by lia,rfl,a,by rw[lAq,lS];lia,af,p⟩
def zdx (a:i < n)(c:ys.length≤i)(b:H3 D=some (.lst ys))(p:Pv (i+1) ys H3):zlj n D Pv i ys H3 :=
 ⟨n - (i+1),by lia,rfl,a,by lia,b,p⟩
def zcT {J:It}{n:Nat}{h:Hp→Prop}{te:TE}{fv:St}{k:Hp}{D:Addr}{R:Hp→Prop}(W:Wk J n h)(b:Nat→List V→Hp→Prop)(c:∀ i ys H,b i ys H→h H)(h0:b 0 [] (upd k D (.lst [])))
  (hs:∀ i ys H' x a,i < n→ys.length≤i→H' D=some (.lst ys)→b i ys H'→J.yld i H' x a→te (some x :: fv) a (ziT n D b i ys))(o:∀ ys H',H' D=some (.lst ys)→b n ys H'→R H') :
  ∃ W:Nat→Nat→List V→Hp→Prop,(∃ m,W 0 m [] (upd k D (.lst [])))∧∀ i m ys H',W i m ys H'→H' D=some (.lst ys) ∧
   ((J.stop i H'∧R H')∨(J.go i H'∧∀ x a,J.yld i H' x a→te (some x :: fv) a λy j=>j D=some (.lst ys)∧ys.length < sizeLine∧∃ g,g < m∧W (i+1) g (ys++[y]) (upd j D (.lst (ys++[y]))))):=by
 refine⟨LcW n D b,⟨n,rfl,Nat.zero_le _,Nat.zero_le _,af,h0⟩,?_⟩;rintro i m ys H' ⟨rfl,q,l,f,p⟩;refine⟨f,?_⟩;by_cases d:i < n
 ·exact .inr ⟨W.go i H' (c _ _ _ p) d,λx a y=>hs i ys H' x a d l f p y⟩
 ·have e:i=n:=by lia
  subst e;exact .inl ⟨W.stop i H' (c _ _ _ p) (nRq _),o ys H' f p⟩
def zek {J:It}{n:Nat}{l:Hp→Prop}{k:TT}{te:TE}{fv:St}{q:Hp}{D:Addr}{R:Hp→Prop}(W:Wk J n l)(c:Nat→List V→Hp→Prop)(f:∀ i ys H,c i ys H→l H)(h0:c 0 [] (upd q D (.lst [])))
  (hs:∀ i ys H' x a,i < n→ys.length≤i→H' D=some (.lst ys)→c i ys H'→J.yld i H' x a→k (some x :: fv) a λb h=>if b=true then te (some x :: fv) h (ziT n D c i ys) else zlj n D c i ys h)
  (s:∀ ys H',H' D=some (.lst ys)→c n ys H'→R H') :
  ∃ W:Nat→Nat→List V→Hp→Prop,(∃ m,W 0 m [] (upd q D (.lst [])))∧∀ i m ys H',W i m ys H'→H' D=some (.lst ys) ∧
   ((J.stop i H'∧R H')∨(J.go i H'∧∀ x a,J.yld i H' x a→k (some x :: fv) a λb h =>
    if b=true then te (some x :: fv) h λy o=>o D=some (.lst ys)∧ys.length < sizeLine∧∃ d,d < m∧W (i+1) d (ys++[y]) (upd o D (.lst (ys++[y])))
    else ∃ d,d < m∧W (i+1) d ys h)):=by
 refine⟨LcW n D c,⟨n,rfl,Nat.zero_le _,Nat.zero_le _,af,h0⟩,?_⟩;rintro i m ys H' ⟨rfl,t,r,j,p⟩;refine⟨j,?_⟩;by_cases g:i < n
 ·exact .inr ⟨W.go i H' (f _ _ _ p) g,λx a y=>hs i ys H' x a g r j p y⟩
 ·have e:i=n:=by lia
  subst e;exact .inl ⟨W.stop i H' (f _ _ _ p) (nRq _),s ys H' j p⟩
def zba {J:It}{n:Nat}{l:Hp→Prop}{g:TG}{tb:TS}{D:zcW}{a:St}{H:Hp}(W:Wk J n l)(b:Nat→St→Hp→Prop)(h:∀ i a H,b i a H→l H)(h0:b 0 a H)
  (hs:∀ i a H x H',i < n→b i a H→J.yld i H x H'→g x a H' λc j=>tb { D with nx:=b (i+1),ct:=b (i+1),bk:=D.nx } c j)(q:∀ a H,b n a H→D.nx a H) :
  ∃ W:Nat→Nat→St→Hp→Prop,(∃ m,W 0 m a H)∧∀ i m a H,W i m a H →
   (J.stop i H∧D.nx a H)∨(J.go i H∧∃ N:St→Hp→Prop,(∀ d H',N d H'→∃ k,k < m∧W (i+1) k d H')∧∀ x H',J.yld i H x H'→g x a H' λc j=>tb { D with nx:=N,ct:=N,bk:=D.nx } c j):=by
 refine⟨λi m a H=>m=n - i∧i≤n∧b i a H,⟨n,by simp,Nat.zero_le _,h0⟩,?_⟩;rintro i m a H ⟨rfl,r,p⟩;by_cases f:i < n
 ·exact .inr ⟨W.go i H (h _ _ _ p) f,b (i+1),λd H' o=>⟨n - (i+1),by lia,rfl,f,o⟩,λx H' y=>hs i a H x H' f p y⟩
 ·have e:i=n:=by lia
  subst e;exact .inl ⟨W.stop i H (h _ _ _ p) (nRq _),q a H p⟩
def Has.int {K:W.Frag}{H:Hp}{i:Int}:Has K H (.int i) (.int i):=by simp only[Has]
def aq.nil {K:W.Frag}{H:Hp}:aq K H [] []:=by simp only[aq]
def aq.cons {K:W.Frag}{H:Hp}{d:Dt}{a:List Dt}{v:V}{vs:List V}(h:Has K H d v)(r:aq K H a vs):aq K H (d :: a) (v :: vs):=by simp only[aq];exact⟨v,vs,rfl,h,r⟩
def Has.tup' {K:W.Frag}{H:Hp}{b:List Dt}{a:Addr}{xs:List V}(h:SqT K H a xs)(r:aq K H b xs):Has K H (.tup b) (.ref a):=by simp only[Has];exact⟨a,xs,rfl,h,r⟩
def Has.lst' {K:W.Frag}{H:Hp}{b:List Dt}{a:Addr}{xs:List V}(h:SqL K H a xs)(r:aq K H b xs):Has K H (.lst b) (.ref a):=by simp only[Has];exact⟨a,xs,rfl,h,r⟩
def zf1 {K:W.Frag}{H:Hp}:∀ {ns:List Int} {vs:List V},aq K H (ns.map Dt.int) vs→vs=ns.map V.int
 | [],vs,h=>by simp only[List.map_nil,aq]at h;rw[h];rfl
 | n :: ns,vs,h=>by simp only[List.map_cons,aq]at h;obtain⟨v,r,rfl,a,b⟩:=h;simp only[Has]at a;rw[a,zf1 b];rfl
def dP (t:Int × Int):Dt:=.tup [.int t.1,.int t.2]
def has_dP {K:W.Frag}{H:Hp}{t:Int × Int}{v:V}(h:Has K H (dP t) v):∃ p,v=.ref p∧SqT K H p [.int t.1,.int t.2]:=by unfold dP at h;simp only[Has]at h;obtain⟨a,xs,rfl,hs,b⟩:=h;have e:=zf1 (ns:=[t.1,t.2]) b;rw[e]at hs;exact⟨a,rfl,hs⟩
def of_dP {K:W.Frag}{H:Hp}{t:Int × Int}{p:Addr}(h:SqT K H p [.int t.1,.int t.2]):Has K H (dP t) (.ref p):=Has.tup' h (.cons .int (.cons .int .nil))
def zaV:∀ ts:List (Int × Int),zaP (ts.map dP)=true
 | []=>by simp [zaP]
 | t :: ts=>by simp only[List.map_cons,zaP,dP,nol,Bool.true_and];exact zaV ts
def zcG {K:W.Frag}{H:Hp}{ts:List (Int × Int)}{xs:List V}{i:Nat}{x:V}(h:aq K H (ts.map dP) xs)(e:xs[i]?=some x):∃ t p,ts[i]?=some t∧x=.ref p∧SqT K H p [.int t.1,.int t.2]:=by
 obtain⟨d,a,c⟩:=h.get e;rw[List.getElem?_map]at a;cases q:ts[i]? with
 | none=>rw[q]at a;cases a
 | some t =>
  rw[q]at a;cases a;obtain⟨p,rfl,b⟩:=has_dP c;exact⟨t,p,rfl,rfl,b⟩
end L2
namespace PySem
open Sem (wp)
namespace F
def entry_dict_update_loop:entryFor table "dict.update.loop"=some Builtin.«dict.update.loop»:=entryFor_of_tree (by kernel_rfl)
def plain_dict_update_loop:plainId "dict.update.loop"=true:=by decide +kernel
def miss_list_keys:typeLookup (.type "list") "keys"=pure none:=by rw[typeLookup_type,builtinLookup_eq_fast];kernel_rfl
end F
theorem zgd
  (hx:s.heap.get? a=some o)(hc:o.cls=.type "list")(hdat:o.data=.seq xs k)(hd:o.dict=none)(hmiss:typeLookup (.type "list") name=pure none)(hname:(["__module__","__name__","__qualname__","__doc__","__annotations__"]:List Str).contains name=false)(hA:A.handled=none)
  (h:∀ h' tk e,Heap.NewExcOf s.heap h' e "AttributeError"→Q none { s with heap:=h',toks:=tk })(hsz:name.length+100≤sizeLine:=by size_fits) :
  wpAny (model prog w) A (getAttr? (.ref a) name) Q E s:=by
 obtain⟨c,dct,dat,sl⟩:=o;simp only at hc hdat hd;subst hc hdat hd;obtain⟨hp,g,d,tk,os⟩:=s;have hT:∀ tk',(⟨hp,g,d,tk',os⟩:Shared).TypeIs (.ref a) "list":=λ_=>⟨_,hx,rfl⟩;have f1:=sub_AttributeError;have f3:=F.slot_list_getattribute.lookup;have f4:=F.slot_list_getattribute.bind (.ref a);have f5:=am_list_getattr_none;unfold getAttr? getAttrBy? getAttrBy
 repeat (any_goals (first | assumption | exact hT _ | ((with_reducible show wpAny _ _ (call (Value.builtin "list.__getattribute__") _ _) _ _ _);refine call_meets F.slot_list_getattribute (hT _) am_entry_list_getattribute (F.args_list_getattribute_2 _ _) (meets_getattribute_miss_list a xs k sl name _ hmiss hname hsz) ⟨hx,hA,λh' tk' e hx'=>?_⟩) | wp_step))
 obtain⟨t',u',he⟩:=hx'.there;show wpAny _ _ (getattributeRaised _ _ _ _ _ _ _) _ _ _;unfold getattributeRaised
 repeat (any_goals (first | assumption | wp_step))
 exact h _ _ _ hx'.of
section
variable {prog:Program} {w:World} {K:Type} [DecidableEq K] {knd:KeyKind prog w K} {A:Around}
def zcg (ks:Nat→K)(vals:Nat→Value)(n:Nat):List (K × Value):=(List.range n).foldl (λacc j=>stored acc (ks j) (vals j)) []
def zey (ks:Nat→K)(vals:Nat→Value)(n:Nat):zcg ks vals (n+1)=stored (zcg ks vals n) (ks n) (vals n):=by unfold zcg;rw[List.range_succ,List.foldl_append];rfl
def zkz (kvs:List (K × Value))(k:K)(v:Value):(stored kvs k v).length≤kvs.length+1:=by
 unfold stored;split
 ·rw[lM];lia
 ·rw[lAq];simp
def zeO (ks:Nat→K)(vals:Nat→Value):∀ n,(zcg ks vals n).length≤n
 | 0=>nRq _
 | n+1=>by rw[zey];have:=zkz (zcg ks vals n) (ks n) (vals n);have:=zeO ks vals n;lia
def zeA {R:Result→Shared→Prop}{h0:Heap}{l it d:Addr}{items:Array Value}{Ts:Nat→Addr}{keys vals:Nat→Value}{ks:Nat→K}{q:Value}(T:A.handled=none)(Q:h0.IsList l items)(C:l≠it)(D:l≠d)(g:d≠it)(hsz:items.size≤sizeLine)
  (S:∀ i,i < items.size→items[i]?=some (.ref (Ts i))∧h0.IsTuple (Ts i) #[keys i,vals i]∧knd.is (ks i) (keys i)=true∧Ts i≠it∧Ts i≠d) :
  ∀(k i:Nat) (s:Shared),items.size - i=k→i≤items.size→s.heap.IsListIter it l i→(∀ b o,b≠it→b≠d→h0.get? b=some o→s.heap.get? b=some o)→s.heap.DictOf knd d (zcg ks vals i) →
   (∀ h' tk,(∀ b o,b≠it→b≠d→h0.get? b=some o→h'.get? b=some o)→h'.DictOf knd d (zcg ks vals items.size)→R (.ok (.ret q)) { s with heap:=h',toks:=tk }) →
   codeAny (model prog w) A (.builtin "dict.update.loop" ⟨[.ref d,.ref it,rawInt i,q],[]⟩) R s:=by
 have lst:∀ h:Heap,(∀ b o,b≠it→b≠d→h0.get? b=some o→h.get? b=some o)→h.IsList l items:=λh E=>by obtain⟨o,z,r⟩:=Q;exact⟨o,E _ _ C D z,r⟩
 intro k
 induction k with
 | zero =>
  intro i s E G f a L H;have e:i=items.size:=by lia
  subst e;refine codeAny_builtin F.entry_dict_update_loop ?_;rw[Around.under_plainId F.plain_dict_update_loop _];show wpAny _ A.in1 (pyNext (.ref it) >>= _) _ _ s;refine wpAny_bind (wpAny_pyNext_list_end (by simpa using T) f (lst _ a) (by simp) λh' N=>?_);show wpAny _ _ (Builtin.Dict.addKeywords d [] >>= _) _ _ _;refine wpAny_bind (wpAny_pure (wpAny_pure ?_));exact H h' s.toks (λb o p n j=>N b o p (a b o p n j)) (L.extBut N g)
 | succ k O =>
  intro i s E G f a L H;have B:i < items.size:=by lia
  obtain⟨e1,e2,e3,e4,Z⟩:=S i B;refine codeAny_builtin F.entry_dict_update_loop ?_;rw[Around.under_plainId F.plain_dict_update_loop _];show wpAny _ A.in1 (pyNext (.ref it) >>= _) _ _ s;refine wpAny_bind (wpAny_pyNext_list_item f (lst _ a) e1 λh' v hs'=>?_);have c:∀ b o,b≠it→b≠d→h0.get? b=some o→h'.get? b=some o:=λb o p n j=>(hs'.2 b p).trans (a b o p n j);have J:h'.DictOf knd d (zcg ks vals i):=L.sameBut hs' g;obtain⟨ot,P,y,nt,x⟩:=id e2;have t:=c _ _ e4 Z P;have U:({ s with heap:=h' }:Shared).TypeIs (.ref (Ts i)) "tuple":=⟨_,t,y⟩;refine wpAny_bind (wpAny_holding (wpAny_bind (wpAny_tryCatch ?_)));unfold Builtin.Dict.pairItems;refine wpAny_bind (wpAny_typeOf U ?_);rw[if_pos (by decide)];refine wpAny_bind (wpAny_seqItems t x (wpAny_pure ?_));show wpAny _ _ (holding [keys i,vals i] (dictSet d (keys i) (vals i))) _ _ _;have M:=zeO ks vals i;refine wpAny_holding (wpAny_dictSet_pairs e3 J (λn I u=>?_) (by lia));refine wpAny_pure ⟨plainId_quiet F.plain_dict_update_loop _,?_⟩;have Y:rawInt ((i:Int)+1)=rawInt ((i+1:Nat):Int):=by rfl
  rw[Y];refine O (i+1) _ (by lia) (by lia) ?_ ?_ ?_ ?_
  ·obtain⟨o,z,r⟩:=v;exact⟨o,(u.2 it g.symm).trans z,r⟩
  ·exact λb o p n j=>(u.2 b n).trans (c b o p n j)
  ·rw[zey];exact I
  ·exact λj tk X W=>H j tk X W
def zhX {E:Value→Shared→Prop}{s:Shared}{l:Addr}{o:Obj}{items:Array Value}{n:Nat}{Ts:Nat→Addr}{keys vals:Nat→Value}{ks:Nat→K}{Q:Value→Shared→Prop}(D:A.handled=none)
  (x:s.heap.get? l=some o)(y:o.cls=.type "list")(N:o.dict=none)(j:o.data=.seq items n)(hsz:items.size≤sizeLine)
  (M:∀ i,i < items.size→items[i]?=some (.ref (Ts i))∧s.heap.IsTuple (Ts i) #[keys i,vals i]∧knd.is (ks i) (keys i)=true)
  (h:∀ h' tk,(∀ b o,s.heap.get? b=some o→h'.get? b=some o)→h'.DictOf knd s.heap.objs.size (zcg ks vals items.size)→Q (.ref s.heap.objs.size) { s with heap:=h',toks:=tk }) :
  wpAny (model prog w) A (call (.type "dict") [.ref l]) Q E s:=by
 refine callType_codes (Q₁:=λu k=>u=.ref s.heap.objs.size∧k={ s with heap:=s.heap.push { cls:=.type "dict",data:=.dict #[] } }) F.kt_called_dict (F.kt_typeCall_dict_1 _) F.entry_dict_init (kt_code_dict_new _ ⟨rfl,rfl⟩) ?_;rintro u k ⟨rfl,rfl⟩;have g:(s.heap.push { cls:=.type "dict",data:=.dict #[] }).DictOf knd s.heap.objs.size []:=Heap.DictOf.new s.heap;have q:(s.heap.push { cls:=.type "dict",data:=.dict #[] }).get? l=some o:=hG _ x;have O:({ s with heap:=s.heap.push { cls:=.type "dict",data:=.dict #[] } }:Shared).TypeIs (.ref l) "list":=⟨_,q,y⟩;refine⟨g.typeIs,F.args_dict_init_2 _ _,?_⟩;unfold Builtin.«dict.__init__»;refine wpAny_bind ?_;unfold Builtin.Dict.selfAndRest;refine wpAny_bind (wpAny_notOrdered_dict g.typeIs ?_);show wpAny _ _ (pure (s.heap.objs.size,[Value.ref l])) _ _ _;refine wpAny_pure ?_;show wpAny _ _ (Builtin.Dict.updateFrom "dict.__init__" s.heap.objs.size (.ref l) [] .none) _ _ _;unfold Builtin.Dict.updateFrom;refine wpAny_bind (wpAny_typeOf O ?_);rw[if_pos (by decide)];refine wpAny_bind (zgd q y j N F.miss_list_keys (by decide +kernel) (by simpa using D) λp G e J=>?_);rw[if_pos (show(none:Option Value).isNone=true from rfl)];have k1:∀ b c,(s.heap.push { cls:=.type "dict",data:=.dict #[] }).get? b=some c→p.get? b=some c:=J.keeps;refine wpAny_bind (wpAny_rule ?_);have B:p.IsList l items:=⟨o,k1 _ _ q,y,n,j⟩;refine wpAny_bind (wpAny_pyIter_list B ?_);refine wpAny_pure ⟨plainId_quiet F.plain_dict_update_loop _,?_⟩;have t:s.heap.objs.size < p.objs.size:=hLq (k1 _ _ (Heap.get?_push_size _ rfl));have C:p.DictOf knd s.heap.objs.size []:=by obtain⟨I,es,R,v,r⟩:=g;exact⟨I,es,R,k1 _ _ v,r⟩
 have f:∀ b c,s.heap.get? b=some c→(p.push { cls:=.type "list_iterator",data:=.fields #[.ref l,.int 0 0] }).get? b=some c:=λb c e=>hG _ (k1 _ _ (hG _ e));have a:∀ b c,s.heap.get? b=some c→b≠p.objs.size∧b≠s.heap.objs.size:=λb c e=>by have:=hLq e;exact⟨Nat.ne_of_lt (Nat.lt_trans this t),Nat.ne_of_lt this⟩
 refine zeA (h0:=p.push { cls:=.type "list_iterator",data:=.fields #[.ref l,.int 0 0] }) (knd:=knd) (l:=l) (it:=p.objs.size) (d:=s.heap.objs.size) (items:=items) (Ts:=Ts) (keys:=keys) (vals:=vals) (ks:=ks) (by simpa using D) ?_ (a _ _ x).1 (a _ _ x).2 (Nat.ne_of_lt t) hsz ?_ items.size 0 _ (by lia) (Nat.zero_le _) ?_ (λ_ _ _ _ e=>e) (C.push _) ?_
 ·exact⟨o,f _ _ x,y,n,j⟩
 ·intro i z;obtain⟨T,⟨H,v,r⟩,S⟩:=M i z;exact⟨T,⟨H,f _ _ v,r⟩,S,(a _ _ v).1,(a _ _ v).2⟩
 ·exact⟨_,Heap.get?_push_size _ rfl,rfl,rfl⟩
 ·intro h' tk L P;exact⟨rfl,h h' tk (λb c e=>L b c (a _ _ e).1 (a _ _ e).2 (f _ _ e)) P⟩
end
end PySem
namespace L2
open PySem PySem.Spec PyProof.Rows
section
variable {κ:Type} [DecidableEq κ]
def zam (kvs:List (κ × V))(k:κ):Option V:=(kvs.find? λa=>decide (a.1=k)).map (·.2)
def zav (kvs:List (κ × V))(k:κ)(v:V):List (κ × V) :=
 if(kvs.any λa=>decide (a.1=k))=true then kvs.map (λa=>if a.1=k then(a.1,v) else a) else kvs++[(k,v)]
def zbs (kvs:List (κ × V))(k:κ):List (κ × V):=kvs.filter λa=>decide (a.1≠k)
def zmd:zam ([]:List (κ × V)) k=none:=rfl
def zbb {p:κ × V}{r:List (κ × V)}{k:κ}(e:p.1=k):zam (p :: r) k=some p.2:=by simp [zam,List.find?_cons,e]
def za3 {p:κ × V}{r:List (κ × V)}{k:κ}(e:¬p.1=k):zam (p :: r) k=zam r k:=by simp [zam,List.find?_cons,e]
def zcX (k:κ):∀ kvs:List (κ × V),(kvs.any λa=>decide (a.1=k))=(zam kvs k).isSome
 | []=>rfl
 | p :: r=>by
  rw[List.any_cons];by_cases e:p.1=k
  ·simp only[zbb e,dTq e,Bool.true_or,Option.isSome_some]
  ·rw[za3 e,dFq e,Bool.false_or];exact zcX k r
def ziV (k j:κ)(y:V):∀ kvs:List (κ × V),zam (kvs.map λa=>if a.1=k then(a.1,y) else a) j=(zam kvs j).map λx=>if j=k then y else x
 | []=>rfl
 | p :: r=>by
  have b:=ziV k j y r;rw[List.map_cons];by_cases h:p.1=k
  ·rw[if_pos h];by_cases e:p.1=j
   ·rw[zbb (p:=(p.1,y)) e,zbb e,Option.map_some,if_pos (e.symm.trans h)]
   ·rw[za3 (p:=(p.1,y)) e,za3 e,b]
  ·rw[if_neg h];by_cases e:p.1=j
   ·rw[zbb (p:=p) e,zbb e,Option.map_some,if_neg (λz=>h (e.trans z))]
   ·rw[za3 (p:=p) e,za3 e,b]
def zh1 (k j:κ)(y:V):∀ kvs:List (κ × V),zam kvs k=none→zam (kvs++[(k,y)]) j=if j=k then some y else zam kvs j
 | [],_=>by
  by_cases e:k=j
  ·rw[if_pos e.symm];exact zbb (p:=(k,y)) e
  ·rw[if_neg (λz=>e z.symm)];exact za3 (p:=(k,y)) e
 | p :: r,a=>by
  rw[List.cons_append];have b:¬p.1=k:=λz=>by rw[zbb z]at a;cases a
  rw[za3 b]at a;have c:=zh1 k j y r a;by_cases e:p.1=j
  ·rw[zbb e,zbb e,if_neg (λz=>b (e.trans z))]
  ·rw[za3 e,za3 e,c]
def zem (kvs:List (κ × V))(k j:κ)(y:V):zam (zav kvs k y) j=if j=k then some y else zam kvs j:=by
 unfold zav;by_cases a:(kvs.any λb=>decide (b.1=k))=true
 ·rw[if_pos a,ziV];rw[zcX]at a;by_cases e:j=k
  ·obtain⟨x,c⟩:=Option.isSome_iff_exists.mp a;rw[if_pos e,e,c,Option.map_some,if_pos rfl]
  ·rw[if_neg e];cases zam kvs j with
   | none=>rfl
   | some x=>rw[Option.map_some,if_neg e]
 ·rw[if_neg a];refine zh1 k j y kvs ?_;rw[zcX]at a;cases q:zam kvs k with
  | none=>rfl
  | some x=>rw[q]at a;exact(a rfl).elim
def zdJ (kvs:List (κ × V))(k:κ)(v:V):(zav kvs k v).length≤kvs.length+1:=by
 unfold zav;split
 ·rw[lM];lia
 ·rw[lAq,List.length_cons,List.length_nil];lia
def zb2.isSome_eq (r:zb2 o u):o.isSome=u.isSome:=by
 cases o with
 | none=>cases u with
  | none=>rfl
  | some _=>exact(show False from r).elim
 | some _=>cases u with
  | none=>exact(show False from r).elim
  | some _=>rfl
def zb2.getD (r:zb2 o u)(a:aY d d'):aY (o.getD d) (u.getD d'):=by
 cases o with
 | none=>cases u with
  | none=>exact a
  | some _=>exact(show False from r).elim
 | some _=>cases u with
  | none=>exact(show False from r).elim
  | some _=>exact r
def KV.val {kvs:List (κ × V)}{vs:List (κ × Value)}(r:KV kvs vs)(k:κ):zb2 (zam kvs k) (valueAt vs k):=by
 unfold KV at r
 induction r with
 | nil=>exact True.intro
 | @cons p q ps a h t f =>
  obtain⟨d,g⟩:=h;by_cases e:p.1=k
  ·have c:q.1=k:=d.symm.trans e;have b:valueAt (q :: a) k=some q.2:=by simp [valueAt,List.find?_cons,c]
   rw[zbb e,b];exact g
  ·have c:¬q.1=k:=λz=>e (d.trans z);have b:valueAt (q :: a) k=valueAt a k:=by simp [valueAt,List.find?_cons,c]
   rw[za3 e,b];exact f
def KV.any (r:KV kvs vs)(k:κ):(kvs.any λa=>decide (a.1=k))=vs.any λa=>decide (a.1=k):=by
 unfold KV at r
 induction r with
 | nil=>rfl
 | cons h t b=>rw[List.any_cons,List.any_cons,b,h.1]
def KV.repl (r:KV kvs vs)(k:κ){y:V}{u:Value}(c:aY y u) :
  KV (kvs.map λa=>if a.1=k then(a.1,y) else a) (vs.map λa=>if a.1=k then(a.1,u) else a):=by
 unfold KV at r ⊢
 induction r with
 | nil=>exact .nil
 | @cons p q ps g h t d =>
  rw[List.map_cons,List.map_cons];refine .cons ?_ d;obtain⟨b,f⟩:=h;by_cases e:p.1=k
  ·rw[if_pos e,if_pos (b.symm.trans e)];exact⟨b,c⟩
  ·rw[if_neg e,if_neg (λz=>e (b.trans z))];exact⟨b,f⟩
def KV.put (r:KV kvs vs)(k:κ){y:V}{u:Value}(a:aY y u):KV (zav kvs k y) (stored vs k u):=by
 unfold zav stored;rw[r.any k];by_cases e:(vs.any λb=>decide (b.1=k))=true
 ·rw[if_pos e,if_pos e];exact r.repl k a
 ·rw[if_neg e,if_neg e];exact Paired.snoc r ⟨rfl,a⟩
def KV.drop (r:KV kvs vs)(k:κ):KV (zbs kvs k) (without vs k):=by
 unfold KV at r ⊢;unfold zbs without
 induction r with
 | nil=>exact .nil
 | @cons p q ps i h t d =>
  obtain⟨c,f⟩:=h;rw[List.filter_cons,List.filter_cons];by_cases e:p.1=k
  ·have a:¬decide (p.1≠k)=true:=by simp [e]
   have b:¬decide (q.1≠k)=true:=by simp [c.symm.trans e]
   rw[if_neg a,if_neg b];exact d
  ·have g:¬q.1=k:=λz=>e (c.trans z);have a:decide (p.1≠k)=true:=by simp [e]
   have b:decide (q.1≠k)=true:=by simp [g]
   rw[if_pos a,if_pos b];exact .cons ⟨c,f⟩ d
def KV.keys {kvs:List (κ × V)}{vs:List (κ × Value)}(r:KV kvs vs):kvs.map (·.1)=vs.map (·.1):=by
 unfold KV at r
 induction r with
 | nil=>rfl
 | cons h t a=>rw[List.map_cons,List.map_cons,a,h.1]
def KV.length (r:KV kvs vs):kvs.length=vs.length:=Paired.length r
def zna (kvs:List (κ × V))(k:κ):(zbs kvs k).length≤kvs.length:=List.length_filter_le _ _
end
def zd3 (r:aY (kV k) u):(zaJ P w).is k u=true:=by
 cases k with
 | inl i=>obtain⟨t,e⟩:=(show ∃ t,u=Value.int i t from r);subst e;exact zjz P w i t
 | inr x=>obtain⟨t,e⟩:=(show ∃ t,u=Value.str x t from r);subst e;exact zjy P w x t
def zid:∀ {ks:List Key} {us:List Value},aQ (ks.map kV) us→ItemsAre (zaJ P w) ks us
 | [],_,r=>by rw[List.map_nil]at r;cases r;exact .nil
 | k :: ks,_,r=>by
  rw[List.map_cons]at r;cases r with
  | cons h t=>exact .cons (zd3 h) (zid t)
abbrev KT (H:Hp):List (List Key × V)→List (List Key × Addr × Value)→Prop:=Paired λp q=>p.1=q.1∧H q.2.1=some (.tup (p.1.map kV))∧aY p.2 q.2.2
def KT.val {H:Hp}{kvs:List (List Key × V)}{xs:List (List Key × Addr × Value)}(r:KT H kvs xs)(k:List Key):zb2 (zam kvs k) ((atKey xs k).map (·.2)):=by
 induction r with
 | nil=>exact True.intro
 | @cons p q ps a h t f =>
  obtain⟨d,_,g⟩:=h;by_cases e:p.1=k
  ·have c:q.1=k:=d.symm.trans e;have b:atKey (q :: a) k=some q.2:=by simp [atKey,List.find?_cons,c]
   rw[zbb e,b];exact g
  ·have c:¬q.1=k:=λz=>e (d.trans z);have b:atKey (q :: a) k=atKey a k:=by simp [atKey,List.find?_cons,c]
   rw[za3 e,b];exact f
def KT.repl (r:KT H kvs xs)(k:List Key){y:V}{u:Value}(d:aY y u) :
  KT H (kvs.map λb=>if b.1=k then(b.1,y) else b) (xs.map (putAt k u)):=by
 induction r with
 | nil=>exact .nil
 | @cons p q ps i h t f =>
  rw[List.map_cons,List.map_cons];refine .cons ?_ f;obtain⟨a,c,g⟩:=h;unfold putAt;by_cases e:p.1=k
  ·rw[if_pos e,if_pos (a.symm.trans e)];exact⟨a,c,d⟩
  ·rw[if_neg e,if_neg (λz=>e (a.trans z))];exact⟨a,c,g⟩
def KT.put (r:KT H kvs xs)(k:List Key){b:Addr}{y:V}{u:Value}(d:H b=some (.tup (k.map kV)))(a:aY y u) :
  KT H (zav kvs k y) (storedH xs k b u):=by
 have e:(kvs.any λc=>decide (c.1=k))=(atKey xs k).isSome:=by rw[zcX,(r.val k).isSome_eq,Option.isSome_map]
 unfold zav storedH;rw[e];by_cases q:(atKey xs k).isSome=true
 ·rw[if_pos q,if_pos q];exact r.repl k a
 ·rw[if_neg q,if_neg q];exact Paired.snoc r ⟨rfl,d,a⟩
def KT.keeps (r:KT H kvs xs)(a:∀ b ys,H b=some (.tup ys)→H' b=some (.tup ys)):KT H' kvs xs :=
 Paired.mapP r λ_ _ z=>⟨z.1,a _ _ z.2.1,z.2.2⟩
section
variable {P:Program} {w:World} {H:Hp} {h:Heap} {a:Addr}
def rd_of (b:HOk P w H h)(e:Rd H a u):zaz P w H h a u:=e.ok b
def ze9 (b:HOk P w H h)(e:Rd H a (.dK kvs)):kvs.length≤sizeLine∧(a == sysModules)=false∧∃ vs,KV kvs vs∧h.DictOf (zaJ P w) a vs :=
 show zaz P w H h a (.dK kvs) from rd_of b e
def zge (b:HOk P w H h)(e:H a=some (.dK kvs)):kvs.length≤sizeLine∧(a == sysModules)=false∧∃ vs,KV kvs vs∧h.DictOf (zaJ P w) a vs:=ze9 b (.inl e)
def zeT (d:HOk P w H h)(e:H a=some (.tup (ks.map kV))):(tupleKind (zaJ P w)).is h ks a:=by obtain⟨_,b,r,o,g,c,n,f⟩:=(show zaz P w H h a (.tup (ks.map kV)) from d a _ e);replace c:=(Prod.mk.inj c).1;exact⟨o,b.toArray,n,g,c,f,by simpa using zid r⟩
def ze8 (d:HOk P w H h)(e:Rd H a (.dT kvs)):kvs.length≤sizeLine∧(a == sysModules)=false ∧
  ∃ xs,KT H kvs xs∧h.DictOfH (tupleKind (zaJ P w)) a xs:=by
 obtain⟨z,y,xs,r,o,es,u,s,n,k,j,i⟩:=(show zaz P w H h a (.dT kvs) from rd_of d e);refine⟨z,y,xs,r,o,es,u,s,n,k,j,λx b=>?_,i⟩;have c:∀ {l:List (List Key × V)} {m:List (List Key × Addr × Value)},KT H l m→∀ x∈m,(tupleKind (zaJ P w)).is h x.1 x.2.1:=by
  intro l m q
  induction q with
  | nil=>intro x b;exact nomatch b
  | @cons p q ps v f t g =>
   intro x b;rcases List.mem_cons.mp b with e | b
   ·subst e;exact zeT d (by rw[←f.1];exact f.2.1)
   ·exact g x b
 exact c r x b
def dt_of (b:HOk P w H h)(e:H a=some (.dT kvs)):kvs.length≤sizeLine∧(a == sysModules)=false ∧
  ∃ xs,KT H kvs xs∧h.DictOfH (tupleKind (zaJ P w)) a xs:=ze8 b (.inl e)
end
def zbi (H:Hp)(a:Addr)(y:V)(r:Option V):Prop :=
 (∃ kvs k,Rd H a (.dK kvs)∧y=kV k∧r=zam kvs k)∨∃ kvs k b,Rd H a (.dT kvs)∧y=.ref b∧H b=some (.tup (k.map kV))∧r=zam kvs k
def zdn (H:Hp)(a:Addr)(y v:V)(H':Hp):Prop :=
 (∃ kvs k,H a=some (.dK kvs)∧y=kV k∧kvs.length < sizeLine∧H'=upd H a (.dK (zav kvs k v))) ∨
 ∃ kvs k b,H a=some (.dT kvs)∧y=.ref b∧H b=some (.tup (k.map kV))∧kvs.length < sizeLine∧H'=upd H a (.dT (zav kvs k v))
def zbi.k {H:Hp}{a:Addr}{kvs:List (Key × V)}{k:Key}(e:H a=some (.dK kvs)):zbi H a (kV k) (zam kvs k):=.inl ⟨kvs,k,.inl e,rfl,rfl⟩
def zbi.t {H:Hp}{a b:Addr}{kvs:List (List Key × V)}{k:List Key}(e:H a=some (.dT kvs))(c:H b=some (.tup (k.map kV))):zbi H a (.ref b) (zam kvs k):=.inr ⟨kvs,k,b,.inl e,rfl,c,rfl⟩
def zdn.k {H:Hp}{a:Addr}{kvs:List (Key × V)}{k:Key}{v:V}(e:H a=some (.dK kvs))(b:kvs.length < sizeLine):zdn H a (kV k) v (upd H a (.dK (zav kvs k v))):=.inl ⟨kvs,k,e,rfl,b,rfl⟩
def zdn.t {H:Hp}{a b:Addr}{kvs:List (List Key × V)}{k:List Key}{v:V}(e:H a=some (.dT kvs))(d:H b=some (.tup (k.map kV)))(c:kvs.length < sizeLine) :
  zdn H a (.ref b) v (upd H a (.dT (zav kvs k v))):=.inr ⟨kvs,k,b,e,rfl,d,c,rfl⟩
section
variable {X:Cx} {pins:List (Addr × Obj)} {σ:St} {H:Hp} {s:Shared} {a:Addr} {y v:V} {u r:Value} {o:Option V} {A:Around} {E:Value→Shared→Prop}
def Inv.big (I:Inv X pins σ H s):sysModules < s.heap.objs.size:=by have h:mainGlobals < s.heap.objs.size:=(I.mod.glob.keeps I.bk).lt;exact Nat.lt_trans (by decide) h
def zlY (t:A.units+1 < cLine)(I:Inv X pins σ H s)(g:zbi H a y (some v))(q:aY y u)(h:∀ f s',Inv X pins σ H s'→aY v f→Q f s') :
  wpAny (model X.prog X.w) A (getItem (.ref a) u) Q E s:=by
 rcases g with ⟨kvs,k,e,n,l⟩ | ⟨kvs,k,b,e,n,C,l⟩
 ·subst n;obtain⟨z,B,vs,d,dd⟩:=ze9 I.hok e;obtain⟨f,i,c⟩:=zb2.some_of (v:=v) (o:=valueAt vs k) (by rw[l];exact d.val k);exact wpAny_getItem_of (zd3 q) dd.mapOf i (h f _ (I.tok _) c)
 ·subst n;cases (show u=Value.ref b from q);obtain⟨z,B,xs,d,dd⟩:=ze8 I.hok e;obtain⟨f,i,c⟩:=zb2.some_of (v:=v) (o:=(atKey xs k).map (·.2)) (by rw[l];exact d.val k);obtain⟨p,x,j⟩:=Option.map_eq_some_iff.mp i;refine wpAny_getItem_heap (tupleKind_room_in1 t) (zeT I.hok C) dd x ?_;rw[j];exact h f _ (I.tok _) c
def d_in (j:A.units+1 < cLine)(I:Inv X pins σ H s)(g:zbi H a y o)(i:aY y u)(h:∀ s',Inv X pins σ H s'→Q (.bool o.isSome) s') :
  wpAny (model X.prog X.w) A (compareOp .In u (.ref a)) Q E s:=by
 rcases g with ⟨kvs,k,e,f,l⟩ | ⟨kvs,k,b,e,f,n,l⟩
 ·subst f;obtain⟨z,d,vs,c,dd⟩:=ze9 I.hok e;refine wpAny_in_of (zd3 i) d dd.mapOf ?_;rw[←(c.val k).isSome_eq,←l];exact h _ (I.tok _)
 ·subst f;cases (show u=Value.ref b from i);obtain⟨z,d,xs,c,dd⟩:=ze8 I.hok e;refine wpAny_in_heap (tupleKind_room_in1 j) (zeT I.hok n) d dd ?_;have q:=(c.val k).isSome_eq;rw[Option.isSome_map]at q;rw[←q,←l];exact h _ (I.tok _)
def zof (j:A.units+1 < cLine)(I:Inv X pins σ H s)(g:zbi H a y o)(i:aY y u)(h:∀ s',Inv X pins σ H s'→Q (.bool (!o.isSome)) s') :
  wpAny (model X.prog X.w) A (compareOp .NotIn u (.ref a)) Q E s:=by
 rcases g with ⟨kvs,k,e,f,l⟩ | ⟨kvs,k,b,e,f,n,l⟩
 ·subst f;obtain⟨z,d,vs,c,dd⟩:=ze9 I.hok e;refine wpAny_notIn_of (zd3 i) d dd.mapOf ?_;rw[←(c.val k).isSome_eq,←l];exact h _ (I.tok _)
 ·subst f;cases (show u=Value.ref b from i);obtain⟨z,d,xs,c,dd⟩:=ze8 I.hok e;refine wpAny_notIn_heap (tupleKind_room_in1 j) (zeT I.hok n) d dd ?_;have q:=(c.val k).isSome_eq;rw[Option.isSome_map]at q;rw[←q,←l];exact h _ (I.tok _)
def ze0 (I:Inv X pins σ H s)(d:Mut (H a))(hs:Heap.SameBut a s.heap h')(f:∃ q,h'.get? a=some q)(c:zaz X.prog X.w (upd H a ob) h' a ob) :
  Inv X pins σ (upd H a ob) { s with heap:=h',toks:=t' } :=
 I.write (x:=a) (e:=a) d (.inl rfl) (λb q g z=>(hs.2 b g).trans z) f c
def zfF (z:kvs.length≤sizeLine)(c:(a == sysModules)=false)(b:KV kvs vs)(dd:h'.DictOf (zaJ P w) a vs) :
  zaz P w H' h' a (.dK kvs):=⟨z,c,vs,b,dd⟩
def zlX (G:A.units+1 < cLine)(I:Inv X pins σ H s)(g:zdn H a y v H')(B:aY y u)(C:aY v r)(h:∀ s',Inv X pins σ H' s'→Q () s') :
  wpAny (model X.prog X.w) A (setItem (.ref a) u r) Q E s:=by
 rcases g with ⟨kvs,k,e,t,l,x⟩ | ⟨kvs,k,b,e,t,F,l,x⟩
 ·subst t x;obtain⟨z,p,vs,d,dd⟩:=zge I.hok e;have j:vs.length≤sizeLine:=by rw[←d.length];exact z
  have n:(zav kvs k v).length≤sizeLine:=by have:=zdJ kvs k v;lia
  refine wpAny_setItem_pairs (hsz:=j) (zd3 B) dd λh' f hs=>h _ ?_;have J:∃ q,h'.get? a=some q:=let ⟨q,_,_,i,_⟩:=f;⟨q,i⟩;exact ze0 I (by rw[e];exact True.intro) hs J (zfF n p (d.put k C) f)
 ·subst t x;cases (show u=Value.ref b from B);obtain⟨z,p,xs,d,dd⟩:=dt_of I.hok e;have j:xs.length≤sizeLine:=by rw[←Paired.length d];exact z
  have n:(zav kvs k v).length≤sizeLine:=by have:=zdJ kvs k v;lia
  refine wpAny_setItem_heap (hsz:=j) (tupleKind_room_in1 G) (zeT I.hok F) dd λh' f hs=>h _ ?_;obtain⟨q,es,O,i,N,M,L,_,K⟩:=f;refine ze0 I (by rw[e];exact True.intro) hs ⟨q,i⟩ ⟨n,p,_,(d.put k F C).keeps λc ys D=>?_,q,es,O,i,N,M,L,K⟩;rw[ag (zdc D e (λz=>nomatch z))];exact D
end
section
variable {X:Cx} {pins:List (Addr × Obj)} {σ:St} {H:Hp} {s:Shared} {a:Addr} {kvs:List (Key × V)} {k:Key} {u:Value} {A:Around} {E:Value→Shared→Prop}
def d_pop (I:Inv X pins σ H s)(e:H a=some (.dK kvs))(f:aY (kV k) u)(l:zam kvs k=some v)(j:more=[]∨∃ x,more=[x])
  (h:∀ c s',Inv X pins σ (upd H a (.dK (zbs kvs k))) s'→aY v c→Q c s'):wpAny (model X.prog X.w) A (call (.builtin "dict.pop") (.ref a :: u :: more)) Q E s:=by
 obtain⟨z,y,vs,b,dd⟩:=zge I.hok e;obtain⟨c,n,g⟩:=zb2.some_of (v:=v) (o:=valueAt vs k) (by rw[←l];exact b.val k);have p:(keyPart u).isSome=true:=by
  cases k with
  | inl i=>obtain⟨t,q⟩:=(show ∃ t,u=Value.int i t from f);subst q;rfl
  | inr x=>obtain⟨t,q⟩:=(show ∃ t,u=Value.str x t from f);subst q;rfl
 have B:argsOk "dict.pop" ⟨.ref a :: u :: more,[]⟩:=by
  rcases j with q | ⟨x,q⟩
  ·subst q;exact PySem.F.args_dict_pop_2 _ _
  ·subst q;exact PySem.F.args_dict_pop_3 _ _ _
 refine call_meetsIn PySem.F.slot_dict_pop dd.typeIs PySem.F.entry_dict_pop B (meets_dict_pop_there (zaJ X.prog X.w) a (zd3 f) more j p)
  ⟨vs,c,dd,by rw[←b.length];exact z,n,λh' d hs=>h c _ ?_ g⟩
 have r:∃ q,h'.get? a=some q:=let ⟨q,_,_,hq,_⟩:=d;⟨q,hq⟩;exact ze0 I (by rw[e];exact True.intro) hs r (zfF (Nat.le_trans (zna kvs k) z) y (b.drop k) d)
end
def NoSl (i:Expr):Prop:=∀ a b,subscripted i false a b=operate [a,b] (getItem a b)
def znp {prog:Program}{w:World}{A:Around}{E:Value→Shared→Prop}{s:Shared}{env:Env}{b a:Expr}{l:Pos}{T id:String}{Q:Value→Shared→Prop}
  (p:typeLookup (.type T) "__getitem__"=pure (some (.builtin id)))(hs:NoSl a)
  (h:wpAny (model prog w) A (eval b env) (λo f=>wpAny (model prog w) A (eval a env) (λi c=>c.TypeIs o T∧wpAny (model prog w) A (getItem o i) Q E c) E f) E s) :
  wpAny (model prog w) A (eval (.Subscript b a l) env) Q E s:=by
 refine Subscript_ (wpAny_mono h (λo f k=>wpAny_mono k (λi c d=>?_) λ_ _ x=>x) λ_ _ x=>x);obtain⟨n,d⟩:=d;unfold subscriptTail;refine wpAny_bind ?_;rw[getitemInPython_of_ne n.not_modules];refine wpAny_bind (wpAny_specialOf n p ?_);have g:wpAny (model prog w) A (subscripted a false o i) (λr e=>wpAny (model prog w) A (letTemporaryGo b o r >>= λ_=>pure r) Q E e) E c:=by rw[hs o i];exact wpAny_operating (wpAny_mono d (λr e j=>wpAny_bind (wpAny_letTemporaryGo (wpAny_pure j))) λ_ _ x=>x)
 first
  | exact wpAny_pure (wpAny_bind g)
  | exact wpAny_bind (wpAny_pure (wpAny_bind g))
  | exact wpAny_bind g
def zjD (I:Inv X pins σ H s)(g:zbi H a y o):s.TypeIs (.ref a) "dict":=by
 rcases g with ⟨kvs,k,e,_,_⟩ | ⟨kvs,k,b,e,_,_,_⟩
 ·obtain⟨_,_,vs,_,dd⟩:=ze9 I.hok e;exact dd.typeIs
 ·obtain⟨_,_,xs,_,dd⟩:=ze8 I.hok e;exact dd.typeIs
def tDGet (d ty:TE):TE:=λb H Q=>d b H λx e=>ty b e λy c=>∃ a v,x=.ref a∧zbi c a y (some v)∧Q v c
def tDIn (ty d:TE):TE:=λb H Q=>ty b H λy e=>d b e λx c=>∃ a o,x=.ref a∧zbi c a y o∧Q (.bl o.isSome) c
def zno (ty d:TE):TE:=λb H Q=>ty b H λy e=>d b e λx c=>∃ a o,x=.ref a∧zbi c a y o∧Q (.bl (!o.isSome)) c
def sDPut (e ty d:TE):TS:=λD b H=>d b H λv h=>e b h λx g=>ty b g λy f=>∃ a c,x=.ref a∧zdn f a y v c∧D.nx b c
section
variable {X:Cx} {o i e value:Expr} {pos pos' tpos:Pos} {td ty tv:TE}
def zdu (p:X.A.units+1 < cLine)(q:PE X o td)(r:PE X i ty)(hs:NoSl i):PE X (.Subscript o i pos) (tDGet td ty):=by intro b s d H Q I h;refine znp PySem.F.slot_dict_getitem.lookup hs (thn (q b s d H _ I h) λu j ⟨x,C,z,l,q1⟩=>thn (r b j d C _ z q1) λJ G ⟨y,B,f,k,a,v,t,g,n⟩=>?_);subst t;obtain rfl:u=Value.ref a:=l;exact⟨zjD f g,zlY p f g k λD E w c=>⟨v,B,w,c,n⟩⟩
def zfC (n:X.A.units+1 < cLine)(q:PE X i ty)(p:PE X o td):PC X .In i o (tDIn ty td):=by intro b s c H Q I h;refine thn (q b s c H _ I h) λE d ⟨y,B,w,f,q1⟩=>thn (p b d c B _ w q1) λu D ⟨x,z,v,j,a,l,r,g,k⟩=>?_;subst r;obtain rfl:u=Value.ref a:=j;exact d_in n v g f λC t=>⟨.bl l.isSome,z,t,rfl,k⟩
def zdO (n:X.A.units+1 < cLine)(q:PE X i ty)(p:PE X o td):PC X .NotIn i o (zno ty td):=by intro b s c H Q I h;refine thn (q b s c H _ I h) λE d ⟨y,B,w,f,q1⟩=>thn (p b d c B _ w q1) λu D ⟨x,z,v,j,a,l,r,g,k⟩=>?_;subst r;obtain rfl:u=Value.ref a:=j;exact zof n v g f λC t=>⟨.bl (!l.isSome),z,t,rfl,k⟩
def zdr (t:X.A.units+1 < cLine)(w:PE X o td)(z:PE X i ty)(q:PE X value tv)(hs:swapsWith value (some (.Subscript o i pos')) pos.line X.env=pure false) :
  PS X (.Assign [.Subscript o i pos'] value pos) (sDPut td ty tv):=by intro b s c H D I h;refine wpAny_Assign_Subscript (thn (q b s c H _ I h) λr f ⟨v,L,G,l,q1⟩=>thn (w b f c L _ G q1) λu d ⟨x,K,F,k,p⟩=>thn (z b d c K _ F p) λO N ⟨y,P,E,j,a,J,B,g,n⟩=>?_) hs;subst B;obtain rfl:u=Value.ref a:=k;exact zlX t E g j l λM C=>⟨c,J,C,n⟩
end
def znb (h:Heap)(a:sysModules < h.objs.size):zaz P w H (h.push { cls:=.type "dict",data:=.dict #[] }) h.objs.size (.dK []) :=
 ⟨Nat.zero_le _,beq_eq_false_iff_ne.mpr (Ne.symm (Nat.ne_of_lt a)),[],.nil,Heap.DictOf.new h⟩
def tDNewK:TE:=λ_ H Q=>∀ p,H p=none→Q (.ref p) (upd H p (.dK []))
section
variable {X:Cx} {pos:Pos}
def zbO:PE X (.Dict [] [] pos) tDNewK:=λb s c H Q I h =>
 wpAny_Dict_empty ⟨.ref s.heap.objs.size,_,I.laid (a:=s.heap.objs.size) (o:=.dK []) (t':=s.toks) (λ_ _ q=>hG _ q) (nRq _) (znb s.heap I.big),rfl,h _ (I.hok.fresh (nRq _))⟩
end
def zaf (kvs a:List (Key × V)):List (Key × V):=a.foldl (λacc b=>zav acc b.1 b.2) kvs
def KV.merge:∀ {a:List (Key × V)} {rs:List (Key × Value)} {kvs:List (Key × V)} {vs:List (Key × Value)},KV a rs→KV kvs vs→KV (zaf kvs a) (merged vs rs):=by
 intro a rs kvs vs r;unfold KV at r
 induction r generalizing kvs vs with
 | nil=>intro q;exact q
 | @cons p q ps d h t c =>
  intro b;have e:KV (zav kvs p.1 p.2) (stored vs q.1 q.2):=by have:=b.put p.1 h.2;rw[←h.1];exact this
  exact c e
def zfy:∀(a kvs:List (Key × V)),(zaf kvs a).length≤kvs.length+a.length
 | [],kvs=>by show kvs.length≤kvs.length+0;lia
 | p :: r,kvs=>by have c:=zfy r (zav kvs p.1 p.2);have b:=zdJ kvs p.1 p.2;show(zaf (zav kvs p.1 p.2) r).length≤_;rw[List.length_cons];lia
structure M1 (X:Cx)(o:Expr)(m:Str)(apos:Pos)(e:Expr)(cpos:Pos):Prop where
 base:attributeBase o m X.env (eval o X.env)=eval o X.env
 few:((backTo cpos (starEach [e] X.env)).all (λx=>!x.1)&&(backToKw cpos (keywordEach [] X.env)).all (λx=>x.1.isSome)
  && decide (([e]:List Expr).length+([]:List Keyword).length+(if([]:List Keyword).isEmpty then 0 else 1) < 30))=true
 line:(apos.endLine == cpos.line)=true
 trees:backTo cpos (starEach [e] X.env)=[(false,eval e X.env)]
structure M2 (X:Cx)(o:Expr)(m:Str)(apos:Pos)(e f:Expr)(cpos:Pos):Prop where
 base:attributeBase o m X.env (eval o X.env)=eval o X.env
 few:((backTo cpos (starEach [e,f] X.env)).all (λx=>!x.1)&&(backToKw cpos (keywordEach [] X.env)).all (λx=>x.1.isSome)
  && decide (([e,f]:List Expr).length+([]:List Keyword).length+(if([]:List Keyword).isEmpty then 0 else 1) < 30))=true
 line:(apos.endLine == cpos.line)=true
 trees:backTo cpos (starEach [e,f] X.env)=[(false,eval e X.env),(false,eval f X.env)]
def IsD (H:Hp)(a:Addr):Prop:=(∃ kvs,Rd H a (.dK kvs))∨∃ kvs,Rd H a (.dT kvs)
def ziR (I:Inv X pins σ H s)(d:IsD H a) :
  s.TypeIs (.ref a) "dict"∧(∀ b,Value.ref a=.ref b→∃ c,s.heap.get? b=some c∧c.dict=none)∧(a == sysModules)=false:=by
 rcases d with ⟨kvs,e⟩ | ⟨kvs,e⟩
 ·obtain⟨_,f,vs,_,dd⟩:=ze9 I.hok e;refine⟨dd.typeIs,λb q=>?_,f⟩;cases q;obtain⟨c,_,_,h,g,_⟩:=dd;exact⟨c,h,g.2.1⟩
 ·obtain⟨_,f,xs,_,dd⟩:=ze8 I.hok e;refine⟨dd.typeIs,λb q=>?_,f⟩;cases q;obtain⟨c,_,_,h,g,_⟩:=dd;exact⟨c,h,g.2.1⟩
section
variable {X:Cx} {pins:List (Addr × Obj)} {σ:St} {H:Hp} {s:Shared} {a:Addr} {y d:V} {u r:Value} {o:Option V} {A:Around} {E:Value→Shared→Prop}
def d_get2 (q:A.units+1 < cLine)(I:Inv X pins σ H s)(g:zbi H a y o)(n:aY y u)(p:aY d r)(h:∀ j s',Inv X pins σ H s'→aY (o.getD d) j→Q j s') :
  wpAny (model X.prog X.w) A (call (.builtin "dict.get") [.ref a,u,r]) Q E s:=by
 rcases g with ⟨kvs,k,e,i,l⟩ | ⟨kvs,k,b,e,i,t,l⟩
 ·subst i;obtain⟨z,f,vs,c,dd⟩:=ze9 I.hok e;refine call_meetsIn PySem.F.slot_dict_get dd.typeIs PySem.F.entry_dict_get (PySem.F.args_dict_get_3 _ _ _) (meets_dict_get_default (zaJ X.prog X.w) a (zd3 n) f r) ⟨_,dd.mapOf,h _ _ (I.tok _) ?_⟩;rw[l];exact(c.val k).getD p
 ·subst i;cases (show u=Value.ref b from n);obtain⟨z,f,xs,c,dd⟩:=ze8 I.hok e;refine call_meetsIn PySem.F.slot_dict_get dd.typeIs PySem.F.entry_dict_get (PySem.F.args_dict_get_3 _ _ _) (meetsH_dict_get_default (tupleKind (zaJ X.prog X.w)) a b f r) ⟨tupleKind_room_in1 q,k,xs,zeT I.hok t,dd,h _ _ (I.tok _) ?_⟩;rw[l];exact(c.val k).getD p
end
def tDGet2 (f ty e:TE):TE:=λb H Q=>f b H λx d=>∃ a,x=.ref a∧IsD d a∧ty b d λy g=>e b g λz c=>∃ o,zbi c a y o∧Q (o.getD z) c
def tDPop1 (e ty:TE):TE:=λb H Q=>e b H λx d=>∃ a,x=.ref a∧IsD d a∧ty b d λy c=>∃ kvs k v,c a=some (.dK kvs)∧y=kV k∧zam kvs k=some v∧Q v (upd c a (.dK (zbs kvs k)))
section
variable {X:Cx} {o e f:Expr} {apos cpos:Pos} {td ty tx:TE}
def zja (B:X.A.units+1 < cLine)(C:PE X o td)(D:PE X e ty)(hf:PE X f tx)(m:M2 X o "get" apos e f cpos):PE X (.Call (.Attribute o "get" apos) [e,f] [] cpos) (tDGet2 td ty tx):=by
 intro b s c H Q I h;refine wpAny_Call_method m.base m.few m.line PySem.F.plainAttrs_dict PySem.F.slot_dict_get PySem.F.type_dict_get (thn (C b s c H _ I h) λu p ⟨x,N,j,t,a,E,d,q1⟩=>?_);subst E;obtain rfl:u=Value.ref a:=t;obtain⟨l,k,_⟩:=ziR j d;refine⟨l,k,?_⟩;rw[m.trees];refine Calls.callWith_builtin rfl (Calls.evalArgs_plain (Calls.spliced_cons (thn (D b p c N _ j q1) λT n ⟨y,M,K,r,w⟩ =>
  Calls.spliced_cons (thn (hf b n c M _ K w) λfv R ⟨z,L,J,q,S,g,v⟩=>Calls.spliced_nil ?_))))
 exact d_get2 B J g r q λO P G i=>⟨_,L,G,i,v⟩
def zi9 (w:PE X o td)(z:PE X e ty)(m:M1 X o "pop" apos e cpos):PE X (.Call (.Attribute o "pop" apos) [e] [] cpos) (tDPop1 td ty):=by intro b s g H Q I h;refine wpAny_Call_method m.base m.few m.line PySem.F.plainAttrs_dict PySem.F.slot_dict_pop PySem.F.type_dict_pop (thn (w b s g H _ I h) λu p ⟨x,E,i,r,a,B,d,q1⟩=>?_);subst B;obtain rfl:u=Value.ref a:=r;obtain⟨n,j,_⟩:=ziR i d;refine⟨n,j,?_⟩;rw[m.trees];refine Calls.callWith_builtin rfl (Calls.evalArgs_plain (Calls.spliced_cons (thn (z b p g E _ i q1) λL K ⟨y,M,D,q,kvs,k,v,ea,A,l,t⟩=>Calls.spliced_nil ?_)));subst A;exact d_pop D ea q l (.inl rfl) λG J C c=>⟨v,_,C,c,t⟩
end
def zjA (kvs a:List (Key × V))(b:Key × V):zaf kvs (a++[b])=zav (zaf kvs a) b.1 b.2:=by unfold zaf;rw[List.foldl_append];rfl
def zji {kvs:List (Key × V)}{ks:Nat→Key}{vals:Nat→Value}:∀ n,n≤kvs.length→(∀ i a,i < n→kvs[i]?=some a→a.1=ks i∧aY a.2 (vals i))→KV (zaf [] (kvs.take n)) (zcg ks vals n)
 | 0,_,_=>.nil
 | n+1,c,h=>by have b:kvs[n]?=some kvs[n]:=gG c;obtain⟨e,d⟩:=h n _ (Nat.lt_succ_self n) b;rw[zey,zan b,zjA,←e];exact KV.put (zji n (by lia) λi a f=>h i a (by lia)) _ d
section
variable {X:Cx}
def zgc (hc:X.calm=true):zbt X (.type "dict") (λxs H Q=>∃(p:Addr) (ys:List V) (kvs:List (Key × V)),xs=[.ref p]∧SqL X.K H p ys∧ys.length=kvs.length∧(∀(i:Nat) y c,ys[i]?=some y→kvs[i]?=some c→∃ a,y=.ref a∧SqT X.K H a [kV c.1,c.2]) ∧
  ∀ d,H d=none→Q (.ref d) (upd H d (.dK (zaf [] kvs)))):=by
 intro G s σ H xs us Q I r h;obtain⟨p,ys,kvs,rfl,Y,k,hT,q⟩:=h;obtain⟨u,rfl,P⟩:=zcx r;cases (show u=Value.ref p from P);obtain⟨b,v,⟨o,n,Z,F,E,l⟩,hz⟩:=I.list Y;have hl:b.length=kvs.length:=by rw[←k,v.length]
 have ex:∀ i:Nat,∃ t:Addr × Key × Value × Value,i < b.length→b[i]?=some (.ref t.1)∧s.heap.IsTuple t.1 #[t.2.2.1,t.2.2.2]∧(zaJ X.prog X.w).is t.2.1 t.2.2.1=true∧∀ c,kvs[i]?=some c→c.1=t.2.1∧aY c.2 t.2.2.2:=λi=>by
  by_cases x:i < b.length
  ·have C:ys[i]?=some ys[i]:=gG (by have:=v.length;lia);have J:kvs[i]?=some kvs[i]:=gG (by lia);obtain⟨a,ea,ha⟩:=hT i _ _ C J;rw[ea]at C;obtain⟨M,B,A⟩:=v.get C;cases (show M=Value.ref a from A);obtain⟨W,R,U,_⟩:=I.tuple ha;obtain⟨O,N,rfl,T,S⟩:=zg4 R;exact⟨(a,kvs[i].1,O,N),λ_=>⟨B,U,zd3 T,λc e=>by rw[J]at e;cases e;exact⟨rfl,S⟩⟩⟩
  ·exact⟨(0,.inl 0,.none,.none),λz=>absurd z x⟩
 obtain⟨f,hf⟩:=Classical.axiomOfChoice ex;refine zhX (knd:=zaJ X.prog X.w) (Ts:=λi=>(f i).1) (keys:=λi=>(f i).2.2.1) (vals:=λi=>(f i).2.2.2) (ks:=λi=>(f i).2.1) (I.ok.hd hc) Z F E l ?_ (λi x=>?_) λh' tk j L=>?_
 ·have:=v.length;simp only[sA];lia
 ·have D:i < b.length:=by simpa using x
  obtain⟨B,A,e3,_⟩:=hf i D;exact⟨by simpa using B,A,e3⟩
 ·have g:=zji (kvs:=kvs) (ks:=λi=>(f i).2.1) (vals:=λi=>(f i).2.2.2) kvs.length (nRq _) λi c x e=>(hf i (by lia)).2.2.2 c e;rw[tO (nRq _)]at g;have es:b.toArray.size=kvs.length:=by simp only[sA];exact hl
  rw[es]at L;have z:(zaf [] kvs).length≤sizeLine:=by have B:=g.length;have A:=zeO (λi=>(f i).2.1) (λi=>(f i).2.2.2) kvs.length;lia
  exact⟨.ref s.heap.objs.size,upd H s.heap.objs.size (.dK (zaf [] kvs)),I.laid (a:=s.heap.objs.size) (o:=.dK (zaf [] kvs)) (t':=tk) j (nRq _) (zfF z (beq_eq_false_iff_ne.mpr (Ne.symm (Nat.ne_of_lt I.big))) g L),rfl,q _ (I.hok.fresh (nRq _))⟩
def zhY (J:X.calm=true):zbt X (.builtin "any") (λxs H Q=>∃(p:Addr) (bs:List Bool),xs=[.ref p]∧SqL X.K H p (bs.map V.bl)∧Q (.bl (bs.any id)) H):=by
 intro l s N H xs us Q I r h;obtain⟨p,bs,rfl,B,q⟩:=h;obtain⟨u,rfl,w⟩:=zcx r;cases (show u=Value.ref p from w);obtain⟨a,k,pl,P⟩:=I.list B;have F:=k.length;rw[lM]at F;have C:p < s.heap.objs.size:=by obtain⟨o,D,_⟩:=pl.isList;exact hLq D
 have j:p≠s.heap.objs.size:=Nat.ne_of_lt C;refine call_any_walk (wpAny_pyIter_list pl.isList ?_);refine⟨s.heap.objs.size,[s.heap.objs.size,p],[s.heap.objs.size],a.toArray.size,_,_,λi=>bs.getD i true,rfl,Walks.list (show X.A.in1.handled=none from I.ok.hd J) _ p j a.toArray,⟨⟨_,Heap.get?_push_size _ rfl,rfl,rfl⟩,pl.isList.push _⟩,?_,λh' tk G=>?_⟩
 ·intro i v s' R S z L;have d:a[i]?=some v:=by simpa using z
  have g:i < a.length:=(gEq d).1;have c:bs[i]?=some (bs.getD i true):=by rw[List.getD_eq_getElem?_getD,gG (by lia)];rfl
  obtain⟨O,t,M⟩:=k.get (i:=i) (x:=.bl (bs.getD i true)) (by rw[List.getElem?_map,c];rfl);rw[d]at t;cases t;cases (show v=Value.bool _ from M);exact wpAny_truthy_bool L
 ·have e:(List.range a.toArray.size).any (λi=>bs.getD i true)=bs.any id:=by
   rw[Bool.eq_iff_iff,List.any_eq_true,List.any_eq_true];constructor
   ·rintro ⟨i,g,c⟩;have f:i < bs.length:=by have:=List.mem_range.mp g;simp only[sA]at this;lia
    rw[List.getD_eq_getElem?_getD,gG f]at c;exact⟨bs[i],List.getElem_mem f,c⟩
   ·rintro ⟨x,y,c⟩;obtain⟨i,g,rfl⟩:=List.mem_iff_getElem.mp y;refine⟨i,List.mem_range.mpr (by simp only[sA];lia),?_⟩;rw[List.getD_eq_getElem?_getD,gG g];exact c
  refine⟨.bl (bs.any id),H,I.kept (t':=tk) λb o n=>G b o ?_ (hG _ n),congrArg Value.bool e,q⟩;intro E;have:b=s.heap.objs.size:=by simpa using E
  exact absurd (hLq n) (by rw[this];exact Nat.lt_irrefl _)
end
def zbe (r:List Int):Dt:=.tup (r.map Dt.int)
def zgW:∀ ns:List Int,zaP (ns.map Dt.int)=true
 | []=>by simp [zaP]
 | n :: ns=>by simp only[List.map_cons,zaP,nol,Bool.true_and];exact zgW ns
def zes:∀ ns:List Int,zaQ (ns.map Dt.int)=0
 | []=>by simp [zaQ]
 | n :: ns=>by simp only[List.map_cons,zaQ,dep,zes ns];rfl
def zmV (r:List Int):nol (zbe r)=true:=by simp only[zbe,nol,zgW]
def znc (r:List Int):dep (zbe r)=1:=by simp only[zbe,dep,zes]
def zar:∀ Rs:List (List Int),zaP (Rs.map zbe)=true
 | []=>by simp [zaP]
 | t :: T=>by simp only[List.map_cons,zaP,zmV,Bool.true_and];exact zar T
def zii:∀ Rs:List (List Int),zaQ (Rs.map zbe)≤1
 | []=>by simp [zaQ]
 | t :: T=>by have h:=zii T;simp only[List.map_cons,zaQ,znc];lia
def zjm {K:W.Frag}{H:Hp}{r:List Int}{x:V}(h:Has K H (zbe r) x):∃ q,x=.ref q∧SqT K H q (r.map V.int):=by unfold zbe at h;simp only[Has]at h;obtain⟨a,xs,rfl,hs,b⟩:=h;rw[zf1 b]at hs;exact⟨a,rfl,hs⟩
def zeY {K:W.Frag}{H:Hp}{r:List Int}{q:Addr}(h:SqT K H q (r.map V.int)):Has K H (zbe r) (.ref q):=Has.tup' h (aq.ints r)
def zjP {K:W.Frag}{H:Hp}{Rs:List (List Int)}{xs:List V}{i:Nat}{x:V}(h:aq K H (Rs.map zbe) xs)(e:xs[i]?=some x):∃ r q,Rs[i]?=some r∧x=.ref q∧SqT K H q (r.map V.int):=by
 obtain⟨d,a,c⟩:=h.get e;rw[List.getElem?_map]at a;cases q:Rs[i]? with
 | none=>rw[q]at a;cases a
 | some t =>
  rw[q]at a;cases a;obtain⟨p,rfl,b⟩:=zjm c;exact⟨t,p,rfl,rfl,b⟩
def zmo {K:W.Frag}{H:Hp}{Rs:List (List Int)}{xs:List V}{i:Nat}{r:List Int}(h:aq K H (Rs.map zbe) xs)(e:Rs[i]?=some r):∃ q,xs[i]?=some (.ref q)∧SqT K H q (r.map V.int):=by obtain⟨v,c,b⟩:=h.getD (i:=i) (d:=zbe r) (by rw[List.getElem?_map,e];rfl);obtain⟨p,rfl,a⟩:=zjm b;exact⟨p,c,a⟩
def SqInt (K:W.Frag)(H:Hp)(q:Addr)(ps:List Int):Prop:=SqL K H q (ps.map V.int)∨SqT K H q (ps.map V.int)
def zaW {ps:List Int}{i:Nat}{x:V}(h:(ps.map V.int)[i]?=some x):∃ k,ps[i]?=some k∧x=.int k:=by
 rw[List.getElem?_map]at h;cases e:ps[i]? with
 | none=>rw[e]at h;cases h
 | some k =>
  rw[e]at h;exact⟨k,rfl,(Option.some.inj h).symm⟩
def zb7 (n:Int):∀ ps:List Int,inV (.int n) (ps.map V.int)=decide (n∈ps)
 | []=>by simp [inV]
 | p :: ps=>by
  have a:=zb7 n ps;unfold inV at a ⊢;rw[List.map_cons,List.any_cons,a];show(p == n||decide (n∈ps))=decide (n∈p :: ps);by_cases e:p=n
  ·subst e;simp
  ·have b:¬n=p:=λz=>e z.symm;simp [e,b]
def zc6 (ps:List Int):(ps.map V.int).all zdF=true:=by rw[List.all_eq_true];intro x a;obtain⟨n,_,rfl⟩:=List.mem_map.mp a;rfl
def zaF:List Int→List Int→List Int
 | acc,[]=>acc
 | acc,p :: ps=>zaF (if p∈acc then acc else acc++[p]) ps
structure Dset (H:Hp)(d:Addr)(hs:List Int):Prop where
 ex:∃ kvs:List (Key × V),H d=some (.dK kvs)∧(∀ n:Int,(zam kvs (Sum.inl n)).isSome=decide (n∈hs))∧kvs.length≤hs.length
def zfi (kvs:List (Key × V))(k:Key)(v:V):(zav kvs k v).length≤kvs.length+1:=by
 unfold zav;split
 ·rw[lM];lia
 ·rw[lAq];simp
def zlk (kvs:List (Key × V))(n m:Int)(v:V):(zam (zav kvs (Sum.inl n) v) (Sum.inl m)).isSome=(decide (m=n)||(zam kvs (Sum.inl m)).isSome):=by
 rw[zem];by_cases e:m=n
 ·rw[if_pos (by rw[e]),dTq e];rfl
 ·rw[if_neg (λz=>e (by injection z)),dFq e,Bool.false_or]
def tkv (ps:List Int):List (Key × V):=ps.map λp=>(Sum.inl p,V.bl true)
def zha:∀ ps:List Int,(∀ n:Int,(zam (zaf [] (tkv ps)) (Sum.inl n)).isSome=decide (n∈ps))∧(zaf [] (tkv ps)).length≤ps.length:=by
 intro ps
 suffices h:∀(kvs:List (Key × V)) (hs:List Int),(∀ n:Int,(zam kvs (Sum.inl n)).isSome=decide (n∈hs))→kvs.length≤hs.length→(∀ n:Int,(zam (zaf kvs (tkv ps)) (Sum.inl n)).isSome=decide (n∈hs++ps))∧(zaf kvs (tkv ps)).length≤(hs++ps).length by have:=h [] [] (λn=>by simp [zmd]) (nRq _);simpa using this
 induction ps with
 | nil=>intro kvs hs a b;simpa [tkv,zaf] using ⟨a,b⟩
 | cons p ps c =>
  intro kvs hs a b;have e:zaf kvs (tkv (p :: ps))=zaf (zav kvs (Sum.inl p) (.bl true)) (tkv ps):=rfl;rw[e,show hs++p :: ps=(hs++[p])++ps by simp];refine c _ _ (λn=>?_) ?_
  ·rw[zlk,a];by_cases e:n=p
   ·subst e;simp
   ·simp [e]
  ·have:=zfi kvs (Sum.inl p) (.bl true);rw[lAq];simp only[lS];lia
def nf (b a:List Int):List Int:=zaF [] (b.filter λp=>decide (-p∉a))
def aS (Rs:List (List Int))(h:Int):List Int:=Rs.getD h.toNat []
def zog (a:Nat→Int):∀ k,argBest (λi j=>decide (a i < a j)) k≤k∧∀ i,i≤k→a (argBest (λi j=>decide (a i < a j)) k)≤a i
 | 0=>⟨nRq _,λi c=>by
   have e:i=0:=by lia
   subst e;exact Int.le_refl _⟩
 | k+1=>by
  obtain⟨f,d⟩:=zog a k;unfold argBest;by_cases e:a (k+1) < a (argBest (λi j=>decide (a i < a j)) k)
  ·rw[if_pos (dTq e)];refine⟨nRq _,λi c=>?_⟩;by_cases b:i=k+1
   ·rw[b];exact Int.le_refl _
   ·have:=d i (by lia);lia
  ·rw[if_neg (λz=>e (oDq z))];refine⟨by lia,λi c=>?_⟩;by_cases b:i=k+1
   ·rw[b];lia
   ·exact d i (by lia)
def zkh (a:Nat→Int):∀ k,argBest (λi j=>decide (a i > a j)) k≤k∧∀ i,i≤k→a i≤a (argBest (λi j=>decide (a i > a j)) k)
 | 0=>⟨nRq _,λi c=>by
   have e:i=0:=by lia
   subst e;exact Int.le_refl _⟩
 | k+1=>by
  obtain⟨f,d⟩:=zkh a k;unfold argBest;by_cases e:a (k+1) > a (argBest (λi j=>decide (a i > a j)) k)
  ·rw[if_pos (dTq e)];refine⟨nRq _,λi c=>?_⟩;by_cases b:i=k+1
   ·rw[b];exact Int.le_refl _
   ·have:=d i (by lia);lia
  ·rw[if_neg (λz=>e (oDq z))];refine⟨by lia,λi c=>?_⟩;by_cases b:i=k+1
   ·rw[b];lia
   ·exact d i (by lia)
def zm7 {ns:List Int}{i:Nat}(h:i < ns.length):ns.getD i 0∈ns:=by rw[List.getD_eq_getElem?_getD,gG h];exact List.getElem_mem h
def zmX {ns:List Int}{n:Int}(h:n∈ns):∃ i,i < ns.length∧ns.getD i 0=n:=by obtain⟨i,a,e⟩:=List.mem_iff_getElem.mp h;exact⟨i,a,by rw[List.getD_eq_getElem?_getD,gG a];exact e⟩
section
variable {X:Cx}
def zhu {ns:List Int}{a:List Value}(c:aQ (ns.map V.int) a):∀(i:Nat) (v:Value),a.toArray[i]?=some v→∃ t,v=.int (ns.getD i 0) t:=λi v e=>by
 have b:a[i]?=some v:=by simpa using e
 have k:i < a.length:=(gEq b).1;have f:=c.length;rw[lM]at f;have g:ns[i]?=some (ns.getD i 0):=by rw[List.getD_eq_getElem?_getD,gG (by lia)];rfl
 obtain⟨j,d,h⟩:=c.get (i:=i) (x:=.int (ns.getD i 0)) (by rw[List.getElem?_map,g];rfl);rw[b]at d;cases d;exact h
end
def Inv.turnedLaid {X:Cx}{d:List (Addr × Obj)}{r:St}{H:Hp}{s:Shared}{h':Heap}{j:List Addr}{a:Addr}{o:HO}{t':Nat}(I:Inv X d r H s)(hf:∀ b∈j,zbS X d H b)(k:∀ b u,b∉j→s.heap.get? b=some u→h'.get? b=some u)(t:s.heap.objs.size≤a)(l:zaz X.prog X.w (upd H a o) h' a o) :
  Inv X d r (upd H a o) { s with heap:=h',toks:=t' }:=by
 have i:=I.hok.fresh t;have g:∀ b u,H b=some u→b∉j:=λb u e z=>by rw[(hf b z).1]at e;cases e
 have x:Un (frs X.stack) j H (upd H a o) s.heap h':=⟨λb u q _ _ h=>k b u h q,λb u q _ _ h=>⟨u.slots,k b u h q⟩,λb u q n _=>by rw[ag (Nat.ne_of_lt (Nat.lt_of_lt_of_le (hLq q) t))];exact n,
  λb u q h=>⟨u,k b u h q⟩,λb xs q=>by rw[ag (zad q i)];exact q,λb u xs q=>by rw[ag (zad q i)];exact q,λb ps q=>⟨#[],by rw[ag (zad q i),q];simp⟩⟩
 have p:HOk X.prog X.w (upd H a o) h':=λb u e=>by
  by_cases f:b=a
  ·subst f;rw[af]at e;cases e;exact l
  ·rw[ag f]at e;refine(I.hok b u e).stay (λc v y q=>k c v ?_ q) (λc q=>by rw[ag (zad q i)];exact q) λc xs q=>by rw[ag (zad q i)];exact q
   rcases y with z | z
   ·rw[z];exact g b u e
   ·exact g c _ z
 exact I.call (g':=s.gens) (d':=s.drawn) (ch:=j) x p I.bare λb f=>⟨(hf b f).2.2.2.1,(hf b f).2.1,(hf b f).2.2.2.2.1,(hf b f).2.2.2.2.2⟩
def Ite (K:W.Frag)(a:Addr):It :=
 ⟨λi H=>∃ xs x,SqL K H a xs∧xs[i]?=some x,λi H x H'=>∃ p y,x=.ref p∧H p=none∧H'=upd H p (.tup [.int i,y])∧∀ xs,SqL K H a xs→xs[i]?=some y,λi H=>∃ xs,SqL K H a xs∧xs.length≤i⟩
def zgf {K:W.Frag}{a:Addr}{xs:List V}:Wk (Ite K a) xs.length (λH=>SqL K H a xs):=⟨λ_ _ h b=>⟨xs,h,b⟩,λi _ h b=>⟨xs,xs[i],h,by simp [b]⟩⟩
def zll {P:Program}{w:World}{K:W.Frag}{A:List Expr}{x1:Nat}{G:Pos}(a e it:Addr)(r:e≠it):zee P w K (.Tuple A x1 G) (Ite K a) [e,it] e (λi h=>(∃ c,IsEnum h e it ((i:Nat):Int) c)∧h.IsListIter it a i) where
 mem:=by simp
 obj:=λi h st b d=>by
  obtain⟨⟨c,g⟩,o,Q,U,hd⟩:=st;rcases List.mem_cons.mp d with rfl | d
  ·exact⟨_,g,λv z=>by have z':Data.fields _=Data.cell v:=z;cases z'⟩
  ·have e':=mS d;subst e';exact⟨o,Q,λv z=>by rw[hd]at z;cases z⟩
 keep:=λi h h' st k=>⟨by obtain⟨c,g⟩:=st.1;exact⟨c,k e (by simp) _ g⟩,st.2.at λo q=>k it (by simp) o q⟩
 item:=by
  intro X hP N hK U i l s σ H E I hf st S;subst hP N hK;obtain⟨xs,x,B,M⟩:=S;obtain⟨L,F,p,hz⟩:=I.list B;obtain⟨u,hu,ru⟩:=F.get M;obtain⟨⟨c,g⟩,j⟩:=st;obtain⟨oi,O,hci,hdi⟩:=id j;refine wpAny_pyNext_enum_item g j p.isList (x:=u) (by simpa using hu) r λh' Q D hT hsz hk=>?_;refine⟨_,rfl,wpAny_letOwnedTupleGo_enum Q λC T f=>?_⟩;replace f:Heap.SameBut e h' C:=f;have t:e < s.heap.objs.size:=hLq g;have R:it < s.heap.objs.size:=hLq O;have Z:C.get? s.heap.objs.size=some { cls:=.type "tuple",data:=.seq #[.int i s.toks,u] }:=(f.2 _ (Nat.ne_of_gt t)).trans hT;have kk:∀ b o,b∉[e,it]→s.heap.get? b=some o→C.get? b=some o:=λb o d q=>by have y:b≠e:=λz=>d (by simp [z]);have Y:b≠it:=λz=>d (by simp [z]);exact(f.2 b y).trans (hk b o y Y q)
  have J:zaz X.prog X.w (upd H s.heap.objs.size (.tup [.int i,x])) C s.heap.objs.size (.tup [.int i,x]):=by
   refine⟨?_,[.int i s.toks,u],.cons ⟨_,rfl⟩ (.cons ru .nil),_,Z,?_⟩
   ·exact Nat.le_of_lt (zbu (show 2≤1000 by decide))
   ·first | exact⟨rfl,rfl,_,rfl⟩ | exact⟨rfl,_,rfl⟩ | exact⟨rfl,rfl⟩
  refine⟨.ref s.heap.objs.size,_,I.turnedLaid (t':=s.toks+1) hf kk (nRq _) J,rfl,⟨_,x,rfl,I.fresh,rfl,λys hy=>by rw[I.list_inj hy B];exact M⟩,⟨⟨u,by simpa using T⟩,?_⟩,?_⟩
  ·exact D.at λo q=>(f.2 it (Ne.symm r)).trans q
  ·intro b d;have n:b < s.heap.objs.size:=by
    rcases List.mem_cons.mp d with rfl | d
    ·exact t
    ·rw[mS d];exact R
   rw[ag (Nat.ne_of_lt n)];exact(hf b d).1
 done:=by intro X hP N hK U i l s σ H E I hf st S;subst hP N hK;obtain⟨xs,B,M⟩:=S;obtain⟨L,F,p,hz⟩:=I.list B;obtain⟨⟨c,g⟩,j⟩:=st;obtain⟨f0,f1,f2,f3,f4,f5⟩:=hf it (by simp);have hl:=F.length;exact wpAny_pyNext_enum_end (I.ok.hd U) g j p.isList (by simp;lia) λh' eb=>⟨rfl,I.turned (t':=s.toks) (λb o d q=>eb b o d q) f0 f1 f3 f4 f5⟩
 self:=λ_ _ _ _ _ st h=>by obtain⟨⟨c,g⟩,_⟩:=st;exact wpAny_pyIter_enum g h
section
variable {X:Cx}
def iEnum (K:W.Frag)(d:TA):TI:=λc H R=>d c H λvs b=>∃ a,vs=[.ref a]∧(∃ xs,SqL K b a xs)∧R (Ite K a) b
def zgl {i:List Expr}{v:Nat}{y:Pos}{a:Expr}{o:TA}{p f:Pos}(E:Gl X "enumerate")(D:X.mg "enumerate"=none)(F:PA X [a] o)(hs:starEach [a] X.env=[(false,eval a X.env)]:=by rfl):PI X (.Tuple i v y) (.Call (.Name "enumerate" p) [a] [] f) (iEnum X.K o):=by
 intro c s n H R I h;refine Call_ (zbU I E D boot_enumerate (PyProof.Rows.callWith_type1 (thn (F f c s n H _ I h) λus d ⟨vs,t,j,x,q1⟩=>?_) hs rfl));obtain⟨a,e,⟨xs,C⟩,q⟩:=q1;subst e;obtain⟨u,rfl,w⟩:=x.one;cases w;obtain⟨A,J,p,L⟩:=j.list C;refine call_enumerate_list p.isList λh' r k B z=>?_;refine wpAny_pyIter_enum r ?_;have G:Inv X c n t { d with heap:=h' }:=j.kept (t':=d.toks) z;refine⟨_,[d.heap.objs.size+1,d.heap.objs.size],_,Ite X.K a,t,rfl,G,zll a (d.heap.objs.size+1) d.heap.objs.size (Nat.succ_ne_self _),⟨⟨_,r⟩,k⟩,λb l=>?_,q⟩;have g:d.heap.objs.size≤b:=by
  rcases List.mem_cons.mp l with rfl | l
  ·lia
  ·rw[mS l];exact nRq _
 exact j.fpOk g (j.hok.fresh g)
inductive zjS:V→List V→Hp→VK→Prop|m{x vs H Q} l xs i y:x=.ref l→vs=[.int (i:Nat),y]→H l=some (.lst xs)→i≤xs.length→xs.length < sizeLine→Q .non (upd H l (.lst (xs.take i++y :: xs.drop i)))→zjS x vs H Q
def zlK:MtM X "list.insert" zjS:=by
 intro j s E H x vs v us Q I w A h;obtain⟨l,xs,i,y,rfl,rfl,p,K,G,q⟩:=h;cases w;obtain⟨u,d,rfl,B,f⟩:=A.two;obtain⟨t,rfl⟩:=B;obtain⟨z,a,n,r,J,e⟩:=I.lstM p;have c:Builtin.List.listFitsIndex ((i:Nat):Int)=true:=by have D:sizeLine < 2 ^ 63:=zeS;unfold Builtin.List.listFitsIndex;simp;lia
 have b:¬(!Builtin.List.listFitsIndex ((i:Nat):Int))=true:=by rw[c];exact Bool.false_ne_true
 have g:∃ k:Int,k=((i:Nat):Int):=⟨_,rfl⟩;obtain⟨k,o⟩:=g;rw[←o]at b ⊢;have M:=AutoSeq1.list_insert_list_int_val_1 l a.toArray n k t d b (by rw[sA];lia);refine call_meets F.slot_list_insert ⟨_,e,rfl⟩ F.entry_list_insert (F.args_list_insert_3 _ _ _) M ⟨e,?_⟩;refine⟨.non,_,I.lset (its':=a.take i++d :: a.drop i) p e ?_ ((r.take i).append (.cons f (r.drop i))) ?_,rfl,q⟩
 ·subst o;have h0:¬(((i:Nat):Int) < 0):=by lia
  have C:min i a.toArray.size=i:=by simp;lia
  show(a.toArray.extract 0 (if((i:Nat):Int) < 0 then _ else min (((i:Nat):Int)).toNat a.toArray.size)).push d++a.toArray.extract (if((i:Nat):Int) < 0 then _ else min (((i:Nat):Int)).toNat a.toArray.size)=_
  rw[if_neg h0,Int.toNat_natCast,C];apply Array.ext';simp [List.extract_eq_drop_take];exact tO (by simp)
 ·simp;lia
def znF (n:Nat)(K:W.Frag)(d:X.K=K)(c:X.calm=true)(h:PGs X es t)
  (b:(assignEach es X.env).length=n:=by rfl)(a:(assignEach es X.env).findIdx? (·.1)=none:=by rfl):PG X (.Tuple es k pos) (gTup K n t):=by subst d;exact zcO c h b a
end
end L2
namespace L2
open PySem
def left (U hs:List Int):Nat:=(U.filter λp=>decide (p∉hs)).length
def dQT (p:Int):Dt:=.tup [.int p,.bl true]
def zgV:∀ ps:List Int,zaP (ps.map dQT)=true
 | []=>by simp [zaP]
 | t :: ts=>by simp only[List.map_cons,zaP,dQT,nol,Bool.true_and];exact zgV ts
def zoc (h:Has K H (dQT p) v):∃ a,v=.ref a∧SqT K H a [.int p,.bl true]:=by unfold dQT at h;simp only[Has,aq]at h;obtain⟨a,xs,rfl,hs,c,r,rfl,rfl,b,d,rfl,rfl,rfl⟩:=h;exact⟨a,rfl,hs⟩
def zk9 (h:SqT K H a [.int p,.bl true]):Has K H (dQT p) (.ref a):=Has.tup' h (.cons .int (.cons (by simp only[Has]) .nil))
def zi8 (h:aq K H (ps.map dQT) ys):ys.length=(tkv ps).length∧∀(i:Nat) y c,ys[i]?=some y→(tkv ps)[i]?=some c→∃ a,y=.ref a∧SqT K H a [kV c.1,c.2]:=by
 have f:ys.length=ps.length:=by rw[←h.length,lM]
 refine⟨by rw[f];simp [tkv],λi y c j b=>?_⟩;obtain⟨d,e,g⟩:=h.get j;unfold tkv at b;rw[List.getElem?_map]at b e;cases q:ps[i]? with
 | none=>rw[q]at b;cases b
 | some p =>
  rw[q]at b e;cases b;cases e;exact zoc g
structure TrOk (m:Int)(ts:List (Int × Int)):Prop where
 rng:∀ t∈ts,t.1≠0∧-m≤t.1∧t.1≤m
 con:∀ x∈ts.map Prod.fst,-x∉ts.map Prod.fst
def TrOk.nil:TrOk m []:=⟨λ_ h=>absurd h (by simp),λ_ h=>absurd h (by simp)⟩
def ins {a:Type}(xs:List a)(i:Nat)(y:a):List a:=xs.take i++y :: xs.drop i
def zj4:z∈ins xs i y↔z=y∨z∈xs:=by
 unfold ins;rw[List.mem_append,List.mem_cons];constructor
 ·rintro (h | h | h)
  ·exact .inr (List.mem_of_mem_take h)
  ·exact .inl h
  ·exact .inr (List.mem_of_mem_drop h)
 ·rintro (h | h)
  ·exact .inr (.inl h)
  ·rw[←List.take_append_drop i xs]at h;rcases mPq h with h | h
   ·exact .inl h
   ·exact .inr (.inr h)
def zn1 (xs:List α)(i:Nat)(y:α):(ins xs i y).length=xs.length+1:=by unfold ins;rw[lAq,List.length_cons,List.length_take,List.length_drop];lia
def aq.ins (h:Has K H d v):∀(i:Nat) {c:List Dt} {vs:List V},aq K H c vs→aq K H (L2.ins c i d) (L2.ins vs i v)
 | 0,_,_,b=>.cons h b
 | i+1,[],vs,b=>by
  have e:vs=[]:=by have:=b.length;cases vs with | nil=>rfl | cons a t=>cases this
  subst e;exact .cons h .nil
 | i+1,d' :: c,vs,b=>by
  cases vs with
  | nil=>have:=b.length;cases this
  | cons j vs =>
   simp only[aq]at b;obtain⟨u,us,q,g,f⟩:=b;cases q;exact .cons g (aq.ins h i f)
def zbm (d:Addr)(H H':Hp):Prop:=∀ b o,b≠d→H b=some o→H' b=some o
def zbm.refl (d:Addr)(H:Hp):zbm d H H:=λ_ _ _ h=>h
def zbm.trans (a:zbm d H H1)(b:zbm d H1 H2):zbm d H H2:=λc o n h=>b c o n (a c o n h)
def ap.x (s:ap H H')(d:Addr):zbm d H H':=λb o _ h=>s b o h
def zbm.put (H:Hp)(o:HO):zbm d H (upd H d o):=λb u n h=>by rw[ag n];exact h
def zbm.kt (s:zbm d H H')(h:H d=some (.dK kvs)):aV H H':=λb us z=>by
 have a:b≠d:=λe=>by
  rw[e]at z;rcases z with z | ⟨o,z⟩
  ·rw[h]at z;cases z
  ·rw[h]at z;cases z
 rcases z with z | ⟨o,z⟩
 ·exact .inl (s _ _ a z)
 ·exact .inr ⟨o,s _ _ a z⟩
def Dset.ne (h:Dset H d hs)(a:H l=some (.lst xs)):l≠d:=λe=>by obtain⟨kvs,b,_⟩:=h.ex;rw[e,b]at a;cases a
def zbm.lst (s:zbm d H H')(h:Dset H d hs)(a:H l=some (.lst xs)):H' l=some (.lst xs):=s _ _ (h.ne a) a
end L2
namespace L2
open PySem PySem.Spec PyProof.Rows
def Itv (K:W.Frag)(a:Addr)(n:Nat):It :=
 ⟨λi H=>i < n∧∃ xs,SqL K H a xs∧xs.length=n,λi H x H'=>H'=H∧∀ xs,SqL K H a xs→xs[n - 1 - i]?=some x,λi H=>n≤i⟩
def ziA {K:W.Frag}{a:Addr}{xs:List V}:Wk (Itv K a xs.length) xs.length (λH=>SqL K H a xs):=⟨λ_ _ _ b=>b,λ_ _ h b=>⟨b,xs,h,rfl⟩⟩
def zmf {P:Program}{w:World}{K:W.Frag}{N:Expr}(a it:Addr)(n:Nat):zee P w K N (Itv K a n) [it] it (λi h=>i≤n∧h.IsRevIter it a ((n:Int) - 1 - (i:Int))) where
 mem:=by simp
 obj:=λi h st b j=>by
  have e:b=it:=by simpa using j
  subst e;obtain⟨_,o,e,c,d⟩:=st;exact⟨o,e,λv z=>by rw[d]at z;cases z⟩
 keep:=λi h h' st k=>⟨st.1,st.2.at λo e=>k it (by simp) o e⟩
 item:=by
  intro X y r A M i g s J H E I hf st t;subst y r A;obtain⟨Y,xs,L,hl⟩:=t;obtain⟨S,Q,p,hz⟩:=I.list L;have q:n - 1 - i < xs.length:=by lia
  obtain⟨u,U,R⟩:=Q.get (gG q);obtain⟨G,F,Z,D,C,B⟩:=hf it (by simp);have e:(n:Int) - 1 - (i:Int)=((n - 1 - i:Nat):Int):=by lia
  have f:=st.2;rw[e]at f;refine wpAny_pyNext_rev_item f p.isList (x:=u) (by simpa using U) λh' l O=>?_;have I1:Inv X g J H { s with heap:=h' }:=I.turned (t':=s.toks) (λb o j e=>(O.2 b j).trans e) G F D C B;obtain⟨o,e1,c,d⟩:=id l;refine⟨u,rfl,ze7 (s:={ s with heap:=h' }) e1 c d (by decide) ⟨xs[n - 1 - i],H,I1,R,⟨rfl,λys T=>by rw[I.list_inj T L];exact gG q⟩,⟨by lia,?_⟩,λb j=>(hf b j).1⟩⟩;have e2:(n:Int) - 1 - ((i+1:Nat):Int)=((n - 1 - i:Nat):Int) - 1:=by lia
  rw[e2];exact l
 done:=by
  intro X y r A M i g s J H E I hf st t;subst y r A;obtain⟨G,F,Z,D,C,B⟩:=hf it (by simp);have Y:i=n:=Nat.le_antisymm st.1 t;have f:=st.2;have e:(n:Int) - 1 - (i:Int)=-1:=by lia
  rw[e]at f;exact wpAny_pyNext_rev_end (I.ok.hd M) f λh' eb=>⟨rfl,I.turned (t':=s.toks) (λb o j e=>eb b o j e) G F D C B⟩
 self:=λ_ _ _ _ _ st h=>wpAny_pyIter_revIter st.2 h
def Itz (K:W.Frag)(a b:Addr):It :=
 ⟨λi H=>∃ xs ys x y,SqL K H a xs∧SqL K H b ys∧xs[i]?=some x∧ys[i]?=some y,λi H x H'=>∃ p y z,x=.ref p∧H p=none∧H'=upd H p (.tup [y,z])∧(∀ xs,SqL K H a xs→xs[i]?=some y)∧∀ ys,SqL K H b ys→ys[i]?=some z,
  λi H=>∃ xs ys,SqL K H a xs∧SqL K H b ys∧(xs.length≤i∨ys.length≤i)⟩
def zkW {K:W.Frag}{a b:Addr}{xs ys:List V}(h:xs.length=ys.length):Wk (Itz K a b) xs.length (λH=>SqL K H a xs∧SqL K H b ys) :=
 ⟨λ_ _ q c=>⟨xs,ys,q.1,q.2,.inl c⟩,λi _ q c=>⟨xs,ys,xs[i],ys[i]'(by lia),q.1,q.2,by simp [c],by simp⟩⟩
def zme {P:Program}{w:World}{K:W.Frag}{T:List Expr}{x1:Nat}{pos:Pos}(a b z TI TO j g:Addr)(D:ZipApart z TI TO j g a b):zee P w K (.Tuple T x1 pos) (Itz K a b) [z,TI,TO,j,g] z
  (λi h=>IsZip h z TI TO .none∧IsPair h TI (.ref j) (.ref g)∧(∃ u v,IsPair h TO u v)∧h.IsListIter j a i∧h.IsListIter g b i) where
 mem:=by simp
 obj:=λi h st c f=>by
  obtain⟨F,t,⟨u,v,C⟩,⟨o4,B,c4,d4⟩,⟨o5,A,c5,d5⟩⟩:=st;simp only[List.mem_cons,List.not_mem_nil,or_false]at f;rcases f with rfl | rfl | rfl | rfl | rfl
  ·exact⟨_,F,λv q=>by have M:Data.fields _=Data.cell v:=q;cases M⟩
  ·exact⟨_,t,λv q=>by have M:Data.seq _ _=Data.cell v:=q;cases M⟩
  ·exact⟨_,C,λv q=>by have M:Data.seq _ _=Data.cell v:=q;cases M⟩
  ·exact⟨o4,B,λv q=>by rw[d4]at q;cases q⟩
  ·exact⟨o5,A,λv q=>by rw[d5]at q;cases q⟩
 keep:=λi h h' st k=>by obtain⟨F,t,⟨u,v,C⟩,B,A⟩:=st;exact⟨k z (by simp) _ F,k TI (by simp) _ t,⟨u,v,k TO (by simp) _ C⟩,B.at λo q=>k j (by simp) o q,A.at λo q=>k g (by simp) o q⟩
 item:=by
  intro X hP hw hK f i N s σ H E I hf st hg;subst hP hw hK;obtain⟨xs,ys,x,y,Z,l,Y,hy⟩:=hg;obtain⟨its,rv,p,hz⟩:=I.list Z;obtain⟨Q,G,p2,hz2⟩:=I.list l;obtain⟨u,hu,ru⟩:=rv.get Y;obtain⟨v,hv,rw'⟩:=G.get hy;obtain⟨F,t,⟨u0,v0,C⟩,B,A⟩:=st;have lz:z < s.heap.objs.size:=hLq F;have lTI:TI < s.heap.objs.size:=hLq t;have lTO:TO < s.heap.objs.size:=hLq C;have l1:j < s.heap.objs.size:=by obtain⟨o,e,_⟩:=id B;exact hLq e
  have l2:g < s.heap.objs.size:=by obtain⟨o,e,_⟩:=id A;exact hLq e
  refine wpAny_pyNext_zip_item D F t C B A p.isList p2.isList (x:=u) (y:=v) (by simpa using hu) (by simpa using hv) λh' g1 g3 g4 g5 gT gz L=>?_;refine⟨_,rfl,wpAny_letOwnedTupleGo_zip g1 λS g6 hs=>?_⟩;replace hs:Heap.SameBut z h' S:=hs;have hT:S.get? s.heap.objs.size=some { cls:=.type "tuple",data:=.seq #[u,v] }:=(hs.2 _ (Nat.ne_of_gt lz)).trans gT;have kk:∀ c o,c∉[z,TI,TO,j,g]→s.heap.get? c=some o→S.get? c=some o:=λc o f q=>by have n1:c≠z:=λe=>f (by simp [e]);have n3:c≠TO:=λe=>f (by simp [e]);have n4:c≠j:=λe=>f (by simp [e]);have n5:c≠g:=λe=>f (by simp [e]);exact(hs.2 c n1).trans (L c o n1 n3 n4 n5 q)
  have new:zaz X.prog X.w (upd H s.heap.objs.size (.tup [x,y])) S s.heap.objs.size (.tup [x,y]) :=
   ⟨Nat.le_of_lt (zbu (show 2≤1000 by decide)),[u,v],.cons ru (.cons rw' .nil),_,hT,rfl,_,rfl⟩
  have gTI:S.get? TI=some _:=(hs.2 TI D.TIz).trans (L TI _ D.TIz D.TITO D.TIi1 D.TIi2 t);refine⟨.ref s.heap.objs.size,_,I.turnedLaid (t':=s.toks) hf kk (nRq _) new,rfl,⟨_,x,y,rfl,I.fresh,rfl,λzs J=>by rw[I.list_inj J Z];exact Y,λzs J=>by rw[I.list_inj J l];exact hy⟩,⟨g6,gTI,⟨_,_,(hs.2 TO D.TOz).trans g3⟩,g4.at λo q=>(hs.2 j D.i1z).trans q,g5.at λo q=>(hs.2 g D.i2z).trans q⟩,λc f=>?_⟩;have lc:c < s.heap.objs.size:=by have R:=f;simp only[List.mem_cons,List.not_mem_nil,or_false]at R;rcases R with rfl | rfl | rfl | rfl | rfl <;> assumption
  rw[ag (Nat.ne_of_lt lc)];exact(hf c f).1
 done:=by
  intro X hP hw hK f i N s σ H E I hf st hg;subst hP hw hK;obtain⟨xs,ys,Z,l,Y⟩:=hg;obtain⟨its,rv,p,hz⟩:=I.list Z;obtain⟨Q,G,p2,hz2⟩:=I.list l;obtain⟨F,t,⟨u0,v0,C⟩,B,A⟩:=st;have hl:=rv.length;have hl2:=G.length;refine wpAny_pyNext_zip_end (I.ok.hd f) D F t C B A p.isList p2.isList (Y.elim (λq=>.inl (by simp;lia)) λq=>.inr (by simp;lia)) λh' L=>⟨rfl,?_⟩;have un:Un (frs X.stack) [z,TI,TO,j,g] H H s.heap h':=⟨λc o q _ _ f=>L c o (λe=>f (by simp [e])) (λe=>f (by simp [e])) (λe=>f (by simp [e])) (λe=>f (by simp [e])) q,
   λc o q _ _ f=>⟨o.slots,L c o (λe=>f (by simp [e])) (λe=>f (by simp [e])) (λe=>f (by simp [e])) (λe=>f (by simp [e])) q⟩,λ_ _ _ n _=>n,
   λc o q f=>⟨o,L c o (λe=>f (by simp [e])) (λe=>f (by simp [e])) (λe=>f (by simp [e])) (λe=>f (by simp [e])) q⟩,λ_ _ q=>q,λ_ _ _ q=>q,λ_ ps q=>⟨#[],by rw[q];simp⟩⟩
  have O:∀ c u,H c=some u→c∉[z,TI,TO,j,g]:=λc u e q=>by rw[(hf c q).1]at e;cases e
  have hok:HOk X.prog X.w H h':=λc u e=>by
   refine(I.hok c u e).stay (λd v hd q=>?_) (λ_ q=>q) λ_ _ q=>q;have U:d∉[z,TI,TO,j,g]:=by
    rcases hd with r | r
    ·rw[r];exact O c u e
    ·exact O d _ r
   exact L d v (λe=>U (by simp [e])) (λe=>U (by simp [e])) (λe=>U (by simp [e])) (λe=>U (by simp [e])) q
  exact I.call (g':=s.gens) (d':=s.drawn) (t':=s.toks) (ch:=[z,TI,TO,j,g]) un hok I.bare λc f=>⟨(hf c f).2.2.2.1,(hf c f).2.1,(hf c f).2.2.2.2.1,(hf c f).2.2.2.2.2⟩
 self:=λ_ _ _ _ _ st h=>wpAny_pyIter_zip st.1 h
def Inv.freeze (I:Inv X pins σ H s)(h:H d=some (.dK kvs))(k:s.heap.get? d=some o):Inv X pins σ (upd H d (.frz o (.dK kvs))) s:=by
 have f:∀ b u,H b=some u→u≠.dK kvs→b≠d:=λb u e n z=>by rw[z,h]at e;cases e;exact n rfl
 have u:Un X.fs [] H (upd H d (.frz o (.dK kvs))) s.heap s.heap:=⟨λb a q _ _ _=>q,λb a q _ _ _=>⟨a.slots,q⟩,λb a q n _=>by rw[ag (λz=>by rw[z,h]at n;cases n)];exact n,λb a q _=>⟨a,q⟩,
  λb xs q=>by rw[ag (f b _ q (by intro z;cases z))];exact q,λb a xs q=>by rw[ag (f b _ q (by intro z;cases z))];exact q,λb ps q=>⟨#[],by rw[ag (f b _ q (by intro z;cases z)),q];simp⟩⟩
 have g:HOk X.prog X.w (upd H d (.frz o (.dK kvs))) s.heap:=λb j e=>by
  by_cases i:b=d
  ·subst i;rw[af]at e;cases e;exact⟨k,I.hok b _ h⟩
  ·rw[ag i]at e;exact(I.hok b j e).stay (λc l _ q=>q) (λc q=>by rw[ag (f c _ q (by intro z;cases z))];exact q) λc xs q=>by rw[ag (f c _ q (by intro z;cases z))];exact q
 exact I.un (t':=s.toks) (h':=s.heap) u g
def Inv.thaw (I:Inv X pins σ H s)(h:H d=some (.frz o (.dK kvs)))(h0:∀ o u,X.H₀ d≠some (.frz o u)):Inv X pins σ (upd H d (.dK kvs)) s:=by
 have a:∀ b u,H b=some u→u≠.frz o (.dK kvs)→b≠d:=λb u e n z=>by rw[z,h]at e;cases e;exact n rfl
 have g:∀ b,H b=none→b≠d:=λb e z=>by rw[z,h]at e;cases e
 refine⟨I.ok,I.os,I.bare,⟨I.base.keep,I.base.slot,λb f q n i=>by rw[ag (g b (I.base.free b f q n i))];exact I.base.free b f q n i,I.base.there,λb xs q=>by rw[ag (a b _ (I.base.tups b xs q) (by intro z;cases z))];exact I.base.tups b xs q,λb f u q=>?_,λb ps q=>?_⟩,I.loc,I.cell,by rw[ag (g _ I.free)];exact I.free,λx c e=>by rw[ag (g _ (I.freeC x c e))];exact I.freeC x c e,λp v=>?_,λb r e=>?_,I.len⟩
 ·have t:b≠d:=λz=>h0 f u (by rw[←z];exact q);rw[ag t];exact I.base.frzs b f u q
 ·obtain⟨m,e⟩:=I.base.tbls b ps q;exact⟨m,by rw[ag (a b _ e (by intro z;cases z))];exact e⟩
 ·obtain⟨y,k,w⟩:=I.pin p v;exact⟨y,by rw[ag (g _ k)];exact k,w⟩
 ·by_cases j:b=d
  ·subst j;rw[af]at e;cases e;have q:=I.hok b _ h;exact q.2.stay (λc l _ q=>q) (λc q=>by rw[ag (a c _ q (by intro z;cases z))];exact q) λc xs q=>by rw[ag (a c _ q (by intro z;cases z))];exact q
  ·rw[ag j]at e;exact(I.hok b r e).stay (λc l _ q=>q) (λc q=>by rw[ag (a c _ q (by intro z;cases z))];exact q) λc xs q=>by rw[ag (a c _ q (by intro z;cases z))];exact q
def Itd (d:Addr)(o:Obj)(kvs:List (Key × V)):It :=
 ⟨λi H=>i < kvs.length∧H d=some (.frz o (.dK kvs)),λi H x H'=>H'=H∧∃ k v,kvs[i]?=some (k,v)∧x=kV k,λi H=>kvs.length≤i∧H d=some (.frz o (.dK kvs))⟩
def znk:Wk (Itd d o kvs) kvs.length (λH=>H d=some (.frz o (.dK kvs))):=⟨λ_ _ h a=>⟨a,h⟩,λ_ _ h a=>⟨a,h⟩⟩
def zn6 (h:ze5 k u=true):aY (kV k) u:=by
 rcases za7 h with ⟨i,t,rfl,rfl⟩ | ⟨x,t,rfl,rfl⟩
 ·exact⟨t,rfl⟩
 ·exact⟨t,rfl⟩
def zlm {P:Program}{w:World}{K:W.Frag}{tg:Expr}(d it:Addr)(o:Obj)(kvs:List (Key × V))(C:Nat)(y:∃ es,o.data=.dict es C):zee P w K tg (Itd d o kvs) [it] it (λi h=>h.IsKeyIter it d i kvs.length C) where
 mem:=by simp
 obj:=λi h st b n=>by
  have e:b=it:=by simpa using n
  subst e;obtain⟨f,e,c,dd⟩:=st;exact⟨f,e,λv z=>by rw[dd]at z;cases z⟩
 keep:=λi h h' st k=>st.at λf e=>k it (by simp) f e
 item:=by
  intro X M F N hc i j s σ H E I hf st L;subst M F N;obtain⟨hi,G⟩:=L;obtain⟨J,zl,t,vs,g,dd⟩:=(show zaz X.prog X.w H s.heap d (.frz o (.dK kvs)) from I.hok d _ G);obtain⟨p,B⟩:=dd.dictAt;obtain⟨f,es,Z,e2,A,e4⟩:=id B;obtain⟨U,l⟩:=y;have Y:f=o:=Option.some.inj (Z.symm.trans J);subst Y;have q:p=C:=by rw[l]at A;cases A;rfl
  subst q;have a:=g.length;obtain⟨T,S,f2,R,Q,O⟩:=hf it (by simp);have hk:=g.keys;have hv:vs[i]?=some vs[i]:=gG (by lia);have u:kvs[i]?=some kvs[i]:=gG hi;have ek:kvs[i].1=(vs[i]'(by lia)).1:=by
   have h1:(kvs.map (·.1))[i]?=some kvs[i].1:=by rw[List.getElem?_map,u];rfl
   have h2:(vs.map (·.1))[i]?=some (vs[i]'(by lia)).1:=by rw[List.getElem?_map,hv];rfl
   rw[hk,h2]at h1;exact(Option.some.inj h1).symm
  rw[a]at st;refine wpAny_pyNext_dict_item st B (k:=(vs[i]'(by lia)).1) (v:=(vs[i]'(by lia)).2) hv λD h' x r sb=>?_;have I1:Inv X j σ H { s with heap:=h' }:=I.turned (t':=s.toks) (λb f n e=>(sb.2 b n).trans e) T S R Q O;obtain⟨oi,q1,q2,q3⟩:=id r;refine⟨D,rfl,ze7 (s:={ s with heap:=h' }) q1 q2 q3 (by decide) ⟨kV kvs[i].1,H,I1,?_,⟨rfl,kvs[i].1,kvs[i].2,u,rfl⟩,by rw[a];exact r,λb n=>(hf b n).1⟩⟩;rw[ek];exact zn6 x
 done:=by
  intro X M F N hc i j s σ H E I hf st L;subst M F N;obtain⟨hi,G⟩:=L;obtain⟨J,zl,t,vs,g,dd⟩:=(show zaz X.prog X.w H s.heap d (.frz o (.dK kvs)) from I.hok d _ G);obtain⟨p,B⟩:=dd.dictAt;obtain⟨f,es,Z,e2,A,e4⟩:=id B;obtain⟨U,l⟩:=y;have Y:f=o:=Option.some.inj (Z.symm.trans J);subst Y;have q:p=C:=by rw[l]at A;cases A;rfl
  subst q;have a:=g.length;rw[a]at st;obtain⟨T,S,f2,R,Q,O⟩:=hf it (by simp);exact wpAny_pyNext_dict_end (I.ok.hd hc) st B (List.getElem?_eq_none (by lia)) λh' eb=>⟨rfl,I.turned (t':=s.toks) (λb f n e=>eb b f n e) T S R Q O⟩
 self:=λ_ _ _ _ _ st h=>wpAny_pyIter_keyiter st h
section
variable {X:Cx} {tg:Expr}
def iRev (K:W.Frag)(d:TA):TI:=λc H R=>d c H λvs b=>∃ a xs,vs=[.ref a]∧SqL K b a xs∧R (Itv K a xs.length) b
def ziM {a:Expr}{l:TA}{p g:Pos}(y:Gl X "reversed")(x:X.mg "reversed"=none)(A:PA X [a] l)(hs:starEach [a] X.env=[(false,eval a X.env)]:=by rfl):PI X tg (.Call (.Name "reversed" p) [a] [] g) (iRev X.K l):=by
 intro d s k H R I h;refine Call_ (zbU I y x boot_reversed (PyProof.Rows.callWith_type1 (thn (A g d s k H _ I h) λus f ⟨vs,n,j,v,q1⟩=>?_) hs rfl));obtain⟨a,xs,e,w,q⟩:=q1;subst e;obtain⟨u,rfl,t⟩:=v.one;cases t;obtain⟨c,r,pl,C⟩:=j.list w;have D:=r.length;refine call_reversed_list pl.isList ?_;have i:Heap.IsRevIter (f.heap.push (revObj a ((c.toArray.size:Int) - 1))) f.heap.objs.size a ((c.toArray.size:Int) - 1):=⟨_,Heap.get?_push_size _ rfl,rfl,rfl⟩;refine wpAny_pyIter_revIter i ?_;have B:Inv X d k n { f with heap:=f.heap.push (revObj a ((c.toArray.size:Int) - 1)) }:=j.kept (t':=f.toks) λb o e=>hG _ e;refine⟨_,[f.heap.objs.size],_,Itv X.K a xs.length,n,rfl,B,zmf a f.heap.objs.size xs.length,⟨Nat.zero_le _,?_⟩,λb z=>?_,q⟩
 ·have e:((xs.length:Nat):Int) - 1 - ((0:Nat):Int)=(c.toArray.size:Int) - 1:=by simp;lia
  rw[e];exact i
 ·rw[mS z];exact j.fpOk (nRq _) j.fresh
def iZip (K:W.Frag)(e:TA):TI:=λd H R=>e d H λvs c=>∃ a b,vs=[.ref a,.ref b]∧(∃ xs,SqL K c a xs)∧(∃ ys,SqL K c b ys)∧R (Itz K a b) c
def zk4 {l:List Expr}{C:Nat}{G:Pos}{a b:Expr}{x:TA}{p g:Pos}(S:Gl X "zip")(Q:X.mg "zip"=none)(T:PA X [a,b] x)(hs:starEach [a,b] X.env=[(false,eval a X.env),(false,eval b X.env)]:=by rfl)(j:starEach [b] X.env=[(false,eval b X.env)]:=by rfl):PI X (.Tuple l C G) (.Call (.Name "zip" p) [a,b] [] g) (iZip X.K x):=by
 intro d s w H R I h;refine Call_ (zbU I S Q boot_zip (PyProof.Rows.callWith_type1 (thn (T g d s w H _ I h) λus f ⟨vs,B,n,F,q1⟩=>?_) (by rw[hs,j]) (by rw[j];rfl)));obtain⟨a,b,e,⟨xs,P⟩,⟨ys,t⟩,q⟩:=q1;subst e;obtain⟨u,v,rfl,E,r⟩:=F.two;cases E;cases r;obtain⟨M,rv,pl,hz⟩:=n.list P;obtain⟨y,D,i,N⟩:=n.list t;have la:a < f.heap.objs.size:=by obtain⟨o,e,_⟩:=pl.isList;exact hLq e
 have J:b < f.heap.objs.size:=by obtain⟨o,e,_⟩:=i.isList;exact hLq e
 refine call_zip_2 pl.isList i.isList λh' A Z Y W U O L=>?_;refine wpAny_pyIter_zip A ?_;have I2:Inv X d w B { f with heap:=h' }:=n.kept (t':=f.toks) L;refine⟨_,_,_,Itz X.K a b,B,rfl,I2,zme a b _ _ _ _ _ (zipApart_new la J),⟨A,Z,⟨_,_,Y⟩,W,U⟩,λc z=>?_,q⟩;have k:f.heap.objs.size≤c:=by
  simp only[List.mem_cons,List.not_mem_nil,or_false]at z;rcases z with rfl | rfl | rfl | rfl | rfl
  ·exact Nat.le_add_right _ _
  ·exact Nat.le_add_right _ _
  ·exact Nat.le_add_right _ _
  ·exact nRq _
  ·exact Nat.le_add_right _ _
 exact n.fpOk k (n.hok.fresh k)
def iDict (c:TE):TI:=λb H R=>c b H λx a=>∃ d kvs,x=.ref d∧a d=some (.dK kvs)∧∀ o,R (Itd d o kvs) (upd a d (.frz o (.dK kvs)))
def znE (w:PE X l tl):PI X tg l (iDict tl):=by
 intro a s k H R I h;refine thn (w a s k H _ I h) λv c ⟨x,C,t,u,q1⟩=>?_;obtain⟨d,kvs,e,n,q⟩:=q1;subst e;cases u;obtain⟨D,f,vs,i,dd⟩:=zge t.hok n;obtain⟨p,r⟩:=dd.dictAt;obtain⟨o,es,A,G,z,F⟩:=id r;have g:=i.length;have j:=t.freeze n A;refine wpAny_pyIter_dict f r ?_;have B:Inv X a k (upd C d (.frz o (.dK kvs))) { c with heap:=c.heap.push { cls:=.type "dict_keyiterator",data:=.fields #[.ref d,.int 0 0,.int vs.length 0,.int p 0] } }:=j.kept (t':=c.toks) λb E e=>hG _ e;refine⟨_,[c.heap.objs.size],_,Itd d o kvs,_,rfl,B,zlm d c.heap.objs.size o kvs p ⟨es,z⟩,?_,λb y=>?_,q o⟩
 ·exact⟨_,Heap.get?_push_size _ rfl,rfl,by rw[g];rfl⟩
 ·rw[mS y];exact j.fpOk (nRq _) j.fresh
def znH (h:PE X e te):PE X e (λb H Q=>te b H λx c=>∃ d o kvs,c d=some (.frz o (.dK kvs))∧(∀ o u,X.H₀ d≠some (.frz o u))∧Q x (upd c d (.dK kvs))):=by intro a s b H Q I g;refine thn (h a s b H _ I g) λv l ⟨x,c,k,f,d,o,kvs,j,i,q⟩=>?_;exact⟨x,_,k.thaw j i,f,q⟩
inductive zjR:V→List V→Hp→VK→Prop|m{x vs H Q} d b kvs more:x=.ref d→vs=[.ref b]→d≠b→H d=some (.dK kvs)→H b=some (.dK more)→kvs.length+more.length≤sizeLine→Q .non (upd H d (.dK (zaf kvs more)))→zjR x vs H Q
def zlJ:MtR X "dict.update" zjR:=by intro p s D H x vs v us Q I y z h;obtain⟨d,b,kvs,e,rfl,rfl,n,r,C,M,q⟩:=h;cases y;obtain⟨u,rfl,A⟩:=z.one;cases A;obtain⟨G,k,i,c,f⟩:=zge I.hok r;obtain⟨E,j,g,a,o⟩:=zge I.hok C;have L:=c.length;have K:=a.length;refine call_meetsIn PySem.F.slot_dict_update f.typeIs PySem.F.entry_dict_update (PySem.F.args_dict_update_2 _ _) (meets_dict_update (zaJ X.prog X.w) d b n j) ⟨i,g,f,o,by lia,λh' t N hs=>?_⟩;have J:=zfy e kvs;have l:=zfF (H':=upd H d (.dK (zaf kvs e))) (h':=h') (by lia) k (a.merge c) t;have B:∃ q,h'.get? d=some q:=let ⟨q,_,_,hq,_⟩:=t;⟨q,hq⟩;exact⟨.non,_,ze0 I (by rw[r];exact True.intro) hs B l,rfl,q⟩
end
set_option maxRecDepth 100000
def zmn:typeLookup (.type "list_reverseiterator") "__len__"=pure none:=by rw[typeLookup_type,builtinLookup_eq_fast];kernel_rfl
def znA:typeLookup (.type "list_reverseiterator") "__length_hint__"=pure (some (.builtin "list_reverseiterator.__length_hint__")):=by rw[typeLookup_type,builtinLookup_eq_fast];kernel_rfl
section
variable {prog:Program} {w:World} {A:Around} {E:Value→Shared→Prop} {s:Shared} {J:Addr} {fp wr:List Addr} {G:Array GenState→Array GenState→Prop} {n:Nat} {P:Nat→Value→Prop} {St:Nat→Shared→Prop}
def zjF (W:WalksS prog w A.in1 J fp wr G n P St)(ty:∀ i u,St i u→u.TypeIs (.ref J) "list_reverseiterator")(l:St 0 s)(r:∀ b∈fp,b < s.heap.objs.size)(p:J∈fp)
  (q:∀ s' acc,Moved wr G s s'→ItemsOf P acc n→Q acc.toList s')(fits:n≤sizeLine):wpAny (model prog w) A (collect (.ref J)) Q E s:=by
 have h:s.heap.objs.size∉fp:=λz=>Nat.lt_irrefl _ (r _ z);have g:s.heap.objs.size≠J:=λe=>h (by rw[e];exact p);unfold collect;refine wpAny_bind (wpAny_runValue (codeAny_builtin PySem.F.entry_proto_collect ?_));rw[Around.under_plainId PySem.F.plain_proto_collect _];show wpAny _ A.in1 (newList [] >>= λa=>again (.builtin "list.__iadd__" ⟨[a,.ref J],[]⟩)) _ _ s;refine wpAny_bind (wpAny_newObj_type ?_);refine wpAny_pure ⟨plainId_quiet PySem.F.plain_list_iadd _,codeAny_builtin PySem.F.entry_list_iadd ?_⟩;rw[Around.under_plainId PySem.F.plain_list_iadd _];have d:=W.frame 0 s (s.heap.push { cls:=.type "list",data:=.seq ([]:List Value).toArray }) s.toks l (nRq _) λb _ o e=>hG _ e;have j:Heap.get? (s.heap.push { cls:=.type "list",data:=.seq ([]:List Value).toArray }) s.heap.objs.size=some { cls:=.type "list",data:=.seq ([]:List Value).toArray }:=Heap.get?_push_size _ rfl;have f:Builtin.List.listSameRef (.ref s.heap.objs.size) (.ref J)=false:=by simp [Builtin.List.listSameRef,g]
 show wpAny _ A.in1 (Builtin.List.listExtendWith (.ref s.heap.objs.size) (.ref J) (.ref s.heap.objs.size)) _ _ _;unfold Builtin.List.listExtendWith;refine wpAny_bind (wpAny_typeOf (ty 0 _ d) ?_);rw[if_neg (by rw[f];decide)];refine wpAny_bind (W.self 0 _ _ _ d (wpAny_bind (wpAny_holding ?_)));unfold Builtin.List.listLengthHint;refine wpAny_bind (wpAny_specialOf (ty 0 _ d) zmn ?_);show wpAny _ A.in1 (specialOf (Value.ref J) (Str.ofString "__length_hint__") >>= _) _ _ _;refine wpAny_bind (wpAny_specialOf (ty 0 _ d) znA ?_);generalize k:("list_reverseiterator.__length_hint__":String)=v
 wp_delta
 rw[show splitId v=some ("list_reverseiterator","__length_hint__") from by subst k;decide +kernel];subst k;refine wpAny_bind (wpAny_isInstance (b:=true) (ty 0 _ d) (by rw[isSubtype_type];kernel_rfl) (wpAny_pure ?_));rw[if_neg (by decide)];refine wpAny_pure ⟨plainId_quiet PySem.F.plain_extend_loop _,codeAny_extend_loopS W fits _ h _ n 0 _ _ _ rfl (Nat.zero_le _) d j (ItemsOf.nil P) λs' acc c m newS t=>?_⟩;show wpAny _ A (load s.heap.objs.size >>= _) _ _ s';refine wpAny_bind (wpAny_load newS (wpAny_pure (q s' acc (Moved.drop_new (o:={ cls:=.type "list",data:=.seq ([]:List Value).toArray }) (tk:=s.toks) m (nRq _)) t)))
def zhU (W:WalksS prog w A.in1.in1 J fp wr G n P St)(ty:∀ i u,St i u→u.TypeIs (.ref J) "list_reverseiterator")(a:St 0 s)(e:∀ b∈fp,b < s.heap.objs.size)(d:J∈fp)
  (q:∀ s' acc,Moved wr G s s'→ItemsOf P acc n→Q₁ (.ref s'.heap.objs.size) { s' with heap:=s'.heap.push { cls:=.type "tuple",data:=.seq acc } })(fits:n≤sizeLine) :
  codeAny (model prog w) A (.call (.builtin "tuple.__new__") ⟨[.type "tuple",.ref J],[]⟩) (wants Q₁ E) s:=by
 refine codeAny_of_tree ?_;show wpAny _ A.in1 (do checkBuiltinCall "tuple.__new__" ⟨[.type "tuple",.ref J],[]⟩;again (.builtin "tuple.__new__" ⟨[.type "tuple",.ref J],[]⟩)) _ _ s
 refine wpAny_bind (wpAny_of_eq (PySem.F.newCall_tuple_1 _) (wpAny_pure ⟨plainId_quiet PySem.F.plain_tuple_new _,codeAny_builtin PySem.F.entry_tuple_new ?_⟩));rw[Around.under_plainId PySem.F.plain_tuple_new _];have j:=sub_tuple_self;have h:=init_tuple_lookup;have g:=madeHere_tuple;have f:=ty 0 s a
 wp_walk using wpAny_typeOf f,zjF (fits:=fits) W ty a e d
 intro s' acc m c;show wpAny _ _ (Builtin.Tuple.tupleExact acc.toList.toArray >>= λu=>ret u) _ _ _;unfold Builtin.Tuple.tupleExact;refine wpAny_bind (wpAny_newObj_type (wpAny_pure ?_) (by show acc.toList.toArray.size≤sizeLine;simp only[Array.toArray_toList];rw[c.1];exact fits));rw[show acc.toList.toArray=acc by simp];exact q s' acc m c
def zhV (W:WalksS prog w A.in1.in1.in1 J fp wr G n P St)(ty:∀ i u,St i u→u.TypeIs (.ref J) "list_reverseiterator")(c:St 0 s)(e:∀ b∈fp,b < s.heap.objs.size)(d:J∈fp)
  (q:∀ s' acc,Moved wr G s s'→ItemsOf P acc n→Q (.ref s'.heap.objs.size) { s' with heap:=s'.heap.push { cls:=.type "tuple",data:=.seq acc } })(fits:n≤sizeLine):wpAny (model prog w) A (call (.type "tuple") [.ref J]) Q E s:=by
 refine callType_codes (Q₁:=λa u=>u.TypeIs a "tuple"∧Q a u) PySem.F.called_tuple (PySem.F.typeCall_tuple_1 _) PySem.F.entry_object_init
  (zhU (fits:=fits) W ty c e d λs' acc m f=>⟨⟨_,Heap.get?_push_size _ rfl,rfl⟩,q s' acc m f⟩) λa u z=>?_
 exact⟨z.1,PySem.F.args_object_init_2 a _,object_init_meets PySem.F.called_tuple.init.lookup PySem.F.called_tuple.made (by decide) prog w A.in1 _ u ⟨z.1,rfl,z.2⟩⟩
end
set_option maxRecDepth 100000
def zl6 (a v:Value):argsOk "max" ⟨[a],[(Str.ofString "default",v)]⟩:=by unfold argsOk;kernel_rfl
section
variable {prog:Program} {w:World} {A:Around} {R:Result→Shared→Prop} {J:Addr} {fp wr:List Addr} {n:Nat} {P:Nat→Value→Prop} {St:Nat→Heap→Prop} {kw:List (Str × Value)}
def zeH:(toString "max"++toString ".loop":String)="max.loop":=by decide
def zlP (W:Walks prog w A.in1 J fp wr n P St)(u:Nat→Nat→Bool)(H:CmpOf prog w A.in1 .Gt P u)(B:Addr)(C:B∉fp) :
  ∀(k j:Nat) (s:Shared) (i:Value) (c:Nat),n - (j+1)=k→j+1≤n→St (j+1) s.heap→P (argBest u j) i →
  s.heap.get? B=some { cls:=.type "list",dict:=none,data:=.seq #[i,i] c,slots:=#[] } →
  (∀ v h' tk,P (argBest u (n - 1)) v→(∀ b o,b∉wr→b≠B→s.heap.get? b=some o→h'.get? b=some o)→R (.ok (.ret v)) { s with heap:=h',toks:=tk }) →
  codeAny (model prog w) A (.builtin "max.loop" ⟨[.ref J,.none,.ref B],kw⟩) R s:=by
 have p:B∉wr:=λz=>C (W.sub _ z);intro k
 induction k with
 | zero =>
  intro j s i c L M st D f l;have K:j+1=n:=by lia
  refine codeAny_builtin PySem.F.entry_max_loop ?_;rw[Around.under_plainId PySem.F.plain_max_loop _];show wpAny _ A.in1 (seqItems? (.ref B) >>= _) _ _ s;refine wpAny_bind (wpAny_seqItems f rfl ?_);show wpAny _ A.in1 (tryCatch (pyNext (.ref J)) _ >>= _) _ _ s;refine wpAny_bind (wpAny_tryCatch (W.done s _ _ (K ▸ st) λh' tk d=>?_));have a:=d B _ p f;show wpAny _ A.in1 (updateSeq B (λ_=>#[]) >>= _) _ _ _;refine wpAny_bind (wpAny_updateSeq a rfl (wpAny_bind (wpAny_letGo (wpAny_pure ?_))));exact l i _ tk (by rw[←K];exact D) λb o t x e=>(Heap.get?_update_other _ _ (Ne.symm x)).trans (d b o t e)
 | succ k I =>
  intro j s i c L M st D f l;have G:j+1 < n:=by lia
  refine codeAny_builtin PySem.F.entry_max_loop ?_;rw[Around.under_plainId PySem.F.plain_max_loop _];show wpAny _ A.in1 (seqItems? (.ref B) >>= _) _ _ s;refine wpAny_bind (wpAny_seqItems f rfl ?_);show wpAny _ A.in1 (tryCatch (pyNext (.ref J)) _ >>= _) _ _ s;refine wpAny_bind (wpAny_tryCatch (W.item (j+1) s _ _ G st λv h' tk pv y d=>?_));have a:=d B _ p f;show wpAny _ A.in1 (tryCatch (holding [v,v] (richCompare .Gt v i >>= _)) _ >>= _) _ _ _;refine wpAny_bind (wpAny_tryCatch (wpAny_holding (wpAny_bind (H (j+1) (argBest u j) v i _ _ _ pv D ?_))));refine wpAny_bind (wpAny_holding (wpAny_truthy_bool (wpAny_bind (wpAny_letGo (wpAny_pure ?_)))));cases eb:u (j+1) (argBest u j) with
  | true =>
   simp only[if_true];refine wpAny_bind (wpAny_updateSeq a rfl (wpAny_bind (wpAny_letGo ?_)));rw[zeH];refine wpAny_pure ⟨plainId_quiet PySem.F.plain_max_loop _,I (j+1) _ v _ (by lia) G (W.frame _ _ _ y λb N o e=>(Heap.get?_update_other _ _ (λz:B=b=>C (by rw[z];exact N))).trans e) (by simp only[argBest,eb,if_true];exact pv) (Heap.get?_update_self _ a rfl) λE r h q g=>?_⟩;exact l E r h q λb o t x e=>g b o t x ((Heap.get?_update_other _ _ (Ne.symm x)).trans (d b o t e))
  | false =>
   simp only[Bool.false_eq_true,if_false];refine wpAny_bind (wpAny_letGo ?_);rw[zeH];refine wpAny_pure ⟨plainId_quiet PySem.F.plain_max_loop _,I (j+1) _ i c (by lia) G y (by simp only[argBest,eb,Bool.false_eq_true,if_false];exact D) a λE r h q g=>?_⟩;exact l E r h q λb o t x e=>g b o t x (d b o t e)
def zkI (W:Walks prog w A.in1 J fp wr n P St)(u:Nat→Nat→Bool)(t:CmpOf prog w A.in1 .Gt P u)(B:Addr)(h:B∉fp)(a:0 < n){s:Shared}{c:Nat}(st:St 0 s.heap)
  (g:s.heap.get? B=some { cls:=.type "list",dict:=none,data:=.seq #[] c,slots:=#[] })
  (r:∀ v h' tk,P (argBest u (n - 1)) v→(∀ b o,b∉wr→b≠B→s.heap.get? b=some o→h'.get? b=some o)→R (.ok (.ret v)) { s with heap:=h',toks:=tk }) :
  codeAny (model prog w) A (.builtin "max.loop" ⟨[.ref J,.none,.ref B],kw⟩) R s:=by have k:B∉wr:=λz=>h (W.sub _ z);refine codeAny_builtin PySem.F.entry_max_loop ?_;rw[Around.under_plainId PySem.F.plain_max_loop _];show wpAny _ A.in1 (seqItems? (.ref B) >>= _) _ _ s;refine wpAny_bind (wpAny_seqItems g rfl ?_);show wpAny _ A.in1 (tryCatch (pyNext (.ref J)) _ >>= _) _ _ s;refine wpAny_bind (wpAny_tryCatch (W.item 0 s _ _ a st λv h' tk pv l f=>?_));have d:=f B _ k g;show wpAny _ A.in1 (updateSeq B (λ_=>#[v,v]) >>= _) _ _ _;refine wpAny_bind (wpAny_updateSeq d rfl ?_);rw[zeH];refine wpAny_pure ⟨plainId_quiet PySem.F.plain_max_loop _,zlP W u t B h _ 0 _ v _ rfl a (W.frame _ _ _ l λb D o e=>(Heap.get?_update_other _ _ (λz:B=b=>h (by rw[z];exact D))).trans e) pv (Heap.get?_update_self _ d rfl) λC q j p i=>?_⟩;exact r C q j p λb o x y e=>i b o x y ((Heap.get?_update_other _ _ (Ne.symm y)).trans (f b o x e))
def zlO (W:Walks prog w A.in1 J fp wr 0 P St)(B:Addr)(h:B∉fp){s:Shared}{c:Nat}{nm:Str}{d:Value}(st:St 0 s.heap)
  (f:s.heap.get? B=some { cls:=.type "list",dict:=none,data:=.seq #[] c,slots:=#[] })
  (g:∀ h' tk,(∀ b o,b∉wr→b≠B→s.heap.get? b=some o→h'.get? b=some o)→R (.ok (.ret d)) { s with heap:=h',toks:=tk }) :
  codeAny (model prog w) A (.builtin "max.loop" ⟨[.ref J,.none,.ref B],[(nm,d)]⟩) R s:=by refine codeAny_builtin PySem.F.entry_max_loop ?_;rw[Around.under_plainId PySem.F.plain_max_loop _];show wpAny _ A.in1 (seqItems? (.ref B) >>= _) _ _ s;refine wpAny_bind (wpAny_seqItems f rfl ?_);show wpAny _ A.in1 (tryCatch (pyNext (.ref J)) _ >>= _) _ _ s;refine wpAny_bind (wpAny_tryCatch (W.done s _ _ st λh' tk a=>?_));refine wpAny_bind (wpAny_rule (wpAny_pure ?_));exact g h' tk λb o i _ e=>a b o i e
end
section
variable {prog:Program} {w:World} {A:Around} {E:Value→Shared→Prop} {s:Shared}
theorem zik
  (h:wpAny (model prog w) A.in1 (pyIter x) (λit s₂=>∃ J fp wr n P St bt,it=.ref J∧Walks prog w A.in1 J fp wr n P St∧St 0 s₂.heap∧(∀ b∈fp,b < s₂.heap.objs.size)∧CmpOf prog w A.in1 .Gt P bt ∧
   (n=0→∀ h' tk,(∀ b o,b∉wr→s₂.heap.get? b=some o→h'.get? b=some o)→Q d { s₂ with heap:=h',toks:=tk }) ∧
   (0 < n→∀ v h' tk,P (argBest bt (n - 1)) v→(∀ b o,b∉wr→s₂.heap.get? b=some o→h'.get? b=some o)→Q v { s₂ with heap:=h',toks:=tk })) E s) :
  wpAny (model prog w) A (call (.builtin "max") [x] [(Str.ofString "default",d)]) Q E s:=by
 refine PyProof.Rows.kmk_tree PySem.F.kind_max PySem.F.plain_max PySem.F.entry_max (zl6 _ _) ?_;show wpAny _ A.in1 (Builtin.Builtins.bindParams "max" ["key","default"] 0 ⟨[],[(Str.ofString "default",d)]⟩ >>= _) _ _ s;refine wpAny_bind (wpAny_of_eq (show Builtin.Builtins.bindParams "max" ["key","default"] 0 ⟨[],[(Str.ofString "default",d)]⟩=pure [none,some d] from rfl) (wpAny_bind (wpAny_pure ?_)));refine wpAny_bind (wpAny_mono h (λit s₂ h₂=>?_) λ_ _ e=>e);obtain⟨J,fp,wr,n,P,St,bt,rfl,W,st,low,cmp,q0,q1⟩:=h₂;refine wpAny_bind (wpAny_newObj_type ?_);have out:s₂.heap.objs.size∉fp:=λz=>Nat.lt_irrefl _ (low _ z);rw[zeH];have st':=W.frame _ _ (s₂.heap.push { cls:=.type "list",data:=.seq ([]:List Value).toArray }) st λb _ o e=>hG _ e;rcases Nat.eq_zero_or_pos n with z | z
 ·subst z;exact wpAny_pure ⟨plainId_quiet PySem.F.plain_max_loop _,zlO W s₂.heap.objs.size out st' (Heap.get?_push_size _ rfl) λh' tk kept=>q0 rfl h' tk λb o bw e=>kept b o bw (Nat.ne_of_lt (hLq e)) (hG _ e)⟩
 ·exact wpAny_pure ⟨plainId_quiet PySem.F.plain_max_loop _,zkI W bt cmp s₂.heap.objs.size out z st' (Heap.get?_push_size _ rfl) λv h' tk pv kept=>q1 z v h' tk pv λb o bw e=>kept b o bw (Nat.ne_of_lt (hLq e)) (hG _ e)⟩
end
section
variable {X:Cx}
def tMaxd (K:W.Frag)(d tk:TA):TE:=λb H Q=>d b H λvs e=>tk b e λzs a=>∃(p:Addr) (ns:List Int) (c:Int),vs=[.ref p]∧zs=[.int c]∧SqInt K a p ns∧(ns=[]→Q (.int c) a)∧∀ m∈ns,(∀ n∈ns,n≤m)→Q (.int m) a
def znI (S:X.calm=true)(hg:Gl X "max")(hm:X.mg "max"=none)(ha:PA X [e] ta)(f:PK X [⟨some "default",d,kp⟩] tk)
  (he:starEach [e] X.env=(false,eval e X.env) :: []:=by rfl)(M:(backTo pos (starEach [e] X.env)).any (·.1)=false:=by rfl)(P:(backToKw pos (keywordEach [⟨some "default",d,kp⟩] X.env)).any (·.1.isNone)=false:=by rfl)
  (E:(backToKw pos (keywordEach [⟨some "default",d,kp⟩] X.env)).all (·.1.isSome)=true:=by rfl)(O:(backToKw pos (keywordEach [⟨some "default",d,kp⟩] X.env)).filterMap (·.1)=[Str.ofString "default"]:=by rfl) :
  PE X (.Call (.Name "max" p) [e] [⟨some "default",d,kp⟩] pos) (tMaxd X.K ta tk):=by
 intro g s J H Q I h;refine wpAny_Call_Name_kw (zbU I hg hm PyProof.Rows.Boot.max ?_);refine PyProof.Rows.callWith_builtin_kwB M P ?_;have U:=ha pos g s J H _ I h;rw[he]at U ⊢;refine evalArgs_kw E (thn U λus Z ⟨vs,H1,I1,r1,q1⟩=>thn (f pos g Z J H1 _ I1 q1) λws c ⟨zs,W,y,r2,pp,ns,R,ev,ez,C,q0,q⟩=>?_);subst ev ez;obtain⟨u,rfl,ru⟩:=r1.one;cases ru;obtain⟨v,rfl,t,rfl⟩:=r2.one;rw[O];show wpAny _ _ (call (.builtin "max") [Value.ref pp] [(Str.ofString "default",Value.int R t)]) _ _ c;have k:∀ {it:Addr} {l:Obj} {h':Heap},(∀ b o,b∉[c.heap.objs.size]→(c.heap.push l).get? b=some o→h'.get? b=some o)→∀ b o,c.heap.get? b=some o→h'.get? b=some o:=λ{it l h'} f b o e=>f b o (λz=>by
  have:b=c.heap.objs.size:=by simpa using z
  exact absurd (hLq e) (by rw[this];exact Nat.lt_irrefl _)) (hG _ e)
 have B:∀ {l:Obj},pp < c.heap.objs.size→∀ b∈[c.heap.objs.size,pp],b < (c.heap.push l).objs.size:=λ{l} x b T=>by
  rw[Heap.size_push];simp only[List.mem_cons,List.not_mem_nil,or_false]at T;rcases T with rfl | rfl
  ·exact Nat.lt_succ_self _
  ·exact Nat.lt_succ_of_lt x
 have w:∀ {h':Heap} {tk:Nat},ns=[]→(∀ b o,c.heap.get? b=some o→h'.get? b=some o)→EP X g J Q (.int R t) { c with heap:=h',toks:=tk }:=λ{h' tk} en f=>⟨.int R,W,y.kept (t':=tk) f,⟨t,rfl⟩,q0 en⟩;have G:∀ {a:List Value} {v:Value} {h':Heap} {tk:Nat},aQ (ns.map V.int) a→0 < a.toArray.size→a.toArray[argBest (λi j=>decide (ns.getD i 0 > ns.getD j 0)) (a.toArray.size - 1)]?=some v→(∀ b o,c.heap.get? b=some o→h'.get? b=some o)→EP X g J Q v { c with heap:=h',toks:=tk }:=λ{a v h' tk} r Y F f=>by
  obtain⟨t,rfl⟩:=zhu r _ _ F;have D:=r.length;rw[lM]at D;have n0:0 < ns.length:=by simp only[sA]at Y;lia
  have es:a.toArray.size - 1=ns.length - 1:=by simp only[sA];lia
  rw[es];obtain⟨b1,b2⟩:=zkh (λi=>ns.getD i 0) (ns.length - 1);exact⟨.int _,W,y.kept (t':=tk) f,⟨t,rfl⟩,q _ (zm7 (by lia)) λn hn=>by obtain⟨i,hi,e⟩:=zmX hn;rw[←e];exact b2 i (by lia)⟩
 rcases C with C | C
 ·obtain⟨a,r,pl,hz⟩:=y.list C;have D:=r.length;rw[lM]at D;have x:pp < c.heap.objs.size:=by obtain⟨o,N,_⟩:=pl.isList;exact hLq N
  refine zik (wpAny_pyIter_list pl.isList ?_);exact⟨c.heap.objs.size,[c.heap.objs.size,pp],[c.heap.objs.size],a.toArray.size,_,_,λi j=>decide (ns.getD i 0 > ns.getD j 0),rfl,Walks.list (show X.A.in1.handled=none from y.ok.hd S) _ pp (Nat.ne_of_lt x) a.toArray,⟨⟨_,Heap.get?_push_size _ rfl,rfl,rfl⟩,pl.isList.push _⟩,B x,CmpOf.ints_gt (λi=>ns.getD i 0) (zhu r),
   λz h' tk f=>w (List.length_eq_zero_iff.mp (by simp only[sA]at z;lia)) (k (it:=pp) f),λz v h' tk F f=>G r z F (k (it:=pp) f)⟩
 ·obtain⟨a,r,pl,hz⟩:=y.tuple C;have D:=r.length;rw[lM]at D;have L:c.heap.IsTuple pp a.toArray:=pl;have x:pp < c.heap.objs.size:=by obtain⟨o,N,_⟩:=id L;exact hLq N
  refine zik (wpAny_pyIter_tuple L ?_);exact⟨c.heap.objs.size,[c.heap.objs.size,pp],[c.heap.objs.size],a.toArray.size,_,_,λi j=>decide (ns.getD i 0 > ns.getD j 0),rfl,Walks.tuple (show X.A.in1.handled=none from y.ok.hd S) _ pp (Nat.ne_of_lt x) a.toArray,⟨⟨_,Heap.get?_push_size _ rfl,rfl,rfl⟩,L.push _⟩,B x,CmpOf.ints_gt (λi=>ns.getD i 0) (zhu r),
   λz h' tk f=>w (List.length_eq_zero_iff.mp (by simp only[sA]at z;lia)) (k (it:=pp) f),λz v h' tk F f=>G r z F (k (it:=pp) f)⟩
def znl (K:W.Frag)(d:TA):TE:=λc H Q=>d c H λvs b=>∃(a:Addr) (xs:List V),vs=[.ref a]∧SqL K b a xs∧∀ l,b l=none→Q (.ref l) (upd b l (.tup xs.reverse))
def zlw (Z:X.calm=true)(Y:Gl X "tuple")(U:X.mg "tuple"=none)(D:Gl X "reversed")(B:X.mg "reversed"=none)(x:PA X [a] ta)(hs:starEach [a] X.env=[(false,eval a X.env)]:=by rfl)
  (v:starEach [.Call (.Name "reversed" p2) [a] [] pos2] X.env=[(false,eval (.Call (.Name "reversed" p2) [a] [] pos2) X.env)]:=by rfl) :
  PE X (.Call (.Name "tuple" p) [.Call (.Name "reversed" p2) [a] [] pos2] [] pos) (znl X.K ta):=by
 intro k s y H Q I h;refine wpAny_Call_Name_kw (zbU I Y U PyProof.Rows.Boot.tuple (PyProof.Rows.callWith_type1 ?_ v rfl));rw[v];show wpAny _ _ (spliced [(false,eval (.Call (.Name "reversed" p2) [a] [] pos2) X.env)]) _ _ s;refine Calls.spliced_cons (Call_ (zbU I D B boot_reversed (PyProof.Rows.callWith_type1 (thn (x pos2 k s y H _ I h) λus f ⟨vs,N,E,P,q1⟩=>?_) hs rfl)));obtain⟨a,xs,e,T,q⟩:=q1;subst e;obtain⟨u,rfl,O⟩:=P.one;cases O;obtain⟨c,F,pl,S⟩:=E.list T;have hl:=F.length;have la:a < f.heap.objs.size:=by obtain⟨o,v,_⟩:=pl.isList;exact hLq v
 refine call_reversed_list pl.isList (Calls.spliced_nil ?_);have W:=Walks.listRev (prog:=X.prog) (w:=X.w) (A:=X.A.in1.in1.in1) (E.ok.hd Z) f.heap.objs.size a (Nat.ne_of_lt la) c.toArray;have C:Heap.IsRevIter (f.heap.push (revObj a ((c.toArray.size:Int) - 1))) f.heap.objs.size a ((c.toArray.size:Int) - 1):=⟨_,Heap.get?_push_size _ rfl,rfl,rfl⟩;refine zhV W.toS (λi u st=>st.2.1.typeIs) ⟨Nat.zero_le _,by simpa using C,pl.isList.push _⟩ (λb L=>?_) (by simp) (λs' acc r its'=>?_) (by simp only[sA];lia)
 ·show b < (f.heap.push _).objs.size;rw[Heap.size_push];simp only[List.mem_cons,List.not_mem_nil,or_false]at L;rcases L with rfl | rfl
  ·exact Nat.lt_succ_self _
  ·exact Nat.lt_succ_of_lt la
 ·have l:∀ b o,f.heap.get? b=some o→s'.heap.get? b=some o:=λb o e=>r.heap b o (λz=>by
   have:b=f.heap.objs.size:=by simpa using z
   exact absurd (hLq e) (by rw[this];exact Nat.lt_irrefl _)) (hG _ e)
  have e1:s'={ f with heap:=s'.heap,toks:=s'.toks }:=by obtain⟨J,g,d,t,R⟩:=s';have a1:g=f.gens:=r.gens;have a2:d=f.drawn:=r.drawn;have a3:R=f.os:=r.os;subst a1 a2 a3;rfl
  have n:acc=c.reverse.toArray:=by
   apply Array.ext';apply List.ext_getElem?;intro j;have hsz:=its'.1;simp only[sA]at hsz;rcases Nat.lt_or_ge j c.length with G | G
   ·have x:acc[j]?=some (acc[j]'(by lia)):=Array.getElem?_eq_getElem (by lia);have J:=its'.2 j _ x;rw[Array.getElem?_toList,x,←J];simp only[sA];rw[List.getElem?_toArray,List.getElem?_reverse G]
   ·rw[List.getElem?_eq_none (by simp;lia),List.getElem?_eq_none (by simp;lia)]
  have M:Inv X k y N s':=by rw[e1];exact E.kept (t':=s'.toks) l
  have I3:Inv X k y (upd N s'.heap.objs.size (.tup xs.reverse)) { s' with heap:=s'.heap.push { cls:=.type "tuple",data:=.seq acc } } :=
   M.laid (t':=s'.toks) (λb o e=>hG _ e) (nRq _) (show zaz X.prog X.w _ _ _ (.tup xs.reverse) from⟨by rw[List.length_reverse];exact S,c.reverse,F.reverse,by rw[n];exact zeg.new _ _⟩)
  exact⟨.ref s'.heap.objs.size,_,I3,rfl,q _ M.fresh⟩
end
end L2
namespace HT
open PySem PyProof.Rows
section
variable {prog:Program} {w:World} {A:Around} {E:Value→Shared→Prop} {s:Shared}
def getItem_tuple_whole {t c:Addr}{items:Array Value}{i g:Value}{lo b:Option Int}{Q:Value→Shared→Prop}(a:IsTup s.heap t items)(hs:s.heap.IsSliceOf c i g .none)(pl:IsPart i lo)(k:IsPart g b)
  (j:sIx items.size 0 lo=0∧sIx items.size items.size b=items.size)(h:Q (.ref t) s):wpAny (model prog w) A (getItem (.ref t) (.ref c)) Q E s:=by
 obtain⟨l,d,e,n⟩:=id hs;have f:s.TypeIs (.ref c) "slice":=⟨l,d,e⟩;unfold getItem
 try with_reducible refine wpAny_holding ?_
 first | refine wpAny_bind (wpAny_pure ?_) | skip
 refine wpAny_bind (wpAny_sequenceKey a.typeIs (by decide) ?_);refine wpAny_bind (wpAny_callSpecial?_slot (name:=Str.ofString "__getitem__") a.typeIs PyProof.Rows.slot_tuple_getitem
  (wpAny_call_entry PyProof.Rows.slot_tuple_getitem a.typeIs entry_tuple_getitem ?_ (args_tuple_getitem _ _)))
 show wpAny _ _ (Builtin.Tuple.tupleItemsOf (.ref t) >>= _) _ _ s;refine wpAny_bind (tupleItemsOf_ a ?_);refine wpAny_bind (wpAny_typeOf f ?_);rw[if_pos (by decide)];refine wpAny_bind (zez hs pl k ?_);have yes:(((sIx items.size 0 lo:Nat):Int) == 0&&(1:Int) == 1&&(sIx items.size items.size b - sIx items.size 0 lo) == items.size)=true:=by rw[j.1,j.2];simp
 show wpAny _ _ (if(((sIx items.size 0 lo:Nat):Int) == 0&&(1:Int) == 1&&(sIx items.size items.size b - sIx items.size 0 lo) == items.size)=true then _ else _) _ _ s
 rw[if_pos yes];refine wpAny_bind ?_;unfold Builtin.Tuple.tupleIsExact;refine wpAny_bind (wpAny_typeOf a.typeIs (wpAny_pure ?_));rw[if_pos (by decide)];exact wpAny_bind (wpAny_rule (wpAny_pure ⟨_,rfl,wpAny_pure h⟩))
end
end HT
namespace L2
open PySem PySem.Spec PyProof.Rows
section
variable {X:Cx}
inductive zkq (K:W.Frag):V→Option Int→Option Int→Hp→VK→Prop|m{x lo hi H Q} a xs:x=.ref a→SqT K H a xs→(HT.sIx xs.length 0 lo=0∧HT.sIx xs.length xs.length hi=xs.length)→Q (.ref a) H→zkq K x lo hi H Q
def znq:SlR X (zkq X.K):=by
 intro d s k H x v n l lo t o Q I f hs pl g h;obtain⟨a,xs,rfl,i,j,q⟩:=h;cases f;obtain⟨c,r,e,p⟩:=I.tuple i;have b:c.toArray.size=xs.length:=by rw[sA];exact r.length.symm
 refine⟨"tuple",_,PyProof.Rows.slot_tuple_getitem.lookup,e.typeIs,?_⟩;exact HT.getItem_tuple_whole e hs pl g (by rw[b];exact j) ⟨.ref a,H,I,rfl,q⟩
def rSlTA (K:W.Frag):V→Option Int→Option Int→Hp→VK→Prop:=λx lo a H Q=>rSlT K x lo a H Q∨zkq K x lo a H Q
def zjI:SlR X (rSlTA X.K):=sl_tup.or znq
end
end L2
namespace L2
open PySem
def zaS (t:Int × Int):Int:=if t.2=-1 then 1 else 0
def cnt:List (Int × Int)→Int
 | []=>0
 | t :: ts=>zaS t+cnt ts
def zci:∀(b bs:List (Int × Int)),cnt (b++bs)=cnt b+cnt bs
 | [],bs=>by simp [cnt]
 | a :: b,bs=>by simp only[List.cons_append,cnt,zci b bs];lia
def zet {ts:List (Int × Int)}{i:Nat}{t:Int × Int}(h:ts[i]?=some t):cnt (ts.take (i+1))=cnt (ts.take i)+zaS t:=by rw[zan h,zci];simp [cnt]
def zdL:∀ ts:List (Int × Int),0≤cnt ts
 | []=>Int.le_refl _
 | t :: ts=>by have:=zdL ts;simp only[cnt,zaS];split <;> lia
def zdk (ts:List (Int × Int))(n:Nat):List Int:=(List.range n).map λi=>cnt (ts.take (i+1))
def zlS (ts:List (Int × Int))(n:Nat):zdk ts (n+1)=zdk ts n++[cnt (ts.take (n+1))]:=by unfold zdk;rw[List.range_succ,mAq];rfl
def zjg (ts:List (Int × Int))(n:Nat):(zdk ts n).length=n:=by simp [zdk]
def zmZ (ts:List (Int × Int)){n i:Nat}(h:i < n):(zdk ts n)[i]?=some (cnt (ts.take (i+1))):=by unfold zdk;rw[List.getElem?_map,List.getElem?_range h];rfl
def negs (ts:List (Int × Int)):List Int:=ts.map λt=>-t.1
def zdB {ts:List (Int × Int)}{i:Nat}{t:Int × Int}(h:ts[i]?=some t):(negs ts)[i]?=some (-t.1):=by unfold negs;rw[List.getElem?_map,h];rfl
def zbP (ts:List (Int × Int)):(negs ts).length=ts.length:=lM _
def zjf:p∈negs ts↔-p∈ts.map Prod.fst:=by
 unfold negs;rw[List.mem_map,List.mem_map];constructor
 ·rintro ⟨t,a,e⟩;exact⟨t,a,by lia⟩
 ·rintro ⟨t,a,e⟩;exact⟨t,a,by lia⟩
def lvF (ts:List (Int × Int))(p:Int):Int:=cnt (ts.take ((negs ts).idxOf p+1))
def zbT {ts:List (Int × Int)}{i:Nat}{t:Int × Int}(a:(negs ts).Nodup)(h:ts[i]?=some t):lvF ts (-t.1)=cnt (ts.take (i+1)):=by have c:=zdB h;obtain⟨b,e⟩:=gEq c;unfold lvF;rw[←e,List.Nodup.idxOf_getElem a i b]
def Lev (H:Hp)(d:Addr)(ts:List (Int × Int)):Prop:=∃ kvs:List (Key × V),H d=some (.dK kvs)∧∀ p:Int,zam kvs (Sum.inl p)=if p∈negs ts then some (.int (lvF ts p)) else none
def Lev.same (h:Lev H d ts)(s:ap H H'):Lev H' d ts:=by obtain⟨kvs,b,a⟩:=h;exact⟨kvs,s _ _ b,a⟩
def Kst (H:Hp)(d:Addr)(ks:List Int)(n:Nat):Prop:=∃ kvs:List (Key × V),H d=some (.dK kvs)∧(∀ m:Int,(zam kvs (Sum.inl m)).isSome=decide (m∈ks))∧kvs.length≤n∧∀ a∈kvs,∃ m:Int,a.1=Sum.inl m
def Kst.same (h:Kst H d ks n)(s:ap H H'):Kst H' d ks n:=by obtain⟨kvs,b,a⟩:=h;exact⟨kvs,s _ _ b,a⟩
def zjq (kvs:List (Key × V))(k j:Key):zam (zbs kvs k) j=if j=k then none else zam kvs j:=by
 unfold zbs
 induction kvs with
 | nil=>simp [zam]
 | cons c kvs d =>
  rw[List.filter_cons];by_cases e:c.1=k
  ·rw[if_neg (by simp [e]),d];by_cases a:j=k
   ·rw[if_pos a,if_pos a]
   ·rw[if_neg a,if_neg a,za3 (λz=>a (z.symm.trans e))]
  ·rw[if_pos (by simp [e])];by_cases a:c.1=j
   ·have:j≠k:=λz=>e (a.trans z);rw[zbb a,if_neg this,zbb a]
   ·rw[za3 a,d];by_cases b:j=k
    ·rw[if_pos b,if_pos b]
    ·rw[if_neg b,if_neg b,za3 a]
def Kst.pop {H:Hp}{d:Addr}{ks:List Int}{n:Nat}{kvs:List (Key × V)}{p:Int}(g:∀ m:Int,(zam kvs (Sum.inl m)).isSome=decide (m∈ks))(f:kvs.length≤n)(c:∀ a∈kvs,∃ m:Int,a.1=Sum.inl m):Kst (upd H d (.dK (zbs kvs (Sum.inl p)))) d (ks.filter λm=>decide (m≠p)) n:=by
 refine⟨_,af,λm=>?_,Nat.le_trans (List.length_filter_le _ _) f,λa b=>c a ((List.mem_filter.mp b).1)⟩;rw[zjq];by_cases e:m=p
 ·subst e;rw[if_pos rfl];simp
 ·rw[if_neg (λz=>e (by cases z;rfl)),g];simp [e]
def zlL:∀(ps:List Int) (kvs:List (Key × V)) (m:Int),(zam (zaf kvs (zaf [] (tkv ps))) (Sum.inl m)).isSome=((zam kvs (Sum.inl m)).isSome||decide (m∈ps)):=by
 have c:∀(a kvs:List (Key × V)) (m:Int),(zam (zaf kvs a) (Sum.inl m)).isSome=((zam kvs (Sum.inl m)).isSome||(zam a (Sum.inl m)).isSome):=by
  intro a
  induction a with
  | nil=>intro kvs m;simp [zaf,zam]
  | cons b a d =>
   intro kvs m;show(zam (zaf (zav kvs b.1 b.2) a) (Sum.inl m)).isSome=_;rw[d,zem];by_cases e:b.1=Sum.inl m
   ·rw[if_pos e.symm,zbb e];simp
   ·rw[if_neg (Ne.symm e),za3 e]
 intro ps kvs m;rw[c,(zha ps).1]
def zlM (a kvs:List (Key × V)):(zaf kvs a).length≤kvs.length+a.length:=by
 induction a generalizing kvs with
 | nil=>exact nRq _
 | cons b a c =>
  have e:=c (zav kvs b.1 b.2);have d:=zfi kvs b.1 b.2;show(zaf (zav kvs b.1 b.2) a).length≤_;rw[List.length_cons];lia
def zmq {kvs:List (Key × V)}{k:Key}{v:V}(h:∀ b∈kvs,∃ m:Int,b.1=Sum.inl m)(d:∃ m:Int,k=Sum.inl m):∀ b∈zav kvs k v,∃ m:Int,b.1=Sum.inl m:=by
 unfold zav;split
 ·intro b a;obtain⟨q,c,e⟩:=List.mem_map.mp a;split at e
  ·rw[←e];exact h q c
  ·rw[←e];exact h q c
 ·intro b a;rcases mPq a with q | q
  ·exact h b q
  ·rw[mS q];exact d
def zhn {a:List (Key × V)}(c:∀ b∈a,∃ m:Int,b.1=Sum.inl m):∀ {kvs:List (Key × V)},(∀ b∈kvs,∃ m:Int,b.1=Sum.inl m)→∀ b∈zaf kvs a,∃ m:Int,b.1=Sum.inl m:=by
 induction a with
 | nil=>exact λh=>h
 | cons b a d =>
  intro kvs h;exact d (λq e=>c q (List.mem_cons_of_mem _ e)) (zmq h (c b List.mem_cons_self))
def ziX (ps:List Int):∀ b∈zaf [] (tkv ps),∃ m:Int,b.1=Sum.inl m :=
 zhn (λb a=>by unfold tkv at a;obtain⟨p,_,e⟩:=List.mem_map.mp a;exact⟨p,by rw[←e]⟩) (λ_ h=>absurd h (by simp))
def Kst.of:Kst (upd H d (.dK (zaf [] (tkv ps)))) d ps ps.length:=⟨_,af,(zha ps).1,(zha ps).2,ziX ps⟩
def zbf (ts:List (Int × Int))(ks:List Int)(a p y:Int):Bool:=decide (p∈ks)&&(decide (y≠-1)&&(decide (lvF ts p=0)||(decide (lvF ts p=a)&&ks.any λo=>decide (o≠p)&&decide (lvF ts o=a))))
def zcy (Rs:List (List Int))(ts:List (Int × Int))(a:Int)(st:List Int × List Int)(t:Int × Int):List Int × List Int :=
 if zbf ts st.1 a (-t.1) t.2=true then((st.1.filter λm=>decide (m≠-t.1))++(aS Rs t.2).filter (λm=>decide (m≠t.1)),st.2++[t.2]) else st
def lrn (Rs:List (List Int))(ts:List (Int × Int))(f:Int)(i:Nat):List Int × List Int:=(ts.reverse.take i).foldl (zcy Rs ts (cnt ts)) (aS Rs f,[f])
def zdC (h:ts.reverse[i]?=some t):lrn Rs ts f (i+1)=zcy Rs ts (cnt ts) (lrn Rs ts f i) t:=by unfold lrn;rw[zan h,List.foldl_append];rfl
def zcU (Rs:List (List Int))(ts:List (Int × Int))(f:Int):List Int:=(lrn Rs ts f ts.length).1
def zbr (Rs:List (List Int))(ts:List (Int × Int))(f:Int):List Int:=(lrn Rs ts f ts.length).2
def aX (Rs:List (List Int))(ts:List (Int × Int))(f:Int):List Int:=(negs ts).reverse.filter λp=>decide (p∈zcU Rs ts f)
def zel (l:List Int)(m:Int):Prop:=(l=[]→m=0)∧(l≠[]→m∈l∧∀ n∈l,n≤m)
structure zc9 (Rs:List (List Int))(ts:List (Int × Int))(f:Int):Prop where
 nd:(negs ts).Nodup
 f0:0≤f
 f1:f < (Rs.length:Int)
 fp:∀ p∈aS Rs f,p∈negs ts
 why:∀ t∈ts,t.2≠-1→0≤t.2∧t.2 < (Rs.length:Int)∧∀ p∈aS Rs t.2,p≠t.1→p∈negs ts
def zgp (c:zc9 Rs ts f):∀ i,∀ p∈(lrn Rs ts f i).1,p∈negs ts:=by
 intro i
 induction i with
 | zero=>exact c.fp
 | succ i b =>
  rcases Nat.lt_or_ge i ts.reverse.length with a | a
  ·rw[zdC (gG a)];have d:ts.reverse[i]∈ts:=List.mem_reverse.mp (List.getElem_mem a);unfold zcy;split
   ·rename_i e;intro p g;rcases mPq g with q | q
    ·exact b p ((List.mem_filter.mp q).1)
    ·have y:ts.reverse[i].2≠-1:=by unfold zbf at e;rw[Bool.and_eq_true,Bool.and_eq_true]at e;exact oDq e.2.1
     have:=List.mem_filter.mp q;exact(c.why _ d y).2.2 p this.1 (oDq this.2)
   ·exact b
  ·have e:lrn Rs ts f (i+1)=lrn Rs ts f i:=by unfold lrn;rw[tO (by lia),tO a]
   rw[e];exact b
def zm3 (Rs:List (List Int))(ts:List (Int × Int))(f:Int):∀ i,(lrn Rs ts f i).2.length≤1+i:=by
 intro i
 induction i with
 | zero=>exact nRq _
 | succ i b =>
  rcases Nat.lt_or_ge i ts.reverse.length with a | a
  ·rw[zdC (gG a)];unfold zcy;split
   ·rw[lAq];simp only[lS];lia
   ·lia
  ·have e:lrn Rs ts f (i+1)=lrn Rs ts f i:=by unfold lrn;rw[tO (by lia),tO a]
   rw[e];lia
def zjx {K:W.Frag}{H:Hp}{a:Addr}{ps:List Int}{Q:VK}(h:SqT K H a (ps.map V.int))(q:∀ H' t,ap H H'→SqT K H' t ((ps.drop 1).map V.int)→Q (.ref t) H'):rSlTA K (.ref a) (some 1) none H Q:=by
 have b:HT.sIx (ps.map V.int).length 0 (some 1)=min 1 (ps.map V.int).length:=HT.sIx_nat _ _ 1;have f:HT.sIx (ps.map V.int).length (ps.map V.int).length none=(ps.map V.int).length:=HT.sIx_none _ _;cases ps with
 | nil=>exact .inr ⟨a,_,rfl,h,⟨rfl,rfl⟩,q H a (ap.refl _) h⟩
 | cons p ps =>
  refine .inl ⟨a,_,rfl,h,λz=>?_,λt d=>q _ t (au d _) ?_⟩
  ·have c:=z.1;rw[b,lM,List.length_cons]at c;lia
  ·have e:zcp ((p :: ps).map V.int) (some 1) none=((p :: ps).drop 1).map V.int:=by unfold zcp;rw[b,f,lM,List.length_cons,Nat.min_eq_left (by lia),←List.map_drop,tO (by rw[lM,List.length_drop,List.length_cons];exact nRq _)]
   rw[e];exact SqT.of af
def zd9 {ts:List (Int × Int)}{i:Nat}(h:i < ts.length):ts.reverse[i]?=ts[ts.length - 1 - i]?:=by rw[List.getElem?_reverse h]
def zje (ts:List (Int × Int)):(negs ts).reverse=ts.reverse.map λt=>-t.1:=by unfold negs;rw[List.map_reverse]
def Kst.ne (h:Kst H d ks n)(a:H l=some (.lst xs)):l≠d:=λe=>by obtain⟨kvs,b,_⟩:=h;rw[e,b]at a;cases a
def Lev.ne (h:Lev H d ts)(a:H l=some (.lst xs)):l≠d:=λe=>by obtain⟨kvs,b,_⟩:=h;rw[e,b]at a;cases a
def TOk (Rs:List (List Int))(ts:List (Int × Int)):Prop:=∀(i:Nat) (t:Int × Int),ts[i]?=some t →
 t.1≠0∧(-60≤t.1∧t.1≤60)∧t.1∉(ts.take i).map Prod.fst∧-t.1∉(ts.take i).map Prod.fst ∧
 (t.2=-1∨∃(k:Nat) (r:List Int),t.2=(k:Int)∧Rs[k]?=some r∧t.1∈r∧∀ p∈r,p≠t.1→-p∈(ts.take i).map Prod.fst)
def TOk.nil (Rs:List (List Int)):TOk Rs []:=λi t h=>by cases h
def ziY {a:Type}{xs ys:List a}{i:Nat}(h:i≤xs.length):(xs++ys).take i=xs.take i:=by rw[List.take_append,show i - xs.length=0 by lia];simp
def TOk.snoc {Rs:List (List Int)}{ts:List (Int × Int)}{t:Int × Int}(h:TOk Rs ts)(h0:t.1≠0)(c:-60≤t.1∧t.1≤60)(b:t.1∉ts.map Prod.fst)(a:-t.1∉ts.map Prod.fst)
  (y:t.2=-1∨∃(k:Nat) (r:List Int),t.2=(k:Int)∧Rs[k]?=some r∧t.1∈r∧∀ p∈r,p≠t.1→-p∈ts.map Prod.fst):TOk Rs (ts++[t]):=λi u e=>by
 rcases Nat.lt_or_ge i ts.length with q | q
 ·rw[List.getElem?_append_left q]at e;rw[ziY (Nat.le_of_lt q)];exact h i u e
 ·rw[List.getElem?_append_right q]at e;have f:i - ts.length=0:=by obtain⟨z,_⟩:=gEq e;simp only[lS]at z;lia
  rw[f]at e;cases e;have d:i=ts.length:=by lia
  subst d;rw[ziY (nRq _),List.take_length];exact⟨h0,c,b,a,y⟩
def TOk.nd (h:TOk Rs ts):∀ i j:Nat,i < j→∀ t u:Int × Int,ts[i]?=some t→ts[j]?=some u→t.1≠u.1∧t.1≠-u.1:=λi j a t u d c=>by
 have q:=h j u c;have b:t.1∈(ts.take j).map Prod.fst:=by refine List.mem_map.mpr ⟨t,?_,rfl⟩;refine mOq (i:=i) ?_;rw[List.getElem?_take,if_pos a];exact d
 exact⟨λe=>q.2.2.1 (by rw[←e];exact b),λe=>q.2.2.2.1 (by rw[←e];exact b)⟩
def TOk.negs (h:TOk Rs ts):(L2.negs ts).Nodup:=by rw[List.nodup_iff_pairwise_ne,List.pairwise_iff_getElem];intro i j b a c e;rw[zbP]at b a;have q:=(h.nd i j c _ _ (gG b) (gG a)).1;have k:=zdB (gG b);have g:=zdB (gG a);rw[gG (by rw[zbP];exact b)]at k;rw[gG (by rw[zbP];exact a)]at g;have f:=Option.some.inj k;have d:=Option.some.inj g;rw[f,d]at e;lia
def TOk.atoms (h:TOk Rs ts):(ts.map λt=>t.1.natAbs).Nodup:=by rw[List.nodup_iff_pairwise_ne,List.pairwise_iff_getElem];intro i j c b a e;rw[lM]at c b;have q:=h.nd i j a _ _ (gG c) (gG b);rw[List.getElem_map,List.getElem_map]at e;have q1:=q.1;have d:=q.2;lia
def zfV:∀(n:Nat) {xs:List Nat},xs.Nodup→(∀ x∈xs,x < n)→xs.length≤n
 | 0,[],_,_=>nRq _
 | 0,x :: xs,_,h=>absurd (h x List.mem_cons_self) (Nat.not_lt_zero _)
 | n+1,xs,a,h=>by
  have q:=zfV n (a.erase n) (λx b=>by have z:=(List.Nodup.mem_erase_iff a).mp b;have:=h x z.2;have:=z.1;lia)
  rw[List.length_erase]at q;split at q <;> lia
def TOk.len (h:TOk Rs ts):ts.length≤61:=by
 have q:=zfV 61 h.atoms (λx a=>by obtain⟨t,b,e⟩:=List.mem_map.mp a;obtain⟨k,c⟩:=List.mem_iff_getElem?.mp b;have:=(h k t c).2.1;lia)
 rw[lM]at q;exact q
def Fails (Rs:List (List Int))(ts:List (Int × Int))(f:Nat):Prop:=∃ r,Rs[f]?=some r∧∀ p∈r,-p∈ts.map Prod.fst
def zfh {Rs:List (List Int)}{k:Nat}{r:List Int}(h:Rs[k]?=some r):aS Rs (k:Int)=r:=by unfold aS;rw[Int.toNat_natCast,List.getD_eq_getElem?_getD,h];rfl
def TOk.ln {Rs:List (List Int)}{ts:List (Int × Int)}{f:Nat}(h:TOk Rs ts)(hf:Fails Rs ts f):zc9 Rs ts (f:Int):=by
 obtain⟨r,c,g⟩:=hf;have o:f < Rs.length:=(gEq c).1;refine⟨h.negs,by lia,by lia,λp q=>?_,λt e y=>?_⟩
 ·rw[zfh c]at q;exact zjf.mpr (g p q)
 ·obtain⟨i,j⟩:=List.mem_iff_getElem?.mp e;rcases(h i t j).2.2.2.2 with z | ⟨k,r',e1,e2,e3,e4⟩
  ·exact absurd z y
  ·have n:k < Rs.length:=(gEq e2).1;refine⟨by lia,by lia,λp a b=>?_⟩;rw[e1,zfh e2]at a;have q:=e4 p a b;refine zjf.mpr ?_;obtain⟨u,d,l⟩:=List.mem_map.mp q;exact List.mem_map.mpr ⟨u,List.mem_of_mem_take d,l⟩
def TOk.more (h:TOk Rs ts):TOk (Rs++Qs) ts:=λi t e=>by
 obtain⟨g,f,d,c,b⟩:=h i t e;refine⟨g,f,d,c,?_⟩;rcases b with z | ⟨k,r,l,a,j⟩
 ·exact .inl z
 ·exact .inr ⟨k,r,l,by rw[List.getElem?_append_left (gEq a).1];exact a,j⟩
def zas (i:Int):Int:=if i < 0 then -i else i
structure FRow (ts:List (Int × Int))(row:List Int)(n:Nat):Prop where
 le:row.length≤n
 neg:∀ p∈row,-p∈ts.map Prod.fst
 last:∀ t,ts.getLast?=some t→-t.1∈row
def FRow.ins (h:FRow ts row n){t:Int × Int}(b:t∈ts)(i:Nat):FRow ts (L2.ins row i (-t.1)) (n+1):=by
 refine⟨by rw[zn1];exact Nat.succ_le_succ h.le,λp c=>?_,λu a=>zj4.mpr (.inr (h.last u a))⟩;rcases zj4.mp c with e | e
 ·rw[e,Int.neg_neg];exact List.mem_map.mpr ⟨t,b,rfl⟩
 ·exact h.neg p e
def zg0:cnt (ts.take i)≤cnt ts:=by
 have e:cnt ts=cnt (ts.take i)+cnt (ts.drop i):=by rw[←zci,List.take_append_drop]
 have:=zdL (ts.drop i);lia
def ziQ (p:Int):lvF ts p≤cnt ts:=zg0
def zhg (p:Int):0≤lvF ts p:=zdL _
def TOk.y (h:TOk Rs ts):∀ t∈ts,-1≤t.2:=λt a=>by obtain⟨i,b⟩:=List.mem_iff_getElem?.mp a;rcases(h i t b).2.2.2.2 with z | ⟨k,_,z,_⟩ <;> lia
def zdN (h0:0≤y)(a:y < (Rs.length:Int)):Rs[y.toNat]?=some (aS Rs y):=by unfold aS;rw[List.getD_eq_getElem?_getD,gG (by lia)];rfl
def zbR {ts:List (Int × Int)}{i j:Nat}(h:i≤j):cnt (ts.take i)≤cnt (ts.take j):=by
 have e:ts.take j=ts.take i++(ts.take j).drop i:=by have:=List.take_append_drop i (ts.take j);rw[List.take_take,Nat.min_eq_left h]at this;exact this.symm
 rw[e,zci];have:=zdL ((ts.take j).drop i);lia
def zeZ (h:q∈negs ts):∃(i:Nat) (t:Int × Int),ts[i]?=some t∧q=-t.1:=by unfold negs at h;obtain⟨t,a,e⟩:=List.mem_map.mp h;obtain⟨i,b⟩:=List.mem_iff_getElem?.mp a;exact⟨i,t,b,e.symm⟩
def TOk.same_ix (a:TOk Rs ts){i j:Nat}{t u:Int × Int}(c:ts[i]?=some t)(b:ts[j]?=some u)(e:t.1=u.1):i=j:=by
 rcases Nat.lt_trichotomy i j with h | h | h
 ·exact absurd e (a.nd i j h t u c b).1
 ·exact h
 ·exact absurd e.symm (a.nd j i h u t b c).1
def zd6 (h:zbf ts ks last p y=true):p∈ks∧y≠-1∧(lvF ts p=0∨(lvF ts p=last∧∃ o∈ks,o≠p∧lvF ts o=last)):=by
 unfold zbf at h;rw[Bool.and_eq_true,Bool.and_eq_true,Bool.or_eq_true,Bool.and_eq_true,List.any_eq_true]at h;refine⟨oDq h.1,oDq h.2.1,?_⟩;rcases h.2.2 with z | ⟨b,o,c,a⟩
 ·exact .inl (oDq z)
 ·rw[Bool.and_eq_true]at a;exact .inr ⟨oDq b,o,c,oDq a.1,oDq a.2⟩
def zi7 (g:p∈ks)(f:y≠-1)(e:lvF ts p=0∨(lvF ts p=last∧∃ o∈ks,o≠p∧lvF ts o=last)):zbf ts ks last p y=true:=by
 unfold zbf;rw[Bool.and_eq_true,Bool.and_eq_true,Bool.or_eq_true,Bool.and_eq_true,List.any_eq_true];refine⟨dTq g,dTq f,?_⟩;rcases e with z | ⟨c,o,d,b,a⟩
 ·exact .inl (dTq z)
 ·exact .inr ⟨dTq c,o,d,by rw[dTq b,dTq a];rfl⟩
def zfc (d:TOk Rs ts){i:Nat}(x:i < ts.length):∃ t:Int × Int,ts[ts.length - 1 - i]?=some t∧lrn Rs ts f (i+1)=zcy Rs ts (cnt ts) (lrn Rs ts f i) t ∧
  ∀ q:Int,q∈(lrn Rs ts f (i+1)).1→q∈(lrn Rs ts f i).1∨∃(j:Nat) (u:Int × Int),j < ts.length - 1 - i∧ts[j]?=some u∧q=-u.1∧zbf ts (lrn Rs ts f i).1 (cnt ts) (-t.1) t.2=true∧q∈aS Rs t.2:=by
 obtain⟨t,g⟩:∃ t,ts[ts.length - 1 - i]?=some t:=⟨_,gG (by lia)⟩;have n:=zd9 x;rw[g]at n;have e:=zdC (Rs:=Rs) (f:=f) n;refine⟨t,g,e,λq a=>?_⟩;rw[e]at a;unfold zcy at a;by_cases r:zbf ts (lrn Rs ts f i).1 (cnt ts) (-t.1) t.2=true
 ·rw[if_pos r]at a;rcases mPq a with z | z
  ·exact .inl (List.mem_filter.mp z).1
  ·obtain⟨l,p⟩:=List.mem_filter.mp z;have o:=oDq p;have s:=(zd6 r).2.1;rcases(d _ t g).2.2.2.2 with w | ⟨k,row,e1,e2,_,e4⟩
   ·exact absurd w s
   ·have b:=l;rw[e1,zfh e2]at b;have w:=e4 q b o;obtain⟨u,v,y⟩:=List.mem_map.mp w;obtain⟨j,h⟩:=List.mem_iff_getElem?.mp v;have c:j < ts.length - 1 - i:=by have:=(gEq h).1;rw[List.length_take]at this;lia
    rw[List.getElem?_take,if_pos c]at h;exact .inr ⟨j,u,c,h,by lia,r,l⟩
 ·rw[if_neg r]at a;exact .inl a
def zgC (a:TOk Rs ts){i j:Nat}{u:Int × Int}(g:i < ts.length)(d:ts[j]?=some u)(h:ts.length - 1 - i≤j)(c:-u.1∈(lrn Rs ts f (i+1)).1):-u.1∈(lrn Rs ts f i).1:=by
 obtain⟨t,o,e,b⟩:=zfc (Rs:=Rs) (f:=f) a g;rcases b _ c with z | ⟨n,l,q,k,p,_⟩
 ·exact z
 ·have:=a.same_ix d k (by lia);lia
def zh3 (b:TOk Rs ts){i:Nat}{t:Int × Int}(n:i < ts.length)(d:ts[ts.length - 1 - i]?=some t)(r:zbf ts (lrn Rs ts f i).1 (cnt ts) (-t.1) t.2=true):-t.1∉(lrn Rs ts f (i+1)).1:=λl=>by
 obtain⟨t',c,e,o⟩:=zfc (Rs:=Rs) (f:=f) b n;rw[d]at c;cases c;have a:=l;rw[e]at a;unfold zcy at a;rw[if_pos r]at a;rcases mPq a with z | z
 ·exact(oDq (List.mem_filter.mp z).2) rfl
 ·obtain⟨g,h⟩:=List.mem_filter.mp z;have j:=(zd6 r).2.1;rcases(b _ t d).2.2.2.2 with w | ⟨k,row,e1,e2,_,e4⟩
  ·exact j w
  ·rw[e1,zfh e2]at g;have w:=e4 _ g (oDq h);rw[Int.neg_neg]at w;exact(b _ t d).2.2.1 w
def zh2 (b:TOk Rs ts){i:Nat}{t:Int × Int}{q:Int}(g:i < ts.length)(d:ts[ts.length - 1 - i]?=some t)(c:q∈(lrn Rs ts f i).1)(n:q≠-t.1∨zbf ts (lrn Rs ts f i).1 (cnt ts) (-t.1) t.2=false):q∈(lrn Rs ts f (i+1)).1:=by
 obtain⟨t',a,e,_⟩:=zfc (Rs:=Rs) (f:=f) b g;rw[d]at a;cases a;rw[e];unfold zcy;by_cases r:zbf ts (lrn Rs ts f i).1 (cnt ts) (-t.1) t.2=true
 ·rw[if_pos r];rcases n with n | n
  ·exact List.mem_append_left _ (List.mem_filter.mpr ⟨c,dTq n⟩)
  ·rw[n]at r;cases r
 ·rw[if_neg r];exact c
def zlI (a:TOk Rs ts):∀ i,i≤ts.length→∀(j:Nat) (t:Int × Int),ts[j]?=some t→ts.length - i≤j→-t.1∈(lrn Rs ts f i).1→lvF ts (-t.1)≠0:=by
 intro i
 induction i with
 | zero =>
  intro _ j t b h;have:=(gEq b).1;lia
 | succ i e =>
  intro k j t b h d;have c:=zgC a (by lia) b (by lia) d;rcases Nat.lt_or_ge j (ts.length - i) with q | q
  ·have g:j=ts.length - 1 - i:=by lia
   subst g;intro z;have r:zbf ts (lrn Rs ts f i).1 (cnt ts) (-t.1) t.2=true:=by refine zi7 c (λy=>?_) (.inl z);rw[zbT a.negs b,zet b]at z;have:=zdL (ts.take (ts.length - 1 - i));unfold zaS at z;rw[if_pos y]at z;lia
   exact zh3 a (by lia) b r d
  ·exact e (by lia) j t b q c
def zm1 {Rs:List (List Int)}{ts:List (Int × Int)}{f:Int}(a:TOk Rs ts)(N:zc9 Rs ts f)(hL:1≤cnt ts)(h0:∃ q∈aS Rs f,lvF ts q=cnt ts):∀ i,i≤ts.length→(∃ q∈(lrn Rs ts f i).1,lvF ts q=cnt ts) ∧
  ∀(j:Nat) (t:Int × Int),ts[j]?=some t→ts.length - i≤j→-t.1∈(lrn Rs ts f i).1→lvF ts (-t.1)=cnt ts→∀ q∈(lrn Rs ts f i).1,lvF ts q=cnt ts→q=-t.1:=by
 intro i
 induction i with
 | zero =>
  intro _;refine⟨h0,λj t b h=>?_⟩;have:=(gEq b).1;lia
 | succ i S =>
  intro hi;obtain⟨⟨I,x,G⟩,D⟩:=S (by lia);obtain⟨t,g,e,A⟩:=zfc (Rs:=Rs) (f:=f) a (show i < ts.length by lia);have d:i < ts.length:=by lia
  have O:=zbT a.negs g;by_cases r:zbf ts (lrn Rs ts f i).1 (cnt ts) (-t.1) t.2=true
  ·obtain⟨M,r2,L⟩:=zd6 r;have B:=zh3 a d g r;rcases L with z | ⟨z,o,T,no,lo⟩
   ·refine⟨⟨I,zh2 a d g x (.inl (λw=>by rw[w]at G;lia)),G⟩,λj u b h k l q n s=>?_⟩;have p:=zgC a d b (by lia) k;rcases Nat.lt_or_ge j (ts.length - i) with w | w
    ·have C:j=ts.length - 1 - i:=by lia
     subst C;rw[g]at b;cases b;lia
    ·rcases A q n with v | ⟨R,Z,h1,W,U,_⟩
     ·exact D j u b w p l q v s
     ·have Q:=zbT a.negs W;rw[←U]at Q;have:=zbR (ts:=ts) (show R+1≤ts.length - 1 - i+1 by lia);lia
   ·refine⟨⟨o,zh2 a d g T (.inl no),lo⟩,λj u b h k l q n s=>?_⟩;have p:=zgC a d b (by lia) k;rcases Nat.lt_or_ge j (ts.length - i) with w | w
    ·have C:j=ts.length - 1 - i:=by lia
     subst C;rw[g]at b;cases b;exact absurd k B
    ·have J:=D j u b w p l (-t.1) M z;have:=a.same_ix g b (by lia);lia
  ·have r':zbf ts (lrn Rs ts f i).1 (cnt ts) (-t.1) t.2=false:=by
    cases h:zbf ts (lrn Rs ts f i).1 (cnt ts) (-t.1) t.2 with
    | true=>exact absurd h r
    | false=>rfl
   have Y:(lrn Rs ts f (i+1)).1=(lrn Rs ts f i).1:=by rw[e];unfold zcy;rw[if_neg r]
   rw[Y];refine⟨⟨I,x,G⟩,λj u b h k l q n s=>?_⟩;rcases Nat.lt_or_ge j (ts.length - i) with w | w
   ·have C:j=ts.length - 1 - i:=by lia
    subst C;rw[g]at b;cases b;apply Decidable.byContradiction;intro F;by_cases y:t.2=-1
    ·obtain⟨H,u,E,X⟩:=zeZ (zgp N i q n);subst X;have P:=zbT a.negs E;rcases Nat.lt_trichotomy H (ts.length - 1 - i) with c | c | c
     ·have c1:=zbR (ts:=ts) (show H+1≤ts.length - 1 - i by lia);have K:=zet g;unfold zaS at K;rw[if_pos y]at K;lia
     ·subst c;rw[g]at E;cases E;exact F rfl
     ·have J:=D H u E (by lia) n s (-t.1) k l;exact F J.symm
    ·exact r (zi7 k y (.inr ⟨l,q,n,F,s⟩))
   ·exact D j u b w k l q n s
def zgT (h:q∈aX Rs ts f):q∈negs ts∧q∈(lrn Rs ts f ts.length).1:=by obtain⟨b,a⟩:=List.mem_filter.mp h;exact⟨List.mem_reverse.mp b,oDq a⟩
def zj0 (a:TOk Rs ts)(h:q∈aX Rs ts f):lvF ts q≠0:=by obtain⟨d,c⟩:=zgT h;obtain⟨j,t,b,e⟩:=zeZ d;subst e;exact zlI a ts.length (nRq _) j t b (by lia) c
def zh7 (a:TOk Rs ts)(h:cnt ts=0):aX Rs ts f=[]:=by rw[List.eq_nil_iff_forall_not_mem];intro q b;have e:=zj0 a b;have d:=ziQ (ts:=ts) q;have c:=zhg (ts:=ts) q;lia
def zmz {Rs:List (List Int)}{ts:List (Int × Int)}{f:Int}(c:TOk Rs ts)(w:zc9 Rs ts f)(D:1≤cnt ts)(h0:∃ q∈aS Rs f,lvF ts q=cnt ts):∃ a rest,aX Rs ts f=a :: rest∧lvF ts a=cnt ts∧∀ r∈rest,lvF ts r≠cnt ts:=by
 obtain⟨⟨q,s,x⟩,B⟩:=zm1 c w D h0 ts.length (nRq _);have y:=zgp w ts.length q s;have n:q∈aX Rs ts f:=List.mem_filter.mpr ⟨List.mem_reverse.mpr y,dTq s⟩;have only:∀ r∈aX Rs ts f,lvF ts r=cnt ts→r=q:=λr g p=>by obtain⟨j,t,d,e⟩:=zeZ y;subst e;exact B j t d (by lia) s x r (zgT g).2 p
 have k:(aX Rs ts f).Pairwise λa b=>lvF ts b≤lvF ts a:=by refine List.Pairwise.filter _ ?_;rw[List.pairwise_reverse,List.pairwise_iff_getElem];intro i j o d C;rw[zbP]at o d;have A:=zdB (gG o);have z:=zdB (gG d);rw[gG (by rw[zbP];exact o)]at A;rw[gG (by rw[zbP];exact d)]at z;have v:=Option.some.inj A;have u:=Option.some.inj z;show lvF ts ((negs ts)[i]'_)≤lvF ts ((negs ts)[j]'_);rw[v,u,zbT c.negs (gG o),zbT c.negs (gG d)];exact zbR (by lia)
 have l:(aX Rs ts f).Nodup:=List.Pairwise.filter _ (by rw[List.pairwise_reverse];exact List.Pairwise.imp (λh=>Ne.symm h) c.negs);generalize aX Rs ts f=ps at n only k l
 match ps,n,only,k,l with
 | a :: rest,n,only,k,l =>
  have la:lvF ts a=cnt ts:=by
   rcases List.mem_cons.mp n with e | e
   ·rw[←e];exact x
   ·have H:=(List.pairwise_cons.mp k).1 q e;have G:=ziQ (ts:=ts) a;lia
  refine⟨a,rest,rfl,la,λr g p=>?_⟩;have F:=only r (List.mem_cons_of_mem _ g) p;have E:=only a List.mem_cons_self la;rw[F,←E]at g;exact(List.nodup_cons.mp l).1 g
def zjo {Rs:List (List Int)}{hs:List Int}:∀ {es:List (Int × Int)},(∀ t∈es,t.2≠-1)→cnt es=0
 | [],_=>rfl
 | t :: es,h=>by have c:=zjo (Rs:=Rs) (hs:=hs) (es:=es) λu a=>h u (List.mem_cons_of_mem _ a);have b:=h t List.mem_cons_self;simp only[cnt,zaS,if_neg b,c];rfl
def TOk.cons (a:TOk Rs ts){q:Int}(h:q∈ts.map Prod.fst)(g:-q∈ts.map Prod.fst):False:=by
 obtain⟨u,f,n⟩:=List.mem_map.mp h;obtain⟨v,e,l⟩:=List.mem_map.mp g;obtain⟨i,d⟩:=List.mem_iff_getElem?.mp f;obtain⟨j,b⟩:=List.mem_iff_getElem?.mp e;have k:=(a i u d).1;rcases Nat.lt_trichotomy i j with c | c | c
 ·exact(a.nd i j c u v d b).2 (by lia)
 ·subst c;rw[d]at b;cases b;lia
 ·exact(a.nd j i c v u b d).2 (by lia)
def zkB (h:y < (Rs.length:Int)):aS (Rs++Qs) y=aS Rs y∨y < 0:=by
 by_cases h0:y < 0
 ·exact .inr h0
 ·left;unfold aS;rw[List.getD_eq_getElem?_getD,List.getD_eq_getElem?_getD,List.getElem?_append_left (by lia)]
structure Got (K:W.Frag)(H:Hp)(rl tl:Addr)(xs zs:List V)(Rs:List (List Int))(ts:List (Int × Int))(fl:Int):Prop where
 r:H rl=some (.lst xs)
 rh:aq K H (Rs.map zbe) xs
 t:H tl=some (.lst zs)
 th:aq K H (ts.map dP) zs
 ne:rl≠tl
 tok:TOk Rs ts
 ok:zc9 Rs ts fl
 last:1≤cnt ts→∃ q∈aS Rs fl,lvF ts q=cnt ts
 t61:ts.length≤61
 r20:∀ r∈Rs,r.length≤100
 R300:Rs.length≤300
def Got.zl (g:Got K H rl tl xs zs Rs ts fl):zs.length=ts.length:=by rw[←g.th.length,lM]
def Got.xl (g:Got K H rl tl xs zs Rs ts fl):xs.length=Rs.length:=by rw[←g.rh.length,lM]
end L2
namespace L2
open PySem PySem.Spec PyProof.Rows
set_option maxRecDepth 100000
end L2
namespace L2
open PySem
def NoF (Rs:List (List Int))(hs:List Int):Prop:=∀ r∈Rs,∃ q∈r,-q∉hs
def Comp (Rs:List (List Int))(ts:List (Int × Int)):Prop:=∀(i:Nat) (t:Int × Int),ts[i]?=some t→t.2=-1→NoF Rs ((ts.take i).map Prod.fst)
def Comp.nil (Rs:List (List Int)):Comp Rs []:=λi t h=>by cases h
def TOk.take (h:TOk Rs ts)(j:Nat):TOk Rs (ts.take j):=λi t e=>by
 have a:i < j:=by have:=(gEq e).1;rw[List.length_take]at this;lia
 rw[List.getElem?_take,if_pos a]at e;rw[List.take_take,Nat.min_eq_left (Nat.le_of_lt a)];exact h i t e
structure zde (ts:List (Int × Int))(lv:Int)(j:Nat):Prop where
 le:j≤ts.length
 low:∀ m,m < j→cnt (ts.take (m+1))≤lv
 high:j < ts.length→lv < cnt (ts.take (j+1))
def zde.inj (a:zde ts lv j)(b:zde ts lv k):j=k:=by
 rcases Nat.lt_trichotomy j k with h | h | h
 ·have d:=b.low j h;have c:=a.high (by have:=b.le;lia);lia
 ·exact h
 ·have d:=a.low k h;have c:=b.high (by have:=a.le;lia);lia
structure zg9 (Rs:List (List Int))(ts:List (Int × Int))(f n:Int)(j:Nat):Prop where
 tok:TOk Rs ts
 ok:zc9 Rs ts f
 last:1≤cnt ts→∃ q∈aS Rs f,lvF ts q=cnt ts
 mx:zel (((aX Rs ts f).drop 1).map (lvF ts)) n
 cut:zde ts n j
def zg9.n0 (R:zg9 Rs ts f n j):0≤n:=by
 by_cases e:((aX Rs ts f).drop 1).map (lvF ts)=[]
 ·rw[R.mx.1 e];decide
 ·obtain⟨a,_,b⟩:=List.mem_map.mp (R.mx.2 e).1;rw[←b];exact zhg a
def zg9.split (R:zg9 Rs ts f n j)(k:aX Rs ts f≠[]):∃ a rest,aX Rs ts f=a :: rest∧lvF ts a=cnt ts∧n < cnt ts∧(∀ r∈rest,lvF ts r≤n)∧(1≤n→∃ r∈rest,lvF ts r=n):=by
 have h:1≤cnt ts:=by apply Decidable.byContradiction;intro z;have:=zdL ts;exact k (zh7 R.tok (by lia))
 obtain⟨a,rest,e,la,l⟩:=zmz R.tok R.ok h (R.last h);have g:=R.mx;rw[e]at g;have b:zel (rest.map (lvF ts)) n:=g;refine⟨a,rest,e,la,?_,λr d=>?_,λo=>?_⟩
 ·by_cases z:rest.map (lvF ts)=[]
  ·rw[b.1 z];lia
  ·obtain⟨r,c,i⟩:=List.mem_map.mp (b.2 z).1;have o:=l r c;have p:=ziQ (ts:=ts) r;lia
 ·have z:rest.map (lvF ts)≠[]:=λz=>by rw[List.map_eq_nil_iff]at z;rw[z]at d;cases d
  exact(b.2 z).2 _ (List.mem_map.mpr ⟨r,d,rfl⟩)
 ·have z:rest.map (lvF ts)≠[]:=λz=>by have:=b.1 z;lia
  obtain⟨r,c,i⟩:=List.mem_map.mp (b.2 z).1;exact⟨r,c,i⟩
def zdv (a:TOk Rs ts)(h:q∈aX Rs ts f):∃(i:Nat) (t:Int × Int),ts[i]?=some t∧q=-t.1∧lvF ts q=cnt (ts.take (i+1)):=by obtain⟨i,t,b,e⟩:=zeZ (zgT h).1;exact⟨i,t,b,e,by rw[e];exact zbT a.negs b⟩
end L2
namespace L2
open PySem PySem.Spec PyProof.Rows
set_option maxRecDepth 100000
section
variable {X:Cx}
def znm (c:TA):TE:=λb H Q=>c b H λvs a=>∃ j:Int,vs=[.int j]∧∀ r,a r=none→Q (.ref r) (upd a r (.rng 0 j))
def zlx (n:Gl X "range")(l:X.mg "range"=none)(u:PA X [a] ta)(hs:starEach [a] X.env=[(false,eval a X.env)]:=by rfl):PE X (.Call (.Name "range" p) [a] [] pos) (znm ta):=by
 intro c s f H Q I h;refine Call_ (zbU I n l boot_range (PyProof.Rows.callWith_type1 (thn (u pos c s f H _ I h) λus g ⟨vs,w,d,k,q1⟩=>?_) hs rfl));obtain⟨j,e,q⟩:=q1;subst e;cases k with
 | cons r i =>
  cases i;obtain⟨t,rfl⟩:=r;refine call_range_1 ?_;refine⟨.ref g.heap.objs.size,_,d.laid (o:=.rng 0 j) (λb v e=>hG _ e) (nRq _) ?_,rfl,q _ (d.hok.fresh (nRq _))⟩;exact⟨_,_,_,Heap.get?_push_size _ rfl⟩
def ziu (D:X.calm=true):zbt X (.type "list") (λxs H Q=>∃ r j,xs=[.ref r]∧H r=some (.rng 0 j)∧0≤j∧j≤100000∧∀ l,H l=none→Q (.ref l) (upd H l (.lst (((List.range j.toNat).map λi:Nat=>(i:Int)).map V.int)))):=by
 intro k s J H xs us Q I r h;obtain⟨z,j,rfl,C,P,O,q⟩:=h;obtain⟨u,rfl,y⟩:=zcx r;cases y;obtain⟨N,M,K,e⟩:=I.hok z _ C;have E:Builtin.Range.rangeSize 0 j 1=((j.toNat:Nat):Int):=by rw[rangeSize_one];split <;> lia
 refine call_list_range (I.ok.hd D) e (small_one (by lia) (by lia) (by lia) (by lia)) E (by lia) λh' tk acc c A F a=>?_;have G:acc.toList.length=j.toNat:=by rw[Array.length_toList];exact a.1
 have d:aQ (((List.range j.toNat).map λi:Nat=>(i:Int)).map V.int) acc.toList:=by
  have f:∀(n:Nat) (L:List Value) (o:Nat),L.length=n→(∀ i v,L[i]?=some v→∃ t,v=Value.int (0+(((o+i:Nat):Nat):Int) * 1) t)→aQ (((List.range' o n).map λi:Nat=>(i:Int)).map V.int) L:=by
   intro n
   induction n with
   | zero =>
    intro L o b _;cases L with
    | nil=>exact .nil
    | cons _ _=>cases b
   | succ n B =>
    intro L o b p
    match L,b with
    | x :: L,b =>
     refine .cons ?_ (B L (o+1) (by simpa using b) λi v e=>?_)
     ·obtain⟨t,e⟩:=p 0 x rfl;exact⟨t,by rw[e];congr 1;show(0:Int)+((o+0:Nat):Int) * 1=(o:Int);lia⟩
     ·obtain⟨t,g⟩:=p (i+1) v e;exact⟨t,by rw[g];congr 1;lia⟩
  have:=f j.toNat acc.toList 0 G λi v e=>by obtain⟨t,g⟩:=a.2 i v (by rw[←Array.getElem?_toList];exact e);exact⟨t,by rw[g,Nat.zero_add]⟩
  rw[List.range_eq_range'];exact this
 refine⟨.ref s.heap.objs.size,_,I.laid (t':=tk) A (nRq _) (show zaz X.prog X.w _ h' _ (.lst (((List.range j.toNat).map λi:Nat=>(i:Int)).map V.int)) from⟨?_,acc.toList,c,d,by rw[Array.toArray_toList];exact F⟩),rfl,q _ (I.hok.fresh (nRq _))⟩;rw[lM,lM,List.length_range,sizeLine_eq];lia
end
end L2
namespace L2
open PySem
structure Hd (N:Nat)(hd:Int→Int):Prop where
 idem:∀ t,hd (hd t)=hd t
 le:∀ t,hd t≤t
 rng:∀ t,hd t≠t→0≤hd t∧t < (N:Int)
abbrev Lk:=Int × Int × Int
def zjQ {b:Type}{P:List b→Prop}(h0:P [])(f:∀ xs x,P xs→P (xs++[x])):∀ xs,P xs:=by
 intro xs;generalize a:xs.length=n
 induction n generalizing xs with
 | zero=>rw[List.length_eq_zero_iff.mp a];exact h0
 | succ n d =>
  have c:xs≠[]:=λe=>by rw[e]at a;cases a
  rw[←List.dropLast_concat_getLast c];refine f _ _ (d _ ?_);rw[List.length_dropLast];lia
def zbG:∀(n:Nat) {xs:List Int},xs.Nodup→(∀ x∈xs,0≤x∧x < (n:Int))→xs.length≤n
 | 0,[],_,_=>nRq _
 | 0,x :: xs,_,h=>by have:=h x List.mem_cons_self;lia
 | n+1,xs,a,h=>by
  have q:=zbG n (a.erase (n:Int)) (λx b=>by have z:=(List.Nodup.mem_erase_iff a).mp b;have:=h x z.2;have:=z.1;lia)
  rw[List.length_erase]at q;split at q <;> lia
def dL (l:Lk):Dt:=.tup [.int l.1,.int l.2.1,.int l.2.2]
def Mem (H:Hp)(c:List (Key × V))(d:Int→Int)(e:List Addr)(x:Int)(b:List Int):Prop:=b.Nodup∧(∀ t,t∈b↔d t=x)∧((zam c (Sum.inl x)=none∧b=[x])∨∃ a,zam c (Sum.inl x)=some (.ref a)∧H a=some (.lst (b.map V.int))∧a∉e)
structure GO (H:Hp)(C g ld gd:Addr)(N b:Nat)(hd:Int→Int)(av:List Addr):Prop where
 h:Hd N hd
 ne:ld≠gd
 ex:∃ dx kl kg,H g=some (.ins C dx [("least",.ref ld),("gathered",.ref gd)])∧H ld=some (.dK kl)∧H gd=some (.dK kg)∧(∀ t:Int,(zam kl (Sum.inl t)).getD (.int t)=.int (hd t))∧(∀ x:Int,hd x=x→∃ ms:List Int,Mem H kg hd av x ms)∧kl.length≤b * N∧kg.length≤b
def zg8 (a c:Addr)(H H':Hp):Prop:=∀ b o,b≠a→b≠c→H b=some o→H' b=some o
def zg8.trans (a:zg8 ld gd H H1)(b:zg8 ld gd H1 H2):zg8 ld gd H H2:=λc o e d h=>b c o e d (a c o e d h)
def ap.g (s:ap H H'):zg8 ld gd H H':=λb o _ _ h=>s b o h
def GO.sub (G:GO H C g ld gd N b hd av)(h:∀ a∈av',a∈av):GO H C g ld gd N b hd av':=by
 obtain⟨w,l,n,v,u,t,s,r,q,p⟩:=G.ex;refine⟨G.h,G.ne,w,l,n,v,u,t,s,λx o=>?_,q,p⟩;obtain⟨d,k,j,c⟩:=r x o;refine⟨d,k,j,?_⟩;rcases c with c | ⟨a,i,f,e⟩
 ·exact .inl c
 ·exact .inr ⟨a,i,f,λz=>e (h a z)⟩
def hldP (v:Int→Bool)(p:Int):Bool:=if 0 < p then v p else !v (-p)
def zjj (h:p≠0):hldP v (-p)=!hldP v p:=by
 unfold hldP;rcases Int.lt_or_gt_of_ne h with c | c
 ·rw[if_pos (by lia),if_neg (by lia),Bool.not_not]
 ·rw[if_neg (by lia),if_pos c,Int.neg_neg]
def SatR (v:Int→Bool)(r:List Int):Prop:=∃ p∈r,hldP v p=true
def zdm (v:Int→Bool)(rs:List (List Int)):Prop:=∀ r∈rs,SatR v r
def zeF (h0:0≤f)(a:f < (rs.length:Int)):aS rs f∈rs:=by have:=zdN h0 a;exact mOq this
def zny (d:TOk rs ts)(g:zc9 rs ts f){v:Int→Bool}(h:zdm v rs):∀ i,i≤ts.length→SatR v (lrn rs ts f i).1:=by
 intro i
 induction i with
 | zero=>exact λ_=>h _ (zeF g.f0 g.f1)
 | succ i s =>
  intro B;obtain⟨q,n,b⟩:=s (by lia);have l:ts.reverse[i]?=some (ts[ts.length - 1 - i]'(by lia)):=by rw[zd9 (by lia)];exact gG _
  generalize u:ts[ts.length - 1 - i]'(by lia)=t at l;have j:t∈ts:=by rw[←u];exact List.getElem_mem _
  rw[zdC l];unfold zcy;by_cases c:zbf ts (lrn rs ts f i).1 (cnt ts) (-t.1) t.2=true
  ·rw[if_pos c];by_cases e:q=-t.1
   ·have y:=(zd6 c).2.1;have w:=g.why t j y;obtain⟨p,x,a⟩:=h _ (zeF w.1 w.2.1);have r:p≠t.1:=λz=>by obtain⟨k,A⟩:=List.getElem?_of_mem j;have o:=(d _ _ A).1;rw[e,zjj o,←z,a]at b;cases b
    exact⟨p,List.mem_append_right _ (List.mem_filter.mpr ⟨x,dTq r⟩),a⟩
   ·exact⟨q,List.mem_append_left _ (List.mem_filter.mpr ⟨n,dTq e⟩),b⟩
  ·rw[if_neg c];exact⟨q,n,b⟩
def zi3 (a:TOk rs ts)(b:zc9 rs ts f){v:Int→Bool}(h:zdm v rs):SatR v (aX rs ts f):=by obtain⟨q,c,d⟩:=zny a b h _ (nRq _);refine⟨q,?_,d⟩;unfold aX zcU;exact List.mem_filter.mpr ⟨List.mem_reverse.mpr (zgp b _ q c),dTq c⟩
def wgt (n:Nat):Nat→List (Int × Int)→Nat
 | _,[]=>0
 | i,t :: r=>(if t.2=-1 then 1 else 2 ^ (n - i))+wgt n (i+1) r
def zeU (n:Nat):∀(b bs:List (Int × Int)) (i:Nat),wgt n i (b++bs)=wgt n i b+wgt n (i+b.length) bs
 | [],bs,i=>by simp [wgt]
 | a :: b,bs,i=>by show _+wgt n (i+1) (b++bs)=_+wgt n (i+1) b+_;rw[zeU n b bs (i+1),List.length_cons,show i+1+b.length=i+(b.length+1) by lia];lia
def ziB (n:Nat):∀(b:List (Int × Int)) (i:Nat),i+b.length≤n→wgt n i b+2≤2 ^ (n - i+1)
 | [],i,h=>by have:1≤2 ^ (n - i):=Nat.one_le_two_pow;show 0+2≤_;rw[Nat.pow_succ];lia
 | a :: b,i,h=>by
  rw[List.length_cons]at h;have c:=ziB n b (i+1) (by lia);have e:n - (i+1)+1=n - i:=by lia
  rw[e]at c;have:1≤2 ^ (n - i):=Nat.one_le_two_pow;show(if a.2=-1 then 1 else 2 ^ (n - i))+wgt n (i+1) b+2≤_
  rw[Nat.pow_succ];split <;> lia
def zmb (n:Nat)(ts:List (Int × Int))(t:Int × Int):wgt n 0 ts < wgt n 0 (ts++[t]):=by
 have:1≤2 ^ (n - ts.length):=Nat.one_le_two_pow;rw[zeU,Nat.zero_add];show _ < _+((if t.2=-1 then 1 else 2 ^ (n - ts.length))+0)
 split <;> lia
def zmc (o:ts.length≤n)(h:ts[j]?=some t)(d:t.2=-1)(f:k≠-1):wgt n 0 ts < wgt n 0 (ts.take j++[(p,k)]):=by
 have b:j < ts.length:=(gEq h).1;have e:ts=ts.take j++t :: ts.drop (j+1):=by
  have:=List.take_append_drop j ts;rw[List.drop_eq_getElem_cons b]at this;have g:ts[j]=t:=by have:=gG b;rw[h]at this;injection this with this;exact this.symm
  rw[g]at this;exact this.symm
 have a:(ts.take j).length=j:=by rw[List.length_take];lia
 have l:wgt n 0 ts=wgt n 0 (ts.take j)+(1+wgt n (j+1) (ts.drop (j+1))):=by
  conv=>lhs;rw[e]
  rw[zeU,a,Nat.zero_add];show _+((if t.2=-1 then 1 else _)+_)=_
  rw[if_pos d]
 have i:wgt n 0 (ts.take j++[(p,k)])=wgt n 0 (ts.take j)+2 ^ (n - j):=by
  rw[zeU,a,Nat.zero_add];show _+((if k=-1 then 1 else _)+0)=_
  rw[if_neg f];rfl
 have c:=ziB n (ts.drop (j+1)) (j+1) (by rw[List.length_drop];lia);rw[show n - (j+1)+1=n - j by lia]at c;lia
def bsF:Nat→List (Int × Int)→List Int
 | _,[]=>[]
 | i,t :: r=>if t.2=-1 then(i:Int) :: bsF (i+1) r else bsF (i+1) r
def zhN:∀(b bs:List (Int × Int)) (i:Nat),bsF i (b++bs)=bsF i b++bsF (i+b.length) bs
 | [],bs,i=>rfl
 | a :: b,bs,i=>by
  have c:=zhN b bs (i+1);rw[show i+1+b.length=i+(a :: b).length by rw[List.length_cons];lia]at c;show(if a.2=-1 then(i:Int) :: bsF (i+1) (b++bs) else bsF (i+1) (b++bs))=(if a.2=-1 then(i:Int) :: bsF (i+1) b else bsF (i+1) b)++_
  split <;> rw[c] <;> rfl
def zfn (ts:List (Int × Int))(t:Int × Int):bsF 0 (ts++[t])=if t.2=-1 then bsF 0 ts++[(ts.length:Int)] else bsF 0 ts:=by
 rw[zhN,Nat.zero_add];show bsF 0 ts++(if t.2=-1 then(ts.length:Int) :: [] else [])=_
 split
 ·rfl
 ·rw[List.append_nil]
def zgt:∀ ts:List (Int × Int),((bsF 0 ts).length:Int)=cnt ts:=by
 refine zjQ rfl ?_;intro ts t a;rw[zfn,zci];have e:cnt [t]=if t.2=-1 then 1 else 0:=by show zaS t+0=_;unfold zaS;rw[Int.add_zero]
 rw[e];split
 ·rw[lAq];show((_+1:Nat):Int)=_;lia
 ·lia
def zne:∀ ts:List (Int × Int),bsF 0 ts≠[]→∃(j:Nat) (t:Int × Int),ts[j]?=some t∧t.2=-1∧bsF 0 ts=bsF 0 (ts.take j)++[(j:Int)]∧cnt (ts.take j)+1=cnt ts:=by
 refine zjQ (λh=>absurd rfl h) ?_;intro ts t b h;rw[zfn]at h ⊢;by_cases c:t.2=-1
 ·rw[if_pos c];refine⟨ts.length,t,by rw[List.getElem?_append_right (nRq _),Nat.sub_self];rfl,c,?_,?_⟩
  ·rw[List.take_append_of_le_length (nRq _),List.take_length]
  ·rw[List.take_append_of_le_length (nRq _),List.take_length,zci];show _=_+(zaS t+0);unfold zaS;rw[if_pos c,Int.add_zero]
 ·rw[if_neg c]at h ⊢;obtain⟨j,u,a,g,f,e⟩:=b h;have d:j < ts.length:=(gEq a).1;refine⟨j,u,by rw[List.getElem?_append_left d];exact a,g,?_,?_⟩
  ·rw[List.take_append_of_le_length (by lia)];exact f
  ·rw[List.take_append_of_le_length (by lia),zci,e];show _=_+(zaS t+0);unfold zaS;rw[if_neg c,Int.add_zero,Int.add_zero]
structure HS where
 rs:List (List Int)
 pp:List Dt
 ts:List (Int × Int)
 lk:Nat
 bs:List Int
 wt:Int→Option (Int × Int)
 wg:Int→List Int
 od:List Int
 la:Int→Option Int
abbrev HS.hs (S:HS):List Int:=S.ts.map Prod.fst
def HS.hold (S:HS)(p y:Int):HS:={ S with ts:=S.ts++[(p,y)] }
def HS.setW (S:HS)(r a b:Int):HS:={ S with wt:=λx=>if x=r then some (a,b) else S.wt x }
def HS.addG (S:HS)(c r:Int):HS:={ S with wg:=λx=>if x=c then S.wg x++[r] else S.wg x }
def HS.setG (S:HS)(c:Int)(ns:List Int):HS:={ S with wg:=λx=>if x=c then ns else S.wg x }
def HS.watch (S:HS)(r a b:Int):HS:=((S.setW r a b).addG a r).addG b r
def zco (a:List Int)(o:Int)(hs:List Int):Option Int:=a.find? λq=>decide (q≠o)&&decide (-q∉hs)
def zkQ (h:zco row o hs=some q):q∈row∧q≠o∧-q∉hs:=by have b:=List.mem_of_find?_eq_some h;have a:=List.find?_some h;simp only[Bool.and_eq_true,decide_eq_true_eq]at a;exact⟨b,a.1,a.2⟩
def zhr (h:zco row o hs=none)(b:q∈row)(a:q≠o):-q∈hs:=by have:=List.find?_eq_none.mp h q b;simp only[Bool.and_eq_true,decide_eq_true_eq,not_and,Decidable.not_not]at this;exact this a
def zaq (S:HS)(c r:Int):Int:=let p:=(S.wt r).getD (0,0);if p.1=c then p.2 else p.1
abbrev LkS:=HS × List Int × Option Int
def stepK (c:Int)(st:LkS)(r:Int):LkS :=
 if zaq st.1 c r∈st.1.hs then(st.1,st.2.1++[r],st.2.2)
 else match zco (aS st.1.rs r) (zaq st.1 c r) st.1.hs with
  | some q=>((st.1.setW r (zaq st.1 c r) q).addG q r,st.2.1,st.2.2)
  | none=>if -(zaq st.1 c r)∈st.1.hs then(st.1,st.2.1++[r],some r) else(st.1.hold (zaq st.1 c r) r,st.2.1++[r],st.2.2)
def zbl (S:HS)(c:Int)(i:Nat):LkS:=((S.wg c).take i).foldl (stepK c) (S,[],none)
def zho (h:(S.wg c)[i]?=some r):zbl S c (i+1)=stepK c (zbl S c i) r:=by unfold zbl;rw[zan h,List.foldl_append];rfl
def Wp (ts:List (Int × Int))(k:Nat)(a b:Int):Prop:=∀(i:Nat) (t:Int × Int),i < k→ts[i]?=some t→t.1=-a→∃(j:Nat) (u:Int × Int),ts[j]?=some u∧u.1=b∧cnt (ts.take (j+1))≤cnt (ts.take (i+1))
structure WOk (S:HS)(g:Int→List Int)(k:Nat):Prop where
 has:∀(r:Nat) (row:List Int),S.rs[r]?=some row→2≤row.length→∃ a b,S.wt r=some (a,b)
 is:∀(r a b:Int),S.wt r=some (a,b)→a∈aS S.rs r∧b∈aS S.rs r∧a≠b∧0≤r∧r < (S.rs.length:Int)
 gw:∀ r c,r∈g c↔∃ a b,S.wt r=some (a,b)∧(c=a∨c=b)
 nd:∀ c,(g c).Nodup
 wp:∀ r a b,S.wt r=some (a,b)→Wp S.ts k a b∧Wp S.ts k b a
 one:∀ a,[a]∈S.rs→∃(j:Nat) (u:Int × Int),S.ts[j]?=some u∧u.1=a∧cnt (S.ts.take (j+1))=0
 nil:[]∉S.rs
def zbn {ts es:List (Int × Int)}{i:Nat}{t:Int × Int}(h:ts[i]?=some t):(ts++es)[i]?=some t∧cnt ((ts++es).take (i+1))=cnt (ts.take (i+1)):=by have a:i < ts.length:=(gEq h).1;exact⟨by rw[List.getElem?_append_left a];exact h,by rw[List.take_append_of_le_length (by lia)]⟩
def Wp.more {ts:List (Int × Int)}{k:Nat}{a b:Int}(h:Wp ts k a b)(n:k≤ts.length)(es:List (Int × Int)):Wp (ts++es) k a b:=by intro i t f c e;rw[List.getElem?_append_left (by lia)]at c;obtain⟨j,u,d,l,g⟩:=h i t f c e;refine⟨j,u,(zbn d).1,l,?_⟩;rw[(zbn d).2,(zbn c).2];exact g
def ze6 {ts:List (Int × Int)}{p:Int}(h:p∈ts.map Prod.fst):∃(i:Nat) (t:Int × Int),ts[i]?=some t∧t.1=p:=by obtain⟨t,c,b⟩:=List.mem_map.mp h;obtain⟨i,a⟩:=List.getElem?_of_mem c;exact⟨i,t,a,b⟩
def zcD {ts:List (Int × Int)}{i:Nat}{t:Int × Int}(h:ts[i]?=some t):t.1∈ts.map Prod.fst:=List.mem_map.mpr ⟨t,mOq h,rfl⟩
structure LkI (n k:Nat)(c:Int)(S0:HS)(L:List Int)(i:Nat)(st:LkS):Prop where
 rs:st.1.rs=S0.rs
 eq:st.1.pp=S0.pp∧st.1.lk=S0.lk∧st.1.bs=S0.bs∧st.1.od=S0.od∧st.1.la=S0.la
 ex:∃ es,st.1.ts=S0.ts++es∧∀ t∈es,t.2≠-1
 tok:TOk st.1.rs st.1.ts
 rng:∀ t∈st.1.ts,t.1.natAbs≤n
 w:WOk st.1 (λx=>if x=c then st.2.1++L.drop i else st.1.wg x) k
 wc:st.1.wg c=L
 ol:st.2.2=none→∀ r∈st.2.1,∃ a b,st.1.wt r=some (a,b)∧((a=c∧b∈st.1.hs)∨(b=c∧a∈st.1.hs))
 fl:∀ f,st.2.2=some f→0≤f∧f < (S0.rs.length:Int)∧c∈aS S0.rs f∧∀ p∈aS S0.rs f,-p∈st.1.hs
def zk7 (W:WOk S g k){c r:Int}(h:r∈g c):(S.wt r=some (c,zaq S c r)∨S.wt r=some (zaq S c r,c))∧zaq S c r≠c∧zaq S c r∈aS S.rs r∧c∈aS S.rs r∧0≤r∧r < (S.rs.length:Int):=by
 obtain⟨a,b,e,f⟩:=(W.gw r c).mp h;have d:=W.is r a b e;unfold zaq;rw[e];show(some (a,b)=some (c,if a=c then b else a)∨some (a,b)=some (if a=c then b else a,c))∧(if a=c then b else a)≠c∧(if a=c then b else a)∈_∧_
 rcases f with rfl | rfl
 ·rw[if_pos rfl];exact⟨.inl rfl,Ne.symm d.2.2.1,d.2.1,d.1,d.2.2.2⟩
 ·rw[if_neg d.2.2.1];exact⟨.inr rfl,d.2.2.1,d.1,d.2.1,d.2.2.2⟩
def zcH (h:∀ t∈es,t.2≠-1):cnt es=0:=zjo (Rs:=[]) (hs:=[]) h
def mid_nd (h:(as++x :: bs).Nodup):x∉as++bs∧(as++bs).Nodup:=by have a:(x :: (as++bs)).Nodup:=(List.perm_middle.nodup_iff).mp h;exact List.nodup_cons.mp a
def LkI.step (I:LkI n k c S0 L i st){r:Int}(hr:L[i]?=some r)(hk:k≤S0.ts.length)(hc:-c∈S0.hs)(n60:n≤60)
  (hrow:∀ W∈S0.rs,∀ p∈W,p≠0∧p.natAbs≤n):LkI n k c S0 L (i+1) (stepK c st r):=by
 obtain⟨S,o,fl⟩:=st;have hi:i < L.length:=(gEq hr).1;have ed:L.drop i=r :: L.drop (i+1):=by rw[List.drop_eq_getElem_cons hi];have:=gG hi;rw[hr]at this;injection this with this;rw[this]
 obtain⟨C,M,⟨es,K,Q⟩,s,w,g,H,O,P⟩:=I;dsimp only at C M K s w g H O P;have T:S.rs=S0.rs:=C;have J:S.ts=S0.ts++es:=K;have hk':k≤S.ts.length:=by rw[J,lAq];lia
 have hc':-c∈S.hs:=by show -c∈S.ts.map Prod.fst;rw[J,mAq];exact List.mem_append_left _ hc
 have hrc:r∈(λx=>if x=c then o++L.drop i else S.wg x) c:=by
  show r∈if c=c then o++L.drop i else S.wg c
  rw[if_pos rfl,ed];exact List.mem_append_right _ List.mem_cons_self
 obtain⟨ow,oc,E,crow,r0,r1⟩:=zk7 g hrc;have gE:(λx=>if x=c then o++L.drop i else S.wg x)=λx=>if x=c then(o++[r])++L.drop (i+1) else S.wg x:=by funext x;rw[ed,List.append_assoc];rfl
 have hol:∀ d∈o++[r],d∈o∨d=r:=λd h=>(mPq h).imp id mS;have wE:∃ a b,S.wt r=some (a,b)∧((a=c∧b=zaq S c r)∨(b=c∧a=zaq S c r)):=ow.elim (λz=>⟨_,_,z,.inl ⟨rfl,rfl⟩⟩) λz=>⟨_,_,z,.inr ⟨rfl,rfl⟩⟩;unfold stepK;show LkI n k c S0 L (i+1) (if zaq S c r∈S.hs then(S,o++[r],fl) else _)
 by_cases c1:zaq S c r∈S.hs
 ·rw[if_pos c1];refine⟨C,M,⟨es,K,Q⟩,s,w,gE ▸ g,H,λY d h'=>?_,P⟩;rcases hol d h' with z | rfl
  ·exact O Y d z
  ·obtain⟨a,b,v,y⟩:=wE;exact⟨a,b,v,y.imp (λ(z:a=c∧b=_)=>⟨z.1,by rw[z.2];exact c1⟩) λ(z:b=c∧a=_)=>⟨z.1,by rw[z.2];exact c1⟩⟩
 rw[if_neg c1];show LkI n k c S0 L (i+1) (match zco (aS S.rs r) (zaq S c r) S.hs with | some q=>((S.setW r (zaq S c r) q).addG q r,o,fl) | none=>if -(zaq S c r)∈S.hs then(S,o++[r],some r) else(S.hold (zaq S c r) r,o++[r],fl))
 cases hf:zco (aS S.rs r) (zaq S c r) S.hs with
 | some q =>
  obtain⟨q1,q2,q3⟩:=zkQ hf;have qc:q≠c:=λz=>q3 (z ▸ hc');have ndc:=g.nd c;have R:(o++L.drop i).Nodup:=by
   have:(if c=c then o++L.drop i else S.wg c).Nodup:=ndc
   rwa [if_pos rfl]at this
  rw[ed]at R;have md:=mid_nd R;have wtE:∀ x a b,((S.setW r (zaq S c r) q).addG q r).wt x=some (a,b)→(x=r∧a=zaq S c r∧b=q)∨(x≠r∧S.wt x=some (a,b)):=λx a b h=>by
   have h':(if x=r then some (zaq S c r,q) else S.wt x)=some (a,b):=h
   by_cases e:x=r
   ·rw[if_pos e]at h';injection h' with h';injection h' with v y;exact .inl ⟨e,v.symm,y.symm⟩
   ·rw[if_neg e]at h';exact .inr ⟨e,h'⟩
  have U:∀ x,x≠r→((S.setW r (zaq S c r) q).addG q r).wt x=S.wt x:=λx e=>if_neg e;have wtR:((S.setW r (zaq S c r) q).addG q r).wt r=some (zaq S c r,q):=if_pos rfl;have old:∀ x,x≠c→(r∈S.wg x↔x=zaq S c r):=λx hx=>by
   have:=g.gw r x;have this:(r∈if x=c then o++L.drop i else S.wg x)↔_:=this
   rw[if_neg hx]at this;rw[this];obtain⟨a,b,v,y⟩:=wE;constructor
   ·rintro ⟨a',b',N,D⟩;rw[v]at N;injection N with N;injection N with h5 h6;rcases y with ⟨e1,Z⟩ | ⟨e1,Z⟩
    ·rcases D with D | D
     ·exact absurd (D.trans (h5.symm.trans e1)) hx
     ·exact D.trans (h6.symm.trans Z)
    ·rcases D with D | D
     ·exact D.trans (h5.symm.trans Z)
     ·exact absurd (D.trans (h6.symm.trans e1)) hx
   ·intro e;refine⟨a,b,v,?_⟩;rcases y with ⟨_,Z⟩ | ⟨_,Z⟩
    ·exact .inr (e.trans Z.symm)
    ·exact .inl (e.trans Z.symm)
  refine⟨C,M,⟨es,K,Q⟩,s,w,⟨λx W hx hl=>?_,λx a b h=>?_,λd x=>?_,λx=>?_,λx a b h=>?_,g.one,g.nil⟩,?_,λY d h'=>?_,P⟩
  ·by_cases e:(x:Int)=r
   ·rw[e];exact⟨_,_,wtR⟩
   ·rw[U _ e];exact g.has x W hx hl
  ·rcases wtE x a b h with ⟨rfl,rfl,rfl⟩ | ⟨_,h⟩
   ·exact⟨E,q1,Ne.symm q2,r0,r1⟩
   ·exact g.is x a b h
  ·show(d∈if x=c then o++L.drop (i+1) else if x=q then S.wg x++[r] else S.wg x)↔_
   by_cases e:d=r
   ·subst e;have rhs:(∃ a b,((S.setW d (zaq S c d) q).addG q d).wt d=some (a,b)∧(x=a∨x=b))↔(x=zaq S c d∨x=q):=by
     rw[wtR];constructor
     ·rintro ⟨a,b,N,D⟩;injection N with N;injection N with h5 h6;rw[h5,h6];exact D
     ·exact λh=>⟨_,_,rfl,h⟩
    rw[rhs];by_cases B:x=c
    ·rw[if_pos B];exact⟨λh=>absurd h md.1,λh=>h.elim (λz=>absurd (z.symm.trans B) oc) λz=>absurd (z.symm.trans B) qc⟩
    ·rw[if_neg B];by_cases G:x=q
     ·rw[if_pos G];exact⟨λ_=>.inr G,λ_=>List.mem_append_right _ List.mem_cons_self⟩
     ·rw[if_neg G,old x B];exact⟨.inl,λh=>h.elim id λz=>absurd z G⟩
   ·rw[U _ e];have:=g.gw d x;rw[←this];show _↔(d∈if x=c then o++L.drop i else S.wg x)
    by_cases B:x=c
    ·rw[if_pos B,if_pos B,ed,List.mem_append,List.mem_append,List.mem_cons];exact⟨λh=>h.imp id .inr,λh=>h.imp id λz=>z.elim (λz=>absurd z e) id⟩
    ·rw[if_neg B,if_neg B];by_cases G:x=q
     ·rw[if_pos G,List.mem_append,List.mem_singleton];exact⟨λh=>h.elim id λz=>absurd z e,.inl⟩
     ·rw[if_neg G]
  ·show(if x=c then o++L.drop (i+1) else if x=q then S.wg x++[r] else S.wg x).Nodup
   by_cases B:x=c
   ·rw[if_pos B];exact md.2
   ·rw[if_neg B];have nx:=g.nd x;have nx:(if x=c then o++L.drop i else S.wg x).Nodup:=nx
    rw[if_neg B]at nx;by_cases G:x=q
    ·rw[if_pos G];refine List.nodup_append.mpr ⟨nx,by simp,λa ha b hb e=>?_⟩;have hb:=mS hb;rw[e,hb]at ha;exact q2 (G.symm.trans ((old x B).mp ha))
    ·rw[if_neg G];exact nx
  ·rcases wtE x a b h with ⟨rfl,rfl,rfl⟩ | ⟨_,h⟩
   ·refine⟨λj t hj A e=>?_,λj t hj A e=>?_⟩
    ·have wpc:Wp S.ts k (zaq S c x) c:=ow.elim (λz=>(g.wp _ _ _ z).2) λz=>(g.wp _ _ _ z).1;obtain⟨l,u,v,y,_⟩:=wpc j t hj A e;exact absurd (s.cons (y ▸ zcD v) hc') id
    ·exact absurd (e ▸ zcD A) q3
   ·exact g.wp x a b h
  ·show(if c=q then S.wg c++[r] else S.wg c)=L
   rw[if_neg (Ne.symm qc)];exact H
  ·have hne:d≠r:=λe=>md.1 (List.mem_append_left _ (e ▸ h'));obtain⟨a,b,v,y⟩:=O Y d h';exact⟨a,b,(U _ hne).trans v,y⟩
 | none =>
  by_cases c2:-(zaq S c r)∈S.hs
  ·show LkI n k c S0 L (i+1) (if -(zaq S c r)∈S.hs then(S,o++[r],some r) else _)
   rw[if_pos c2];refine⟨C,M,⟨es,K,Q⟩,s,w,gE ▸ g,H,λY=>?_,λf F=>?_⟩
   ·cases Y
   ·injection F with F;subst F;rw[←T];refine⟨r0,r1,crow,λp hp=>?_⟩;by_cases e:p=zaq S c r
    ·rw[e];exact c2
    ·exact zhr hf hp e
  ·show LkI n k c S0 L (i+1) (if -(zaq S c r)∈S.hs then _ else(S.hold (zaq S c r) r,o++[r],fl))
   rw[if_neg c2];have hro:=hrow _ (T ▸ zeF r0 r1) _ E;have X:(S.hold (zaq S c r) r).hs=S.hs++[zaq S c r]:=by show(S.ts++[(zaq S c r,r)]).map Prod.fst=_;rw[mAq];rfl
   refine⟨C,M,⟨es++[(zaq S c r,r)],?_,λt A=>?_⟩,?_,λt A=>?_,?_,H,λY d h'=>?_,λf F=>?_⟩
   ·show S.ts++[(zaq S c r,r)]=S0.ts++(es++[(zaq S c r,r)]);rw[J,List.append_assoc]
   ·rcases mPq A with A | A
    ·exact Q t A
    ·rw[mS A];show r≠-1;lia
   ·refine TOk.snoc s (t:=(zaq S c r,r)) hro.1 (by show -60≤zaq S c r∧zaq S c r≤60;lia) c1 c2 (.inr ⟨r.toNat,aS S.rs r,?_,zdN r0 r1,E,λp hp ne=>zhr hf hp ne⟩);show r=(r.toNat:Int);lia
   ·rcases mPq A with A | A
    ·exact w t A
    ·rw[mS A];exact hro.2
   ·refine⟨g.has,g.is,?_,?_,λx a b h=>⟨(g.wp x a b h).1.more hk' _,(g.wp x a b h).2.more hk' _⟩,λa h=>?_,g.nil⟩
    ·exact(gE ▸ g:WOk S (λx=>if x=c then(o++[r])++L.drop (i+1) else S.wg x) k).gw
    ·exact(gE ▸ g:WOk S (λx=>if x=c then(o++[r])++L.drop (i+1) else S.wg x) k).nd
    ·obtain⟨j,u,v,y,N⟩:=g.one a h;exact⟨j,u,(zbn v).1,y,(zbn v).2.trans N⟩
   ·rcases hol d h' with z | rfl
    ·obtain⟨a,b,v,y⟩:=O Y d z;refine⟨a,b,v,?_⟩;show(a=c∧b∈(S.hold (zaq S c r) r).hs)∨(b=c∧a∈(S.hold (zaq S c r) r).hs);rw[X];exact y.imp (λz=>⟨z.1,List.mem_append_left _ z.2⟩) λz=>⟨z.1,List.mem_append_left _ z.2⟩
    ·obtain⟨a,b,v,y⟩:=wE;refine⟨a,b,v,?_⟩;show(a=c∧b∈(S.hold (zaq S c d) d).hs)∨(b=c∧a∈(S.hold (zaq S c d) d).hs);rw[X];exact y.imp (λ(z:a=c∧b=_)=>⟨z.1,by rw[z.2];exact List.mem_append_right _ List.mem_cons_self⟩) λ(z:b=c∧a=_)=>⟨z.1,by rw[z.2];exact List.mem_append_right _ List.mem_cons_self⟩
   ·have:=P f F;refine⟨this.1,this.2.1,this.2.2.1,λp hp=>?_⟩;show -p∈(S.hold (zaq S c r) r).hs;rw[X];exact List.mem_append_left _ (this.2.2.2 p hp)
structure HB (n:Nat)(B:List (List Int))(S:HS):Prop where
 tok:TOk S.rs S.ts
 rng:∀ t∈S.ts,t.1.natAbs≤n
 row:∀ r∈S.rs,r.Nodup∧∀ p∈r,p≠0∧p.natAbs≤n
 snd:∀ v,zdm v B→zdm v S.rs
 sub:∀ r∈B,r∈S.rs
 len:S.rs.length=B.length+S.pp.length
 bs:S.bs=bsF 0 S.ts
 od:∀ a:Int,a∈S.od↔1≤a∧a≤n
 odn:S.od.Nodup
 la:∀ a x,S.la a=some x→x=a∨x=-a
structure zbC (n:Nat)(B:List (List Int))(S:HS):Prop where
 b:HB n B S
 w:WOk S S.wg S.lk
 lk:S.lk≤S.ts.length
 lv:∀ i,S.lk≤i→i < S.ts.length→cnt (S.ts.take (i+1))=cnt S.ts
structure zcV (n:Nat)(B:List (List Int))(S:HS)(f:Int):Prop where
 b:HB n B S
 ln:zc9 S.rs S.ts f
 last:1≤cnt S.ts→∃ q∈aS S.rs f,lvF S.ts q=cnt S.ts
 w:1≤cnt S.ts→∃ k,WOk S S.wg k∧k≤S.ts.length∧∀ i,i < S.ts.length→cnt (S.ts.take (i+1)) < cnt S.ts→i < k
structure zcK (S S':HS):Prop where
 rs:S'.rs=S.rs
 pp:S'.pp=S.pp
 ts:∃ es,S'.ts=S.ts++es∧∀ t∈es,t.2≠-1
def zcK.refl (S:HS):zcK S S:=⟨rfl,rfl,[],by rw[List.append_nil],λ_ h=>nomatch h⟩
def zcK.trans (a:zcK S T)(b:zcK T U):zcK S U:=by obtain⟨es,g,f⟩:=a.ts;obtain⟨h,e,d⟩:=b.ts;exact⟨b.rs.trans a.rs,b.pp.trans a.pp,es++h,by rw[e,g,List.append_assoc],λt c=>(mPq c).elim (f t) (d t)⟩
def zcK.wgt (a:zcK S T)(n:Nat):wgt n 0 S.ts≤wgt n 0 T.ts:=by obtain⟨es,b,_⟩:=a.ts;rw[b,zeU];lia
def HB.tlen (h:HB n B S):S.ts.length≤n:=by
 have l:=h.tok.atoms;have d:=zfV n (xs:=S.ts.map λt=>t.1.natAbs - 1) ?_ ?_
 ·rw[lM]at d;exact d
 ·rw[show(S.ts.map λt=>t.1.natAbs - 1)=(S.ts.map λt=>t.1.natAbs).map (· - 1) by rw[List.map_map];rfl];refine List.pairwise_map.mpr (l.imp_of_mem λ{x y} b f e z=>e ?_);obtain⟨t,a,rfl⟩:=List.mem_map.mp b;obtain⟨u,g,rfl⟩:=List.mem_map.mp f;obtain⟨i,c⟩:=List.getElem?_of_mem a;obtain⟨j,k⟩:=List.getElem?_of_mem g;have:=(h.tok _ _ c).1;have:=(h.tok _ _ k).1;lia
 ·intro x b;obtain⟨t,a,rfl⟩:=List.mem_map.mp b;obtain⟨i,c⟩:=List.getElem?_of_mem a;have:=(h.tok _ _ c).1;have:=h.rng t a;lia
def HB.rlen (h:HB n B S)(b:n≤40):∀ r∈S.rs,r.length≤100:=λr a=>by
 have f:=zbG 81 (xs:=r.map λp=>p+40) ?_ ?_
 ·rw[lM]at f;lia
 ·refine List.pairwise_map.mpr ((h.row r a).1.imp λ{x y} e z=>e (by lia))
 ·intro x c;obtain⟨p,d,rfl⟩:=List.mem_map.mp c;have:=((h.row r a).2 p d).2;lia
def zfw:∀(es:List (Int × Int)) (i:Nat),(∀ t∈es,t.2≠-1)→bsF i es=[]
 | [],_,_=>rfl
 | e :: es,i,h=>by
  show(if e.2=-1 then _ else bsF (i+1) es)=[]
  rw[if_neg (h e List.mem_cons_self)];exact zfw es _ λt a=>h t (List.mem_cons_of_mem _ a)
def zcC (S:HS)(c:Int):HS × Option Int:=((zbl S c (S.wg c).length).1.setG c (zbl S c (S.wg c).length).2.1,(zbl S c (S.wg c).length).2.2)
def LkI.zero (M:zbC n B S)(c:Int):LkI n S.lk c S (S.wg c) 0 (S,[],none):=by
 refine⟨rfl,⟨rfl,rfl,rfl,rfl,rfl⟩,⟨[],(List.append_nil _).symm,λ_ h=>nomatch h⟩,M.b.tok,M.b.rng,?_,rfl,λ_ r h=>(nomatch h),λf h=>(nomatch h)⟩;have e:(λx=>if x=c then([]:List Int)++(S.wg c).drop 0 else S.wg x)=S.wg:=by
  funext x;by_cases h:x=c
  ·rw[if_pos h,h];rfl
  ·rw[if_neg h]
 show WOk S (λx=>if x=c then([]:List Int)++(S.wg c).drop 0 else S.wg x) S.lk
 rw[e];exact M.w
def LkI.all (M:zbC n B S)(d:n≤60){c:Int}(g:-c∈S.hs):∀ i,i≤(S.wg c).length→LkI n S.lk c S (S.wg c) i (zbl S c i):=by
 intro i
 induction i with
 | zero=>exact λ_=>LkI.zero M c
 | succ i f =>
  intro j;obtain⟨r,e⟩:∃ r,(S.wg c)[i]?=some r:=⟨_,gG (by lia)⟩;rw[zho e];exact(f (by lia)).step e M.lk g d λa h=>(M.b.row a h).2
def zbC.look (M:zbC n B S)(Y:n≤60){s:Int × Int}(U:S.ts[S.lk]?=some s) :
  zcK S (zcC S (-s.1)).1∧((zcC S (-s.1)).2=none→zbC n B { (zcC S (-s.1)).1 with lk:=S.lk+1 })∧∀ f,(zcC S (-s.1)).2=some f→zcV n B { (zcC S (-s.1)).1 with lk:=S.lk+1 } f:=by
 have hc:- -s.1∈S.hs:=by rw[Int.neg_neg];exact zcD U
 have I:=LkI.all M Y hc _ (nRq _);have ec:s.1=- -s.1:=(Int.neg_neg _).symm;unfold zcC;generalize -s.1=c at hc I ec;generalize zbl S c (S.wg c).length=st at I;obtain⟨d,H,fl⟩:=st;obtain⟨g,o,⟨es,l,E⟩,p,A,k,Iwc,Q,D⟩:=I;dsimp only at g o l p A k Iwc Q D ⊢;have gE:(λx=>if x=c then H++(S.wg c).drop (S.wg c).length else d.wg x)=(d.setG c H).wg:=by funext x;rw[List.drop_length,List.append_nil];rfl
 rw[gE]at k;have hk:S.lk < S.ts.length:=(gEq U).1;have ce:cnt es=0:=zcH E;have cE:cnt d.ts=cnt S.ts:=by rw[l,zci,ce,Int.add_zero]
 have O:d.ts[S.lk]?=some s:=by rw[l];exact(zbn U).1
 have L:cnt (d.ts.take (S.lk+1))=cnt d.ts:=by rw[cE,l,(zbn U).2];exact M.lv _ (nRq _) hk
 have K:∀ i,S.lk≤i→i < d.ts.length→cnt (d.ts.take (i+1))=cnt d.ts:=λi w F=>by have Z:=zbR (ts:=d.ts) (i:=S.lk+1) (j:=i+1) (by lia);have h4:=zg0 (ts:=d.ts) (i:=i+1);lia
 have hb:HB n B { d.setG c H with lk:=S.lk+1 }:=by
  refine⟨p,A,?_,?_,?_,?_,?_,?_,?_,?_⟩
  ·show ∀ r∈d.rs,_;rw[g];exact M.b.row
  ·show ∀ v,zdm v B→zdm v d.rs;rw[g];exact M.b.snd
  ·show ∀ r∈B,r∈d.rs;rw[g];exact M.b.sub
  ·show d.rs.length=B.length+d.pp.length;rw[g,o.1];exact M.b.len
  ·show d.bs=bsF 0 d.ts;rw[o.2.2.1,l,zhN,zfw es _ E,List.append_nil];exact M.b.bs
  ·show ∀ a:Int,a∈d.od↔_;rw[o.2.2.2.1];exact M.b.od
  ·show d.od.Nodup;rw[o.2.2.2.1];exact M.b.odn
  ·show ∀ a x,d.la a=some x→_;rw[o.2.2.2.2];exact M.b.la
 refine⟨⟨g,o.1,es,l,E⟩,λhn=>⟨hb,⟨k.has,k.is,k.gw,k.nd,?_,k.one,k.nil⟩,?_,λi w F=>K i (by have:S.lk+1≤i:=w;lia) F⟩,λf hf=>⟨hb,?_,λ_=>⟨c,?_,?_⟩,λ_=>⟨S.lk,⟨k.has,k.is,k.gw,k.nd,k.wp,k.one,k.nil⟩,?_,λi w F=>?_⟩⟩⟩
 ·intro r a b h;have h':d.wt r=some (a,b):=h;have G:=k.wp r a b h;have ab:=(k.is r a b h).2.2.1;have J:∀ x y,(x=a∧y=b)∨(x=b∧y=a)→Wp d.ts S.lk x y→Wp d.ts (S.lk+1) x y:=by
   intro x y N wp i t hi q e;by_cases c1:i < S.lk
   ·exact wp i t c1 q e
   have ei:i=S.lk:=by lia
   rw[ei]at q ⊢;rw[O]at q;injection q with q;have R:x=c:=by rw[←q,ec]at e;lia
   have hr:r∈(d.setG c H).wg c:=(k.gw r c).mpr ⟨a,b,h,N.elim (λz=>.inl (R.symm.trans z.1)) λz=>.inr (R.symm.trans z.1)⟩;have P:r∈if c=c then H else d.wg c:=hr
   rw[if_pos rfl]at P;obtain⟨a',b',T,w2⟩:=Q hn r P;rw[h']at T;injection T with T;injection T with e1 e2;have yh:y∈d.hs:=by
    rcases N with ⟨X,W⟩ | ⟨X,W⟩
    ·rcases w2 with ⟨_,C⟩ | ⟨C,_⟩
     ·rw[W,e2];exact C
     ·exact absurd ((X.symm.trans R).trans (C.symm.trans e2.symm)) ab
    ·rcases w2 with ⟨C,_⟩ | ⟨_,C⟩
     ·exact absurd ((e1.trans C).trans (R.symm.trans X)) ab
     ·rw[W,e1];exact C
   obtain⟨j,u,hj,hu⟩:=ze6 yh;exact⟨j,u,hj,hu,by rw[L];exact zg0⟩
  exact⟨J a b (.inl ⟨rfl,rfl⟩) G.1,J b a (.inr ⟨rfl,rfl⟩) G.2⟩
 ·show S.lk+1≤d.ts.length;rw[l,lAq];lia
 ·have w:=D f hf;have F:Fails d.rs d.ts f.toNat:=⟨aS d.rs f,by rw[g];exact zdN w.1 w.2.1,by rw[g];exact w.2.2.2⟩;have Z:=p.ln F;rw[show((f.toNat:Nat):Int)=f by lia]at Z;exact Z
 ·show c∈aS d.rs f;rw[g];exact(D f hf).2.2.1
 ·show lvF d.ts c=cnt d.ts;rw[show c=-s.1 by lia,zbT p.negs O];exact L
 ·show S.lk≤d.ts.length;rw[l,lAq];lia
 ·have h2':cnt (d.ts.take (i+1)) < cnt d.ts:=F;rcases Nat.lt_or_ge i S.lk with z | z
  ·exact z
  ·rw[K i z w]at h2';lia
def HS.pick (S:HS)(a:Int):HS:={ S with ts:=S.ts++[((S.la a).getD (-a),-1)],bs:=S.bs++[(S.ts.length:Int)] }
def zbC.pick (M:zbC n B S)(C:n≤60)(J:S.lk=S.ts.length){a:Int}(H:a∈S.od)(q:a∉S.hs)(o:-a∉S.hs):zbC n B (S.pick a):=by
 have k:(S.la a).getD (-a)=a∨(S.la a).getD (-a)=-a:=by
  cases e:S.la a with
  | none=>exact .inr rfl
  | some x=>exact M.b.la a x e
 have I:=(M.b.od a).mp H;generalize G:(S.la a).getD (-a)=p at k;have c:(S.pick a).ts=S.ts++[(p,-1)]:=by show S.ts++[((S.la a).getD (-a),-1)]=_;rw[G]
 have E:p∉S.hs:=k.elim (λz=>z ▸ q) λz=>z ▸ o;have D:-p∉S.hs:=k.elim (λz=>z ▸ o) λz=>by rw[z,Int.neg_neg];exact q
 have l:p≠0∧p.natAbs≤n:=by rcases k with z | z <;> rw[z] <;> lia
 refine⟨⟨?_,?_,M.b.row,M.b.snd,M.b.sub,M.b.len,?_,M.b.od,M.b.odn,M.b.la⟩,⟨M.w.has,M.w.is,M.w.gw,M.w.nd,?_,?_,M.w.nil⟩,?_,?_⟩
 ·rw[c];exact TOk.snoc M.b.tok (t:=(p,-1)) l.1 (by show -60≤p∧p≤60;lia) E D (.inl rfl)
 ·rw[c];intro t d;rcases mPq d with d | d
  ·exact M.b.rng t d
  ·rw[mS d];exact l.2
 ·rw[c,zfn,if_pos rfl];show S.bs++[(S.ts.length:Int)]=_;rw[M.b.bs]
 ·rw[c];intro r x y h;exact⟨(M.w.wp r x y h).1.more M.lk _,(M.w.wp r x y h).2.more M.lk _⟩
 ·rw[c];intro x F;obtain⟨j,u,g,f,s⟩:=M.w.one x F;exact⟨j,u,(zbn g).1,f,(zbn g).2.trans s⟩
 ·rw[c,lAq];show S.lk≤_;lia
 ·rw[c];intro i g f;have A:S.lk≤i:=g;rw[lAq]at f;have v:i < S.ts.length+1:=f;rw[tO (by rw[lAq];show S.ts.length+1≤_;lia)]
def zbC.yes (M:zbC n B S)(D:S.lk=S.ts.length)(h:∀ a∈S.od,a∈S.hs∨-a∈S.hs):∀ r∈B,∃ p∈r,p∈S.hs:=by
 intro r d;have d:=M.b.sub r d;have g:∀ p∈r,p∈S.hs∨-p∈S.hs:=λp C=>by
  have f:=(M.b.row r d).2 p C;rcases Int.lt_or_gt_of_ne f.1 with c | c
  ·have:=h (-p) ((M.b.od _).mpr (by lia));rw[Int.neg_neg]at this;exact this.symm
  ·exact h p ((M.b.od _).mpr (by lia))
 match r,d,g with
 | [],d,_=>exact absurd d M.w.nil
 | [a],d,_ =>
  obtain⟨j,u,f,o,_⟩:=M.w.one a d;exact⟨a,List.mem_cons_self,o ▸ zcD f⟩
 | a :: b :: l,d,g =>
  obtain⟨k,s⟩:=List.getElem?_of_mem d;obtain⟨x,y,q⟩:=M.w.has k _ s (by simp only[List.length_cons];lia);have f:=M.w.is _ _ _ q;have e:aS S.rs (k:Int)=a :: b :: l:=by have:=zdN f.2.2.2.1 f.2.2.2.2;rw[Int.toNat_natCast,s]at this;injection this with this;exact this.symm
  rw[e]at f;rcases g x f.1 with z | z
  ·exact⟨x,f.1,z⟩
  ·obtain⟨i,t,v,A⟩:=ze6 z;obtain⟨j,u,o,E,_⟩:=(M.w.wp _ _ _ q).1 i t (by rw[D];exact(gEq v).1) v A;exact⟨y,f.2.1,E ▸ zcD o⟩
def putW (r:Int)(c:List Int)(d:Int→Option (Int × Int)):Int→Option (Int × Int):=match c with
 | a :: b :: _=>λx=>if x=r then some (a,b) else d x
 | _=>d
def putG (r:Int)(d:List Int)(c:Int→List Int):Int→List Int:=match d with
 | a :: b :: _=>λx=>if x=b then(if x=a then c x++[r] else c x)++[r] else if x=a then c x++[r] else c x
 | _=>c
def HS.put (S:HS)(l:Dt)(ps a:List Int):HS:={ S with rs:=S.rs++[ps],pp:=S.pp++[l],wt:=putW (S.rs.length:Int) a S.wt,wg:=putG (S.rs.length:Int) a S.wg }
def HS.cut (S:HS)(j:Nat)(la:Int→Option Int):HS:={ S with ts:=S.ts.take j,bs:=bsF 0 (S.ts.take j),lk:=j,la:=la }
def zh6 (h0:0≤r)(a:r < (rs.length:Int)):aS (rs++[ps]) r=aS rs r:=by
 rcases zkB (Qs:=[ps]) a with h | h
 ·exact h
 ·lia
def zlr (rs:List (List Int))(ps:List Int):aS (rs++[ps]) (rs.length:Int)=ps:=by unfold aS;rw[Int.toNat_natCast,List.getD_eq_getElem?_getD,List.getElem?_append_right (nRq _),Nat.sub_self];rfl
def WOk.put (W:WOk S S.wg k){l:Dt}{ps:List Int}(A:ps.Nodup)(C:ps≠[])(H:∀ a,ps=[a]→∃(j:Nat) (u:Int × Int),S.ts[j]?=some u∧u.1=a∧cnt (S.ts.take (j+1))=0)
  (G:∀ a b d,ps=a :: b :: d→Wp S.ts k a b∧Wp S.ts k b a):WOk (S.put l ps ps) (S.put l ps ps).wg k:=by
 have B:∀ x a b,S.wt x=some (a,b)→x≠(S.rs.length:Int):=λx a b h=>by have:=(W.is x a b h).2.2.2.2;lia
 match ps,A,C,H,G with
 | [],_,C,_,_=>exact absurd rfl C
 | [a],_,_,H,_ =>
  refine⟨λr g F v=>?_,λr x y h=>?_,W.gw,W.nd,W.wp,λx E=>?_,λh=>?_⟩
  ·have f:(S.rs++[[a]])[r]?=some g:=F;rcases Nat.lt_or_ge r S.rs.length with c | c
   ·rw[List.getElem?_append_left c]at f;exact W.has r g f v
   ·have:=mOq (l:=[[a]]) (by rw[List.getElem?_append_right c]at f;exact f);rw[mS this]at v;exact absurd v (by simp)
  ·have:=W.is r x y h;show x∈aS (S.rs++[[a]]) r∧y∈aS (S.rs++[[a]]) r∧x≠y∧0≤r∧r < ((S.rs++[[a]]).length:Int);rw[zh6 this.2.2.2.1 this.2.2.2.2,lAq];exact⟨this.1,this.2.1,this.2.2.1,this.2.2.2.1,by simp only[List.length_cons,List.length_nil];lia⟩
  ·have o:[x]∈S.rs++[[a]]:=E;rcases mPq o with h | h
   ·exact W.one x h
   ·have:=mS h;injection this with this;rw[this];exact H a rfl
  ·have h':[]∈S.rs++[[a]]:=h;rcases mPq h' with h | h
   ·exact W.nil h
   ·cases mS h
 | a :: b :: d,A,_,_,G =>
  have ab:a≠b:=λe=>by rw[e]at A;exact(List.nodup_cons.mp A).1 List.mem_cons_self
  have t:∀ x y z,(S.put l (a :: b :: d) (a :: b :: d)).wt x=some (y,z)→(x=(S.rs.length:Int)∧y=a∧z=b)∨(x≠(S.rs.length:Int)∧S.wt x=some (y,z)):=λx y z h=>by
   have h':(if x=(S.rs.length:Int) then some (a,b) else S.wt x)=some (y,z):=h
   by_cases e:x=(S.rs.length:Int)
   ·rw[if_pos e]at h';injection h' with h';injection h' with i n;exact .inl ⟨e,i.symm,n.symm⟩
   ·rw[if_neg e]at h';exact .inr ⟨e,h'⟩
  have p:(S.put l (a :: b :: d) (a :: b :: d)).wt (S.rs.length:Int)=some (a,b):=if_pos rfl;have s:∀ x,x≠(S.rs.length:Int)→(S.put l (a :: b :: d) (a :: b :: d)).wt x=S.wt x:=λx e=>if_neg e;have L:∀ x,(S.put l (a :: b :: d) (a :: b :: d)).wg x=if x=a∨x=b then S.wg x++[(S.rs.length:Int)] else S.wg x:=λx=>by
   show(if x=b then(if x=a then S.wg x++[_] else S.wg x)++[_] else if x=a then S.wg x++[_] else S.wg x)=_
   by_cases i:x=a
   ·rw[if_neg (λz=>ab (i.symm.trans z)),if_pos i,if_pos (.inl i)]
   ·by_cases n:x=b
    ·rw[if_pos n,if_neg i,if_pos (.inr n)]
    ·rw[if_neg n,if_neg i,if_neg (λz=>z.elim i n)]
  have I:∀ x,(S.rs.length:Int)∉S.wg x:=λx h=>by obtain⟨y,z,w,_⟩:=(W.gw _ x).mp h;exact B _ _ _ w rfl
  refine⟨λr g F v=>?_,λr x y h=>?_,λr x=>?_,λx=>?_,λr x y h=>?_,λx E=>?_,λh=>?_⟩
  ·have f:(S.rs++[a :: b :: d])[r]?=some g:=F;rcases Nat.lt_or_ge r S.rs.length with c | c
   ·rw[List.getElem?_append_left c]at f;rw[s _ (by lia)];exact W.has r g f v
   ·have:=(gEq f).1;rw[lAq]at this;have this:r < S.rs.length+1:=this;rw[show r=S.rs.length by lia];exact⟨a,b,p⟩
  ·show x∈aS (S.rs++[a :: b :: d]) r∧y∈aS (S.rs++[a :: b :: d]) r∧x≠y∧0≤r∧r < ((S.rs++[a :: b :: d]).length:Int);rw[lAq];show _∧_∧_∧_∧r < ((S.rs.length+1:Nat):Int);rcases t r x y h with ⟨rfl,rfl,rfl⟩ | ⟨_,h⟩
   ·rw[zlr];exact⟨List.mem_cons_self,List.mem_cons_of_mem _ List.mem_cons_self,ab,by lia,by lia⟩
   ·have:=W.is r x y h;rw[zh6 this.2.2.2.1 this.2.2.2.2];exact⟨this.1,this.2.1,this.2.2.1,this.2.2.2.1,by lia⟩
  ·rw[L x];by_cases e:r=(S.rs.length:Int)
   ·rw[e,p];by_cases z:x=a∨x=b
    ·rw[if_pos z];exact⟨λ_=>⟨a,b,rfl,z⟩,λ_=>List.mem_append_right _ List.mem_cons_self⟩
    ·rw[if_neg z];refine⟨λh=>absurd h (I x),λ⟨y,M,w,K⟩=>?_⟩;injection w with w;injection w with i n;rw[←i,←n]at K;exact absurd K z
   ·rw[s r e,←W.gw r x];by_cases z:x=a∨x=b
    ·rw[if_pos z,List.mem_append,List.mem_singleton];exact⟨λh=>h.elim id λq=>absurd q e,.inl⟩
    ·rw[if_neg z]
  ·rw[L x];by_cases z:x=a∨x=b
   ·rw[if_pos z];refine List.nodup_append.mpr ⟨W.nd x,by simp,λy J M D e=>?_⟩;rw[e,mS D]at J;exact I x J
   ·rw[if_neg z];exact W.nd x
  ·rcases t r x y h with ⟨rfl,rfl,rfl⟩ | ⟨_,h⟩
   ·exact G x y d rfl
   ·exact W.wp r x y h
  ·have o:[x]∈S.rs++[a :: b :: d]:=E;rcases mPq o with h | h
   ·exact W.one x h
   ·have:=mS h;injection this with _ this;cases this
  ·have h':[]∈S.rs++[a :: b :: d]:=h;rcases mPq h' with h | h
   ·exact W.nil h
   ·cases mS h
def zd7 {ts:List (Int × Int)}{i j:Nat}{t:Int × Int}(a:i < j)(h:ts[i]?=some t):(ts.take j)[i]?=some t∧cnt ((ts.take j).take (i+1))=cnt (ts.take (i+1)):=by refine⟨by rw[List.getElem?_take,if_pos a];exact h,?_⟩;rw[List.take_take,Nat.min_eq_left (by lia)]
def zea {ts:List (Int × Int)}{i j:Nat}{t:Int × Int}(h:(ts.take j)[i]?=some t):i < j∧ts[i]?=some t:=by
 rw[List.getElem?_take]at h;split at h
 ·exact⟨by assumption,h⟩
 ·cases h
def zde.ix (c:zde ts m j)(h:ts[i]?=some t):cnt (ts.take (i+1))≤m↔i < j:=by
 have a:i < ts.length:=(gEq h).1;constructor
 ·intro e;rcases Nat.lt_or_ge i j with z | z
  ·exact z
  ·have d:=c.high (by lia);have b:=zbR (ts:=ts) (i:=j+1) (j:=i+1) (by lia);lia
 ·exact c.low i
def WOk.cut {S:HS}{g:Int→List Int}{k:Nat}(W:WOk S g k){m:Int}{j:Nat}(c:zde S.ts m j)(B:0≤m)(E:m < cnt S.ts)(A:∀ i,i < S.ts.length→cnt (S.ts.take (i+1)) < cnt S.ts→i < k){la:Int→Option Int}{a y:Int}{od:List Int} :
  WOk { (S.cut j la).hold a y with od:=od } g j:=by
 have D:(S.ts.take j).length=j:=by rw[List.length_take];have:=c.le;lia
 have p:∀ x y,Wp S.ts k x y→Wp (S.ts.take j) j x y:=by intro x y h i t q w e;have b:=zea w;have s:i < S.ts.length:=(gEq b.2).1;have C:=(c.ix b.2).mpr q;obtain⟨l,u,f,o,d⟩:=h i t (A i s (by lia)) b.2 e;have n:=(c.ix f).mp (by lia);refine⟨l,u,(zd7 n f).1,o,?_⟩;rw[(zd7 n f).2,(zd7 q b.2).2];exact d
 refine⟨W.has,W.is,W.gw,W.nd,λr x z h=>⟨(p _ _ (W.wp r x z h).1).more (by lia) _,(p _ _ (W.wp r x z h).2).more (by lia) _⟩,λx v=>?_,W.nil⟩;obtain⟨l,u,b,f,o⟩:=W.one x v;have n:=(c.ix b).mp (by lia);have d:=zd7 n b;exact⟨l,u,(zbn d.1).1,f,(zbn d.1).2.trans (d.2.trans o)⟩
def znY (a:TOk Rs ts):(negs ts).Pairwise λx y=>lvF ts x≤lvF ts y:=by rw[List.pairwise_iff_getElem];intro i j c b d;rw[zbP]at c b;have f:=gG (l:=ts) c;have e:=gG (l:=ts) b;have h:(negs ts)[i]=-ts[i].1:=List.getElem_map _;have g:(negs ts)[j]=-ts[j].1:=List.getElem_map _;rw[h,g,zbT a.negs f,zbT a.negs e];exact zbR (by lia)
def znK (a:TOk Rs ts):(aX Rs ts f).Pairwise λx y=>lvF ts y≤lvF ts x:=by unfold aX;exact(List.pairwise_reverse.mpr (znY a)).filter _
def zfr (a:TOk Rs ts):(aX Rs ts f).Nodup:=by unfold aX;exact(List.pairwise_reverse.mpr (a.negs.imp Ne.symm)).filter _
def zmA (Rs:List (List Int))(ts:List (Int × Int))(f:Int):((negs ts).reverse.filter λp=>decide (p∈aX Rs ts f))=aX Rs ts f:=by unfold aX;refine List.filter_congr λp a=>decide_eq_decide.mpr ?_;rw[List.mem_filter,decide_eq_true_eq];exact⟨λh=>h.2,λh=>⟨a,h⟩⟩
def zlQ:∀ i,i≤ts.length→1≤(lrn Rs ts f i).2.length∧((lrn Rs ts f i).2.length=1→(lrn Rs ts f i)=(aS Rs f,[f])):=by
 intro i
 induction i with
 | zero=>exact λ_=>⟨nRq _,λ_=>rfl⟩
 | succ i a =>
  intro e;obtain⟨d,c⟩:=a (by lia);have b:ts.reverse[i]?=some (ts[ts.length - 1 - i]'(by lia)):=by rw[zd9 (by lia)];exact gG _
  rw[zdC b];unfold zcy;split
  ·simp only[lAq,List.length_cons,List.length_nil];exact⟨by lia,λh=>absurd h (by lia)⟩
  ·exact⟨d,c⟩
def zjk (a:zc9 Rs ts f)(h:(zbr Rs ts f).length=1){q:Int}:q∈aX Rs ts f↔q∈aS Rs f:=by have e:=(zlQ (Rs:=Rs) (f:=f) _ (nRq ts.length)).2 h;unfold aX zcU;rw[e,List.mem_filter,decide_eq_true_eq];exact⟨λh=>h.2,λh=>⟨List.mem_reverse.mpr (a.fp q h),h⟩⟩
def zcV.no (C:zcV n B S f)(h:aX S.rs S.ts f=[])(v:Int→Bool):¬zdm v B:=λz=>by obtain⟨p,a,_⟩:=zi3 C.b.tok C.ln (C.b.snd v z);rw[h]at a;cases a
def zcV.zero (C:zcV n B S f)(h:aX S.rs S.ts f≠[]):1≤cnt S.ts:=by
 have:=zdL S.ts;by_cases e:cnt S.ts=0
 ·exact absurd (zh7 C.b.tok e) h
 ·lia
def zcV.next (C:zcV n B S f)(n60:n≤60)(ne:aX S.rs S.ts f≠[])(mx:zel (((aX S.rs S.ts f).drop 1).map (lvF S.ts)) m)(g:zde S.ts m j)
  {la:Int→Option Int}(O:∀ a x,la a=some x→x=a∨x=-a){od:List Int}(o1:∀ a:Int,a∈od↔1≤a∧a≤n)(o2:od.Nodup):∃ a rest,aX S.rs S.ts f=a :: rest ∧
   (∀ l,zbC n B { ((S.put l (aX S.rs S.ts f) (aX S.rs S.ts f)).cut j la).hold a (S.rs.length:Int) with od:=od }) ∧
   ((zbr S.rs S.ts f).length=1→zbC n B { (S.cut j la).hold a f with od:=od })∧∀ y,y≠-1→wgt n 0 S.ts < wgt n 0 (S.ts.take j++[(a,y)]):=by
 have hL:=C.zero ne;have c:=C.b.tok;have R:zg9 S.rs S.ts f m j:=⟨c,C.ln,C.last,mx,g⟩;obtain⟨a,rest,D,lA,U,lR,l1⟩:=R.split ne;have m0:=R.n0;obtain⟨k,W,kl,hk⟩:=C.w hL;have jl:j < S.ts.length:=by
  rcases Nat.lt_or_ge j S.ts.length with z | z
  ·exact z
  ·have e:j=S.ts.length:=by have:=g.le;lia
   rcases Nat.eq_zero_or_pos S.ts.length with z | z
   ·rw[List.length_eq_zero_iff.mp z]at U;have:m < 0:=U;lia
   ·have:=g.low (S.ts.length - 1) (by lia);rw[show S.ts.length - 1+1=S.ts.length by lia,List.take_length]at this;lia
 have cj:cnt (S.ts.take j)≤m:=by
  rcases Nat.eq_zero_or_pos j with z | z
  ·rw[z];exact m0
  ·have:=g.low (j - 1) (by lia);rw[show j - 1+1=j by lia]at this;exact this
 have hj:=gG (l:=S.ts) jl;have ch:(S.ts[j]).2=-1:=by
  have E:=g.high jl;rw[zet hj]at E;unfold zaS at E;by_cases z:(S.ts[j]).2=-1
  ·exact z
  ·rw[if_neg z]at E;lia
 have A:∀ q∈aX S.rs S.ts f,q≠0∧q.natAbs≤n:=λq X=>by obtain⟨i,t,u,e,_⟩:=zdv c X;have E:=(c i t u).1;have h2:=C.b.rng t (mOq u);lia
 have J:a∈aX S.rs S.ts f:=by rw[D];exact List.mem_cons_self
 have o:∀ q∈rest,-q∈(S.ts.take j).map Prod.fst:=λq X=>by
  have hq':q∈aX S.rs S.ts f:=by rw[D];exact List.mem_cons_of_mem _ X
  obtain⟨i,t,u,e,lv⟩:=zdv c hq';have ij:=(g.ix u).mp (by rw[←lv];exact lR q X);rw[e,Int.neg_neg];exact zcD (zd7 ij u).1
 have a2:-a∉(S.ts.take j).map Prod.fst:=λz=>by obtain⟨i,t,u,e,lv⟩:=zdv c J;obtain⟨i',t',L,e'⟩:=ze6 z;have E:=zea L;have ii:=c.same_ix u E.2 (by rw[e'];lia);have:=(g.ix u).mpr (by lia);lia
 have a1:a∉(S.ts.take j).map Prod.fst:=λz=>by obtain⟨i,t,u,e,lv⟩:=zdv c J;obtain⟨i',t',L,e'⟩:=ze6 z;exact c.cons (q:=a) (e' ▸ zcD (zea L).2) (by rw[e,Int.neg_neg];exact zcD u)
 have d:(S.ts.take j).length=j:=by rw[List.length_take];lia
 have H:∀ y,∀ t∈S.ts.take j++[(a,y)],t.1.natAbs≤n:=λy t G=>by
  rcases mPq G with h | h
  ·exact C.b.rng t (List.mem_of_mem_take h)
  ·rw[mS h];exact(A a J).2
 have Q:∀ y,y≠-1→bsF 0 (S.ts.take j)=bsF 0 (S.ts.take j++[(a,y)]):=λy hy=>by rw[zfn,if_neg hy]
 have M:∀ y i,j≤i→i < (S.ts.take j++[(a,y)]).length→cnt ((S.ts.take j++[(a,y)]).take (i+1))=cnt (S.ts.take j++[(a,y)]):=λy i E h2=>by rw[tO (by rw[lAq,d];show j+1≤_;lia)]
 have N:∀ y,j≤(S.ts.take j++[(a,y)]).length:=λy=>by rw[lAq,d];lia
 have T:-60≤a∧a≤60:=by have:=A a J;lia
 refine⟨a,rest,D,λl=>?_,λE=>?_,λy hy=>zmc C.b.tlen hj ch hy⟩
 ·have Y:(S.rs.length:Int)≠-1:=by lia
  have W1:=W.cut g m0 U hk (la:=la) (a:=a) (y:=(S.rs.length:Int)) (od:=od);have W2:WOk _ _ j:=WOk.put (S:={ (S.cut j la).hold a (S.rs.length:Int) with od:=od }) W1 (l:=l) (ps:=aX S.rs S.ts f) (zfr c) ne (λx F=>?_) (λx y more F=>?_)
  ·refine⟨⟨?_,H _,?_,?_,?_,?_,Q _ Y,o1,o2,O⟩,W2,N _,M _⟩
   ·show TOk (S.rs++[aX S.rs S.ts f]) (S.ts.take j++[(a,(S.rs.length:Int))]);refine TOk.snoc ((c.take j).more) (t:=(a,(S.rs.length:Int))) (A a J).1 T a1 a2 (.inr ⟨S.rs.length,aX S.rs S.ts f,rfl,?_,J,λp K np=>?_⟩)
    ·rw[List.getElem?_append_right (nRq _),Nat.sub_self];rfl
    ·rw[D]at K;exact o p ((List.mem_cons.mp K).resolve_left np)
   ·show ∀ r∈S.rs++[aX S.rs S.ts f],_;intro r I;rcases mPq I with h | h
    ·exact C.b.row r h
    ·rw[mS h];exact⟨zfr c,A⟩
   ·show ∀ v,zdm v B→zdm v (S.rs++[aX S.rs S.ts f]);intro v hv r I;rcases mPq I with h | h
    ·exact C.b.snd v hv r h
    ·rw[mS h];exact zi3 c C.ln (C.b.snd v hv)
   ·show ∀ r∈B,r∈S.rs++[aX S.rs S.ts f];exact λr I=>List.mem_append_left _ (C.b.sub r I)
   ·show(S.rs++[aX S.rs S.ts f]).length=B.length+(S.pp++[l]).length;rw[lAq,lAq,C.b.len];exact Nat.add_assoc _ _ _
  ·have e:rest=[]:=by rw[D]at F;injection F
   have ea:x=a:=by rw[D]at F;injection F with F;exact F.symm
   have m00:m=0:=mx.1 (by rw[D,e];rfl);refine⟨j,(a,(S.rs.length:Int)),?_,ea.symm,?_⟩
   ·show(S.ts.take j++[(a,(S.rs.length:Int))])[j]?=_;rw[List.getElem?_append_right (by lia),d,Nat.sub_self];rfl
   ·show cnt ((S.ts.take j++[(a,(S.rs.length:Int))]).take (j+1))=0;rw[tO (by rw[lAq,d];show j+1≤_;lia),zci,show cnt [(a,(S.rs.length:Int))]=0 from zcH λt G=>by rw[mS G];exact Y];have:=zdL (S.ts.take j);lia
  ·rw[D]at F;injection F with ea er;refine⟨λi t u G e=>?_,λi t u G e=>?_⟩
   ·have s:(S.ts.take j++[(a,(S.rs.length:Int))])[i]?=some t:=G;rw[List.getElem?_append_left (by lia)]at s;exact absurd (show -a∈_ by rw[ea,←e];exact zcD s) a2
   ·have s:(S.ts.take j++[(a,(S.rs.length:Int))])[i]?=some t:=G;rw[List.getElem?_append_left (by lia)]at s;refine⟨j,(a,(S.rs.length:Int)),?_,ea,?_⟩
    ·show(S.ts.take j++[(a,(S.rs.length:Int))])[j]?=_;rw[List.getElem?_append_right (by lia),d,Nat.sub_self];rfl
    ·show cnt ((S.ts.take j++[(a,(S.rs.length:Int))]).take (j+1))≤cnt ((S.ts.take j++[(a,(S.rs.length:Int))]).take (i+1));rw[tO (by rw[lAq,d];show j+1≤_;lia),zci,show cnt [(a,(S.rs.length:Int))]=0 from zcH λt G=>by rw[mS G];exact Y,(zbn s).2];have h3:=zea s;rw[(zd7 u h3.2).2];have yr:y∈rest:=by rw[er];exact List.mem_cons_self
     have yP:y∈aX S.rs S.ts f:=by rw[D];exact List.mem_cons_of_mem _ yr
     have ly:lvF S.ts y=cnt (S.ts.take (i+1)):=by have:=zbT c.negs h3.2;rw[e,Int.neg_neg]at this;exact this
     have y0:=zj0 c yP;have y1:=zhg (ts:=S.ts) y;have y2:=lR y yr;obtain⟨r,I,P⟩:=l1 (by lia);have pw:=znK (f:=f) c;rw[D,er]at pw;have Z:=(List.pairwise_cons.mp (List.pairwise_cons.mp pw).2).1;have:m≤lvF S.ts y:=by
      rw[er]at I;rcases List.mem_cons.mp I with z | z
      ·rw[←P,z];exact Int.le_refl _
      ·rw[←P];exact Z r z
     lia
 ·have f0:f≠-1:=by have:=C.ln.f0;lia
  refine⟨⟨?_,H _,C.b.row,C.b.snd,C.b.sub,C.b.len,Q _ f0,o1,o2,O⟩,W.cut g m0 U hk,N _,M _⟩;show TOk S.rs (S.ts.take j++[(a,f)]);refine TOk.snoc (c.take j) (t:=(a,f)) (A a J).1 T a1 a2 (.inr ⟨f.toNat,aS S.rs f,?_,zdN C.ln.f0 C.ln.f1,(zjk C.ln E).mp J,λp K np=>?_⟩)
  ·show f=(f.toNat:Int);have:=C.ln.f0;lia
  ·have K:=(zjk C.ln E).mpr K;rw[D]at K;exact o p ((List.mem_cons.mp K).resolve_left np)
structure zbq (n:Nat)(B:List (List Int))(i:Nat)(S:HS):Prop where
 rs:S.rs=B
 pp:S.pp=[]
 lk:S.lk=0
 bs:S.bs=[]
 od:∀ a:Int,a∈S.od↔1≤a∧a≤n
 odn:S.od.Nodup
 la:∀ a x,S.la a=some x→x=a∨x=-a
 tok:TOk B S.ts
 rng:∀ t∈S.ts,t.1.natAbs≤n
 fo:∀ t∈S.ts,t.2≠-1
 w:WOk { S with rs:=B.take i } S.wg 0
def wp0 (ts:List (Int × Int))(a b:Int):Wp ts 0 a b:=λ_ _ h=>absurd h (Nat.not_lt_zero _)
def zbq.zero {n:Nat}{B:List (List Int)}{S:HS}(rs:S.rs=B)(pp:S.pp=[])(i:S.lk=0)(bs:S.bs=[])(od:∀ a:Int,a∈S.od↔1≤a∧a≤n)(d:S.od.Nodup)(la:∀ a,S.la a=none)(ts:S.ts=[])(e:∀ r,S.wt r=none)(f:∀ c,S.wg c=[]):zbq n B 0 S:=by
 refine⟨rs,pp,i,bs,od,d,λa x h=>(by rw[la]at h;cases h),(by rw[ts];exact TOk.nil _),(by rw[ts];exact λ_ h=>(nomatch h)),(by rw[ts];exact λ_ h=>(nomatch h)),⟨λr g h=>?_,λr a b h=>?_,λr c=>?_,λc=>?_,λr a b h=>?_,λa h=>?_,λh=>?_⟩⟩
 ·cases h
 ·have h':S.wt r=some (a,b):=h;rw[e]at h';cases h'
 ·rw[f];refine⟨λh=>(nomatch h),λ⟨a,b,h,_⟩=>?_⟩;have h':S.wt r=some (a,b):=h;rw[e]at h';cases h'
 ·rw[f];exact List.Pairwise.nil
 ·exact⟨wp0 _ _ _,wp0 _ _ _⟩
 ·cases h
 ·cases h
def zlo {B:List (List Int)}{i:Nat}{r:List Int}(h:B[i]?=some r):(B.take i).length=i:=by have:=(gEq h).1;rw[List.length_take];lia
def cnt0 (h:zbq n B i S)(j:Nat):cnt (S.ts.take j)=0:=zcH λt a=>h.fo t (List.mem_of_mem_take a)
def zbq.add {n:Nat}{B:List (List Int)}{i:Nat}{S v:HS}{r:List Int}(h:zbq n B i S)(d:B[i]?=some r)(y:r.Nodup)(x:r≠[])(F:∀ a,r=[a]→a∈S.hs)(es:v={ S with wt:=putW (i:Int) r S.wt,wg:=putG (i:Int) r S.wg }):zbq n B (i+1) v:=by
 subst es;refine⟨h.rs,h.pp,h.lk,h.bs,h.od,h.odn,h.la,h.tok,h.rng,h.fo,?_⟩;have W:=WOk.put (S:={ S with rs:=B.take i }) h.w (l:=.int 0) y x (λa e=>?_) λa b t _=>⟨wp0 _ _ _,wp0 _ _ _⟩
 ·have s:=zlo d;have e:(({ S with rs:=B.take i }:HS).put (.int 0) r r).wg=putG (i:Int) r S.wg:=by show putG ((B.take i).length:Int) r S.wg=_;rw[s]
  have q:(({ S with rs:=B.take i }:HS).put (.int 0) r r).wt=putW (i:Int) r S.wt:=by show putW ((B.take i).length:Int) r S.wt=_;rw[s]
  rw[e]at W;refine⟨λk p o A=>?_,λk a b o=>?_,λk c=>?_,W.nd,λk a b o=>?_,λa C=>?_,λz=>?_⟩
  ·have:=W.has k p (by show(B.take i++[r])[k]?=_;rw[←zan d];exact o) A;rw[q]at this;exact this
  ·have:=W.is k a b (by rw[q];exact o);show a∈aS (B.take (i+1)) k∧b∈aS (B.take (i+1)) k∧a≠b∧0≤k∧k < ((B.take (i+1)).length:Int);rw[zan d];exact this
  ·have:=W.gw k c;rw[q]at this;exact this
  ·exact⟨wp0 _ _ _,wp0 _ _ _⟩
  ·have g:[a]∈B.take (i+1):=C;rw[zan d]at g;exact W.one a g
  ·have f:[]∈B.take (i+1):=z;rw[zan d]at f;exact W.nil f
 ·obtain⟨j,u,E,D⟩:=ze6 (F a e);exact⟨j,u,E,D,cnt0 h _⟩
def zbq.hold (h:zbq n B i S)(o:n≤60)(d:B[i]?=some [a])(f:a≠0∧a.natAbs≤n)(v:a∉S.hs)(s:-a∉S.hs):zbq n B (i+1) (S.hold a i):=by
 have h':zbq n B i (S.hold a i):=by
  refine⟨h.rs,h.pp,h.lk,h.bs,h.od,h.odn,h.la,TOk.snoc h.tok (t:=(a,(i:Int))) f.1 (by show -60≤a∧a≤60;lia) v s (.inr ⟨i,[a],rfl,d,List.mem_cons_self,λp r l=>absurd (mS r) l⟩),λt b=>?_,λt b=>?_,⟨h.w.has,h.w.is,h.w.gw,h.w.nd,λ_ _ _ _=>⟨wp0 _ _ _,wp0 _ _ _⟩,λx q=>?_,h.w.nil⟩⟩
  ·rcases mPq b with z | z
   ·exact h.rng t z
   ·rw[mS z];exact f.2
  ·rcases mPq b with z | z
   ·exact h.fo t z
   ·rw[mS z];show(i:Int)≠-1;lia
  ·obtain⟨j,u,c,k,g⟩:=h.w.one x q;exact⟨j,u,(zbn c).1,k,(zbn c).2.trans g⟩
 refine h'.add d (by simp) (by simp) (λx e=>?_) rfl;injection e with e;show x∈(S.ts++[(a,(i:Int))]).map Prod.fst;rw[mAq,←e];exact List.mem_append_right _ List.mem_cons_self
def zbq.hb (h:zbq n B i S)(c:∀ r∈B,r.Nodup∧∀ p∈r,p≠0∧p.natAbs≤n):HB n B S:=by refine⟨h.rs ▸ h.tok,h.rng,h.rs ▸ c,λv a=>h.rs ▸ a,λr b=>h.rs ▸ b,by rw[h.rs,h.pp];rfl,?_,h.od,h.odn,h.la⟩;rw[h.bs,zfw _ _ h.fo]
def zbq.fail (h:zbq n B i S)(b:∀ r∈B,r.Nodup∧∀ p∈r,p≠0∧p.natAbs≤n)(a:B[i]?=some r)(hf:∀ p∈r,-p∈S.hs):zcV n B S (i:Int):=by have c:cnt S.ts=0:=zcH h.fo;exact⟨h.hb b,(h.rs ▸ h.tok:TOk S.rs S.ts).ln ⟨r,h.rs ▸ a,hf⟩,λz=>absurd z (by lia),λz=>absurd z (by lia)⟩
def zbq.mid (h:zbq n B B.length S)(a:∀ r∈B,r.Nodup∧∀ p∈r,p≠0∧p.natAbs≤n):zbC n B S:=by
 have e:({ S with rs:=B.take B.length }:HS)=S:=by rw[List.take_length,←h.rs]
 have w:=h.w;rw[e]at w;refine⟨h.hb a,by rw[h.lk];exact w,by rw[h.lk];exact Nat.zero_le _,λi _ _=>?_⟩;rw[cnt0 h,zcH h.fo]
end L2
namespace L2
open PySem PySem.Spec PyProof.Rows
section
variable {P:Program} {w:World}
abbrev Sgn:=Str × List Key
def ziU (P:Program)(w:World)(h:Heap)(k:Sgn)(a:Addr):Prop :=
 ∃(o:Obj) (t:Tok) (q:Addr) (n:Nat),h.get? a=some o∧o.cls=.type "tuple"∧o.data=.seq #[.str k.1 t,.ref q] n∧IsTupleKey (zaJ P w) h k.2 q
def ziU.inj (i:ziU P w h x a)(g:ziU P w h y a):x=y:=by obtain⟨o,t,q,n,j,_,l,k⟩:=i;obtain⟨A,t',f,B,b,_,d,c⟩:=g;cases j.symm.trans b;have e:=l.symm.trans d;injection e with e _;have z:[Value.str x.1 t,.ref q]=[Value.str y.1 t',.ref f]:=congrArg Array.toList e;injection z with v u;injection v with s _;injection u with r _;injection r with p;subst p;exact Prod.ext s (k.inj c)
variable {A:Around} {E:Value→Shared→Prop} {s:Shared}
end
section
variable {prog:Program} {w:World} {A:Around} {E:Value→Shared→Prop} {s:Shared}
def zkH (a:s.heap.IsTupleIter it t i)(g:s.heap.IsTuple t items)(f:items[i]?=some x)
  (j:∀ h',h'.IsTupleIter it t (i+1)→Heap.SameBut it s.heap h'→Q x { s with heap:=h' }):wpAny (model prog w) A (Builtin.SmallTypes.nextOf (.ref it)) Q E s:=by
 obtain⟨o,c,h,b⟩:=id a;obtain⟨k,d,_,l,e⟩:=g;unfold Builtin.SmallTypes.nextOf;refine wpAny_bind (wpAny_callSpecial?_slot (name:=Str.ofString "__next__") a.typeIs F.slot_tuple_iterator_next (wpAny_call_entry F.slot_tuple_iterator_next a.typeIs F.entry_tuple_iterator_next ?_ (F.args_tuple_iterator_next_1 _)));show wpAny _ _ (field (.ref it) 0 >>= _) _ _ s;refine wpAny_bind (wpAny_field c b (x:=.ref t) rfl ?_);show wpAny _ _ (if(Value.ref t == Value.none)=true then _ else _) _ _ s
 rw[if_neg (show ¬((Value.ref t == Value.none)=true) from Bool.false_ne_true)];show wpAny _ _ (field (.ref it) 1 >>= _) _ _ s;refine wpAny_bind (wpAny_field c b (x:=.int i 0) rfl ?_);show wpAny _ _ (seqItems? (.ref t) >>= _) _ _ s;refine wpAny_bind (wpAny_seqItems d e ?_);simp only[Int.toNat_natCast,f];refine wpAny_bind (wpAny_setField c b (by simp) (wpAny_pure ⟨x,rfl,wpAny_pure (j _ ?_ (Heap.SameBut.update ..))⟩));exact⟨_,Heap.get?_update_self _ c (Obj.isFreed_of_fields (Obj.data_mapFields b _)),(Obj.cls_mapFields ..).trans h,by rw[Obj.data_mapFields b];simp [rawInt]⟩
def ze3 (h:A.handled=none)(b:s.heap.IsTupleIter it t i)(k:s.heap.IsTuple t items)(j:items[i]?=none)
  (l:∀ h' e,Heap.ExtBut it s.heap h'→(∃ o,h'.get? e=some o∧o.cls=.type "StopIteration")→E (.ref e) { s with heap:=h' }):wpAny (model prog w) A (Builtin.SmallTypes.nextOf (.ref it)) Q E s:=by
 obtain⟨o,d,q,g⟩:=id b;obtain⟨n,c,_,p,f⟩:=k;unfold Builtin.SmallTypes.nextOf;refine wpAny_bind (wpAny_callSpecial?_slot (name:=Str.ofString "__next__") b.typeIs F.slot_tuple_iterator_next (wpAny_call_entry F.slot_tuple_iterator_next b.typeIs F.entry_tuple_iterator_next ?_ (F.args_tuple_iterator_next_1 _)));show wpAny _ _ (field (.ref it) 0 >>= _) _ _ s;refine wpAny_bind (wpAny_field d g (x:=.ref t) rfl ?_);show wpAny _ _ (if(Value.ref t == Value.none)=true then _ else _) _ _ s
 rw[if_neg (show ¬((Value.ref t == Value.none)=true) from Bool.false_ne_true)];show wpAny _ _ (field (.ref it) 1 >>= _) _ _ s;refine wpAny_bind (wpAny_field d g (x:=.int i 0) rfl ?_);show wpAny _ _ (seqItems? (.ref t) >>= _) _ _ s;refine wpAny_bind (wpAny_seqItems c f ?_);simp only[Int.toNat_natCast,j];refine wpAny_bind (wpAny_rule (wpAny_bind (wpAny_setField d g (by simp) ?_)));show wpAny _ _ (newExc (.type "StopIteration") [] >>= _) _ _ _;refine wpAny_bind ?_;simp only[newExc,newTuple];refine wpAny_bind (wpAny_newObj_type ?_ (by size_fits));refine wpAny_bind (m:=firstArgMember _ _) (wpAny_of_eq (a:=Value.none) (by first | rfl | (simp only[firstArgMember];rfl)) ?_)
 refine wpAny_newObj_type ?_ (by size_fits);simp only[raiseNew];refine wpAny_bind (wpAny_handled ?_)
 first | rw[show A.in1.handled=none from h] | rw[h]
 refine wpAny_bind (wpAny_pure (wpAny_throw ?_));exact l _ _ (((Heap.SameBut.update ..).extBut.push _).push _) ⟨_,Heap.get?_push_size _ rfl,rfl⟩
def TuI (h:Heap)(it t:Addr)(i:Nat)(xs:Array Value):Prop:=h.IsTupleIter it t i∧h.IsTuple t xs
def TuI.ext (x:TuI h it t i xs)(hs:Heap.ExtBut b h h')(c:it≠b)(a:t≠b):TuI h' it t i xs:=⟨x.1.extBut hs c,x.2.extBut hs a⟩
end
section
variable {X:Cx}
def mulOk (d:1≤n)(c:n≤100)(a:z.length≤100):MulOk z n:=by
 refine⟨?_,λ_ _=>?_,λ_ _=>?_⟩
 ·rw[dFq (by lia),dFq (by lia)];rfl
 ·have:(2 ^ 63 - 1:Int) / n≥1000:=by rw[ge_iff_le,Int.le_ediv_iff_mul_le (by lia)];lia
  lia
 ·have b:n.toNat≤100:=by lia
  have:=Nat.mul_le_mul a b;have hs:z.length * n.toNat≤sizeLine:=by rw[sizeLine_eq];lia
  unfold Builtin.Str.tooLong;exact dFq (Nat.not_lt.mpr hs)
def znL:OpR X (binaryOp .Mult) (λx y H Q=>∃ z n,x=.str z∧y=.int n∧1≤n∧n≤100∧z.length≤100∧Q (.str (Txt.mul z n)) H):=by intro a s g H x y v u Q I c b h;obtain⟨z,n,rfl,rfl,f,e,d,q⟩:=h;obtain⟨t,rfl⟩:=c;obtain⟨t',rfl⟩:=b;exact SB.mul (mulOk f e d) λi k=>⟨.str _,H,I.tok _,⟨_,rfl⟩,q⟩
def zhJ (K:W.Frag)(c:X.K=K)(a:PE X e ta)(b:attributeBase e f X.env (eval e X.env)=eval e X.env):PE X (.Attribute e f pos) (tFld K ta f):=by subst c;exact aB a b
end
section
variable {X:Cx}
def zga:zbt X (.builtin "sorted") (λxs H Q=>∃(p:Addr) (ns:List Int),xs=[.ref p]∧SqL X.K H p (ns.map V.int)∧ns.length < 64∧∀(l:Addr) (a:List Int),H l=none→a.Perm ns→a.Pairwise (·≤·)→Q (.ref l) (upd H l (.lst (a.map V.int)))):=by intro i s B H xs us Q I r h;obtain⟨p,ns,rfl,n,y,q⟩:=h;obtain⟨u,rfl,k⟩:=zcx r;cases k;obtain⟨f,g,pl,D⟩:=I.list n;have t:=zkM g;have d:=g.length;rw[lM]at d;refine sorted_ints pl.isList t (by lia) λc a A j z=>?_;obtain⟨e,v⟩:=sortedAll_at s.heap f c;have C:=j.length_eq;exact⟨.ref (s.heap.objs.size+1),_,I.laid (t':=s.toks) (λb o x=>sortedAll_old x) (Nat.le_succ _) (show zaz X.prog X.w _ _ _ (.lst (a.map V.int)) from⟨Nat.le_of_lt (zbu (by rw[lM];lia)),c.toList,e,zfH A,v⟩),rfl,q _ a (I.hok.fresh (Nat.le_succ _)) j z⟩
end
section
variable {X:Cx}
inductive zix:V→List V→Hp→VK→Prop|m{x vs H Q} (d:Addr) (k:Key) (v:V) (kvs:List (Key × V)):x=.ref d→vs=[kV k,v]→H d=some (.dK kvs)→kvs.length < sizeLine→((∃ u,zam kvs k=some u∧Q u H)∨(zam kvs k=none∧Q v (upd H d (.dK (zav kvs k v)))))→zix x vs H Q
def znZ:MtR X "dict.setdefault" zix:=by
 intro l s J H x vs v us Q I p r h;obtain⟨d,k,y,kvs,rfl,rfl,n,K,q⟩:=h;cases p;cases r with
 | cons A t =>
 cases t with
 | @cons _ o _ _ j t =>
 cases t;obtain⟨z,i,f,b,dd⟩:=zge I.hok n;have B:f.length≤sizeLine:=by rw[←b.length];exact z
 have a:=b.val k;refine call_meetsIn PySem.F.slot_dict_setdefault dd.typeIs PySem.F.entry_dict_setdefault (PySem.F.args_dict_setdefault_3 _ _ _) (kt_meets_setdefault (zaJ X.prog X.w) d (zd3 A) i o) ⟨f,dd,B,λu C=>?_,λD h' c hs=>?_⟩
 ·rw[C]at a;rcases q with ⟨g,q1,e⟩ | ⟨q1,_⟩
  ·rw[q1]at a;exact⟨g,H,I.tok _,a,e⟩
  ·rw[q1]at a;exact a.elim
 ·rw[D]at a;rcases q with ⟨g,q1,e⟩ | ⟨q1,e⟩
  ·rw[q1]at a;exact a.elim
  ·have G:∃ q,h'.get? d=some q:=let ⟨q,_,_,hq,_⟩:=c;⟨q,hq⟩;have E:(zav kvs k y).length≤sizeLine:=by have:=zdJ kvs k y;lia
   exact⟨y,_,ze0 I (by rw[n];exact True.intro) hs G (zfF E i (b.put k j) c),j,e⟩
def tSetK (c:TE)(t:TA):TE:=λa H Q=>c a H λx b=>(∃ d kvs,x=.ref d∧b d=some (.dK kvs))∧t a b λxs e=>zix x xs e Q
def zhI (w:PE X o to)(y:PA X (e :: es) t)
  (f:attributeBase o "setdefault" X.env (eval o X.env)=eval o X.env:=by rfl)
  (g:((backTo cpos (starEach (e :: es) X.env)).all (λx=>!x.1)&&(backToKw cpos (keywordEach [] X.env)).all (λx=>x.1.isSome)
   && decide ((e :: es).length+([]:List Keyword).length+(if([]:List Keyword).isEmpty then 0 else 1) < 30))=true:=by rfl)
  (c:(apos.endLine == cpos.line)=true:=by rfl)(hs:starEach (e :: es) X.env=(false,eval e X.env) :: starEach es X.env:=by rfl)(b:(backTo cpos (starEach es X.env)).any (·.1)=false:=by rfl) :
  PE X (.Call (.Attribute o "setdefault" apos) (e :: es) [] cpos) (tSetK to t):=by intro a s i H Q I h;refine wpAny_Call_method_late f g c rfl (thn (w a s i H _ I h) λv p ⟨x,E,k,r,⟨d,kvs,B,l⟩,q1⟩=>?_);subst B;cases r;obtain⟨A,z,_⟩:=ziR k (.inl ⟨kvs,.inl l⟩);refine⟨"dict","dict.setdefault",PySem.F.plainAttrs_dict,PySem.F.slot_dict_setdefault,PySem.F.type_dict_setdefault,A,z,?_⟩;have j:=y cpos a p i E _ k q1;rw[hs]at j ⊢;refine Calls.callWith_builtin (by show(false||(backTo cpos (starEach es X.env)).any (·.1))=false;rw[b] <;> rfl) (Calls.evalArgs_plain ?_);exact thn j λus n ⟨vs,D,C,q,u⟩=>znZ a n i D (.ref d) vs (.ref d) us Q C rfl q u
end
end L2
namespace L2
open PySem
structure Two (F O H:Hp):Prop where
 f:ap F H
 o:ap O H
 d:∀ b,O b≠none→F b=none
def Two.own (T:Two F O H){a:Addr}(h:O a≠none)(u:HO):Two F (upd O a u) (upd H a u):=by
 refine⟨λb o e=>?_,λb o e=>?_,λb e=>?_⟩
 ·rw[ag (λz=>by rw[z,T.d a h]at e;cases e)];exact T.f b o e
 ·by_cases z:b=a
  ·rw[z,af]at e ⊢;exact e
  ·rw[ag z]at e ⊢;exact T.o b o e
 ·by_cases z:b=a
  ·rw[z];exact T.d a h
  ·rw[ag z]at e;exact T.d b e
def Two.newO (T:Two F O H){a:Addr}(h:H a=none)(u:HO):Two F (upd O a u) (upd H a u):=by
 have c:F a=none:=by
  cases e:F a with
  | none=>rfl
  | some o=>rw[T.f a o e]at h;cases h
 refine⟨λb o e=>?_,λb o e=>?_,λb e=>?_⟩
 ·rw[ag (λz=>by rw[z,c]at e;cases e)];exact T.f b o e
 ·by_cases z:b=a
  ·rw[z,af]at e ⊢;exact e
  ·rw[ag z]at e ⊢;exact T.o b o e
 ·by_cases z:b=a
  ·rw[z];exact c
  ·rw[ag z]at e;exact T.d b e
def Two.swap (T:Two F O H):Two O F H:=⟨T.o,T.f,λb e=>by
 cases h:O b with
 | none=>rfl
 | some o=>exact absurd (T.d b (by rw[h];exact λz=>nomatch z)) e⟩
def Two.frm (T:Two F O H){a:Addr}(h:F a≠none)(u:HO):Two (upd F a u) O (upd H a u):=(T.swap.own h u).swap
def Two.newF (T:Two F O H){a:Addr}(h:H a=none)(u:HO):Two (upd F a u) O (upd H a u):=(T.swap.newO h u).swap
def Two.base (T:Two F O H)(s:ap F0 F):Two F0 O H:=⟨s.trans T.f,T.o,λb e=>by
 cases h:F0 b with
 | none=>rfl
 | some o=>have:=s b o h;rw[T.d b e]at this;cases this⟩
def Two.none (T:Two F O H){a:Addr}(h:H a=Option.none):O a=Option.none∧F a=Option.none:=by
 constructor
 ·cases e:O a with
  | none=>rfl
  | some o=>rw[T.o a o e]at h;cases h
 ·cases e:F a with
  | none=>rfl
  | some o=>rw[T.f a o e]at h;cases h
def aV.oth (h:H a=some u)(n:∀ xs,u≠.tup xs)(d:∀ q xs,u≠.frz q (.tup xs)):aV H (upd H a o):=λb zs q=>by
 have c:b≠a:=λz=>by
  rw[z]at q;rcases q with q | ⟨w,q⟩ <;> rw[h]at q <;> injection q with q
  ·exact n _ q
  ·exact d _ _ q
 unfold Rd at q ⊢;rw[ag c];exact q
def zjX (kvs:List (Key × V))(k:Key)(v:V):(k∈kvs.map Prod.fst∧(zav kvs k v).map Prod.fst=kvs.map Prod.fst)∨(k∉kvs.map Prod.fst∧(zav kvs k v).map Prod.fst=kvs.map Prod.fst++[k]):=by
 unfold zav;by_cases c:kvs.any (λb=>decide (b.1=k))=true
 ·rw[if_pos c];obtain⟨x,a,e⟩:=List.any_eq_true.mp c;refine .inl ⟨List.mem_map.mpr ⟨x,a,oDq e⟩,?_⟩;rw[List.map_map];refine List.map_congr_left λy _=>?_;simp only[Function.comp_apply];split <;> simp_all
 ·rw[if_neg c];refine .inr ⟨λz=>?_,by rw[mAq];rfl⟩;obtain⟨x,a,e⟩:=List.mem_map.mp z;exact c (List.any_eq_true.mpr ⟨x,a,dTq e⟩)
structure DI (kvs:List (Key × V))(g:Int→Option V):Prop where
 nd:(kvs.map Prod.fst).Nodup
 ks:∀ k∈kvs.map Prod.fst,∃ m:Int,k=Sum.inl m∧-100≤m∧m < 199900
 val:∀ p:Int,zam kvs (Sum.inl p)=g p
def DI.nil:DI [] λ_=>none:=⟨List.Pairwise.nil,λk h=>(nomatch h),λ_=>rfl⟩
def DI.put (h:DI kvs g){p:Int}(f:-100≤p∧p < 199900)(v:V):DI (zav kvs (Sum.inl p) v) λx=>if x=p then some v else g x:=by
 refine⟨?_,λk d=>?_,λx=>?_⟩
 ·rcases zjX kvs (Sum.inl p) v with ⟨c,e⟩ | ⟨c,e⟩ <;> rw[e]
  ·exact h.nd
  ·exact List.nodup_append.mpr ⟨h.nd,by simp,λa j b i e=>c (by rw[mS i]at e;rw[←e];exact j)⟩
 ·rcases zjX kvs (Sum.inl p) v with ⟨c,e⟩ | ⟨c,e⟩ <;> rw[e]at d
  ·exact h.ks k d
  ·rcases mPq d with z | z
   ·exact h.ks k z
   ·exact⟨p,mS z,f⟩
 ·rw[zem,h.val];by_cases e:x=p
  ·rw[if_pos (by rw[e]),if_pos e]
  ·rw[if_neg (λz=>e (Sum.inl.inj z)),if_neg e]
def DI.drop (h:DI kvs g)(p:Int):DI (zbs kvs (Sum.inl p)) λx=>if x=p then none else g x:=by
 have sub:((zbs kvs (Sum.inl p)).map Prod.fst).Sublist (kvs.map Prod.fst):=List.Sublist.map _ List.filter_sublist;refine⟨h.nd.sublist sub,λk a=>h.ks k (sub.subset a),λx=>?_⟩;rw[zjq,h.val];by_cases e:x=p
 ·rw[if_pos (by rw[e]),if_pos e]
 ·rw[if_neg (λz=>e (Sum.inl.inj z)),if_neg e]
def keyI:Key→Int
 | .inl m=>m+100
 | .inr _=>0
def DI.len (h:DI kvs g):kvs.length≤200000:=by
 have:=zbG 200000 (xs:=(kvs.map Prod.fst).map keyI) ?_ ?_
 ·rw[lM,lM]at this;exact this
 ·refine List.pairwise_map.mpr (h.nd.imp_of_mem λ{x y} a c e z=>e ?_);obtain⟨m,rfl,_⟩:=h.ks x a;obtain⟨b,rfl,_⟩:=h.ks y c;have f:m+100=b+100:=z;rw[show m=b by lia]
 ·intro x a;obtain⟨k,d,rfl⟩:=List.mem_map.mp a;obtain⟨m,rfl,j,i⟩:=h.ks k d;show 0≤m+100∧m+100 < _;lia
structure HA where
 h:Addr
 dx:Addr
 kn:Addr
 pp:Addr
 tr:Addr
 hd:Addr
 bg:Addr
 wd:Addr
 wg:Addr
 od:Addr
 lt:Addr
def HA.st (A:HA):List Addr:=[A.h,A.kn,A.pp,A.tr,A.hd,A.bg,A.wd,A.wg,A.od,A.lt]
def zbg (A:HA)(b:Addr)(a:Int)(c:Nat):List (Str × V):=[("problem",.ref b),("most",.int a),("known",.ref A.kn),("paper",.ref A.pp),("trail",.ref A.tr),("held",.ref A.hd),("looked",.int c),("begins",.ref A.bg),("watched",.ref A.wd),("watching",.ref A.wg),("order",.ref A.od),("lately",.ref A.lt)]
structure HC where
 xs:List V
 ys:List V
 zs:List V
 kh:List (Key × V)
 kw:List (Key × V)
 gw:Int→Option V
 kg:List (Key × V)
 gg:Int→Option V
 kl:List (Key × V)
def zec (C:Addr)(A:HA)(b:Addr)(a:Int)(S:HS)(R:HC):List HO:=[.ins C A.dx (zbg A b a S.lk),.lst R.xs,.lst R.ys,.lst R.zs,.dK R.kh,.lst (S.bs.map V.int),.dK R.kw,.dK R.kg,.lst (S.od.map V.int),.dK R.kl]
inductive WdR (K:W.Frag)(H:Hp):Option V→Option (Int × Int)→Prop
 | no:WdR K H none none
 | is {q:Addr} {a b:Int}:SqT K H q [.int a,.int b]→WdR K H (some (.ref q)) (some (a,b))
inductive WgR (O:Hp)(A:HA)(gg:Int→Option V)(c:Int):List Int→Prop
 | no:gg c=none→WgR O A gg c []
 | is {l:Addr} {ns:List Int}:gg c=some (.ref l)→O l=some (.lst (ns.map V.int))→l∉A.st→(∀ c',gg c'=some (.ref l)→c'=c)→WgR O A gg c ns
def zdd (hs:List Int):Int→Option V:=λp=>if p∈hs then some (.bl true) else none
structure HuO (K:W.Frag)(C:Addr)(O H:Hp)(A:HA)(pr:Addr)(most:Int)(S:HS)(hs:List Int)(R:HC):Prop where
 nd:A.st.Nodup
 at_:∀(i:Nat) (a:Addr) (o:HO),A.st[i]?=some a→(zec C A pr most S R)[i]?=some o→O a=some o
 kn:aq K H (S.rs.map zbe) R.xs
 pp:aq K H S.pp R.ys
 pn:zaP S.pp=true
 tr:aq K H (S.ts.map dP) R.zs
 hd:DI R.kh (zdd hs)
 wd:DI R.kw R.gw
 wr:∀ r,WdR K H (R.gw r) (S.wt r)
 wg:DI R.kg R.gg
 gr:∀ c,WgR O A R.gg c (S.wg c)
 lt:DI R.kl λa=>(S.la a).map V.int
def NTup (o:HO):Prop:=(∀ xs,o≠.tup xs)∧∀ q xs,o≠.frz q (.tup xs)
def NoT (O:Hp):Prop:=∀ b o,O b=some o→NTup o
def NoT.upd (h:NoT O){a:Addr}{u:HO}(n:NTup u):NoT (upd O a u):=λb o e=>by
 by_cases z:b=a
 ·rw[z,af]at e;injection e with e;exact e ▸ n
 ·rw[ag z]at e;exact h b o e
structure Hu (K:W.Frag)(C:Addr)(F O H:Hp)(A:HA)(pr:Addr)(most:Int)(S:HS)(hs:List Int)(R:HC):Prop where
 n:NoT O
 t:Two F O H
 u:HuO K C O H A pr most S hs R
def at_upd {g:List Addr}{k:List HO}{O:Hp}(l:g.Nodup)(h:∀(i:Nat) (a:Addr) (o:HO),g[i]?=some a→k[i]?=some o→O a=some o){i:Nat}{a:Addr}{u:HO}(d:g[i]?=some a) :
  ∀(j:Nat) (b:Addr) (o:HO),g[j]?=some b→(k.set i u)[j]?=some o→upd O a u b=some o:=by
 intro j b o f c;rw[List.getElem?_set]at c;by_cases e:i=j
 ·rw[if_pos e]at c;split at c
  ·rw[e,f]at d;injection d with d;injection c with c;rw[d,c,af]
  ·cases c
 ·rw[if_neg e]at c;have n:b≠a:=λz=>by rw[z]at f;have q:=(gEq d);have p:=(gEq f);exact e ((List.getElem_inj l).mp (q.2.trans p.2.symm))
  rw[ag n];exact h j b o f c
def WdR.keep (k:aV H H')(h:WdR K H g p):WdR K H' g p:=by
 cases h with
 | no=>exact .no
 | is h=>exact .is (k.sq h)
def WgR.upd (h:WgR O A gg c ns)(g:a∈A.st∨O a=none)(i:∀ l∈A'.st,l∈A.st∨O l=none):WgR (upd O a u) A' gg c ns:=by
 cases h with
 | no h=>exact .no h
 | @is l ns k b d j =>
  refine .is k ?_ (λz=>(i _ z).elim d λe=>by rw[b]at e;cases e) j;have f:l≠a:=λz=>g.elim (λq=>d (by rw[z];exact q)) λe=>by rw[←z,b]at e;cases e
  rw[ag f];exact b
section
variable {K:W.Frag} {C:Addr} {F O H:Hp} {A:HA} {pr:Addr} {most:Int} {S:HS} {hs:List Int} {R:HC}
def Hu.heap (U:Hu K C F O H A pr most S hs R)(k:aV H H')(t:Two F' O H'):Hu K C F' O H' A pr most S hs R:=⟨U.n,t,{ U.u with kn:=U.u.kn.keep k (zar _),pp:=U.u.pp.keep k U.u.pn,tr:=U.u.tr.keep k (zaV _),wr:=λr=>(U.u.wr r).keep k }⟩
def Hu.newF (U:Hu K C F O H A pr most S hs R){a:Addr}(h:H a=none)(u:HO):Hu K C (upd F a u) O (upd H a u) A pr most S hs R:=U.heap (aV.new h) (U.t.newF h u)
def Hu.base (U:Hu K C F O H A pr most S hs R)(s:ap F0 F):Hu K C F0 O H A pr most S hs R:=⟨U.n,U.t.base s,U.u⟩
def Hu.frmL (U:Hu K C F O H A pr most S hs R){a:Addr}{xs:List V}(h:F a=some (.lst xs))(u:HO):Hu K C (upd F a u) O (upd H a u) A pr most S hs R:=U.heap (aV.oth (U.t.f _ _ h) (λ_ z=>nomatch z) λ_ _ z=>nomatch z) (U.t.frm (by rw[h];exact λz=>nomatch z) u)
def Hu.at' (U:Hu K C F O H A pr most S hs R)(i:Nat){a:Addr}{o:HO}(c:A.st[i]?=some a)(b:(zec C A pr most S R)[i]?=some o):H a=some o:=U.t.o _ _ (U.u.at_ i a o c b)
def Hu.ins (U:Hu K C F O H A pr most S hs R):H A.h=some (.ins C A.dx (zbg A pr most S.lk)):=U.at' 0 rfl rfl
def Hu.set (U:Hu K C F O H A pr most S hs R)(i:Nat){a:Addr}{o u:HO}(d:A.st[i]?=some a)(p:(zec C A pr most S R)[i]?=some o)(n:∀ xs,o≠.tup xs)(h:∀ q xs,o≠.frz q (.tup xs))(g:NTup u) :
  NoT (upd O a u)∧Two F (upd O a u) (upd H a u)∧aV H (upd H a u)∧(∀(j:Nat) (b:Addr) (e:HO),A.st[j]?=some b→((zec C A pr most S R).set i u)[j]?=some e→upd O a u b=some e)∧∀ c,WgR (upd O a u) A R.gg c (S.wg c):=by have f:=U.u.at_ i a o d p;refine⟨U.n.upd g,U.t.own (by rw[f];exact λz=>nomatch z) u,aV.oth (U.t.o _ _ f) n h,at_upd U.u.nd U.u.at_ d,λc=>(U.u.gr c).upd (.inl (mOq d)) λl k=>.inl k⟩
def zaG:(∀ ys,HO.lst xs≠.tup ys)∧∀ q ys,HO.lst xs≠.frz q (.tup ys):=⟨λ_ z=>(nomatch z),λ_ _ z=>(nomatch z)⟩
def zbB:(∀ ys,HO.dK xs≠.tup ys)∧∀ q ys,HO.dK xs≠.frz q (.tup ys):=⟨λ_ z=>(nomatch z),λ_ _ z=>(nomatch z)⟩
def zda:(∀ ys,HO.ins C dx fs≠.tup ys)∧∀ q ys,HO.ins C dx fs≠.frz q (.tup ys):=⟨λ_ z=>(nomatch z),λ_ _ z=>(nomatch z)⟩
def Hu.setTr (U:Hu K C F O H A pr most S hs R){ts:List (Int × Int)}{zs:List V}(h:aq K H (ts.map dP) zs):Hu K C F (upd O A.tr (.lst zs)) (upd H A.tr (.lst zs)) A pr most { S with ts:=ts } hs { R with zs:=zs }:=by obtain⟨b,t,k,a,g⟩:=U.set 3 (u:=.lst zs) rfl rfl zaG.1 zaG.2 zaG;exact⟨b,t,U.u.nd,a,U.u.kn.keep k (zar _),U.u.pp.keep k U.u.pn,U.u.pn,h.keep k (zaV _),U.u.hd,U.u.wd,λr=>(U.u.wr r).keep k,U.u.wg,g,U.u.lt⟩
def Hu.setHd (U:Hu K C F O H A pr most S hs R){kh:List (Key × V)}{hs':List Int}(h:DI kh (zdd hs')):Hu K C F (upd O A.hd (.dK kh)) (upd H A.hd (.dK kh)) A pr most S hs' { R with kh:=kh }:=by obtain⟨b,t,k,a,g⟩:=U.set 4 (u:=.dK kh) rfl rfl zbB.1 zbB.2 zbB;exact⟨b,t,U.u.nd,a,U.u.kn.keep k (zar _),U.u.pp.keep k U.u.pn,U.u.pn,U.u.tr.keep k (zaV _),h,U.u.wd,λr=>(U.u.wr r).keep k,U.u.wg,g,U.u.lt⟩
def Hu.setBg (U:Hu K C F O H A pr most S hs R)(bs:List Int):Hu K C F (upd O A.bg (.lst (bs.map V.int))) (upd H A.bg (.lst (bs.map V.int))) A pr most { S with bs:=bs } hs R:=by obtain⟨b,t,k,a,g⟩:=U.set 5 (u:=.lst (bs.map V.int)) rfl rfl zaG.1 zaG.2 zaG;exact⟨b,t,U.u.nd,a,U.u.kn.keep k (zar _),U.u.pp.keep k U.u.pn,U.u.pn,U.u.tr.keep k (zaV _),U.u.hd,U.u.wd,λr=>(U.u.wr r).keep k,U.u.wg,g,U.u.lt⟩
def Hu.setKn (U:Hu K C F O H A pr most S hs R){rs:List (List Int)}{xs:List V}(h:aq K H (rs.map zbe) xs):Hu K C F (upd O A.kn (.lst xs)) (upd H A.kn (.lst xs)) A pr most { S with rs:=rs } hs { R with xs:=xs }:=by obtain⟨b,t,k,a,g⟩:=U.set 1 (u:=.lst xs) rfl rfl zaG.1 zaG.2 zaG;exact⟨b,t,U.u.nd,a,h.keep k (zar _),U.u.pp.keep k U.u.pn,U.u.pn,U.u.tr.keep k (zaV _),U.u.hd,U.u.wd,λr=>(U.u.wr r).keep k,U.u.wg,g,U.u.lt⟩
def Hu.setPp (U:Hu K C F O H A pr most S hs R){pp:List Dt}{ys:List V}(h:aq K H pp ys)(n:zaP pp=true):Hu K C F (upd O A.pp (.lst ys)) (upd H A.pp (.lst ys)) A pr most { S with pp:=pp } hs { R with ys:=ys }:=by obtain⟨b,t,k,a,g⟩:=U.set 2 (u:=.lst ys) rfl rfl zaG.1 zaG.2 zaG;exact⟨b,t,U.u.nd,a,U.u.kn.keep k (zar _),h.keep k n,n,U.u.tr.keep k (zaV _),U.u.hd,U.u.wd,λr=>(U.u.wr r).keep k,U.u.wg,g,U.u.lt⟩
def Hu.setWd (U:Hu K C F O H A pr most S hs R){r:Int}(c:-100≤r∧r < 199900){q:Addr}{x y:Int}(d:SqT K H q [.int x,.int y]):Hu K C F (upd O A.wd (.dK (zav R.kw (Sum.inl r) (.ref q)))) (upd H A.wd (.dK (zav R.kw (Sum.inl r) (.ref q)))) A pr most (S.setW r x y) hs { R with kw:=zav R.kw (Sum.inl r) (.ref q),gw:=λz=>if z=r then some (.ref q) else R.gw z }:=by
 obtain⟨b,t,k,a,g⟩:=U.set 6 (u:=.dK (zav R.kw (Sum.inl r) (.ref q))) rfl rfl zbB.1 zbB.2 zbB;refine⟨b,t,U.u.nd,a,U.u.kn.keep k (zar _),U.u.pp.keep k U.u.pn,U.u.pn,U.u.tr.keep k (zaV _),U.u.hd,U.u.wd.put c _,λz=>?_,U.u.wg,g,U.u.lt⟩;show WdR K _ (if z=r then some (.ref q) else R.gw z) (if z=r then some (x,y) else S.wt z)
 by_cases e:z=r
 ·rw[if_pos e,if_pos e];exact .is (k.sq d)
 ·rw[if_neg e,if_neg e];exact(U.u.wr z).keep k
def Hu.setLt (U:Hu K C F O H A pr most S hs R){c:Int}(d:-100≤c∧c < 199900)(x:Int):Hu K C F (upd O A.lt (.dK (zav R.kl (Sum.inl c) (.int x)))) (upd H A.lt (.dK (zav R.kl (Sum.inl c) (.int x)))) A pr most { S with la:=λz=>if z=c then some x else S.la z } hs { R with kl:=zav R.kl (Sum.inl c) (.int x) }:=by
 obtain⟨b,t,k,a,g⟩:=U.set 9 (u:=.dK (zav R.kl (Sum.inl c) (.int x))) rfl rfl zbB.1 zbB.2 zbB;refine⟨b,t,U.u.nd,a,U.u.kn.keep k (zar _),U.u.pp.keep k U.u.pn,U.u.pn,U.u.tr.keep k (zaV _),U.u.hd,U.u.wd,λr=>(U.u.wr r).keep k,U.u.wg,g,?_⟩;have e:(λz=>(if z=c then some x else S.la z).map V.int)=λz=>if z=c then some (.int x) else(S.la z).map V.int:=by funext z;split <;> rfl
 show DI _ λz=>(if z=c then some x else S.la z).map V.int
 rw[e];exact U.u.lt.put d _
def Hu.setLk (U:Hu K C F O H A pr most S hs R)(n:Nat):Hu K C F (upd O A.h (.ins C A.dx (zbg A pr most n))) (upd H A.h (.ins C A.dx (zbg A pr most n))) A pr most { S with lk:=n } hs R:=by obtain⟨b,t,k,a,g⟩:=U.set 0 (u:=.ins C A.dx (zbg A pr most n)) rfl rfl zda.1 zda.2 zda;exact⟨b,t,U.u.nd,a,U.u.kn.keep k (zar _),U.u.pp.keep k U.u.pn,U.u.pn,U.u.tr.keep k (zaV _),U.u.hd,U.u.wd,λr=>(U.u.wr r).keep k,U.u.wg,g,U.u.lt⟩
end
def Two.take (T:Two F O H){n:Addr}{o:HO}(h:F n=some o)(h0:F0 n=Option.none)(s:ap F0 F):Two F0 (upd O n o) H:=by
 refine⟨s.trans T.f,λb u e=>?_,λb e=>?_⟩
 ·by_cases z:b=n
  ·rw[z,af]at e;rw[z,←e];exact T.f _ _ h
  ·rw[ag z]at e;exact T.o b u e
 ·by_cases z:b=n
  ·rw[z];exact h0
  ·rw[ag z]at e;exact(T.base s).d b e
def zfk {b:Type}{L:List b}(c:L.Nodup){i j:Nat}{a:b}(g:L[i]?=some a)(f:L[j]?=some a):i=j:=by have e:=gEq g;have d:=gEq f;exact(List.getElem_inj c).mp (e.2.trans d.2.symm)
def zfU:∀ {L:List α} {i:Nat},L.Nodup→n∉L→(L.set i n).Nodup
 | [],_,a,_=>a
 | x :: L,0,a,h=>List.nodup_cons.mpr ⟨λz=>h (List.mem_cons_of_mem _ z),(List.nodup_cons.mp a).2⟩
 | x :: L,i+1,a,h=>by
  refine List.nodup_cons.mpr ⟨λz=>?_,zfU (List.nodup_cons.mp a).2 λz=>h (List.mem_cons_of_mem _ z)⟩;rcases List.mem_or_eq_of_mem_set z with z | z
  ·exact(List.nodup_cons.mp a).1 z
  ·exact h (z ▸ List.mem_cons_self)
section
variable {K:W.Frag} {C:Addr} {F O H:Hp} {A:HA} {pr:Addr} {most:Int} {S:HS} {hs:List Int} {R:HC}
def Hu.oN (U:Hu K C F O H A pr most S hs R){n:Addr}{o:HO}(h:F n=some o):O n=none:=by
 cases e:O n with
 | none=>rfl
 | some u=>have:=U.t.d n (by rw[e];exact λz=>nomatch z);rw[h]at this;cases this
def HuO.stO (U:HuO K C O H A pr most S hs R){n:Addr}(h:O n=none):n∉A.st:=λz=>by obtain⟨i,a⟩:=List.getElem?_of_mem z;have b:i < A.st.length:=(gEq a).1;have:=U.at_ i n _ a (gG (show i < (zec C A pr most S R).length from b));rw[h]at this;cases this
def Hu.give (U:Hu K C F O H A pr most S hs R){n:Addr}{c:Int}{ns:List Int}(E:-100≤c∧c < 199900)(h:F n=some (.lst (ns.map V.int)))(h0:F0 n=none)(s:ap F0 F) :
  ∃ M x,Hu K C F0 M (upd H A.wg (.dK (zav R.kg (Sum.inl c) (.ref n)))) A pr most (S.setG c ns) hs x∧(x.gg=λz=>if z=c then some (.ref n) else R.gg z)∧x.xs=R.xs:=by
 have v:=U.oN h;have j:=U.u.stO v;have L:=U.t.take h h0 s;have J:Hu K C F0 (upd O n (.lst (ns.map V.int))) H A pr most S hs R:=by refine⟨U.n.upd zaG,L,U.u.nd,λi a o b p=>?_,U.u.kn,U.u.pp,U.u.pn,U.u.tr,U.u.hd,U.u.wd,U.u.wr,U.u.wg,λc=>(U.u.gr c).upd (.inr v) λl D=>.inl D,U.u.lt⟩;have w:a≠n:=λz=>j (z ▸ mOq b);rw[ag w];exact U.u.at_ i a o b p
 obtain⟨y,t,k,a,g⟩:=J.set 7 (u:=.dK (zav R.kg (Sum.inl c) (.ref n))) rfl rfl zbB.1 zbB.2 zbB;refine⟨_,{ R with kg:=zav R.kg (Sum.inl c) (.ref n),gg:=λz=>if z=c then some (.ref n) else R.gg z },⟨y,t,U.u.nd,a,U.u.kn.keep k (zar _),U.u.pp.keep k U.u.pn,U.u.pn,U.u.tr.keep k (zaV _),U.u.hd,U.u.wd,λr=>(U.u.wr r).keep k,U.u.wg.put E _,λz=>?_,U.u.lt⟩,rfl,rfl⟩
 have f:∀ z,R.gg z≠some (.ref n):=λz e=>by
  have:=U.u.gr z;generalize S.wg z=B at this;cases this with
  | no h=>rw[h]at e;cases e
  | is b p _ _ =>
   rw[e]at b;injection b with b;injection b with b;rw[←b,v]at p;cases p
 show WgR _ A (λz=>if z=c then some (.ref n) else R.gg z) z (if z=c then ns else S.wg z)
 by_cases e:z=c
 ·rw[if_pos e];refine .is (l:=n) (by show(if z=c then _ else _)=_;rw[if_pos e]) ?_ j λd h'=>?_
  ·have w:n≠A.wg:=λq=>j (q ▸ mOq (l:=A.st) (i:=7) rfl);rw[ag w,af]
  ·have h':(if d=c then some (V.ref n) else R.gg d)=some (.ref n):=h'
   by_cases q:d=c
   ·rw[q,e]
   ·rw[if_neg q]at h';exact absurd h' (f d)
 ·rw[if_neg e];have g':=g z;generalize S.wg z=B at g';cases g' with
  | no h=>exact .no (by show(if z=c then _ else _)=_;rw[if_neg e];exact h)
  | @is l _ b p I G =>
   refine .is (l:=l) (by show(if z=c then _ else _)=_;rw[if_neg e];exact b) p I λd h'=>?_
   have h':(if d=c then some (V.ref n) else R.gg d)=some (.ref l):=h'
   by_cases q:d=c
   ·rw[if_pos q]at h';injection h' with h';injection h' with h';rw[←h']at b;exact absurd b (f z)
   ·rw[if_neg q]at h';exact G d h'
def Hu.addL (U:Hu K C F O H A pr most S hs R){l:Addr}{c:Int}(h:R.gg c=some (.ref l))(r:Int):H l=some (.lst ((S.wg c).map V.int))∧Hu K C F (upd O l (.lst ((S.wg c++[r]).map V.int))) (upd H l (.lst ((S.wg c++[r]).map V.int))) A pr most (S.addG c r) hs R:=by
 have g:=U.u.gr c;generalize I:S.wg c=G at g;cases g with
 | no h'=>rw[h]at h';cases h'
 | @is j _ b w v s =>
  rw[h]at b;injection b with b;injection b with b;subst b;have p:=U.t.o _ _ w;have k:=aV.oth (o:=.lst ((G++[r]).map V.int)) p zaG.1 zaG.2;refine⟨p,U.n.upd zaG,U.t.own (by rw[w];exact λz=>nomatch z) _,U.u.nd,λi a o x J=>?_,U.u.kn.keep k (zar _),U.u.pp.keep k U.u.pn,U.u.pn,U.u.tr.keep k (zaV _),U.u.hd,U.u.wd,λr=>(U.u.wr r).keep k,U.u.wg,λz=>?_,U.u.lt⟩
  ·have d:a≠l:=λz=>v (z ▸ mOq x);rw[ag d];exact U.u.at_ i a o x J
  ·show WgR _ A R.gg z (if z=c then S.wg z++[r] else S.wg z)
   by_cases e:z=c
   ·rw[if_pos e,e,I];exact .is h af v s
   ·rw[if_neg e];have g:=U.u.gr z;generalize S.wg z=E at g;cases g with
    | no h'=>exact .no h'
    | @is j _ f D B y =>
     refine .is f ?_ B y;have d:j≠l:=λq=>e (s z (q ▸ f));rw[ag d];exact D
def Hu.gg0 (U:Hu K C F O H A pr most S hs R){c:Int}(h:R.gg c=none):S.wg c=[]:=by
 have g:=U.u.gr c;generalize S.wg c=b at g;cases g with
 | no _=>rfl
 | is a _ _ _=>rw[h]at a;cases a
def Hu.gg1 (U:Hu K C F O H A pr most S hs R){c:Int}{v:V}(h:R.gg c=some v):∃ l,v=.ref l∧H l=some (.lst ((S.wg c).map V.int)):=by
 have g:=U.u.gr c;generalize S.wg c=d at g;cases g with
 | no h'=>rw[h]at h';cases h'
 | @is l _ a b _ _ =>
  rw[h]at a;injection a with a;exact⟨l,a,U.t.o _ _ b⟩
def Hu.moveTr {x:Hp}(U:Hu K C F O H A pr most S hs R){n:Addr}{ts:List (Int × Int)}{zs:List V}(h:F n=some (.lst zs))(B:aq K H (ts.map dP) zs)(h0:x n=none)(s:ap x F) :
  ∃ J,Hu K C x J (upd H A.h (.ins C A.dx (zbg { A with tr:=n } pr most S.lk))) { A with tr:=n } pr most { S with ts:=ts } hs { R with zs:=zs }:=by
 have g:=U.oN h;have b:=U.u.stO g;have D:=U.u.at_ 0 _ _ rfl rfl;have y:n≠A.h:=λz=>b (z ▸ mOq (l:=A.st) (i:=0) rfl);have k:=aV.oth (o:=.ins C A.dx (zbg { A with tr:=n } pr most S.lk)) U.ins zda.1 zda.2;have j:({ A with tr:=n }:HA).st.Nodup:=by have e:({ A with tr:=n }:HA).st=A.st.set 3 n:=rfl;rw[e];exact zfU U.u.nd b
 refine⟨_,(U.n.upd zaG).upd zda,(U.t.take h h0 s).own (a:=A.h) (by rw[ag (Ne.symm y),D];exact λz=>nomatch z) _,j,λi a o f d=>?_,U.u.kn.keep k (zar _),U.u.pp.keep k U.u.pn,U.u.pn,B.keep k (zaV _),U.u.hd,U.u.wd,λr=>(U.u.wr r).keep k,U.u.wg,λz=>?_,U.u.lt⟩
 ·by_cases q:i=0
  ·subst q;cases f;cases d;exact af
  by_cases p:i=3
  ·subst p;cases f;cases d;rw[ag y,af]
  have c:A.st[i]?=some a:=by have e:({ A with tr:=n }:HA).st=A.st.set 3 n:=rfl;rw[e,List.getElem?_set_ne (Ne.symm p)]at f;exact f
  have w:(zec C A pr most S R)[i]?=some o:=by have e:zec C { A with tr:=n } pr most { S with ts:=ts } { R with zs:=zs }=((zec C A pr most S R).set 3 (.lst zs)).set 0 (.ins C A.dx (zbg { A with tr:=n } pr most S.lk)):=rfl;rw[e,List.getElem?_set_ne (Ne.symm q),List.getElem?_set_ne (Ne.symm p)]at d;exact d
  have I:a≠A.h:=λz=>q (zfk U.u.nd c (show A.st[0]?=some a by rw[z];rfl));have G:a≠n:=λz=>b (z ▸ mOq c);rw[ag I,ag G];exact U.u.at_ i a o c w
 ·have E:=(U.u.gr z).upd (u:=.lst zs) (.inr g) (A':={ A with tr:=n }) λl v=>(List.mem_or_eq_of_mem_set (l:=A.st) (i:=3) v).imp id λe=>by rw[e];exact g
  exact E.upd (.inl (mOq (l:=({ A with tr:=n }:HA).st) (i:=0) rfl)) λl v=>.inl v
def Hu.moveOd {x:Hp}(U:Hu K C F O H A pr most S hs R){n:Addr}{od:List Int}(h:F n=some (.lst (od.map V.int)))(h0:x n=none)(s:ap x F) :
  ∃ I,Hu K C x I (upd H A.h (.ins C A.dx (zbg { A with od:=n } pr most S.lk))) { A with od:=n } pr most { S with od:=od } hs R:=by
 have g:=U.oN h;have b:=U.u.stO g;have B:=U.u.at_ 0 _ _ rfl rfl;have y:n≠A.h:=λz=>b (z ▸ mOq (l:=A.st) (i:=0) rfl);have k:=aV.oth (o:=.ins C A.dx (zbg { A with od:=n } pr most S.lk)) U.ins zda.1 zda.2;have j:({ A with od:=n }:HA).st.Nodup:=by have e:({ A with od:=n }:HA).st=A.st.set 8 n:=rfl;rw[e];exact zfU U.u.nd b
 refine⟨_,(U.n.upd zaG).upd zda,(U.t.take h h0 s).own (a:=A.h) (by rw[ag (Ne.symm y),B];exact λz=>nomatch z) _,j,λi a o f d=>?_,U.u.kn.keep k (zar _),U.u.pp.keep k U.u.pn,U.u.pn,U.u.tr.keep k (zaV _),U.u.hd,U.u.wd,λr=>(U.u.wr r).keep k,U.u.wg,λz=>?_,U.u.lt⟩
 ·by_cases q:i=0
  ·subst q;cases f;cases d;exact af
  by_cases p:i=8
  ·subst p;cases f;cases d;rw[ag y,af]
  have c:A.st[i]?=some a:=by have e:({ A with od:=n }:HA).st=A.st.set 8 n:=rfl;rw[e,List.getElem?_set_ne (Ne.symm p)]at f;exact f
  have w:(zec C A pr most S R)[i]?=some o:=by have e:zec C { A with od:=n } pr most { S with od:=od } R=((zec C A pr most S R).set 8 (.lst (od.map V.int))).set 0 (.ins C A.dx (zbg { A with od:=n } pr most S.lk)):=rfl;rw[e,List.getElem?_set_ne (Ne.symm q),List.getElem?_set_ne (Ne.symm p)]at d;exact d
  have G:a≠A.h:=λz=>q (zfk U.u.nd c (show A.st[0]?=some a by rw[z];rfl));have E:a≠n:=λz=>b (z ▸ mOq c);rw[ag G,ag E];exact U.u.at_ i a o c w
 ·have D:=(U.u.gr z).upd (u:=.lst (od.map V.int)) (.inr g) (A':={ A with od:=n }) λl v=>(List.mem_or_eq_of_mem_set (l:=A.st) (i:=8) v).imp id λe=>by rw[e];exact g
  exact D.upd (.inl (mOq (l:=({ A with od:=n }:HA).st) (i:=0) rfl)) λl v=>.inl v
end
def hln (h:n≤200000):n < sizeLine:=by rw[sizeLine_eq];lia
def HS.setG_self {S:HS}{c:Int}{ns:List Int}(h:S.wg c=ns):S.setG c ns=S:=by
 have:(λx=>if x=c then ns else S.wg x)=S.wg:=by
  funext x;by_cases e:x=c
  ·rw[if_pos e,e,h]
  ·rw[if_neg e]
 unfold HS.setG;rw[this]
def zkO (hs:List Int)(p:Int):(λx=>if x=p then some (V.bl true) else zdd hs x)=zdd (hs++[p]):=by
 funext x;unfold zdd;by_cases e:x=p
 ·rw[if_pos e,if_pos (List.mem_append_right _ (by rw[e];exact List.mem_cons_self))]
 ·rw[if_neg e];by_cases c:x∈hs
  ·rw[if_pos c,if_pos (List.mem_append_left _ c)]
  ·rw[if_neg c,if_neg (λz=>(mPq z).elim c λz=>e (mS z))]
def zbM (hs:List Int)(p:Int):(zdd hs p).isSome=decide (p∈hs):=by
 unfold zdd;by_cases c:p∈hs
 ·rw[if_pos c,dTq c];rfl
 ·rw[if_neg c,dFq c];rfl
def zcq (R a:HC):Prop:=(∀ c v,R.gg c=some v→a.gg c=some v)∧a.xs=R.xs
section
variable {K:W.Frag} {C:Addr} {F O H:Hp} {A:HA} {pr:Addr} {most:Int} {S:HS} {hs:List Int} {R:HC}
def Hu.setd (U:Hu K C F O H A pr most S hs R){c r:Int}(B:-100≤c∧c < 199900){e:Addr}(i:H e=none){Q:VK}
  (q:∀ l f,f l=some (.lst ((S.wg c).map V.int))→(∃ p d,Hu K C F p (upd f l (.lst ((S.wg c++[r]).map V.int))) A pr most (S.addG c r) hs d∧zcq R d)→Q (.ref l) f) :
  zix (.ref A.wg) [.int c,.ref e] (upd H e (.lst [])) Q:=by
 have a:=U.newF i (.lst []);have k:=(U.t.none i).2;have g:ap F (upd F e (.lst [])):=au k _;refine⟨A.wg,Sum.inl c,.ref e,R.kg,rfl,rfl,a.at' 7 rfl rfl,hln U.u.wg.len,?_⟩;rw[U.u.wg.val];cases h:R.gg c with
 | some v =>
  obtain⟨l,rfl,x⟩:=a.gg1 h;exact .inl ⟨_,rfl,q l _ x ⟨_,_,((a.addL h r).2).base g,⟨λ_ _ z=>z,rfl⟩⟩⟩
 | none =>
  have w:=U.gg0 h;obtain⟨p,d,o,j,s⟩:=a.give (ns:=[]) B af k g;rw[HS.setG_self w]at o;have n:=o.addL (l:=e) (c:=c) (by rw[j];exact if_pos rfl) r;refine .inr ⟨rfl,q e _ n.1 ⟨_,_,n.2,λz v b=>?_,s⟩⟩;rw[j];show(if z=c then _ else _)=_
  rw[if_neg (λy=>by rw[y,h]at b;cases b)];exact b
def Hu.same (U:Hu K C F O H A pr most S hs R)(s:ap H H'):Hu K C F O H' A pr most S hs R:=U.heap s.kt ⟨U.t.f.trans s,U.t.o.trans s,U.t.d⟩
def Hu.more (U:Hu K C F O H A pr most S hs R)(s:ap H H'){d:Addr}{o:HO}(h:H d=none)(c:H' d=some o):Hu K C (upd F d o) O H' A pr most S hs R:=by
 have a:=U.same s;refine⟨a.n,⟨λb u e=>?_,a.t.o,λb e=>?_⟩,a.u⟩
 ·by_cases z:b=d
  ·rw[z,af]at e;rw[z,←e];exact c
  ·rw[ag z]at e;exact a.t.f b u e
 ·have g:b≠d:=λz=>e (by rw[z];exact(U.t.none h).1);rw[ag g];exact a.t.d b e
def Hu.tupF (U:Hu K C F O H A pr most S hs R){d:Addr}{o:HO}(a:H d=some o)(h:¬NTup o):ap F (upd F d o)∧Hu K C (upd F d o) O H A pr most S hs R:=by
 have od:O d=none:=by
  cases e:O d with
  | none=>rfl
  | some u=>have:=U.t.o _ _ e;rw[a]at this;injection this with this;exact absurd (U.n d u e) (this ▸ h)
 refine⟨λb u e=>?_,U.n,⟨λb u e=>?_,U.t.o,λb e=>?_⟩,U.u⟩
 ·by_cases z:b=d
  ·have:=U.t.f _ _ e;rw[z,a]at this;rw[z,af];exact this
  ·rw[ag z];exact e
 ·by_cases z:b=d
  ·rw[z,af]at e;rw[z,←e];exact a
  ·rw[ag z]at e;exact U.t.f b u e
 ·have c:b≠d:=λz=>e (by rw[z];exact od);rw[ag c];exact U.t.d b e
def Hu.sqF (U:Hu K C F O H A pr most S hs R){d:Addr}{xs:List V}(h:SqT K H d xs):∃ b,ap F b∧Hu K C b O H A pr most S hs R∧SqT K b d xs:=by
 rcases h with (h | ⟨q,h⟩) | h
 ·obtain⟨s,a⟩:=U.tupF h λz=>z.1 _ rfl;exact⟨_,s,a,.inl (.inl af)⟩
 ·obtain⟨s,a⟩:=U.tupF h λz=>z.2 _ _ rfl;exact⟨_,s,a,.inl (.inr ⟨q,af⟩)⟩
 ·exact⟨F,ap.refl F,U,.inr h⟩
def Hu.held (U:Hu K C F O H A pr most S hs R)(p:Int):zbi H A.hd (.int p) (zdd hs p):=by have:=zbi.k (k:=Sum.inl p) (U.at' 4 rfl rfl);rw[U.u.hd.val]at this;exact this
def Hu.hold (U:Hu K C F O H A pr most S hs R){q:Addr}{p y:Int}(e:-100≤p∧p < 199900)(a:H q=none) :
  ∃ h c,Hu K C F h (upd (upd (upd H q (.tup [.int p,.int y])) A.tr (.lst (R.zs++[.ref q]))) A.hd (.dK (zav R.kh (Sum.inl p) (.bl true)))) A pr most (S.hold p y) (hs++[p]) c∧zcq R c:=by
 have b:=U.newF a (.tup [.int p,.int y]);have d:ap F (upd F q (.tup [.int p,.int y])):=au (U.t.none a).2 _;have g:=b.setTr (ts:=S.ts++[(p,y)]) (zs:=R.zs++[.ref q]) (by rw[mAq];refine aq.append b.u.tr (aq.one ?_);exact of_dP (t:=(p,y)) (SqT.of af))
 have f:=g.setHd (kh:=zav R.kh (Sum.inl p) (.bl true)) (hs':=hs++[p]) (by rw[←zkO];exact U.u.hd.put e _);exact⟨_,_,f.base d,⟨λ_ _ z=>z,rfl⟩⟩
end
end L2
namespace L2
open PySem PySem.Spec PyProof.Rows
section
variable {P:Program} {w:World} {H H':Hp} {h h' B:Heap} {a:Addr} {o:HO}
def zaz.there (x:zaz P w H h a o):∃ b,h.get? a=some b:=by
 cases o with
 | lst xs=>obtain⟨_,_,_,_,q⟩:=x;exact⟨_,q⟩
 | tup xs=>obtain⟨_,_,_,b,q,_⟩:=x;exact⟨_,q⟩
 | dK kvs=>obtain⟨_,_,_,_,o,_,_,q,_⟩:=x;exact⟨_,q⟩
 | dT kvs=>obtain⟨_,_,_,_,o,_,_,q,_⟩:=x;exact⟨_,q⟩
 | set S n=>obtain⟨o,_,_,_,q,_⟩:=x;exact⟨_,q⟩
 | ins C g c=>obtain⟨_,_,_,q,_⟩:=x;exact⟨_,q⟩
 | own y=>exact x
 | xd c=>obtain⟨_,⟨_,_,_,q,_⟩,_⟩:=x;exact⟨_,q⟩
 | rng lo e=>obtain⟨_,_,_,q⟩:=x;exact⟨_,q⟩
 | frz b u=>exact⟨_,x.1⟩
 | tbl ps=>exact⟨_,(show h.get? a=some _ from x)⟩
 | met f y=>exact⟨_,(show h.get? a=some _ from x)⟩
 | ext d=>exact x.2.1
def Trk (H:Hp)(h B:Heap):Prop:=∀ b c,H b≠none→h.get? b=some c→B.get? b=some c
def Old (e:List Addr)(H:Hp)(h B:Heap):Prop:=∀ b d,h.get? b=some d→b∉e→∃ c,B.get? b=some c∧(H b=none→c=d)
def HOk.stays (c:HOk P w H h)(t:Trk H h B)(k:B.StaysIn h'):HOk P w H h':=λa o e =>
 (c a o e).stay (λb u d q=>k b u (t b u (d.elim (λz=>by rw[z,e];exact nofun) λz=>by rw[z];exact nofun) q)) (λ_ q=>q) λ_ _ q=>q
def Trk.stays (g:HOk P w H h)(t:Trk H h B)(k:B.StaysIn h'):Trk H h' B:=λb j f e=>by
 cases q:H b with
 | none=>exact absurd q f
 | some u =>
  obtain⟨c,i⟩:=(g b u q).there;have z:=t b c f i;have d:=k b c z;rw[e]at d;cases d;exact z
end
def CX1 (P:Program)(w:World):CXT:=λouter H s E e s'=>∃(ea C:Addr) (H':Hp) (B:Heap) (a:Value),e=.ref ea∧s'.os=s.os∧AllBare s'.gens∧Un (frs outer) [] H H' s.heap s'.heap∧HOk P w H' s'.heap ∧
 Heap.FlyingW B outer ea (.ref C) a s'.heap∧Trk H' s'.heap B∧Old (frs outer) H s.heap B∧E (.ref C) none H'
structure Xe1 (X:Cx)(E:XK):Prop where
 xe:X.xe=λe s'=>wpAny (model X.prog X.w) X.A (leaving X.env e) (λ_ s''=>CX1 X.prog X.w X.outer X.H₀ X.s₀ E e s'') (λe' s''=>CX1 X.prog X.w X.outer X.H₀ X.s₀ E e' s'') s'
 stk:X.stack=X.env :: X.outer
 fr:X.env.frame=some X.env.locals
 ex:X.ex=[]
section
variable {X:Cx} {E:XK} {pins:List (Addr × Obj)} {σ:St} {H H':Hp} {s s':Shared} {B:Heap} {ea C:Addr} {a0:Value}
def zkd (x:Xe1 X E)(I:Inv X pins σ H s){d:Shared}(L:d.os=s.os)(o:AllBare d.gens)(u:Un (frs X.stack) [] H H' s.heap s'.heap)(D:HOk X.prog X.w H' s'.heap)
  (F:Heap.FlyingW B X.outer ea (.ref C) a0 d.heap)(J:s'.heap.UpToSlots d.heap)(trk:Trk H' s'.heap B)(t:Old (frs X.stack) H s.heap B)(P:E (.ref C) none H') :
  CX1 X.prog X.w X.outer X.H₀ X.s₀ E (.ref ea) d:=by
 have y:frs X.stack=X.env.locals :: X.fs:=by rw[x.stk];unfold frs;rw[List.filterMap_cons,x.fr];rfl
 have h:∀ b,b∉X.ex:=λb c=>by rw[x.ex]at c;cases c
 have nf:∀ b a,X.s₀.heap.get? b=some a→b∉X.fs→b∉frs X.stack:=λb a e c z=>by
  rw[y]at z;rcases List.mem_cons.mp z with z | z
  ·exact absurd (Nat.lt_of_lt_of_le (hLq e) I.ok.above) (by rw[z];exact Nat.lt_irrefl _)
  ·exact c z
 have st:B.StaysIn d.heap:=F.1;have U:=I.base;have f:Old X.fs X.H₀ X.s₀.heap B:=λb a e c=>by obtain⟨v,j⟩:=U.there b a e (h b);obtain⟨l,i,A⟩:=t b v j (nf b a e c);refine⟨l,i,λn=>?_⟩;have k:=U.keep b a e n c (h b);rw[j]at k;cases k;exact A (U.free b a e n (h b))
 have g:∀ b a,X.s₀.heap.get? b=some a→X.H₀ b=none→b∈X.fs→∃ r,d.heap.get? b=some { a with slots:=r }:=λb a e n c=>by obtain⟨r,k⟩:=U.slot b a e n c (h b);obtain⟨K,k2⟩:=u.any k (U.free b a e n (h b)) (by simp);obtain⟨_,R,G,O⟩:=I.ok.funs.mem c;rw[e]at G;cases G;obtain⟨p,k3⟩:=J b _ k2 λvs q=>O vs q;exact⟨p,k3⟩
 refine⟨ea,C,H',B,a0,rfl,L.trans I.os,o,⟨λb a e n c _=>?_,λb a e n c _=>g b a e n c,λb a e n _=>?_,λb a e _=>?_,λb xs q=>u.tups b xs (U.tups b xs q),λb a xs q=>u.frzs b a xs (U.frzs b a xs q),λb ps q=>?_⟩,
  D.stays trk st,F,Trk.stays D trk st,f,P⟩
 ·obtain⟨l,i,A⟩:=f b a e c;rw[A n]at i;exact st b a i
 ·obtain⟨v,j⟩:=U.there b a e (h b);exact u.free b v j (U.free b a e n (h b)) (by simp)
 ·by_cases c:b∈X.fs
  ·obtain⟨r,k⟩:=g b a e (I.ok.frf b c) c;exact⟨_,k⟩
  ·obtain⟨l,i,_⟩:=f b a e c;exact⟨l,st b l i⟩
 ·obtain⟨N,j⟩:=U.tbls b ps q;obtain⟨M,Q⟩:=u.tbls b _ j;exact⟨N++M,by rw[Q,Array.append_assoc]⟩
def zcF (a:Xe1 X E):zcP (CX1 X.prog X.w) X E:=by
 intro pins σ H s e s' I h;obtain⟨ea,C,H',B,a0,rfl,j,c,u,k,n,trk,d,l⟩:=h;rw[a.xe];have b:=n;rw[a.stk]at b;have f:X.A.frames=some (X.env :: X.outer):=by rw[I.ok.frames,a.stk]
 exact wpAny_leaves_onW f a.fr b λh' g i=>zkd a I j c u k g i trk d l
def znh (c:Xe1 X E)(I:Inv X pins σ H s)(m:Heap.MadeExcOf s.heap h' ea (.ref C) vs)(u:E (.ref C) none H):X.xe (.ref ea) { s with heap:=h' }:=by
 rw[c.xe];have o:s.heap.FunFrames (W.hideAll s.heap (frs X.stack)) X.stack:=W.funFrames_hide I.stack λenv p a r=>List.mem_filterMap.mpr ⟨env,p,r⟩;have f:s.heap.FunFrames (W.hideAll s.heap (frs X.stack)) (X.env :: X.outer):=by have z:=o;rw[show X.stack=X.env :: X.outer from c.stk]at z ⊢;exact z
 have g:X.A.frames=some (X.env :: X.outer):=by rw[I.ok.frames,c.stk]
 refine wpAny_leaves_madeW (base:=W.hideAll s.heap (frs X.stack)) (h:=s.heap) g c.fr (λb d q=>W.of_hideAll _ q) f m λw t x _ _ k=>?_;refine zkd (s':={ s with heap:=h' }) c I rfl I.bare (Un.kept m.keeps) (I.hok.kept m.keeps) x k (λb d e q=>?_) (λb d q e=>⟨d,W.hideAll_get _ q e,λ_=>rfl⟩) u;cases z:H b with
 | none=>exact absurd z e
 | some v =>
  obtain⟨n,j⟩:=(I.hok b v z).there;have i:=m.keeps b n j;have l:h'.get? b=some d:=q;rw[l]at i;cases i;exact W.hideAll_get _ j λy=>e (I.stkFree b y)
def own_at {K:W.Frag}{h:Heap}{g:List Value}{a:String}(i:K.In h)(q:W.excIn K C g a=true) :
  ∃ bm N nm j bs hdct sn sub ab col dd k0 k1 k2 k3 k5 mN,h.get? C=some (excClassObj nm j C N bs bm hdct sn sub ab col dd k0 k1 k2 k3 k5 a)∧h.Ns N mN∧mN "__init__"=none∧OwnTail h g bm:=by
 unfold W.excIn at q;split at q
 ·rename_i F G x o;split at q
  ·rename_i I p w v u t y r d c;simp only[Bool.and_eq_true,beq_iff_eq,Bool.not_eq_true']at q;obtain⟨⟨⟨⟨⟨rfl,rfl⟩,f⟩,k⟩,b⟩,e⟩:=q;obtain⟨nm,bs,z,ns,j,A,sn,sub,ab,col,D⟩:=G;dsimp only at d f b e;subst d f;have n:x=#[w,v,u,t,some (.builtin y),r]:=by obtain⟨l⟩:=x;simp only at c;rw[c]
   subst n;exact⟨p,ns,nm,j,bs,A,sn,sub,ab,col,F,w,v,u,t,r,_,i _ _ o,.of_isNs (W.isNs_of_in i b),W.nsMap_none_of_in i b e,W.tail_of_in i k⟩
  ·cases q
 ·cases q
variable {e0:Expr} {rest:List Expr} {t:TA} {x:Str} {np cpos pos:Pos} {Bn newId initId:String} {bm:List Value}
def tRaise (E:XK)(C:Addr)(t:TA):TS:=λ_ σ H=>t σ H λvs a=>vs.length≤sizeLine∧E (.ref C) none a
def zbA (l:Xe1 X E)(p:X.calm=true)(o:Gl X x)(n:X.mg x=some (.ref C))(F:ExcBaseFacts Bn newId initId bm)(q:W.excIn X.K C bm newId=true)(r:PA X (e0 :: rest) t)
  (e:(x == ("__debug__":Str))=false:=by decide)(a:starEach (e0 :: rest) X.env=(false,eval e0 X.env) :: starEach rest X.env:=by rfl)(c:(backTo cpos (starEach rest X.env)).any (·.1)=false:=by rfl) :
  PS X (.Raise (some (.Call (.Name x np) (e0 :: rest) [] cpos)) none pos) (tRaise E C t):=by
 intro pins s σ H D I h;obtain⟨f,N,nm,j,bs,hdct,sn,sub,ab,col,dd,k0,k1,k2,k3,k5,mN,w,u,d,T⟩:=own_at (C:=C) I.mod.kin q;refine wpAny_Raise_call_subT (C:=C) (nm:=nm) (q:=j) (N:=N) (bs:=bs) (bm:=f) (hdct:=hdct) (sn:=sn) (sub:=sub) (ab:=ab) (col:=col) (dd:=dd) (k0:=k0) (k1:=k1) (k2:=k2) (k3:=k3) (k5:=k5) F (mN:=mN)
  (T.hasType F.hasBase) (I.ok.hd p) (by rw[a];show(false||(backTo cpos (starEach rest X.env)).any (·.1))=false;rw[c];rfl) d (zc4 I o n ⟨rfl,?_⟩ e)
 have g:=r cpos pins s σ H _ I h;rw[a]at g ⊢;refine Calls.evalArgs_plain (wpAny_mono g (λvs A ⟨z,G,b,i,k,v⟩=>?_) λ_ _ y=>y);exact⟨rfl,by rw[←i.length];exact k,b.bk _ _ w,u.keeps b.bk,T.keeps b.bk,λh' ea m=>znh l b m v⟩
end
abbrev Cx.susp (X:Cx)(ea:Addr):Cx:={ X with A:=X.A.mark (some (.ref ea)),calm:=false,xe:=λ_ _=>False }
abbrev Cx.tryc (X:Cx)(pins:List (Addr × Obj))(E1:Value→Shared→Prop):Cx:={ X with pn:=X.pn++pins,xe:=E1 }
section
variable {X:Cx} {pins:List (Addr × Obj)} {σ:St} {H H':Hp} {s s':Shared} {B:Heap} {ea C:Addr} {a0:Value} {D:zcW} {f:Flow} {E1:Value→Shared→Prop}
def Inv.susp (I:Inv X pins σ H s)(ea:Addr):Inv (X.susp ea) pins σ H s :=
 ⟨⟨I.ok.mod,I.ok.kind,I.ok.glob,I.ok.blt,I.ok.above,I.ok.inj,I.ok.has,I.ok.cab,λz=>(by cases z),I.ok.frames,I.ok.stk,I.ok.exf,I.ok.bs,I.ok.bsz,I.ok.noex,I.ok.exfs,I.ok.funs,I.ok.frf⟩,I.os,I.bare,I.base,I.loc,I.cell,I.free,I.freeC,I.pin,I.hok,I.len⟩
def Inv.unsusp (a:X.Ok)(I:Inv (X.susp ea) pins σ H s):Inv X pins σ H s:=⟨a,I.os,I.bare,I.base,I.loc,I.cell,I.free,I.freeC,I.pin,I.hok,I.len⟩
def Inv.tryc (I:Inv X pins σ H s)(E1:Value→Shared→Prop):Inv (X.tryc pins E1) [] σ H s :=
 ⟨⟨I.ok.mod,I.ok.kind,I.ok.glob,I.ok.blt,I.ok.above,I.ok.inj,I.ok.has,I.ok.cab,I.ok.hd,I.ok.frames,I.ok.stk,I.ok.exf,I.ok.bs,I.ok.bsz,I.ok.noex,I.ok.exfs,I.ok.funs,I.ok.frf⟩,I.os,I.bare,I.base,I.loc,I.cell,I.free,I.freeC,
  λp a=>I.pin p (by simpa using a),I.hok,I.len⟩
def Inv.untryc (a:X.Ok)(I:Inv (X.tryc pins E1) pins1 σ H s):Inv X pins σ H s :=
 ⟨a,I.os,I.bare,I.base,I.loc,I.cell,I.free,I.freeC,λp b=>I.pin p (List.mem_append_left _ b),I.hok,I.len⟩
def SP.untryc (c:X.Ok)(h:SP (X.tryc pins E1) pins1 D f s):SP X pins D f s:=by
 cases f with
 | next=>obtain⟨a,b,I,q⟩:=h;exact⟨a,b,I.untryc c,q⟩
 | brk=>obtain⟨a,b,I,q⟩:=h;exact⟨a,b,I.untryc c,q⟩
 | cont=>obtain⟨a,b,I,q⟩:=h;exact⟨a,b,I.untryc c,q⟩
 | ret u=>obtain⟨v,a,b,I,r,q⟩:=h;exact⟨v,a,b,I.untryc c,r,q⟩
structure Came (X:Cx)(pins:List (Addr × Obj))(σ:St)(H:Hp)(s:Shared)(H':Hp)(B:Heap)(s':Shared):Prop where
 I:Inv X pins σ H s
 os:s'.os=s.os
 bare:AllBare s'.gens
 u:Un (frs X.stack) [] H H' s.heap s'.heap
 ok:HOk X.prog X.w H' s'.heap
 trk:Trk H' s'.heap B
 old:Old (frs X.stack) H s.heap B
def Came.inv (c:Came X pins σ H s H' B s'){h':Heap}(st:B.StaysIn h')(p:s'.heap.UpToSlots h'):Inv X pins σ H' { s' with heap:=h' }:=by
 have g:∀ b a,s.heap.get? b=some a→H b=none→b∈frs X.stack→∃ j,h'.get? b=some { a with slots:=j }:=λb a e n d=>by obtain⟨j,k⟩:=c.u.slot b a e n d (by simp);obtain⟨_,v,o,r⟩:=c.I.stack.mem d;rw[e]at o;cases o;obtain⟨i,k3⟩:=p b _ k λvs q=>r vs q;exact⟨i,k3⟩
 refine c.I.call' (s':={ s' with heap:=h' }) (ch:=[]) c.os ⟨λb a e n d _=>?_,λb a e n d _=>g b a e n d,λb a e n _=>c.u.free b a e n (by simp),λb a e _=>?_,c.u.tups,c.u.frzs,c.u.tbls⟩ (c.ok.stays c.trk st) c.bare (λb d=>by cases d)
 ·obtain⟨l,h,t⟩:=c.old b a e d;rw[t n]at h;exact st b a h
 ·by_cases d:b∈frs X.stack
  ·obtain⟨j,k⟩:=g b a e (c.I.stkFree b d) d;exact⟨_,k⟩
  ·obtain⟨l,h,_⟩:=c.old b a e d;exact⟨l,st b l h⟩
def PH (X:Cx)(hs:List ExceptHandler)(a:Addr→TS):Prop :=
 ∀(pins:List (Addr × Obj)) (σ:St) (H:Hp) (s:Shared) (H':Hp) (B:Heap) (s':Shared) (D:zcW) (ea C:Addr) (a0:Value) (h':Heap),Came X pins σ H s H' B s'→Heap.FlyingW B X.stack ea (.ref C) a0 h'→s'.heap.UpToSlots h'→a C D σ H' →
  wpAny (model X.prog X.w) X.A (handleBy (.ref ea) X.env hs) (SP X pins D) X.xe { s' with heap:=h' }
def zmv:PH X hs (λ_=>tNever):=λ_ _ _ _ _ _ _ _ _ _ _ _ _ _ _ z=>z.elim
end
def zb6 (ea C:Addr)(h:Heap):Prop:=∃ a,h.get? ea=some a∧a.cls=.ref C
section
variable {X:Cx} {pins:List (Addr × Obj)} {σ:St} {H H':Hp} {s s':Shared} {B:Heap} {ea C:Addr} {a0:Value} {D:zcW} {f:Flow}
def Inv.adopt (I:Inv X pins σ H s)(E:zb6 ea C s.heap)(A:X.s₀.heap.get? ea=none)(w:ea≠X.env.locals)(y:∀ x c,X.env.cells.lookup x=some c→c≠ea)(v:∀ p∈X.pn++pins,p.1≠ea)(F:H ea=none) :
  Inv X pins σ (upd H ea (.ext (zb6 ea C))) s:=by
 have g:∀ b u,H b=some u→upd H ea (.ext (zb6 ea C)) b=some u:=λb u e=>by rw[ag (zad e F)];exact e
 have h:∀ b,b≠ea→H b=none→upd H ea (.ext (zb6 ea C)) b=none:=λb d e=>by rw[ag d];exact e
 have U:=I.base;refine⟨I.ok,I.os,I.bare,⟨U.keep,U.slot,λb i e n d=>h b (λz=>by rw[z,A]at e;cases e) (U.free b i e n d),U.there,λb xs q=>g _ _ (U.tups b xs q),λb i xs q=>g _ _ (U.frzs b i xs q),λb ps q=>?_⟩,I.loc,I.cell,h _ (Ne.symm w) I.free,
  λx c e=>h _ (y x c e) (I.freeC x c e),λp o=>?_,λb u e=>?_,I.len⟩
 ·obtain⟨m,e⟩:=U.tbls b ps q;exact⟨m,g _ _ e⟩
 ·obtain⟨e,n,a,b,c⟩:=I.pin p o;exact⟨e,h _ (v p o) n,a,b,c⟩
 ·by_cases d:b=ea
  ·subst d;rw[af]at e;cases e;obtain⟨j,r,G⟩:=E;refine⟨⟨j,r,G⟩,⟨j,r⟩,λK J p k=>?_⟩;obtain⟨l,q1,t⟩:=p;exact⟨l,k l q1,t⟩
  ·rw[ag d]at e;exact(I.hok b u e).stay (λ_ _ _ q=>q) (λc q=>g c _ q) λc xs q=>g c _ q
def Inv.forget (I:Inv X pins σ H s)(y:h'.Ns X.env.locals m')(hs:Heap.SameBut X.env.locals s.heap h'):Inv X pins (List.replicate X.N.length none) H { s with heap:=h',toks:=t' }:=by
 have g:∀ b o,X.s₀.heap.get? b=some o→b≠X.env.locals:=λb o e=>Nat.ne_of_lt (Nat.lt_of_lt_of_le (hLq e) I.ok.above);have U:=I.base;refine⟨I.ok,I.os,I.bare,⟨λb d e n j h=>(hs.2 b (g b d e)).trans (U.keep b d e n j h),λb d e n j h=>?_,U.free,λb d e h=>?_,U.tups,U.frzs,U.tbls⟩,⟨m',y,λi x v _ k _=>?_⟩,λx c e=>?_,I.free,I.freeC,λp t=>?_,λb u e=>?_,by simp⟩
 ·obtain⟨l,q⟩:=U.slot b d e n j h;exact⟨l,(hs.2 b (g b d e)).trans q⟩
 ·obtain⟨r,q⟩:=U.there b d e h;exact⟨r,(hs.2 b (g b d e)).trans q⟩
 ·rw[List.getElem?_replicate]at k;split at k <;> cases k
 ·obtain⟨v,o,w,A⟩:=I.cell x c e;exact⟨v,o,(hs.2 c (I.cne x c e)).trans w,A⟩
 ·obtain⟨e,n,a,b,c⟩:=I.pin p t;exact⟨(hs.2 p.1 a).trans e,n,a,b,c⟩
 ·refine(I.hok b u e).stay (λc F E q=>(hs.2 c ?_).trans q) (λ_ q=>q) λ_ _ q=>q;rintro rfl;rcases E with z | z
  ·rw[←z,I.free]at e;cases e
  ·rw[I.free]at z;cases z
def Came.apart (c:Came X pins σ H s H' B s'){h':Heap}(e:Heap.FlyingW B X.stack ea (.ref C) a0 h'):s.heap.get? ea=none:=by
 cases q:s.heap.get? ea with
 | none=>rfl
 | some h =>
  by_cases d:ea∈frs X.stack
  ·obtain⟨_,_,k,l,vs,_,_,_,i,_,j,_⟩:=e;obtain⟨_,o,b,a⟩:=k.mem d;rw[i]at b;cases b;exact absurd j (a vs)
  ·obtain⟨n,g,_⟩:=c.old ea h q d;rw[e.2.1]at g;cases g
def tExcAs (K:W.Frag)(e:Addr)(i c:Nat)(ts:TS)(d:Addr→TS):Addr→TS:=λC D σ H=>∃ b,W.exmOne K (.ref C) (.ref e)=some b ∧
 if b=true then ∀ ea,H ea=none→ts { nx:=λ_ a=>D.nx (List.replicate c none) a,rt:=D.rt,bk:=λ_ a=>D.bk (List.replicate c none) a,ct:=λ_ a=>D.ct (List.replicate c none) a } (σ.set i (some (.ref ea))) (upd H ea (.ext (zb6 ea C))) else d C D σ H
def ph_as {x n:Str}{np G:Pos}{b0:Stmt}{g:List Stmt}{rest:List ExceptHandler}{C1:Addr}{i:Nat}{ts:TS}{th:Addr→TS}(hg:Gl X x)(hm:X.mg x=some (.ref C1))(hN:X.N.Nodup)(hi:X.N[i]?=some n)
  (hl:X.env.scope.names.lookup n=some .local)(hex:X.ex=[])(hs:∀ ea,PSs (X.susp ea) (b0 :: g) ts)(hr:PH X rest th)(hdb:(x == ("__debug__":Str))=false:=by decide) :
  PH X (.ExceptHandler (some (.Name x np)) (some n) (b0 :: g) G :: rest) (tExcAs X.K C1 i X.N.length ts th):=by
 intro pins σ H s H' B s' D ea C a0 h' c fl sm h;obtain⟨b,hb,h⟩:=h;have I:=c.inv fl.1 sm;have I':=I.susp ea;obtain⟨oe,he,hcl⟩:=fl.there;have LT:W.Looks (model X.prog X.w) h' (typeOf (.ref ea)) (.ref C):=hcl ▸ (W.Looks.ld he).andThen .now;refine wpAny_handleBy_cons (codeAny_handlers_test (zc4 (X:=X.susp ea) I' hg hm ?_ hdb)) (by intro q;cases q);refine W.exm_one (M:=model X.prog X.w) (K:=X.K) (h:=h') I.kIn LT hb _ _ _ _ (λ_ _ q=>q) ?_;cases b with
 | false=>exact hr pins σ H s H' B s' D ea C a0 h' c fl sm h
 | true =>
  have hp:(X.env.scope.kind == .class||(X.env.scope.kind == .module&&X.env.locals != X.env.globals))=false:=by rw[I.ok.kind];rfl
  refine codeAny_handlers_suite_as (lands_againW fl λh2 j sm2=>?_);have I2:=c.inv j.1 (sm.trans sm2);have Y:=c.apart j;obtain⟨L,P,S⟩:=j.there;have nB:B.get? ea=none:=j.2.1;have hH:H' ea=none:=by
   cases q:H' ea with
   | none=>rfl
   | some u =>
    have z:=Trk.stays c.ok c.trk j.1 ea L (by rw[q];exact nofun) P;rw[nB]at z;cases z
  have J:=I2.adopt (ea:=ea) (C:=C) ⟨L,P,S⟩ (by
   cases q:X.s₀.heap.get? ea with
   | none=>rfl
   | some o =>
    by_cases hx:ea∈X.ex
    ·rw[hex]at hx;cases hx
    ·obtain⟨o',e'⟩:=c.I.base.there ea o q hx;rw[Y]at e';cases e') (by
   rintro rfl;obtain⟨m,⟨o,_,_,O,_⟩,_⟩:=c.I.loc;rw[Y]at O;cases O) (λy d e z=>by
   obtain⟨v,o,O,_⟩:=c.I.cell y d e;rw[z,Y]at O;cases O) (λp hp z=>by have e:=(c.I.pin p hp).1;rw[z,Y]at e;cases e) hH
  refine wpAny_mono (zfb (X:=X.susp ea) (i:=i) (v:=.ref ea) (J.susp ea) hN hi (.inl hl) rfl (Q:=λ_ T=>Inv (X.susp ea) pins (σ.set i (some (.ref ea))) (upd H' ea (.ext (zb6 ea C))) T) (λT I3=>I3) (.inr hl)) (λ_ T I3=>?_) λ_ _ q=>False.elim q;refine wpAny_mono (hs ea pins T _ _ _ I3 (h ea hH)) (λfl4 s4 U=>?_) λ_ _ q=>False.elim q;have Z:∀ {a:St} {l:Hp},Inv (X.susp ea) pins a l s4→∀ {R:Unit→Shared→Prop},(∀ F,Inv X pins (List.replicate X.N.length none) l F→R () F)→wpAny (model X.prog X.w) X.A (do bindName X.env n .none;unbindBehindTheSuite X.env n G) R X.xe s4:=λ{a l} t {R} k=>by obtain⟨m,hn,_⟩:=t.loc;exact wpAny_nameGoes hl hn hp λh5 m5 hn5 hs5=>k _ ((t.unsusp I.ok).forget hn5 hs5)
  cases fl4 with
  | next=>obtain⟨a,l,t,q⟩:=U;exact Z t λF E=>⟨_,l,E,q⟩
  | brk=>obtain⟨a,l,t,q⟩:=U;exact Z t λF E=>⟨_,l,E,q⟩
  | cont=>obtain⟨a,l,t,q⟩:=U;exact Z t λF E=>⟨_,l,E,q⟩
  | ret u=>obtain⟨v,a,l,t,r,q⟩:=U;exact Z t λF E=>⟨v,_,l,E,r,q⟩
def zn8 {prog:Program}{w:World}{A:Around}{E:Value→Shared→Prop}{K:W.Frag}{x:Addr}{t c:Value}{Q:Value→Shared→Prop}(j:W.Looks (model prog w) s.heap (typeOf (.ref x)) t)(n:K.In s.heap)(k:(t == c)=false)
  (e:W.kitCls K t c=some true)(h:Q (.bool true) s):wpAny (model prog w) A (call (.builtin "isinstance") [.ref x,c]) Q E s:=by
 obtain⟨l,g,d,p,r⟩:=s;refine call_isinstance_of ?_ (λz=>nomatch z);unfold Builtin.«isinstance.nested»;refine wpAny_bind (j.at ?_);rw[if_neg (λq=>by rw[k]at q;exact Bool.noConfusion q)];obtain⟨b,i,a⟩:=W.kit_cls (M:=model prog w) n e;have o:W.Looks (model prog w) l (isInstance (.ref x) c) true:=j.andThen a;refine wpAny_bind (b.at ?_);rw[if_pos (by decide)]
 k_delta "plainIsInstance"
 refine wpAny_bind (wpAny_bind (i.at ?_));simp only[Bool.not_true,Bool.false_eq_true,if_false];refine wpAny_bind (o.at ?_)
 first
  | exact wpAny_pure (wpAny_pure h)
  | (simp only[if_true];first | exact wpAny_pure (wpAny_pure h) | exact wpAny_pure h | exact wpAny_bind (wpAny_pure (wpAny_pure h)))
inductive zks (K:W.Frag):List V→Hp→VK→Prop|m{xs H Q} ea C n:xs=[.ref ea,.ty n]→H ea=some (.ext (zb6 ea C))→W.kitCls K (.ref C) (.type n)=some true→Q (.bl true) H→zks K xs H Q
def zl3:zbt X (.builtin "isinstance") (zks X.K):=by intro pins s σ H xs us Q I r h;obtain⟨ea,C,n,rfl,i,e,q⟩:=h;obtain⟨u,b,rfl,d,c⟩:=zg4 r;cases (show b=Value.type n from c);cases (show u=Value.ref ea from d);obtain⟨⟨k,g,a⟩,_⟩:=I.hok ea _ i;have j:W.Looks (model X.prog X.w) s.heap (typeOf (.ref ea)) (.ref C):=a ▸ (W.Looks.ld g).andThen .now;exact zn8 j I.kIn rfl e ⟨.bl true,H,I,rfl,q⟩
end
end L2
namespace K95
open PySem L2
def top (i:Nat):Stmt:=PySem.Challenge.pw_yesorno_k95_atoms_refused.main.body.getD i (.Pass ⟨0,0,0,0⟩)
abbrev zdX:Stmt:=za0 (top 2) 0
abbrev zdU:Stmt:=top 3
abbrev zdV:Stmt:=top 4
abbrev zhD:Stmt:=top 5
abbrev zeM:Stmt:=top 6
abbrev zgj:Stmt:=top 7
abbrev zhF:Stmt:=top 27
abbrev zhG:Stmt:=top 28
abbrev zgR:Stmt:=top 29
abbrev zkn:Stmt:=top 30
abbrev ziK:Stmt:=top 31
abbrev zko:Stmt:=za0 (top 32) 0
abbrev zgQ:Stmt:=za0 (top 32) 2
abbrev ziJ:Stmt:=za0 (top 32) 4
abbrev sRow:Stmt:=za0 (top 32) 6
abbrev zfp:Stmt:=top 34
abbrev zdH:Stmt:=top 41
abbrev zdi:Stmt:=top 42
abbrev zdj:Stmt:=top 43
abbrev zhE:Stmt:=top 45
abbrev zdY:Stmt:=za0 (top 47) 0
abbrev zgP:Stmt:=top 49
abbrev s_levels:Stmt:=top 51
abbrev s_part_levels:Stmt:=top 53
abbrev s_is_replaced:Stmt:=top 54
abbrev s_learnt:Stmt:=top 55
abbrev zeI:Stmt:=za0 (top 57) 0
abbrev zgw:Stmt:=za0 (top 57) 1
abbrev zf3:Stmt:=za0 (top 57) 2
abbrev zf6:Stmt:=za0 (top 57) 3
abbrev zf5:Stmt:=za0 (top 57) 4
abbrev ze2:Stmt:=za0 (top 57) 5
abbrev zgx:Stmt:=za0 (top 57) 6
abbrev zhl:Stmt:=za0 (top 57) 7
abbrev zhm:Stmt:=za0 (top 57) 8
abbrev zf4:Stmt:=za0 (top 57) 9
abbrev zfx:Stmt:=za0 (top 57) 10
abbrev zdW:Stmt:=za0 (top 57) 11
abbrev zdA:Stmt:=top 58
abbrev zeE:Stmt:=top 60
abbrev zdI:Stmt:=top 63
abbrev zdq:Stmt:=top 64
abbrev zkp:Stmt:=top 66
abbrev zeN:Stmt:=top 67
abbrev zcL:Stmt:=top 68
abbrev zex:Stmt:=top 69
abbrev zfq:Stmt:=top 70
abbrev zbX:Stmt:=top 71
abbrev zb4:Stmt:=top 72
abbrev abc:Str:="abcdefghijklmnopqrstuvwxyz"
def isL (c:Str):Bool:=!(Builtin.Str.occurrences abc c 0 abc.length 1).isEmpty
def zeK (z:Str):List Bool:=z.cps.toList.map λc=>isL ⟨#[c]⟩
def ziz:List V:=[.str "or",.str "and",.str "not",.str "never",.str "always",.str "then",.str "as",.str "unlike"]
def ziv (z:Str):Bool:=decide ((0:Int) < (z.length:Int))&&(zeK z).all id
def zd2 (z:Str):Bool:=ziv z&&(decide ((z.length:Int)≤8)&&!inV (.str z) ziz)
def sz (n:Nat)(h:n≤1000):n≤sizeLine:=Nat.le_of_lt (zbu h)
def zkL:ziz.all zdF=true:=by decide +kernel
def zjh (z:Str):(zeK z).length=z.length:=by simp [zeK,Str.length]
def za6 (a b:Str):(a++b).length=a.length+b.length:=by show(a.cps++b.cps).size=a.cps.size+b.cps.size;exact Array.size_append
def zmh (a:z.cps[i]?=some ch):(zeK z).take (i+1)=(zeK z).take i++[isL ⟨#[ch]⟩]:=by
 have b:(zeK z)[i]?=some (isL ⟨#[ch]⟩):=by unfold zeK;rw[List.getElem?_map,Array.getElem?_toList,a];rfl
 rw[List.take_add_one,b];rfl
abbrev Tm:=Str × List Int
def dT (t:Tm):Dt:=.tup [.str t.1,.tup (t.2.map Dt.int)]
def zfW:∀ ns:List Int,zeJ (ns.map Dt.int)=true
 | []=>by simp [zeJ]
 | n :: ns=>by simp only[List.map_cons,zeJ,nob,Bool.true_and];exact zfW ns
def zfT:∀ ns:List Int,zaP (ns.map Dt.int)=true
 | []=>by simp [zaP]
 | n :: ns=>by simp only[List.map_cons,zaP,nol,Bool.true_and];exact zfT ns
def zf2:∀ ns:List Int,zaQ (ns.map Dt.int)=0
 | []=>by simp [zaQ]
 | n :: ns=>by simp only[List.map_cons,zaQ,dep,zf2 ns];rfl
def nol_dT (t:Tm):nol (dT t)=true:=by simp only[dT,nol,zaP,zfT,Bool.and_self]
def zc1:∀ T:List Tm,zaP (T.map dT)=true
 | []=>by simp [zaP]
 | t :: T=>by simp only[List.map_cons,zaP,nol_dT,Bool.true_and];exact zc1 T
inductive Out where
 | num (n:Nat) | name | term | many | part
def bad (T:List Tm)(ps:List Int):Bool:=decide (3 < ps.length)||ps.any λp=>decide (p < 0)||decide ((T.length:Int)≤p)
def zg2 [BEq α][LawfulBEq α]{c:α→Dt}(i:∀ a b,peq (c a) (c b)=true↔a=b)(T:List α)(t:α):((T.map c).any λd=>peq d (c t))=decide (t∈T):=by
 rw[Bool.eq_iff_iff,List.any_eq_true];constructor
 ·rintro ⟨d,g,e⟩;obtain⟨u,f,rfl⟩:=List.mem_map.mp g;rw[i]at e;rw[←e];exact dTq f
 ·intro h;exact⟨c t,List.mem_map.mpr ⟨t,oDq h,rfl⟩,zcs _⟩
def zm2 [BEq α][LawfulBEq α]{c:α→Dt}(e:∀ a b,peq (c a) (c b)=true↔a=b)(T:List α)(t:α):(T.map c).findIdx (λd=>peq d (c t))=T.idxOf t:=by rw[List.findIdx_map];unfold List.idxOf;congr 1;funext a;show peq (c a) (c t)=(a == t);rw[Bool.eq_iff_iff,e,beq_iff_eq]
inductive At where
 | plain (z:Str)
 | same (a b:Int)
 deriving DecidableEq
def dA:At→Dt
 | .plain z=>.tup [.str "plain",.str z]
 | .same a b=>.tup [.str "same",.int a,.int b]
def zlb (t:At):nob (dA t)=true:=by cases t <;> simp only[dA,nob,zeJ,Bool.and_self]
def zdh (t:At):nol (dA t)=true:=by cases t <;> simp only[dA,nol,zaP,Bool.and_self]
def dep_dA (t:At):dep (dA t)=1:=by cases t <;> simp only[dA,dep,zaQ] <;> rfl
def dA_inj (h:dA a=dA b):a=b:=by
 cases a <;> cases b
 all_goals
  unfold dA at h;injection h with h;injection h with e c;injection c with c d
  first
   | (injection c with c;injection d with d _;injection d with d;rw[c,d])
   | (injection c with c;rw[c])
   | (injection e with e;exact absurd e (by decide +kernel))
   | cases c
def peq_dA (a b:At):peq (dA a) (dA b)=decide (a=b):=by
 by_cases h:a=b
 ·subst h;rw[zcs,dTq rfl]
 ·rw[dFq h];cases e:peq (dA a) (dA b) with
  | false=>rfl
  | true=>exact absurd (dA_inj (zk6 _ _ (zlb a) (zlb b) e)) h
def zld (a b:At):peq (dA a) (dA b)=true↔a=b:=by rw[peq_dA];exact decide_eq_true_iff
def dR (r:List Int):Dt:=.tup (r.map Dt.int)
def zbI (r:List Int):nol (dR r)=true:=by simp only[dR,nol,zfT]
def zaw {c:Type}{b:c→Dt}(d:∀ a,nol (b a)=true):∀ T:List c,zaP (T.map b)=true
 | []=>by simp [zaP]
 | t :: T=>by simp only[List.map_cons,zaP,d,Bool.true_and];exact zaw d T
def zij {c:Type}{b:c→Dt}{n:Nat}(d:∀ a,dep (b a)≤n):∀ T:List c,zaQ (T.map b)≤n
 | []=>by simp [zaQ]
 | t :: T=>by have h:=zij d T;have:=d t;simp only[List.map_cons,zaQ];lia
def kTA:¬(("terms":Str)="atoms"):=by decide +kernel
def kTR:¬(("terms":Str)="rows"):=by decide +kernel
def kAR:¬(("atoms":Str)="rows"):=by decide +kernel
def zdQ (a c b:Addr):List (Str × V):=zaT "rows" (.ref b) (zaT "atoms" (.ref c) (zaT "terms" (.ref a) []))
def zb9 (a c b:Addr):(zdQ a c b).lookup ("terms":Str)=some (.ref a):=by unfold zdQ;rw[za1,if_neg kTR,za1,if_neg kTA,za1,if_pos rfl]
def zaX (b a c:Addr):(zdQ b a c).lookup ("atoms":Str)=some (.ref a):=by unfold zdQ;rw[za1,if_neg kAR,za1,if_pos rfl]
def zbK (b c a:Addr):(zdQ b c a).lookup ("rows":Str)=some (.ref a):=by unfold zdQ;rw[za1,if_pos rfl]
def zgs (a f b:Addr){m:Str}(e:¬m="rows")(d:¬m="atoms")(c:¬m="terms"):(zdQ a f b).lookup m=none:=by
 unfold zdQ;rw[za1,if_neg e,za1,if_neg d,za1,if_neg c]
 all_goals rfl
def Fr1 (H H':Hp)(z:Addr):Prop:=∀ b o,H b=some o→b≠z→H' b=some o
def Fr1.trans (a:Fr1 H H1 z)(b:Fr1 H1 H2 z):Fr1 H H2 z:=λc o e n=>b c o (a c o e n) n
def Fr1.keepT (f:Fr1 H H' z)(h:H z=some (.lst xs)):aV H H':=λb ys q=>by
 rcases q with q | ⟨o,q⟩
 ·exact .inl (f b _ q (zdc q h (λe=>by cases e)))
 ·exact .inr ⟨o,f b _ q (zdc q h (λe=>by cases e))⟩
structure zat (K:W.Frag)(C:Addr)(H:Hp)(p tl al rl:Addr)(T:List Tm)(As:List At)(Rs:List (List Int)):Prop where
 ob:∃ dx,H p=some (.ins C dx (zdQ tl al rl))
 tm:∃ xs,H tl=some (.lst xs)∧aq K H (T.map dT) xs
 am:∃ xs,H al=some (.lst xs)∧aq K H (As.map dA) xs
 rm:∃ xs,H rl=some (.lst xs)∧aq K H (Rs.map dR) xs
 na:al≠tl
 nr:rl≠tl
 nx:rl≠al
def zat.keep {K:W.Frag}{C:Addr}{H H':Hp}{p b g c z:Addr}{T:List Tm}{i:List At}{Rs:List (List Int)}{zs:List V}(h:zat K C H p b g c T i Rs)(f:Fr1 H H' z)(a:H z=some (.lst zs))(o:z≠b)(n:z≠g)(l:z≠c):zat K C H' p b g c T i Rs:=by obtain⟨⟨y,j⟩,⟨xs,x,w⟩,⟨ys,v,u⟩,⟨k,t,s⟩,r,q,d⟩:=h;exact⟨⟨y,f _ _ j (zdc j a (λe=>by cases e))⟩,⟨xs,f _ _ x o.symm,w.keep (f.keepT a) (zc1 T)⟩,⟨ys,f _ _ v n.symm,u.keep (f.keepT a) (zaw zdh i)⟩,⟨k,f _ _ t l.symm,s.keep (f.keepT a) (zaw zbI Rs)⟩,r,q,d⟩
def zat.same {K:W.Frag}{C:Addr}{H H':Hp}{p c e d:Addr}{T:List Tm}{b:List At}{Rs:List (List Int)}(h:zat K C H p c e d T b Rs)(s:ap H H'):zat K C H' p c e d T b Rs:=by obtain⟨⟨t,r⟩,⟨xs,q,o⟩,⟨ys,n,l⟩,⟨f,k,j⟩,i,g,a⟩:=h;exact⟨⟨t,s _ _ r⟩,⟨xs,s _ _ q,o.keep (.of_same s) (zc1 T)⟩,⟨ys,s _ _ n,l.keep (.of_same s) (zaw zdh b)⟩,⟨f,s _ _ k,j.keep (.of_same s) (zaw zbI Rs)⟩,i,g,a⟩
def zat.setT {K:W.Frag}{C:Addr}{H:Hp}{p a l d:Addr}{T T':List Tm}{c:List At}{Rs:List (List Int)}{us:List V}(h:zat K C H p a l d T c Rs)(hs:aq K (upd H a (.lst us)) (T'.map dT) us):zat K C (upd H a (.lst us)) p a l d T' c Rs:=by obtain⟨⟨t,k⟩,⟨xs,j,u⟩,⟨ys,s,r⟩,⟨n,q,o⟩,i,g,b⟩:=h;have f:aV H (upd H a (.lst us)):=aV.lst j;exact⟨⟨t,by rw[ag (zdc k j (λe=>by cases e))];exact k⟩,⟨us,af,hs⟩,⟨ys,by rw[ag i];exact s,r.keep f (zaw zdh c)⟩,⟨n,by rw[ag g];exact q,o.keep f (zaw zbI Rs)⟩,i,g,b⟩
def zat.setA {K:W.Frag}{C:Addr}{H:Hp}{p c b d:Addr}{T:List Tm}{t As':List At}{Rs:List (List Int)}{us:List V}(h:zat K C H p c b d T t Rs)(hs:aq K (upd H b (.lst us)) (As'.map dA) us):zat K C (upd H b (.lst us)) p c b d T As' Rs:=by obtain⟨⟨s,j⟩,⟨xs,r,q⟩,⟨ys,i,u⟩,⟨k,o,n⟩,g,l,a⟩:=h;have f:aV H (upd H b (.lst us)):=aV.lst i;exact⟨⟨s,by rw[ag (zdc j i (λe=>by cases e))];exact j⟩,⟨xs,by rw[ag g.symm];exact r,q.keep f (zc1 T)⟩,⟨us,af,hs⟩,⟨k,by rw[ag a];exact o,n.keep f (zaw zbI Rs)⟩,g,l,a⟩
def zat.setR {K:W.Frag}{C:Addr}{H:Hp}{p d k a:Addr}{T:List Tm}{c:List At}{Rs Rs':List (List Int)}{us:List V}(h:zat K C H p d k a T c Rs)(hs:aq K (upd H a (.lst us)) (Rs'.map dR) us):zat K C (upd H a (.lst us)) p d k a T c Rs':=by obtain⟨⟨s,j⟩,⟨xs,r,q⟩,⟨ys,o,n⟩,⟨t,i,u⟩,l,g,b⟩:=h;have f:aV H (upd H a (.lst us)):=aV.lst i;exact⟨⟨s,by rw[ag (zdc j i (λe=>by cases e))];exact j⟩,⟨xs,by rw[ag g.symm];exact r,q.keep f (zc1 T)⟩,⟨ys,by rw[ag b.symm];exact o,n.keep f (zaw zdh c)⟩,⟨us,af,hs⟩,l,g,b⟩
def SqI (K:W.Frag)(H:Hp)(q:Addr)(ps:List Int):Prop:=SqL K H q (ps.map V.int)∨SqT K H q (ps.map V.int)
def SqI.same (h:SqI K H q ps)(s:ap H H'):SqI K H' q ps:=h.elim (λz=>.inl (s.seq z)) λz=>.inr ((aV.of_same s).sq z)
def Low (z:Str):Prop:=z.length≤100∧∀ c∈z.cps.toList,c < 1000
def Low.repr (h:Low z):(reprText z).length≤1002:=by have:=StrLaws.reprText_len z λc a=>Nat.lt_of_lt_of_le (h.2 c a) (by decide);have:=h.1;lia
inductive zgL:Sp|m{vs H Q E9} (z:Str):vs=[.str z]→z.length≤1000→(∀ H',ap H H'→Q (.bl (ziv z)) H')→zgL vs H Q E9
inductive zgM:Sp|m{vs H Q E9} (z:Str):vs=[.str z]→z.length≤1000→(∀ H',ap H H'→Q (.bl (zd2 z)) H')→zgM vs H Q E9
inductive ziH (K:W.Frag):Sp|m{vs H Q E9} (a:Addr) (ns:List Int) (k:Int):vs=[.ref a,.int k]→SqL K H a (ns.map V.int)→ns.length≤63→0≤k→(∀ i:Int,Q (.int i) H)→ziH K vs H Q E9
inductive zfS (CN:Addr):Sp|m{vs H Q E} (z:Str):vs=[.str z]→Low z→(if zd2 z=true then ∀ H',ap H H'→Q .non H' else ∀ H',ap H H'→E (.ref CN) none H')→zfS CN vs H Q E
inductive zgh (K:W.Frag)(CM:Addr):Sp|m{vs H Q E} (a tl:Addr) (m:Int) (xs:List V) (ds:List Dt) (d:Dt):vs=[.ref a,.ref tl,.int m]→Has K H d (.ref a)→H tl=some (.lst xs)→aq K H ds xs→zaQ ds≤50→ds.length≤1000→0≤m→m≤1000→(if(ds.any λe=>peq e d)=true then ∀ H',ap H H'→Q (.int ((ds.findIdx λe=>peq e d):Nat)) H' else if m≤(ds.length:Int) then ∀ H',ap H H'→E (.ref CM) none H' else Q (.int (ds.length:Nat)) (upd H tl (.lst (xs++[.ref a]))))→zgh K CM vs H Q E
inductive zhc (C:Addr):Sp|m{vs H Q E9} (p dx:Addr):vs=[.ref p]→H p=some (.ins C dx [])→(∀(tl al rl:Addr) (H':Hp),H tl=none→H al=none→H rl=none→al≠tl→rl≠tl→rl≠al→H' p=some (.ins C dx (zdQ tl al rl))→H' tl=some (.lst [])→H' al=some (.lst [])→H' rl=some (.lst [])→(∀ b o,H b=some o→b≠p→H' b=some o)→Q .non H')→zhc C vs H Q E9
def za4 (m:Nat)(n:Int):Bool:=decide (n=0)||decide ((m:Int) < n)||decide (n < -(m:Int))
inductive zfR (K:W.Frag)(C CP:Addr):Sp|m{vs H Q E} (p tl al rl:Addr) (T:List Tm) (As:List At) (Rs:List (List Int)) (n:Int):vs=[.ref p,.int n]→zat K C H p tl al rl T As Rs→-1000≤n→n≤1000→(if za4 As.length n=true then ∀ H',ap H H'→E (.ref CP) none H' else Q .non H)→zfR K C CP vs H Q E
def zeo (h:H p=none)(o:HO):ap H (upd H p o):=λb u q=>by rw[ag (zad q h)];exact q
abbrev bmV:List Value:=[.type "ValueError",.type "Exception",.type "BaseException",.type "object"]
structure Txt (K:W.Frag)(mg:Str→Option Value)(aK C CN CT CP CM:Addr):Prop where
 small:∃ t,mg "SMALL_LETTERS"=some (.str abc t)
 longest:∃ t,mg "LONGEST_NAME"=some (.int 8 t)
 atoms:∃ t,mg "MOST_ATOMS"=some (.int 40 t)
 rparts:∃ t,mg "MOST_ROW_PARTS"=some (.int 20 t)
 rows:∃ t,mg "MOST_ROWS"=some (.int 200 t)
 kept:mg "KEPT_WORDS"=some (.ref aK)
 tup:∀ H,SqT K H aK ziz
 len:mg "len"=none
 all:mg "all"=none
 range:mg "range"=none
 isi:mg "isinstance"=none
 bool:mg "bool"=none
 tuple:mg "tuple"=none
 abs:mg "abs"=none
 bname:mg "BadName"=some (.ref CN)
 bterm:mg "BadTerm"=some (.ref CT)
 bpart:mg "BadPart"=some (.ref CP)
 bmany:mg "TooMany"=some (.ref CM)
 xname:W.excIn K CN bmV "ValueError.__new__"=true
 xterm:W.excIn K CT bmV "ValueError.__new__"=true
 xpart:W.excIn K CP bmV "ValueError.__new__"=true
 xmany:W.excIn K CM bmV "ValueError.__new__"=true
 cl:Cls K C
 nT:zaE K C "terms"
 nA:zaE K C "atoms"
 nR:zaE K C "rows"
section
variable {P:Program} {w:World} {K:W.Frag} {mg:Str→Option Value} {base:Heap} {aK C CN CT CP CM:Addr}
def Fun.okX (F:Fun K x qual st f fd)(S:zab N ps (ao st))(b:∀ vs H Q E,sp vs H Q E→vs.length=ps.length)
  (a:∀(cdv:Value) (A:Around) (outer:List Env) (s:Shared) (H:Hp) (vs:List V) (Q:VK) (E:XK),zax k (A.deeper (PyProof.Rows.envOfC qual (ao st) s.heap.objs.size f cdv))→sp vs H Q E →
   ∃ t,PSs (aZ (CX1 P w) P w K mg base N qual (ao st) f cdv A outer s H E) (zap st) t∧t { nx:=λ_ H'=>Q .non H',rt:=Q } (zcz N vs) H):aI P w K mg base (CX1 P w) (k+1) f fd ps sp:=by obtain⟨l,od,kV,i,j,o,cdv,n,e,rfl,g,d⟩:=F.ex;exact zkv g d S b λA outer s H vs Q E h c=>a cdv A outer s H vs Q E h c
def xe1:Xe1 (aZ (CX1 P w) P w K mg base N qual scope f cd A outer s H E) E:=⟨rfl,rfl,rfl,rfl⟩
def hu64 (a:zax k A):A.units+64 < cLine:=a.units
def scC:zab ["_law_script","_law_k"] ["_law_script","_law_k"] (ao zkp):=fsc
def znT (F:Fun K "_law_cell_at" "_law_cell_at" zkp f fd)(T:Txt K mg aK C CN CT CP CM):aI P w K mg base CX0 1 f fd ["_law_script","_law_k"] (ziH K):=by
 refine F.ok scC (λvs H Q E h=>?_) (λcdv A outer s H vs Q E l h=>?_)
 ·obtain⟨a,ns,k,rfl,_⟩:=h;rfl
 obtain⟨a,ns,k,rfl,d,g,h0,q⟩:=h;refine⟨_,ae (zaj (aA zd1 (pv 1) (aw zaa rfl T.len bLq (aa (pv 0) ac))) (ak (aJ (aW zaK (pv 0) (pv 1)))) zac) (ak (aJ ai)),?_⟩;refine⟨_,rfl,_,rfl,a,_,rfl,.inl d,_,_,rfl,rfl,_,rfl,?_⟩;refine aO (λc=>?_) (λc=>?_)
 ·have j:k < (((ns.map V.int).length:Nat):Int):=oDq c;rw[lM]at j;have e:k.toNat < ns.length:=by lia
  have i:k=((k.toNat:Nat):Int):=by lia
  have b:atI (ns.map V.int) ((k.toNat:Nat):Int)=some (.int ns[k.toNat]):=zah (by rw[List.getElem?_map,gG e] <;> rfl);rw[←i]at b;exact⟨_,rfl,_,rfl,a,_,_,_,rfl,rfl,d,b,q _⟩
 ·exact q 0
def scIW:zab ["text"] ["text"] (ao zhF):=fsc
def zlB (F:Fun K "is_word" "is_word" zhF f fd)(T:Txt K mg aK C CN CT CP CM):aI P w K mg base CX0 1 f fd ["text"] zgL:=by
 obtain⟨r,o⟩:=T.small;refine F.ok scIW (λvs H Q E h=>?_) (λcdv A outer s H vs Q E t h=>?_)
 ·obtain⟨z,rfl,_⟩:=h;rfl
 obtain⟨z,rfl,g,q⟩:=h;refine⟨_,ak (aJ (zej (zbc zbk (aw zgb rfl T.len bLq (aa (pv 0) ac)) ai)
  (zeQ (aw (zhZ rfl) rfl T.all PyProof.Rows.Boot.all (aa
   (zcS (N':=["letter"]) (ix:=[]) rfl rfl (by decide +kernel) (by decide +kernel) rfl (λ_=>⟨[],zcv (by decide +kernel) (by decide +kernel)⟩) (by decide +kernel) rfl rfl (λj i h=>by simp at h)
    (pi_str (pv 0)) (λG B e k=>zbc zlz (pv 0) (zaR (v:=.str abc) rfl o ⟨_,rfl⟩) rfl)) ac))))),?_⟩
 refine⟨_,rfl,z,rfl,sz _ g,_,_,rfl,rfl,_,rfl,?_⟩;refine aO (λc=>?_) (λc=>?_)
 ·have I:(0:Int) < (z.length:Int):=oDq c;refine⟨_,rfl,z,rfl,λD l=>⟨λi m ys H'=>m=z.length - i∧i≤z.length∧ys=((zeK z).take i).map V.bl∧H'=upd H D (.lst ys),⟨z.length,rfl,Nat.zero_le _,rfl,rfl⟩,?_⟩⟩;rintro i m ys H' ⟨rfl,u,rfl,rfl⟩;refine⟨af,?_⟩;by_cases a:i < z.length
  ·refine .inr ⟨a,λx p y=>?_⟩;obtain⟨rfl,ch,d,rfl⟩:=y;have n:=zmh d;refine⟨_,rfl,_,_,rfl,rfl,af,?_,z.length - (i+1),by lia,rfl,a,?_,zhv⟩
   ·rw[lM,List.length_take,zjh];exact Nat.lt_of_le_of_lt (Nat.le_trans (Nat.min_le_right _ _) g) (by decide)
   ·rw[n,mAq];rfl
  ·have b:i=z.length:=by lia
   subst b;refine .inl ⟨nRq _,D,zeK z,rfl,SqL.of (by rw[af,tO (by rw[zjh];exact nRq _)]),?_⟩;have:=q _ (zeo l (.lst (((zeK z).take z.length).map V.bl)));unfold ziv at this;rw[c,Bool.true_and]at this;exact this
 ·have:=q H (ap.refl H);unfold ziv at this;rw[Bool.eq_false_iff.mpr c,Bool.false_and]at this;exact this
def scIN:zab ["word"] ["word"] (ao zhG):=fsc
def zlC (F:Fun K "is_name" "is_name" zhG f fd)(T:Txt K mg aK C CN CT CP CM)(G:aI P w K mg base CX0 1 g gd ["text"] zgL)(n:az K gd ["text"] [])(j:W.keepIn K (.ref g)=true)(i:mg "is_word"=some (.ref g)) :
  aI P w K mg base CX0 2 f fd ["word"] zgM:=by
 obtain⟨o,l⟩:=T.longest;refine F.ok scIN (λvs H Q E h=>?_) (λcdv A outer s H vs Q E k h=>?_)
 ·obtain⟨z,rfl,_⟩:=h;rfl
 obtain⟨z,rfl,e,q⟩:=h;refine⟨_,ak (aJ (zej (zai G k rfl i j n .nil zak (aa (pv 0) ac)) (zej (zbc op_le (aw zgb rfl T.len bLq (aa (pv 0) ac)) (zaR (v:=.int 8) rfl l ⟨_,rfl⟩))
  (zeQ (zbc zf7 (pv 0) (zaR (v:=.ref aK) rfl T.kept rfl) rfl))))),?_⟩
 refine⟨_,rfl,z,rfl,e,λa b=>⟨_,rfl,?_⟩⟩;refine aO (λc=>?_) (λc=>?_)
 ·refine⟨_,rfl,z,rfl,sz _ e,_,_,rfl,rfl,_,rfl,?_⟩;refine aO (λd=>?_) (λd=>?_)
  ·refine⟨_,rfl,aK,ziz,rfl,.inr (T.tup a),rfl,zkL,?_⟩;have:=q a b;unfold zd2 at this;rw[c,d,Bool.true_and,Bool.true_and]at this;exact this
  ·have:=q a b;unfold zd2 at this;rw[c,Bool.eq_false_iff.mpr d,Bool.true_and,Bool.false_and]at this;exact this
 ·have:=q a b;unfold zd2 at this;rw[Bool.eq_false_iff.mpr c,Bool.false_and]at this;exact this
def scAN:zab ["word"] ["word"] (ao zgR):=fsc
def zkG (F:Fun K "ask_name" "ask_name" zgR f fd)(T:Txt K mg aK C CN CT CP CM)(G:aI P w K mg base CX0 2 g gd ["word"] zgM)(k:az K gd ["word"] [])(i:W.keepIn K (.ref g)=true)(d:mg "is_name"=some (.ref g)) :
  aI P w K mg base (CX1 P w) 3 f fd ["word"] (zfS CN):=by
 refine Fun.okX F scAN (λvs H Q E h=>?_) (λcdv A outer s H vs Q E j h=>?_)
 ·obtain⟨z,rfl,_⟩:=h;rfl
 obtain⟨z,rfl,lo,h⟩:=h;refine⟨_,ak (zaj (zei (zcr (zai G j rfl d i k .nil zak (aa (pv 0) ac))))
  (ak (zbA (C:=CN) xe1 rfl rfl T.bname PySem.F.excBase_ValueError T.xname (aa (zbv (zaC (pe_fvr (pv 0)) (zaC zaU zcN))) ac))) zac),?_⟩
 refine⟨_,rfl,z,rfl,Nat.le_trans lo.1 (by decide),λc b=>⟨_,rfl,?_⟩⟩;have a:=lo.repr;cases e:zd2 z with
 | true =>
  rw[e]at h;exact zck (h c b)
 | false =>
  rw[e,if_neg (by decide)]at h;refine zcj ?_;refine⟨_,rfl,z,rfl,Nat.le_trans a (by decide),_,rfl,?_,_,rfl,?_,?_,(by show 1≤sizeLine;decide),h c b⟩
  ·rw[za6];exact Nat.le_trans (Nat.add_le_add_left a _) (by decide +kernel)
  ·rw[za6,za6];exact Nat.le_trans (Nat.add_le_add_right (Nat.add_le_add_left a _) _) (by decide +kernel)
  ·rw[za6,za6];exact Nat.le_trans (Nat.add_le_add_right (Nat.add_le_add_left a _) _) (by decide +kernel)
def scPl:zab ["thing","things","most"] ["thing","things","most"] (ao ziK):=fsc
def zj2 (c:-1000≤n)(b:n≤1000):n.natAbs.log2 < 1920∧((toString n:String):Str).length≤1002:=by
 have a:n.natAbs≤1000:=by lia
 refine⟨?_,?_⟩
 ·by_cases h0:n.natAbs=0
  ·rw[h0];decide
  ·have:=(Nat.log2_lt h0 (k:=1920)).mpr (Nat.lt_of_le_of_lt a (by decide +kernel));exact this
 ·have:=PyProof.Rows.len_str_of_int n;lia
def zmH (F:Fun K "place_of" "place_of" ziK f fd)(T:Txt K mg aK C CN CT CP CM):aI P w K mg base (CX1 P w) 1 f fd ["thing","things","most"] (zgh K CM):=by
 refine Fun.okX F scPl (λvs H Q E h=>?_) (λcdv A outer s H vs Q E D h=>?_)
 ·obtain⟨a,i,m,xs,g,d,rfl,_⟩:=h;rfl
 obtain⟨a,i,m,xs,g,d,rfl,x,k,hs,y,G,N,B,h⟩:=h;have v:=hu64 D;have b:xs.length=g.length:=hs.length.symm;obtain⟨q,l⟩:=zj2 (n:=m) (by lia) B;refine⟨_,ae (zaj (aA (op_inD v) (pv 0) (pv 1) rfl) (ak (aJ (za2 PySem.F.plainAttrs_list PySem.F.slot_list_index PySem.F.type_list_index (zia v) (pv 1) (aa (pv 0) ac)))) zac)
  (ae (zaj (aA zkt (aw zaa rfl T.len bLq (aa (pv 1) ac)) (pv 2))
   (ak (zbA (C:=CM) xe1 rfl rfl T.bmany PySem.F.excBase_ValueError T.xmany (aa (zbv (zaC zaU (zaC (zdZ (pv 2)) (zaC zaU zcN)))) ac))) zac)
  (ae (zag (za2 PySem.F.plainAttrs_list PySem.F.slot_list_append PySem.F.type_list_append zaA (pv 1) (aa (pv 0) ac)))
  (ak (aJ (aU zdg (aw zaa rfl T.len bLq (aa (pv 1) ac)) ai))))),?_⟩
 refine⟨_,rfl,_,rfl,i,xs,g,d,rfl,.inl (SqL.of k),hs,x,Nat.le_trans y (by decide),_,rfl,?_⟩;refine aO (λc=>?_) (λc=>?_)
 ·have t:(g.any λe=>peq e d)=true:=c;rw[if_pos t]at h;have o:(g.findIdx λe=>peq e d) < g.length:=List.findIdx_lt_length_of_exists (by simpa using t);refine⟨_,rfl,.inl ⟨rfl,_,SqL.of k⟩,_,rfl,i,xs,g,_,d,g.findIdx (λe=>peq e d),rfl,rfl,k,hs,x,Nat.le_trans y (by decide),⟨_,gG o,List.findIdx_getElem (w:=o)⟩,λj M L J=>?_,h H (ap.refl H)⟩;obtain⟨O,I⟩:=gEq J;have z:=List.not_of_lt_findIdx (p:=λe=>peq e d) L;rw[I]at z;cases e:peq M d with
  | false=>rfl
  | true=>rw[e]at z;cases z
 ·have t:¬(g.any λe=>peq e d)=true:=c;rw[if_neg t]at h;refine⟨_,rfl,i,xs,rfl,.inl (SqL.of k),_,rfl,_,_,rfl,rfl,_,rfl,aO (λu=>?_) (λu=>?_)⟩
  ·have r:m≤((xs.length:Nat):Int):=oDq u;rw[b]at r;rw[if_pos r]at h;refine⟨_,rfl,by decide +kernel,_,rfl,.inr ⟨m,rfl,q,_,rfl,?_,_,rfl,?_,?_,(by show 1≤sizeLine;decide),h H (ap.refl H)⟩⟩
   all_goals
    simp only[za6]
    first
     | exact Nat.le_trans (Nat.add_le_add_left l _) (by decide +kernel)
     | exact Nat.le_trans (Nat.add_le_add_right (Nat.add_le_add_left l _) _) (by decide +kernel)
  ·have r:¬m≤((xs.length:Nat):Int):=λz=>u (dTq z);rw[b]at r;rw[if_neg r]at h;refine⟨_,rfl,.inl ⟨rfl,_,SqL.of k⟩,_,rfl,i,xs,_,rfl,rfl,k,Nat.lt_of_le_of_lt (by rw[b];exact G) (by decide),?_⟩;refine⟨_,rfl,i,_,rfl,.inl (SqL.of af),_,_,rfl,rfl,?_⟩;have e:(((xs++[V.ref a]).length:Nat):Int) - 1=(g.length:Nat):=by rw[lAq,b];simp
   show Q (.int ((((xs++[V.ref a]).length:Nat):Int) - 1)) _;rw[e];exact h
def scI:zab ["self"] ["self"] (ao zko):=fsc
def znP (F:Fun K "__init__" "Problem.__init__" zko f fd)(T:Txt K mg aK C CN CT CP CM):aI P w K mg base CX0 1 f fd ["self"] (zhc C):=by
 refine F.ok scI (λvs H Q E h=>?_) (λcdv A outer s H vs Q E G h=>?_)
 ·obtain⟨p,q,rfl,_⟩:=h;rfl
 obtain⟨p,q,rfl,B,k⟩:=h;refine⟨_,ae (zaY (pv 0) (zaD ac) rfl) (ae (zaY (pv 0) (zaD ac) rfl) (ak (zaY (pv 0) (zaD ac) rfl))),?_⟩;refine⟨lS0,λl v=>?_⟩;have c:p≠l:=zad B v;refine⟨_,rfl,p,C,q,[],rfl,(by rw[ag c];exact B),T.cl,T.nT,(by show 0 < 1000;decide),?_⟩;refine⟨lS0,λi d=>?_⟩;have j:i≠p:=λz=>by rw[z,af]at d;cases d
 have r:i≠l:=λz=>by rw[z,ag c.symm,af]at d;cases d
 have D:H i=none:=by rw[ag j,ag r]at d;exact d
 refine⟨_,rfl,p,C,q,_,rfl,(by rw[ag j.symm,af]),T.cl,T.nA,(by show 1 < 1000;decide),?_⟩;refine⟨lS0,λg a=>?_⟩;have n:g≠p:=λz=>by rw[z,af]at a;cases a
 have u:g≠i:=λz=>by rw[z,ag j,af]at a;cases a
 have t:g≠l:=λz=>by rw[z,ag c.symm,ag r.symm,ag c.symm,af]at a;cases a
 have y:H g=none:=by rw[ag n,ag u,ag n,ag t]at a;exact a
 refine⟨_,rfl,p,C,q,_,rfl,(by rw[ag n.symm,af]),T.cl,T.nR,(by show 2 < 1000;decide),?_⟩;refine k l i g _ v D y r t u af ?_ ?_ ?_ λb o e x=>?_
 ·rw[ag c.symm,ag t.symm,ag c.symm,ag r.symm,ag c.symm,af]
 ·rw[ag j,ag u.symm,ag j,af]
 ·rw[ag n,af]
 ·rw[ag x,ag (zad e y),ag x,ag (zad e D),ag x,ag (zad e v)];exact e
def scAP:zab ["self","part"] ["self","part"] (ao zgQ):=fsc
def zkF (F:Fun K "ask_part" "Problem.ask_part" zgQ f fd)(T:Txt K mg aK C CN CT CP CM):aI P w K mg base (CX1 P w) 1 f fd ["self","part"] (zfR K C CP):=by
 refine Fun.okX F scAP (λvs H Q E h=>?_) (λcdv A outer s H vs Q E D h=>?_)
 ·obtain⟨p,o,l,q,T,d,Rs,n,rfl,_⟩:=h;rfl
 obtain⟨p,o,l,q,T',d,Rs,n,rfl,S,v,u,h⟩:=h;obtain⟨⟨x,r⟩,_,⟨xs,t,hs⟩,_⟩:=id S;have b:xs.length=d.length:=by rw[←hs.length,lM]
 obtain⟨g,e⟩:=zj2 v u;refine⟨_,ak (zaj (PW.pt (zcB (aA zbd (pv 1) ai) (zcb (aA zbk (aw zdD rfl T.abs PyProof.Rows.Boot.abs (aa (pv 1) ac)) (aw zaa rfl T.len bLq (aa (aB (pv 0) rfl) ac))))))
  (ak (zbA (C:=CP) xe1 rfl rfl T.bpart PySem.F.excBase_ValueError T.xpart (aa (zbv (zaC (zdZ (pv 1)) (zaC zaU zcN))) ac))) zac),?_⟩
 refine⟨_,rfl,rfl,_,rfl,aO (λc=>zcj ?_) (λc=>⟨_,rfl,n,rfl,_,rfl,p,C,x,_,_,rfl,r,T.cl,T.nA,zaX _ _ _,l,xs,rfl,.inl (SqL.of t),_,_,rfl,rfl,_,rfl,aO (λj=>?_) (λj=>?_)⟩)⟩
 rotate_left 2
 ·have k:¬n=0:=λz=>c (dTq (by rw[z]));have a:¬((xs.length:Nat):Int) < (if n < 0 then -n else n):=λz=>j (dTq z)
  rw[b]at a;have i:za4 d.length n=false:=by
   unfold za4;have B:¬((d.length:Nat):Int) < n:=by split at a <;> lia
   have y:¬n < -((d.length:Nat):Int):=by split at a <;> lia
   rw[dFq k,dFq B,dFq y];rfl
  rw[if_neg (by rw[i];decide)]at h;exact h
 all_goals
  have i:za4 d.length n=true:=by
   unfold za4
   first
    | (have k:V.int n=V.int 0:=oDq c
       have a:n=0:=by injection k
       rw[dTq a];rfl)
    | (have z:((xs.length:Nat):Int) < (if n < 0 then -n else n):=oDq j
       rw[b]at z;split at z
       ·rw[dTq (show n < -((d.length:Nat):Int) by lia),Bool.or_true]
       ·rw[dTq (show((d.length:Nat):Int) < n by lia),Bool.or_true,Bool.true_or])
  rw[if_pos i]at h;refine⟨_,rfl,.inr ⟨n,rfl,g,_,rfl,?_,_,rfl,?_,?_,(by show 1≤sizeLine;decide),h H (ap.refl H)⟩⟩
  ·rw[za6];exact Nat.le_trans (Nat.add_le_add_left e _) (by decide +kernel)
  ·rw[za6,za6];exact Nat.le_trans (Nat.add_le_add_right (Nat.add_le_add_left e _) _) (by decide +kernel)
  ·rw[za6,za6];exact Nat.le_trans (Nat.add_le_add_right (Nat.add_le_add_left e _) _) (by decide +kernel)
end
def Fr2 (H H':Hp)(z y:Addr):Prop:=∀ b o,H b=some o→b≠z→b≠y→H' b=some o
def Fr2.of1 (f:Fr1 H H' z):Fr2 H H' z y:=λb o e n _=>f b o e n
def Fr2.of_same (s:ap H H'):Fr2 H H' z y:=λb o e _ _=>s b o e
def Fr2.trans (a:Fr2 H H1 z y)(b:Fr2 H1 H2 z y):Fr2 H H2 z y:=λc o e n m=>b c o (a c o e n m) n m
def zed (a:List At)(z:Str):Out × List At :=
 if zd2 z=false then(.name,a) else if .plain z∈a then(.num (a.idxOf (.plain z)+1),a) else if 40≤a.length then(.many,a) else(.num (a.length+1),a++[.plain z])
def zaF:List Int→List Int→List Int
 | acc,[]=>acc
 | acc,p :: ps=>zaF (if p∈acc then acc else acc++[p]) ps
def zcl (m:Nat)(Rs:List (List Int))(ps:List Int):Out × List (List Int) :=
 if ps.any (za4 m)=true then(.part,Rs) else if 20 < ps.length then(.many,Rs) else if 200≤Rs.length then(.many,Rs) else(.num Rs.length,Rs++[zaF [] ps])
def Told (K:W.Frag)(C f d e CM:Addr)(H:Hp)(p c b a:Addr)(T:List Tm)(g:List At)(Rs:List (List Int))(Q:VK)(E:XK):Out→Prop
 | .num k=>∀ H',zat K C H' p c b a T g Rs→Fr2 H H' b a→Q (.int (k:Nat)) H'
 | .name=>∀ H',ap H H'→E (.ref f) none H'
 | .term=>∀ H',ap H H'→E (.ref d) none H'
 | .part=>∀ H',ap H H'→E (.ref e) none H'
 | .many=>∀ H',ap H H'→E (.ref CM) none H'
inductive zgg (K:W.Frag)(C CN CT CP CM:Addr):Sp|m{vs H Q E} (p tl al rl:Addr) (T:List Tm) (As:List At) (Rs:List (List Int)) (z:Str):vs=[.ref p,.str z]→zat K C H p tl al rl T As Rs→Low z→As.length≤1000→Told K C CN CT CP CM H p tl al rl T (zed As z).2 Rs Q E (zed As z).1→zgg K C CN CT CP CM vs H Q E
inductive zg5 (K:W.Frag)(C CN CT CP CM:Addr):Sp|m{vs H Q E} (p tl al rl q:Addr) (T:List Tm) (As:List At) (Rs:List (List Int)) (ps:List Int):vs=[.ref p,.ref q]→zat K C H p tl al rl T As Rs→SqI K H q ps→ps.length≤1000→(∀ i∈ps,-1000≤i∧i≤1000)→Rs.length≤1000→Told K C CN CT CP CM H p tl al rl T As (zcl As.length Rs ps).2 Q E (zcl As.length Rs ps).1→zg5 K C CN CT CP CM vs H Q E
inductive ziG (K:W.Frag):Sp|m{vs H Q E9} (q:Addr) (ps:List Int):vs=[.ref q]→SqI K H q ps→ps.length≤1000→(∀(H':Hp) (l:Addr),ap H H'→H' l=some (.tup ((zaF [] ps).map V.int))→Q (.ref l) H')→ziG K vs H Q E9
def znG (a b:Int):peq (.int a) (.int b)=decide (a=b):=by simp only[peq];rfl
def q1 {Q:VK}{n:Nat}{H:Hp}(h:Q (.int ((n+1:Nat):Int)) H):Q (.int (((n:Nat):Int)+1)) H:=h
def zgU:∀(ps acc:List Int),(zaF acc ps).length≤acc.length+ps.length
 | [],acc=>by simp [zaF]
 | p :: ps,acc=>by
  unfold zaF;have h:=zgU ps (if p∈acc then acc else acc++[p])
  split at h <;> simp only[lAq,List.length_cons,lS,List.length_nil]at h ⊢ <;> split <;> simp_all <;> lia
def zh8 {ps:List Int}{i:Nat}{k:Int}:∀ {acc:List Int},ps[i]?=some k→zaF acc (ps.take (i+1))=if k∈zaF acc (ps.take i) then zaF acc (ps.take i) else zaF acc (ps.take i)++[k]:=by
 induction ps generalizing i with
 | nil=>intro acc h;simp at h
 | cons p ps a =>
  intro acc h;cases i with
  | zero =>
   simp at h;subst h;simp [zaF]
  | succ i =>
   simp only[List.take_succ_cons,zaF];exact a (by simpa using h)
section
variable {P:Program} {w:World} {K:W.Frag} {mg:Str→Option Value} {base:Heap} {aK C CN CT CP CM:Addr}
def znD (S:zat K C H p tl al rl T As Rs)(i:Has K H (dA t) (.ref a))(f:As.length≤1000)
  (k1:t∈As→∀ H',ap H H'→Q (.int (As.idxOf t:Nat)) H')(k2:t∉As→40≤As.length→∀ H',ap H H'→E (.ref CM) none H')
  (k3:t∉As→¬40≤As.length→∀ H',zat K C H' p tl al rl T (As++[t]) Rs→Fr1 H H' al→Q (.int (As.length:Nat)) H'):zgh K CM [.ref a,.ref al,.int 40] H Q E:=by
 obtain⟨xs,h,hs⟩:=id S.am;refine⟨a,al,40,xs,As.map dA,dA t,rfl,i,h,hs,Nat.le_trans (zij (n:=1) (λa=>by rw[dep_dA];exact nRq _) As) (by decide),by rw[lM];exact f,by decide,by decide,?_⟩;rw[zg2 zld,zm2 zld,lM];by_cases c:t∈As
 ·rw[if_pos (dTq c)];exact k1 c
 ·rw[if_neg (by rw[dFq c];decide)];by_cases d:40≤As.length
  ·rw[if_pos (by lia)];exact k2 c d
  ·rw[if_neg (by lia)];have g:aV H (upd H al (.lst (xs++[.ref a]))):=aV.lst h;refine k3 c d _ (S.setA ?_) λb o e j=>by rw[ag j];exact e
   rw[mAq];exact(hs.keep g (zaw zdh As)).append (aq.one (i.keep g (zdh t)))
def scP:zab ["self","name"] ["self","name"] (ao ziJ):=fsc
def zmG {f o n:Addr}{y B dP:FuncData}(F:Fun K "add_plain" "Problem.add_plain" ziJ f y)(T:Txt K mg aK C CN CT CP CM)
  (GN:aI P w K mg base (CX1 P w) 3 o B ["word"] (zfS CN))(bN:az K B ["word"] [])(O:W.keepIn K (.ref o)=true)(mN:mg "ask_name"=some (.ref o))
  (GP:aI P w K mg base (CX1 P w) 1 n dP ["thing","things","most"] (zgh K CM))(bP:az K dP ["thing","things","most"] [])(N:W.keepIn K (.ref n)=true)(M:mg "place_of"=some (.ref n)) :
  aI P w K mg base (CX1 P w) 4 f y ["self","name"] (zgg K C CN CT CP CM):=by
 obtain⟨G,q⟩:=T.atoms;refine Fun.okX F scP (λvs H Q E h=>?_) (λcdv A outer s H vs Q E u h=>?_)
 ·obtain⟨p,D,al,L,T,b,Rs,z,rfl,_⟩:=h;rfl
 obtain⟨p,D,al,L,T',b,Rs,z,rfl,S,lo,k,h⟩:=h;have l:zax 1 _:=u.mono (by decide);refine⟨_,ae (zag (zai GN u rfl mN O bN .nil (zcF xe1) (aa (pv 1) ac)))
  (ak (aJ (aU zbj (zai GP l rfl M N bP .nil (zcF xe1) (aa (zbz (aa zaU (aa (pv 1) ac))) (aa (aB (pv 0) rfl) (aa (zaR (v:=.int 40) rfl q ⟨_,rfl⟩) ac)))) ai))),?_⟩
 refine⟨_,rfl,z,rfl,lo,?_⟩;cases hg:zd2 z with
 | false =>
  rw[if_neg (by decide)];have e:zed b z=(.name,b):=if_pos hg;rw[e]at h;exact h
 | true =>
 rw[if_pos rfl];intro t J;refine⟨_,rfl,lS2,λa X=>?_⟩;have I:ap t (upd t a (.tup [.str "plain",.str z])):=zeo X _;have c:=J.trans I;have r:=S.same c;obtain⟨⟨Z,R⟩,_⟩:=id r;have U:Has K (upd t a (.tup [.str "plain",.str z])) (dA (.plain z)) (.ref a):=by simp only[dA,Has,aq];exact⟨a,_,rfl,SqT.of af,_,_,rfl,rfl,_,_,rfl,rfl,rfl⟩
 refine⟨_,rfl,p,C,Z,_,_,rfl,R,T.cl,T.nA,zaX _ _ _,?_⟩;refine znD (CM:=CM) (E:=E) (Q:=λx H'=>rI0 (λi j=>.int (i+j)) x (.int 1) H' Q) r U k (λg H' s'=>?_) (λg d H' s'=>?_) (λg d H' S' Y=>?_)
 ·have e:zed b z=(.num (b.idxOf (.plain z)+1),b):=by unfold zed;rw[if_neg (by rw[hg];decide),if_pos g]
  rw[e]at h;exact⟨_,_,rfl,rfl,q1 <| h H' (r.same s') (Fr2.of_same (c.trans s'))⟩
 ·have e:zed b z=(.many,b):=by unfold zed;rw[if_neg (by rw[hg];decide),if_neg g,if_pos d]
  rw[e]at h;exact h H' (c.trans s')
 ·have e:zed b z=(.num (b.length+1),b++[.plain z]):=by unfold zed;rw[if_neg (by rw[hg];decide),if_neg g,if_neg d]
  rw[e]at h;exact⟨_,_,rfl,rfl,q1 <| h H' S' ((Fr2.of_same c).trans (Fr2.of1 Y))⟩
end
def zj6 (a b:Int):peq (.int a) (.int b)=true↔a=b:=by rw[znG];exact decide_eq_true_iff
def zgq {ps:List Int}{i:Nat}{x:V}(h:(ps.map V.int)[i]?=some x):∃ k,ps[i]?=some k∧x=.int k:=by
 rw[List.getElem?_map]at h;cases e:ps[i]? with
 | none=>rw[e]at h;cases h
 | some k =>
  rw[e]at h;exact⟨k,rfl,(Option.some.inj h).symm⟩
section
variable {P:Program} {w:World} {K:W.Frag} {mg:Str→Option Value} {base:Heap} {aK C CN CT CP CM:Addr}
def scO:zab ["parts","kept","part"] ["parts"] (ao zkn):=fsc
def znN {f:Addr}{L:FuncData}(F:Fun K "once_each" "once_each" zkn f L)(T:Txt K mg aK C CN CT CP CM):aI P w K mg base CX0 1 f L ["parts"] (ziG K):=by
 refine F.ok scO (λvs H Q E h=>?_) (λcdv A outer s H vs Q E O h=>?_)
 ·obtain⟨q,ps,rfl,_⟩:=h;rfl
 obtain⟨q,ps,rfl,R,M,k⟩:=h;have N:=hu64 O;refine⟨_,ae (aF (i:=1) scO.nd rfl (Or.inl rfl) (zaD ac))
  (ae (zaN PassesOwn.never rfl (zk5 (pv 0)) (zae (i:=2) scO.nd rfl (Or.inl rfl))
   (ak (zaj (aA (zly N) (pv 2) (pv 1) rfl) (ak (zag (za2 PySem.F.plainAttrs_list PySem.F.slot_list_append PySem.F.type_list_append zaA (pv 1) (aa (pv 2) ac)))) zac)))
  (ak (aJ (zaL zce rfl T.tuple PyProof.Rows.Boot.tuple (aa (pv 1) ac))))),?_⟩
 refine⟨lS0,λl I=>?_⟩;have B:ap H (upd H l (.lst [])):=zeo I _;rcases R with n | n
 ·refine⟨_,rfl,q,rfl,.inl ⟨⟨_,B.seq n⟩,zgZ (K:=K) (a:=q) (xs:=ps.map V.int) (λi t r=>ap H r∧(∃ z,t=[some (.ref q),some (.ref l),z])∧r l=some (.lst ((zaF [] (ps.take i)).map V.int)))
   ⟨B,⟨_,rfl⟩,af⟩ (λi t r _ ⟨e,_⟩=>e.seq n) ?_ ?_⟩⟩
  ·rintro i x t r G ⟨u,⟨z,rfl⟩,d⟩;obtain⟨j,J,rfl⟩:=zgq G;have y:=zh8 (acc:=[]) J;have g:((zaF [] (ps.take i)).map V.int).length < sizeLine:=by rw[lM];have:=zgU (ps.take i) [];rw[List.length_take,List.length_nil]at this;exact Nat.lt_of_le_of_lt (show _≤1000 by lia) (by decide)
   refine⟨_,rfl,_,rfl,l,_,(zaF [] (ps.take i)).map Dt.int,.int j,rfl,.inl (SqL.of d),aq.ints _,by simp only[Has],by rw[zf2];decide,_,rfl,?_⟩;have ea:=zg2 zj6 (zaF [] (ps.take i)) j;by_cases v:j∈zaF [] (ps.take i)
   ·rw[dTq v]at ea;refine aO (λc=>absurd (show(!((zaF [] (ps.take i)).map Dt.int).any λd'=>peq d' (.int j))=true from c) (by rw[ea];decide)) (λ_=>?_);rw[if_pos v]at y;exact⟨u,⟨_,rfl⟩,by rw[y];exact d⟩
   ·rw[dFq v]at ea;refine aO (λ_=>?_) (λc=>absurd (show(!((zaF [] (ps.take i)).map Dt.int).any λd'=>peq d' (.int j))=true by rw[ea];rfl) c);rw[if_neg v]at y;refine⟨_,rfl,.inl ⟨rfl,_,SqL.of d⟩,_,rfl,l,_,_,rfl,rfl,d,g,?_⟩;refine⟨λb o e=>by rw[ag (zad e I)];exact u b o e,⟨_,rfl⟩,?_⟩;rw[y,mAq,af];rfl
  ·rintro t r ⟨u,⟨z,rfl⟩,d⟩;rw[lM,List.take_length]at d;refine⟨_,rfl,l,_,rfl,.inl ⟨SqL.of d,λD p=>k _ D (u.trans (zeo p _)) af⟩⟩
 ·refine⟨_,rfl,q,rfl,.inr ⟨⟨_,(aV.of_same B).sq n⟩,zj8 (K:=K) (a:=q) (xs:=ps.map V.int) (λi t r=>ap H r∧(∃ z,t=[some (.ref q),some (.ref l),z])∧r l=some (.lst ((zaF [] (ps.take i)).map V.int)))
   ⟨B,⟨_,rfl⟩,af⟩ (λi t r _ ⟨e,_⟩=>(aV.of_same e).sq n) ?_ ?_⟩⟩
  ·rintro i x t r G ⟨u,⟨z,rfl⟩,d⟩;obtain⟨j,J,rfl⟩:=zgq G;have y:=zh8 (acc:=[]) J;have g:((zaF [] (ps.take i)).map V.int).length < sizeLine:=by rw[lM];have:=zgU (ps.take i) [];rw[List.length_take,List.length_nil]at this;exact Nat.lt_of_le_of_lt (show _≤1000 by lia) (by decide)
   refine⟨_,rfl,_,rfl,l,_,(zaF [] (ps.take i)).map Dt.int,.int j,rfl,.inl (SqL.of d),aq.ints _,by simp only[Has],by rw[zf2];decide,_,rfl,?_⟩;have ea:=zg2 zj6 (zaF [] (ps.take i)) j;by_cases v:j∈zaF [] (ps.take i)
   ·rw[dTq v]at ea;refine aO (λc=>absurd (show(!((zaF [] (ps.take i)).map Dt.int).any λd'=>peq d' (.int j))=true from c) (by rw[ea];decide)) (λ_=>?_);rw[if_pos v]at y;exact⟨u,⟨_,rfl⟩,by rw[y];exact d⟩
   ·rw[dFq v]at ea;refine aO (λ_=>?_) (λc=>absurd (show(!((zaF [] (ps.take i)).map Dt.int).any λd'=>peq d' (.int j))=true by rw[ea];rfl) c);rw[if_neg v]at y;refine⟨_,rfl,.inl ⟨rfl,_,SqL.of d⟩,_,rfl,l,_,_,rfl,rfl,d,g,?_⟩;refine⟨λb o e=>by rw[ag (zad e I)];exact u b o e,⟨_,rfl⟩,?_⟩;rw[y,mAq,af];rfl
  ·rintro t r ⟨u,⟨z,rfl⟩,d⟩;rw[lM,List.take_length]at d;refine⟨_,rfl,l,_,rfl,.inl ⟨SqL.of d,λD p=>k _ D (u.trans (zeo p _)) af⟩⟩
def scRw:zab ["self","parts","part"] ["self","parts"] (ao sRow):=fsc
def ok_row {f fP fO:Addr}{fd dP dO:FuncData}(F:Fun K "add_row" "Problem.add_row" sRow f fd)(T:Txt K mg aK C CN CT CP CM)
  (GP:aI P w K mg base (CX1 P w) 1 fP dP ["self","part"] (zfR K C CP))(bP:az K dP ["self","part"] [])(mP:zbh K C "ask_part" fP)
  (GO:aI P w K mg base CX0 1 fO dO ["parts"] (ziG K))(bO:az K dO ["parts"] [])(kO:W.keepIn K (.ref fO)=true)(mO:mg "once_each"=some (.ref fO)) :
  aI P w K mg base (CX1 P w) 2 f fd ["self","parts"] (zg5 K C CN CT CP CM):=by
 obtain⟨t20,X⟩:=T.rparts;obtain⟨t200,G⟩:=T.rows;refine Fun.okX F scRw (λvs H Q E h=>?_) (λcdv A outer s H vs Q E hr h=>?_)
 ·obtain⟨p,J,Z,r,q,T,g,Rs,ps,rfl,_⟩:=h;rfl
 obtain⟨p,J,Z,r,q,T',g,Rs,ps,rfl,S,hq,len,n,M,h⟩:=h;obtain⟨t2,h2,q2⟩:∃ t,PSs (aZ (CX1 P w) P w K mg base ["self","parts","part"] "Problem.add_row" (ao sRow) f cdv A outer s H E) ((zap sRow).drop 1) t ∧
   ∀ z,ps.any (za4 g.length)=false→t { nx:=λ_ H'=>Q .non H',rt:=Q } [some (.ref p),some (.ref q),z] H:=by
  refine⟨_,ae (zaj (aA zbk (aw zaa rfl T.len bLq (aa (pv 1) ac)) (zaR (v:=.int 20) rfl X ⟨_,rfl⟩))
    (ak (zbA (C:=CM) xe1 rfl rfl T.bmany PySem.F.excBase_ValueError T.xmany (aa (zbv (zaC zaU (zaC (zdZ (zaR (v:=.int 20) rfl X ⟨_,rfl⟩)) (zaC zaU zcN)))) ac))) zac)
   (ae (zaj (aA zkt (aw zaa rfl T.len bLq (aa (aB (pv 0) rfl) ac)) (zaR (v:=.int 200) rfl G ⟨_,rfl⟩))
    (ak (zbA (C:=CM) xe1 rfl rfl T.bmany PySem.F.excBase_ValueError T.xmany (aa (zbv (zaC zaU (zaC (zdZ (zaR (v:=.int 200) rfl G ⟨_,rfl⟩)) (zaC zaU zcN)))) ac))) zac)
   (ae (zag (za2 PySem.F.plainAttrs_list PySem.F.slot_list_append PySem.F.type_list_append zaA (aB (pv 0) rfl) (aa (zai GO hr rfl mO kO bO .nil zak (aa (pv 1) ac)) ac)))
   (ak (aJ (aU zdg (aw zaa rfl T.len bLq (aa (aB (pv 0) rfl) ac)) ai))))),?_⟩
  intro z no;obtain⟨⟨Y,R⟩,_,_,⟨xs,hl,hs⟩,_⟩:=id S;have j:xs.length=Rs.length:=by rw[←hs.length,lM]
  have O:(ps.map V.int).length=ps.length:=lM _;refine⟨_,rfl,q,_,rfl,hq,_,_,rfl,rfl,_,rfl,aO (λc=>?_) (λc=>?_)⟩
  ·have c':(20:Int) < (((ps.map V.int).length:Nat):Int):=oDq c;rw[O]at c';have e:zcl g.length Rs ps=(.many,Rs):=by unfold zcl;rw[if_neg (by rw[no];decide),if_pos (by lia)]
   rw[e]at h;exact⟨_,rfl,by decide +kernel,.inr ⟨20,rfl,by decide +kernel,_,rfl,by decide +kernel,_,rfl,by decide +kernel,by decide +kernel,(by show 1≤sizeLine;decide),h H (ap.refl H)⟩⟩
  have c':¬(20:Int) < (((ps.map V.int).length:Nat):Int):=λz=>c (dTq z);rw[O]at c';refine⟨_,rfl,p,C,Y,_,_,rfl,R,T.cl,T.nR,zbK _ _ _,r,xs,rfl,.inl (SqL.of hl),_,_,rfl,rfl,_,rfl,aO (λc2=>?_) (λc2=>?_)⟩
  ·have c3:(200:Int)≤((xs.length:Nat):Int):=oDq c2;rw[j]at c3;have e:zcl g.length Rs ps=(.many,Rs):=by unfold zcl;rw[if_neg (by rw[no];decide),if_neg (by lia),if_pos (by lia)]
   rw[e]at h;exact⟨_,rfl,by decide +kernel,.inr ⟨200,rfl,by decide +kernel,_,rfl,by decide +kernel,_,rfl,by decide +kernel,by decide +kernel,(by show 1≤sizeLine;decide),h H (ap.refl H)⟩⟩
  have c3:¬(200:Int)≤((xs.length:Nat):Int):=λz=>c2 (dTq z);rw[j]at c3;have e:zcl g.length Rs ps=(.num Rs.length,Rs++[zaF [] ps]):=by unfold zcl;rw[if_neg (by rw[no];decide),if_neg (by lia),if_neg (by lia)]
  rw[e]at h;refine⟨_,rfl,p,C,Y,_,_,rfl,R,T.cl,T.nR,zbK _ _ _,.inl ⟨rfl,_,SqL.of hl⟩,_,rfl,q,ps,rfl,hq,len,λk l s2 hl2=>?_⟩;have S2:=S.same s2;have U:=s2 _ _ hl;have hd:Has K k (dR (zaF [] ps)) (.ref l):=by simp only[dR,Has];exact⟨l,_,rfl,SqT.of hl2,aq.ints _⟩
  have kt:aV k (upd k r (.lst (xs++[.ref l]))):=aV.lst U;have S3:zat K C (upd k r (.lst (xs++[.ref l]))) p J Z r T' g (Rs++[zaF [] ps]):=S2.setR (by rw[mAq];exact((hs.keep (.of_same s2) (zaw zbI Rs)).keep kt (zaw zbI Rs)).append (aq.one (hd.keep kt (zbI _))))
  obtain⟨⟨dx3,ho3⟩,_⟩:=id S3;refine⟨r,xs,_,rfl,rfl,U,Nat.lt_of_le_of_lt (by rw[j];exact M) (by decide),?_⟩;refine⟨_,rfl,p,C,dx3,_,_,rfl,ho3,T.cl,T.nR,zbK _ _ _,r,_,rfl,.inl (SqL.of af),_,_,rfl,rfl,?_⟩;have en:(((xs++[V.ref l]).length:Nat):Int) - 1=(Rs.length:Nat):=by rw[lAq,j];simp
  have D:=h _ S3 (λb o e _ n2=>by rw[ag n2];exact s2 b o e);show Q (.int ((((xs++[V.ref l]).length:Nat):Int) - 1)) _;rw[en];exact D
 refine⟨_,ae (zaN PassesOwn.leaving rfl (zk5 (pv 1)) (zae (i:=2) scRw.nd rfl (Or.inl rfl)) (ak (zag (zaZ (pv 0) T.cl mP GP hr bP .nil (zcF xe1) (aa (pv 2) ac))))) h2,?_⟩;obtain⟨⟨Y,R⟩,_⟩:=id S;have N:=zgs J Z r (m:="ask_part") (by decide +kernel) (by decide +kernel) (by decide +kernel);have D:∀ z,ps.any (za4 g.length)=false→SqI K H q ps→t2 { nx:=λ_ H'=>Q .non H',rt:=Q } [some (.ref p),some (.ref q),z] H:=λz no _=>q2 z no;rcases hq with d | d
 ·refine⟨_,rfl,q,rfl,.inl ⟨⟨_,d⟩,zgZ (K:=K) (a:=q) (xs:=ps.map V.int) (λi u k=>k=H∧(∃ z,u=[some (.ref p),some (.ref q),z])∧(ps.take i).any (za4 g.length)=false)
   ⟨rfl,⟨_,rfl⟩,by simp⟩ (λi u k _ ⟨e,_⟩=>by rw[e];exact d) ?_ ?_⟩⟩
  ·rintro i x u k hx ⟨rfl,⟨z,rfl⟩,no⟩;obtain⟨y,I,rfl⟩:=zgq hx;have L:=n y (mOq I);refine⟨_,rfl,p,Y,_,rfl,R,N,_,rfl,p,J,Z,r,T',g,Rs,y,rfl,S,L.1,L.2,?_⟩;by_cases B:za4 g.length y=true
   ·rw[if_pos B];have e:zcl g.length Rs ps=(.part,Rs):=if_pos (List.any_eq_true.mpr ⟨y,mOq I,B⟩);rw[e]at h;exact h
   ·rw[if_neg B];refine⟨rfl,⟨_,rfl⟩,?_⟩;rw[List.take_add_one,I,List.any_append,no];simpa using B
  ·rintro u k ⟨rfl,⟨z,rfl⟩,no⟩;rw[lM,List.take_length]at no;exact D z no (.inl d)
 ·refine⟨_,rfl,q,rfl,.inr ⟨⟨_,d⟩,zj8 (K:=K) (a:=q) (xs:=ps.map V.int) (λi u k=>k=H∧(∃ z,u=[some (.ref p),some (.ref q),z])∧(ps.take i).any (za4 g.length)=false)
   ⟨rfl,⟨_,rfl⟩,by simp⟩ (λi u k _ ⟨e,_⟩=>by rw[e];exact d) ?_ ?_⟩⟩
  ·rintro i x u k hx ⟨rfl,⟨z,rfl⟩,no⟩;obtain⟨y,I,rfl⟩:=zgq hx;have L:=n y (mOq I);refine⟨_,rfl,p,Y,_,rfl,R,N,_,rfl,p,J,Z,r,T',g,Rs,y,rfl,S,L.1,L.2,?_⟩;by_cases B:za4 g.length y=true
   ·rw[if_pos B];have e:zcl g.length Rs ps=(.part,Rs):=if_pos (List.any_eq_true.mpr ⟨y,mOq I,B⟩);rw[e]at h;exact h
   ·rw[if_neg B];refine⟨rfl,⟨_,rfl⟩,?_⟩;rw[List.take_add_one,I,List.any_append,no];simpa using B
  ·rintro u k ⟨rfl,⟨z,rfl⟩,no⟩;rw[lM,List.take_length]at no;exact D z no (.inr d)
end
end K95
namespace Le95
open PySem L2
abbrev s_levels:Stmt:=K95.s_levels
abbrev s_part_levels:Stmt:=K95.s_part_levels
abbrev s_is_replaced:Stmt:=K95.s_is_replaced
abbrev s_learnt:Stmt:=K95.s_learnt
structure Txt (K:W.Frag)(mg:Str→Option Value):Prop where
 len:mg "len"=none
 dict:mg "dict"=none
 range:mg "range"=none
 tuple:mg "tuple"=none
 list:mg "list"=none
 any:mg "any"=none
 zip:mg "zip"=none
 reversed:mg "reversed"=none
 max:mg "max"=none
 isinstance:mg "isinstance"=none
 int:mg "int"=none
 bool:mg "bool"=none
 abs:mg "abs"=none
 ib:W.kitOne K (.type "int") (.type "bool")=some false
inductive zfM (K:W.Frag):Sp|m{vs H Q E9} (a:Addr) (xs:List V) (ts:List (Int × Int)):vs=[.ref a]→SqL K H a xs→aq K H (ts.map dP) xs→ts.length≤100→(∀ H' l,ap H H'→H l=none→H' l=some (.lst ((zdk ts ts.length).map V.int))→Q (.ref l) H')→zfM K vs H Q E9
def zdM:zab ["trail","found","level","step"] ["trail"] (ao s_levels):=fsc
def ok_levels (F:Fun K "levels" "levels" s_levels f fd):aI P w K mg base CX0 1 f fd ["trail"] (zfM K):=by
 refine F.ok zdM (λvs H Q E h=>?_) (λcdv A outer s H vs Q E G h=>?_)
 ·obtain⟨a,xs,ts,rfl,_⟩:=h;rfl
 obtain⟨a,xs,ts,rfl,v,y,I,q⟩:=h;have d:xs.length=ts.length:=by rw[←y.length,lM]
 refine⟨_,(ae (aF (i:=1) zdM.nd rfl (Or.inl rfl) (zaD ac))
  (ae (aF (i:=2) zdM.nd rfl (Or.inl rfl) ai)
  (ae (zaN PassesOwn.never rfl (zbE (pv 0)) (zae (i:=3) zdM.nd rfl (Or.inl rfl))
   (ae (zaj (aA zbd (aW zal (pv 3) ai) (zaI zay ai))
     (ak (ps_aug (i:=2) zdM.nd rfl (Or.inl rfl) ai ip_add))
     zac)
    (ak (zag (za2 PySem.F.plainAttrs_list PySem.F.slot_list_append PySem.F.type_list_append zaA (pv 1) (aa (pv 2) ac))))))
  (ak (aJ (pv 1)))))),?_⟩
 try dsimp only [Cx.nox,Cx.wish,aZ]
 refine⟨Nat.zero_le _,λl e=>⟨_,rfl,a,rfl,⟨xs,(au e _).seq v⟩,zgZ (xs:=xs) (λi j H'=>∃(c:Int) (st:Option V) (ys:List V),j=[some (.ref a),some (.ref l),some (.int c),st]∧c=cnt (ts.take i)∧ap H H'∧H' l=some (.lst ys)∧ys=(zdk ts i).map V.int)
  ⟨0,none,[],rfl,rfl,au e _,af,rfl⟩ ?_ ?_ ?_⟩⟩
 ·rintro i j H' _ ⟨c,st,ys,_,_,s,_⟩;exact s.seq v
 ·rintro i x j H' u ⟨c,st,ys,rfl,rfl,s,b,rfl⟩;obtain⟨t,p,C,rfl,D⟩:=zcG y u;have J:i < xs.length:=(gEq u).1;have n:=s.tup D;have k:=zet C;have B:=zlS ts i;have r:((zdk ts i).map V.int).length < sizeLine:=by rw[lM,zjg];exact zbu (by lia)
  refine⟨_,rfl,p,_,_,_,rfl,rfl,n,rfl,_,rfl,rfl,_,rfl,aO (λc=>?_) (λc=>?_)⟩
  ·have o:t.2=-1:=by have:=oDq c;injection this
   have g:zaS t=1:=by unfold zaS;rw[if_pos o]
   refine⟨_,rfl,_,_,rfl,rfl,_,rfl,.inl ⟨rfl,_,SqL.of b⟩,_,rfl,l,_,_,rfl,rfl,b,r,_,_,_,rfl,?_,s.upd e,af,?_⟩
   ·rw[k,g]
   ·rw[B,k,g,mAq];rfl
  ·have o:¬t.2=-1:=λz=>c (dTq (by rw[z]));have g:zaS t=0:=by unfold zaS;rw[if_neg o]
   refine⟨_,rfl,.inl ⟨rfl,_,SqL.of b⟩,_,rfl,l,_,_,rfl,rfl,b,r,_,_,_,rfl,?_,s.upd e,af,?_⟩
   ·rw[k,g,Int.add_zero]
   ·rw[B,k,g,Int.add_zero,mAq];rfl
 ·rintro j H' ⟨c,st,ys,rfl,rfl,s,b,rfl⟩;refine⟨_,rfl,q H' l s e ?_⟩;rw[b,d]
inductive zdE (K:W.Frag):Sp|m{vs H Q E9} (a:Addr) (xs:List V) (ts:List (Int × Int)):vs=[.ref a]→SqL K H a xs→aq K H (ts.map dP) xs→ts.length≤100→(negs ts).Nodup→(∀ H' d,ap H H'→H d=none→Lev H' d ts→Q (.ref d) H')→zdE K vs H Q E9
def zcI:zab ["trail","found","step","level"] ["trail"] (ao s_part_levels):=fsc
def ok_part_levels {P:Program}{w:World}{K:W.Frag}{mg:Str→Option Value}{base:Heap}{f fL:Addr}{fd dL:FuncData}(F:Fun K "part_levels" "part_levels" s_part_levels f fd)(T:Txt K mg)(g:FB P w K mg base CX0 1 "levels" fL dL ["trail"] (zfM K)):aI P w K mg base CX0 2 f fd ["trail"] (zdE K):=by
 refine F.ok zcI (λvs H Q E h=>?_) (λcdv A outer s H vs Q E hr h=>?_)
 ·obtain⟨a,xs,ts,rfl,_⟩:=h;rfl
 obtain⟨a,xs,ts,rfl,L,Z,hn,nd,q⟩:=h;have hu:=zb5 hr;have n:xs.length=ts.length:=by rw[←Z.length,lM]
 refine⟨_,(ae (aF (i:=1) zcI.nd rfl (Or.inl rfl) zbO)
  (ae (zaN PassesOwn.never rfl (zk4 rfl T.zip (aa (pv 0) (aa (zai g.ok hr rfl g.m g.kp g.b .nil zak (aa (pv 0) ac)) ac))) (zcO rfl (zaB (zae (i:=2) zcI.nd rfl (Or.inl rfl)) (zaB (zae (i:=3) zcI.nd rfl (Or.inl rfl)) zcf)))
   (ak (zdr hu (pv 1) (zaI zay (aW zal (pv 2) ai)) (pv 3) rfl)))
  (ak (aJ (pv 1))))),?_⟩
 try dsimp only [Cx.nox,Cx.wish,aZ]
 refine λd Y=>?_;have I:ap H (upd H d (.dK [])):=au Y _;have C:=af (H:=H) (a:=d) (o:=.dK []);generalize upd H d (.dK [])=H0 at I C;refine⟨_,rfl,_,rfl,a,xs,ts,rfl,I.seq L,aq.keep I.kt (zaV _) Z,hn,λH1 l s1 hl B=>?_⟩;have v:=I.trans s1;have X:=s1 _ _ C;have el:((zdk ts ts.length).map V.int).length=xs.length:=by rw[lM,zjg,n]
 refine⟨a,l,rfl,⟨_,v.seq L⟩,⟨_,SqL.of B⟩,zba (zkW (xs:=xs) (ys:=(zdk ts ts.length).map V.int) el.symm) (λi D H'=>∃(O N:Option V) (kvs:List (Key × V)),D=[some (.ref a),some (.ref d),O,N]∧ap H H'∧H' l=some (.lst ((zdk ts ts.length).map V.int))∧H' d=some (.dK kvs)∧kvs.length≤i∧∀ p:Int,zam kvs (Sum.inl p)=if p∈negs (ts.take i) then some (.int (lvF ts p)) else none) (λi D H' ⟨_,_,_,_,r,u,_⟩=>⟨r.seq L,SqL.of u⟩) ⟨none,none,[],rfl,v,B,X,nRq _,λp=>by simp [zam,negs]⟩ ?_ ?_⟩
 ·rintro i D H' x H'' hi ⟨O,N,kvs,rfl,r,u,j,lk,J⟩ ⟨p,y,z,rfl,hp,rfl,hy,hz⟩;obtain⟨t,tp,ht,rfl,U⟩:=zcG Z (hy _ (r.seq L));have S:=hz _ (SqL.of u);obtain⟨c,hc,rfl⟩:=zaW S;rw[zmZ ts (by lia)]at hc;cases hc;have G:ap H' (upd H' p (.tup [.ref tp,.int (cnt (ts.take (i+1)))])):=au hp _;refine⟨p,_,rfl,SqT.of af,rfl,_,_,rfl,_,_,rfl,rfl,?_⟩;have R:l≠d:=λe=>by rw[e,j]at u;cases u
  refine⟨_,rfl,_,rfl,_,rfl,tp,_,_,_,rfl,rfl,(r.trans G).tup U,rfl,_,rfl,d,_,rfl,zdn.k (k:=Sum.inl (-t.1)) (G _ _ j) (zbu (by lia)),?_⟩;refine⟨_,_,_,rfl,(r.trans G).upd Y,?_,af,?_,λq=>?_⟩
  ·rw[ag R];exact G _ _ u
  ·have:=zfi kvs (Sum.inl (-t.1)) (.int (cnt (ts.take (i+1))));lia
  ·rw[zem,J];have em:negs (ts.take (i+1))=negs (ts.take i)++[-t.1]:=by unfold negs;rw[zan ht,mAq];rfl
   rw[em];by_cases e:q=-t.1
   ·subst e;rw[if_pos rfl,if_pos (List.mem_append_right _ (by simp)),zbT nd ht]
   ·rw[if_neg (λz=>e (by cases z;rfl))];by_cases M:q∈negs (ts.take i)
    ·rw[if_pos M,if_pos (List.mem_append_left _ M)]
    ·rw[if_neg M,if_neg (λz=>by
      rcases mPq z with z | z
      ·exact M z
      ·exact e (mS z))]
 ·rintro D H' ⟨O,N,kvs,rfl,r,u,j,lk,J⟩;rw[n,tO (nRq _)]at J;exact⟨_,rfl,q H' d r Y ⟨kvs,j,J⟩⟩
def lvK (ts:List (Int × Int)):Key→Int
 | .inl m=>lvF ts m
 | .inr _=>0
inductive zbY (K:W.Frag):Sp|m{vs H Q E9} (p y last:Int) (kd ld:Addr) (ks:List Int) (n:Nat) (ts:List (Int × Int)):vs=[.int p,.int y,.ref kd,.ref ld,.int last]→Kst H kd ks n→Lev H ld ts→kd≠ld→n≤100000→(∀ m∈ks,m∈negs ts)→(∀ H',ap H H'→Q (.bl (zbf ts ks last p y)) H')→zbY K vs H Q E9
def zhT:zab ["part","why","kept","level_of","last"] ["part","why","kept","level_of","last"] (ao s_is_replaced):=fsc
def any_ks {ts:List (Int × Int)}{ks:List Int}{kvs:List (Key × V)}{p a:Int}(k:∀ m:Int,(zam kvs (Sum.inl m)).isSome=decide (m∈ks))(r:∀ c∈kvs,∃ m:Int,c.1=Sum.inl m) :
  (((kvs.filter λc=>decide (c.1≠Sum.inl p)).map λc=>decide (lvK ts c.1=a)).any id)=ks.any λo=>decide (o≠p)&&decide (lvF ts o=a):=by
 rw[Bool.eq_iff_iff,List.any_eq_true,List.any_eq_true];constructor
 ·rintro ⟨b,n,s⟩;obtain⟨c,i,e⟩:=List.mem_map.mp n;obtain⟨f,q⟩:=List.mem_filter.mp i;obtain⟨m,g⟩:=r c f;have h:m∈ks:=by
   have:(zam kvs (Sum.inl m)).isSome=true:=by rw[←zcX];exact List.any_eq_true.mpr ⟨c,f,dTq g⟩
   rw[k]at this;exact oDq this
  refine⟨m,h,?_⟩;have j:=oDq q;rw[g]at j e;have l:m≠p:=λz=>j (by rw[z]);have t:decide (lvF ts m=a)=true:=by
   have:decide (lvK ts (Sum.inl m)=a)=true:=by rw[e];exact s
   exact this
  rw[dTq l,t];rfl
 ·rintro ⟨m,h,e⟩;rw[Bool.and_eq_true]at e;have:(zam kvs (Sum.inl m)).isSome=true:=by rw[k];exact dTq h
  rw[←zcX]at this;obtain⟨c,f,g⟩:=List.any_eq_true.mp this;have d:=oDq g;refine⟨true,List.mem_map.mpr ⟨c,List.mem_filter.mpr ⟨f,dTq λz=>(oDq e.1) ?_⟩,?_⟩,rfl⟩
  ·rw[d]at z;cases z;rfl
  ·rw[d];exact e.2
def ok_is_replaced {P:Program}{w:World}{K:W.Frag}{mg:Str→Option Value}{base:Heap}{f:Addr}{fd:FuncData}(F:Fun K "is_replaced" "is_replaced" s_is_replaced f fd)(T:Txt K mg):aI P w K mg base CX0 1 f fd ["part","why","kept","level_of","last"] (zbY K):=by
 refine F.ok zhT (λvs H Q E h=>?_) (λcdv A outer s H vs Q E hr h=>?_)
 ·obtain⟨p,y,a,t,L,ks,n,ts,rfl,_⟩:=h;rfl
 obtain⟨p,y,a,t,L,ks,n,ts,rfl,hk,hl,ne,n5,sub,q⟩:=h;have Y:=zb5 hr;obtain⟨kvs,k1,k2,k3,k4⟩:=id hk;obtain⟨O,l1,l2⟩:=id hl;refine⟨_,(ae (zaj (PW.pt (zcB (zcM (zdO Y (pv 0) (pv 2))) (zcb (aA zbd (pv 1) (zaI zay ai)))))
   (ak (aJ za8))
   zac)
  (ae (zaj (aA zbd (zdu Y (pv 3) (pv 0) (λ_ _=>rfl)) ai)
   (ak (aJ za8))
   zac)
  (ae (zaj (aA zd0 (zdu Y (pv 3) (pv 0) (λ_ _=>rfl)) (pv 4))
   (ak (aJ za8))
   zac)
  (ak (aJ (aw (zhY rfl) rfl T.any PyProof.Rows.Boot.any (aa (znH (zeR (N':=["other","last","level_of","part"]) (ix:=[4,3,0]) rfl rfl (by decide +kernel) (by decide +kernel) rfl (λok=>zcd (sc:=ao s_is_replaced) ok rfl (by decide +kernel) (by decide +kernel)) (by decide +kernel) rfl rfl (λj i h=>match j,h with | 0,h=>by cases h;exact⟨_,rfl,rfl,.inl rfl,.inl rfl⟩ | 1,h=>by cases h;exact⟨_,rfl,rfl,.inl rfl,.inl rfl⟩ | 2,h=>by cases h;exact⟨_,rfl,rfl,.inl rfl,.inl rfl⟩ | n+3,h=>by simp at h) (znE (pv 2)) (λ_ _ _ _=>(aA zd0 (pv 0) (pv 3))) (λ_ _ _ _=>(zbc zbd (zdu Y (pv 2) (pv 0) (λ_ _=>rfl)) (pv 1))))) ac))))))),?_⟩
 try dsimp only [Cx.nox,Cx.wish,aZ]
 refine⟨_,rfl,_,rfl,t,_,rfl,zbi.k (k:=Sum.inl p) k1,_,rfl,?_⟩;rw[k2];have l:=q H (ap.refl _);unfold zbf at l;by_cases e:p∈ks
 ·rw[dTq e]at l ⊢;refine zck ⟨_,rfl,_,rfl,rfl,_,rfl,aO (λc=>?_) (λc=>?_)⟩
  ·have Z:y=-1:=by have:=oDq c;injection this
   rw[dFq (λz=>z Z)]at l;exact l
  ·have Z:y≠-1:=λz=>c (dTq (by rw[z]));rw[dTq Z]at l;have hp:zam O (Sum.inl p)=some (.int (lvF ts p)):=by rw[l2,if_pos (sub p e)]
   have g:=zbi.k (k:=Sum.inl p) l1;rw[hp]at g;refine⟨_,rfl,_,rfl,L,_,rfl,g,rfl,_,rfl,aO (λc0=>?_) (λc0=>?_)⟩
   ·have e0:lvF ts p=0:=by have:=oDq c0;injection this
    rw[dTq e0]at l;exact l
   ·have e0:lvF ts p≠0:=λz=>c0 (dTq (by rw[z]));rw[dFq e0]at l;refine⟨_,rfl,_,rfl,L,_,rfl,g,_,rfl,rfl,_,rfl,aO (λX=>?_) (λX=>?_)⟩
    ·have e1:lvF ts p≠a:=λz=>by rw[z]at X;rw[dTq (rfl:V.int a=V.int a)]at X;cases X
     rw[dFq e1]at l;exact l
    ·have e1:lvF ts p=a:=by
      by_cases z:lvF ts p=a
      ·exact z
      ·refine absurd ?_ X;rw[dFq (λr=>z (by injection r))];rfl
     rw[dTq e1]at l;refine⟨_,rfl,t,kvs,rfl,k1,λo D S=>zek znk (λi ys H'=>H' t=some (.frz o (.dK kvs))∧(∀ b u,b≠t→H b=some u→H' b=some u)∧ys=(((kvs.take i).filter λC=>decide (C.1≠Sum.inl p)).map λC=>decide (lvK ts C.1=a)).map V.bl) (λi ys H' ⟨G,_⟩=>G) ?_ ?_ ?_⟩
     ·have N:t≠D:=λz=>by rw[←z,af]at S;cases S
      refine⟨?_,λb u M B=>?_,rfl⟩
      ·rw[ag N];exact af
      ·have I:b≠D:=λz=>by rw[z]at B;rw[ag (λr=>M (z.trans r)),B]at S;cases S
       rw[ag I,ag M];exact B
     ·rintro i ys H' x H'' hi R d ⟨G,U,rfl⟩ ⟨rfl,k,v,J,rfl⟩;obtain⟨m,em⟩:=k4 _ (mOq J);have em':k=Sum.inl m:=em;subst em';have hm:m∈ks:=by
       have:(zam kvs (Sum.inl m)).isSome=true:=by rw[←zcX];exact List.any_eq_true.mpr ⟨_,mOq J,dTq rfl⟩
       rw[k2]at this;exact oDq this
      have et:((kvs.take (i+1)).filter λC=>decide (C.1≠Sum.inl p))=if m≠p then((kvs.take i).filter λC=>decide (C.1≠Sum.inl p))++[(Sum.inl m,v)] else(kvs.take i).filter λC=>decide (C.1≠Sum.inl p):=by
       rw[zan J,List.filter_append];by_cases z:m=p
       ·rw[if_neg (λh=>h z),List.filter_cons,if_neg (by simp [z]),List.filter_nil,List.append_nil]
       ·rw[if_pos z,List.filter_cons,if_pos (by refine dTq λr=>z ?_;cases r;rfl),List.filter_nil]
      refine⟨_,rfl,_,rfl,rfl,_,rfl,?_⟩;by_cases z:m=p
      ·subst z;rw[show(!decide (kV (Sum.inl m)=V.int m))=false by have z:kV (Sum.inl m)=V.int m:=rfl;rw[z,dTq rfl];rfl]
       refine zck (zdx hi R d ⟨G,U,?_⟩);rw[et,if_neg (λh=>h rfl)]
      ·rw[show(!decide (kV (Sum.inl m)=V.int p))=true by have z2:¬(kV (Sum.inl m)=V.int p):=λr=>z (by injection (show V.int m=V.int p from r));rw[dFq z2];rfl]
       have hl2:H'' L=some (.dK O):=U L _ (Ne.symm ne) l1;have g2:=zbi.k (k:=Sum.inl m) hl2;rw[l2,if_pos (sub m hm)]at g2;refine zcj ⟨_,rfl,_,rfl,L,_,rfl,g2,_,rfl,rfl,za5 (Nat.le_trans k3 (by rw[sizeLine_eq];lia)) hi R d ⟨?_,λb u M B=>?_,?_⟩⟩
       ·have N:t≠D:=λz=>by rw[z,d]at G;cases G
        rw[ag N];exact G
       ·have I:b≠D:=λz=>by rw[z]at B;have:=S;rw[ag (λr=>M (z.trans r)),B]at this;cases this
        rw[ag I];exact U b u M B
       ·rw[et,if_pos z,mAq,mAq];have e5:decide (V.int (lvF ts m)=V.int a)=decide (lvF ts m=a):=decide_eq_decide.mpr ⟨λz=>by injection z,λz=>by rw[z]⟩;rw[e5];rfl
     ·rintro ys H' d ⟨G,U,rfl⟩;rw[tO (nRq _)]at d;refine⟨t,o,kvs,G,λo' u' z=>?_,?_⟩
      ·have r:H t=some (.frz o' u'):=z;rw[k1]at r;cases r
      ·have N:D≠t:=λz=>by rw[z,G]at d;cases d
       have s1:ap H (upd H' t (.dK kvs)):=λb u B=>by
        by_cases z:b=t
        ·subst z;rw[af,←k1];exact B
        ·rw[ag z];exact U b u z B
       refine⟨D,_,rfl,SqL.of (by rw[ag N];exact d),?_⟩;have q1:=q _ s1;unfold zbf at q1;rw[dTq e,dTq Z,dFq e0,dTq e1,←any_ks (kvs:=kvs) k2 k4]at q1;exact q1
 ·rw[dFq e]at l ⊢;exact zcj (zcj l)
inductive sp_learnt (K:W.Frag):Sp|m{vs H Q E9} (rl tl:Addr) (f:Int) (xs zs:List V) (Rs:List (List Int)) (ts:List (Int × Int)):vs=[.ref rl,.ref tl,.int f]→SqL K H rl xs→aq K H (Rs.map zbe) xs→SqL K H tl zs→aq K H (ts.map dP) zs→zc9 Rs ts f→ts.length≤100→(∀ r∈Rs,r.length≤100)→(∀(H':Hp) (t tp th:Addr) (m:Int),ap H H'→H t=none→H' t=some (.tup [.ref tp,.ref th,.int m])→H' tp=some (.tup ((aX Rs ts f).map V.int))→H' th=some (.tup ((zbr Rs ts f).reverse.map V.int))→zel (((aX Rs ts f).drop 1).map (lvF ts)) m→Q (.ref t) H')→sp_learnt K vs H Q E9
def zb0:zab ["rows","trail","fails","level_of","last","kept","hints","step","parts","level"] ["rows","trail","fails"] (ao s_learnt):=fsc
abbrev NLn:List Str:=["rows","trail","fails","level_of","last","kept","hints","step","parts","level"]
section
variable {P:Program} {w:World} {K:W.Frag} {mg:Str→Option Value} {base:Heap} {f fP fR:Addr} {dP' dR':FuncData}
def zn2 (T:Txt K mg)
  {cdv:Value}{A:Around}{outer:List Env}{s:Shared}{H0:Hp}{E:XK}(hr:zax 2 (A.deeper (PyProof.Rows.envOfC "learnt" (ao s_learnt) s.heap.objs.size f cdv))) :
  ∃ t,PSs (aZ CX0 P w K mg base NLn "learnt" (ao s_learnt) f cdv A outer s H0 E).nox ((zap s_learnt).drop 5) t ∧
   ∀(D:zcW) (X H:Hp) (Y ld kd S:Addr) (zs:List V) (Rs:List (List Int)) (ts:List (Int × Int)) (a:Int) (n:Nat) (v0 v2 v4 v7:Option V),ap X H→SqL K H Y zs→aq K H (ts.map dP) zs→zc9 Rs ts a→ts.length≤100→Kst H kd (zcU Rs ts a) n→Lev H ld ts→H S=some (.lst ((zbr Rs ts a).map V.int)) →
    (∀(H':Hp) (t u b:Addr) (m:Int),ap X H'→X t=none→H' t=some (.tup [.ref u,.ref b,.int m])→H' u=some (.tup ((aX Rs ts a).map V.int))→H' b=some (.tup ((zbr Rs ts a).reverse.map V.int))→zel (((aX Rs ts a).drop 1).map (lvF ts)) m→D.rt (.ref t) H') →
    t D [v0,some (.ref Y),v2,some (.ref ld),v4,some (.ref kd),some (.ref S),v7,none,none] H:=by
 have hu:=zb5 hr;refine⟨_,(ae (aF (i:=8) zb0.nd rfl (Or.inl rfl) (zaL zce rfl T.tuple PyProof.Rows.Boot.tuple (aa (zeR (N':=["step","kept"]) (ix:=[5]) rfl rfl (by decide +kernel) (by decide +kernel) rfl (λok=>zcd (sc:=ao s_learnt) ok rfl (by decide +kernel) (by decide +kernel)) (by decide +kernel) rfl rfl (λj i h=>match j,h with | 0,h=>by cases h;exact⟨_,rfl,rfl,.inl rfl,.inl rfl⟩ | n+1,h=>by simp at h) (ziM rfl T.reversed (aa (pv 1) ac)) (λ_ _ _ _=>(zcM (zfC hu (zaI zay (aW (r:=zeb K) zal (pv 0) ai)) (pv 1)))) (λ_ _ _ _=>(zaI zay (aW (r:=zeb K) zal (pv 0) ai)))) ac)))
  (ae (aF (i:=9) zb0.nd rfl (Or.inl rfl) (znI rfl rfl T.max (aa (zcS (N':=["part","level_of"]) (ix:=[3]) rfl rfl (by decide +kernel) (by decide +kernel) rfl (λok=>zcd (sc:=ao s_learnt) ok rfl (by decide +kernel) (by decide +kernel)) (by decide +kernel) rfl rfl (λj i h=>match j,h with | 0,h=>by cases h;exact⟨_,rfl,rfl,.inl rfl,.inl rfl⟩ | n+1,h=>by simp at h) (zdK (zc0 zjI (pv 8) (zds ai) zdt)) (λ_ _ _ _=>(zdu hu (pv 1) (pv 0) (λ_ _=>rfl)))) ac) (zjY ai zk3)))
  (ak (aJ (zbz (aa (pv 8) (aa (zlw rfl rfl T.tuple rfl T.reversed (aa (pv 6) ac)) (aa (pv 9) ac)))))))),?_⟩
 try dsimp only [Cx.nox,Cx.wish,aZ]
 rintro D X H Y ld kd S zs Rs ts a n v0 v2 v4 v7 M hS hL ok l100 hk hv hh q;have zl:zs.length=ts.length:=by rw[←hL.length,lM]
 obtain⟨kvs,k1,k2,k3,k4⟩:=id hk;obtain⟨lvs,l1,l2⟩:=id hv;have np:(negs ts).reverse.length=ts.length:=by rw[List.length_reverse,zbP]
 refine⟨_,rfl,Y,zs,rfl,hS,λDl U=>zek ziA (λi ys H'=>ap H H'∧ys=(((negs ts).reverse.take i).filter λp=>decide (p∈zcU Rs ts a)).map V.int) (λi ys H' ⟨l,_⟩=>l.seq hS) ⟨au U _,rfl⟩ ?_ ?_⟩
 ·rintro i ys H' x H'' hi y o ⟨l,rfl⟩ ⟨rfl,hx⟩;obtain⟨t,p,C,rfl,L⟩:=zcG hL (hx _ (l.seq hS));have e0:zs.length - 1 - i=ts.length - 1 - i:=by rw[zl]
  rw[e0]at C;have hr':(negs ts).reverse[i]?=some (-t.1):=by rw[zje,List.getElem?_map,zd9 (by lia),C];rfl
  have et:(((negs ts).reverse.take (i+1)).filter λp=>decide (p∈zcU Rs ts a))=if -t.1∈zcU Rs ts a then(((negs ts).reverse.take i).filter λp=>decide (p∈zcU Rs ts a))++[-t.1] else((negs ts).reverse.take i).filter λp=>decide (p∈zcU Rs ts a):=by
   rw[zan hr',List.filter_append];by_cases e:-t.1∈zcU Rs ts a
   ·rw[if_pos e,List.filter_cons,if_pos (dTq e)];rfl
   ·rw[if_neg e,List.filter_cons,if_neg (by simp [e]),List.filter_nil,List.append_nil]
  refine⟨_,rfl,p,_,_,_,rfl,rfl,l.tup L,rfl,_,rfl,_,rfl,kd,_,rfl,zbi.k (k:=Sum.inl (-t.1)) (l _ _ k1),_,rfl,?_⟩;rw[k2];by_cases e:-t.1∈zcU Rs ts a
  ·rw[dTq e];refine zcj ⟨_,rfl,p,_,_,_,rfl,rfl,l.tup L,rfl,_,rfl,za5 (bsz _ (by lia)) hi y o ⟨l.upd U,?_⟩⟩;rw[et,if_pos e,mAq];rfl
  ·rw[dFq e];refine zck (zdx hi y o ⟨l,?_⟩);rw[et,if_neg e]
 rintro ys H1 o ⟨l,rfl⟩;rw[zl,tO (by lia)]at o;refine⟨Dl,_,rfl,.inl ⟨SqL.of o,λu Q=>?_⟩⟩;have s2:ap H1 (upd H1 u (.tup ((aX Rs ts a).map V.int))):=au Q _;have ntp0:X u=none:=(M.trans l).free Q;have N:=l.trans s2;have B:∀ p∈(aX Rs ts a).drop 1,p∈negs ts:=λp L=>List.mem_reverse.mp (List.mem_filter.mp (List.mem_of_mem_drop L)).1;have O:((aX Rs ts a).drop 1).length≤100:=by have h1:(aX Rs ts a).length≤(negs ts).reverse.length:=List.length_filter_le _ _;rw[List.length_drop];lia
 refine⟨_,rfl,_,rfl,zjx (ps:=aX Rs ts a) (SqT.of af) λH3 tq Z hq=>?_⟩;generalize hpt:(aX Rs ts a).drop 1=pt at hq B O q;refine⟨tq,rfl,⟨_,hq⟩,λDe W=>zcT zdf (λi ys H'=>ap H3 H'∧ys=((pt.take i).map (lvF ts)).map V.int) (λi ys H' ⟨v,_⟩=>v.tup hq) ⟨au W _,rfl⟩ ?_ ?_⟩
 ·rintro i ys H' x H'' hi y c ⟨v,rfl⟩ ⟨rfl,hx⟩;obtain⟨p,L,rfl⟩:=zaW (hx _ (v.tup hq));have g:=zbi.k (k:=Sum.inl p) (((N.trans Z).trans v) _ _ l1);rw[l2,if_pos (B p (mOq L))]at g;refine⟨_,rfl,_,rfl,ld,_,rfl,g,za5 (by rw[lM];exact bsz _ (by lia)) hi y c ⟨v.upd W,?_⟩⟩;rw[zan L,mAq,mAq];rfl
 rintro ys F c ⟨v,rfl⟩;rw[lM,tO (nRq _)]at c;have d:=(N.trans Z).trans v;refine⟨De,pt.map (lvF ts),0,rfl,rfl,.inl (SqL.of c),λe=>?_,λm hm R=>?_⟩
 ·refine⟨_,rfl,_,rfl,S,_,rfl,SqL.of (d _ _ hh),λb J=>?_⟩;have I:ap F (upd F b (.tup ((zbr Rs ts a).map V.int).reverse)):=au J _;refine⟨_,rfl,lS3,λt C=>?_⟩;have G:ap (upd F b (.tup ((zbr Rs ts a).map V.int).reverse)) (upd (upd F b (.tup ((zbr Rs ts a).map V.int).reverse)) t (.tup [.ref u,.ref b,.int 0])):=au C _;refine q _ t u b 0 (M.trans ((d.trans I).trans G)) ((M.trans (d.trans I)).free C) af ?_ ?_ ⟨λ_=>rfl,λz=>absurd e z⟩
  ·exact G _ _ (I _ _ (v _ _ (Z _ _ af)))
  ·rw[List.map_reverse];exact G _ _ af
 ·refine⟨_,rfl,_,rfl,S,_,rfl,SqL.of (d _ _ hh),λb J=>?_⟩;have I:ap F (upd F b (.tup ((zbr Rs ts a).map V.int).reverse)):=au J _;refine⟨_,rfl,lS3,λt C=>?_⟩;have G:ap (upd F b (.tup ((zbr Rs ts a).map V.int).reverse)) (upd (upd F b (.tup ((zbr Rs ts a).map V.int).reverse)) t (.tup [.ref u,.ref b,.int m])):=au C _;refine q _ t u b m (M.trans ((d.trans I).trans G)) ((M.trans (d.trans I)).free C) af ?_ ?_ ⟨λz=>(by rw[z]at hm;cases hm),λ_=>⟨hm,R⟩⟩
  ·exact G _ _ (I _ _ (v _ _ (Z _ _ af)))
  ·rw[List.map_reverse];exact G _ _ af
end
section
variable {P:Program} {w:World} {K:W.Frag} {mg:Str→Option Value} {base:Heap} {f fP fR:Addr} {dP' dR':FuncData}
def zgS (h0:0≤h)(a:h < (Rs.length:Int)):Rs[h.toNat]?=some (aS Rs h):=by unfold aS;rw[List.getD_eq_getElem?_getD,gG (by lia)];rfl
def atI_row (a:aq K H (Rs.map zbe) xs)(h0:0≤h)(b:h < (Rs.length:Int)):∃ q,atI xs h=some (.ref q)∧SqT K H q ((aS Rs h).map V.int):=by
 obtain⟨q,d,c⟩:=zmo a (zgS h0 b);have e:h=((h.toNat:Nat):Int):=by lia
 refine⟨q,?_,c⟩;rw[e];exact zah d
structure LnW (K:W.Frag)(Hb H:Hp)(rl tl ld kd hl:Addr)(xs zs:List V)(Rs:List (List Int))(ts:List (Int × Int))(fl:Int)(i:Nat):Prop where
 sb:ap Hb H
 k:Kst H kd (lrn Rs ts fl i).1 (100+100 * i)
 v:Lev H ld ts
 h:H hl=some (.lst ((lrn Rs ts fl i).2.map V.int))
 nk:Hb kd=none
 nv:Hb ld=none
 nh:Hb hl=none
 kv:kd≠ld
def LnW.same (W:LnW K Hb H rl tl ld kd hl xs zs Rs ts fl i)(s:ap H H'):LnW K Hb H' rl tl ld kd hl xs zs Rs ts fl i :=
 ⟨W.sb.trans s,W.k.same s,W.v.same s,s _ _ W.h,W.nk,W.nv,W.nh,W.kv⟩
def zn3 (T:Txt K mg)(a:FB P w K mg base CX0 1 "is_replaced" fR dR' ["part","why","kept","level_of","last"] (zbY K))
  {cdv:Value}{A:Around}{outer:List Env}{s:Shared}{H0:Hp}{E:XK}(hr:zax 2 (A.deeper (PyProof.Rows.envOfC "learnt" (ao s_learnt) s.heap.objs.size f cdv))) :
  ∃ t,PSs (aZ CX0 P w K mg base NLn "learnt" (ao s_learnt) f cdv A outer s H0 E).nox ((zap s_learnt).drop 4) t ∧
   ∀(D:zcW) (y H:Hp) (X Q I c L:Addr) (xs zs:List V) (Rs:List (List Int)) (ts:List (Int × Int)) (d:Int),SqL K y X xs→aq K y (Rs.map zbe) xs→SqL K y Q zs→aq K y (ts.map dP) zs→zc9 Rs ts d→ts.length≤100→(∀ r∈Rs,r.length≤100)→LnW K y H X Q I c L xs zs Rs ts d 0 →
    (∀(H':Hp) (t tp th:Addr) (m:Int),ap y H'→y t=none→H' t=some (.tup [.ref tp,.ref th,.int m])→H' tp=some (.tup ((aX Rs ts d).map V.int))→H' th=some (.tup ((zbr Rs ts d).reverse.map V.int))→zel (((aX Rs ts d).drop 1).map (lvF ts)) m→D.rt (.ref t) H') →
    t D [some (.ref X),some (.ref Q),some (.int d),some (.ref I),some (.int (cnt ts)),some (.ref c),some (.ref L),none,none,none] H:=by
 have hu:=zb5 hr;have hr1:zax 1 _:=hr.mono (by decide);obtain⟨t5,h5,q5⟩:=zn2 (P:=P) (w:=w) (base:=base) (f:=f) (outer:=outer) (H0:=H0) (E:=E) T hr;refine⟨_,(ae (zaN PassesOwn.never rfl (ziM rfl T.reversed (aa (pv 1) ac)) (zae (i:=7) zb0.nd rfl (Or.inr rfl))
   (ak (zaj (zcr (zai a.ok hr1 rfl a.m a.kp a.b .nil zak (aa (zaI zay (aW zal (pv 7) ai)) (aa (aW zal (pv 7) ai) (aa (pv 5) (aa (pv 3) (aa (pv 4) ac)))))))
     (ae (zag (zi9 (pv 5) (zaI zay (aW zal (pv 7) ai)) ⟨rfl,rfl,rfl,rfl⟩))
      (ae (zag (za2 PySem.F.plainAttrs_dict PySem.F.slot_dict_update PySem.F.type_dict_update zlJ (pv 5) (aa (zaL (zgc rfl) rfl T.dict PyProof.Rows.Boot.dict (aa (zeR (N':=["part","step"]) (ix:=[7]) rfl rfl (by decide +kernel) (by decide +kernel) rfl (λok=>zcd (sc:=ao s_learnt) ok rfl (by decide +kernel) (by decide +kernel)) (by decide +kernel) rfl rfl (λj i h=>match j,h with | 0,h=>by cases h;exact⟨_,rfl,rfl,.inl rfl,.inl rfl⟩ | n+1,h=>by simp at h) (zdK (aW zaK (pv 0) (aW zal (pv 7) ai))) (λ_ _ _ _=>(aA zd0 (pv 0) (aW (r:=zeb K) zal (pv 1) ai))) (λ_ _ _ _=>(zbz (aa (pv 0) (aa za8 ac))))) ac)) ac)))
      (ak (zag (za2 PySem.F.plainAttrs_list PySem.F.slot_list_append PySem.F.type_list_append zaA (pv 6) (aa (aW zal (pv 7) ai) ac))))))
     zac))) h5),?_⟩
 try dsimp only [Cx.nox,Cx.wish,aZ]
 rintro D y H X Q I c L xs zs Rs ts d hS hL hZ hT ok l100 r100 W0 q;have zl:zs.length=ts.length:=by rw[←hT.length,lM]
 refine⟨_,rfl,Q,zs,rfl,W0.sb.seq hZ,zba ziA (λi σ H'=>∃ v7,σ=[some (.ref X),some (.ref Q),some (.int d),some (.ref I),some (.int (cnt ts)),some (.ref c),some (.ref L),v7,none,none]∧LnW K y H' X Q I c L xs zs Rs ts d i) (λi σ H' ⟨_,_,W⟩=>W.sb.seq hZ) ⟨none,rfl,W0⟩ ?_ ?_⟩
 ·rintro i σ H' x H'' hi ⟨v7,rfl,W⟩ ⟨rfl,hx⟩;have hi':i < ts.length:=by lia
  obtain⟨t,p,ht,rfl,hp⟩:=zcG hT (hx _ (W.sb.seq hZ));rw[zl]at ht;have hr':ts.reverse[i]?=some t:=by rw[zd9 hi'];exact ht
  have es:=zdC (Rs:=Rs) (f:=d) hr';have hp1:=W.sb.tup hp;have tm:t∈ts:=mOq ht;refine⟨_,rfl,p,_,_,_,rfl,rfl,hp1,rfl,_,rfl,_,rfl,p,_,_,_,rfl,rfl,hp1,rfl,_,rfl,_,rfl,_,rfl,-t.1,t.2,cnt ts,c,I,_,_,ts,rfl,W.k,W.v,W.kv,by lia,zgp ok i,λH3 s3=>⟨_,rfl,?_⟩⟩;have O:=W.same s3;have hp3:=s3.tup hp1;cases eb:zbf ts (lrn Rs ts d i).1 (cnt ts) (-t.1) t.2 with
  | false =>
   have e2:lrn Rs ts d (i+1)=lrn Rs ts d i:=by rw[es];unfold zcy;rw[eb];rfl
   obtain⟨kvs,k1,k2,k3,k4⟩:=O.k;exact zck ⟨_,rfl,⟨O.sb,⟨kvs,k1,by rw[e2];exact k2,by lia,k4⟩,O.v,by rw[e2];exact O.h,W.nk,W.nv,W.nh,W.kv⟩⟩
  | true =>
   have e2:lrn Rs ts d (i+1)=(((lrn Rs ts d i).1.filter λm=>decide (m≠-t.1))++(aS Rs t.2).filter (λm=>decide (m≠t.1)),(lrn Rs ts d i).2++[t.2]):=by rw[es];unfold zcy;rw[eb];rfl
   have N:=eb;unfold zbf at N;rw[Bool.and_eq_true,Bool.and_eq_true]at N;have pin:-t.1∈(lrn Rs ts d i).1:=oDq N.1;have yn:t.2≠-1:=oDq N.2.1;obtain⟨y0,y1,_⟩:=ok.why t tm yn;obtain⟨kvs,k1,k2,k3,k4⟩:=O.k;obtain⟨v,hv⟩:∃ v,zam kvs (Sum.inl (-t.1))=some v:=by have:=k2 (-t.1);rw[dTq pin]at this;exact Option.isSome_iff_exists.mp this
   refine zcj ⟨_,rfl,c,rfl,.inl ⟨kvs,.inl k1⟩,_,rfl,p,_,_,_,rfl,rfl,hp3,rfl,_,rfl,kvs,Sum.inl (-t.1),v,k1,rfl,hv,?_⟩;have hK4:Kst (upd H3 c (.dK (zbs kvs (Sum.inl (-t.1))))) c _ _:=Kst.pop (p:=-t.1) k2 k3 k4;have R:zbm c H3 (upd H3 c (.dK (zbs kvs (Sum.inl (-t.1))))):=zbm.put _ _;have kt34:=R.kt k1;have B:ap y (upd H3 c (.dK (zbs kvs (Sum.inl (-t.1))))):=O.sb.upd W.nk;have v4:Lev (upd H3 c (.dK (zbs kvs (Sum.inl (-t.1))))) I ts:=by obtain⟨l,l1,l2⟩:=O.v;exact⟨l,R _ _ (Ne.symm W.kv) l1,l2⟩
   have Y:L≠c:=λe=>by rw[←e,O.h]at k1;cases k1
   have h4:(upd H3 c (.dK (zbs kvs (Sum.inl (-t.1))))) L=_:=R _ _ Y O.h;have J:=kt34.sq hp3;generalize upd H3 c (.dK (zbs kvs (Sum.inl (-t.1))))=H4 at hK4 B v4 h4 J;obtain⟨o,j1,j2,j3,j4⟩:=hK4;obtain⟨q',hq1,hq2⟩:=atI_row (aq.keep B.kt (zar _) hL) y0 y1;have U:(aS Rs t.2).length≤100:=r100 _ (mOq (zgS y0 y1));refine⟨_,rfl,.inr (.inr (.inl ⟨rfl,.inl ⟨o,j1⟩⟩)),_,rfl,_,rfl,p,_,_,_,rfl,rfl,J,rfl,X,_,_,_,rfl,rfl,B.seq hS,hq1,q',rfl,⟨_,hq2⟩,λDl hDl=>zek zdf (λj ys H'=>ap H4 H'∧aq K H' ((((aS Rs t.2).take j).filter λm=>decide (m≠t.1)).map dQT) ys) (λj ys H' ⟨C,_⟩=>C.tup hq2) ⟨au hDl _,.nil⟩ ?_ ?_⟩
   ·rintro j ys H5 x H6 hj hly M ⟨C,hy⟩ ⟨rfl,hx'⟩;obtain⟨m,hm,rfl⟩:=zaW (hx' _ (C.tup hq2));have et:(((aS Rs t.2).take (j+1)).filter λm=>decide (m≠t.1))=if m≠t.1 then(((aS Rs t.2).take j).filter λm=>decide (m≠t.1))++[m] else((aS Rs t.2).take j).filter λm=>decide (m≠t.1):=by
     rw[zan hm,List.filter_append];by_cases z:m=t.1
     ·rw[if_neg (λh=>h z),List.filter_cons,if_neg (by simp [z]),List.filter_nil,List.append_nil]
     ·rw[if_pos z,List.filter_cons,if_pos (dTq z),List.filter_nil]
    refine⟨_,rfl,_,rfl,p,_,_,_,rfl,rfl,C.tup J,rfl,rfl,_,rfl,?_⟩;by_cases z:m=t.1
    ·rw[show(!decide (V.int m=V.int t.1))=false by rw[dTq (by rw[z])];rfl];refine zck (zdx hj hly M ⟨C,?_⟩);rw[et,if_neg (λh=>h z)];exact hy
    ·rw[show(!decide (V.int m=V.int t.1))=true by rw[dFq (λz'=>z (by injection z'))];rfl];refine zcj ⟨_,rfl,lS2,λu hu'=>?_⟩;have S:ap H6 (upd H6 u (.tup [.int m,.bl true])):=au hu' _;have hD6:=S _ _ M;refine za5 (by rw[lM];exact bsz _ (by lia)) hj hly hD6 ⟨(C.trans S).upd hDl,?_⟩;rw[et,if_pos z,mAq];exact aq.append (aq.keep (S.kt.trans (aV.lst hD6)) (zgV _) hy) (aq.one (zk9 ((aV.lst hD6).sq (SqT.of af))))
   rintro ys H5 M ⟨C,hy⟩;rw[lM,tO (nRq _)]at hy;obtain⟨pl,pp⟩:=zi8 hy;generalize hpt:((aS Rs t.2).filter λm=>decide (m≠t.1))=g at pl pp hy e2;have lpt:g.length≤100:=by rw[←hpt];exact Nat.le_trans (List.length_filter_le _ _) U
   refine⟨Dl,ys,tkv g,rfl,SqL.of M,pl,pp,λb hb=>?_⟩;have S:ap H5 (upd H5 b (.dK (zaf [] (tkv g)))):=au hb _;have Z:=C _ _ j1;have nkb:c≠b:=zad Z hb;have lm:(zaf [] (tkv g)).length≤g.length:=(zha g).2;refine⟨c,b,o,zaf [] (tkv g),rfl,rfl,nkb,S _ _ Z,af,by rw[sizeLine_eq];lia,?_⟩;have G:=C.trans S;have x7:zbm c (upd H5 b (.dK (zaf [] (tkv g)))) (upd (upd H5 b (.dK (zaf [] (tkv g)))) c (.dK (zaf o (zaf [] (tkv g))))):=zbm.put _ _;have hp7:=(x7.kt (S _ _ Z)).sq (G.tup J);have h7:=x7 _ _ Y (G _ _ h4);have v7':Lev (upd (upd H5 b (.dK (zaf [] (tkv g)))) c (.dK (zaf o (zaf [] (tkv g))))) I ts:=by obtain⟨l,l1,l2⟩:=v4;exact⟨l,x7 _ _ (Ne.symm W.kv) (G _ _ l1),l2⟩
   have hl2:=zm3 Rs ts d i;refine⟨_,rfl,.inl ⟨rfl,_,SqL.of h7⟩,_,rfl,p,_,_,_,rfl,rfl,hp7,rfl,L,_,_,rfl,rfl,h7,zbu (by rw[lM];lia),?_⟩;refine⟨_,rfl,⟨((B.trans G).upd W.nk).upd W.nh,⟨zaf o (zaf [] (tkv g)),?_,λm=>?_,?_,zhn (ziX g) j4⟩,?_,?_,W.nk,W.nv,W.nh,W.kv⟩⟩
   ·rw[ag (Ne.symm Y)];exact af
   ·rw[zlL,j2,e2];show(decide (m∈_)||decide (m∈g))=decide (m∈_++g);by_cases z1:m∈(lrn Rs ts d i).1.filter λm=>decide (m≠-t.1)
    ·rw[dTq z1,dTq (List.mem_append_left _ z1)];rfl
    ·rw[dFq z1,Bool.false_or];exact decide_eq_decide.mpr ⟨λz=>List.mem_append_right _ z,λz=>(mPq z).resolve_left z1⟩
   ·have:=zlM (zaf [] (tkv g)) o;lia
   ·obtain⟨l,l1,l2⟩:=v7';refine⟨l,?_,l2⟩;rw[ag (Lev.ne ⟨l,l1,l2⟩ h7).symm];exact l1
   ·rw[e2];show _=some (HO.lst (List.map V.int (_++[t.2])));rw[mAq];exact af
 ·rintro σ H' ⟨v7,rfl,W⟩;rw[zl]at W;exact q5 D y H' Q I c L zs Rs ts d _ _ _ _ v7 W.sb (W.sb.seq hZ) (aq.keep W.sb.kt (zaV _) hT) ok l100 W.k W.v W.h q
def zn4 (T:Txt K mg)(a:FB P w K mg base CX0 1 "is_replaced" fR dR' ["part","why","kept","level_of","last"] (zbY K))
  {cdv:Value}{A:Around}{outer:List Env}{s:Shared}{H0:Hp}{E:XK}(hr:zax 2 (A.deeper (PyProof.Rows.envOfC "learnt" (ao s_learnt) s.heap.objs.size f cdv))) :
  ∃ t,PSs (aZ CX0 P w K mg base NLn "learnt" (ao s_learnt) f cdv A outer s H0 E).nox ((zap s_learnt).drop 2) t ∧
   ∀(D:zcW) (c H:Hp) (B N z:Addr) (xs zs:List V) (Rs:List (List Int)) (ts:List (Int × Int)) (b:Int),SqL K c B xs→aq K c (Rs.map zbe) xs→SqL K c N zs→aq K c (ts.map dP) zs→zc9 Rs ts b→ts.length≤100→(∀ r∈Rs,r.length≤100)→ap c H→c z=none→Lev H z ts →
    (∀(H':Hp) (t tp th:Addr) (m:Int),ap c H'→c t=none→H' t=some (.tup [.ref tp,.ref th,.int m])→H' tp=some (.tup ((aX Rs ts b).map V.int))→H' th=some (.tup ((zbr Rs ts b).reverse.map V.int))→zel (((aX Rs ts b).drop 1).map (lvF ts)) m→D.rt (.ref t) H') →
    t D [some (.ref B),some (.ref N),some (.int b),some (.ref z),some (.int (cnt ts)),none,none,none,none,none] H:=by
 obtain⟨t4,h4,q4⟩:=zn3 (f:=f) (outer:=outer) (H0:=H0) (E:=E) T a hr;refine⟨_,(ae (aF (i:=5) zb0.nd rfl (Or.inr rfl) (zaL (zgc rfl) rfl T.dict PyProof.Rows.Boot.dict (aa (zcS (N':=["part"]) (ix:=[]) rfl rfl (by decide +kernel) (by decide +kernel) rfl (λ_=>⟨[],zcv (by decide +kernel) (by decide +kernel)⟩) (by decide +kernel) rfl rfl (λj i h=>by simp at h) (zdK (aW zaK (pv 0) (pv 2))) (λ_ _ _ _=>(zbz (aa (pv 0) (aa za8 ac))))) ac)))
  (ae (aF (i:=6) zb0.nd rfl (Or.inl rfl) (zaD (aa (pv 2) ac))) h4)),?_⟩
 try dsimp only [Cx.nox,Cx.wish,aZ]
 rintro D c H B N z xs zs Rs ts b hS hL hZ hT C F k O U hv q;obtain⟨q',Z,o⟩:=atI_row (aq.keep O.kt (zar _) hL) C.f0 C.f1;have S:(aS Rs b).length≤100:=k _ (mOq (zgS C.f0 C.f1));refine⟨_,rfl,_,rfl,B,_,_,_,rfl,rfl,O.seq hS,Z,q',rfl,⟨_,o⟩,λDl J=>zcT zdf (λj ys H'=>ap H H'∧aq K H' (((aS Rs b).take j).map dQT) ys) (λj ys H' ⟨d,_⟩=>d.tup o) ⟨au J _,.nil⟩ ?_ ?_⟩
 ·rintro j ys M x L hj hly p ⟨d,Q⟩ ⟨rfl,X⟩;obtain⟨m,hm,rfl⟩:=zaW (X _ (d.tup o));refine⟨_,rfl,lS2,λu Y=>?_⟩;have y:ap L (upd L u (.tup [.int m,.bl true])):=au Y _;have v:=y _ _ p;refine za5 (by rw[lM];exact bsz _ (by lia)) hj hly v ⟨(d.trans y).upd J,?_⟩;rw[zan hm,mAq];exact aq.append (aq.keep (y.kt.trans (aV.lst v)) (zgV _) Q) (aq.one (zk9 ((aV.lst v).sq (SqT.of af))))
 rintro ys M p ⟨d,Q⟩;rw[lM,tO (nRq _)]at Q;obtain⟨pl,pp⟩:=zi8 Q;refine⟨Dl,ys,tkv (aS Rs b),rfl,SqL.of p,pl,pp,λn g=>?_⟩;have y:ap M (upd M n (.dK (zaf [] (tkv (aS Rs b))))):=au g _;have hk:Kst (upd M n (.dK (zaf [] (tkv (aS Rs b))))) n (aS Rs b) (aS Rs b).length:=Kst.of;have G:=(hv.same d).same y;have l:=(O.trans d).trans y;have W:c n=none:=(O.trans d).free g;have kv:n≠z:=λe=>by obtain⟨lvs,l1,_⟩:=hv.same d;rw[e,l1]at g;cases g
 generalize upd M n (.dK (zaf [] (tkv (aS Rs b))))=L at hk G l;refine⟨_,rfl,lS1,λhl I=>?_⟩;have R:ap L (upd L hl (.lst [.int b])):=au I _;obtain⟨kvs,k1,k2,k3,k4⟩:=hk.same R;exact q4 D c _ B N z n hl xs zs Rs ts b hS hL hZ hT C F k ⟨l.trans R,⟨kvs,k1,k2,by lia,k4⟩,G.same R,af,W,U,l.free I,kv⟩ q
def ok_learnt (F:Fun K "learnt" "learnt" s_learnt f fd)(T:Txt K mg)(a:FB P w K mg base CX0 2 "part_levels" fP dP' ["trail"] (zdE K))(d:FB P w K mg base CX0 1 "is_replaced" fR dR' ["part","why","kept","level_of","last"] (zbY K)):aI P w K mg base CX0 3 f fd ["rows","trail","fails"] (sp_learnt K):=by
 refine F.ok zb0 (λvs H Q E h=>?_) (λcdv A outer s H vs Q E M h=>?_)
 ·obtain⟨S,o,Y,xs,zs,Rs,ts,rfl,_⟩:=h;rfl
 obtain⟨S,o,Y,xs,zs,Rs,ts,rfl,hS,hL,B,C,G,n,r,q⟩:=h;have hu:=zb5 M;obtain⟨t2,h2,q2⟩:=zn4 (f:=f) (outer:=outer) (H0:=H) (E:=E) T d M;have l:zs.length=ts.length:=by rw[←C.length,lM]
 refine⟨_,(ae (aF (i:=3) zb0.nd rfl (Or.inr rfl) (zai a.ok M rfl a.m a.kp a.b .nil zak (aa (pv 1) ac)))
  (ae (aF (i:=4) zb0.nd rfl (Or.inl rfl) (zct (aA zbk (aw zaa rfl T.len bLq (aa (pv 1) ac)) ai) (zdu hu (pv 3) (zaI zay (aW zal (aW zaK (pv 1) (zaI zay ai)) ai)) (λ_ _=>rfl)) ai)) h2)),?_⟩
 try dsimp only [Cx.nox,Cx.wish,aZ]
 refine⟨_,rfl,o,zs,ts,rfl,B,C,n,G.nd,λH1 X y I v=>?_⟩;have x:=λD'=>q2 D' H H1 S o X xs zs Rs ts Y hS hL B C G n r y I v;refine⟨_,rfl,o,zs,rfl,.inl (y.seq B),_,_,rfl,rfl,_,rfl,aO (λc=>?_) (λc=>?_)⟩
 ·have Z:(0:Int) < ((zs.length:Nat):Int):=oDq c;have W:ts≠[]:=λz=>by rw[z]at l;simp at l;rw[l]at Z;simp at Z
  obtain⟨j,t,rfl⟩:∃ j t,ts=j++[t]:=⟨ts.dropLast,ts.getLast W,(List.dropLast_concat_getLast W).symm⟩;have O:=aq.keep y.kt (zaV _) C;have L:(j++[t])[j.length]?=some t:=by rw[List.getElem?_append_right (nRq _),Nat.sub_self];rfl
  rw[lAq]at l;simp only[lS]at l;obtain⟨D,z,R⟩:∃ D z,zs=D++[z]:=by
   have U:zs≠[]:=λe=>by rw[e]at l;simp at l
   exact⟨zs.dropLast,zs.getLast U,(List.dropLast_concat_getLast U).symm⟩
  have lz:D.length=j.length:=by rw[R,lAq]at l;simp only[lS]at l;lia
  have hz:zs[j.length]?=some z:=by rw[R,←lz,List.getElem?_append_right (nRq _),Nat.sub_self];rfl
  obtain⟨t',p,u,rfl,hp⟩:=zcG O hz;rw[L]at u;cases u;have N:atI zs (-1)=some (.ref p):=by rw[R];exact znf _ _
  obtain⟨lvs,l1,l2⟩:=id v;have g:=zbi.k (k:=Sum.inl (-t.1)) l1;have J:-t.1∈negs (j++[t]):=mOq (zdB L);have lv:lvF (j++[t]) (-t.1)=cnt (j++[t]):=by rw[zbT G.nd L,tO (by rw[lAq];exact nRq _)]
  rw[l2,if_pos J,lv]at g;exact⟨_,rfl,_,rfl,_,rfl,o,_,_,_,rfl,rfl,y.seq B,N,p,_,_,_,rfl,rfl,hp,rfl,_,rfl,X,_,rfl,g,x _ q⟩
 ·have e0:ts=[]:=by have h1:¬((0:Int) < ((zs.length:Nat):Int)):=λz=>c (dTq z);exact List.length_eq_zero_iff.mp (by lia)
  subst e0;exact x _ q
end
end Le95
namespace K95
open PySem L2
structure TxH (K:W.Frag)(C:Addr):Prop where
 cl:Cls K C
 n_problem:zaE K C "problem"
 n_most:zaE K C "most"
 n_known:zaE K C "known"
 n_paper:zaE K C "paper"
 n_trail:zaE K C "trail"
 n_held:zaE K C "held"
 n_looked:zaE K C "looked"
 n_begins:zaE K C "begins"
 n_watched:zaE K C "watched"
 n_watching:zaE K C "watching"
 n_order:zaE K C "order"
 n_lately:zaE K C "lately"
section
variable {A:HA} {pr:Addr} {most:Int} {lk:Nat}
def zkN:(zbg A pr most lk).lookup ("problem":Str)=some (.ref pr):=rfl
def zoa:(zbg A pr most lk).lookup ("most":Str)=some (.int most):=rfl
def zcu:(zbg A pr most lk).lookup ("known":Str)=some (.ref A.kn):=rfl
def zgX:(zbg A pr most lk).lookup ("paper":Str)=some (.ref A.pp):=rfl
def zbQ:(zbg A pr most lk).lookup ("trail":Str)=some (.ref A.tr):=rfl
def zch:(zbg A pr most lk).lookup ("held":Str)=some (.ref A.hd):=rfl
def zfZ:(zbg A pr most lk).lookup ("looked":Str)=some (.int lk):=rfl
def zf0:(zbg A pr most lk).lookup ("begins":Str)=some (.ref A.bg):=rfl
def zfu:(zbg A pr most lk).lookup ("watched":Str)=some (.ref A.wd):=rfl
def zcR:(zbg A pr most lk).lookup ("watching":Str)=some (.ref A.wg):=rfl
def zgY:(zbg A pr most lk).lookup ("order":Str)=some (.ref A.od):=rfl
def zif:(zbg A pr most lk).lookup ("lately":Str)=some (.ref A.lt):=rfl
end
abbrev zk0:Stmt:=zgw
abbrev zjJ:Stmt:=zf3
abbrev zjM:Stmt:=zf5
def zby (p:Int):Prop:=-100≤p∧p < 199900
inductive zdp (K:W.Frag)(C:Addr):Sp|m{vs H Q E9} (A:HA) (F O:Hp) (pr:Addr) (most:Int) (S:HS) (R:HC) (p y:Int):vs=[.ref A.h,.int p,.int y]→Hu K C F O H A pr most S S.hs R→zby p→S.ts.length≤1000→(∀ H' O' R',Hu K C F O' H' A pr most (S.hold p y) (S.hold p y).hs R'→zcq R R'→Q .non H')→zdp K C vs H Q E9
def znx:zab ["self","part","why"] ["self","part","why"] (ao zk0):=fsc
section
variable {P:Program} {w:World} {K:W.Frag} {mg:Str→Option Value} {base:Heap} {C f:Addr} {fd:FuncData}
def zn9 (S:HS)(p y:Int):(S.hold p y).hs=S.hs++[p]:=by show(S.ts++[(p,y)]).map Prod.fst=_;rw[mAq];rfl
def Hu.zlen (U:Hu K C F O H A pr most S hs R):R.zs.length=S.ts.length:=by rw[←U.u.tr.length,lM]
def znQ (F:Fun K "hold" "Hunt.hold" zk0 f fd)(T:TxH K C):aI P w K mg base CX0 1 f fd ["self","part","why"] (zdp K C):=by
 refine F.ok znx (λvs H Q E h=>?_) (λcdv A outer s H vs Q E n h=>?_)
 ·obtain⟨A,x,O,i,a,S,R,p,y,rfl,_⟩:=h;rfl
 obtain⟨A,x,O,i,a,S,R,p,y,rfl,U,o,z,q⟩:=h;have j:=zb5 n;refine⟨_,(ae (zag (za2 PySem.F.plainAttrs_list PySem.F.slot_list_append PySem.F.type_list_append zaA (aB (pv 0) rfl) (aa (zbz (aa (pv 1) (aa (pv 2) ac))) ac)))
  (ak (zdr j (aB (pv 0) rfl) (pv 1) za8 rfl))),?_⟩
 try dsimp only [Cx.nox,Cx.wish,aZ]
 have d:=U.at' 3 rfl rfl;refine⟨_,rfl,A.h,C,A.dx,_,_,rfl,U.ins,T.cl,T.n_trail,zbQ,.inl ⟨rfl,_,SqL.of d⟩,_,rfl,_,rfl,lS2,λl c=>?_⟩;have e:=U.newF c (.tup [.int p,.int y]);have b:=e.at' 3 rfl rfl;obtain⟨D,B,v,r⟩:=U.hold (y:=y) o c;have g:=e.setTr (ts:=S.ts++[(p,y)]) (zs:=R.zs++[.ref l]) (by rw[mAq];exact aq.append e.u.tr (aq.one (of_dP (t:=(p,y)) (SqT.of af))))
 refine⟨A.tr,_,_,rfl,rfl,b,hln (by rw[Hu.zlen U];lia),?_⟩;refine⟨_,rfl,A.h,C,A.dx,_,_,rfl,g.ins,T.cl,T.n_held,zch,_,rfl,A.hd,_,rfl,zdn.k (k:=Sum.inl p) (g.at' 4 rfl rfl) (hln U.u.hd.len),?_⟩;exact q _ _ _ (by rw[zn9];exact v) r
inductive zfd (K:W.Frag)(C:Addr):Sp|m{vs H Q E9} (A:HA) (F O:Hp) (pr:Addr) (most:Int) (S:HS) (R:HC) (r a b:Int):vs=[.ref A.h,.int r,.int a,.int b]→Hu K C F O H A pr most S S.hs R→zby r→zby a→zby b→(S.wg a).length≤199000→(S.wg b).length≤199000→(∀ H' O' R',Hu K C F O' H' A pr most (S.watch r a b) S.hs R'→R'.xs=R.xs→Q .non H')→zfd K C vs H Q E9
def zmj:zab ["self","number","one","other"] ["self","number","one","other"] (ao zjJ):=fsc
def zmC (F:Fun K "watch" "Hunt.watch" zjJ f fd)(T:TxH K C):aI P w K mg base CX0 1 f fd ["self","number","one","other"] (zfd K C):=by
 refine F.ok zmj (λvs H Q E h=>?_) (λcdv A outer s H vs Q E X h=>?_)
 ·obtain⟨A,p,O,L,d,S,R,r,a,b,rfl,_⟩:=h;rfl
 obtain⟨A,p,O,L,d,S,R,r,a,b,rfl,U,i,ha,Z,la,lb,q⟩:=h;have W:=zb5 X;refine⟨_,(ae (zdr W (aB (pv 0) rfl) (pv 1) (zbz (aa (pv 2) (aa (pv 3) ac))) rfl)
  (ae (zag (za2 PySem.F.plainAttrs_list PySem.F.slot_list_append PySem.F.type_list_append zaA (zhI (aB (pv 0) rfl) (aa (pv 2) (aa (zaD ac) ac))) (aa (pv 1) ac)))
  (ak (zag (za2 PySem.F.plainAttrs_list PySem.F.slot_list_append PySem.F.type_list_append zaA (zhI (aB (pv 0) rfl) (aa (pv 3) (aa (zaD ac) ac))) (aa (pv 1) ac)))))),?_⟩
 try dsimp only [Cx.nox,Cx.wish,aZ]
 refine⟨_,rfl,_,rfl,lS2,λl v=>?_⟩;have J:ap p (upd p l (.tup [.int a,.int b])):=au (U.t.none v).2 _;have o:=U.newF v (.tup [.int a,.int b]);have n:=(o.setWd (r:=r) (x:=a) (y:=b) i (SqT.of af)).base J;refine⟨_,rfl,A.h,C,A.dx,_,_,rfl,o.ins,T.cl,T.n_watched,zfu,_,rfl,A.wd,_,rfl,zdn.k (k:=Sum.inl r) (o.at' 6 rfl rfl) (hln U.u.wd.len),?_⟩;refine⟨_,rfl,A.h,C,A.dx,_,_,rfl,n.ins,T.cl,T.n_watching,zcR,⟨A.wg,_,rfl,n.at' 7 rfl rfl⟩,_,rfl,lS0,λe Y=>?_⟩;dsimp only [zc7];refine n.setd (c:=a) (r:=r) ha Y λN H1 B ⟨O3,R3,g,_,I⟩=>?_;refine⟨.inl ⟨rfl,_,SqL.of B⟩,_,rfl,N,_,_,rfl,rfl,B,hln (by rw[lM];show(S.wg a).length≤_;lia),?_⟩;rw[mAq]at g;refine⟨_,rfl,A.h,C,A.dx,_,_,rfl,g.ins,T.cl,T.n_watching,zcR,⟨A.wg,_,rfl,g.at' 7 rfl rfl⟩,_,rfl,lS0,λe2 j=>?_⟩;dsimp only [zc7];refine g.setd (c:=b) (r:=r) Z j λM H2 z ⟨O4,R4,D,_,G⟩=>?_;refine⟨.inl ⟨rfl,_,SqL.of z⟩,_,rfl,M,_,_,rfl,rfl,z,hln ?_,?_⟩
 ·rw[lM];show(if b=a then S.wg b++[r] else S.wg b).length≤_
  split
  ·rw[lAq];show _+1≤_;lia
  ·lia
 ·rw[mAq]at D;exact q _ _ _ D (G.trans I)
end
def zm9 (h:zco (row.take i) o hs=none)(b:row[i]?=some k)(f:k≠o)(d:-k∉hs):zco row o hs=some k:=by
 have c:i < row.length:=(gEq b).1;have e:row=row.take i++k :: row.drop (i+1):=by have:=List.take_append_drop i row;rw[List.drop_eq_getElem_cons c]at this;have a:=gG c;rw[b]at a;injection a with a;rw[←a]at this;exact this.symm
 unfold zco at h ⊢;rw[e,List.find?_append,h,List.find?_cons_of_pos]
 ·rfl
 ·simp [f,d]
def zjp {a hs:List Int}{o k:Int}{i:Nat}(h:zco (a.take i) o hs=none)(c:a[i]?=some k)(b:k=o∨-k∈hs):zco (a.take (i+1)) o hs=none:=by
 rw[zan c];unfold zco at h ⊢;rw[List.find?_append,h,List.find?_cons_of_neg]
 ·rfl
 ·rcases b with z | z <;> simp [z]
def FinQ (K:W.Frag)(C:Addr)(F:Hp)(A:HA)(d:Addr)(a:Int)(S:HS)(R:HC)(r o:Int)(Q:VK):Option Int→Prop
 | some q=>∀ H' c b,Hu K C F c H' A d a ((S.setW r o q).addG q r) S.hs b→zcq R b→Q (.bl true) H'
 | none=>∀ H' c b,Hu K C F c H' A d a S S.hs b→zcq R b→Q (.bl false) H'
inductive zgH (K:W.Frag)(C:Addr):Sp|m{vs H Q E9} (A:HA) (F O:Hp) (pr:Addr) (most:Int) (S:HS) (R:HC) (r o:Int):vs=[.ref A.h,.int r,.int o]→Hu K C F O H A pr most S S.hs R→zby r→0≤r→r < (S.rs.length:Int)→(∀ p∈aS S.rs r,zby p)→(∀ c,(S.wg c).length≤199000)→FinQ K C F A pr most S R r o Q (zco (aS S.rs r) o S.hs)→zgH K C vs H Q E9
def zi2:zab ["self","number","other","part"] ["self","number","other"] (ao zjM):=fsc
section
variable {P:Program} {w:World} {K:W.Frag} {mg:Str→Option Value} {base:Heap} {C f:Addr} {fd:FuncData}
def zmP (F:Fun K "finds" "Hunt.finds" zjM f fd)(T:TxH K C):aI P w K mg base CX0 1 f fd ["self","number","other"] (zgH K C):=by
 refine F.ok zi2 (λvs H Q E h=>?_) (λcdv A outer s H vs Q E hr h=>?_)
 ·obtain⟨A,L,O,pr,j,S,R,r,o,rfl,_⟩:=h;rfl
 obtain⟨A,L,O,pr,j,S,R,r,o,rfl,U,kr,r0,r1,X,hw,q⟩:=h;have M:=zb5 hr;refine⟨_,(ae (zaN PassesOwn.never rfl (zdK (aW zaK (aB (pv 0) rfl) (pv 1))) (zae (i:=3) zi2.nd rfl (Or.inl rfl))
   (ak (zaj (PW.pt (zhd (aA zd0 (pv 3) (pv 2)) (zgk (zcM (zdO M (zaI zay (pv 3)) (aB (pv 0) rfl))))))
     (ae (zdr M (aB (pv 0) rfl) (pv 1) (zbz (aa (pv 2) (aa (pv 3) ac))) rfl)
      (ae (zag (za2 PySem.F.plainAttrs_list PySem.F.slot_list_append PySem.F.type_list_append zaA (zhI (aB (pv 0) rfl) (aa (pv 3) (aa (zaD ac) ac))) (aa (pv 1) ac)))
      (ak (aJ za8))))
     zac)))
  (ak (aJ za8))),?_⟩
 try dsimp only [Cx.nox,Cx.wish,aZ]
 obtain⟨a,e1,p⟩:=Le95.atI_row U.u.kn r0 r1;generalize N:aS S.rs r=B at p X q;refine⟨_,rfl,A.h,C,A.dx,_,_,rfl,U.ins,T.cl,T.n_known,zcu,_,rfl,A.kn,_,_,_,rfl,rfl,SqL.of (U.at' 1 rfl rfl),e1,a,rfl,⟨_,p⟩,zba zdf (λi n H'=>∃ v:Option V,n=[some (.ref A.h),some (.int r),some (.int o),v]∧H'=H∧zco (B.take i) o S.hs=none) (λi n H' ⟨_,_,e,_⟩=>e ▸ p) ⟨none,rfl,rfl,rfl⟩ ?_ ?_⟩
 ·rintro i n H1 x H2 hi ⟨v,rfl,rfl,g⟩ ⟨rfl,hx⟩;obtain⟨k,b,rfl⟩:=zaW (hx _ p);have kk:=X k (mOq b);have Z:=zbM S.hs (-k);refine⟨_,rfl,_,rfl,rfl,_,rfl,aO (λc=>?_) (λc=>?_)⟩
  ·have G:k≠o:=λz=>by rw[z]at c;simp at c
   refine⟨_,rfl,_,rfl,_,rfl,A.h,C,A.dx,_,_,rfl,U.ins,T.cl,T.n_held,zch,A.hd,_,rfl,U.held (-k),_,rfl,aO (λd=>?_) (λd=>?_)⟩
   ·rw[Z]at d;have D:-k∉S.hs:=λz=>by rw[dTq z]at d;cases d
    have ef:=zm9 g b G D;rw[ef]at q;refine⟨_,rfl,_,rfl,lS2,λl W=>?_⟩;have sF:ap L (upd L l (.tup [.int o,.int k])):=au (U.t.none W).2 _;have J:=U.newF W (.tup [.int o,.int k]);have I:=(J.setWd (r:=r) (x:=o) (y:=k) kr (SqT.of af)).base sF;refine⟨_,rfl,A.h,C,A.dx,_,_,rfl,J.ins,T.cl,T.n_watched,zfu,_,rfl,A.wd,_,rfl,zdn.k (k:=Sum.inl r) (J.at' 6 rfl rfl) (hln U.u.wd.len),?_⟩;refine⟨_,rfl,A.h,C,A.dx,_,_,rfl,I.ins,T.cl,T.n_watching,zcR,⟨A.wg,_,rfl,I.at' 7 rfl rfl⟩,_,rfl,lS0,λe he=>?_⟩;dsimp only [zc7];refine I.setd (c:=k) (r:=r) kk he λl1 H3 Y ⟨O3,R3,U3,g3⟩=>?_;refine⟨.inl ⟨rfl,_,SqL.of Y⟩,_,rfl,l1,_,_,rfl,rfl,Y,hln (by rw[lM];have:=hw k;show(S.wg k).length≤_;lia),?_⟩;rw[mAq]at U3;exact q _ _ _ U3 g3
   ·rw[Z]at d;have D:-k∈S.hs:=Decidable.byContradiction λz=>by rw[dFq z]at d;exact d rfl
    exact⟨_,rfl,rfl,zjp g b (.inr D)⟩
  ·have G:k=o:=Decidable.byContradiction λz=>c (by simp [z]);exact⟨_,rfl,rfl,zjp g b (.inl G)⟩
 ·rintro n H' ⟨v,rfl,rfl,g⟩;rw[lM,List.take_length]at g;rw[g]at q;exact q _ _ _ U ⟨λ_ _ z=>z,rfl⟩
end
abbrev zh5:Stmt:=ze2
def zcq.trans {e R2 d:HC}(a:zcq e R2)(b:zcq R2 d):zcq e d:=⟨λc v h=>b.1 c v (a.1 c v h),b.2.trans a.2⟩
def zhv (H:Hp)(a:Addr)(o u:HO):upd (upd H a o) a u=upd H a u:=by funext b;unfold upd;split <;> rfl
def oI:Option Int→V
 | none=>.non
 | some f=>.int f
def WOk.glen (W:WOk S g k)(x:Int):(g x).length≤S.rs.length:=zbG _ (W.nd x) λr c=>by obtain⟨a,b,h,_⟩:=(W.gw r x).mp c;exact(W.is r a b h).2.2.2
def LkI.glen (a:WOk S0 S0.wg k)(I:LkI n k c S0 (S0.wg c) i st)(x:Int):(st.1.wg x).length≤S0.rs.length:=by
 by_cases e:x=c
 ·rw[e,I.wc];exact WOk.glen a c
 ·have:=WOk.glen I.w x;rw[if_neg e,I.rs]at this;exact this
structure SpL (n:Nat)(B:List (List Int))(S:HS)(c:Int):Prop where
 m:zbC n B S
 n40:n≤40
 rl:S.rs.length≤199000
 t0:∃ t0,S.ts[S.lk]?=some t0∧c=-t0.1
inductive zhx (K:W.Frag)(C:Addr):Sp|m{vs H Q E9} (A:HA) (F O:Hp) (pr:Addr) (most:Int) (S:HS) (R:HC) (c:Int) (n:Nat) (B:List (List Int)):vs=[.ref A.h,.int c]→Hu K C F O H A pr most S S.hs R→SpL n B S c→(∀ H' O' R',Hu K C F O' H' A pr most (zcC S c).1 (zcC S c).1.hs R'→Q (oI (zcC S c).2) H')→zhx K C vs H Q E9
def zb8:zab ["self","part","fails","stay","number","pair","other"] ["self","part"] (ao zh5):=fsc
section
variable {P:Program} {w:World} {K:W.Frag} {mg:Str→Option Value} {base:Heap} {C f fF fH:Addr} {fd dF dH:FuncData}
def Hu.pair (U:Hu K C F O H A pr most S hs R){r a b:Int}(h:S.wt r=some (a,b)):∃ q,zbi H A.wd (.int r) (some (.ref q))∧SqT K H q [.int a,.int b]:=by
 have d:=zbi.k (k:=Sum.inl r) (U.at' 6 rfl rfl);rw[U.u.wd.val]at d;have w:=U.u.wr r;rw[h]at w;generalize e:R.gw r=g at w d;cases w with
 | is c=>exact⟨_,d,c⟩
def zkE (F:Fun K "look_at" "Hunt.look_at" zh5 f fd)(T:TxH K C)(mF:zbh K C "finds" fF)(BF:aI P w K mg base CX0 1 fF dF ["self","number","other"] (zgH K C))(bF:az K dF ["self","number","other"] [])
  (mH:zbh K C "hold" fH)(BH:aI P w K mg base CX0 1 fH dH ["self","part","why"] (zdp K C))(bH:az K dH ["self","part","why"] []):aI P w K mg base CX0 2 f fd ["self","part"] (zhx K C):=by
 refine F.ok zb8 (λvs H Q E h=>?_) (λcdv A outer s H vs Q E hr h=>?_)
 ·obtain⟨A,F',O,pr,d,S,R,c,n,B,rfl,_⟩:=h;rfl
 obtain⟨A,F',O,pr,d,S,R,c,n,B,rfl,U,L,q⟩:=h;have hu:=zb5 hr;refine⟨_,(ae (aF (i:=2) zb8.nd rfl (Or.inl rfl) zcc)
  (ae (aF (i:=3) zb8.nd rfl (Or.inl rfl) (zaD ac))
  (ae (zaN PassesOwn.never rfl (zbE (zja hu (aB (pv 0) rfl) (pv 1) (zaD ac) ⟨rfl,rfl,rfl,rfl⟩)) (zae (i:=4) zb8.nd rfl (Or.inl rfl))
   (ae (aF (i:=5) zb8.nd rfl (Or.inl rfl) (zdu hu (aB (pv 0) rfl) (pv 4) (λ_ _=>rfl)))
    (ae (aF (i:=6) zb8.nd rfl (Or.inl rfl) (zct (aA zbd (aW zal (pv 5) ai) (pv 1)) (aW zal (pv 5) ai) (aW zal (pv 5) ai)))
    (ak (zaj (zcM (zfC hu (pv 6) (aB (pv 0) rfl)))
     (ak (zag (za2 PySem.F.plainAttrs_list PySem.F.slot_list_append PySem.F.type_list_append zaA (pv 3) (aa (pv 4) ac))))
     (ak (zaj (zei (zcr (zaZ (pv 0) T.cl mF BF hr bF .nil zak (aa (pv 4) (aa (pv 6) ac)))))
       (ae (zag (za2 PySem.F.plainAttrs_list PySem.F.slot_list_append PySem.F.type_list_append zaA (pv 3) (aa (pv 4) ac)))
        (ak (zaj (zcM (zfC hu (zaI zay (pv 6)) (aB (pv 0) rfl)))
         (ak (aF (i:=2) zb8.nd rfl (Or.inl rfl) (pv 4)))
         (ak (zag (zaZ (pv 0) T.cl mH BH hr bH .nil zak (aa (pv 6) (aa (pv 4) ac))))))))
       zac)))))))
  (ae (zdr hu (aB (pv 0) rfl) (pv 1) (pv 3) rfl)
  (ak (aJ (pv 2))))))),?_⟩
 try dsimp only [Cx.nox,Cx.wish,aZ]
 obtain⟨t0,ht0,ec⟩:=L.t0;have hc:-c∈S.hs:=by rw[ec,Int.neg_neg];exact zcD ht0
 have I:=LkI.all L.m (by have:=L.n40;lia) hc;have hrng:∀ r,0≤r→r < (S.rs.length:Int)→∀ p∈aS S.rs r,zby p:=λr h0 h1 p hp=>by have:=((L.m.b.row _ (zeF h0 h1)).2 p hp).2;have:=L.n40;unfold zby;lia
 have hkc:zby c:=by have:=L.m.b.rng t0 (mOq ht0);have:=L.n40;unfold zby;lia
 refine⟨lS0,λl hl=>?_⟩;have fl0:=(U.t.none hl).2;have U1:=U.newF hl (.lst []);have s1:ap F' (upd F' l (.lst [])):=au fl0 _;have hl1:=af (H:=F') (a:=l) (o:=.lst []);generalize upd H l (.lst [])=H1 at U1;generalize upd F' l (.lst [])=F1 at U1 s1 hl1;refine⟨_,rfl,A.h,C,A.dx,_,_,rfl,U1.ins,T.cl,T.n_watching,zcR,A.wg,rfl,.inl ⟨_,.inl (U1.at' 7 rfl rfl)⟩,_,rfl,lS0,λe he=>?_⟩;have U2:=U1.newF he (.lst []);have fe1:=(U1.t.none he).2;have s2:ap F1 (upd F1 e (.lst [])):=au fe1 _;have he2:=af (H:=F1) (a:=e) (o:=.lst []);have hl2:=s2 _ _ hl1;have nle:e≠l:=λz=>by rw[z,hl1]at fe1;cases fe1
 have s02:=s1.trans s2;generalize upd H1 e (.lst [])=H2 at U2;generalize upd F1 e (.lst [])=M at U2 s2 he2 hl2 s02;have dg:=zbi.k (k:=Sum.inl c) (U2.at' 7 rfl rfl);rw[U2.u.wg.val]at dg;obtain⟨a,ea,ha⟩:∃ a,(R.gg c).getD (.ref e)=.ref a∧(R.gg c=some (.ref a)∨(a=e∧S.wg c=[])):=by
  cases h:R.gg c with
  | none=>exact⟨e,rfl,.inr ⟨rfl,U.gg0 h⟩⟩
  | some v =>
   obtain⟨l1,rfl,_⟩:=U.gg1 h;exact⟨l1,rfl,.inl rfl⟩
 have lst:∀ {i:Nat} {Fi Oi Hi:Hp} {st:LkS} {N:HC},Hu K C Fi Oi Hi A pr d st.1 st.1.hs N→zcq R N→st.1.wg c=S.wg c→(∀ b,b≠l→Fi b=M b)→Hi a=some (.lst ((S.wg c).map V.int)):=λ{i Fi Oi Hi st N} g Y wc fi=>by
  rcases ha with ha | ⟨ha,hw⟩
  ·obtain⟨l1,e1,h1⟩:=g.gg1 (Y.1 _ _ ha);injection e1 with e1;rw[e1,h1,wc]
  ·rw[hw,ha];exact g.t.f _ _ (by rw[fi _ nle];exact he2)
 have fiN:∀(o:HO) b,b≠l→upd M l o b=M b:=λo b nb=>ag nb;refine⟨_,dg,?_⟩;rw[ea];refine⟨a,rfl,⟨_,SqL.of (lst (i:=0) (st:=(S,[],none)) U2 ⟨λ_ _ z=>z,rfl⟩ rfl λ_ _=>rfl)⟩,zba (zbD (xs:=(S.wg c).map V.int)) (λi σ H'=>∃(v4 v5 v6:Option V) (Oi:Hp) (N:HC),σ=[some (.ref A.h),some (.int c),some (oI (zbl S c i).2.2),some (.ref l),v4,v5,v6] ∧
   i≤(S.wg c).length∧Hu K C (upd M l (.lst ((zbl S c i).2.1.map V.int))) Oi H' A pr d (zbl S c i).1 (zbl S c i).1.hs N∧zcq R N)
  (λi σ H' ⟨_,_,_,_,_,_,hi,g,Y⟩=>SqL.of (lst (i:=i) g Y (I i hi).wc (fiN _))) ⟨none,none,none,O,R,rfl,Nat.zero_le _,?_,⟨λ_ _ z=>z,rfl⟩⟩ ?_ ?_⟩
 ·have e0:upd M l (.lst ((zbl S c 0).2.1.map V.int))=M:=by
   funext b;unfold upd;split
   ·rename_i z;rw[z];exact hl2.symm
   ·rfl
  rw[e0];exact U2
 ·rintro i σ H' x H'' hi ⟨v4,v5,v6,Oi,N,rfl,hi',g,Y⟩ ⟨rfl,hx⟩;have Ii:=I i hi';obtain⟨r,hr1,rfl⟩:=zaW (hx _ (SqL.of (lst (i:=i) g Y Ii.wc (fiN _))));have hi1:i+1≤(S.wg c).length:=(gEq hr1).1;have sE:=zho hr1;generalize hst:zbl S c i=st at g Ii sE;obtain⟨y,Z,fl⟩:=st;dsimp only at g;have hrc:r∈(λx=>if x=c then Z++(S.wg c).drop i else y.wg x) c:=by
   show r∈if c=c then Z++(S.wg c).drop i else y.wg c
   rw[if_pos rfl];exact List.mem_append_right _ (by have:=List.getElem?_drop (xs:=S.wg c) (i:=i) (j:=0);rw[Nat.add_zero,hr1]at this;exact mOq this)
  obtain⟨ow,oc,W,crow,r0,r1⟩:=zk7 Ii.w hrc;have Irs:y.rs=S.rs:=Ii.rs;dsimp only at ow oc W crow r1;rw[Irs]at W crow r1;have hko:zby (zaq y c r):=hrng r r0 r1 _ W;have hkr:zby r:=by have:=L.rl;unfold zby;lia
  have syl:Z.length≤199000:=by have:=WOk.glen Ii.w c;rw[if_pos rfl,Ii.rs,lAq]at this;have this:Z.length+_≤_:=this;have:=L.rl;lia
  obtain⟨a',b',wab,oab⟩:∃ a b,y.wt r=some (a,b)∧zaq y c r=if a=c then b else a:=by
   rcases ow with z | z
   ·exact⟨_,_,z,(if_pos rfl).symm⟩
   ·exact⟨_,_,z,(if_neg oc).symm⟩
  obtain⟨pq,dq,hq⟩:=Hu.pair g wab;have at0:atI [V.int a',V.int b'] 0=some (.int a'):=zah (j:=0) rfl;have at1:atI [V.int a',V.int b'] 1=some (.int b'):=zah (j:=1) rfl;have stay:∀ {Fx Ox Hx:Hp} {Sx:HS} {hx:List Int} {Rx:HC},Hu K C (upd M l (.lst (Z.map V.int))) Ox Hx A pr d Sx hx Rx→Hx l=some (.lst (Z.map V.int))∧Hu K C (upd M l (.lst ((Z++[r]).map V.int))) Ox (upd Hx l (.lst (Z.map V.int++[.int r]))) A pr d Sx hx Rx:=λ{Fx Ox Hx Sx hx Rx} Ux=>by have h1:=Ux.frmL (u:=.lst (Z.map V.int++[.int r])) af;rw[zhv]at h1;refine⟨Ux.t.f _ _ af,?_⟩;rw[mAq];exact h1
  refine⟨_,rfl,A.h,C,A.dx,_,_,rfl,g.ins,T.cl,T.n_watched,zfu,_,rfl,A.wd,_,rfl,dq,?_⟩;refine⟨_,rfl,pq,_,_,_,rfl,rfl,hq,at0,_,rfl,rfl,_,rfl,?_⟩;have o1:a'=c→b'=zaq y c r:=λz=>by rw[oab,if_pos z]
  have o2:a'≠c→a'=zaq y c r:=λz=>by rw[oab,if_neg z]
  refine(λk=>aO (λJ=>⟨_,rfl,pq,_,_,_,rfl,rfl,hq,at1,by rw[o1 (by have:=oDq J;injection this)];exact k⟩) (λJ=>⟨_,rfl,pq,_,_,_,rfl,rfl,hq,at0,by rw[o2 (λz=>J (dTq (by rw[z])))];exact k⟩)) ?_;have D:=sE;unfold L2.stepK at D;dsimp only at D;generalize zaq y c r=o at *;have fin:∀(st:LkS),zbl S c (i+1)=st→∀(v4 v5 v6:Option V) Ox Rx Hx,Hu K C (upd M l (.lst (st.2.1.map V.int))) Ox Hx A pr d st.1 st.1.hs Rx→zcq R Rx →
    ∃(w4 w5 w6:Option V) (Oi:Hp) (N:HC),[some (.ref A.h),some (.int c),some (oI st.2.2),some (.ref l),v4,v5,v6]=[some (.ref A.h),some (.int c),some (oI (zbl S c (i+1)).2.2),some (.ref l),w4,w5,w6] ∧
     i+1≤(S.wg c).length∧Hu K C (upd M l (.lst ((zbl S c (i+1)).2.1.map V.int))) Oi Hx A pr d (zbl S c (i+1)).1 (zbl S c (i+1)).1.hs N∧zcq R N:=λst e v4 v5 v6 Ox Rx Hx h1 h2=>by subst e;exact⟨v4,v5,v6,Ox,Rx,rfl,hi1,h1,h2⟩
  have g1:=zbM y.hs o;have g2:=zbM y.hs (-o);refine⟨_,rfl,_,rfl,A.h,C,A.dx,_,_,rfl,g.ins,T.cl,T.n_held,zch,A.hd,_,rfl,g.held o,_,rfl,aO (λJ=>?_) (λJ=>?_)⟩
  ·rw[g1]at J;have J:=oDq J;rw[if_pos J]at D;obtain⟨X,U3⟩:=stay (Fx:=M) g;refine⟨_,rfl,.inl ⟨rfl,_,SqL.of X⟩,_,rfl,l,_,_,rfl,rfl,X,hln (by rw[lM];lia),?_⟩;exact fin _ D _ _ _ _ _ _ U3 Y
  ·rw[g1]at J;have J:o∉y.hs:=λz=>J (dTq z);rw[if_neg J]at D;refine⟨_,rfl,A.h,A.dx,_,rfl,g.ins,rfl,_,rfl,_,rfl,A,_,Oi,pr,d,y,N,r,o,rfl,g,hkr,r0,(by rw[Irs];exact r1),(by rw[Irs];exact hrng r r0 r1),(λx=>Nat.le_trans (LkI.glen L.m.w Ii x) L.rl),?_⟩;cases hf:zco (aS y.rs r) o y.hs with
   | some qq =>
    rw[hf]at D;intro H3 O3 R3 U3 g3;refine⟨_,rfl,aO (λG=>absurd G (by decide)) (λ_=>?_)⟩;exact fin _ D _ _ _ _ _ _ U3 (zcq.trans Y g3)
   | none =>
    rw[hf]at D;dsimp only at D;intro H3 O3 R3 U3 g3;refine⟨_,rfl,aO (λ_=>?_) (λG=>absurd (show(!false)=true from rfl) G)⟩;obtain⟨X,U4⟩:=stay (Fx:=M) U3;refine⟨_,rfl,.inl ⟨rfl,_,SqL.of X⟩,_,rfl,l,_,_,rfl,rfl,X,hln (by rw[lM];lia),?_⟩;refine⟨_,rfl,_,rfl,_,rfl,A.h,C,A.dx,_,_,rfl,U4.ins,T.cl,T.n_held,zch,A.hd,_,rfl,U4.held (-o),_,rfl,aO (λG=>?_) (λG=>?_)⟩
    ·rw[g2]at G;have G:=oDq G;rw[if_pos G]at D;refine⟨_,rfl,?_⟩;exact fin _ D _ _ _ _ _ _ U4 (zcq.trans Y g3)
    ·rw[g2]at G;have G:-o∉y.hs:=λz=>G (dTq z);rw[if_neg G]at D;refine⟨_,rfl,A.h,A.dx,_,rfl,U4.ins,rfl,_,rfl,_,rfl,A,_,O3,pr,d,y,R3,o,r,rfl,U4,hko,?_,λH5 O5 R5 U5 g5=>?_⟩
     ·have:=Ii.tok.len;show y.ts.length≤1000;have this:y.ts.length≤61:=this;lia
     ·exact fin _ D _ _ _ _ _ _ U5 (zcq.trans (zcq.trans Y g3) g5)
 ·rintro σ H' ⟨v4,v5,v6,Oi,N,rfl,hi',g,Y⟩;rw[lM]at g hi';have sF:ap F' (upd M l (.lst ((zbl S c (S.wg c).length).2.1.map V.int))):=λb o h=>by rw[ag (λz=>by rw[z,fl0]at h;cases h)];exact s02 b o h
  obtain⟨O3,R3,U3,_,_⟩:=g.give hkc af fl0 sF;refine⟨_,rfl,_,rfl,A.h,C,A.dx,_,_,rfl,g.ins,T.cl,T.n_watching,zcR,_,rfl,A.wg,_,rfl,zdn.k (k:=Sum.inl c) (g.at' 7 rfl rfl) (hln g.u.wg.len),?_⟩;refine⟨_,rfl,?_⟩;rw[lM];exact q _ _ _ U3
end
abbrev zkm:Stmt:=zhl
def zgn:PE X e (λ_ _ _=>False):=λ_ _ _ _ _ _ h=>h.elim
def znB:PT X e (λ_ _ _=>False):=λ_ _ _ _ _ _ h=>h.elim
def zcZ:PSs X st (λ_ _ _=>False):=λ_ _ _ _ _ _ h=>h.elim
structure TxB (K:W.Frag)(mg:Str→Option Value)(CL:Addr):Prop where
 len:mg "len"=none
 reversed:mg "reversed"=none
 abs:mg "abs"=none
 enumerate:mg "enumerate"=none
 sorted:mg "sorted"=none
 tuple:mg "tuple"=none
 list:mg "list"=none
 range:mg "range"=none
 blong:mg "TooLong"=some (.ref CL)
 xlong:W.excIn K CL bmV "ValueError.__new__"=true
def zgA (ts:List (Int × Int))(ps:List Int):List Int:=(negs ts).reverse.filter λp=>decide (p∈ps)
structure SpP (K:W.Frag)(H:Hp)(S:HS)(ln tp:Addr)(l:Dt)(ps:List Int):Prop where
 has:Has K H l (.ref ln)
 nl:nol l=true
 sq:∃ x0 x2,SqT K H ln [x0,.ref tp,x2]
 tp:SqT K H tp (ps.map V.int)
 pl:S.pp.length≤199000
 rl:S.rs.length≤198000
 tl:S.ts.length≤100
 tr:∀ t∈S.ts,-60≤t.1∧t.1≤60
 nd:(negs S.ts).Nodup
 gl:∀ c,(S.wg c).length≤198000
inductive ziD (K:W.Frag)(C CL:Addr):Sp|m{vs H Q E} (A:HA) (F O:Hp) (pr:Addr) (most:Int) (S:HS) (R:HC) (ln tp:Addr) (l:Dt) (ps:List Int):vs=[.ref A.h,.ref ln]→Hu K C F O H A pr most S S.hs R→SpP K H S ln tp l ps→(most≤(S.pp.length:Int)→E (.ref CL) none H)→((S.pp.length:Int) < most→∀ H' O' R',Hu K C F O' H' A pr most (S.put l ps (zgA S.ts ps)) S.hs R'→Q (.int (S.rs.length:Int)) H')→ziD K C CL vs H Q E
def zkZ:zab ["self","line","latest"] ["self","line"] (ao zkm):=fsc
section
variable {P:Program} {w:World} {K:W.Frag} {mg:Str→Option Value} {base:Heap} {C CL f fW:Addr} {fd dW:FuncData}
def zb7 (k:Int):∀ ps:List Int,inV (.int k) (ps.map V.int)=decide (k∈ps)
 | []=>by simp [inV]
 | p :: ps=>by
  have a:=zb7 k ps;unfold inV at a ⊢;rw[List.map_cons,List.any_cons,a];by_cases h:k=p
  ·subst h;simp [eqV]
  ·have:¬p=k:=λz=>h z.symm;simp [eqV,h,this]
def zjb:∀(b bs:List Dt),zaP (b++bs)=(zaP b&&zaP bs)
 | [],bs=>by simp only[List.nil_append,zaP,Bool.true_and]
 | a :: b,bs=>by simp only[List.cons_append,zaP,zjb b bs,Bool.and_assoc]
def ok_put (F:Fun K "put" "Hunt.put" zkm f fd)(T:TxH K C)(X:TxB K mg CL)(mW:zbh K C "watch" fW)(BW:aI P w K mg base CX0 1 fW dW ["self","number","one","other"] (zfd K C))(bW:az K dW ["self","number","one","other"] []):aI P w K mg base (CX1 P w) 2 f fd ["self","line"] (ziD K C CL):=by
 refine Fun.okX F zkZ (λvs H Q E h=>?_) (λcdv A outer s H vs Q E hr h=>?_)
 ·obtain⟨A,F',O,pr,g,S,R,Y,N,l,ps,rfl,_⟩:=h;rfl
 obtain⟨A,F',O,pr,g,S,R,Y,N,l,ps,rfl,U,L,qE,qQ⟩:=h;have hu:=hu64 hr;refine⟨_,(ae (zaj (aA zkt (aw zaa rfl X.len bLq (aa (aB (pv 0) rfl) ac)) (aB (pv 0) rfl))
   (ak (zbA (C:=CL) xe1 rfl rfl X.blong PySem.F.excBase_ValueError X.xlong (aa zaU ac)))
   zac)
  (ae (zag (za2 PySem.F.plainAttrs_list PySem.F.slot_list_append PySem.F.type_list_append zaA (aB (pv 0) rfl) (aa (pv 1) ac)))
  (ae (zag (za2 PySem.F.plainAttrs_list PySem.F.slot_list_append PySem.F.type_list_append zaA (aB (pv 0) rfl) (aa (aW zal (pv 1) ai) ac)))
  (ae (zls (i:=2) (N':=["step","line"]) (ix:=[1]) zkZ.nd rfl (Or.inl rfl) rfl rfl (by decide +kernel) (by decide +kernel) rfl (λok=>zcd (sc:=ao zkm) ok rfl (by decide +kernel) (by decide +kernel)) (by decide +kernel) rfl rfl (λj i h=>match j,h with | 0,h=>by cases h;exact⟨_,rfl,rfl,.inl rfl,.inl rfl⟩ | n+1,h=>by simp at h) (ziM rfl X.reversed (aa (aB (pv 0) rfl) ac)) (λ_ _ _ _=>(aA (r:=rIn K false) zdP (zaI zay (aW (r:=zeb K) zal (pv 0) ai)) (aW (r:=zeb K) zal (pv 1) ai) rfl)) (λ_ _ _ _=>(zaI zay (aW (r:=zeb K) zal (pv 0) ai))))
  (ae (zaj (aA zbk (aw zaa rfl X.len bLq (aa (pv 2) ac)) ai)
   (ak (zag (zaZ (pv 0) T.cl mW BW hr bW .nil zak (aa (aU zdg (aw zaa rfl X.len bLq (aa (aB (pv 0) rfl) ac)) ai) (aa (aW zaK (pv 2) ai) (aa (aW zaK (pv 2) ai) ac))))))
   zac)
  (ak (aJ (aU zdg (aw zaa rfl X.len bLq (aa (aB (pv 0) rfl) ac)) ai)))))))),?_⟩
 try dsimp only [Cx.nox,Cx.wish,aZ]
 have yl:R.ys.length=S.pp.length:=by rw[←U.u.pp.length]
 have xl:R.xs.length=S.rs.length:=by rw[←U.u.kn.length,lM]
 obtain⟨x0,x2,sq⟩:=L.sq;refine⟨_,rfl,A.h,C,A.dx,_,_,rfl,U.ins,T.cl,T.n_paper,zgX,A.pp,_,rfl,.inl (SqL.of (U.at' 2 rfl rfl)),_,rfl,A.h,C,A.dx,_,_,rfl,U.ins,T.cl,T.n_most,zoa,_,_,rfl,rfl,_,rfl,aO (λc=>?_) (λc=>?_)⟩
 ·have k:g≤((R.ys.length:Nat):Int):=oDq c;rw[yl]at k;exact⟨(by show 1≤sizeLine;decide),qE k⟩
 have k:¬g≤((R.ys.length:Nat):Int):=λz=>c (dTq z);rw[yl]at k;have qQ:=qQ (by lia);have W:=U.setPp (pp:=S.pp++[l]) (ys:=R.ys++[.ref Y]) (aq.append U.u.pp (aq.one L.has)) (by rw[zjb,U.u.pn];simp only[zaP,L.nl,Bool.and_self]);refine⟨_,rfl,A.h,C,A.dx,_,_,rfl,U.ins,T.cl,T.n_paper,zgX,.inl ⟨rfl,_,SqL.of (U.at' 2 rfl rfl)⟩,_,rfl,A.pp,_,_,rfl,rfl,U.at' 2 rfl rfl,hln (by rw[yl];have:=L.pl;lia),?_⟩;have k1:aV H (upd H A.pp (.lst (R.ys++[.ref Y]))):=aV.oth (U.at' 2 rfl rfl) zaG.1 zaG.2;have G:=k1.sq sq;have D:=k1.sq L.tp;generalize upd H A.pp (.lst (R.ys++[.ref Y]))=H1 at W G D;clear k1;have at1:atI [x0,V.ref N,x2] 1=some (.ref N):=zah (j:=1) rfl;refine⟨_,rfl,A.h,C,A.dx,_,_,rfl,W.ins,T.cl,T.n_known,zcu,.inl ⟨rfl,_,SqL.of (W.at' 1 rfl rfl)⟩,_,rfl,Y,_,_,_,rfl,rfl,G,at1,A.kn,_,_,rfl,rfl,W.at' 1 rfl rfl,hln (by rw[xl];have:=L.rl;lia),?_⟩;have U2:=W.setKn (rs:=S.rs++[ps]) (xs:=R.xs++[.ref N]) (by rw[mAq];exact aq.append W.u.kn (aq.one (zeY D)));have k2:aV H1 (upd H1 A.kn (.lst (R.xs++[.ref N]))):=aV.oth (W.at' 1 rfl rfl) zaG.1 zaG.2;have sq2:=k2.sq G;have tp2:=k2.sq D;generalize upd H1 A.kn (.lst (R.xs++[.ref N]))=H2 at U2 sq2 tp2;clear k2 G D W;have hS:SqL K H2 A.tr R.zs:=SqL.of (U2.at' 3 rfl rfl);have hL:aq K H2 (S.ts.map dP) R.zs:=U2.u.tr;have zl:R.zs.length=S.ts.length:=Hu.zlen U;have np:(negs S.ts).reverse.length=S.ts.length:=by rw[List.length_reverse,zbP]
 have tl:=L.tl;refine⟨_,rfl,A.h,C,A.dx,_,_,rfl,U2.ins,T.cl,T.n_trail,zbQ,A.tr,R.zs,rfl,hS,λDl J=>zek ziA (λi ys H'=>ap H2 H'∧ys=(((negs S.ts).reverse.take i).filter λp=>decide (p∈ps)).map V.int) (λi ys H' ⟨v,_⟩=>v.seq hS) ⟨au J _,rfl⟩ ?_ ?_⟩
 ·rintro i ys H' x H'' hi hly o ⟨v,rfl⟩ ⟨rfl,hx⟩;obtain⟨t,p,ht,rfl,hp⟩:=zcG hL (hx _ (v.seq hS));have e0:R.zs.length - 1 - i=S.ts.length - 1 - i:=by rw[zl]
  rw[e0]at ht;have hr':(negs S.ts).reverse[i]?=some (-t.1):=by rw[zje,List.getElem?_map,zd9 (by lia),ht];rfl
  have et:(((negs S.ts).reverse.take (i+1)).filter λp=>decide (p∈ps))=if -t.1∈ps then(((negs S.ts).reverse.take i).filter λp=>decide (p∈ps))++[-t.1] else((negs S.ts).reverse.take i).filter λp=>decide (p∈ps):=by
   rw[zan hr',List.filter_append];by_cases e:-t.1∈ps
   ·rw[if_pos e,List.filter_cons,if_pos (dTq e)];rfl
   ·rw[if_neg e,List.filter_cons,if_neg (by simp [e]),List.filter_nil,List.append_nil]
  refine⟨_,rfl,p,_,_,_,rfl,rfl,v.tup hp,rfl,_,rfl,_,rfl,Y,_,_,_,rfl,rfl,v.tup sq2,at1,N,_,rfl,.inr (v.tup tp2),rfl,zc6 _,_,rfl,?_⟩;rw[if_neg (by decide:¬false=true),zb7];by_cases e:-t.1∈ps
  ·rw[dTq e];refine zcj ⟨_,rfl,p,_,_,_,rfl,rfl,v.tup hp,rfl,_,rfl,za5 (bsz _ (by lia)) hi hly o ⟨v.upd J,?_⟩⟩;rw[et,if_pos e,mAq];rfl
  ·rw[dFq e];refine zck (zdx hi hly o ⟨v,?_⟩);rw[et,if_neg e]
 rintro ys H3 o ⟨v,rfl⟩;rw[zl,tO (by lia)]at o;have eLat:((negs S.ts).reverse.filter λp=>decide (p∈ps))=zgA S.ts ps:=rfl;rw[eLat]at o;have M:=U2.more v J o;have sF:ap F' (upd F' Dl (.lst ((zgA S.ts ps).map V.int))):=au (U2.t.none J).2 _;have B:∀ a∈zgA S.ts ps,zby a:=λa ha=>by have:=(List.mem_filter.mp ha).1;obtain⟨i,t,ht,e⟩:=zeZ (List.mem_reverse.mp this);have:=L.tr t (mOq ht);unfold zby;lia
 have kr:zby ((S.rs.length:Nat):Int):=by have:=L.rl;unfold zby;lia
 have d:∀ H' O' R',Hu K C F' O' H' A pr g (S.put l ps (zgA S.ts ps)) S.hs R'→Q (.int (((R'.xs.length:Nat):Int) - 1)) H':=λH' O' R' U'=>by
  have e:R'.xs.length=S.rs.length+1:=by rw[←U'.u.kn.length,lM];show(S.rs++[ps]).length=_;rw[lAq];rfl
  rw[e,show((S.rs.length+1:Nat):Int) - 1=(S.rs.length:Int) by lia];exact qQ H' O' R' U'
 have Z:=SqL.of (K:=K) (M.t.f _ _ af);generalize zgA S.ts ps=I at M sF B d Z o;refine⟨_,rfl,Dl,_,rfl,.inl Z,_,_,rfl,rfl,_,rfl,aO (λc=>?_) (λc=>?_)⟩
 ·have k:(1:Int) < (((I.map V.int).length:Nat):Int):=oDq c;rw[lM]at k
  match I,M,sF,B,d,Z,k with
  | a :: b :: y,M,sF,B,d,Z,_ =>
   have a0:atI ((a :: b :: y).map V.int) 0=some (.int a):=zah (j:=0) rfl;have a1:atI ((a :: b :: y).map V.int) 1=some (.int b):=zah (j:=1) rfl;have xe:R.xs.length+1=S.rs.length+1:=by rw[xl]
   have gl:∀ c,(S.wg c).length≤199000:=λc=>Nat.le_trans (L.gl c) (by decide);have nE:(((R.xs++[V.ref N]).length:Nat):Int) - 1=((S.rs.length:Nat):Int):=by rw[lAq,xl];show((S.rs.length+1:Nat):Int) - 1=_;lia
   refine⟨_,rfl,A.h,A.dx,_,rfl,M.ins,rfl,_,rfl,A.h,C,A.dx,_,_,rfl,M.ins,T.cl,T.n_known,zcu,A.kn,_,rfl,.inl (SqL.of (M.at' 1 rfl rfl)),_,_,rfl,rfl,_,rfl,Dl,_,_,_,rfl,rfl,Z,a0,_,rfl,Dl,_,_,_,rfl,rfl,Z,a1,A,_,_,pr,g,_,_,((S.rs.length:Nat):Int),a,b,?_,M,kr,B a (by simp),B b (by simp),gl a,gl b,λH4 O4 R4 U4 _=>?_⟩
   ·exact congrArg (λz=>[V.ref A.h,.int z,.int a,.int b]) nE
   ·have q:=U4.base sF;exact⟨_,rfl,A.h,C,A.dx,_,_,rfl,q.ins,T.cl,T.n_known,zcu,A.kn,_,rfl,.inl (SqL.of (q.at' 1 rfl rfl)),_,_,rfl,rfl,d _ _ _ q⟩
  | [a],_,_,_,_,_,k=>exact absurd k (by simp)
  | [],_,_,_,_,_,k=>exact absurd k (by decide)
 ·have k:¬(1:Int) < (((I.map V.int).length:Nat):Int):=λz=>c (dTq z);rw[lM]at k;have q:=M.base sF
  match I,q,d,k with
  | a :: b :: y,_,_,k=>exact absurd (by simp only[List.length_cons];lia) k
  | [a],q,d,_=>exact⟨_,rfl,A.h,C,A.dx,_,_,rfl,q.ins,T.cl,T.n_known,zcu,A.kn,_,rfl,.inl (SqL.of (q.at' 1 rfl rfl)),_,_,rfl,rfl,d _ _ _ q⟩
  | [],q,d,_=>exact⟨_,rfl,A.h,C,A.dx,_,_,rfl,q.ins,T.cl,T.n_known,zcu,A.kn,_,rfl,.inl (SqL.of (q.at' 1 rfl rfl)),_,_,rfl,rfl,d _ _ _ q⟩
end
abbrev s_cut:Stmt:=zhm
def sIx_nat (h:j≤n):HT.sIx n d (some (j:Int))=j:=by
 unfold HT.sIx;simp only
 repeat' split
 all_goals lia
def zhh {xs:List V}{j:Nat}(h:j≤xs.length):zcp xs none (some (j:Int))=xs.take j:=by unfold zcp;rw[sIx_nat h];rfl
def cut_of {xs:List V}{j:Nat}(h:j≤xs.length):zcp xs (some (j:Int)) none=xs.drop j:=by unfold zcp;rw[sIx_nat h];exact tO (by rw[List.length_drop];exact nRq _)
def zkP (h:∀ x,x∈hs↔x=p∨x∈hs')(n:p∉hs'):(λx=>if x=p then none else zdd hs x)=zdd hs':=by
 funext x;unfold zdd;by_cases e:x=p
 ·rw[if_pos e,if_neg (e ▸ n)]
 ·rw[if_neg e];by_cases c:x∈hs'
  ·rw[if_pos c,if_pos ((h x).mpr (.inr c))]
  ·rw[if_neg c,if_neg (λz=>((h x).mp z).elim e c)]
def zig:∀ {a:List Dt} {vs:List V} (n:Nat),aq K H a vs→aq K H (a.take n) (vs.take n)
 | _,_,0,_=>aq.nil
 | [],vs,n+1,h=>by simp only[aq]at h;subst h;exact aq.nil
 | d :: a,vs,n+1,h=>by simp only[aq]at h;obtain⟨v,r,rfl,c,b⟩:=h;exact .cons c (zig n b)
def zef (la:Int→Option Int):Prop:=∀ a x,la a=some x→x=a∨x=-a
def zef.put (h:zef la)(p:Int):zef λz=>if z=(if p < 0 then -p else p) then some p else la z:=λa x e=>by
 have e:(if a=(if p < 0 then -p else p) then some p else la a)=some x:=e
 by_cases c:a=(if p < 0 then -p else p)
 ·rw[if_pos c]at e;injection e with e;rw[←e,c];split <;> lia
 ·rw[if_neg c]at e;exact h a x e
structure SpC (S:HS)(m:Int):Prop where
 tok:TOk S.rs S.ts
 bs:S.bs=bsF 0 S.ts
 m0:0≤m
 la:zef S.la
inductive zhb (K:W.Frag)(C:Addr):Sp|m{vs H Q E9} (A:HA) (F O:Hp) (pr:Addr) (most:Int) (S:HS) (R:HC) (m:Int):vs=[.ref A.h,.int m]→Hu K C F O H A pr most S S.hs R→SpC S m→(∀ A' H' O' R' j la,zde S.ts m j→zef la→A'.h=A.h→Hu K C F O' H' A' pr most (S.cut j la) (S.cut j la).hs R'→Q .non H')→zhb K C vs H Q E9
def ziI:zab ["self","level","begin","step"] ["self","level"] (ao s_cut):=fsc
section
variable {P:Program} {w:World} {K:W.Frag} {mg:Str→Option Value} {base:Heap} {C CL f:Addr} {fd:FuncData}
def ok_cut (F:Fun K "cut" "Hunt.cut" s_cut f fd)(T:TxH K C)(TB:TxB K mg CL):aI P w K mg base CX0 1 f fd ["self","level"] (zhb K C):=by
 refine F.ok ziI (λvs H Q E h=>?_) (λcdv A outer s H vs Q E hr h=>?_)
 ·obtain⟨A,W,O,pr,B,S,R,m,rfl,_⟩:=h;rfl
 obtain⟨A,W,O,pr,B,S,R,m,rfl,U,L,q⟩:=h;have hu:=zb5 hr;refine⟨_,(ae (zep PassesOwn.never (aA zbk (aw zaa rfl TB.len bLq (aa (aB (pv 0) rfl) ac)) (pv 1))
   (ae (aF (i:=2) ziI.nd rfl (Or.inl rfl) (pe_bm0 PySem.F.plainAttrs_list PySem.F.slot_list_pop PySem.F.type_list_pop mt_pop (aB (pv 0) rfl)))
    (ae (zaN PassesOwn.never rfl (zbE (zc0 zeX (aB (pv 0) rfl) (zds (pv 2)) zdt)) (zae (i:=3) ziI.nd rfl (Or.inl rfl))
     (ae (zag (zi9 (aB (pv 0) rfl) (aW zal (pv 3) ai) ⟨rfl,rfl,rfl,rfl⟩))
      (ak (zdr hu (aB (pv 0) rfl) (aw zdD rfl TB.abs PyProof.Rows.Boot.abs (aa (aW zal (pv 3) ai) ac)) (aW zal (pv 3) ai) rfl))))
    (ak (zaY (pv 0) (zc0 zeX (aB (pv 0) rfl) zdt (zds (pv 2))) rfl)))))
  (ak (zaY (pv 0) (aw zaa rfl TB.len bLq (aa (aB (pv 0) rfl) ac)) rfl))),?_⟩
 try dsimp only [Cx.nox,Cx.wish,aZ]
 have tl:=L.tok.len;refine⟨λk X H'=>∃(v2 J:Option V) (A':HA) (O':Hp) (g:HC) (j:Nat) (la:Int→Option Int),X=[some (.ref A.h),some (.int m),v2,J]∧k=(bsF 0 (S.ts.take j)).length∧A'.h=A.h∧j≤S.ts.length∧(j < S.ts.length→m < cnt (S.ts.take (j+1)))∧zef la ∧
   Hu K C W O' H' A' pr B { S with ts:=S.ts.take j,bs:=bsF 0 (S.ts.take j),la:=la } ((S.ts.take j).map Prod.fst) g,
  ⟨_,none,none,A,O,R,S.ts.length,S.la,rfl,rfl,rfl,nRq _,λz=>absurd z (Nat.lt_irrefl _),L.la,?_⟩,?_⟩
 ·rw[List.take_length,←L.bs];exact U
 rintro k X H1 ⟨v2,J,A',O',g,j,la,rfl,ek,I,jl,hj,D,U1⟩;have hbg:=U1.at' 5 rfl rfl;have i1:=U1.ins;rw[I]at i1;refine⟨_,rfl,A.h,C,A'.dx,_,_,rfl,i1,T.cl,T.n_begins,zf0,A'.bg,_,rfl,.inl (SqL.of hbg),_,rfl,_,_,rfl,rfl,_,rfl,aO (λc=>?_) (λc=>?_)⟩
 ·have c1:m < ((((bsF 0 (S.ts.take j)).map V.int).length:Nat):Int):=oDq c;rw[lM,zgt]at c1;have ne:bsF 0 (S.ts.take j)≠[]:=λz=>by have h1:=zgt (S.ts.take j);rw[z]at h1;have h1:(0:Int)=_:=h1;have:=L.m0;lia
  obtain⟨i,t,ht,t1,eb,ec⟩:=zne _ ne;have it:=zea ht;have tt:(S.ts.take j).take i=S.ts.take i:=by rw[List.take_take,Nat.min_eq_left (by lia)]
  rw[tt]at eb ec;refine⟨λσ' H'=>∃ m',m' < k∧∃(v2 J:Option V) (A':HA) (O':Hp) (g:HC) (j:Nat) (la:Int→Option Int),σ'=[some (.ref A.h),some (.int m),v2,J]∧m'=(bsF 0 (S.ts.take j)).length∧A'.h=A.h∧j≤S.ts.length∧(j < S.ts.length→m < cnt (S.ts.take (j+1)))∧zef la ∧
   Hu K C W O' H' A' pr B { S with ts:=S.ts.take j,bs:=bsF 0 (S.ts.take j),la:=la } ((S.ts.take j).map Prod.fst) g,λ_ _ z=>z,?_⟩
  have jl2:(S.ts.take j).length=j:=by rw[List.length_take];lia
  have U2:=U1.setBg (bsF 0 (S.ts.take i));generalize upd O' A'.bg (.lst ((bsF 0 (S.ts.take i)).map V.int))=O2 at U2;have dl:((bsF 0 (S.ts.take j)).map V.int).dropLast=(bsF 0 (S.ts.take i)).map V.int:=by rw[eb,mAq];exact List.dropLast_concat
  have Y:((bsF 0 (S.ts.take j)).map V.int)[((bsF 0 (S.ts.take j)).map V.int).length - 1]?=some (.int (i:Int)):=by rw[eb,mAq];simp
  refine⟨_,rfl,A.h,C,A'.dx,_,_,rfl,i1,T.cl,T.n_begins,zf0,.inl ⟨rfl,_,SqL.of hbg⟩,A'.bg,_,_,rfl,rfl,hbg,Y,?_⟩;show(_:Prop);rw[dl];generalize upd H1 A'.bg (.lst ((bsF 0 (S.ts.take i)).map V.int))=H2 at U2;have i2:=U2.ins;rw[I]at i2;have zl:g.zs.length=j:=by rw[Hu.zlen U1];exact jl2
  have htr:=U2.at' 3 rfl rfl;refine⟨_,rfl,A.h,C,A'.dx,_,_,rfl,i2,T.cl,T.n_trail,zbQ,_,rfl,_,rfl,A'.tr,_,rfl,SqL.of htr,λn hn=>?_⟩;rw[cut_of (by rw[zl];lia)];have U3:=U2.newF hn (.lst (g.zs.drop i));have fn:=(U2.t.none hn).2;have sF:ap W (upd W n (.lst (g.zs.drop i))):=au fn _;have M:=af (H:=W) (a:=n) (o:=.lst (g.zs.drop i));generalize upd H2 n (.lst (g.zs.drop i))=H3 at U3;generalize upd W n (.lst (g.zs.drop i))=F3 at U3 sF M;have G:=L.tok.take j;have dz:g.zs.drop i=g.zs.drop i:=rfl;refine⟨n,rfl,⟨_,SqL.of (U3.t.f _ _ M)⟩,zba (zbD (xs:=g.zs.drop i)) (λd X H'=>∃(J:Option V) (Ox:Hp) (r:HC) (la:Int→Option Int),X=[some (.ref A.h),some (.int m),some (.int (i:Int)),J]∧zef la∧r.zs=g.zs∧i+d≤j ∧
    Hu K C F3 Ox H' A' pr B { S with ts:=S.ts.take j,bs:=bsF 0 (S.ts.take i),la:=la } ((S.ts.take i++(S.ts.take j).drop (i+d)).map Prod.fst) r)
   (λd X H' ⟨_,_,_,_,_,_,_,_,b⟩=>SqL.of (b.t.f _ _ M)) ⟨J,O2,g,la,rfl,D,rfl,by lia,?_⟩ ?_ ?_⟩
  ·have e0:S.ts.take i++(S.ts.take j).drop (i+0)=S.ts.take j:=by rw[←tt,Nat.add_zero,List.take_append_drop]
   rw[e0];exact U3
  ·rintro d X H' x H'' hd ⟨J,Ox,r,la,rfl,D,ez,hd2,b⟩ ⟨rfl,hx⟩;have hx:=hx _ (SqL.of (b.t.f _ _ M));rw[List.getElem?_drop,←ez]at hx;obtain⟨u,p,y,rfl,hp⟩:=zcG b.u.tr hx;have y:(S.ts.take j)[i+d]?=some u:=y;have hd3:i+d < j:=by have:=(gEq y).1;lia
   have dE:(S.ts.take j).drop (i+d)=u :: (S.ts.take j).drop (i+(d+1)):=by rw[List.drop_eq_getElem_cons (by lia)];have e2:=gG (l:=S.ts.take j) (i:=i+d) (by lia);rw[y]at e2;injection e2 with e2;rw[←e2];rfl
   have hin:∀ x,x∈(S.ts.take i++(S.ts.take j).drop (i+d)).map Prod.fst↔x=u.1∨x∈(S.ts.take i++(S.ts.take j).drop (i+(d+1))).map Prod.fst:=λx=>by
    rw[dE];simp only[mAq,List.map_cons,List.mem_append,List.mem_cons];constructor
    ·rintro (z | z | z)
     ·exact .inr (.inl z)
     ·exact .inl z
     ·exact .inr (.inr z)
    ·rintro (z | z | z)
     ·exact .inr (.inl z)
     ·exact .inl z
     ·exact .inr (.inr z)
   have hnot:u.1∉(S.ts.take i++(S.ts.take j).drop (i+(d+1))).map Prod.fst:=λz=>by
    rw[mAq]at z;rcases mPq z with z | z
    ·rw[←tt]at z;obtain⟨a,v,ha,hv⟩:=ze6 z;have h1:=zea ha;have:=G.same_ix y h1.2 hv.symm;lia
    ·obtain⟨a,v,ha,hv⟩:=ze6 z;rw[List.getElem?_drop]at ha;have:=G.same_ix y ha hv.symm;lia
   have uE:-60≤u.1∧u.1≤60:=(G _ _ y).2.1;have ix:=b.ins;rw[I]at ix;have N:=b.setHd (kh:=zbs r.kh (Sum.inl u.1)) (hs':=(S.ts.take i++(S.ts.take j).drop (i+(d+1))).map Prod.fst) (by rw[←zkP hin hnot];exact b.u.hd.drop u.1);have val:zam r.kh (Sum.inl u.1)=some (.bl true):=by rw[b.u.hd.val];exact if_pos ((hin _).mpr (.inl rfl))
   refine⟨_,rfl,A.h,C,A'.dx,_,_,rfl,ix,T.cl,T.n_held,zch,A'.hd,rfl,.inl ⟨_,.inl (b.at' 4 rfl rfl)⟩,_,rfl,p,_,_,_,rfl,rfl,hp,rfl,r.kh,Sum.inl u.1,_,b.at' 4 rfl rfl,rfl,val,?_⟩;have k1:aV H'' (upd H'' A'.hd (.dK (zbs r.kh (Sum.inl u.1)))):=aV.oth (b.at' 4 rfl rfl) zbB.1 zbB.2;have Z:=k1.sq hp;generalize upd H'' A'.hd (.dK (zbs r.kh (Sum.inl u.1)))=H4 at N Z;have iy:=N.ins;rw[I]at iy;have kp:-100≤(if u.1 < 0 then -u.1 else u.1)∧(if u.1 < 0 then -u.1 else u.1) < 199900:=by split <;> lia
   have Uz:=N.setLt (c:=if u.1 < 0 then -u.1 else u.1) kp u.1
   refine⟨_,rfl,p,_,_,_,rfl,rfl,Z,rfl,_,rfl,A.h,C,A'.dx,_,_,rfl,iy,T.cl,T.n_lately,zif,_,rfl,p,_,_,_,rfl,rfl,Z,rfl,_,rfl,A'.lt,_,rfl,zdn.k (k:=Sum.inl (if u.1 < 0 then -u.1 else u.1)) (N.at' 9 rfl rfl) (hln N.u.lt.len),?_⟩
   refine⟨_,_,_,_,rfl,D.put u.1,?_,?_,Uz⟩
   ·exact ez
   ·lia
  ·rintro X H' ⟨J,Ox,r,la,rfl,D,ez,hd2,b⟩;have dn:(g.zs.drop i).length=j - i:=by rw[List.length_drop,zl]
   rw[dn,show i+(j - i)=j by lia,List.drop_of_length_le (by lia),List.append_nil]at b;have ix:=b.ins;rw[I]at ix;refine⟨_,rfl,A.h,C,A'.dx,_,_,rfl,ix,T.cl,T.n_trail,zbQ,_,rfl,_,rfl,A'.tr,_,rfl,SqL.of (b.at' 3 rfl rfl),λn2 hn2=>?_⟩;have zl2:r.zs.length=j:=by rw[ez,zl]
   rw[zhh (by rw[zl2];lia)];have N:=b.newF hn2 (.lst (r.zs.take i));have fn2:=(b.t.none hn2).2;have sF2:ap F3 (upd F3 n2 (.lst (r.zs.take i))):=au fn2 _;have f02:W n2=none:=by
    cases e:W n2 with
    | none=>rfl
    | some o=>have:=sF _ _ e;rw[fn2]at this;cases this
   have hz:aq K (upd H' n2 (.lst (r.zs.take i))) ((S.ts.take i).map dP) (r.zs.take i):=by rw[←tt,List.map_take];exact zig i N.u.tr
   obtain⟨O5,U5⟩:=N.moveTr (ts:=S.ts.take i) af hz f02 (sF.trans sF2);have iy:=N.ins;rw[I]at iy;refine⟨_,rfl,A.h,C,A'.dx,_,rfl,iy,T.cl,T.n_trail,(by show 12 < 1000;decide),?_⟩;refine⟨_,?_,_,_,{ A' with tr:=n2 },O5,{ r with zs:=r.zs.take i },i,la,rfl,rfl,I,by lia,λ_=>?_,D,?_⟩
   ·rw[ek,eb,lAq];show _ < _+1;lia
   ·rw[zet it.2];unfold zaS;rw[if_pos t1];lia
   ·rw[←I];exact U5
 ·have c1:¬m < ((((bsF 0 (S.ts.take j)).map V.int).length:Nat):Int):=λz=>c (dTq z);rw[lM,zgt]at c1;have zl:g.zs.length=j:=by rw[Hu.zlen U1];show(S.ts.take j).length=j;rw[List.length_take];lia
  refine⟨_,rfl,A.h,C,A'.dx,_,_,rfl,i1,T.cl,T.n_trail,zbQ,A'.tr,_,rfl,.inl (SqL.of (U1.at' 3 rfl rfl)),_,rfl,A.h,C,A'.dx,_,rfl,i1,T.cl,T.n_looked,(by show 12 < 1000;decide),?_⟩;rw[zl,←I];refine q A' _ _ _ j la ⟨jl,λi hi=>?_,hj⟩ D I (U1.setLk j);have:=zbR (ts:=S.ts) (i:=i+1) (j:=j) (by lia);lia
end
abbrev zi5:Stmt:=zfx
abbrev zew:Stmt:=zdW
def zoe {b:Type}{p:b→Bool}{xs:List b}{i:Nat}{k:b}(h:(xs.take i).find? p=none)(c:xs[i]?=some k)(f:p k=true):xs.find? p=some k:=by
 have d:i < xs.length:=(gEq c).1;have e:xs=xs.take i++k :: xs.drop (i+1):=by have:=List.take_append_drop i xs;rw[List.drop_eq_getElem_cons d]at this;have a:=gG d;rw[c]at a;injection a with a;rw[←a]at this;exact this.symm
 rw[e,List.find?_append,h,List.find?_cons_of_pos f];rfl
def zj9 {a:Type}{p:a→Bool}{xs:List a}{i:Nat}{k:a}(h:(xs.take i).find? p=none)(c:xs[i]?=some k)(b:p k=false):(xs.take (i+1)).find? p=none:=by rw[zan c,List.find?_append,h,List.find?_cons_of_neg (by rw[b];decide)];rfl
def ziy (S:HS):Option Int:=S.od.find? λa=>decide (a∉S.hs)&&decide (-a∉S.hs)
def ChQ (K:W.Frag)(C:Addr)(F O H:Hp)(A:HA)(c:Addr)(b:Int)(S:HS)(R:HC)(Q:VK):Option Int→Prop
 | some a=>∀ H' e d,Hu K C F e H' A c b (S.pick a) (S.pick a).hs d→Q (.bl true) H'
 | none=>Q (.bl false) H
structure SpCh (S:HS):Prop where
 tl:S.ts.length≤100
 bl:S.bs.length≤1000
 od:∀ a∈S.od,1≤a∧a≤60
 la:zef S.la
inductive zfP (K:W.Frag)(C:Addr):Sp|m{vs H Q E9} (A:HA) (F O:Hp) (pr:Addr) (most:Int) (S:HS) (R:HC):vs=[.ref A.h]→Hu K C F O H A pr most S S.hs R→SpCh S→ChQ K C F O H A pr most S R Q (ziy S)→zfP K C vs H Q E9
def zh4:zab ["self","atom"] ["self"] (ao zi5):=fsc
section
variable {P:Program} {w:World} {K:W.Frag} {mg:Str→Option Value} {base:Heap} {C CL f fH:Addr} {fd dH:FuncData}
def zlF (F:Fun K "choose" "Hunt.choose" zi5 f fd)(T:TxH K C)(TB:TxB K mg CL)(W:zbh K C "hold" fH)(BH:aI P w K mg base CX0 1 fH dH ["self","part","why"] (zdp K C))(bH:az K dH ["self","part","why"] []):aI P w K mg base CX0 2 f fd ["self"] (zfP K C):=by
 refine F.ok zh4 (λvs H Q E h=>?_) (λcdv A outer s H vs Q E D h=>?_)
 ·obtain⟨A,M,O,B,b,S,R,rfl,_⟩:=h;rfl
 obtain⟨A,M,O,B,b,S,R,rfl,U,L,q⟩:=h;have t:=zb5 D;refine⟨_,(ae (zaN PassesOwn.never rfl (zbE (aB (pv 0) rfl)) (zae (i:=1) zh4.nd rfl (Or.inl rfl))
   (ak (zaj (PW.pt (zhd (zcM (zdO t (pv 1) (aB (pv 0) rfl))) (zgk (zcM (zdO t (zaI zay (pv 1)) (aB (pv 0) rfl))))))
     (ae (zag (za2 PySem.F.plainAttrs_list PySem.F.slot_list_append PySem.F.type_list_append zaA (aB (pv 0) rfl) (aa (aw zaa rfl TB.len bLq (aa (aB (pv 0) rfl) ac)) ac)))
      (ae (zag (zaZ (pv 0) T.cl W BH D bH .nil zak (aa (zja t (aB (pv 0) rfl) (pv 1) (zaI zay (pv 1)) ⟨rfl,rfl,rfl,rfl⟩) (aa (zaI zay ai) ac))))
      (ak (aJ za8))))
     zac)))
  (ak (aJ za8))),?_⟩
 try dsimp only [Cx.nox,Cx.wish,aZ]
 have g:=U.at' 8 rfl rfl;refine⟨_,rfl,A.h,C,A.dx,_,_,rfl,U.ins,T.cl,T.n_order,zgY,A.od,rfl,⟨_,SqL.of g⟩,zba zbD (λi o H'=>∃ r:Option V,o=[some (.ref A.h),r]∧H'=H∧(S.od.take i).find? (λa=>decide (a∉S.hs)&&decide (-a∉S.hs))=none) (λi o H' ⟨_,_,e,_⟩=>e ▸ SqL.of g) ⟨none,rfl,rfl,rfl⟩ ?_ ?_⟩
 ·rintro i o H1 x H2 hi ⟨r,rfl,rfl,d⟩ ⟨rfl,X⟩;obtain⟨a,p,rfl⟩:=zaW (X _ (SqL.of g));have I:=zbM S.hs a;have G:=zbM S.hs (-a);have aR:=L.od a (mOq p);refine⟨_,rfl,_,rfl,A.h,C,A.dx,_,_,rfl,U.ins,T.cl,T.n_held,zch,A.hd,_,rfl,U.held a,_,rfl,aO (λc=>?_) (λc=>?_)⟩
  ·rw[I]at c;have y:a∉S.hs:=λz=>by rw[dTq z]at c;cases c
   refine⟨_,rfl,_,rfl,_,rfl,A.h,C,A.dx,_,_,rfl,U.ins,T.cl,T.n_held,zch,A.hd,_,rfl,U.held (-a),_,rfl,aO (λj=>?_) (λj=>?_)⟩
   ·rw[G]at j;have v:-a∉S.hs:=λz=>by rw[dTq z]at j;cases j
    have Z:ziy S=some a:=zoe d p (by simp [y,v]);rw[Z]at q;have n:=U.at' 5 rfl rfl;have l:=U.setBg (S.bs++[(S.ts.length:Int)]);rw[mAq]at l;refine⟨_,rfl,A.h,C,A.dx,_,_,rfl,U.ins,T.cl,T.n_begins,zf0,.inl ⟨rfl,_,SqL.of n⟩,_,rfl,A.h,C,A.dx,_,_,rfl,U.ins,T.cl,T.n_trail,zbQ,A.tr,_,rfl,.inl (SqL.of (U.at' 3 rfl rfl)),A.bg,_,_,rfl,rfl,n,hln (by rw[lM];have:=L.bl;lia),?_⟩;rw[Hu.zlen U];have J:=zbi.k (k:=Sum.inl a) (l.at' 9 rfl rfl);rw[l.u.lt.val]at J;have N:((S.la a).map V.int).getD (.int (-a))=.int ((S.la a).getD (-a)):=by cases S.la a <;> rfl
    have Y:(S.la a).getD (-a)=a∨(S.la a).getD (-a)=-a:=by
     cases e:S.la a with
     | none=>exact .inr rfl
     | some x=>exact L.la a x e
    refine⟨_,rfl,A.h,A.dx,_,rfl,l.ins,rfl,_,rfl,A.h,C,A.dx,_,_,rfl,l.ins,T.cl,T.n_lately,zif,A.lt,rfl,.inl ⟨_,.inl (l.at' 9 rfl rfl)⟩,_,rfl,_,rfl,_,rfl,_,J,?_⟩;refine⟨_,rfl,A,M,_,B,b,_,_,(S.la a).getD (-a),-1,?_,l,?_,?_,λH' O' R' U' _=>?_⟩
    ·exact congrArg (λz=>[V.ref A.h,z,.int (-1)]) N
    ·unfold zby;rcases Y with z | z <;> rw[z] <;> lia
    ·have:=L.tl;show S.ts.length≤1000;lia
    ·exact q H' O' R' U'
   ·rw[G]at j;have v:-a∈S.hs:=Decidable.byContradiction λz=>by rw[dFq z]at j;exact j rfl
    exact⟨_,rfl,rfl,zj9 d p (by simp [v])⟩
  ·rw[I]at c;have y:a∈S.hs:=Decidable.byContradiction λz=>by rw[dFq z]at c;exact c rfl
   exact⟨_,rfl,rfl,zj9 d p (by simp [y])⟩
 ·rintro o H' ⟨r,rfl,rfl,d⟩;rw[lM,List.take_length]at d;have d:ziy S=none:=d;rw[d]at q;exact q
def zlc:∀ {c bs:List Int},c.Pairwise (· < ·)→bs.Pairwise (· < ·)→(∀ x,x∈c↔x∈bs)→c=bs
 | [],[],_,_,_=>rfl
 | [],b :: bs,_,_,h=>absurd ((h b).mpr List.mem_cons_self) (λz=>nomatch z)
 | a :: c,[],_,_,h=>absurd ((h a).mp List.mem_cons_self) (λz=>nomatch z)
 | a :: c,b :: bs,k,j,h=>by
  obtain⟨d,i⟩:=List.pairwise_cons.mp k;obtain⟨q1,g⟩:=List.pairwise_cons.mp j;have e:a=b:=by
   rcases List.mem_cons.mp ((h a).mp List.mem_cons_self) with z | z
   ·exact z
   ·rcases List.mem_cons.mp ((h b).mpr List.mem_cons_self) with y | y
    ·exact y.symm
    ·have:=d b y;have:=q1 a z;lia
  subst e;rw[zlc i g λx=>?_];constructor
  ·intro z;rcases List.mem_cons.mp ((h x).mp (List.mem_cons_of_mem _ z)) with y | y
   ·have:=d x z;lia
   ·exact y
  ·intro z;rcases List.mem_cons.mp ((h x).mpr (List.mem_cons_of_mem _ z)) with y | y
   ·have:=q1 x z;lia
   ·exact y
def upN (n:Nat):List Int:=(List.range n).map λi:Nat=>(i:Int)+1
def zdw:a∈upN n↔1≤a∧a≤n:=by
 unfold upN;rw[List.mem_map];constructor
 ·rintro ⟨i,b,rfl⟩;have:=List.mem_range.mp b;lia
 ·intro h;exact⟨(a - 1).toNat,List.mem_range.mpr (by lia),by lia⟩
def zkX (n:Nat):(upN n).Pairwise (· < ·):=by unfold upN;refine List.pairwise_map.mpr (List.pairwise_lt_range.imp λ{a b} h=>?_);lia
def zaM (n:Nat)(hs:List Int):List Int:=(upN n).map λa=>if a∈hs then a else -a
inductive zdT (K:W.Frag)(C:Addr):Sp|m{vs H Q E9} (A:HA) (F O:Hp) (pr:Addr) (most:Int) (S:HS) (R:HC) (n:Nat):vs=[.ref A.h]→Hu K C F O H A pr most S S.hs R→n≤40→(∀ a:Int,a∈S.od↔1≤a∧a≤n)→S.od.Nodup→(∀ H' l,ap H H'→H l=none→H' l=some (.tup ((zaM n S.hs).map V.int))→Q (.ref l) H')→zdT K C vs H Q E9
def zis:zab ["self"] ["self"] (ao zew):=fsc
def zit (F:Fun K "held_parts" "Hunt.held_parts" zew f fd)(T:TxH K C)(TB:TxB K mg CL):aI P w K mg base CX0 1 f fd ["self"] (zdT K C):=by
 refine F.ok zis (λvs H Q E h=>?_) (λcdv A outer s H vs Q E hr h=>?_)
 ·obtain⟨A,F',O,pr,v,S,R,n,rfl,_⟩:=h;rfl
 obtain⟨A,F',O,pr,v,S,R,n,rfl,U,n40,od,u,q⟩:=h;have hu:=zb5 hr;refine⟨_,(ak (aJ (zaL zce rfl TB.tuple PyProof.Rows.Boot.tuple (aa (zcS (N':=["atom","self"]) (ix:=[0]) rfl rfl (by decide +kernel) (by decide +kernel) rfl (λok=>zcd (sc:=ao zew) ok rfl (by decide +kernel) (by decide +kernel)) (by decide +kernel) rfl rfl (λj i h=>match j,h with | 0,h=>by cases h;exact⟨_,rfl,rfl,.inl rfl,.inl rfl⟩ | n+1,h=>by simp at h) (zbE (aw zga rfl TB.sorted PyProof.Rows.Boot.sorted (aa (aB (pv 0) rfl) ac))) (λ_ _ _ _=>(zct (zcM (zfC hu (pv 0) (zhJ K rfl (pv 1) rfl))) (pv 0) (zaI zay (pv 0))))) ac)))),?_⟩
 try dsimp only [Cx.nox,Cx.wish,aZ]
 have odl:S.od.length≤n:=by
  have:=zbG n (xs:=S.od.map λa=>a - 1) (List.pairwise_map.mpr (u.imp λ{a b} h z=>h (by lia))) λx J=>by obtain⟨a,L,rfl⟩:=List.mem_map.mp J;have:=(od a).mp L;lia
  rwa [lM]at this
 refine⟨_,rfl,A.h,C,A.dx,_,_,rfl,U.ins,T.cl,T.n_order,zgY,A.od,S.od,rfl,SqL.of (U.at' 8 rfl rfl),by lia,λl W hl Y so=>?_⟩;have k:W=upN n:=by
  refine zlc ?_ (zkX n) λx=>by rw[Y.mem_iff,od,zdw]
  have nd:W.Nodup:=Y.nodup_iff.mpr u;exact(so.and nd).imp λ{a b} h=>by have:=h.1;have:=h.2;lia
 subst k;have I:ap H (upd H l (.lst ((upN n).map V.int))):=au hl _;have B:=af (H:=H) (a:=l) (o:=.lst ((upN n).map V.int));generalize upd H l (.lst ((upN n).map V.int))=H1 at I B;have p:(upN n).length=n:=by unfold upN;rw[lM,List.length_range]
 refine⟨l,rfl,⟨_,SqL.of B⟩,λD M=>zcT zbD (λi us H'=>ap H1 H'∧us=((zaM n S.hs).take i).map V.int) (λi us H' ⟨g,_⟩=>SqL.of (g _ _ B)) ⟨au M _,rfl⟩ ?_ ?_⟩
 ·rintro i us H2 x H3 hi y d ⟨g,rfl⟩ ⟨rfl,J⟩;obtain⟨a,L,rfl⟩:=zaW (J _ (SqL.of (g _ _ B)));have U2:=U.same (I.trans g);have Z:=zbM S.hs a;have hH:(zaM n S.hs)[i]?=some (if a∈S.hs then a else -a):=by unfold zaM;rw[List.getElem?_map,L];rfl
  have G:((zaM n S.hs).take (i+1)).map V.int=((zaM n S.hs).take i).map V.int++[.int (if a∈S.hs then a else -a)]:=by rw[zan hH,mAq];rfl
  rw[lM,p]at hi;refine⟨_,rfl,_,rfl,A.h,C,A.dx,_,_,rfl,U2.ins,T.cl,T.n_held,zch,A.hd,_,rfl,U2.held a,_,rfl,aO (λc=>?_) (λc=>?_)⟩
  ·rw[Z]at c;have N:=oDq c;rw[if_pos N]at G;exact⟨_,rfl,za5 (bsz _ (by rw[lM,p];lia)) (by rw[lM,p];lia) y d ⟨g.upd M,G.symm⟩⟩
  ·rw[Z]at c;have N:a∉S.hs:=λz=>c (dTq z);rw[if_neg N]at G;exact⟨_,rfl,_,rfl,za5 (bsz _ (by rw[lM,p];lia)) (by rw[lM,p];lia) y d ⟨g.upd M,G.symm⟩⟩
 ·rintro us H2 d ⟨g,rfl⟩;have e:(zaM n S.hs).take ((upN n).map V.int).length=zaM n S.hs:=by refine tO ?_;unfold zaM;rw[lM,lM];exact nRq _
  rw[e]at d;refine⟨D,_,rfl,.inl ⟨SqL.of d,λt X=>?_⟩⟩;have r:=I.trans g;exact q _ t (r.trans (au X _)) (r.free X) af
end
abbrev zd8:Stmt:=zf4
def zen:zab ["self","fails","told","parts","forcing","fresh"] ["self","fails"] (ao zd8):=fsc
def zdb (ps od:List Int):List Int:=ps.map zas++od.filter λa=>decide (a∉ps.map zas)
def zlN {ps od:List Int}{n:Nat}(e:∀ p∈ps,p≠0∧p.natAbs≤n)(b:∀ a:Int,a∈od↔1≤a∧a≤n)(a:Int):a∈zdb ps od↔1≤a∧a≤n:=by
 unfold zdb;rw[List.mem_append,List.mem_filter,decide_eq_true_eq];constructor
 ·rintro (z | ⟨z,_⟩)
  ·obtain⟨p,d,rfl⟩:=List.mem_map.mp z;have:=e p d;unfold zas;split <;> lia
  ·exact(b a).mp z
 ·intro h;by_cases c:a∈ps.map zas
  ·exact .inl c
  ·exact .inr ⟨(b a).mpr h,c⟩
def zmW (g:(ps.map zas).Nodup)(f:od.Nodup):(zdb ps od).Nodup:=by unfold zdb;refine List.nodup_append.mpr ⟨g,f.filter _,λa d b c e=>?_⟩;have:=(List.mem_filter.mp c).2;rw[decide_eq_true_eq]at this;exact this (e ▸ d)
structure TlF (K:W.Frag)(H:Hp)(S:HS)(t tp th:Addr)(ps:List Int)(m y:Int)(n:Nat):Prop where
 t:SqT K H t [.ref tp,.ref th,.int m]
 tp:SqT K H tp (ps.map V.int)
 c:SpC S m
 n40:n≤40
 pr:∀ p∈ps,p≠0∧p.natAbs≤n
 pl:ps.length≤100
 od:∀ a:Int,a∈S.od↔1≤a∧a≤n
 odn:S.od.Nodup
section
variable {P:Program} {w:World} {K:W.Frag} {mg:Str→Option Value} {base:Heap} {C CL f fH fC:Addr} {fd dH dC:FuncData}
def odlen {od:List Int}{n:Nat}(h:∀ a:Int,a∈od↔1≤a∧a≤n)(c:od.Nodup):od.length≤n:=by
 have:=zbG n (xs:=od.map λa=>a - 1) (List.pairwise_map.mpr (c.imp λ{a b} h z=>h (by lia))) λx d=>by obtain⟨a,e,rfl⟩:=List.mem_map.mp d;have:=(h a).mp e;lia
 rwa [lM]at this
def learn3 (T:TxH K C)(TB:TxB K mg CL)(mH:zbh K C "hold" fH)(BH:aI P w K mg base CX0 1 fH dH ["self","part","why"] (zdp K C))(bH:az K dH ["self","part","why"] [])
  (mC:zbh K C "cut" fC)(BC:aI P w K mg base CX0 1 fC dC ["self","level"] (zhb K C))(bC:az K dC ["self","level"] [])
  {cdv:Value}{Ar:Around}{outer:List Env}{s:Shared}{H0:Hp}{E:XK}(hr:zax 1 (Ar.deeper (PyProof.Rows.envOfC "Hunt.learn" (ao zd8) s.heap.objs.size f cdv))) :
  ∃ z,PSs (aZ (CX1 P w) P w K mg base ["self","fails","told","parts","forcing","fresh"] "Hunt.learn" (ao zd8) f cdv Ar outer s H0 E) ((zap zd8).drop 3) z ∧
   ∀(D:zcW) (A:HA) (F O H:Hp) (pr:Addr) (d:Int) (S:HS) (R:HC) (t B th:Addr) (ps:List Int) (fl m y:Int) (n:Nat),Hu K C F O H A pr d S S.hs R→TlF K H S t B th ps m y n→(ps=[]→D.rt (.bl false) H) →
    (∀ a rest,ps=a :: rest→∀ A' H' O' R' j la,zde S.ts m j→zef la→A'.h=A.h→Hu K C F O' H' A' pr d { (S.cut j la).hold a y with od:=zdb ps S.od } ((S.cut j la).hold a y).hs R'→D.rt (.bl true) H') →
    z D [some (.ref A.h),some (.int fl),some (.ref t),some (.ref B),some (.int y),none] H:=by
 have hu:=hu64 hr;refine⟨_,(ae (zaj (aA zbd (aw zaa rfl TB.len bLq (aa (pv 3) ac)) ai)
   (ak (aJ za8))
   zac)
  (ae (zag (zaZ (pv 0) T.cl mC BC hr bC .nil zak (aa (aW zal (pv 2) ai) ac)))
  (ae (zag (zaZ (pv 0) T.cl mH BH hr bH .nil zak (aa (aW zal (pv 3) ai) (aa (pv 4) ac))))
  (ae (aF (i:=5) zen.nd rfl (Or.inr rfl) (zcS (N':=["part"]) (ix:=[]) rfl rfl (by decide +kernel) (by decide +kernel) rfl (λ_=>⟨[],zcv (by decide +kernel) (by decide +kernel)⟩) (by decide +kernel) rfl rfl (λj i h=>by simp at h) (zdK (pv 3)) (λ_ _ _ _=>(aw zdD rfl TB.abs PyProof.Rows.Boot.abs (aa (pv 0) ac)))))
  (ae (zaY (pv 0) (aU ziO (pv 5) (zeR (N':=["atom","fresh"]) (ix:=[5]) rfl rfl (by decide +kernel) (by decide +kernel) rfl (λok=>zcd (sc:=ao zd8) ok rfl (by decide +kernel) (by decide +kernel)) (by decide +kernel) rfl rfl (λj i h=>match j,h with | 0,h=>by cases h;exact⟨_,rfl,rfl,.inl rfl,.inl rfl⟩ | n+1,h=>by simp at h) (zbE (aB (pv 0) rfl)) (λ_ _ _ _=>(aA (r:=rIn K true) zf7 (pv 0) (pv 1) rfl)) (λ_ _ _ _=>(pv 0)))) rfl)
  (ak (aJ za8))))))),?_⟩
 try dsimp only [Cx.nox,Cx.wish,aZ]
 rintro D A F O H pr d S R t B th ps fl m y n U L q0 q1;have pl:=L.pl;refine⟨_,rfl,B,_,rfl,.inr L.tp,rfl,_,rfl,aO (λc=>?_) (λc=>?_)⟩
 ·have c1:=oDq c;injection c1 with c1;rw[lM]at c1;exact q0 (List.length_eq_zero_iff.mp (by lia))
 match ps,L,q1,pl with
 | [],L,q1,pl=>exact absurd (by decide +kernel) c
 | a :: rest,L,q1,pl =>
  clear c q0;have q1:=q1 a rest rfl;have aP:=L.pr a List.mem_cons_self;have n40:=L.n40;have at2:atI [V.ref B,V.ref th,V.int m] 2=some (.int m):=zah (j:=2) rfl;have at0:atI ((a :: rest).map V.int) 0=some (.int a):=zah (j:=0) rfl;obtain⟨M,sF1,U1,Z⟩:=U.sqF L.tp;refine⟨_,rfl,A.h,A.dx,_,rfl,U.ins,rfl,_,rfl,t,_,_,_,rfl,rfl,L.t,at2,A,M,O,pr,d,S,R,m,rfl,U1,L.c,λY H2 O2 R2 j la hcut hla X U2=>?_⟩;have i2:=U2.ins;rw[X]at i2;have tl:((S.cut j la).ts).length≤1000:=by
   have h1:=(L.c.tok.take j).len;have h2:(S.ts.take j).length≤1000:=by lia
   exact h2
  refine⟨_,rfl,A.h,Y.dx,_,rfl,i2,rfl,_,rfl,B,_,_,_,rfl,rfl,U2.t.f.tup Z,at0,_,rfl,Y,M,O2,pr,d,S.cut j la,R2,a,y,by rw[X];rfl,U2,by unfold zby;lia,tl,λH3 O3 R3 U3 _=>?_⟩;have v:=U3.t.f.tup Z;have fl1:((a :: rest).map zas).length=rest.length+1:=by rw[lM];rfl
  refine⟨_,rfl,B,rfl,⟨_,v⟩,λN q=>zcT zdf (λi us H'=>ap H3 H'∧us=(((a :: rest).map zas).take i).map V.int) (λi us H' ⟨Q,_⟩=>Q.tup v) ⟨au q _,rfl⟩ ?_ ?_⟩
  ·rintro i us H4 x H5 W k l ⟨Q,rfl⟩ ⟨rfl,hx⟩;obtain⟨p,hp,rfl⟩:=zaW (hx _ (Q.tup v));have hA:((a :: rest).map zas)[i]?=some (zas p):=by rw[List.getElem?_map,hp];rfl
   refine⟨_,rfl,_,rfl,za5 (bsz _ (by rw[lM];lia)) W k l ⟨Q.upd q,?_⟩⟩;rw[zan hA,mAq];rfl
  rintro us H4 l ⟨Q,rfl⟩;have e4:((a :: rest).map zas).take ((a :: rest).map V.int).length=(a :: rest).map zas:=tO (by rw[lM,lM];exact nRq _);rw[e4]at l;have U4:=U3.more Q q l;have f4:M N=none:=(U3.t.none q).2;have G:ap M (upd M N (.lst (((a :: rest).map zas).map V.int))):=au f4 _;have J:=af (H:=M) (a:=N) (o:=.lst (((a :: rest).map zas).map V.int));generalize upd M N (.lst (((a :: rest).map zas).map V.int))=F4 at U4 G J;generalize hfr:(a :: rest).map zas=g at *;have i4:=U4.ins;rw[X]at i4;have I:=U4.at' 8 rfl rfl;have odl:=odlen L.od L.odn;refine⟨_,rfl,_,rfl,A.h,C,Y.dx,_,_,rfl,i4,T.cl,T.n_order,zgY,Y.od,rfl,⟨_,SqL.of I⟩,λD2 hD2=>zek zbD (λi us H'=>ap H4 H'∧us=((S.od.take i).filter λz=>decide (z∉g)).map V.int) (λi us H' ⟨u,_⟩=>SqL.of (u _ _ I)) ⟨au hD2 _,rfl⟩ ?_ ?_⟩
  ·rintro i us H5 x H6 W k b ⟨u,rfl⟩ ⟨rfl,hx⟩;obtain⟨z,hz,rfl⟩:=zaW (hx _ (SqL.of (u _ _ I)));have et:((S.od.take (i+1)).filter λz=>decide (z∉g))=if z∈g then(S.od.take i).filter λz=>decide (z∉g) else((S.od.take i).filter λz=>decide (z∉g))++[z]:=by
    have hz:S.od[i]?=some z:=hz;rw[zan hz,List.filter_append];by_cases e:z∈g
    ·rw[if_pos e,List.filter_cons,if_neg (by simp [e]),List.filter_nil,List.append_nil]
    ·rw[if_neg e,List.filter_cons,if_pos (dTq e)];rfl
   have hil:i < S.od.length:=by rw[lM]at W;exact W
   refine⟨_,rfl,_,rfl,N,_,rfl,.inl (SqL.of (u _ _ (U4.t.f _ _ J))),rfl,zc6 _,_,rfl,?_⟩;rw[if_pos rfl,zb7];by_cases e:z∈g
   ·rw[dTq e];refine zck (zdx W k b ⟨u,?_⟩);rw[et,if_pos e]
   ·rw[dFq e];refine zcj ⟨_,rfl,za5 (bsz _ (by rw[lM];show S.od.length≤_;lia)) W k b ⟨u.upd hD2,?_⟩⟩;rw[et,if_neg e,mAq];rfl
  rintro us H5 b ⟨u,rfl⟩;have e5:S.od.take (S.od.map V.int).length=S.od:=tO (by rw[lM];exact nRq _);have b:H5 D2=some (.lst (((S.od.take (S.od.map V.int).length).filter λz=>decide (z∉g)).map V.int)):=b;rw[e5]at b;have U5:=U4.same u;have frl:g.length≤100:=by rw[←hfr,lM];exact pl
  have h1:H5 N=some (.lst (g.map V.int)):=U5.t.f _ _ J;refine⟨N,D2,_,_,rfl,rfl,h1,b,?_,λn1 hn1=>?_⟩
  ·have:=List.length_filter_le (λz=>decide (z∉g)) S.od;rw[lM,lM];exact Nat.le_of_lt (hln (by lia))
  rw[←mAq];have eN:g++S.od.filter (λz=>decide (z∉g))=zdb (a :: rest) S.od:=by unfold zdb;rw[hfr]
  rw[eN];have U6:=U5.newF hn1 (.lst ((zdb (a :: rest) S.od).map V.int));have f6:=(U5.t.none hn1).2;have sF6:ap F4 (upd F4 n1 (.lst ((zdb (a :: rest) S.od).map V.int))):=au f6 _;have sF:ap F (upd F4 n1 (.lst ((zdb (a :: rest) S.od).map V.int))):=(sF1.trans G).trans sF6;have f0:F n1=none:=by
   cases e:F n1 with
   | none=>rfl
   | some o=>have:=(sF1.trans G) _ _ e;rw[f6]at this;cases this
  obtain⟨O7,U7⟩:=U6.moveOd af f0 sF;have i6:=U6.ins;rw[X]at i6;refine⟨_,rfl,A.h,C,Y.dx,_,rfl,i6,T.cl,T.n_order,(by show 12 < 1000;decide),?_⟩;have:=q1 { Y with od:=n1 } _ O7 R3 j la hcut hla X U7;rw[←X];exact this
end
def lnD (ps hs:List Int):Dt:=.tup [.str "learnt",.tup (ps.map Dt.int),.tup (hs.map Dt.int)]
structure LrnTo (n:Nat)(B:List (List Int))(most:Int)(S:HS)(f:Int)(S':HS):Prop where
 mid:zbC n B S'
 wgt:wgt n 0 S.ts < wgt n 0 S'.ts
 to:(S'.pp=S.pp∧S'.rs=S.rs)∨((S.pp.length:Int) < most∧S'.pp=S.pp++[lnD (aX S.rs S.ts f) (zbr S.rs S.ts f).reverse]∧S'.rs=S.rs++[aX S.rs S.ts f])
structure SpLn (n:Nat)(B:List (List Int))(S:HS)(f:Int):Prop where
 c:zcV n B S f
 n40:n≤40
 rl:S.rs.length≤197000
 pl:S.pp.length≤197000
 gl:∀ c,(S.wg c).length≤197000
inductive zgF (K:W.Frag)(C CL:Addr):Sp|m{vs H Q E} (A:HA) (F O:Hp) (pr:Addr) (most:Int) (S:HS) (R:HC) (f:Int) (n:Nat) (B:List (List Int)):vs=[.ref A.h,.int f]→Hu K C F O H A pr most S S.hs R→SpLn n B S f→(most≤(S.pp.length:Int)→∀ H',ap F H'→E (.ref CL) none H')→(aX S.rs S.ts f=[]→∀ H' O' R',Hu K C F O' H' A pr most (S.put (lnD [] (zbr S.rs S.ts f).reverse) [] []) S.hs R'→Q (.bl false) H')→(∀ A' H' O' R' S',A'.h=A.h→LrnTo n B most S f S'→Hu K C F O' H' A' pr most S' S'.hs R'→Q (.bl true) H')→zgF K C CL vs H Q E
section
variable {P:Program} {w:World} {K:W.Frag} {mg:Str→Option Value} {base:Heap} {C CL f fH fC fP fL:Addr} {fd dH dC dP' dL:FuncData}
def znX (ps hs:List Int):nol (lnD ps hs)=true:=by simp only[lnD,nol,zaP,zgW,Bool.and_self]
def zob (h:SqT K H l [.str "learnt",.ref tp,.ref th])(b:SqT K H tp (ps.map V.int))(a:SqT K H th (hs.map V.int)):Has K H (lnD ps hs) (.ref l) :=
 Has.tup' h (.cons (by simp only[Has]) (.cons (zeY b) (.cons (zeY a) .nil)))
def zmJ (F:Fun K "learn" "Hunt.learn" zd8 f fd)(T:TxH K C)(TB:TxB K mg CL)(mH:zbh K C "hold" fH)(BH:aI P w K mg base CX0 1 fH dH ["self","part","why"] (zdp K C))(bH:az K dH ["self","part","why"] [])
  (mC:zbh K C "cut" fC)(BC:aI P w K mg base CX0 1 fC dC ["self","level"] (zhb K C))(bC:az K dC ["self","level"] [])
  (mP:zbh K C "put" fP)(BP:aI P w K mg base (CX1 P w) 2 fP dP' ["self","line"] (ziD K C CL))(bP:az K dP' ["self","line"] [])
  (BL:FB P w K mg base CX0 3 "learnt" fL dL ["rows","trail","fails"] (Le95.sp_learnt K)):aI P w K mg base (CX1 P w) 4 f fd ["self","fails"] (zgF K C CL):=by
 refine Fun.okX F zen (λvs H Q E h=>?_) (λcdv Ar outer s H vs Q E hr h=>?_)
 ·obtain⟨A,F',O,pr,r,S,R,f,n,B,rfl,_⟩:=h;rfl
 obtain⟨A,F',O,pr,r,S,R,I,n,B,rfl,U,L,qE,qN,qY⟩:=h;have hr1:=hr.mono (j:=1) (by decide);have hr2:=hr.mono (j:=2) (by decide);obtain⟨z3,h3,q3⟩:=learn3 (P:=P) (w:=w) (base:=base) (f:=f) T TB mH BH bH mC BC bC (cdv:=cdv) (Ar:=Ar) (outer:=outer) (s:=s) (H0:=H) (E:=E) hr1;refine⟨_,(ae (aF (i:=2) zen.nd rfl (Or.inl rfl) (zai BL.ok hr rfl BL.m BL.kp BL.b .nil zak (aa (aB (pv 0) rfl) (aa (aB (pv 0) rfl) (aa (pv 1) ac)))))
  (ae (aF (i:=3) zen.nd rfl (Or.inl rfl) (aW zal (pv 2) ai))
  (ae (aF (i:=4) zen.nd rfl (Or.inl rfl) (zct (PW.pt (zhd (aA zbd (aw zaa rfl TB.len bLq (aa (aW zal (pv 2) ai) ac)) ai) (zgk (aA zbk (aw zaa rfl TB.len bLq (aa (pv 3) ac)) ai)))) (pv 1) (zaZ (pv 0) T.cl mP BP hr2 bP .nil (zcF xe1) (aa (zbz (aa zaU (aa (pv 3) (aa (aW zal (pv 2) ai) ac)))) ac))))
  h3))),?_⟩
 try dsimp only [Cx.nox,Cx.wish,aZ]
 have g:=L.c.b.tok;have n40:=L.n40;have tl:S.ts.length≤100:=by have:=g.len;lia
 refine⟨_,rfl,A.h,C,A.dx,_,_,rfl,U.ins,T.cl,T.n_known,zcu,_,rfl,A.h,C,A.dx,_,_,rfl,U.ins,T.cl,T.n_trail,zbQ,_,rfl,A.kn,A.tr,I,R.xs,R.zs,S.rs,S.ts,rfl,SqL.of (U.at' 1 rfl rfl),U.u.kn,SqL.of (U.at' 3 rfl rfl),U.u.tr,L.c.ln,tl,L.c.b.rlen n40,λH1 t J W m s1 _ h1 h2 h3' mx=>?_⟩;have U1:=U.same s1;have at0:atI [V.ref J,V.ref W,V.int m] 0=some (.ref J):=zah (j:=0) rfl;have at1:atI [V.ref J,V.ref W,V.int m] 1=some (.ref W):=zah (j:=1) rfl;generalize d:aX S.rs S.ts I=ps at *;generalize hhs:(zbr S.rs S.ts I).reverse=hh at *;have hpl:(ps.map V.int).length=ps.length:=lM _;have hhl:(hh.map V.int).length=(zbr S.rs S.ts I).length:=by rw[lM,←hhs,List.length_reverse]
 have inP:∀ q∈ps,q≠0∧q.natAbs≤n:=λq hq=>by rw[←d]at hq;obtain⟨i,u,hi,e,_⟩:=zdv g hq;have h1:=(g i u hi).1;have h2:=L.c.b.rng u (mOq hi);lia
 have psl:ps.length≤100:=by rw[←d];unfold aX;have:=List.length_filter_le (λp=>decide (p∈zcU S.rs S.ts I)) (negs S.ts).reverse;rw[List.length_reverse,zbP]at this;lia
 have m0:0≤m:=by
  by_cases e:(ps.drop 1).map (lvF S.ts)=[]
  ·rw[mx.1 e];decide
  ·obtain⟨x,_,Z⟩:=List.mem_map.mp (mx.2 e).1;rw[←Z];exact zhg x
 have absn:(ps.map zas).Nodup:=by
  refine List.pairwise_map.mpr ((show ps.Nodup from d ▸ zfr g).imp_of_mem λ{x y} hx hy ne z=>?_);rw[←d]at hx hy;obtain⟨i,u,hi,e,_⟩:=zdv g hx;obtain⟨j,v,hj,e',_⟩:=zdv g hy;unfold zas at z;have:x=y∨x=-y:=by split at z <;> split at z <;> lia
  rcases this with z | z
  ·exact ne z
  ·exact g.cons (q:=u.1) (zcD hi) (by rw[show -u.1=v.1 by lia];exact zcD hj)
 refine⟨_,rfl,t,_,_,_,rfl,rfl,SqT.of h1,at0,?_⟩;have rest:∀(N:HS) (O2 X:Hp) (R2:HC) (y:Int),N.ts=S.ts→N.bs=S.bs→N.la=S.la→N.od=S.od→TOk N.rs N.ts→Hu K C F' O2 X A pr r N N.hs R2→SqT K X t [.ref J,.ref W,.int m]→SqT K X J (ps.map V.int)→(ps=[]→Q (.bl false) X) →
   (∀ a rs j la,ps=a :: rs→zde S.ts m j→zef la→LrnTo n B r S I { (N.cut j la).hold a y with od:=zdb ps S.od }) →
   z3 { nx:=λ_ H'=>Q .non H',rt:=Q } [some (.ref A.h),some (.int I),some (.ref t),some (.ref J),some (.int y),none] X:=by intro N O2 X R2 y e1 Z e3 e4 tok1 U2 g1 g2 n0 n1;refine q3 _ A F' O2 X pr r N R2 t J W ps I m y n U2 ⟨g1,g2,⟨tok1,by rw[Z,e1];exact L.c.b.bs,m0,by rw[e3];exact L.c.b.la⟩,n40,inP,psl,by rw[e4];exact L.c.b.od,by rw[e4];exact L.c.b.odn⟩ n0 λa rs ea A' H' O' R' j la D M eh U'=>?_;rw[e4]at U';exact qY A' H' O' R' _ eh (n1 a rs j la ea (e1 ▸ D) M) U'
 have od1:=zlN inP L.c.b.od;have od2:=zmW absn L.c.b.odn;refine(λ(k:¬((zbr S.rs S.ts I).length=1∧ps≠[])→_) (k2:((zbr S.rs S.ts I).length=1∧ps≠[])→_)=>⟨_,rfl,t,_,_,_,rfl,rfl,SqT.of h1,at1,W,_,rfl,.inr (SqT.of h3'),rfl,_,rfl,aO (λc1=>⟨_,rfl,J,_,rfl,.inr (SqT.of h2),_,_,rfl,rfl,_,rfl,aO (λc2=>k2 ?_) (λc2=>k ?_)⟩) (λc1=>k ?_)⟩) (λhn=>?_) (λhy=>?_)
 ·refine⟨_,rfl,A.h,A.dx,_,rfl,U1.ins,rfl,_,rfl,_,rfl,t,_,_,_,rfl,rfl,SqT.of h1,at1,lS3,λl hl=>?_⟩;have s2:ap H1 (upd H1 l (.tup [.str "learnt",.ref J,.ref W])):=au hl _;have l2:=af (H:=H1) (a:=l) (o:=.tup [.str "learnt",.ref J,.ref W]);generalize upd H1 l (.tup [.str "learnt",.ref J,.ref W])=X at s2 l2;have U2:=U1.same s2;have t2:=SqT.of (K:=K) (s2 _ _ h1);have Y:=SqT.of (K:=K) (s2 _ _ h2);have th2:=SqT.of (K:=K) (s2 _ _ h3');obtain⟨F3,sF3,U3,t3⟩:=U2.sqF t2;obtain⟨F4,sF4,U4,tp4⟩:=U3.sqF Y;have t4:=sF4.tup t3;have lat:zgA S.ts ps=ps:=by rw[←d];exact zmA _ _ _
  have tr60:∀ u∈S.ts,-60≤u.1∧u.1≤60:=λu hu=>by obtain⟨i,hi⟩:=List.getElem?_of_mem hu;exact(g i u hi).2.1
  refine⟨A,F4,O,pr,r,S,R,l,J,lnD ps hh,ps,rfl,U4,⟨zob (SqT.of l2) Y th2,znX _ _,⟨_,_,SqT.of l2⟩,Y,Nat.le_trans L.pl (by decide),Nat.le_trans L.rl (by decide),tl,tr60,g.negs,λc=>Nat.le_trans (L.gl c) (by decide)⟩,λhm=>qE hm _ U2.t.f,λhm H5 O5 R5 U5=>?_⟩;rw[lat]at U5;have U6:=U5.base (sF3.trans sF4);refine rest (S.put (lnD ps hh) ps ps) O5 H5 R5 _ rfl rfl rfl rfl (g.more:TOk (S.rs++[ps]) S.ts) U6 (U5.t.f.tup t4) (U5.t.f.tup tp4) (λe=>?_) λa rs j la ea D M=>?_
  ·subst e;exact qN rfl _ _ _ U6
  ·have ne:aX S.rs S.ts I≠[]:=by rw[d,ea];exact λz=>nomatch z
   obtain⟨a',rs',G,c1,c2,c3⟩:=L.c.next (by lia) ne (by rw[d];exact mx) D M od1 od2;rw[d]at G c1;have Z:a'=a:=by rw[ea]at G;injection G with h;exact h.symm
   subst Z;exact⟨c1 (lnD ps hh),c3 _ (by lia),.inr ⟨hm,by rw[d,hhs];rfl,by rw[d];rfl⟩⟩
 ·refine⟨_,rfl,rest S O H1 R I rfl rfl rfl rfl g U1 (SqT.of h1) (SqT.of h2) (λe=>absurd e hy.2) λa rs j la ea D M=>?_⟩;have ne:aX S.rs S.ts I≠[]:=by rw[d];exact hy.2
  obtain⟨a',rs',G,c1,c2,c3⟩:=L.c.next (by lia) ne (by rw[d];exact mx) D M od1 od2;rw[d]at G;have Z:a'=a:=by rw[ea]at G;injection G with h;exact h.symm
  subst Z;exact⟨c2 hy.1,c3 _ (by have:=L.c.ln.f0;lia),.inl ⟨rfl,rfl⟩⟩
 ·have d1:=oDq c1;injection d1 with d1;have d2:(0:Int) < (((ps.map V.int).length:Nat):Int):=oDq c2;rw[hhl]at d1;rw[hpl]at d2;exact⟨by lia,λz=>by rw[z]at d2;exact absurd d2 (by decide)⟩
 ·have d2:¬(0:Int) < (((ps.map V.int).length:Nat):Int):=λz=>c2 (dTq z);rw[hpl]at d2;exact λz=>z.2 (List.length_eq_zero_iff.mp (by lia))
 ·exact λz=>c1 (dTq (by rw[hhl,z.1];rfl))
end
section
variable {K:W.Frag}
def SeqJ (J:It)(ps:List Int)(H:Hp):Prop:=∃ b:Hp→Prop,Wk J ps.length b∧(∀ H',ap H H'→b H')∧∀ i H' x a,ap H H'→J.yld i H' x a→a=H'∧∃ k,ps[i]?=some k∧x=.int k
def zlp (b:SqL K H a (ps.map V.int)):SeqJ (Itl K a) ps H:=by
 refine⟨λH'=>SqL K H' a (ps.map V.int),?_,λH' s=>s.seq b,?_⟩
 ·have:=zbD (K:=K) (a:=a) (xs:=ps.map V.int);rw[lM]at this;exact this
 ·rintro i H' x d s ⟨rfl,c⟩;exact⟨rfl,zaW (c _ (s.seq b))⟩
def zmi (b:SqT K H a (ps.map V.int)):SeqJ (Itt K a) ps H:=by
 refine⟨λH'=>SqT K H' a (ps.map V.int),?_,λH' s=>s.tup b,?_⟩
 ·have:=zdf (K:=K) (a:=a) (xs:=ps.map V.int);rw[lM]at this;exact this
 ·rintro i H' x d s ⟨rfl,c⟩;exact⟨rfl,zaW (c _ (s.tup b))⟩
def iSeqI (K:W.Frag)(d:TE):L2.TI:=λc H R=>d c H λx b=>∃ a ps,x=.ref a∧SqI K b a ps∧∀ J,SeqJ J ps b→R J b
def zhH (w:PE X l tl):PI X tg l (iSeqI X.K tl):=by
 intro d s n H R I h;refine thn (w d s n H _ I h) λv c ⟨x,j,g,t,q1⟩=>?_;obtain⟨a,ps,rfl,f,q⟩:=q1;cases t;have k:∀ b∈[c.heap.objs.size],zbS X d j b:=λb y=>by
  have e:b=c.heap.objs.size:=by simpa using y
  subst e;exact g.fpOk (nRq _) (g.hok.fresh (nRq _))
 rcases f with f | f
 ·obtain⟨i,r,p,u⟩:=g.list f;refine wpAny_pyIter_list p.isList ?_;exact⟨c.heap.objs.size,[c.heap.objs.size],_,_,j,rfl,g.kept (t':=c.toks) λb o e=>hG _ e,zfI a _,⟨_,Heap.get?_push_size _ rfl,rfl,rfl⟩,k,q _ (zlp f)⟩
 ·obtain⟨i,r,p,u⟩:=g.tuple f;refine wpAny_pyIter_tuple (show c.heap.IsTuple a i.toArray from p) ?_;exact⟨c.heap.objs.size,[c.heap.objs.size],_,_,j,rfl,g.kept (t':=c.toks) λb o e=>hG _ e,zfo a _,⟨_,Heap.get?_push_size _ rfl,rfl,rfl⟩,k,q _ (zmi f)⟩
def zhM {H:Hp}{c:List At}{xs:List V}{i:Nat}{x:V}(h:aq K H (c.map dA) xs)(e:xs[i]?=some x):∃ a,c[i]?=some a∧Has K H (dA a) x:=by
 obtain⟨d,b,f⟩:=h.get e;rw[List.getElem?_map]at b;cases q:c[i]? with
 | none=>rw[q]at b;cases b
 | some t =>
  rw[q]at b;cases b;exact⟨t,rfl,f⟩
end
def zdG (b:List At):Prop:=∀ a∈b,∃ z,a=.plain z
structure PrP (K:W.Frag)(C:Addr)(H:Hp)(p:Addr)(As:List At):Prop where
 ex:∃ tl al rl Rs,zat K C H p tl al rl [] As Rs
 pl:zdG As
def PrP.same (h:PrP K C H p As)(s:ap H H'):PrP K C H' p As:=by obtain⟨a,d,b,Rs,c⟩:=h.ex;exact⟨⟨a,d,b,Rs,c.same s⟩,h.pl⟩
structure TxG (K:W.Frag)(CG:Addr):Prop where
 cl:Cls K CG
 nL:zaE K CG "least"
 nG:zaE K CG "gathered"
abbrev zjL:Stmt:=zdX
inductive zff (C:Addr):Sp|m{vs H Q E9} (g dx:Addr):vs=[.ref g]→H g=some (.ins C dx [])→(∀ H':Hp,(∀ b o,b≠g→H b=some o→H' b=some o)→Q .non H')→zff C vs H Q E9
def zml:zab ["self"] ["self"] (ao zjL):=fsc
section
variable {P:Program} {w:World} {K:W.Frag} {mg:Str→Option Value} {base:Heap} {aK C CN CT CP CM CG CL f fI fS fH fL fG fA fO fD fK:Addr} {fd dI dS dH dL dG dA' dO dD dK':FuncData}
def zmO (F:Fun K "__init__" "Groups.__init__" zjL f fd)(T:TxG K CG):aI P w K mg base CX0 1 f fd ["self"] (zff CG):=by
 refine F.ok zml (λvs H Q E h=>?_) (λcdv A outer s H vs Q E v h=>?_)
 ·obtain⟨g,c,rfl,_⟩:=h;rfl
 obtain⟨g,c,rfl,p,q⟩:=h;refine⟨_,(ae (zaY (pv 0) zbO rfl)
  (ak (zaY (pv 0) zbO rfl))),?_⟩
 try dsimp only [Cx.nox,Cx.wish,aZ]
 refine λa i=>?_;have u:g≠a:=zad p i;have k:(upd H a (.dK [])) g=some (.ins CG c []):=by rw[ag u];exact p
 have k1:∀ b o,H b=some o→(upd H a (.dK [])) b=some o:=au i _;generalize upd H a (.dK [])=n at k k1;refine⟨_,rfl,g,CG,c,_,rfl,k,T.cl,T.nL,(by decide),?_⟩;have d:(upd n g (.ins CG c (zaT "least" (.ref a) []))) g=some (.ins CG c [("least",.ref a)]):=af;have k2:∀ b o,b≠g→H b=some o→(upd n g (.ins CG c (zaT "least" (.ref a) []))) b=some o:=λb o e h=>by rw[ag e];exact k1 b o h
 generalize upd n g (.ins CG c (zaT "least" (.ref a) []))=x at d k2;refine λr j=>?_;have t:g≠r:=zad d j;refine⟨_,rfl,g,CG,c,_,rfl,by rw[ag t];exact d,T.cl,T.nG,(by show 1 < 1000;decide),?_⟩;refine q _ λb o e h=>?_;have l:b≠r:=λz=>by have:=k2 b o e h;rw[z,j]at this;cases this
 rw[ag e,ag l];exact k2 b o e h
def zhK (g:H x=none)(a:H dx=none)(k:∀ b o,b≠x→(upd (upd H dx u) x v) b=some o→H1 b=some o):ap H H1:=λb o e=>by
 have c:b≠x:=λz=>by rw[z,g]at e;cases e
 have d:b≠dx:=λz=>by rw[z,a]at e;cases e
 exact k b o c (by rw[ag c,ag d];exact e)
inductive zeV (K:W.Frag):Sp|m{vs H Q E9} (a:Addr) (g:V):vs=[.ref a,g]→SqL K H a []→(∀ H' l,ap H H'→H l=none→H' l=some (.lst [])→Q (.ref l) H')→zeV K vs H Q E9
def zcJ:zab ["given","groups","found","number","pair"] ["given","groups"] (ao zdU):=fsc
def zmN (F:Fun K "given_links" "given_links" zdU f fd)(n:TxB K mg CL):aI P w K mg base CX0 1 f fd ["given","groups"] (zeV K):=by
 refine F.ok zcJ (λvs H Q E h=>?_) (λcdv A outer s H vs Q E o h=>?_)
 ·obtain⟨a,g,rfl,_⟩:=h;rfl
 obtain⟨a,g,rfl,j,q⟩:=h;refine⟨_,(ae (aF (i:=2) zcJ.nd rfl (Or.inl rfl) (zaD ac))
  (ae (zaN PassesOwn.never rfl (zgl rfl n.enumerate (aa (pv 0) ac)) (zcO rfl (zaB (zae (i:=3) zcJ.nd rfl (Or.inl rfl)) (zaB (zae (i:=4) zcJ.nd rfl (Or.inl rfl)) zcf)))
   zcZ)
  (ak (aJ (pv 2))))),?_⟩
 try dsimp only [Cx.nox,Cx.wish,aZ]
 refine⟨lS0,λl d=>?_⟩;have c:ap H (upd H l (.lst [])):=au d _;refine⟨_,rfl,a,rfl,⟨_,c.seq j⟩,zba (tb:=λ_ _ _=>False) (zgf (xs:=([]:List V))) (λi b H'=>b=[some (.ref a),some g,some (.ref l),none,none]∧H'=upd H l (.lst [])) (λi b H' ⟨_,e⟩=>e ▸ c.seq j) ⟨rfl,rfl⟩ ?_ ?_⟩
 ·rintro i b r x p k;exact absurd k (Nat.not_lt_zero _)
 rintro b H' ⟨rfl,rfl⟩;exact⟨_,rfl,q _ l c d af⟩
def zbZ:zab ["terms","groups","noted","found","number","term","sign","first"] ["terms","groups"] (ao zdV):=fsc
def zmT (F:Fun K "alike_links" "alike_links" zdV f fd)(r:TxB K mg CL):aI P w K mg base CX0 1 f fd ["terms","groups"] (zeV K):=by
 refine F.ok zbZ (λvs H Q E h=>?_) (λcdv A outer s H vs Q E t h=>?_)
 ·obtain⟨a,g,rfl,_⟩:=h;rfl
 obtain⟨a,g,rfl,n,q⟩:=h;refine⟨_,(ae (aF (i:=2) zbZ.nd rfl (Or.inl rfl) zbO)
  (ae (aF (i:=3) zbZ.nd rfl (Or.inl rfl) (zaD ac))
  (ae (zaN PassesOwn.never rfl (zgl rfl r.enumerate (aa (pv 0) ac)) (zcO rfl (zaB (zae (i:=4) zbZ.nd rfl (Or.inl rfl)) (zaB (zae (i:=5) zbZ.nd rfl (Or.inl rfl)) zcf)))
   zcZ)
  (ak (aJ (pv 3)))))),?_⟩
 try dsimp only [Cx.nox,Cx.wish,aZ]
 refine λd p=>?_;have j:ap H (upd H d (.dK [])):=au p _;refine⟨lS0,λl k=>?_⟩;have c:=j.trans (au k (.lst []));refine⟨_,rfl,a,rfl,⟨_,c.seq n⟩,zba (tb:=λ_ _ _=>False) (zgf (xs:=([]:List V))) (λi b H'=>b=[some (.ref a),some g,some (.ref d),some (.ref l),none,none,none,none]∧H'=upd (upd H d (.dK [])) l (.lst [])) (λi b H' ⟨_,e⟩=>e ▸ c.seq n) ⟨rfl,rfl⟩ ?_ ?_⟩
 ·rintro i b v x u o;exact absurd o (Nat.not_lt_zero _)
 rintro b H' ⟨rfl,rfl⟩;exact⟨_,rfl,q _ l c (j.free k) af⟩
inductive zfL (K:W.Frag):Sp|m{vs H Q E9} (a b:Addr):vs=[.ref a,.ref b]→SqL K H a []→SqL K H b []→(∀ H' l,ap H H'→H l=none→H' l=some (.lst [])→Q (.ref l) H')→zfL K vs H Q E9
def zfg:zab ["terms","given","groups","found","more"] ["terms","given"] (ao zhD):=fsc
def zmI (F:Fun K "links" "links" zhD f fd)(O:TxB K mg CL)(R:Mk K CG fI)(T:aI P w K mg base CX0 1 fI dI ["self"] (zff CG))(N:az K dI ["self"] [])(L:mg "Groups"=some (.ref CG))
  (l:FB P w K mg base CX0 1 "given_links" fG dG ["given","groups"] (zeV K))(n:FB P w K mg base CX0 1 "alike_links" fA dA' ["terms","groups"] (zeV K)):aI P w K mg base CX0 3 f fd ["terms","given"] (zfL K):=by
 refine F.ok zfg (λvs H Q E h=>?_) (λcdv A outer s H vs Q E x h=>?_)
 ·obtain⟨a,b,rfl,_⟩:=h;rfl
 obtain⟨a,b,rfl,G,D,q⟩:=h;have e:=x.mono (j:=1) (by decide);refine⟨_,(ae (aF (i:=2) zfg.nd rfl (Or.inl rfl) (zfj R T x rfl L N .nil zak))
  (ae (aF (i:=3) zfg.nd rfl (Or.inl rfl) (zai l.ok e rfl l.m l.kp l.b .nil zak (aa (pv 1) (aa (pv 2) ac))))
  (ae (aF (i:=4) zfg.nd rfl (Or.inl rfl) (zai n.ok e rfl n.m n.kp n.b .nil zak (aa (pv 0) (aa (pv 2) ac))))
  (ae (zep PassesOwn.never (aA zbk (aw zaa rfl O.len bLq (aa (pv 4) ac)) ai) zcZ)
  (ak (aJ (pv 3))))))),?_⟩
 try dsimp only [Cx.nox,Cx.wish,aZ]
 refine λg M B p _=>⟨g,M,rfl,af,λX k1=>⟨rfl,?_⟩⟩;have o:=zhK B p k1;refine⟨_,rfl,_,rfl,b,.ref g,rfl,o.seq D,λW v y z J=>?_⟩;have d:=o.trans y;refine⟨_,rfl,_,rfl,a,.ref g,rfl,d.seq G,λS u t U I=>?_⟩;refine⟨λk r H'=>r=[some (.ref a),some (.ref b),some (.ref g),some (.ref v),some (.ref u)]∧H'=S,⟨0,rfl,rfl⟩,?_⟩;rintro k r H' ⟨rfl,rfl⟩;refine⟨_,rfl,u,_,rfl,.inl (SqL.of I),_,_,rfl,rfl,_,rfl,aO (λc=>absurd c (by decide)) (λ_=>?_)⟩;exact⟨_,rfl,q _ v (d.trans t) (o.free z) (t _ _ J)⟩
inductive ziE (K:W.Frag):Sp|m{vs H Q E9} (a:Addr):vs=[.ref a]→SqL K H a []→(∀ H' g,ap H H'→Q (.ref g) H')→ziE K vs H Q E9
def zev:zab ["links","groups","link"] ["links"] (ao zeM):=fsc
def ok_gof (F:Fun K "groups_of" "groups_of" zeM f fd)(t:Mk K CG fI)(v:aI P w K mg base CX0 1 fI dI ["self"] (zff CG))(r:az K dI ["self"] [])(o:mg "Groups"=some (.ref CG)):aI P w K mg base CX0 3 f fd ["links"] (ziE K):=by
 refine F.ok zev (λvs H Q E h=>?_) (λcdv A outer s H vs Q E k h=>?_)
 ·obtain⟨a,rfl,_⟩:=h;rfl
 obtain⟨a,rfl,j,q⟩:=h;refine⟨_,(ae (aF (i:=1) zev.nd rfl (Or.inl rfl) (zfj t v k rfl o r .nil zak))
  (ae (zaN PassesOwn.never rfl (zbE (pv 0)) (zae (i:=2) zev.nd rfl (Or.inl rfl)) zcZ)
  (ak (aJ (pv 1))))),?_⟩
 try dsimp only [Cx.nox,Cx.wish,aZ]
 refine λg p n d _=>⟨g,p,rfl,af,λu k1=>⟨rfl,?_⟩⟩;have c:=zhK n d k1;refine⟨_,rfl,a,rfl,⟨_,c.seq j⟩,zba (tb:=λ_ _ _=>False) (zbD (xs:=([]:List V))) (λi b H'=>b=[some (.ref a),some (.ref g),none]∧H'=u) (λi b H' ⟨_,e⟩=>e ▸ c.seq j) ⟨rfl,rfl⟩ ?_ ?_⟩
 ·rintro i b z x y l;exact absurd l (Nat.not_lt_zero _)
 rintro b H' ⟨rfl,rfl⟩;exact⟨_,rfl,q _ g c⟩
inductive zeC (K:W.Frag):Sp|m{vs H Q E9} (a:Addr):vs=[.int 0,.ref a]→SqL K H a []→(∀ H' l,ap H H'→H l=none→H' l=some (.lst [])→Q (.ref l) H')→zeC K vs H Q E9
def zi1:zab ["many","links","groups"] ["many","links"] (ao zgj):=fsc
def zmM (F:Fun K "heads" "heads" zgj f fd)(v:TxB K mg CL)(c:FB P w K mg base CX0 3 "groups_of" fO dO ["links"] (ziE K)):aI P w K mg base CX0 4 f fd ["many","links"] (zeC K):=by
 refine F.ok zi1 (λvs H Q E h=>?_) (λcdv A outer s H vs Q E r h=>?_)
 ·obtain⟨a,rfl,_⟩:=h;rfl
 obtain⟨a,rfl,u,q⟩:=h;refine⟨_,(ae (aF (i:=2) zi1.nd rfl (Or.inr rfl) (zai c.ok r rfl c.m c.kp c.b .nil zak (aa (pv 1) ac)))
  (ak (aJ (zcS (N':=["term","groups"]) (ix:=[2]) rfl rfl (by decide +kernel) (by decide +kernel) rfl (λp=>zcd (sc:=ao zgj) p rfl (by decide +kernel) (by decide +kernel)) (by decide +kernel) rfl rfl (λj i h=>match j,h with | 0,h=>by cases h;exact⟨_,rfl,rfl,.inl rfl,.inl rfl⟩ | n+1,h=>by simp at h) (zc5 rfl v.range (aa (pv 0) ac)) (λ_ _ _ _=>zgn))))),?_⟩
 try dsimp only [Cx.nox,Cx.wish,aZ]
 refine⟨_,rfl,a,rfl,u,λy g e=>?_⟩;refine⟨_,rfl,0,rfl,by decide,by decide,λD k=>zcT (fv:=[]) (te:=λ_ _ _=>False) zfa (λi us H'=>ap y H'∧us=[]) (λ_ _ _ _=>trivial) ⟨au k _,rfl⟩ ?_ ?_⟩
 ·rintro i us l x z t;exact absurd t (Nat.not_lt_zero _)
 ·rintro us l d ⟨o,rfl⟩;exact q l D (e.trans o) (e.free k) d
inductive zfe (K:W.Frag)(C:Addr):Sp|m{vs H Q E9} (p:Addr) (As:List At) (k:Int):vs=[.ref p,.int k]→PrP K C H p As→Q .non H→zfe K C vs H Q E9
def zgv:zab ["problem","number","atom"] ["problem","number"] (ao zfp):=fsc
def zmE (F:Fun K "sameness" "sameness" zfp f fd)(T:Txt K mg aK C CN CT CP CM):aI P w K mg base CX0 1 f fd ["problem","number"] (zfe K C):=by
 refine F.ok zgv (λvs H Q E h=>?_) (λcdv A outer s H vs Q E W h=>?_)
 ·obtain⟨p,v,k,rfl,_⟩:=h;rfl
 obtain⟨p,v,k,rfl,S,q⟩:=h;obtain⟨N,u,O,Rs,I⟩:=S.ex;obtain⟨⟨t,l⟩,_,⟨ys,n,o⟩,_⟩:=id I;have J:ys.length=v.length:=by rw[←o.length,lM]
 refine⟨_,(ae (zaj (PW.pt (zcB (aA zd1 (pv 1) ai) (zcb (aA zbk (pv 1) (aw zaa rfl T.len bLq (aa (aB (pv 0) rfl) ac))))))
   (ak (aJ zcc))
   zac)
  (ae (aF (i:=2) zgv.nd rfl (Or.inl rfl) (aW zaK (aB (pv 0) rfl) (aU zdg (pv 1) ai)))
  (ak (aJ (zct (aA zbd (aW zal (pv 2) ai) zaU) zgn zcc))))),?_⟩
 try dsimp only [Cx.nox,Cx.wish,aZ]
 refine⟨_,rfl,_,_,rfl,rfl,_,rfl,aO (λ_=>q) (λc=>?_)⟩;have Y:¬k < 1:=λz=>c (dTq z);refine⟨_,rfl,_,rfl,p,C,t,_,_,rfl,l,T.cl,T.nA,zaX _ _ _,u,_,rfl,.inl (SqL.of n),_,_,rfl,rfl,_,rfl,aO (λ_=>q) (λc=>?_)⟩;have X:¬((ys.length:Nat):Int) < k:=λz=>c (dTq z);obtain⟨j,G,y⟩:∃ j:Nat,k - 1=(j:Int)∧j < ys.length:=⟨(k - 1).toNat,by lia,by lia⟩;have g:=gG y;obtain⟨a,B,r⟩:=zhM o g;obtain⟨z,rfl⟩:=S.pl a (mOq B);simp only[dA,Has,aq]at r;obtain⟨e,zs,D,x,M,U,rfl,rfl,L,R,rfl,rfl,rfl⟩:=r;have b:atI ys (k - 1)=some (.ref e):=by rw[G,←D];exact zah g
 have d:atI [V.str "plain",V.str z] 0=some (.str "plain"):=zah (j:=0) rfl;refine⟨_,rfl,p,C,t,_,_,rfl,l,T.cl,T.nA,zaX _ _ _,_,rfl,_,_,rfl,rfl,u,_,_,_,rfl,rfl,SqL.of n,b,?_⟩;exact⟨_,rfl,e,_,_,_,rfl,rfl,x,d,rfl,_,rfl,aO (λc=>absurd c (by decide +kernel)) (λ_=>q)⟩
inductive zdz (K:W.Frag)(C:Addr):Sp|m{vs H Q E9} (p q:Addr) (As:List At) (ps:List Int):vs=[.ref p,.ref q]→PrP K C H p As→SqI K H q ps→(∀ H' l,ap H H'→H l=none→H' l=some (.lst [])→Q (.ref l) H')→zdz K C vs H Q E9
def zjv:zab ["problem","held"] ["problem","held"] (ao zdH):=fsc
def zmL (F:Fun K "held_same" "held_same" zdH f fd)(d:FB P w K mg base CX0 1 "sameness" fS dS ["problem","number"] (zfe K C)):aI P w K mg base CX0 2 f fd ["problem","held"] (zdz K C):=by
 refine F.ok zjv (λvs H Q E h=>?_) (λcdv A outer s H vs Q E y h=>?_)
 ·obtain⟨p,q,t,ps,rfl,_⟩:=h;rfl
 obtain⟨p,q,t,ps,rfl,S,z,G⟩:=h;refine⟨_,(ak (aJ (zeR (N':=["part","problem"]) (ix:=[0]) rfl rfl (by decide +kernel) (by decide +kernel) rfl (λg=>zcd (sc:=ao zdH) g rfl (by decide +kernel) (by decide +kernel)) (by decide +kernel) rfl rfl (λj i h=>match j,h with | 0,h=>by cases h;exact⟨_,rfl,rfl,.inl rfl,.inl rfl⟩ | n+1,h=>by simp at h) (zhH (pv 1)) (λ_ _ _ _=>(aA zgo (zai d.ok y rfl d.m d.kp d.b .nil zak (aa (pv 1) (aa (pv 0) ac))) zcc)) (λ_ _ _ _=>(pv 0))))),?_⟩
 try dsimp only [Cx.nox,Cx.wish,aZ]
 refine⟨_,rfl,q,ps,rfl,z,λJ ⟨L,W,g,e⟩ D o=>zek W (λi us H'=>ap H H'∧us=[]) (λi us H' ⟨v,_⟩=>g _ v) ⟨au o _,rfl⟩ ?_ ?_⟩
 ·rintro i us M x r B l a ⟨c,rfl⟩ u;obtain⟨rfl,k,I,rfl⟩:=e _ _ _ _ c u;exact⟨_,rfl,_,rfl,p,t,k,rfl,S.same c,rfl,_,rfl,zck (zdx B l a ⟨c,rfl⟩)⟩
 ·rintro us r a ⟨c,rfl⟩;exact G r D c o a
def zir:zab ["problem","held"] ["problem","held"] (ao zdi):=fsc
def zkD (F:Fun K "same_links" "same_links" zdi f fd)(T:Txt K mg aK C CN CT CP CM)(c:FB P w K mg base CX0 3 "links" fL dL ["terms","given"] (zfL K))(d:FB P w K mg base CX0 2 "held_same" fH dH ["problem","held"] (zdz K C)):aI P w K mg base CX0 4 f fd ["problem","held"] (zdz K C):=by
 refine F.ok zir (λvs H Q E h=>?_) (λcdv A outer s H vs Q E l h=>?_)
 ·obtain⟨p,q,t,ps,rfl,_⟩:=h;rfl
 obtain⟨p,q,t,ps,rfl,S,M,Z⟩:=h;have g:=l.mono (j:=2) (by decide);obtain⟨u,al,rl,Rs,Y⟩:=S.ex;obtain⟨⟨X,N⟩,⟨ts,L,R⟩,_⟩:=id Y;have v:ts=[]:=List.length_eq_zero_iff.mp (by rw[←R.length];rfl);subst v;refine⟨_,(ak (aJ (zai c.ok l rfl c.m c.kp c.b .nil zak (aa (aB (pv 0) rfl) (aa (zcS (N':=["part","problem"]) (ix:=[0]) rfl rfl (by decide +kernel) (by decide +kernel) rfl (λB=>zcd (sc:=ao zdi) B rfl (by decide +kernel) (by decide +kernel)) (by decide +kernel) rfl rfl (λj i h=>match j,h with | 0,h=>by cases h;exact⟨_,rfl,rfl,.inl rfl,.inl rfl⟩ | n+1,h=>by simp at h) (zbE (zai d.ok g rfl d.m d.kp d.b .nil zak (aa (pv 0) (aa (pv 1) ac)))) (λ_ _ _ _=>zgn)) ac))))),?_⟩
 try dsimp only [Cx.nox,Cx.wish,aZ]
 refine⟨_,rfl,p,C,X,_,_,rfl,N,T.cl,T.nT,zb9 _ _ _,_,rfl,_,rfl,p,q,t,ps,rfl,S,M,λH1 J z n1 o=>?_⟩;refine⟨J,rfl,⟨_,SqL.of o⟩,λD U=>zcT (fv:=[]) (te:=λ_ _ _=>False) (zbD (xs:=([]:List V))) (λi us H'=>ap H1 H'∧us=[]) (λi us H' ⟨e,_⟩=>e.seq (SqL.of o)) ⟨au U _,rfl⟩ ?_ ?_⟩
 ·rintro i us H2 x r O;exact absurd O (Nat.not_lt_zero _)
 ·rintro us H2 k ⟨e,rfl⟩;have a:=z.trans e;exact⟨u,D,rfl,a.seq (SqL.of L),SqL.of k,λr I y G W=>Z r I (a.trans y) (a.free G) W⟩
inductive zfQ (K:W.Frag)(C:Addr):Sp|m{vs H Q E9} (p q fo:Addr) (As:List At) (ps:List Int):vs=[.ref p,.ref q,.ref fo]→PrP K C H p As→SqI K H q ps→SqL K H fo []→ps.length < 64→(∀ H',ap H H'→Q .non H')→zfQ K C vs H Q E9
def zca:zab ["problem","held","found","least","atom","pair"] ["problem","held","found"] (ao zdj):=fsc
def zlG (F:Fun K "clashing_atom" "clashing_atom" zdj f fd)(T:Txt K mg aK C CN CT CP CM)(TB:TxB K mg CL)(z:FB P w K mg base CX0 4 "heads" fD dD ["many","links"] (zeC K))(y:FB P w K mg base CX0 1 "sameness" fS dS ["problem","number"] (zfe K C)):aI P w K mg base CX0 5 f fd ["problem","held","found"] (zfQ K C):=by
 refine F.ok zca (λvs H Q E h=>?_) (λcdv A outer s H vs Q E Y h=>?_)
 ·obtain⟨p,q,R,As,ps,rfl,_⟩:=h;rfl
 obtain⟨p,q,R,As,ps,rfl,S,hq,hf,p64,Q0⟩:=h;have M:=Y.mono (j:=1) (by decide);obtain⟨tl,al,rl,Rs,S'⟩:=S.ex;obtain⟨⟨dx,ho⟩,⟨ts,ht,hT⟩,_⟩:=id S';have t0:ts=[]:=List.length_eq_zero_iff.mp (by rw[←hT.length];rfl);subst t0;refine⟨_,(ae (aF (i:=3) zca.nd rfl (Or.inl rfl) (zai z.ok Y rfl z.m z.kp z.b .nil zak (aa (aw zaa rfl TB.len bLq (aa (aB (pv 0) rfl) ac)) (aa (pv 2) ac))))
  (ae (zaN PassesOwn.never rfl (zbE (aw zga rfl TB.sorted PyProof.Rows.Boot.sorted (aa (zeR (N':=["part"]) (ix:=[]) rfl rfl (by decide +kernel) (by decide +kernel) rfl (λ_=>⟨[],zcv (by decide +kernel) (by decide +kernel)⟩) (by decide +kernel) rfl rfl (λj i h=>by simp at h) (zhH (pv 1)) (λ_ _ _ _=>(aA zd1 (pv 0) ai)) (λ_ _ _ _=>(zaI zay (pv 0)))) ac))) (zae (i:=4) zca.nd rfl (Or.inl rfl))
   (ae (aF (i:=5) zca.nd rfl (Or.inl rfl) (zai y.ok M rfl y.m y.kp y.b .nil zak (aa (pv 0) (aa (pv 4) ac))))
    (ak (zaj (PW.pt (zhd (aA zgo (pv 5) zcc) (zgk znB))) zcZ zac))))
  (ak (aJ zcc)))),?_⟩
 try dsimp only [Cx.nox,Cx.wish,aZ]
 refine⟨_,rfl,p,C,dx,_,_,rfl,ho,T.cl,T.nT,zb9 _ _ _,tl,_,rfl,.inl (SqL.of ht),_,rfl,R,rfl,hf,λH1 l1 X _ h1=>?_⟩;have N:=hq.same X;refine⟨_,rfl,q,ps,rfl,N,λJ ⟨Ok,W,ok,B⟩ D Z=>zek W (λi us H'=>ap H1 H'∧∃ ns:List Int,us=ns.map V.int∧ns.length≤i) (λi us H' ⟨s2,_⟩=>ok _ s2) ⟨au Z _,[],rfl,nRq _⟩ ?_ ?_⟩
 ·rintro i us H9 x t O r d ⟨n,ns,rfl,nl⟩ yy;obtain⟨rfl,k,hk,rfl⟩:=B _ _ _ _ n yy;refine⟨_,rfl,_,_,rfl,rfl,_,rfl,aO (λc=>?_) (λc=>?_)⟩
  ·refine⟨_,rfl,_,rfl,za5 (bsz _ (by lia)) O r d ⟨n.upd Z,ns++[-k],?_,by rw[lAq];show _+1≤_;lia⟩⟩;rw[mAq];rfl
  ·exact zdx O r d ⟨n,ns,rfl,by lia⟩
 ·rintro us t d ⟨n,ns,rfl,nl⟩;refine⟨D,ns,rfl,SqL.of d,by lia,λl L hl _ _=>?_⟩;have U:ap t (upd t l (.lst (L.map V.int))):=au hl _;have g:=(X.trans n).trans U;have v:=af (H:=t) (a:=l) (o:=.lst (L.map V.int));generalize upd t l (.lst (L.map V.int))=H4 at U g v;refine⟨l,rfl,⟨_,SqL.of v⟩,zba zbD (λi u H'=>∃ I G:Option V,u=[some (.ref p),some (.ref q),some (.ref R),some (.ref l1),I,G]∧H'=H4) (λi u H' ⟨_,_,_,e⟩=>e ▸ SqL.of v) ⟨none,none,rfl,rfl⟩ ?_ ?_⟩
  ·rintro i u H5 x H6 O ⟨I,G,rfl,rfl⟩ ⟨rfl,hx⟩;obtain⟨k,hk,rfl⟩:=zaW (hx _ (SqL.of v));exact⟨_,rfl,_,rfl,p,As,k,rfl,S.same g,_,rfl,rfl,_,rfl,aO (λc=>absurd c (by decide)) (λ_=>⟨_,_,rfl,rfl⟩)⟩
  ·rintro u H' ⟨I,G,rfl,rfl⟩;exact Q0 _ g
inductive zfN (K:W.Frag)(C:Addr):Sp|m{vs H Q E9} (p q:Addr) (As:List At) (ps:List Int):vs=[.ref p,.ref q]→PrP K C H p As→SqI K H q ps→ps.length < 64→(∀ H',ap H H'→Q .non H')→zfN K C vs H Q E9
def zgN:zab ["problem","held","found","atom"] ["problem","held"] (ao zhE):=fsc
def zlD (F:Fun K "clash" "clash" zhE f fd)(a:FB P w K mg base CX0 4 "same_links" fL dL ["problem","held"] (zdz K C))(d:FB P w K mg base CX0 5 "clashing_atom" fK dK' ["problem","held","found"] (zfQ K C)):aI P w K mg base CX0 6 f fd ["problem","held"] (zfN K C):=by
 refine F.ok zgN (λvs H Q E h=>?_) (λcdv A outer s H vs Q E n h=>?_)
 ·obtain⟨p,q,l,ps,rfl,_⟩:=h;rfl
 obtain⟨p,q,l,ps,rfl,S,o,g,v⟩:=h;have k:=n.mono (j:=4) (by decide);refine⟨_,(ae (aF (i:=2) zgN.nd rfl (Or.inl rfl) (zai a.ok k rfl a.m a.kp a.b .nil zak (aa (pv 0) (aa (pv 1) ac))))
  (ae (aF (i:=3) zgN.nd rfl (Or.inl rfl) (zai d.ok n rfl d.m d.kp d.b .nil zak (aa (pv 0) (aa (pv 1) (aa (pv 2) ac)))))
  (ae (zaj (aA zk8 (pv 3) zcc) (ak (aJ zcc)) zac)
  zcZ))),?_⟩
 try dsimp only [Cx.nox,Cx.wish,aZ]
 refine⟨_,rfl,_,rfl,p,q,l,ps,rfl,S,o,λy t e _ u=>?_⟩;refine⟨_,rfl,_,rfl,_,rfl,p,q,t,l,ps,rfl,S.same e,o.same e,SqL.of u,g,λx r=>?_⟩;exact⟨_,rfl,rfl,_,rfl,aO (λ_=>v _ (e.trans r)) (λc=>absurd (by decide) c)⟩
end
abbrev zk1:Stmt:=zgx
structure SpG (n:Nat)(B:List (List Int))(S:HS):Prop where
 m:zbC n B S
 n40:n≤40
 rl:S.rs.length≤199000
structure CfG (n:Nat)(B:List (List Int))(S S':HS)(f:Int):Prop where
 e:zcK S S'
 c:zcV n B S' f
 g:∀ c,(S'.wg c).length≤S'.rs.length
structure RsG (n:Nat)(B:List (List Int))(S S':HS):Prop where
 e:zcK S S'
 m:zbC n B S'
 l:S'.lk=S'.ts.length
inductive zeW (K:W.Frag)(C CP:Addr):Sp|m{vs H Q E9} (A:HA) (F O:Hp) (pr:Addr) (most:Int) (S:HS) (R:HC) (n:Nat) (B:List (List Int)) (As:List At):vs=[.ref A.h]→Hu K C F O H A pr most S S.hs R→SpG n B S→PrP K CP F pr As→(∀ H' O' R' S',RsG n B S S'→Hu K C F O' H' A pr most S' S'.hs R'→Q .non H')→(∀ H' O' R' S' f,CfG n B S S' f→Hu K C F O' H' A pr most S' S'.hs R'→Q (.int f) H')→zeW K C CP vs H Q E9
def zhC:zab ["self","fails","line"] ["self"] (ao zk1):=fsc
section
variable {P:Program} {w:World} {K:W.Frag} {mg:Str→Option Value} {base:Heap} {C CP CL f fL fK:Addr} {fd dL dK':FuncData}
def znR (F:Fun K "grow" "Hunt.grow" zk1 f fd)(T:TxH K C)(TB:TxB K mg CL)(mL:zbh K C "look_at" fL)(BL:aI P w K mg base CX0 2 fL dL ["self","part"] (zhx K C))(bL:az K dL ["self","part"] [])
  (BK:FB P w K mg base CX0 6 "clash" fK dK' ["problem","held"] (zfN K CP)):aI P w K mg base CX0 7 f fd ["self"] (zeW K C CP):=by
 refine F.ok zhC (λvs H Q E h=>?_) (λcdv Ar outer s H vs Q E hr h=>?_)
 ·obtain⟨A,F',O,G,d,S,R,n,B,As,rfl,_⟩:=h;rfl
 obtain⟨A,F',O,G,d,S,R,n,B,As,rfl,U,L,PP,qN,qF⟩:=h;have hr2:=hr.mono (j:=2) (by decide);refine⟨_,(ae (zep PassesOwn.never (aA zd1 (aB (pv 0) rfl) (aw zaa rfl TB.len bLq (aa (aB (pv 0) rfl) ac)))
   (ae (aF (i:=1) zhC.nd rfl (Or.inl rfl) (zaZ (pv 0) T.cl mL BL hr2 bL .nil zak (aa (zaI zay (aW zal (aW zaK (aB (pv 0) rfl) (aB (pv 0) rfl)) ai)) ac)))
    (ae (zlt (pv 0) ai in_add)
    (ak (zaj (aA zgo (pv 1) zcc)
     (ak (aJ (pv 1)))
     zac)))))
  (ae (aF (i:=2) zhC.nd rfl (Or.inl rfl) (zai BK.ok hr rfl BK.m BK.kp BK.b .nil zak (aa (aB (pv 0) rfl) (aa (zcS (N':=["step"]) (ix:=[]) rfl rfl (by decide +kernel) (by decide +kernel) rfl (λ_=>⟨[],zcv (by decide +kernel) (by decide +kernel)⟩) (by decide +kernel) rfl rfl (λj i h=>by simp at h) (zbE (aB (pv 0) rfl)) (λ_ _ _ _=>(aW (r:=zeb K) zal (pv 0) ai))) ac))))
  (ak (aJ (zct (aA zk8 (pv 2) zcc) zcc zgn))))),?_⟩
 try dsimp only [Cx.nox,Cx.wish,aZ]
 have n40:=L.n40;refine⟨λk σ H'=>∃(v1:Option V) (q:HS) (O':Hp) (R':HC),σ=[some (.ref A.h),v1,none]∧k=n - q.lk∧zcK S q∧zbC n B q∧Hu K C F' O' H' A G d q q.hs R',⟨_,none,S,O,R,rfl,rfl,zcK.refl S,L.m,U⟩,?_⟩;rintro k σ H1 ⟨v1,a,O1,Y,rfl,ek,E1,M1,o⟩;have zl:Y.zs.length=a.ts.length:=Hu.zlen o;have tln:=M1.b.tlen;refine⟨_,rfl,A.h,C,A.dx,_,_,rfl,o.ins,T.cl,T.n_looked,zfZ,_,rfl,A.h,C,A.dx,_,_,rfl,o.ins,T.cl,T.n_trail,zbQ,A.tr,_,rfl,.inl (SqL.of (o.at' 3 rfl rfl)),_,_,rfl,rfl,_,rfl,aO (λc=>?_) (λc=>?_)⟩
 ·have c1:((a.lk:Nat):Int) < ((Y.zs.length:Nat):Int):=oDq c;have W:a.lk < a.ts.length:=by lia
  have N:=gG W;generalize a.ts[a.lk]=I at N;have hx:=gG (l:=Y.zs) (i:=a.lk) (by lia);obtain⟨t1,p,v,ex,hp⟩:=zcG o.u.tr hx;rw[N]at v;injection v with v;subst v;have at1:atI Y.zs ((a.lk:Nat):Int)=some (.ref p):=by rw[←ex];exact zah hx
  have LK:=M1.look (by lia) N;have Z:=LkI.all M1 (by lia) (c:=-I.1) (by rw[Int.neg_neg];exact zcD N) _ (nRq _);have gl:∀ c,((zcC a (-I.1)).1.wg c).length≤a.rs.length:=λc=>by have:=WOk.glen Z.w c;rw[Z.rs,List.drop_length,List.append_nil]at this;exact this
  refine⟨λσ' H'=>∃ m',m' < k∧∃(v1:Option V) (q:HS) (O':Hp) (R':HC),σ'=[some (.ref A.h),v1,none]∧m'=n - q.lk∧zcK S q∧zbC n B q∧Hu K C F' O' H' A G d q q.hs R',λ_ _ z=>z,?_⟩;refine⟨_,rfl,A.h,A.dx,_,rfl,o.ins,rfl,_,rfl,A.h,C,A.dx,_,_,rfl,o.ins,T.cl,T.n_trail,zbQ,_,rfl,A.h,C,A.dx,_,_,rfl,o.ins,T.cl,T.n_looked,zfZ,A.tr,_,_,_,rfl,rfl,SqL.of (o.at' 3 rfl rfl),at1,p,_,_,_,rfl,rfl,hp,rfl,_,rfl,A,F',O1,G,d,a,Y,-I.1,n,B,rfl,o,⟨M1,n40,by rw[E1.rs];exact L.rl,I,N,rfl⟩,λH2 O2 R2 X=>?_⟩;have lkE:(zcC a (-I.1)).1.lk=a.lk:=Z.eq.2.1;have U3:=X.setLk (a.lk+1);have rsE:(zcC a (-I.1)).1.rs=a.rs:=LK.1.rs;generalize hlr:zcC a (-I.1)=lr at *;obtain⟨S2,fl⟩:=lr;dsimp only at X U3 LK gl lkE rsE;refine⟨_,rfl,A.h,C,A.dx,_,_,rfl,X.ins,T.cl,T.n_looked,zfZ,_,_,rfl,rfl,_,_,X.ins,(by show 12 < 1000;decide),?_⟩;have eI:(upd H2 A.h (.ins C A.dx (zaT "looked" (.int (((S2.lk:Nat):Int)+1)) (zbg A G d S2.lk))))=upd H2 A.h (.ins C A.dx (zbg A G d (a.lk+1))):=by rw[lkE];rfl
  rw[eI];generalize upd H2 A.h (.ins C A.dx (zbg A G d (a.lk+1)))=H3 at U3;have EX:zcK S { S2 with lk:=a.lk+1 }:=E1.trans ⟨LK.1.rs,LK.1.pp,LK.1.ts⟩;cases fl with
  | none =>
   refine⟨_,rfl,rfl,_,rfl,aO (λc=>absurd c (show ¬(!decide (V.non=V.non))=true by decide)) (λ_=>?_)⟩;refine⟨_,?_,_,_,_,_,rfl,rfl,EX,LK.2.1 rfl,U3⟩;show n - (a.lk+1) < k;lia
  | some g =>
   refine⟨_,rfl,rfl,_,rfl,aO (λ_=>?_) (λc=>absurd (by rfl) c)⟩;refine⟨_,rfl,qF _ _ _ { S2 with lk:=a.lk+1 } g ⟨EX,LK.2.2 g rfl,λc=>?_⟩ U3⟩;show(S2.wg c).length≤S2.rs.length;rw[rsE];exact gl c
 ·have c1:¬((a.lk:Nat):Int) < ((Y.zs.length:Nat):Int):=λz=>c (dTq z);have W:a.lk=a.ts.length:=by have:=M1.lk;lia
  have M:=o.at' 3 rfl rfl;refine⟨_,rfl,A.h,C,A.dx,_,_,rfl,o.ins,T.cl,T.n_problem,zkN,_,rfl,A.h,C,A.dx,_,_,rfl,o.ins,T.cl,T.n_trail,zbQ,A.tr,rfl,⟨_,SqL.of M⟩,λD hD=>zcT zbD (λi us H'=>ap H1 H'∧us=(a.hs.take i).map V.int) (λi us H' ⟨J,_⟩=>SqL.of (J _ _ M)) ⟨au hD _,rfl⟩ ?_ ?_⟩
  ·rintro i us H2 x H3 hi hly y ⟨J,rfl⟩ ⟨rfl,hx⟩;obtain⟨t,p,N,rfl,hp⟩:=zcG o.u.tr (hx _ (SqL.of (J _ _ M)));have hH:a.hs[i]?=some t.1:=by show(a.ts.map Prod.fst)[i]?=_;rw[List.getElem?_map,N];rfl
   refine⟨_,rfl,p,_,_,_,rfl,rfl,J.tup hp,rfl,za5 (bsz _ (by rw[zl];lia)) hi hly y ⟨J.upd hD,?_⟩⟩;rw[zan hH,mAq];rfl
  ·rintro us H2 y ⟨J,rfl⟩;have e:a.hs.take Y.zs.length=a.hs:=tO (by rw[lM,zl];exact nRq _);rw[e]at y;have X:=o.same J;have h64:a.hs.length < 64:=by rw[lM];lia
   refine⟨G,D,As,a.hs,rfl,PP.same X.t.f,.inl (SqL.of y),h64,λH3 s3=>?_⟩;exact⟨_,rfl,rfl,_,rfl,aO (λ_=>qN _ _ _ a ⟨E1,M1,W⟩ (X.same s3)) (λc=>absurd (by decide) c)⟩
end
abbrev zjO:Stmt:=zf6
structure SpB (n:Nat)(B:List (List Int))(S:HS):Prop where
 b:zbq n B 0 S
 hB:∀ r∈B,r.Nodup∧∀ p∈r,p≠0∧p.natAbs≤n
 n40:n≤40
 bl:B.length≤1000
structure RsB (n:Nat)(B:List (List Int))(S':HS):Prop where
 m:zbC n B S'
 l:S'.lk=S'.ts.length
 p:S'.pp=[]
structure CfB (n:Nat)(B:List (List Int))(S':HS)(f:Int):Prop where
 c:zcV n B S' f
 g:∀ c,(S'.wg c).length≤S'.rs.length
 p:S'.pp=[]
inductive zgK (K:W.Frag)(C CP:Addr):Sp|m{vs H Q E9} (A:HA) (F O:Hp) (pr:Addr) (most:Int) (S:HS) (R:HC) (n:Nat) (B:List (List Int)) (As:List At):vs=[.ref A.h]→Hu K C F O H A pr most S S.hs R→SpB n B S→PrP K CP F pr As→(∀ H' O' R' S',RsB n B S'→Hu K C F O' H' A pr most S' S'.hs R'→Q .non H')→(∀ H' O' R' S' f,CfB n B S' f→Hu K C F O' H' A pr most S' S'.hs R'→Q (.int f) H')→zgK K C CP vs H Q E9
def zgO:zab ["self","number","row"] ["self"] (ao zjO):=fsc
section
variable {P:Program} {w:World} {K:W.Frag} {mg:Str→Option Value} {base:Heap} {C CP CL f fW fH fG:Addr} {fd dW dH dG:FuncData}
def zbq.glen (h:zbq n B i S)(c:Int):(S.wg c).length≤B.length:=by have:=WOk.glen h.w c;have this:(S.wg c).length≤(B.take i).length:=this;rw[List.length_take]at this;lia
def zmS (F:Fun K "begin" "Hunt.begin" zjO f fd)(T:TxH K C)(TB:TxB K mg CL)(mW:zbh K C "watch" fW)(BW:aI P w K mg base CX0 1 fW dW ["self","number","one","other"] (zfd K C))(bW:az K dW ["self","number","one","other"] [])
  (mH:zbh K C "hold" fH)(BH:aI P w K mg base CX0 1 fH dH ["self","part","why"] (zdp K C))(bH:az K dH ["self","part","why"] [])
  (mG:zbh K C "grow" fG)(BG:aI P w K mg base CX0 7 fG dG ["self"] (zeW K C CP))(bG:az K dG ["self"] []):aI P w K mg base CX0 8 f fd ["self"] (zgK K C CP):=by
 refine F.ok zgO (λvs H Q E h=>?_) (λcdv Ar outer s H vs Q E hr h=>?_)
 ·obtain⟨A,F',O,pr,D,S,R,n,B,As,rfl,_⟩:=h;rfl
 obtain⟨A,F',O,pr,D,S,R,n,B,As,rfl,U,L,PP,qN,qF⟩:=h;have hu:=zb5 hr;have hr1:=hr.mono (j:=1) (by decide);refine⟨_,(ae (zaN PassesOwn.never rfl (zgl rfl TB.enumerate (aa (aB (pv 0) rfl) ac)) (zcO rfl (zaB (zae (i:=1) zgO.nd rfl (Or.inl rfl)) (zaB (zae (i:=2) zgO.nd rfl (Or.inl rfl)) zcf)))
   (ak (zaj (aA zbk (aw zaa rfl TB.len bLq (aa (pv 2) ac)) ai)
     (ak (zag (zaZ (pv 0) T.cl mW BW hr1 bW .nil zak (aa (pv 1) (aa (aW zal (pv 2) ai) (aa (aW zal (pv 2) ai) ac))))))
     (ak (zaj (PW.pt (zcB (aA zbd (aw zaa rfl TB.len bLq (aa (pv 2) ac)) ai) (zcb (zcM (zfC hu (zaI zay (aW zal (pv 2) ai)) (aB (pv 0) rfl))))))
       (ak (aJ (pv 1)))
       (ak (zaj (zcM (zdO hu (aW zal (pv 2) ai) (aB (pv 0) rfl)))
         (ak (zag (zaZ (pv 0) T.cl mH BH hr1 bH .nil zak (aa (aW zal (pv 2) ai) (aa (pv 1) ac)))))
         zac)))))))
  (ak (aJ (zeq (pv 0) T.cl mG BG hr bG .nil zak)))),?_⟩
 try dsimp only [Cx.nox,Cx.wish,aZ]
 have n40:=L.n40;have bl:=L.bl;have kn0:∀ {Fx Ox Hx:Hp} {Sx:HS} {hx:List Int} {Rx:HC},Hu K C Fx Ox Hx A pr D Sx hx Rx→Rx.xs=R.xs→Hx A.kn=some (.lst R.xs):=λUx e=>e ▸ Ux.at' 1 rfl rfl;refine⟨_,rfl,A.h,C,A.dx,_,_,rfl,U.ins,T.cl,T.n_known,zcu,A.kn,rfl,⟨_,SqL.of (U.at' 1 rfl rfl)⟩,zba (zgf (xs:=R.xs)) (λi σ H'=>∃(v1 v2:Option V) (S':HS) (O':Hp) (R':HC),σ=[some (.ref A.h),v1,v2]∧R'.xs=R.xs∧zbq n B i S'∧Hu K C F' O' H' A pr D S' S'.hs R')
  (λi σ H' ⟨_,_,_,_,_,_,e,_,Ux⟩=>SqL.of (kn0 Ux e)) ⟨none,none,S,O,R,rfl,rfl,L.b,U⟩ ?_ ?_⟩
 ·rintro i σ H2 x H3 hi ⟨v1,v2,J,O1,R1,rfl,Z,I,U1⟩ ⟨t,y,rfl,ht,rfl,hy⟩;obtain⟨v,q,d,rfl,hq⟩:=zjP U1.u.kn (Z ▸ hy _ (SqL.of (kn0 U1 Z)));rw[I.rs]at d;have G:=L.hB v (mOq d);have s3:ap H2 (upd H2 t (.tup [.int i,.ref q])):=au ht _;have n3:=af (H:=H2) (a:=t) (o:=.tup [.int i,.ref q]);generalize upd H2 t (.tup [.int i,.ref q])=H3 at s3 n3;have W:=U1.same s3;have k:=s3.tup hq;have iB:i < B.length:=(gEq d).1;have kI:zby (i:Int):=by unfold zby;lia
  have Y:∀ p∈v,zby p:=λp hp=>by have:=(G.2 p hp).2;unfold zby;lia
  have gl:∀ c,(J.wg c).length≤199000:=λc=>by have:=zbq.glen I c;lia
  refine⟨t,_,rfl,SqT.of n3,rfl,_,_,rfl,_,_,rfl,rfl,?_⟩;refine⟨_,rfl,q,_,rfl,.inr k,_,_,rfl,rfl,_,rfl,aO (λc=>?_) (λc=>?_)⟩
  ·have N:(1:Int) < (((v.map V.int).length:Nat):Int):=oDq c;rw[lM]at N
   match v,N,k,G,Y,d with
   | a :: b :: M,_,k,G,Y,d =>
    have a0:atI ((a :: b :: M).map V.int) 0=some (.int a):=zah (j:=0) rfl;have a1:atI ((a :: b :: M).map V.int) 1=some (.int b):=zah (j:=1) rfl;refine⟨_,rfl,A.h,A.dx,_,rfl,W.ins,rfl,_,rfl,_,rfl,q,_,_,_,rfl,rfl,k,a0,_,rfl,q,_,_,_,rfl,rfl,k,a1,A,F',O1,pr,D,J,R1,i,a,b,rfl,W,kI,Y a (by simp),Y b (by simp),gl a,gl b,λH4 O4 R4 U4 e4=>?_⟩;exact⟨_,_,_,_,_,rfl,e4.trans Z,I.add d G.1 (by simp) (λx e=>by injection e with _ e;cases e) rfl,U4⟩
   | [a],N,_,_,_,_=>exact absurd N (by simp)
   | [],N,_,_,_,_=>exact absurd N (by simp)
  ·have N:¬(1:Int) < (((v.map V.int).length:Nat):Int):=λz=>c (dTq z);rw[lM]at N;have rl:((v.map V.int).length:Nat)=v.length:=lM _;have X:(∀ p∈v,-p∈J.hs)→Q (.int (i:Int)) H3:=λhf=>qF _ _ _ J _ ⟨I.fail L.hB d hf,λc=>by rw[I.rs];exact zbq.glen I c,I.pp⟩ W;refine⟨_,rfl,q,_,rfl,.inr k,rfl,_,rfl,aO (λc2=>?_) (λc2=>?_)⟩
   ·have c3:=oDq c2;injection c3 with c3;rw[rl]at c3;have e0:v=[]:=List.length_eq_zero_iff.mp (by lia);exact⟨_,rfl,X (by rw[e0];exact λp hp=>nomatch hp)⟩
   ·match v,N,c2,k,G,Y,d,X with
    | [],_,c2,_,_,_,_,_=>exact absurd (by decide +kernel) c2
    | a :: b :: M,N,_,_,_,_,_,_=>exact absurd (by simp only[List.length_cons];lia) N
    | [a],_,_,k,G,Y,d,X =>
     have a0:atI ([a].map V.int) 0=some (.int a):=zah (j:=0) rfl;have g1:=zbM J.hs a;have g2:=zbM J.hs (-a);refine⟨_,rfl,q,_,_,_,rfl,rfl,k,a0,_,rfl,_,rfl,A.h,C,A.dx,_,_,rfl,W.ins,T.cl,T.n_held,zch,A.hd,_,rfl,W.held (-a),_,rfl,aO (λc4=>?_) (λc4=>?_)⟩
     ·rw[g2]at c4;have c5:=oDq c4;exact⟨_,rfl,X (λp hp=>by rw[mS hp];exact c5)⟩
     ·rw[g2]at c4;have c5:-a∉J.hs:=λz=>c4 (dTq z);refine⟨_,rfl,q,_,_,_,rfl,rfl,k,a0,_,rfl,A.h,C,A.dx,_,_,rfl,W.ins,T.cl,T.n_held,zch,A.hd,_,rfl,W.held a,_,rfl,aO (λc6=>?_) (λc6=>?_)⟩
      ·rw[g1]at c6;have c7:a∉J.hs:=λz=>by rw[dTq z]at c6;cases c6
       have tl:J.ts.length≤1000:=by have:=I.tok.len;lia
       refine⟨_,rfl,A.h,A.dx,_,rfl,W.ins,rfl,_,rfl,q,_,_,_,rfl,rfl,k,a0,_,rfl,A,F',O1,pr,D,J,R1,a,i,rfl,W,Y a (by simp),tl,λH4 O4 R4 U4 e4=>?_⟩;exact⟨_,_,_,_,_,rfl,e4.2.trans Z,I.hold (by lia) d (G.2 a (by simp)) c7 c5,U4⟩
      ·rw[g1]at c6;have c7:a∈J.hs:=Decidable.byContradiction λz=>by rw[dFq z]at c6;exact c6 rfl
       exact⟨_,_,_,_,_,rfl,Z,I.add d G.1 (by simp) (λx e=>by injection e with e;exact e ▸ c7) rfl,W⟩
 ·rintro σ H' ⟨v1,v2,J,O1,R1,rfl,Z,I,U1⟩;have xl:R.xs.length=B.length:=by rw[←Z,←U1.u.kn.length,lM,I.rs]
  rw[xl]at I;have M1:=I.mid L.hB;refine⟨_,rfl,A.h,A.dx,_,rfl,U1.ins,rfl,A,F',O1,pr,D,J,R1,n,B,As,rfl,U1,⟨M1,n40,by rw[I.rs];lia⟩,PP,λH2 O2 R2 S2 r U2=>?_,λH2 O2 R2 S2 f r U2=>?_⟩
  ·exact qN _ _ _ S2 ⟨r.m,r.l,r.e.pp.trans I.pp⟩ U2
  ·exact qF _ _ _ S2 f ⟨r.c,r.g,r.e.pp.trans I.pp⟩ U2
end
end K95
namespace L2
open PySem PySem.Spec PyProof.Rows
set_option maxRecDepth 100000
section
variable {X:Cx}
def zjG:zbt X (.type "range") (λxs H Q=>∃ i j:Int,xs=[.int i,.int j]∧∀ r,H r=none→Q (.ref r) (upd H r (.rng i j))):=by intro a s f H xs us Q I r h;obtain⟨i,j,rfl,q⟩:=h;obtain⟨u,v,rfl,d,c⟩:=r.two;obtain⟨t,rfl⟩:=d;obtain⟨t',rfl⟩:=c;refine call_range_2 ?_;refine⟨.ref s.heap.objs.size,_,I.laid (o:=.rng i j) (λb g e=>hG _ e) (nRq _) ?_,rfl,q _ (I.hok.fresh (nRq _))⟩;exact⟨_,_,_,Heap.get?_push_size _ rfl⟩
def zhW (D:X.calm=true):zbt X (.type "list") (λxs H Q=>∃ r lo j,xs=[.ref r]∧H r=some (.rng lo (lo+j))∧0≤j∧j≤100000∧0≤lo∧lo≤100000∧∀ l,H l=none→Q (.ref l) (upd H l (.lst (((List.range j.toNat).map λi:Nat=>lo+(i:Int)).map V.int)))):=by
 intro k s J H xs us Q I r h;obtain⟨z,lo,j,rfl,C,S,R,P,O,q⟩:=h;obtain⟨u,rfl,y⟩:=zcx r;cases y;obtain⟨N,M,K,e⟩:=I.hok z _ C;have E:Builtin.Range.rangeSize lo (lo+j) 1=((j.toNat:Nat):Int):=by rw[rangeSize_one];split <;> lia
 refine call_list_range (I.ok.hd D) e (small_one (by lia) (by lia) (by lia) (by lia)) E (by lia) λh' tk acc c A F a=>?_;have G:acc.toList.length=j.toNat:=by rw[Array.length_toList];exact a.1
 have d:aQ (((List.range j.toNat).map λi:Nat=>lo+(i:Int)).map V.int) acc.toList:=by
  have f:∀(n:Nat) (L:List Value) (o:Nat),L.length=n→(∀ i v,L[i]?=some v→∃ t,v=Value.int (lo+(((o+i:Nat):Nat):Int) * 1) t)→aQ (((List.range' o n).map λi:Nat=>lo+(i:Int)).map V.int) L:=by
   intro n
   induction n with
   | zero =>
    intro L o b _;cases L with
    | nil=>exact .nil
    | cons _ _=>cases b
   | succ n B =>
    intro L o b p
    match L,b with
    | x :: L,b =>
     refine .cons ?_ (B L (o+1) (by simpa using b) λi v e=>?_)
     ·obtain⟨t,e⟩:=p 0 x rfl;exact⟨t,by rw[e];congr 1;show lo+((o+0:Nat):Int) * 1=lo+(o:Int);lia⟩
     ·obtain⟨t,g⟩:=p (i+1) v e;exact⟨t,by rw[g];congr 1;lia⟩
  have:=f j.toNat acc.toList 0 G λi v e=>by obtain⟨t,g⟩:=a.2 i v (by rw[←Array.getElem?_toList];exact e);exact⟨t,by rw[g,Nat.zero_add]⟩
  rw[List.range_eq_range'];exact this
 refine⟨.ref s.heap.objs.size,_,I.laid (t':=tk) A (nRq _) (show zaz X.prog X.w _ h' _ (.lst (((List.range j.toNat).map λi:Nat=>lo+(i:Int)).map V.int)) from⟨?_,acc.toList,c,d,by rw[Array.toArray_toList];exact F⟩),rfl,q _ (I.hok.fresh (nRq _))⟩;rw[lM,lM,List.length_range,sizeLine_eq];lia
end
end L2
namespace K95
open PySem L2
abbrev zjK:Stmt:=zeI
def hS0 (Rs:List (List Int))(n:Nat):HS:=⟨Rs,[],[],0,[],λ_=>none,λ_=>[],upN n,λ_=>none⟩
def zdR (H:Hp)(x:Addr):Hp:=λb=>if b=x then none else H b
structure Bld (C x dx:Addr)(F O H:Hp)(as:List Addr)(os:List HO)(fs:List (Str × V)):Prop where
 t:Two F O H
 n:NoT O
 nd:(x :: as).Nodup
 ins:O x=some (.ins C dx fs)
 at_:∀(i:Nat) (a:Addr) (o:HO),as[i]?=some a→os[i]?=some o→O a=some o
 len:as.length=os.length
def Bld.all {C x j:Addr}{F O H:Hp}{d:List Addr}{b:List HO}{g:List (Str × V)}(h:Bld C x j F O H d b g){a:Addr}(f:a∈x :: d):O a≠none:=by
 rcases List.mem_cons.mp f with z | z
 ·rw[z,h.ins];exact λz=>nomatch z
 ·obtain⟨i,c⟩:=List.getElem?_of_mem z;have e:i < b.length:=by rw[←h.len];exact(gEq c).1
  rw[h.at_ i a _ c (gG e)];exact λz=>nomatch z
def Bld.hi {C x b:Addr}{F O H:Hp}{d:List Addr}{c:List HO}{a:List (Str × V)}(h:Bld C x b F O H d c a):H x=some (.ins C b a):=h.t.o _ _ h.ins
def Bld.put {C x c:Addr}{F O H:Hp}{f:List Addr}{d:List HO}{k:List (Str × V)}(h:Bld C x c F O H f d k)(b:List (Str × V)):Bld C x c F (upd O x (.ins C c b)) (upd H x (.ins C c b)) f d b:=by refine⟨h.t.own (by rw[h.ins];exact λz=>nomatch z) _,h.n.upd zda,h.nd,af,λi a o e j=>?_,h.len⟩;have g:a≠x:=λz=>(List.nodup_cons.mp h.nd).1 (z ▸ mOq e);rw[ag g];exact h.at_ i a o e j
def Bld.new {C x p:Addr}{F O H:Hp}{g:List Addr}{j:List HO}{l:List (Str × V)}(h:Bld C x p F O H g j l){n:Addr}(k:H n=none){o:HO}(no:NTup o):Bld C x p F (upd O n o) (upd H n o) (g++[n]) (j++[o]) l:=by
 have q:=(h.t.none k).1;have nm:n∉x :: g:=λz=>h.all z q;have r:x≠n:=λz=>nm (z ▸ List.mem_cons_self);refine⟨h.t.newO k o,h.n.upd no,?_,by rw[ag r];exact h.ins,λi a u d f=>?_,by rw[lAq,lAq,h.len];rfl⟩
 ·rw[←List.cons_append];exact List.nodup_append.mpr ⟨h.nd,by simp,λa w b v e=>nm (by rw[mS v]at e;exact e ▸ w)⟩
 ·rcases Nat.lt_or_ge i g.length with c | c
  ·rw[List.getElem?_append_left c]at d;rw[List.getElem?_append_left (by rw[←h.len];exact c)]at f;have s:a≠n:=λz=>nm (List.mem_cons_of_mem _ (z ▸ mOq d));rw[ag s];exact h.at_ i a u d f
  ·rw[List.getElem?_append_right c]at d;rw[List.getElem?_append_right (by rw[←h.len];exact c),←h.len]at f;have A:=mS (mOq d);have y:=mS (mOq f);rw[A,y];exact af
inductive zgG (K:W.Frag)(C CP:Addr):Sp|m{vs H Q E9} (x dx p tl al rl:Addr) (most:Int) (T:List Tm) (As:List At) (Rs:List (List Int)):vs=[.ref x,.ref p,.int most]→H x=some (.ins C dx [])→zat K CP H p tl al rl T As Rs→As.length≤1000→(∀ A O R H',A.h=x→Hu K C (zdR H x) O H' A p most (hS0 Rs As.length) [] R→Q .non H')→zgG K C CP vs H Q E9
def zmk:zab ["self","problem","most"] ["self","problem","most"] (ao zjK):=fsc
section
variable {P:Program} {w:World} {K:W.Frag} {mg:Str→Option Value} {base:Heap} {aK C CP CN CT CB CM CL f:Addr} {fd:FuncData}
def bld0 (h:H x=some (.ins C dx [])):Bld C x dx (zdR H x) (λb=>if b=x then some (.ins C dx []) else none) H [] [] []:=by
 refine⟨⟨λb o e=>?_,λb o e=>?_,λb e=>?_⟩,λb o e=>?_,by simp,if_pos rfl,λi a o h=>(by cases h),rfl⟩
 ·unfold zdR at e;split at e
  ·cases e
  ·exact e
 ·split at e
  ·rename_i z;rw[z,h];exact e
  ·cases e
 ·unfold zdR;rw[if_pos (Decidable.byContradiction λz=>e (if_neg z))]
 ·split at e
  ·injection e with e;exact e ▸ zda
  ·cases e
def zmK (F:Fun K "__init__" "Hunt.__init__" zjK f fd)(r:TxH K C)(TB:TxB K mg CL)(T:Txt K mg aK CP CN CT CB CM):aI P w K mg base CX0 1 f fd ["self","problem","most"] (zgG K C CP):=by
 refine F.ok zmk (λvs H Q E h=>?_) (λcdv Ar outer s H vs Q E hr h=>?_)
 ·obtain⟨x,g,p,tl,al,rl,c,T',R,Rs,rfl,_⟩:=h;rfl
 obtain⟨x,g,p,tl,al,rl,c,T',R,Rs,rfl,hx,S,a1000,q⟩:=h;refine⟨_,(ae (zaY (pv 0) (pv 1) rfl)
  (ae (zaY (pv 0) (pv 2) rfl)
  (ae (zaY (pv 0) (zaL zcw rfl TB.list PyProof.Rows.Boot.list (aa (aB (pv 1) rfl) ac)) rfl)
  (ae (zaY (pv 0) (zaD ac) rfl)
  (ae (zaY (pv 0) (zaD ac) rfl)
  (ae (zaY (pv 0) zbO rfl)
  (ae (zaY (pv 0) ai rfl)
  (ae (zaY (pv 0) (zaD ac) rfl)
  (ae (zaY (pv 0) zbO rfl)
  (ae (zaY (pv 0) zbO rfl)
  (ae (zaY (pv 0) (zaL (zhW rfl) rfl TB.list PyProof.Rows.Boot.list (aa (zaL zjG rfl TB.range PyProof.Rows.Boot.range (aa ai (aa (aU zbj (aw zaa rfl TB.len bLq (aa (aB (pv 1) rfl) ac)) ai) ac))) ac)) rfl)
  (ak (zaY (pv 0) zbO rfl))))))))))))),?_⟩
 try dsimp only [Cx.nox,Cx.wish,aZ]
 have nt:aV H (zdR H x):=λb xs h=>by
  have nb:b≠x:=λz=>by rw[z]at h;rcases h with h | ⟨o,h⟩ <;> rw[hx]at h <;> cases h
  unfold Rd zdR at *;rw[if_neg nb];exact h
 have nl:∀ b o,H b=some o→(∀ d,o≠.ins C d [])→zdR H x b=some o:=λb o h n=>by unfold zdR;rw[if_neg (λz=>n g (by rw[z,hx]at h;injection h with h;exact h.symm))];exact h
 have S0:zat K CP (zdR H x) p tl al rl T' R Rs:=by obtain⟨⟨d,h1⟩,⟨xs,h2,h3⟩,⟨ys,h4,h5⟩,⟨ws,h6,h7⟩,h8,h9,h10⟩:=S;refine⟨⟨d,nl _ _ h1 λd' e=>?_⟩,⟨xs,nl _ _ h2 λ_ e=>(nomatch e),h3.keep nt (zc1 _)⟩,⟨ys,nl _ _ h4 λ_ e=>(nomatch e),h5.keep nt (zaw zdh R)⟩,⟨ws,nl _ _ h6 λ_ e=>(nomatch e),h7.keep nt (zaw zbI Rs)⟩,h8,h9,h10⟩;injection e with _ _ e;have:=zb9 tl al rl;rw[e]at this;cases this
 have b0:=bld0 hx;clear nt nl S;generalize zdR H x=F0 at *;have pr:∀ {O' H' as os fs},Bld C x g F0 O' H' as os fs→zat K CP H' p tl al rl T' R Rs:=λb=>S0.same b.t.f;refine⟨_,rfl,_,rfl,x,C,g,_,rfl,b0.hi,r.cl,r.n_problem,(by decide),?_⟩;have b1:=b0.put [("problem",.ref p)];generalize hH1:upd H x (.ins C g [("problem",.ref p)])=H1 at b1;have G:upd H x (.ins C g (zaT "problem" (.ref p) []))=H1:=hH1;rw[G];clear G hH1;generalize upd _ x (HO.ins C g [("problem",.ref p)])=O1 at b1;refine⟨_,rfl,_,rfl,x,C,g,_,rfl,b1.hi,r.cl,r.n_most,(by show 1 < 1000;decide),?_⟩;have b2:=b1.put [("problem",.ref p),("most",.int c)];generalize hH2:upd H1 x (.ins C g [("problem",.ref p),("most",.int c)])=H2 at b2;have e2:upd H1 x (.ins C g (zaT "most" (.int c) [("problem",.ref p)]))=H2:=hH2;rw[e2];clear e2 hH2;generalize upd O1 x (HO.ins C g [("problem",.ref p),("most",.int c)])=O2 at b2;obtain⟨⟨d2,g1⟩,_,_,⟨ws,g2,g3⟩,_⟩:=pr b2;refine⟨_,rfl,p,CP,d2,_,_,rfl,g1,T.cl,T.nR,zbK _ _ _,rl,_,rfl,.inl (SqL.of g2),λj hkn=>?_⟩;have b3:=b2.new (o:=.lst ws) hkn zaG;generalize upd H2 j (.lst ws)=H3 at b3;generalize upd O2 j (.lst ws)=O3 at b3;refine⟨_,rfl,x,C,g,_,rfl,b3.hi,r.cl,r.n_known,(by show 2 < 1000;decide),?_⟩;have b4:=b3.put [("problem",.ref p),("most",.int c),("known",.ref j)];generalize hH4:upd H3 x (.ins C g [("problem",.ref p),("most",.int c),("known",.ref j)])=H4 at b4;have e4:upd H3 x (.ins C g (zaT "known" (.ref j) [("problem",.ref p),("most",.int c)]))=H4:=hH4;rw[e4];clear e4 hH4;generalize upd O3 x (HO.ins C g [("problem",.ref p),("most",.int c),("known",.ref j)])=O4 at b4;refine⟨lS0,λpp hpp=>?_⟩;have b5:=b4.new (o:=.lst []) hpp zaG;generalize upd H4 pp (.lst [])=H5 at b5;generalize upd O4 pp (.lst [])=O5 at b5;refine⟨_,rfl,x,C,g,_,rfl,b5.hi,r.cl,r.n_paper,(by show 3 < 1000;decide),?_⟩;have b6:=b5.put [("problem",.ref p),("most",.int c),("known",.ref j),("paper",.ref pp)];generalize hH6:upd H5 x (.ins C g [("problem",.ref p),("most",.int c),("known",.ref j),("paper",.ref pp)])=H6 at b6;have e6:upd H5 x (.ins C g (zaT "paper" (.ref pp) [("problem",.ref p),("most",.int c),("known",.ref j)]))=H6:=hH6;rw[e6];clear e6 hH6;generalize upd O5 x (HO.ins C g [("problem",.ref p),("most",.int c),("known",.ref j),("paper",.ref pp)])=O6 at b6;refine⟨lS0,λk htr=>?_⟩;have b7:=b6.new (o:=.lst []) htr zaG;generalize upd H6 k (.lst [])=H7 at b7;generalize upd O6 k (.lst [])=O7 at b7;refine⟨_,rfl,x,C,g,_,rfl,b7.hi,r.cl,r.n_trail,(by show 4 < 1000;decide),?_⟩;have b8:=b7.put [("problem",.ref p),("most",.int c),("known",.ref j),("paper",.ref pp),("trail",.ref k)];generalize hH8:upd H7 x (.ins C g [("problem",.ref p),("most",.int c),("known",.ref j),("paper",.ref pp),("trail",.ref k)])=H8 at b8;have e8:upd H7 x (.ins C g (zaT "trail" (.ref k) [("problem",.ref p),("most",.int c),("known",.ref j),("paper",.ref pp)]))=H8:=hH8;rw[e8];clear e8 hH8;generalize upd O7 x (HO.ins C g [("problem",.ref p),("most",.int c),("known",.ref j),("paper",.ref pp),("trail",.ref k)])=O8 at b8;refine λl hhd=>?_;have b9:=b8.new (o:=.dK []) hhd zbB;generalize upd H8 l (.dK [])=H9 at b9;generalize upd O8 l (.dK [])=O9 at b9;refine⟨_,rfl,x,C,g,_,rfl,b9.hi,r.cl,r.n_held,(by show 5 < 1000;decide),?_⟩;have O:=b9.put [("problem",.ref p),("most",.int c),("known",.ref j),("paper",.ref pp),("trail",.ref k),("held",.ref l)];generalize hH10:upd H9 x (.ins C g [("problem",.ref p),("most",.int c),("known",.ref j),("paper",.ref pp),("trail",.ref k),("held",.ref l)])=H10 at O;have e10:upd H9 x (.ins C g (zaT "held" (.ref l) [("problem",.ref p),("most",.int c),("known",.ref j),("paper",.ref pp),("trail",.ref k)]))=H10:=hH10;rw[e10];clear e10 hH10;generalize upd O9 x (HO.ins C g [("problem",.ref p),("most",.int c),("known",.ref j),("paper",.ref pp),("trail",.ref k),("held",.ref l)])=O10 at O;refine⟨_,rfl,x,C,g,_,rfl,O.hi,r.cl,r.n_looked,(by show 6 < 1000;decide),?_⟩;have b11:=O.put [("problem",.ref p),("most",.int c),("known",.ref j),("paper",.ref pp),("trail",.ref k),("held",.ref l),("looked",.int 0)];generalize Z:upd H10 x (.ins C g [("problem",.ref p),("most",.int c),("known",.ref j),("paper",.ref pp),("trail",.ref k),("held",.ref l),("looked",.int 0)])=H11 at b11;have e11:upd H10 x (.ins C g (zaT "looked" (.int 0) [("problem",.ref p),("most",.int c),("known",.ref j),("paper",.ref pp),("trail",.ref k),("held",.ref l)]))=H11:=Z;rw[e11];clear e11 Z;generalize upd O10 x (HO.ins C g [("problem",.ref p),("most",.int c),("known",.ref j),("paper",.ref pp),("trail",.ref k),("held",.ref l),("looked",.int 0)])=O11 at b11;refine⟨lS0,λv hbg=>?_⟩;have N:=b11.new (o:=.lst []) hbg zaG;generalize upd H11 v (.lst [])=H12 at N;generalize upd O11 v (.lst [])=O12 at N;refine⟨_,rfl,x,C,g,_,rfl,N.hi,r.cl,r.n_begins,(by show 7 < 1000;decide),?_⟩;have b13:=N.put [("problem",.ref p),("most",.int c),("known",.ref j),("paper",.ref pp),("trail",.ref k),("held",.ref l),("looked",.int 0),("begins",.ref v)];generalize Y:upd H12 x (.ins C g [("problem",.ref p),("most",.int c),("known",.ref j),("paper",.ref pp),("trail",.ref k),("held",.ref l),("looked",.int 0),("begins",.ref v)])=H13 at b13;have e13:upd H12 x (.ins C g (zaT "begins" (.ref v) [("problem",.ref p),("most",.int c),("known",.ref j),("paper",.ref pp),("trail",.ref k),("held",.ref l),("looked",.int 0)]))=H13:=Y;rw[e13];clear e13 Y;generalize upd O12 x (HO.ins C g [("problem",.ref p),("most",.int c),("known",.ref j),("paper",.ref pp),("trail",.ref k),("held",.ref l),("looked",.int 0),("begins",.ref v)])=O13 at b13;refine λy hwd=>?_;have M:=b13.new (o:=.dK []) hwd zbB;generalize upd H13 y (.dK [])=H14 at M;generalize upd O13 y (.dK [])=O14 at M;refine⟨_,rfl,x,C,g,_,rfl,M.hi,r.cl,r.n_watched,(by show 8 < 1000;decide),?_⟩;have b15:=M.put [("problem",.ref p),("most",.int c),("known",.ref j),("paper",.ref pp),("trail",.ref k),("held",.ref l),("looked",.int 0),("begins",.ref v),("watched",.ref y)];generalize X:upd H14 x (.ins C g [("problem",.ref p),("most",.int c),("known",.ref j),("paper",.ref pp),("trail",.ref k),("held",.ref l),("looked",.int 0),("begins",.ref v),("watched",.ref y)])=H15 at b15;have e15:upd H14 x (.ins C g (zaT "watched" (.ref y) [("problem",.ref p),("most",.int c),("known",.ref j),("paper",.ref pp),("trail",.ref k),("held",.ref l),("looked",.int 0),("begins",.ref v)]))=H15:=X;rw[e15];clear e15 X;generalize upd O14 x (HO.ins C g [("problem",.ref p),("most",.int c),("known",.ref j),("paper",.ref pp),("trail",.ref k),("held",.ref l),("looked",.int 0),("begins",.ref v),("watched",.ref y)])=O15 at b15;refine λB hwg=>?_;have L:=b15.new (o:=.dK []) hwg zbB;generalize upd H15 B (.dK [])=H16 at L;generalize upd O15 B (.dK [])=O16 at L;refine⟨_,rfl,x,C,g,_,rfl,L.hi,r.cl,r.n_watching,(by show 9 < 1000;decide),?_⟩;have u:=L.put [("problem",.ref p),("most",.int c),("known",.ref j),("paper",.ref pp),("trail",.ref k),("held",.ref l),("looked",.int 0),("begins",.ref v),("watched",.ref y),("watching",.ref B)];generalize W:upd H16 x (.ins C g [("problem",.ref p),("most",.int c),("known",.ref j),("paper",.ref pp),("trail",.ref k),("held",.ref l),("looked",.int 0),("begins",.ref v),("watched",.ref y),("watching",.ref B)])=D at u;have e17:upd H16 x (.ins C g (zaT "watching" (.ref B) [("problem",.ref p),("most",.int c),("known",.ref j),("paper",.ref pp),("trail",.ref k),("held",.ref l),("looked",.int 0),("begins",.ref v),("watched",.ref y)]))=D:=W;rw[e17];clear e17 W;generalize upd O16 x (HO.ins C g [("problem",.ref p),("most",.int c),("known",.ref j),("paper",.ref pp),("trail",.ref k),("held",.ref l),("looked",.int 0),("begins",.ref v),("watched",.ref y),("watching",.ref B)])=O17 at u;obtain⟨⟨d3,g4⟩,_,⟨ys,g5,g6⟩,_⟩:=pr u;have yl:ys.length=R.length:=by rw[←g6.length,lM]
 refine⟨_,rfl,p,CP,d3,_,_,rfl,g4,T.cl,T.nA,zaX _ _ _,al,_,rfl,.inl (SqL.of g5),_,_,rfl,rfl,1,_,rfl,λrg hrg=>?_⟩;have s1:ap D (upd D rg (.rng 1 (((ys.length:Nat):Int)+1))):=au hrg _;refine⟨rg,1,((ys.length:Nat):Int),rfl,by rw[af,Int.add_comm],by lia,by lia,by decide,by decide,λod hod=>?_⟩;have b17x:Bld C x g F0 O17 (upd D rg (.rng 1 (((ys.length:Nat):Int)+1))) _ _ _:=⟨⟨u.t.f.trans s1,u.t.o.trans s1,u.t.d⟩,u.n,u.nd,u.ins,u.at_,u.len⟩;generalize upd D rg (.rng 1 (((ys.length:Nat):Int)+1))=H17x at b17x hod;have eO:(List.range ((ys.length:Nat):Int).toNat).map (λi:Nat=>(1:Int)+(i:Int))=upN R.length:=by rw[Int.toNat_natCast,yl];exact List.map_congr_left λi _=>Int.add_comm _ _
 rw[eO];have J:=b17x.new (o:=.lst ((upN R.length).map V.int)) hod zaG;generalize upd H17x od (.lst ((upN R.length).map V.int))=H18 at J;generalize upd O17 od (.lst ((upN R.length).map V.int))=O18 at J;refine⟨_,rfl,x,C,g,_,rfl,J.hi,r.cl,r.n_order,(by show 10 < 1000;decide),?_⟩;have b19:=J.put [("problem",.ref p),("most",.int c),("known",.ref j),("paper",.ref pp),("trail",.ref k),("held",.ref l),("looked",.int 0),("begins",.ref v),("watched",.ref y),("watching",.ref B),("order",.ref od)];generalize U:upd H18 x (.ins C g [("problem",.ref p),("most",.int c),("known",.ref j),("paper",.ref pp),("trail",.ref k),("held",.ref l),("looked",.int 0),("begins",.ref v),("watched",.ref y),("watching",.ref B),("order",.ref od)])=H19 at b19;have e19:upd H18 x (.ins C g (zaT "order" (.ref od) [("problem",.ref p),("most",.int c),("known",.ref j),("paper",.ref pp),("trail",.ref k),("held",.ref l),("looked",.int 0),("begins",.ref v),("watched",.ref y),("watching",.ref B)]))=H19:=U;rw[e19];clear e19 U;generalize upd O18 x (HO.ins C g [("problem",.ref p),("most",.int c),("known",.ref j),("paper",.ref pp),("trail",.ref k),("held",.ref l),("looked",.int 0),("begins",.ref v),("watched",.ref y),("watching",.ref B),("order",.ref od)])=O19 at b19;refine λlt hlt=>?_;have I:=b19.new (o:=.dK []) hlt zbB;generalize upd H19 lt (.dK [])=H20 at I;generalize upd O19 lt (.dK [])=O20 at I;refine⟨_,rfl,x,C,g,_,rfl,I.hi,r.cl,r.n_lately,(by show 11 < 1000;decide),?_⟩;have A:=I.put [("problem",.ref p),("most",.int c),("known",.ref j),("paper",.ref pp),("trail",.ref k),("held",.ref l),("looked",.int 0),("begins",.ref v),("watched",.ref y),("watching",.ref B),("order",.ref od),("lately",.ref lt)];refine q ⟨x,g,j,pp,k,l,v,y,B,od,lt⟩ _ ⟨ws,[],[],[],[],λ_=>none,[],λ_=>none,[]⟩ _ rfl ⟨A.n,A.t,?_,?_,?_,aq.nil,rfl,aq.nil,DI.nil,DI.nil,λ_=>.no,DI.nil,λ_=>.no rfl,DI.nil⟩
 ·exact A.nd
 ·intro i a o h1 h2;cases i with
  | zero =>
   cases h1;cases h2;exact A.ins
  | succ i=>exact A.at_ i a o h1 h2
 ·obtain⟨_,_,_,⟨w0,k0,_⟩,_⟩:=S0;obtain⟨_,_,_,⟨w1,k1,k2⟩,_⟩:=pr A;have e0:=b2.t.f _ _ k0;have G:=A.t.f _ _ k0;rw[g2]at e0;rw[k1]at G;injection e0 with e0;injection e0 with e0;injection G with G;injection G with G;rw[G,←e0]at k2;exact k2
end
def zic (h:p∈hs)(h0:p≠0)(a:p.natAbs≤n)(no:p < 0→-p∉hs):p∈zaM n hs:=by
 unfold zaM;rcases Int.lt_or_gt_of_ne h0 with c | c
 ·exact List.mem_map.mpr ⟨-p,zdw.mpr (by lia),by rw[if_neg (no c),Int.neg_neg]⟩
 ·exact List.mem_map.mpr ⟨p,zdw.mpr (by lia),by rw[if_pos h]⟩
structure FD (K:W.Frag)(x:Str)(st:Stmt)(f td:Addr)(fd:FuncData)(tk:Tok):Prop where
 a:W.nsIn K mainGlobals x=some (some (.ref f))
 ex:∃(oc:Value) (od:Option Addr) (kV doc pm:Value) (an:Option Addr) (cdv ct:Value) (osl:Array (Option Value)),
  fd=W.fnOf x x (zbo st) (zap st) (ao st) (.ref td) kV doc pm an cdv ct∧K.lookup f=some ⟨oc,od,.func fd,osl⟩∧W.codeIn K cdv x=true
 k:W.keepIn K (.ref f)=true
 t:∃(od:Option Addr) (n:Nat) (sl:Array (Option Value)),K.lookup td=some ⟨.type "tuple",od,.seq #[.int 2000 tk] n,sl⟩
def fd_in {K:W.Frag}{x:Str}{st:Stmt}{f g:Addr}{p kV b h cdv i:Value}{od j e:Option Addr}{d o:Array (Option Value)}{tk:Tok}{n:Nat}(a:W.nsIn K mainGlobals x=some (some (.ref f)))(l:K.lookup f=some ⟨p,od,.func (W.fnOf x x (zbo st) (zap st) (ao st) (.ref g) kV b h j cdv i),d⟩)(c:W.codeIn K cdv x=true)(k:W.keepIn K (.ref f)=true)
  (t:K.lookup g=some ⟨.type "tuple",e,.seq #[.int 2000 tk] n,o⟩):FD K x st f g (W.fnOf x x (zbo st) (zap st) (ao st) (.ref g) kV b h j cdv i) tk:=⟨a,⟨p,od,kV,b,h,j,cdv,i,d,rfl,l,c⟩,k,e,n,o,t⟩
def FD.okX {P:Program}{w:World}{K:W.Frag}{mg:Str→Option Value}{base:Heap}{x:Str}{st:Stmt}{f g:Addr}{e:FuncData}{tk:Tok}{N ps:List Str}{k:Nat}{sp:Sp}(F:FD K x st f g e tk)(S:zab N ps (ao st))(b:∀ vs H Q E,sp vs H Q E→vs.length=ps.length)
  (a:∀(cdv:Value) (A:Around) (outer:List Env) (s:Shared) (H:Hp) (vs:List V) (Q:VK) (E:XK),zax k (A.deeper (PyProof.Rows.envOfC x (ao st) s.heap.objs.size f cdv))→sp vs H Q E →
   ∃ t,PSs (aZ (CX1 P w) P w K mg base N x (ao st) f cdv A outer s H E) (zap st) t∧t { nx:=λ_ H'=>Q .non H',rt:=Q } (zcz N vs) H):aI P w K mg base (CX1 P w) (k+1) f e ps sp:=by obtain⟨o,od,kV,l,n,q,cdv,p,h,rfl,i,d⟩:=F.ex;exact zkv i d S b λA outer s H vs Q E j c=>a cdv A outer s H vs Q E j c
def bindD (F:FD K x st f td fd tk)
  (h:∀(kV d i:Value) (l:Option Addr) (cdv j:Value) (a b:Value),∃ k:Option (Array Value)→Sem (List (Str × Value)),bindArgs (W.fnOf x x (zbo st) (zap st) (ao st) (.ref td) kV d i l cdv j) ⟨[a,b],[]⟩=seqItems? (.ref td) >>= k∧k (some #[.int 2000 tk])=pure [(p,a),(q,b)]):az K fd [p,q] []:=by
 obtain⟨A,od,kV,d,i,l,cdv,j,o,e,B,v⟩:=F.ex;obtain⟨r,n,z,u⟩:=F.t;intro s us X g;rw[List.append_nil]at g ⊢;rcases us with _ | ⟨a,_ | ⟨b,_ | ⟨c,us⟩⟩⟩
 ·cases g
 ·cases g
 ·obtain⟨k,y,w⟩:=h kV d i l cdv j a b;subst e;exact BindsTo.of_defaults rfl (X _ _ u) rfl y w
 ·cases g
def bindD3 (F:FD K x st f td fd tk)
  (h:∀(kV g j:Value) (o:Option Addr) (cdv l:Value) (a b c:Value),∃ k:Option (Array Value)→Sem (List (Str × Value)),bindArgs (W.fnOf x x (zbo st) (zap st) (ao st) (.ref td) kV g j o cdv l) ⟨[a,b,c],[]⟩=seqItems? (.ref td) >>= k∧k (some #[.int 2000 tk])=pure [(p,a),(q,b),(r,c)]):az K fd [p,q,r] []:=by
 obtain⟨C,od,kV,g,j,o,cdv,l,u,e,D,y⟩:=F.ex;obtain⟨v,n,B,w⟩:=F.t;intro s us X i;rw[List.append_nil]at i ⊢;rcases us with _ | ⟨a,_ | ⟨b,_ | ⟨c,_ | ⟨d,us⟩⟩⟩⟩
 ·cases i
 ·cases i
 ·cases i
 ·obtain⟨k,A,z⟩:=h kV g j o cdv l a b c;subst e;exact BindsTo.of_defaults rfl (X _ _ w) rfl A z
 ·cases i
structure zfG (n:Nat)(B:List (List Int)):Prop where
 row:∀ r∈B,r.Nodup∧∀ p∈r,p≠0∧p.natAbs≤n
 n40:n≤40
 bl:B.length≤1000
structure SrQ (K:W.Frag)(CL:Addr)(H:Hp)(n:Nat)(Rs:List (List Int))(most:Int)(Q:VK)(E:XK):Prop where
 long:most≤(2:Int) ^ (n+1)→∀ H',ap H H'→E (.ref CL) none H'
 yes:∀ H' t th hs,ap H H'→H t=none→H' t=some (.tup [.str "yes",.ref th])→H' th=some (.tup ((zaM n hs).map V.int))→(∀ r∈Rs,∃ p∈r,p∈zaM n hs)→Q (.ref t) H'
 no:∀ H' t pl ys,ap H H'→H t=none→H' t=some (.tup [.str "no",.ref pl])→H' pl=some (.lst ys)→(∀ v,¬zdm v Rs)→Q (.ref t) H'
inductive zfK (K:W.Frag)(CP CL:Addr):Sp|m{vs H Q E} (p tl al rl:Addr) (As:List At) (Rs:List (List Int)) (most:Int):vs=[.ref p,.int most]→zat K CP H p tl al rl [] As Rs→zdG As→zfG As.length Rs→1≤most→most≤100000→SrQ K CL H As.length Rs most Q E→zfK K CP CL vs H Q E
def zeD:zab ["problem","most","hunt","fails"] ["problem","most"] (ao zdA):=fsc
section
variable {P:Program} {w:World} {K:W.Frag} {mg:Str→Option Value} {base:Heap} {C CP CL f fI fB fN fC fG fP:Addr} {fd dI dB dN dC dG dP':FuncData}
structure HG (P:Program)(w:World)(K:W.Frag)(mg:Str→Option Value)(base:Heap)(C CP CL fI fB fN fC fG fP:Addr)(dI dB dN dC dG dP':FuncData):Prop where
 mI:Mk K C fI
 I:aI P w K mg base CX0 1 fI dI ["self","problem","most"] (zgG K C CP)
 bI:az K dI ["self","problem","most"] []
 gI:mg "Hunt"=some (.ref C)
 mB:zbh K C "begin" fB
 B:aI P w K mg base CX0 8 fB dB ["self"] (zgK K C CP)
 bB:az K dB ["self"] []
 mN:zbh K C "learn" fN
 N:aI P w K mg base (CX1 P w) 4 fN dN ["self","fails"] (zgF K C CL)
 bN:az K dN ["self","fails"] []
 mC:zbh K C "choose" fC
 C':aI P w K mg base CX0 2 fC dC ["self"] (zfP K C)
 bC:az K dC ["self"] []
 mG:zbh K C "grow" fG
 G:aI P w K mg base CX0 7 fG dG ["self"] (zeW K C CP)
 bG:az K dG ["self"] []
 mP:zbh K C "held_parts" fP
 P':aI P w K mg base CX0 1 fP dP' ["self"] (zdT K C)
 bP:az K dP' ["self"] []
def zli:∀ ts:List (Int × Int),cnt ts≤(ts.length:Int)
 | []=>Int.le_refl _
 | t :: ts=>by have:=zli ts;show zaS t+cnt ts≤((ts.length+1:Nat):Int);unfold zaS;split <;> lia
inductive HSt (n:Nat)(B:List (List Int))(S:HS):V→Prop
 | rest:zbC n B S→S.lk=S.ts.length→HSt n B S .non
 | odds {f:Int}:zcV n B S f→(∀ c,(S.wg c).length≤S.rs.length)→HSt n B S (.int f)
def HSt.b (h:HSt n B S v):HB n B S:=by
 cases h with
 | rest h _=>exact h.b
 | odds h _=>exact h.b
def znw (T:TxH K C)(G:HG P w K mg base C CP CL fI fB fN fC fG fP dI dB dN dC dG dP'){cdv:Value}{Ar:Around}{outer:List Env}{s:Shared}{H0:Hp}{E:XK}(hr:zax 8 (Ar.deeper (PyProof.Rows.envOfC "search" (ao zdA) s.heap.objs.size f cdv))) :
  ∃ z,PSs (aZ (CX1 P w) P w K mg base ["problem","most","hunt","fails"] "search" (ao zdA) f cdv Ar outer s H0 E) ((zap zdA).drop 2) z ∧
   ∀(H:Hp) (Q:VK) (p x:Addr) (As:List At) (Rs:List (List Int)) (d:Int) (n:Nat) (A:HA) (H2:Hp) (v:V),As.length=n→PrP K CP H p As→zfG n Rs→1≤d→d≤100000→SrQ K CL H n Rs d Q E→A.h=x→(∃(U:HS) (O2:Hp) (R2:HC),HSt n Rs U v∧U.pp=[]∧Hu K C H O2 H2 A p d U U.hs R2) →
    z { nx:=λ_ H'=>Q .non H',rt:=Q } [some (.ref p),some (.int d),some (.ref x),some v] H2:=by
 have hr1:=hr.mono (j:=1) (by decide);have hr2:=hr.mono (j:=2) (by decide);have hr4:=hr.mono (j:=4) (by decide);have hr7:=hr.mono (j:=7) (by decide);refine⟨_,(ak (zep PassesOwn.leaving (zcr za8)
   (ae (zaj (aA zgo (pv 3) zcc)
     (ak (zaj (zei (zcr (zaZ (pv 2) T.cl G.mN G.N hr4 G.bN .nil (zcF xe1) (aa (pv 3) ac))))
       (ak (aJ (zbz (aa zaU (aa (aB (pv 2) rfl) ac)))))
       zac))
     (ak (zaj (zei (zcr (zeq (pv 2) T.cl G.mC G.C' hr2 G.bC .nil zak)))
       (ak (aJ (zbz (aa zaU (aa (zeq (pv 2) T.cl G.mP G.P' hr1 G.bP .nil zak) ac)))))
       zac)))
    (ak (aF (i:=3) zeD.nd rfl (Or.inl rfl) (zeq (pv 2) T.cl G.mG G.G hr7 G.bG .nil zak)))))),?_⟩
 try dsimp only [Cx.nox,Cx.wish,aZ]
 rintro H Q p x As Rs d n A H2 v hn PP ro m1 m2 q F ⟨U,O2,R2,h2,p2,U2⟩;have R:=ro.n40;refine⟨λm σ H'=>∃(v:V) (A':HA) (k:HS) (X:Hp) (W:HC),σ=[some (.ref p),some (.int d),some (.ref x),some v]∧m=2 ^ (n+1) - wgt n 0 k.ts∧A'.h=x∧HSt n Rs k v∧k.pp.length≤wgt n 0 k.ts∧(k.pp.length:Int)≤d∧Hu K C H X H' A' p d k k.hs W,
  ⟨_,v,A,U,O2,R2,rfl,rfl,F,h2,by rw[p2];exact Nat.zero_le _,by rw[p2];show(0:Int)≤d;lia,U2⟩,?_⟩
 clear h2 p2 U2 U O2 R2 v H2 F A;rintro m σ H1 ⟨v,A,o,O1,R1,rfl,em,F,st,pw,pm,U1⟩;have wl:wgt n 0 o.ts+2≤2 ^ (n+1):=by have:=ziB n o.ts 0 (by have:=st.b.tlen;lia);rw[Nat.sub_zero]at this;exact this
 have wl2:(wgt n 0 o.ts:Int)+2≤(2:Int) ^ (n+1):=by exact_mod_cast wl
 have rl:o.rs.length≤101000:=by have:=st.b.len;have:=ro.bl;lia
 have i1:=U1.ins;rw[F]at i1;refine⟨_,rfl,aO (λ_=>?_) (λc=>absurd rfl c)⟩;refine⟨λO H'=>∃ I,I < m∧∃(v:V) (A':HA) (k:HS) (X:Hp) (W:HC),O=[some (.ref p),some (.int d),some (.ref x),some v]∧I=2 ^ (n+1) - wgt n 0 k.ts∧A'.h=x∧HSt n Rs k v∧k.pp.length≤wgt n 0 k.ts∧(k.pp.length:Int)≤d∧Hu K C H X H' A' p d k k.hs W,λ_ _ z=>z,?_⟩;have gr:∀ {D Z:Hp} {Y:HC} {L:HA} {u:HS} {v3:V},L.h=x→zbC n Rs u→wgt n 0 o.ts < wgt n 0 u.ts→u.pp.length≤wgt n 0 u.ts→(u.pp.length:Int)≤d→Hu K C H Z D L p d u u.hs Y →
   (tAsg (zkk C "grow" (zeW K C CP) [] E0 (zfz 2) zc7) (zd4 3)) { nx:=λO H'=>∃ I,I < m∧∃(v:V) (A':HA) (k:HS) (X:Hp) (W:HC),O=[some (.ref p),some (.int d),some (.ref x),some v]∧I=2 ^ (n+1) - wgt n 0 k.ts∧A'.h=x∧HSt n Rs k v∧k.pp.length≤wgt n 0 k.ts∧(k.pp.length:Int)≤d∧Hu K C H X H' A' p d k k.hs W,rt:=Q,bk:=λ_ _=>False,ct:=λ_ _=>False } [some (.ref p),some (.int d),some (.ref x),some v3] D:=by
  intro D Z Y L u v3 S M3 w3 pw3 pm3 B;have i3:=B.ins;rw[S]at i3;have rl3:u.rs.length≤199000:=by have:=M3.b.len;have:=ro.bl;lia
  have fin:∀ H4 O4 R4 J v4,zcK u J→HSt n Rs J v4→Hu K C H O4 H4 L p d J J.hs R4→∃ I,I < m∧∃(v:V) (A':HA) (k:HS) (X:Hp) (W:HC),[some (V.ref p),some (.int d),some (.ref x),some v4]=[some (.ref p),some (.int d),some (.ref x),some v]∧I=2 ^ (n+1) - wgt n 0 k.ts∧A'.h=x∧HSt n Rs k v∧k.pp.length≤wgt n 0 k.ts∧(k.pp.length:Int)≤d∧Hu K C H X H4 A' p d k k.hs W:=λH4 O4 R4 J v4 e4 st4 U4=>by have w4:=e4.wgt n;exact⟨_,by lia,v4,L,J,O4,R4,rfl,rfl,S,st4,by rw[e4.pp];lia,by rw[e4.pp];exact pm3,U4⟩
  exact⟨_,rfl,x,L.dx,_,rfl,i3,rfl,L,H,Z,p,d,u,Y,n,Rs,As,by rw[S];rfl,B,⟨M3,R,rl3⟩,PP,λH4 O4 R4 J r U4=>fin _ _ _ _ _ r.e (.rest r.m r.l) U4,λH4 O4 R4 J g r U4=>fin _ _ _ _ _ r.e (.odds r.c r.g) U4⟩
 cases st with
 | odds Cf gl =>
  rename_i fl;have sp:SpLn n Rs o fl:=⟨Cf,R,by lia,by lia,λc=>by have:=gl c;lia⟩;refine⟨_,rfl,rfl,_,rfl,aO (λ_=>?_) (λc=>absurd (by rfl) c)⟩;refine⟨_,rfl,x,A.dx,_,rfl,i1,rfl,_,rfl,A,H,O1,p,d,o,R1,fl,n,Rs,by rw[F];rfl,U1,sp,λhm H' s'=>q.long (by lia) H' s',λhp D Z Y B=>?_,λL D Z Y u e3 r3 B=>?_⟩
  ·refine⟨_,rfl,aO (λ_=>?_) (λc=>absurd (by rfl) c)⟩;have i3:=B.ins;rw[F]at i3;refine⟨_,rfl,x,C,A.dx,_,_,rfl,i3,T.cl,T.n_paper,zgX,lS2,λt ht=>?_⟩;have s3:ap D (upd D t (.tup [.str "no",.ref A.pp])):=au ht _;exact q.no _ t A.pp _ (B.t.f.trans s3) (B.t.f.free ht) af (s3 _ _ (B.at' 2 rfl rfl)) (Cf.no hp)
  ·refine⟨_,rfl,aO (λc=>absurd c (by decide)) (λ_=>?_)⟩;have w3:=r3.wgt;have pp3:u.pp.length≤o.pp.length+1∧(u.pp.length:Int)≤d:=by
    rcases r3.to with ⟨e,_⟩ | ⟨e1,e,_⟩
    ·rw[e];exact⟨by lia,pm⟩
    ·rw[e,lAq];show _+1≤_∧((_+1:Nat):Int)≤_;lia
   exact gr (e3.trans F) r3.mid w3 (by lia) pp3.2 B
 | rest M hl =>
  refine⟨_,rfl,rfl,_,rfl,aO (λc=>absurd c (show ¬(!decide (V.non=V.non))=true by decide)) (λ_=>?_)⟩;have tln:=M.b.tlen;have bsl:o.bs.length≤1000:=by have h1:=zgt o.ts;have h2:=zli o.ts;rw[←M.b.bs]at h1;lia
  refine⟨_,rfl,x,A.dx,_,rfl,i1,rfl,A,H,O1,p,d,o,R1,by rw[F];rfl,U1,⟨by lia,bsl,λa ha=>by have:=(M.b.od a).mp ha;lia,M.b.la⟩,?_⟩;cases hp:ziy o with
  | none =>
   refine⟨_,rfl,aO (λ_=>?_) (λc=>absurd (by rfl) c)⟩;refine⟨_,rfl,x,A.dx,_,rfl,i1,rfl,A,H,O1,p,d,o,R1,n,by rw[F];rfl,U1,R,M.b.od,M.b.odn,λD th s3 n3 h3=>⟨lS2,λt ht=>?_⟩⟩;have s4:ap D (upd D t (.tup [.str "yes",.ref th])):=au ht _;have sH:=U1.t.f.trans s3;have all:∀ a∈o.od,a∈o.hs∨-a∈o.hs:=λa ha=>by
    have:=List.find?_eq_none.mp hp a ha;simp only[Bool.and_eq_true,decide_eq_true_eq,not_and,Decidable.not_not]at this;by_cases c:a∈o.hs
    ·exact .inl c
    ·exact .inr (this c)
   refine q.yes _ t th o.hs (sH.trans s4) (sH.free ht) af (s4 _ _ h3) λr hr'=>?_;obtain⟨z,z1,z2⟩:=M.yes hl all r hr';have z3:=(ro.row r hr').2 z z1;exact⟨z,z1,zic z2 z3.1 z3.2 λ_ y=>M.b.tok.cons z2 y⟩
  | some a =>
   intro D Z Y B;refine⟨_,rfl,aO (λc=>absurd c (by decide)) (λ_=>?_)⟩;have ha:=List.mem_of_find?_eq_some hp;have hb:=List.find?_some hp;simp only[Bool.and_eq_true,decide_eq_true_eq]at hb;have w3:=zmb n o.ts ((o.la a).getD (-a),-1);exact gr F (M.pick (by lia) hl ha hb.1 hb.2) w3 (Nat.le_of_lt (Nat.lt_of_le_of_lt pw w3)) pm B
def zlA {td:Addr}{tk:Tok}(F:FD K "search" zdA f td fd tk)(T:TxH K C)(G:HG P w K mg base C CP CL fI fB fN fC fG fP dI dB dN dC dG dP'):aI P w K mg base (CX1 P w) 9 f fd ["problem","most"] (zfK K CP CL):=by
 refine FD.okX F zeD (λvs H Q E h=>?_) (λcdv Ar outer s H vs Q E Y h=>?_)
 ·obtain⟨p,L,al,M,t,Rs,d,rfl,_⟩:=h;rfl
 obtain⟨p,L,al,M,t,Rs,d,rfl,S,pl,u,m1,m2,q⟩:=h;have X:=Y.mono (j:=2) (by decide);obtain⟨z2,h2,q2⟩:=znw (P:=P) (w:=w) (base:=base) (f:=f) T G (cdv:=cdv) (Ar:=Ar) (outer:=outer) (s:=s) (H0:=H) (E:=E) Y;refine⟨_,(ae (aF (i:=2) zeD.nd rfl (Or.inl rfl) (zjZ G.mI G.I X rfl G.gI G.bI .nil zak (aa (pv 0) (aa (pv 1) ac))))
  (ae (aF (i:=3) zeD.nd rfl (Or.inl rfl) (zeq (pv 2) T.cl G.mB G.B Y G.bB .nil zak))
  h2)),?_⟩
 try dsimp only [Cx.nox,Cx.wish,aZ]
 generalize Z:t.length=n at *;have N:=u.n40;refine⟨_,rfl,_,rfl,λx k hx y nd=>?_⟩;have v:(upd (upd H k (.own x)) x (.ins C k [])) x=some (.ins C k []):=af;have s1:ap H (zdR (upd (upd H k (.own x)) x (.ins C k [])) x):=λb o e=>by
  have D:b≠x:=λz=>by rw[z,hx]at e;cases e
  have W:b≠k:=λz=>by rw[z,y]at e;cases e
  unfold zdR;rw[if_neg D,ag D,ag W];exact e
 have s2:ap H (upd (upd H k (.own x)) x (.ins C k [])):=λb o e=>by
  have D:b≠x:=λz=>by rw[z,hx]at e;cases e
  have W:b≠k:=λz=>by rw[z,y]at e;cases e
  rw[ag D,ag W];exact e
 refine⟨x,k,p,L,al,M,d,[],t,Rs,rfl,v,S.same s2,by lia,λA O R H1 J U=>⟨rfl,?_⟩⟩;rw[Z]at U;have U:=U.base s1;clear s1 s2 v;have PP:PrP K CP H p t:=⟨⟨L,al,M,Rs,S⟩,pl⟩;have sb:zbq n Rs 0 (hS0 Rs n):=zbq.zero rfl rfl rfl rfl (λa=>zdw) ((zkX n).imp λ{a b} h e=>by lia) (λ_=>rfl) rfl (λ_=>rfl) λ_=>rfl;have i1:=U.ins;rw[J]at i1;refine⟨_,rfl,x,A.dx,_,rfl,i1,rfl,A,H,O,p,d,hS0 Rs n,R,n,Rs,t,by rw[J];rfl,U,⟨sb,u.row,N,u.bl⟩,PP,λH2 O2 R2 S2 r U2=>?_,λH2 O2 R2 S2 fl r U2=>?_⟩
 ·exact q2 H Q p x t Rs d n A H2 .non Z PP u m1 m2 q J ⟨S2,O2,R2,.rest r.m r.l,r.p,U2⟩
 ·exact q2 H Q p x t Rs d n A H2 (.int fl) Z PP u m1 m2 q J ⟨S2,O2,R2,.odds r.c r.g,r.p,U2⟩
end
section
variable {P:Program} {w:World} {K:W.Frag} {mg:Str→Option Value} {base:Heap} {aK C CN CT CP CM:Addr} {f fI:Addr} {fd dI:FuncData}
def zeh (Rs:List (List Int))(ks:List Int):List (List Int):=ks.map λk=>Rs.getD k.toNat []
inductive zhw (K:W.Frag)(C:Addr):Sp|m{vs H Q E9} (p q tl al rl:Addr) (T:List Tm) (As:List At) (Rs:List (List Int)) (ks:List Int):vs=[.ref p,.ref q]→zat K C H p tl al rl T As Rs→SqL K H q (ks.map V.int)→(∀ k∈ks,0≤k∧k < (Rs.length:Int))→T.length≤1000→As.length≤1000→ks.length≤1000→(∀(H':Hp) (p' tl' al' rl':Addr),ap H H'→H p'=none→H tl'=none→H al'=none→H rl'=none→zat K C H' p' tl' al' rl' T As (zeh Rs ks)→Q (.ref p') H')→zhw K C vs H Q E9
def zhk:zab ["problem","numbers","part"] ["problem","numbers"] (ao zeE):=fsc
def znM (F:Fun K "part_of" "part_of" zeE f fd)(T:Txt K mg aK C CN CT CP CM)(MK:Mk K C fI)(mC:mg "Problem"=some (.ref C))(Bi:aI P w K mg base CX0 1 fI dI ["self"] (zhc C))(bi:az K dI ["self"] []):aI P w K mg base CX0 3 f fd ["problem","numbers"] (zhw K C):=by
 refine F.ok zhk (λvs H Q E h=>?_) (λcdv A outer s H vs Q E hr h=>?_)
 ·obtain⟨p,q,tl,al,rl,T',As,Rs,ks,rfl,_⟩:=h;rfl
 obtain⟨p,q,tl,al,rl,T',As,Rs,ks,rfl,S,hq,hk,lT,lA,lk,out⟩:=h;refine⟨_,(ae (aF (i:=2) zhk.nd rfl (Or.inl rfl) (zfj MK Bi hr rfl mC bi .nil zak))
  (ae (zag (za2 PySem.F.plainAttrs_list PySem.F.slot_list_extend PySem.F.type_list_extend zfX (aB (pv 2) rfl) (aa (aB (pv 0) rfl) ac)))
  (ae (zag (za2 PySem.F.plainAttrs_list PySem.F.slot_list_extend PySem.F.type_list_extend zfX (aB (pv 2) rfl) (aa (aB (pv 0) rfl) ac)))
  (ae (zag (za2 PySem.F.plainAttrs_list PySem.F.slot_list_extend PySem.F.type_list_extend zfX (aB (pv 2) rfl) (aa (zcS (N':=["number","problem"]) (ix:=[0]) rfl rfl (by decide +kernel) (by decide +kernel) rfl (λok=>zcd (sc:=ao zeE) ok rfl (by decide +kernel) (by decide +kernel)) (by decide +kernel) rfl rfl (λj i h=>match j,h with | 0,h=>by cases h;exact⟨_,rfl,rfl,.inl rfl,.inl rfl⟩ | n+1,h=>by simp at h) (zbE (pv 1)) (λ_ _ _ _=>(aW (r:=rIxL K) zaK (zhJ K rfl (pv 1) rfl) (pv 0)))) ac)))
  (ak (aJ (pv 2))))))),?_⟩
 try dsimp only [Cx.nox,Cx.wish,aZ]
 intro u c np ndx nex;have O:ap H (upd (upd H c (.own u)) u (.ins C c [])):=λb o h=>by rw[ag (λe=>by rw[e,np]at h;cases h),ag (λe=>by rw[e,ndx]at h;cases h)];exact h
 have hp0:=af (H:=upd H c (.own u)) (a:=u) (o:=.ins C c []);generalize upd (upd H c (.own u)) u (.ins C c [])=H0 at O hp0;refine⟨u,c,rfl,hp0,λg l z H1 n1 n2 n3 e1 e2 e3 Z B ha1 hr1 k1=>⟨rfl,?_⟩⟩;have s1:ap H H1:=λb o h=>k1 b o (O b o h) (λe=>by rw[e,np]at h;cases h);have fT:=O.free n1;have fA:=O.free n2;have fR:=O.free n3;have P1:zat K C H1 u g l z [] [] []:=⟨⟨c,Z⟩,⟨[],B,aq.nil⟩,⟨[],ha1,aq.nil⟩,⟨[],hr1,aq.nil⟩,e1,e2,e3⟩;have S1:=S.same s1;obtain⟨⟨dx,ho⟩,⟨xs,ht,Y⟩,⟨ys,ha,has⟩,⟨zs,hz,hzs⟩,_⟩:=id S1;have xl:xs.length=T'.length:=by rw[←Y.length,lM]
 have yl:ys.length=As.length:=by rw[←has.length,lM]
 have zl:zs.length=Rs.length:=by rw[←hzs.length,lM]
 refine⟨_,rfl,u,C,c,_,_,rfl,Z,T.cl,T.nT,zb9 _ _ _,.inl ⟨rfl,_,SqL.of B⟩,_,rfl,p,C,dx,_,_,rfl,ho,T.cl,T.nT,zb9 _ _ _,g,tl,_,_,rfl,rfl,B,ht,sz _ (by show 0+xs.length≤1000;lia),?_⟩;have U:=aV.lst (ys:=[]++xs) B;have s2:ap H (upd H1 g (.lst ([]++xs))):=s1.upd fT;have P2:zat K C (upd H1 g (.lst ([]++xs))) u g l z T' [] []:=P1.setT (T':=T') (us:=[]++xs) (Y.keep U (zc1 _));generalize upd H1 g (.lst ([]++xs))=H2 at U s2 P2;have S2:=S.same s2;obtain⟨⟨dx2,ho2⟩,_,⟨t,ha2,J⟩,_⟩:=id S2;obtain⟨⟨dq2,hp2⟩,_,⟨us2,L,X⟩,_⟩:=id P2;have eu2:us2=[]:=List.length_eq_zero_iff.mp X.length.symm;subst eu2;have yl2:t.length=As.length:=by rw[←J.length,lM]
 refine⟨_,rfl,u,C,dq2,_,_,rfl,hp2,T.cl,T.nA,zaX _ _ _,.inl ⟨rfl,_,SqL.of L⟩,_,rfl,p,C,dx2,_,_,rfl,ho2,T.cl,T.nA,zaX _ _ _,l,al,_,_,rfl,rfl,L,ha2,sz _ (by show 0+t.length≤1000;lia),?_⟩;have R:=aV.lst (ys:=[]++t) L;have M:ap H (upd H2 l (.lst ([]++t))):=s2.upd fA;have P3:zat K C (upd H2 l (.lst ([]++t))) u g l z T' As []:=P2.setA (As':=As) (us:=[]++t) (J.keep R (zaw zdh _));generalize upd H2 l (.lst ([]++t))=H3 at R M P3;have S3:=S.same M;obtain⟨⟨dq3,hp3⟩,_,_,⟨us3,hb3,W⟩,_⟩:=id P3;have eu3:us3=[]:=List.length_eq_zero_iff.mp W.length.symm;subst eu3;obtain⟨⟨dx3,ho3⟩,_,_,⟨v,hw3,I⟩,_⟩:=id S3;have wl:v.length=Rs.length:=by rw[←I.length,lM]
 refine⟨_,rfl,u,C,dq3,_,_,rfl,hp3,T.cl,T.nR,zbK _ _ _,.inl ⟨rfl,_,SqL.of hb3⟩,_,rfl,q,rfl,⟨_,M.seq hq⟩,λD hD=>zcT zbD (λi us H'=>ap H3 H'∧aq K H' ((zeh Rs (ks.take i)).map dR) us) (λi us H' ⟨y,_⟩=>(M.trans y).seq hq) ⟨au hD _,aq.nil⟩ ?_ ?_⟩
 ·rintro i us H8 x H4 hi hly G ⟨y,N⟩ ⟨rfl,hx⟩;obtain⟨k,hkk,rfl⟩:=zaW (hx _ ((M.trans y).seq hq));have kb:=hk k (mOq hkk);have lt:k.toNat < v.length:=by lia
  have ek:k=((k.toNat:Nat):Int):=by lia
  have h2:atI v ((k.toNat:Nat):Int)=some v[k.toNat]:=zah (gG lt);rw[←ek]at h2;obtain⟨d,hd,hdv⟩:=I.get (gG lt);have er:Rs[k.toNat]?=some (Rs.getD k.toNat []):=by rw[List.getD_eq_getElem?_getD,gG (by lia)];rfl
  rw[List.getElem?_map,er]at hd;cases hd;have kt:=aV.lst (ys:=us++[v[k.toNat]]) G;refine⟨_,rfl,p,C,dx3,_,_,rfl,y _ _ ho3,T.cl,T.nR,zbK _ _ _,_,rfl,rl,_,_,_,rfl,rfl,SqL.of (y _ _ hw3),h2,za5 (sz _ (by rw[lM];lia)) hi hly G ⟨y.upd hD,?_⟩⟩;unfold zeh at N ⊢;rw[zan hkk,mAq,mAq];exact aq.append (aq.keep kt (zaw zbI _) N) (aq.one ((hdv.keep y.kt (zbI _)).keep kt (zbI _)))
 rintro us H4 G ⟨y,N⟩;rw[lM,tO (nRq _)]at N;have ul:us.length=ks.length:=by rw[←N.length,lM];unfold zeh;rw[lM]
 have hb4:=y _ _ hb3;refine⟨z,D,_,_,rfl,rfl,hb4,G,sz _ (by show 0+us.length≤1000;lia),?_⟩;have kt5:=aV.lst (ys:=[]++us) hb4;exact⟨_,rfl,out _ u g l z ((M.trans y).upd fR) np fT fA fR ((P3.same y).setR (Rs':=zeh Rs ks) (us:=[]++us) (N.keep kt5 (zaw zbI _)))⟩
end
end K95
namespace L2
open PySem PySem.Spec PyProof.Rows
section
variable {X:Cx} {E:XK} {pins:List (Addr × Obj)} {σ:St} {H H':Hp} {s s':Shared} {B:Heap} {ea C:Addr} {a0:Value}
def Xe1.frs (a:Xe1 X E):L2.frs X.stack=X.env.locals :: X.fs:=by rw[a.stk];unfold L2.frs;rw[List.filterMap_cons,a.fr];rfl
end
def zjw {h:Heap}{a it:Addr}{i:Nat}{d:Array Value}(x:h.IsTuple a d)(y:h.IsTupleIter it a i):a≠it:=λe=>by subst e;obtain⟨o,f,g,_⟩:=x;obtain⟨j,b,c,_⟩:=y;rw[f]at b;have e:=Option.some.inj b;subst e;rw[g]at c;exact absurd c (by decide)
def drawsT {prog:Program}{w:World}{A:Around}(k:A.handled=none)(it a:Addr)(b:Array Value) :
  Draws prog w A it [it,a] b.size (λi v=>b[i]?=some v) (λi h=>h.IsTupleIter it a i∧h.IsTuple a b) where
 live:=λ_ _ st=>by obtain⟨⟨o,j,_⟩,_⟩:=st;exact⟨o,j⟩
 frame:=λ_ _ _ st d=>⟨st.1.at λo e=>d it (by simp) o e,st.2.at λo e=>d a (by simp) o e⟩
 item:=λi s Q E f st l=>by have g:=zjw st.2 st.1;refine zkH st.1 st.2 (x:=b[i]) (by simp [f]) λh' c hs'=>?_;exact l _ h' s.toks (by simp [f]) ⟨c,st.2.extBut hs'.extBut g⟩ hs'
 done:=λs Q E st n=>ze3 k st.1 st.2 (by simp) n
abbrev enT1 (h:Heap)(l:Addr):Heap:=h.push { cls:=.type "tuple_iterator",data:=.fields #[.ref l,.int 0 0] }
abbrev enT2 (h:Heap)(l:Addr):Heap:=(enT1 h l).push { cls:=.type "enumerate",data:=.fields #[.none,.bool false,.ref h.objs.size,rawInt 0,.none,.none] }
def zjB (l:Addr)(items:Array Value) :
  Meets (Builtin.«enumerate.__new__» ⟨[.type "enumerate",.ref l],[]⟩) (λ_ R s=>s.heap.IsTuple l items∧R (.ok (.ret (.ref (enT1 s.heap l).objs.size))) { s with heap:=enT2 s.heap l }) :=
 .of_wp λprog w A R s h=>by
  obtain⟨i,g,d,tk,f⟩:=s;obtain⟨j,h⟩:=h;have e:=sub_enumerate;have b:Heap.IsTuple (Shared.heap ⟨i,g,d,tk,f⟩) l items:=j;obtain⟨o,a,p,n,k⟩:=id b
  wp_walk using AutoSeq1.wpAny_loadPart' a
  refine wpAny_stack_any λst=>wpAny_pure ?_;split
  ·rename_i c _ _ _ _ _;cases (c == Value.type "enumerate")
   ·wp_walk using AutoSeq1.wpAny_loadPart' a,wpAny_pyIter_tuple b
    exact⟨_,rfl,h⟩
   ·wp_walk using AutoSeq1.wpAny_loadPart' a,wpAny_pyIter_tuple b
    exact⟨_,rfl,h⟩
  ·wp_walk using AutoSeq1.wpAny_loadPart' a,wpAny_pyIter_tuple b
   exact⟨_,rfl,h⟩
section
variable {prog:Program} {w:World} {A:Around} {E:Value→Shared→Prop} {s:Shared}
def zkT (f:s.heap.IsTuple l items)
  (h:∀ h',IsEnum h' (s.heap.objs.size+1) s.heap.objs.size 0 .none→h'.IsTupleIter s.heap.objs.size l 0→(∀ b o,s.heap.get? b=some o→h'.get? b=some o)→Q (.ref (s.heap.objs.size+1)) { s with heap:=h' }) :
  wpAny (model prog w) A (call (.type "enumerate") [.ref l]) Q E s:=by refine callType_new F.called_enumerate (by decide) (F.typeCall_enumerate_1 _) (F.newCall_enumerate_1 _) (λa=>F.args_object_init_2 a _) F.entry_enumerate_new (zjB l items) ⟨f,?_⟩;have d:(enT1 s.heap l).objs.size=s.heap.objs.size+1:=Heap.size_push ..;have c:(enT2 s.heap l).get? (enT1 s.heap l).objs.size=some _:=Heap.get?_push_size _ rfl;have g:(enT2 s.heap l).get? s.heap.objs.size=some _:=hG _ (Heap.get?_push_size _ rfl);rw[d]at c;show _∧_;rw[d];exact⟨⟨_,c,rfl⟩,h _ c ⟨_,g,rfl,rfl⟩ λb o e=>hG _ (hG _ e)⟩
end
def IteT (K:W.Frag)(a:Addr):It :=
 ⟨λi H=>∃ xs x,SqT K H a xs∧xs[i]?=some x,λi H x H'=>∃ p y,x=.ref p∧H p=none∧H'=upd H p (.tup [.int i,y])∧∀ xs,SqT K H a xs→xs[i]?=some y,λi H=>∃ xs,SqT K H a xs∧xs.length≤i⟩
def zl9 {K:W.Frag}{a:Addr}{xs:List V}:Wk (IteT K a) xs.length (λH=>SqT K H a xs):=⟨λ_ _ h b=>⟨xs,h,b⟩,λi _ h b=>⟨xs,xs[i],h,by simp [b]⟩⟩
def zkx {P:Program}{w:World}{K:W.Frag}{N:List Expr}{x1:Nat}{pos:Pos}(a e it:Addr)(r:e≠it):zee P w K (.Tuple N x1 pos) (IteT K a) [e,it] e (λi h=>(∃ c,IsEnum h e it ((i:Nat):Int) c)∧h.IsTupleIter it a i) where
 mem:=by simp
 obj:=λi h st b f=>by
  obtain⟨⟨c,g⟩,o,n,R,hd⟩:=st;rcases List.mem_cons.mp f with rfl | f
  ·exact⟨_,g,λv z=>by have z':Data.fields _=Data.cell v:=z;cases z'⟩
  ·have e':=mS f;subst e';exact⟨o,n,λv z=>by rw[hd]at z;cases z⟩
 keep:=λi h h' st k=>⟨by obtain⟨c,g⟩:=st.1;exact⟨c,k e (by simp) _ g⟩,st.2.at λo q=>k it (by simp) o q⟩
 item:=by
  intro X hP hw hK R i C s σ H E I hf st hg;subst hP hw hK;obtain⟨xs,x,Q,hx⟩:=hg;obtain⟨d,Z,p,hz⟩:=I.tuple Q;obtain⟨u,hu,ru⟩:=Z.get hx;obtain⟨⟨c,g⟩,l⟩:=st;obtain⟨oi,hoi,hci,hdi⟩:=id l;have O:s.heap.IsTuple a d.toArray:=p;have D:d.toArray[i]?=some u:=by simpa using hu
  have nae:a≠e:=λz=>by subst z;obtain⟨o,n,t,_⟩:=O;have L:s.heap.get? a=some _:=g;rw[n]at L;have z:=Option.some.inj L;subst z;exact absurd (show Value.type "enumerate"=Value.type "tuple" from t) (by decide)
  refine wpAny_pyNext_enum_itemD (drawsT (A:=X.A.in1) (show X.A.in1.handled=none from I.ok.hd R) it a d.toArray) g ⟨l,O⟩ (by obtain⟨q,_⟩:=Array.getElem?_eq_some_iff.mp D;exact q) r (by simp;exact⟨r,Ne.symm nae⟩) λy h' tk px n Y S hsz hk=>?_;have ex:y=u:=by have B:d.toArray[i]?=some y:=px;rw[D]at B;exact(Option.some.inj B).symm
  subst ex;refine⟨_,rfl,wpAny_letOwnedTupleGo_enum n λU he2 j=>?_⟩;replace j:Heap.SameBut e h' U:=j;have J:e < s.heap.objs.size:=hLq g;have hiH:it < s.heap.objs.size:=hLq hoi;have hT2:U.get? s.heap.objs.size=some { cls:=.type "tuple",data:=.seq #[.int i tk,y] }:=(j.2 _ (Nat.ne_of_gt J)).trans S;have kk:∀ b o,b∉[e,it]→s.heap.get? b=some o→U.get? b=some o:=λb o f q=>by have M:b≠e:=λz=>f (by simp [z]);have hbi:b≠it:=λz=>f (by simp [z]);exact(j.2 b M).trans (hk b o M hbi q)
  have new:zaz X.prog X.w (upd H s.heap.objs.size (.tup [.int i,x])) U s.heap.objs.size (.tup [.int i,x]):=by
   refine⟨?_,[.int i tk,y],.cons ⟨_,rfl⟩ (.cons ru .nil),_,hT2,?_⟩
   ·exact Nat.le_of_lt (zbu (show 2≤1000 by decide))
   ·first | exact⟨rfl,rfl,_,rfl⟩ | exact⟨rfl,_,rfl⟩ | exact⟨rfl,rfl⟩
  refine⟨.ref s.heap.objs.size,_,I.turnedLaid (t':=tk+1) hf kk (nRq _) new,rfl,⟨_,x,rfl,I.fresh,rfl,λys hy=>by rw[I.tuple_inj hy Q];exact hx⟩,⟨⟨y,by simpa using he2⟩,?_⟩,?_⟩
  ·exact Y.1.at λo q=>(j.2 it (Ne.symm r)).trans q
  ·intro b f;have G:b < s.heap.objs.size:=by
    rcases List.mem_cons.mp f with rfl | f
    ·exact J
    ·rw[mS f];exact hiH
   rw[ag (Nat.ne_of_lt G)];exact(hf b f).1
 done:=by intro X hP hw hK R i C s σ H E I hf st hg;subst hP hw hK;obtain⟨xs,Q,hx⟩:=hg;obtain⟨d,Z,p,hz⟩:=I.tuple Q;obtain⟨⟨c,g⟩,l⟩:=st;obtain⟨f0,f1,f2,f3,f4,f5⟩:=hf it (by simp);have O:s.heap.IsTuple a d.toArray:=p;have hl:=Z.length;have S:s.TypeIs (.ref e) "enumerate":=⟨_,g,rfl⟩;unfold pyNext;refine wpAny_bind (wpAny_attempt (wpAny_callSpecial?_slot (name:=Str.ofString "__next__") S F.slot_enumerate_next (wpAny_call_entry F.slot_enumerate_next S F.entry_enumerate_next ?_ (F.args_enumerate_next_1 _))));show wpAny _ _ (field (.ref e) 2 >>= _) _ _ _;refine wpAny_bind (wpAny_field g rfl (x:=.ref it) rfl ?_);refine wpAny_bind (ze3 (I.ok.hd R) l O (by simp;lia) λh' x eb hx'=>?_);obtain⟨o,n,t⟩:=hx';refine wpAny_bind (wpAny_isInstance (T:="StopIteration") (b:=true) ⟨o,n,t⟩ isSubtype_stop ?_);exact wpAny_pure ⟨rfl,I.turned (t':=s.toks) (λb o f q=>eb b o f q) f0 f1 f3 f4 f5⟩
 self:=λ_ _ _ _ _ st h=>by obtain⟨⟨c,g⟩,_⟩:=st;exact wpAny_pyIter_enum g h
section
variable {X:Cx}
def iEnumT (K:W.Frag)(d:TA):TI:=λc H R=>d c H λvs b=>∃ a,vs=[.ref a]∧(∃ xs,SqT K b a xs)∧R (IteT K a) b
def zmt {i:List Expr}{w:Nat}{z:Pos}{a:Expr}{r:TA}{p f:Pos}(D:Gl X "enumerate")(C:X.mg "enumerate"=none)(E:PA X [a] r)(hs:starEach [a] X.env=[(false,eval a X.env)]:=by rfl):PI X (.Tuple i w z) (.Call (.Name "enumerate" p) [a] [] f) (iEnumT X.K r):=by
 intro d s o H R I h;refine Call_ (zbU I D C boot_enumerate (PyProof.Rows.callWith_type1 (thn (E f d s o H _ I h) λus c ⟨vs,v,j,y,q1⟩=>?_) hs rfl));obtain⟨a,e,⟨xs,B⟩,q⟩:=q1;subst e;obtain⟨u,rfl,x⟩:=y.one;cases x;obtain⟨k,G,p,J⟩:=j.tuple B;refine zkT (show c.heap.IsTuple a k.toArray from p) λh' t l A=>?_;refine wpAny_pyIter_enum t ?_;have F:Inv X d o v { c with heap:=h' }:=j.kept (t':=c.toks) A;refine⟨_,[c.heap.objs.size+1,c.heap.objs.size],_,IteT X.K a,v,rfl,F,zkx a (c.heap.objs.size+1) c.heap.objs.size (Nat.succ_ne_self _),⟨⟨_,t⟩,l⟩,λb n=>?_,q⟩;have g:c.heap.objs.size≤b:=by
  rcases List.mem_cons.mp n with rfl | n
  ·lia
  ·rw[mS n];exact nRq _
 exact j.fpOk g (j.hok.fresh g)
end
end L2
namespace K95
open PySem L2
def ok_or (F:aI P w K mg base CX k f fd ps sp)(G:aI P w K mg base CX k f fd ps sp'):aI P w K mg base CX k f fd ps (λvs H Q E=>sp vs H Q E∨sp' vs H Q E) :=
 ⟨λvs H Q E q=>q.elim (F.len vs H Q E) (G.len vs H Q E),λA outer s H a us vs Q E c d e b hs=>hs.elim (F.run A outer s H a us vs Q E c d e b) (G.run A outer s H a us vs Q E c d e b)⟩
def za9 (n:Nat)(ps:List Int)(i:Nat):Bool:=decide (ps.getD i 0 < 1)||decide ((n:Int) < ps.getD i 0)||decide (ps.getD i 0∈ps.take i)
def zdl (n:Nat)(ps:List Int):Bool:=(List.range ps.length).any (za9 n ps)
def zhQ (a:i < ps.length)(h:za9 n ps i=true):zdl n ps=true:=List.any_eq_true.mpr ⟨i,List.mem_range.mpr a,h⟩
def zhP (h:∀ i,i < ps.length→za9 n ps i=false):zdl n ps=false:=by unfold zdl;rw[List.any_eq_false];intro i a;rw[h i (List.mem_range.mp a)];decide
def zkg {n:Int}(h:n.natAbs < 10000000000):n.natAbs.log2 < 1920∧((toString n:String):Str).length≤11:=by
 refine⟨?_,?_⟩
 ·by_cases h0:n.natAbs=0
  ·rw[h0];decide
  ·exact Nat.lt_of_lt_of_le ((Nat.log2_lt h0 (k:=34)).mpr (Nat.lt_of_lt_of_le h (by decide))) (by decide)
 ·have e:=int_text_length_le10 (a:=n) (k:=10) (by decide) h;show(Str.ofString (toString n)).length≤11;rw[PySem.ofString_length];exact e
structure AkQ (CB:Addr)(H:Hp)(n:Nat)(ps:List Int)(Q:VK)(E:XK):Prop where
 bad:zdl n ps=true→∀ H',ap H H'→E (.ref CB) none H'
 ok:zdl n ps=false→∀ H',ap H H'→Q .non H'
inductive zhB (K:W.Frag)(C CB:Addr):Sp|m{vs H Q E} (p tl al rl q:Addr) (T:List Tm) (As:List At) (Rs:List (List Int)) (ps:List Int):vs=[.ref p,.ref q]→zat K C H p tl al rl T As Rs→SqL K H q (ps.map V.int)→(∀ k∈ps,k.natAbs < 10000000000)→AkQ CB H As.length ps Q E→zhB K C CB vs H Q E
inductive zhA (K:W.Frag)(C CB:Addr):Sp|m{vs H Q E} (p tl al rl q:Addr) (T:List Tm) (As:List At) (Rs:List (List Int)) (ps:List Int):vs=[.ref p,.ref q]→zat K C H p tl al rl T As Rs→SqT K H q (ps.map V.int)→(∀ k∈ps,k.natAbs < 10000000000)→AkQ CB H As.length ps Q E→zhA K C CB vs H Q E
def zbW:zab ["problem","atoms","place","atom"] ["problem","atoms"] (ao zdI):=fsc
section
variable {P:Program} {w:World} {K:W.Frag} {mg:Str→Option Value} {base:Heap} {aK C CN CT CP CM CL f:Addr} {fd:FuncData}
def znV (F:Fun K "ask_atoms" "ask_atoms" zdI f fd)(T:Txt K mg aK C CN CT CP CM)(TB:TxB K mg CL):aI P w K mg base (CX1 P w) 1 f fd ["problem","atoms"] (zhB K C CP):=by
 refine Fun.okX F zbW (λvs H Q E h=>?_) (λcdv Ar outer s H vs Q E hr h=>?_)
 ·obtain⟨p,tl,al,rl,q,T,D,Rs,ps,rfl,_⟩:=h;rfl
 obtain⟨p,tl,al,rl,q,T',D,Rs,ps,rfl,S,A,U,hQ⟩:=h;refine⟨_,(ak (zaN PassesOwn.leaving rfl (zgl rfl TB.enumerate (aa (pv 1) ac)) (zcO rfl (zaB (zae (i:=2) zbW.nd rfl (Or.inl rfl)) (zaB (zae (i:=3) zbW.nd rfl (Or.inl rfl)) zcf)))
   (ae (zaj (PW.pt (zcB (aA zd1 (pv 3) ai) (zcb (aA zbk (pv 3) (aw zaa rfl TB.len bLq (aa (aB (pv 0) rfl) ac))))))
     (ak (zbA (C:=CP) xe1 rfl rfl T.bpart PySem.F.excBase_ValueError T.xpart (aa (zbv (zaC (zdZ (pv 3)) (zaC zaU zcN))) ac)))
     zac)
    (ak (zaj (aA zdP (pv 3) (zc0 zeX (pv 1) zdt (zds (pv 2))) rfl)
     (ak (zbA (C:=CP) xe1 rfl rfl T.bpart PySem.F.excBase_ValueError T.xpart (aa (zbv (zaC (zdZ (pv 3)) (zaC zaU zcN))) ac)))
     zac))))),?_⟩
 try dsimp only [Cx.nox,Cx.wish,aZ]
 refine⟨_,rfl,q,rfl,⟨_,A⟩,zba (zgf (xs:=ps.map V.int)) (λi u H'=>∃ I G:Option V,u=[some (.ref p),some (.ref q),I,G]∧ap H H'∧∀ j,j < i→za9 D.length ps j=false) (λi u H' ⟨_,_,_,J,_⟩=>J.seq A) ⟨none,none,rfl,ap.refl H,λj Z=>absurd Z (Nat.not_lt_zero _)⟩ ?_ ?_⟩
 ·rintro i u H2 x H3 hi ⟨I,G,rfl,X,v⟩ ⟨t,y,rfl,ht,rfl,hy⟩;obtain⟨k,O,rfl⟩:=zaW (hy _ (X.seq A));have g:=X.trans (au ht (.tup [.int i,.int k]));have Y:=af (H:=H2) (a:=t) (o:=.tup [.int i,.int k]);generalize upd H2 t (.tup [.int i,.int k])=H3 at g Y;obtain⟨⟨dx,ho⟩,_,⟨xs,hl,hs⟩,_⟩:=S.same g;have d:xs.length=D.length:=by rw[←hs.length,lM]
  have il:i < ps.length:=(gEq O).1;have B:ps.getD i 0=k:=by rw[List.getD_eq_getElem?_getD,O];rfl
  obtain⟨M,ll⟩:=zkg (U k (mOq O));have L:∀ H',ap H H'→za9 D.length ps i=true→E (.ref CP) none H':=λH' s b=>hQ.bad (zhQ il b) H' s;refine⟨t,_,rfl,SqT.of Y,rfl,_,_,rfl,_,_,rfl,rfl,?_⟩;have l:∀ {a b:Str},a.length≤100→b.length≤100→(a++((toString k:String):Str)++b).length≤sizeLine:=λ{a b} ha hb=>by rw[za6,za6];exact Nat.le_of_lt (hln (by lia))
  have N:∀ {a:Str},a.length≤100→(a++((toString k:String):Str)).length≤sizeLine:=λ{a} ha=>by rw[za6];exact Nat.le_of_lt (hln (by lia))
  refine⟨_,rfl,_,_,rfl,rfl,_,rfl,aO (λc=>?_) (λc=>⟨_,rfl,_,rfl,p,C,dx,_,_,rfl,ho,T.cl,T.nA,zaX _ _ _,al,xs,rfl,.inl (SqL.of hl),_,_,rfl,rfl,_,rfl,aO (λR=>?_) (λR=>?_)⟩)⟩
  ·have r:k < 1:=oDq c;exact⟨_,rfl,.inr ⟨k,rfl,M,_,rfl,N (by decide +kernel),_,rfl,l (by decide +kernel) (by decide +kernel),l (by decide +kernel) (by decide +kernel),(by show 1≤sizeLine;decide),L _ g (by unfold za9;rw[B,dTq r];rfl)⟩⟩
  ·have r:((xs.length:Nat):Int) < k:=oDq R;rw[d]at r;exact⟨_,rfl,.inr ⟨k,rfl,M,_,rfl,N (by decide +kernel),_,rfl,l (by decide +kernel) (by decide +kernel),l (by decide +kernel) (by decide +kernel),(by show 1≤sizeLine;decide),L _ g (by unfold za9;rw[B,dTq r,Bool.or_true,Bool.true_or])⟩⟩
  ·have r:¬k < 1:=λz=>c (dTq z);have c3:¬((xs.length:Nat):Int) < k:=λz=>R (dTq z);rw[d]at c3;refine⟨_,rfl,_,rfl,_,rfl,_,rfl,q,_,rfl,g.seq A,λn hn=>?_⟩;rw[zhh (by rw[lM];lia),←List.map_take];have W:=g.trans (au hn (.lst ((ps.take i).map V.int)));refine⟨n,_,rfl,.inl (SqL.of af),rfl,zc6 _,_,rfl,?_⟩;rw[if_neg (by decide:¬false=true),zb7];by_cases e:k∈ps.take i
   ·rw[dTq e];exact zcj ⟨_,rfl,.inr ⟨k,rfl,M,_,rfl,N (by decide +kernel),_,rfl,l (by decide +kernel) (by decide +kernel),l (by decide +kernel) (by decide +kernel),(by show 1≤sizeLine;decide),L _ W (by unfold za9;rw[B,dTq e,Bool.or_true])⟩⟩
   ·rw[dFq e];refine zck ⟨_,_,rfl,W,λj Z=>?_⟩;by_cases z:j < i
    ·exact v j z
    ·rw[show j=i by lia];unfold za9;rw[B,dFq r,dFq c3,dFq e];rfl
 ·rintro u H' ⟨I,G,rfl,J,v⟩;rw[lM]at v;exact hQ.ok (zhP v) _ J
def znU (F:Fun K "ask_atoms" "ask_atoms" zdI f fd)(T:Txt K mg aK C CN CT CP CM)(TB:TxB K mg CL):aI P w K mg base (CX1 P w) 1 f fd ["problem","atoms"] (zhA K C CP):=by
 refine Fun.okX F zbW (λvs H Q E h=>?_) (λcdv Ar outer s H vs Q E hr h=>?_)
 ·obtain⟨p,tl,al,rl,q,T,D,Rs,ps,rfl,_⟩:=h;rfl
 obtain⟨p,tl,al,rl,q,T',D,Rs,ps,rfl,S,A,U,hQ⟩:=h;refine⟨_,(ak (zaN PassesOwn.leaving rfl (zmt rfl TB.enumerate (aa (pv 1) ac)) (zcO rfl (zaB (zae (i:=2) zbW.nd rfl (Or.inl rfl)) (zaB (zae (i:=3) zbW.nd rfl (Or.inl rfl)) zcf)))
   (ae (zaj (PW.pt (zcB (aA zd1 (pv 3) ai) (zcb (aA zbk (pv 3) (aw zaa rfl TB.len bLq (aa (aB (pv 0) rfl) ac))))))
     (ak (zbA (C:=CP) xe1 rfl rfl T.bpart PySem.F.excBase_ValueError T.xpart (aa (zbv (zaC (zdZ (pv 3)) (zaC zaU zcN))) ac)))
     zac)
    (ak (zaj (aA zdP (pv 3) (zc0 zjI (pv 1) zdt (zds (pv 2))) rfl)
     (ak (zbA (C:=CP) xe1 rfl rfl T.bpart PySem.F.excBase_ValueError T.xpart (aa (zbv (zaC (zdZ (pv 3)) (zaC zaU zcN))) ac)))
     zac))))),?_⟩
 try dsimp only [Cx.nox,Cx.wish,aZ]
 refine⟨_,rfl,q,rfl,⟨_,A⟩,zba (zl9 (xs:=ps.map V.int)) (λi u H'=>∃ I G:Option V,u=[some (.ref p),some (.ref q),I,G]∧ap H H'∧∀ j,j < i→za9 D.length ps j=false) (λi u H' ⟨_,_,_,J,_⟩=>J.tup A) ⟨none,none,rfl,ap.refl H,λj Z=>absurd Z (Nat.not_lt_zero _)⟩ ?_ ?_⟩
 ·rintro i u H2 x H3 hi ⟨I,G,rfl,X,v⟩ ⟨t,y,rfl,ht,rfl,hy⟩;obtain⟨k,O,rfl⟩:=zaW (hy _ (X.tup A));have g:=X.trans (au ht (.tup [.int i,.int k]));have Y:=af (H:=H2) (a:=t) (o:=.tup [.int i,.int k]);generalize upd H2 t (.tup [.int i,.int k])=H3 at g Y;obtain⟨⟨dx,ho⟩,_,⟨xs,hl,hs⟩,_⟩:=S.same g;have d:xs.length=D.length:=by rw[←hs.length,lM]
  have il:i < ps.length:=(gEq O).1;have B:ps.getD i 0=k:=by rw[List.getD_eq_getElem?_getD,O];rfl
  obtain⟨M,ll⟩:=zkg (U k (mOq O));have L:∀ H',ap H H'→za9 D.length ps i=true→E (.ref CP) none H':=λH' s b=>hQ.bad (zhQ il b) H' s;refine⟨t,_,rfl,SqT.of Y,rfl,_,_,rfl,_,_,rfl,rfl,?_⟩;have l:∀ {a b:Str},a.length≤100→b.length≤100→(a++((toString k:String):Str)++b).length≤sizeLine:=λ{a b} ha hb=>by rw[za6,za6];exact Nat.le_of_lt (hln (by lia))
  have N:∀ {a:Str},a.length≤100→(a++((toString k:String):Str)).length≤sizeLine:=λ{a} ha=>by rw[za6];exact Nat.le_of_lt (hln (by lia))
  refine⟨_,rfl,_,_,rfl,rfl,_,rfl,aO (λc=>?_) (λc=>⟨_,rfl,_,rfl,p,C,dx,_,_,rfl,ho,T.cl,T.nA,zaX _ _ _,al,xs,rfl,.inl (SqL.of hl),_,_,rfl,rfl,_,rfl,aO (λR=>?_) (λR=>?_)⟩)⟩
  ·have r:k < 1:=oDq c;exact⟨_,rfl,.inr ⟨k,rfl,M,_,rfl,N (by decide +kernel),_,rfl,l (by decide +kernel) (by decide +kernel),l (by decide +kernel) (by decide +kernel),(by show 1≤sizeLine;decide),L _ g (by unfold za9;rw[B,dTq r];rfl)⟩⟩
  ·have r:((xs.length:Nat):Int) < k:=oDq R;rw[d]at r;exact⟨_,rfl,.inr ⟨k,rfl,M,_,rfl,N (by decide +kernel),_,rfl,l (by decide +kernel) (by decide +kernel),l (by decide +kernel) (by decide +kernel),(by show 1≤sizeLine;decide),L _ g (by unfold za9;rw[B,dTq r,Bool.or_true,Bool.true_or])⟩⟩
  ·have r:¬k < 1:=λz=>c (dTq z);have c3:¬((xs.length:Nat):Int) < k:=λz=>R (dTq z);rw[d]at c3;refine⟨_,rfl,_,rfl,_,rfl,_,rfl,.inl ⟨q,_,rfl,g.tup A,λz=>?_,λn hn=>?_⟩⟩
   ·have z2:=z.2;rw[sIx_nat (by rw[lM];lia),lM]at z2;lia
   rw[zhh (by rw[lM];lia),←List.map_take];have W:=g.trans (au hn (.tup ((ps.take i).map V.int)));refine⟨n,_,rfl,.inr (SqT.of af),rfl,zc6 _,_,rfl,?_⟩;rw[if_neg (by decide:¬false=true),zb7];by_cases e:k∈ps.take i
   ·rw[dTq e];exact zcj ⟨_,rfl,.inr ⟨k,rfl,M,_,rfl,N (by decide +kernel),_,rfl,l (by decide +kernel) (by decide +kernel),l (by decide +kernel) (by decide +kernel),(by show 1≤sizeLine;decide),L _ W (by unfold za9;rw[B,dTq e,Bool.or_true])⟩⟩
   ·rw[dFq e];refine zck ⟨_,_,rfl,W,λj Z=>?_⟩;by_cases z:j < i
    ·exact v j z
    ·rw[show j=i by lia];unfold za9;rw[B,dFq r,dFq c3,dFq e];rfl
 ·rintro u H' ⟨I,G,rfl,J,v⟩;rw[lM]at v;exact hQ.ok (zhP v) _ J
end
end K95
namespace L2
open PySem PySem.Spec PyProof.Rows
open PySem.AutoSeq1 (wpAny_loadPart')
section
variable {prog:Program} {w:World} {A:Around} {E:Value→Shared→Prop} {s:Shared}
def typeK (f:TypeCalled T newId initId)
  (C:checkTypeCall T ⟨args,kw⟩=pure ())(v:checkBuiltinCall newId ⟨.type T :: args,kw⟩=pure ())
  (i:entryFor table newId=some Bn)(j:entryFor table initId=some Bi)(g:Meets (Bn ⟨.type T :: args,kw⟩) S)
  (h:S A.in1 (wants Q₁ E) s)
  (l:∀ b a,Q₁ b a→a.TypeIs b T∧argsOk initId ⟨b :: args,kw⟩∧∃ x,Meets (Bi ⟨b :: args,kw⟩) x∧x A.in1 (wants (λr k=>r=.none∧Q b k) E) a) :
  wpAny (model prog w) A (call (.type T) args kw) Q E s:=by
 obtain⟨c,J,z⟩:=f.mro;have u:=f.made;have y:=f.sub;refine wpAny_call (codeAny_of_tree ?_);show wpAny _ _ (callAny (.type T) _) _ _ _;refine wpAny_pure ⟨Code.quiet_builtin _ (by decide +kernel),codeAny_builtin F.entry_type_call ?_⟩;rw[Around.under_plain (weight_type_call_type T args kw) (units_type_call_type T args kw)];have M:=f.notType;have L:=f.canCreate
 repeat (any_goals (first | assumption | wp_step))
 refine codeAny_mono (codeAny_call_builtin f.plain i (wpAny_of_eq v (g prog w A.in1 _ s h))) λr a q=>?_;cases r with
 | error e=>exact q
 | ok I =>
  cases I with
  | ret b =>
   obtain⟨G,t,x,H,p⟩:=l _ _ q;have B:=f.init.lookup;have D:=f.init.bind b
   repeat (any_goals (first | assumption | wp_step))
   refine codeAny_mono (codeAny_call_builtin f.init.plain j (f.init.check _ _ _ _ _ _ _ _ G t (H prog w A.in1 _ a p))) λo k d=>?_;cases o with
   | error e=>exact d
   | ok n =>
    cases n with
    | ret r =>
     obtain⟨rfl,K⟩:=d
     repeat (any_goals (first | assumption | wp_step))
    | _=>exact d.elim
  | _=>exact q.elim
def initK {T b:String}{c:Value}{rest:List Value}{e:List (Str × Value)}(h:typeLookup (.type T) "__init__"=pure (some (.builtin "object.__init__")))
  (g:Bind.madeBy (.type T)=pure (some b))(f:(some b != some "object.__new__")=true) :
  Meets (Builtin.«object.__init__» ⟨c :: rest,e⟩) (λ_ R s=>s.TypeIs c T∧R (.ok (.ret .none)) s):=by
 refine Meets.of_wp λprog w A R s hs=>?_;obtain⟨i,d⟩:=hs;cases rest with
 | nil =>
  cases e with
  | nil=>exact wpAny_pure ⟨_,rfl,d⟩
  | cons =>
   repeat (any_goals (first | assumption | wp_step))
   exact⟨_,rfl,d⟩
 | cons a rest =>
  repeat (any_goals (first | assumption | wp_step))
  exact⟨_,rfl,d⟩
def newS (l:Addr)(items:Array Value)(n:Nat)(f:Option Addr)(k:Array (Option Value))(m:Nat)(t:Tok)(q:m≤1000) :
  Meets (Builtin.«enumerate.__new__» ⟨[.type "enumerate",.ref l],[(Str.ofString "start",.int m t)]⟩) (λ_ R s=>s.heap.get? l=some { cls:=.type "list",dict:=f,data:=.seq items n,slots:=k } ∧
   R (.ok (.ret (.ref (s.heap.push { cls:=.type "list_iterator",data:=.fields #[.ref l,.int 0 0] }).objs.size)))
    { s with heap:=(s.heap.push { cls:=.type "list_iterator",data:=.fields #[.ref l,.int 0 0] }).push { cls:=.type "enumerate",data:=.fields #[.none,.bool false,.ref s.heap.objs.size,rawInt m,.none,.none] } }) :=
 .of_wp λprog w A R s h=>by
  obtain⟨p,g,d,tk,o⟩:=s;obtain⟨j,h⟩:=h;have i:=sub_enumerate;have e:Heap.IsList (Shared.heap ⟨p,g,d,tk,o⟩) l items:=⟨_,j,rfl,n,rfl⟩;have b:Builtin.SmallTypes.fitsIndex (m:Int)=true:=by unfold Builtin.SmallTypes.fitsIndex;simp;lia
  wp_walk using wpAny_loadPart' j
  refine wpAny_stack_any λst=>wpAny_pure ?_;split
  ·rename_i c _ _ _ _ _;cases (c == Value.type "enumerate")
   ·dsimp only;rw[if_neg Bool.false_ne_true];refine wpAny_bind ?_;refine wpAny_of_eq (a:=(Value.ref l,some (Value.int m t))) ?e1 ?_
    case e1=>rfl
    dsimp only;refine wpAny_bind ?_;refine wpAny_of_eq (a:=Value.int m t) ?e2 ?_
    case e2=>rfl
    refine wpAny_bind ?_;refine wpAny_of_eq (a:=some (m:Int)) ?e3 ?_
    case e3=>rfl
    dsimp only;rw[b,if_neg (by decide)];refine wpAny_bind ?_;refine wpAny_pyIter_list e ?_
    wp_walk
    exact⟨_,rfl,h⟩
   ·dsimp only;rw[if_pos rfl];refine wpAny_bind ?_;refine wpAny_of_eq (a:=(Value.ref l,some (Value.int m t))) ?e1 ?_
    case e1=>rfl
    dsimp only;refine wpAny_bind ?_;refine wpAny_of_eq (a:=Value.int m t) ?e2 ?_
    case e2=>rfl
    refine wpAny_bind ?_;refine wpAny_of_eq (a:=some (m:Int)) ?e3 ?_
    case e3=>rfl
    dsimp only;rw[b,if_neg (by decide)];refine wpAny_bind ?_;refine wpAny_pyIter_list e ?_
    wp_walk
    exact⟨_,rfl,h⟩
  ·dsimp only;rw[if_neg Bool.false_ne_true];refine wpAny_bind ?_;refine wpAny_of_eq (a:=(Value.ref l,some (Value.int m t))) ?e1 ?_
   case e1=>rfl
   dsimp only;refine wpAny_bind ?_;refine wpAny_of_eq (a:=Value.int m t) ?e2 ?_
   case e2=>rfl
   refine wpAny_bind ?_;refine wpAny_of_eq (a:=some (m:Int)) ?e3 ?_
   case e3=>rfl
   dsimp only;rw[b,if_neg (by decide)];refine wpAny_bind ?_;refine wpAny_pyIter_list e ?_
   wp_walk
   exact⟨_,rfl,h⟩
def zkU {l:Addr}{items:Array Value}{m:Nat}{t:Tok}{Q:Value→Shared→Prop}(q:m≤1000)(u:s.heap.IsList l items)
  (h:∀ h',IsEnum h' (s.heap.objs.size+1) s.heap.objs.size m .none→h'.IsListIter s.heap.objs.size l 0→h'.objs.size=s.heap.objs.size+2 →
   (∀ b o,s.heap.get? b=some o→h'.get? b=some o)→Q (.ref (s.heap.objs.size+1)) { s with heap:=h' }) :
  wpAny (model prog w) A (call (.type "enumerate") [.ref l] [(Str.ofString "start",.int m t)]) Q E s:=by
 obtain⟨⟨c,j,v,p⟩,r,i,n,g⟩:=u;replace i:c=.type "list":=i;replace g:v=.seq items n:=g;subst i g;refine typeK F.called_enumerate (by kernel_rfl) (by kernel_rfl) F.entry_enumerate_new F.entry_object_init (newS l items n j p m t q) (Q₁:=λd a=>a.TypeIs d "enumerate"∧Q d a) ⟨r,?_⟩ λd _ f=>⟨f.1,?_,_,initK F.called_enumerate.init.lookup F.called_enumerate.made (by decide),f.1,rfl,f.2⟩
 ·have e:(s.heap.push { cls:=.type "list_iterator",data:=.fields #[.ref l,.int 0 0] }).objs.size=s.heap.objs.size+1:=Heap.size_push ..;show _∧_;rw[e];have k:IsEnum ((s.heap.push { cls:=.type "list_iterator",data:=.fields #[.ref l,.int 0 0] }).push
    { cls:=.type "enumerate",data:=.fields #[.none,.bool false,.ref s.heap.objs.size,rawInt m,.none,.none] }) (s.heap.objs.size+1) s.heap.objs.size m .none:=by
   have:=Heap.get?_push_size (s.heap.push { cls:=.type "list_iterator",data:=.fields #[.ref l,.int 0 0] })
    (o:={ cls:=.type "enumerate",data:=.fields #[.none,.bool false,.ref s.heap.objs.size,rawInt m,.none,.none] }) rfl
   rw[e]at this;exact this
  exact⟨⟨_,k,rfl⟩,h _ k ⟨_,hG _ (Heap.get?_push_size _ rfl),rfl,rfl⟩ (by rw[Heap.size_push,e]) λb o x=>hG _ (hG _ x)⟩
 ·unfold argsOk;rw[signature?_of (id:="object.__init__") (n:=['_','_','t','i','n','i','_','_']) (o:=['t','c','e','j','b','o']) (by kernel_rfl) F.owner_object]
  kernel_rfl
end
def znr {prog:Program}{w:World}{A:Around}{it:Addr}{a:List Addr}{n:Nat}{P:Nat→Value→Prop}{St:Nat→Heap→Prop}(D:Draws prog w A it a n P St)(m:Nat):Draws prog w A it a (m+n) (λj v=>∃ i,j=m+i∧P i v) (λj h=>∃ i,j=m+i∧St i h) where
 live:=λj h ⟨i,_,st⟩=>D.live i h st
 frame:=λj h h' ⟨i,e,st⟩ c=>⟨i,e,D.frame i h h' st c⟩
 item:=λj s Q E k ⟨i,e,st⟩ d=>D.item i s Q E (by lia) st λx h' tk f hs b=>d x h' tk ⟨i,e,f⟩ ⟨i+1,by lia,hs⟩ b
 done:=λs Q E ⟨i,e,st⟩ g=>D.done s Q E ((show i=n by lia) ▸ st) g
def IteS (K:W.Frag)(m:Nat)(a:Addr):It :=
 ⟨λi H=>∃ xs x,SqL K H a xs∧xs[i]?=some x,λi H x H'=>∃ p y,x=.ref p∧H p=none∧H'=upd H p (.tup [.int ((m+i:Nat):Int),y])∧∀ xs,SqL K H a xs→xs[i]?=some y,λi H=>∃ xs,SqL K H a xs∧xs.length≤i⟩
def zky {P:Program}{w:World}{K:W.Frag}{R:List Expr}{x1:Nat}{pos:Pos}(m:Nat)(a e it:Addr)(y:e≠it):zee P w K (.Tuple R x1 pos) (IteS K m a) [e,it] e (λi h=>(∃ c,IsEnum h e it ((m+i:Nat):Int) c)∧h.IsListIter it a i) where
 mem:=by simp
 obj:=λi h st b d=>by
  obtain⟨⟨c,g⟩,o,F,U,hd⟩:=st;rcases List.mem_cons.mp d with rfl | d
  ·exact⟨_,g,λv z=>by have z':Data.fields _=Data.cell v:=z;cases z'⟩
  ·have e':=mS d;subst e';exact⟨o,F,λv z=>by rw[hd]at z;cases z⟩
 keep:=λi h h' st k=>⟨by obtain⟨c,g⟩:=st.1;exact⟨c,k e (by simp) _ g⟩,st.2.at λo q=>k it (by simp) o q⟩
 item:=by
  intro X n hw hK U i B s σ H E I hf st hg;subst n hw hK;obtain⟨xs,x,S,hx⟩:=hg;obtain⟨j,Z,p,hz⟩:=I.list S;obtain⟨u,hu,ru⟩:=Z.get hx;obtain⟨⟨c,g⟩,l⟩:=st;obtain⟨oi,t,N,hdi⟩:=id l;have hL:=p.isList;obtain⟨ol,C,M,_⟩:=id hL;have hea:e≠a:=λz=>by have L:s.heap.get? a=some _:=z ▸ g;rw[C]at L;cases L;injection M with h;exact absurd h (by decide)
  have hia:a≠it:=λz=>by rw[←z,C]at t;cases t;rw[M]at N;injection N with h;exact absurd h (by decide)
  have D:=znr (Draws.list (prog:=X.prog) (w:=X.w) (A:=X.A.in1) (I.ok.hd U) it a hia j.toArray) m;have hi:i < j.toArray.size:=by have:=(gEq hu).1;simpa using this
  refine wpAny_pyNext_enum_itemD D g ⟨i,rfl,l,hL⟩ (by lia) y (by simp [y,hea]) λx' h' tk n F r hT hsz T=>?_;obtain⟨i1,e1,n⟩:=n;obtain rfl:i=i1:=by lia
  obtain⟨i2,e2,r⟩:=r;obtain rfl:i+1=i2:=by lia
  obtain rfl:u=x':=by rw[List.getElem?_toArray,hu]at n;exact Option.some.inj n
  refine⟨_,rfl,wpAny_letOwnedTupleGo_enum F λY he2 f=>?_⟩;replace f:Heap.SameBut e h' Y:=f;have J:e < s.heap.objs.size:=hLq g;have hiH:it < s.heap.objs.size:=hLq t;have hT2:Y.get? s.heap.objs.size=some { cls:=.type "tuple",data:=.seq #[.int ((m+i:Nat):Int) tk,u] }:=(f.2 _ (Nat.ne_of_gt J)).trans hT;have kk:∀ b o,b∉[e,it]→s.heap.get? b=some o→Y.get? b=some o:=λb o d q=>by have O:b≠e:=λz=>d (by simp [z]);have hbi:b≠it:=λz=>d (by simp [z]);exact(f.2 b O).trans (T b o O hbi q)
  have new:zaz X.prog X.w (upd H s.heap.objs.size (.tup [.int ((m+i:Nat):Int),x])) Y s.heap.objs.size (.tup [.int ((m+i:Nat):Int),x]):=by
   refine⟨?_,[.int ((m+i:Nat):Int) tk,u],.cons ⟨_,rfl⟩ (.cons ru .nil),_,hT2,?_⟩
   ·exact Nat.le_of_lt (zbu (show 2≤1000 by decide))
   ·first | exact⟨rfl,rfl,_,rfl⟩ | exact⟨rfl,_,rfl⟩ | exact⟨rfl,rfl⟩
  refine⟨.ref s.heap.objs.size,_,I.turnedLaid (t':=tk+1) hf kk (nRq _) new,rfl,⟨_,x,rfl,I.fresh,rfl,λys hy=>by rw[I.list_inj hy S];exact hx⟩,⟨⟨u,by rw[show((m+(i+1):Nat):Int)=((m+i:Nat):Int)+1 by lia];exact he2⟩,?_⟩,?_⟩
  ·exact r.1.at λo q=>(f.2 it (Ne.symm y)).trans q
  ·intro b d;have G:b < s.heap.objs.size:=by
    rcases List.mem_cons.mp d with rfl | d
    ·exact J
    ·rw[mS d];exact hiH
   rw[ag (Nat.ne_of_lt G)];exact(hf b d).1
 done:=by
  intro X n hw hK U i B s σ H E I hf st hg;subst n hw hK;obtain⟨xs,S,hx⟩:=hg;obtain⟨j,Z,p,hz⟩:=I.list S;obtain⟨⟨c,g⟩,l⟩:=st;obtain⟨f0,f1,f2,f3,f4,f5⟩:=hf it (by simp);have hl:=Z.length;have D:Draws X.prog X.w X.A.in1 it [it,a] 0 (λ_ _=>False) (λ_ h=>h.IsListIter it a i∧h.IsList a j.toArray) :=
   { live:=λ_ _ st=>(by obtain⟨o,F,_⟩:=st.1;exact⟨o,F⟩),frame:=λ_ _ _ st T=>⟨st.1.at λo e=>T it (by simp) o e,st.2.at λo e=>T a (by simp) o e⟩,item:=λ_ _ _ _ z=>absurd z (Nat.not_lt_zero _),done:=λs Q E st hE=>wpAny_nextOf_list_end (I.ok.hd U) st.1 st.2 (by simp;lia) hE }
  exact wpAny_pyNext_enum_endD D g ⟨l,p.isList⟩ λh' eb=>⟨rfl,I.turned (t':=s.toks) (λb o d q=>eb b o d q) f0 f1 f3 f4 f5⟩
 self:=λ_ _ _ _ _ st h=>by obtain⟨⟨c,g⟩,_⟩:=st;exact wpAny_pyIter_enum g h
section
variable {X:Cx}
def iEnumS (K:W.Frag)(d tk:TA):TI:=λb H R=>d b H λvs e=>tk b e λzs c=>∃(a:Addr) (m:Nat),vs=[.ref a]∧zs=[.int m]∧m≤1000∧(∃ xs,SqL K c a xs)∧R (IteS K m a) c
theorem zh0
  (hplain:args.any (·.1)=false)(hkw:keywords.any (·.1.isNone)=false)
  (h:wpAny M A (evalArgs (.type T) true args keywords) (λa s₁=>wpAny M A (call (.type T) (first++a.pos) a.kw) Q E s₁) E s) :
  wpAny M A (callWith pos (.type T) first args keywords) Q E s:=by unfold callWith;refine wpAny_bind (wpAny_holding (wpAny_mono h (λa s₁ h₁=>wpAny_bind (wpAny_standAt ?_)) λ_ _ x=>x));simp only[hplain,hkw,Bool.or_false];refine wpAny_bind (wpAny_pure ?_);exact wpAny_bind (wpAny_mono h₁ (λr s₂ hr=>wpAny_bind (wpAny_holding (wpAny_point (wpAny_pure hr)))) λ_ _ x=>x)
def zmu {i:List Expr}{C:Nat}{J y:Pos}{a d:Expr}{x tk:TA}{p e:Pos}(S:Gl X "enumerate")(P:X.mg "enumerate"=none)(T:PA X [a] x)(Q:PK X [⟨some "start",d,y⟩] tk)(hs:starEach [a] X.env=(false,eval a X.env) :: []):PI X (.Tuple i C J) (.Call (.Name "enumerate" p) [a] [⟨some "start",d,y⟩] e) (iEnumS X.K x tk):=by
 intro c s k H R I h;have l:(backTo e (starEach [a] X.env)).any (·.1)=false:=by rw[hs];rfl
 refine wpAny_Call_Name_kw (zbU I S P boot_enumerate (zh0 l rfl ?_));have A:=T e c s k H _ I h;rw[hs]at A ⊢;refine evalArgs_kw rfl (thn A λus D ⟨vs,H1,Z,G,q1⟩=>thn (Q e c D k H1 _ Z q1) λws f ⟨zs,B,j,F,w,m,W,U,n,⟨xs,O⟩,q⟩=>?_);subst W U;obtain⟨u,rfl,E⟩:=G.one;cases E;obtain⟨v,rfl,t,rfl⟩:=F.one;show wpAny _ _ (call (.type "enumerate") [Value.ref w] [(Str.ofString "start",Value.int m t)]) _ _ f;obtain⟨M,rv,pl,hz⟩:=j.list O;refine zkU n pl.isList λh' z o N L=>?_;refine wpAny_pyIter_enum z ?_;have Y:Inv X c k B { f with heap:=h' }:=j.kept (t':=f.toks) L;refine⟨_,[f.heap.objs.size+1,f.heap.objs.size],_,IteS X.K m w,B,rfl,Y,zky m w (f.heap.objs.size+1) f.heap.objs.size (Nat.succ_ne_self _),⟨⟨_,z⟩,o⟩,λb r=>?_,q⟩;have g:f.heap.objs.size≤b:=by
  rcases List.mem_cons.mp r with rfl | r
  ·lia
  ·rw[mS r];exact nRq _
 exact j.fpOk g (j.hok.fresh g)
end
end L2
namespace K95
open PySem L2
def zma:Wk (IteS K m a) xs.length (λH=>SqL K H a xs):=⟨λ_ _ h b=>⟨xs,h,b⟩,λi _ h b=>⟨xs,xs[i],h,by simp [b]⟩⟩
abbrev zjN:Stmt:=zdY
structure TxC (K:W.Frag)(mg:Str→Option Value)(CC:Addr):Prop where
 cl:Cls K CC
 nP:zaE K CC "plain"
 nT:zaE K CC "tables"
 zip:mg "zip"=none
def cFld (b a:Addr):List (Str × V):=[("plain",.ref b),("tables",.ref a)]
def znd (a b:Addr):(cFld a b).lookup ("plain":Str)=some (.ref a):=rfl
inductive zgJ (CC:Addr):Sp|m{vs H Q E9} (x dx pd td:Addr):vs=[.ref x,.ref pd,.ref td]→H x=some (.ins CC dx [])→(∀ H',(∀ b o,b≠x→H b=some o→H' b=some o)→H' x=some (.ins CC dx (cFld pd td))→Q .non H')→zgJ CC vs H Q E9
def zmm:zab ["self","plain","tables"] ["self","plain","tables"] (ao zjN):=fsc
section
variable {P:Program} {w:World} {K:W.Frag} {mg:Str→Option Value} {base:Heap} {aK C CN CT CP CM CL CC f fI fD fL:Addr} {fd dI dD dL:FuncData}
def zmR (F:Fun K "__init__" "Choice.__init__" zjN f fd)(T:TxC K mg CC):aI P w K mg base CX0 1 f fd ["self","plain","tables"] (zgJ CC):=by
 refine F.ok zmm (λvs H Q E h=>?_) (λcdv A outer s H vs Q E i h=>?_)
 ·obtain⟨x,a,e,d,rfl,_⟩:=h;rfl
 obtain⟨x,a,e,d,rfl,g,q⟩:=h;refine⟨_,(ae (zaY (pv 0) (pv 1) rfl)
  (ak (zaY (pv 0) (pv 2) rfl))),?_⟩
 try dsimp only [Cx.nox,Cx.wish,aZ]
 refine⟨_,rfl,_,rfl,x,CC,a,_,rfl,g,T.cl,T.nP,(by decide),?_⟩;refine⟨_,rfl,_,rfl,x,CC,a,_,rfl,af,T.cl,T.nT,(by show 1 < 1000;decide),?_⟩;exact q _ (λb o c h=>by rw[ag c,ag c];exact h) af
def PlD (a:List At)(ps:List Int)(kvs:List (Key × V))(n:Nat):Prop:=∀(i:Nat) (z:Str),i < n→a[i]?=some (.plain z)→zam kvs (Sum.inr z)=some (.bl (decide (((i:Int)+1)∈ps)))
structure zeL (CC:Addr)(H:Hp)(As:List At)(ps:List Int)(c:Addr):Prop where
 ex:∃ dx pd td kvs,H c=some (.ins CC dx (cFld pd td))∧H pd=some (.dK kvs)∧PlD As ps kvs As.length
def zeL.same (h:zeL CC H As ps c)(s:ap H H'):zeL CC H' As ps c:=by obtain⟨i,b,a,kvs,g,e,d⟩:=h.ex;exact⟨i,b,a,kvs,s _ _ g,s _ _ e,d⟩
inductive zfO (K:W.Frag)(C CC:Addr):Sp|m{vs H Q E9} (p tl al rl q:Addr) (As:List At) (Rs:List (List Int)) (ps:List Int):vs=[.ref p,.ref q]→zat K C H p tl al rl [] As Rs→zdG As→As.Nodup→As.length≤40→SqT K H q (ps.map V.int)→(∀ H' c,ap H H'→H c=none→zeL CC H' As ps c→Q (.ref c) H')→zfO K C CC vs H Q E9
def zb1:zab ["problem","held","plain","number","atom","values","tables","term","value"] ["problem","held"] (ao zgP):=fsc
def zlE (F:Fun K "chosen" "chosen" zgP f fd)(T:Txt K mg aK C CN CT CP CM)(TB:TxB K mg CL)(TC:TxC K mg CC)(MC:Mk K CC fI)(BI:aI P w K mg base CX0 1 fI dI ["self","plain","tables"] (zgJ CC))(bI:az K dI ["self","plain","tables"] [])(gI:mg "Choice"=some (.ref CC))
  (BD:FB P w K mg base CX0 4 "heads" fD dD ["many","links"] (zeC K))(BL:FB P w K mg base CX0 4 "same_links" fL dL ["problem","held"] (zdz K C)):aI P w K mg base CX0 5 f fd ["problem","held"] (zfO K C CC):=by
 refine F.ok zb1 (λvs H Q E h=>?_) (λcdv Ar outer s H vs Q E hr h=>?_)
 ·obtain⟨p,tl,al,rl,q,I,Rs,ps,rfl,_⟩:=h;rfl
 obtain⟨p,tl,al,rl,q,I,Rs,ps,rfl,S,pl,nd,a40,hq,Q0⟩:=h;have hu:=zb5 hr;have hr2:=hr.mono (j:=2) (by decide);refine⟨_,(ae (aF (i:=2) zb1.nd rfl (Or.inl rfl) zbO)
  (ae (zaN PassesOwn.never rfl (zmu rfl TB.enumerate (aa (aB (pv 0) rfl) ac) (zjY ai zk3) rfl) (zcO rfl (zaB (zae (i:=3) zb1.nd rfl (Or.inl rfl)) (zaB (zae (i:=4) zb1.nd rfl (Or.inl rfl)) zcf)))
   (ak (zaj (aA zbd (aW zal (pv 4) ai) zaU)
     (ak (zdr hu (pv 2) (aW zal (pv 4) ai) (zbc zdP (pv 3) (pv 1) rfl) rfl))
     zac)))
  (ae (aF (i:=5) zb1.nd rfl (Or.inl rfl) (zai BD.ok hr rfl BD.m BD.kp BD.b .nil zak (aa (aw zaa rfl TB.len bLq (aa (aB (pv 0) rfl) ac)) (aa (zai BL.ok hr rfl BL.m BL.kp BL.b .nil zak (aa (pv 0) (aa (pv 1) ac))) ac))))
  (ae (aF (i:=6) zb1.nd rfl (Or.inl rfl) zbO)
  (ae (zaN PassesOwn.never rfl (zk4 rfl TC.zip (aa (aB (pv 0) rfl) (aa (pv 5) ac))) (zcO rfl (zaB (zae (i:=7) zb1.nd rfl (Or.inl rfl)) (zaB (zae (i:=8) zb1.nd rfl (Or.inl rfl)) zcf)))
   zcZ)
  (ak (aJ (zjZ MC BI hr2 rfl gI bI .nil zak (aa (pv 2) (aa (pv 6) ac)))))))))),?_⟩
 try dsimp only [Cx.nox,Cx.wish,aZ]
 refine λd hd=>?_;have s0:ap H (upd H d (.dK [])):=au hd _;have n:=af (H:=H) (a:=d) (o:=.dK []);generalize upd H d (.dK [])=H0 at s0 n;have S0:=S.same s0;obtain⟨⟨dx,ho⟩,_,⟨ys,W,hA⟩,_⟩:=id S0;have yl:ys.length=I.length:=by rw[←hA.length,lM]
 refine⟨_,rfl,p,C,dx,_,_,rfl,ho,T.cl,T.nA,zaX _ _ _,al,1,rfl,rfl,by decide,⟨_,SqL.of W⟩,zba (zma (xs:=ys)) (λi r H'=>∃(Z Y:Option V) (kvs:List (Key × V)),r=[some (.ref p),some (.ref q),some (.ref d),Z,Y,none,none,none,none]∧zbm d H0 H'∧H' d=some (.dK kvs)∧kvs.length≤i∧PlD I ps kvs i) (λi r H' ⟨_,_,_,_,v,_⟩=>SqL.of (v _ _ (zdc W n (λz=>by cases z)) W)) ⟨none,none,[],rfl,zbm.refl _ _,n,nRq _,λi z h=>absurd h (Nat.not_lt_zero _)⟩ ?_ ?_⟩
 ·rintro i r G x H3 hi ⟨Z,Y,kvs,rfl,v,hd2,lk,hv⟩ ⟨t,y,rfl,ht,rfl,hy⟩;have nad:al≠d:=zdc W n (λz=>by cases z);have hx:=hy _ (SqL.of (v _ _ nad W));have kt:=v.kt n;obtain⟨a,h1,h2⟩:=zhM (hA.keep kt (zaw zdh I)) hx;obtain⟨z,rfl⟩:=pl a (mOq h1);simp only[dA,Has,aq]at h2;obtain⟨D,zs,rfl,hp,v1,r1,rfl,rfl,v2,r2,rfl,rfl,rfl⟩:=h2;have u:ap G (upd G t (.tup [.int ((1+i:Nat):Int),.ref D])):=au ht _;have n3:=af (H:=G) (a:=t) (o:=.tup [.int ((1+i:Nat):Int),.ref D]);have R:SqT K (upd G t (.tup [.int ((1+i:Nat):Int),.ref D])) q (ps.map V.int):=u.tup (kt.sq (s0.tup hq));generalize upd G t (.tup [.int ((1+i:Nat):Int),.ref D])=H3 at u n3 R;have at0:atI [V.str "plain",V.str z] 0=some (.str "plain"):=zah (j:=0) rfl;have at1:atI [V.str "plain",V.str z] 1=some (.str z):=zah (j:=1) rfl;refine⟨t,_,rfl,SqT.of n3,rfl,_,_,rfl,_,_,rfl,rfl,?_⟩;refine⟨_,rfl,D,_,_,_,rfl,rfl,u.tup hp,at0,rfl,_,rfl,aO (λ_=>?_) (λc=>absurd (by decide +kernel) c)⟩;refine⟨_,rfl,_,rfl,q,_,rfl,.inr R,rfl,zc6 _,_,rfl,_,rfl,D,_,_,_,rfl,rfl,u.tup hp,at1,d,_,rfl,zdn.k (k:=Sum.inr z) (u _ _ hd2) (hln (by rw[yl]at hi;lia)),?_⟩;refine⟨_,_,_,rfl,(v.trans λb o _ e=>u b o e).trans (zbm.put _ _),af,?_,λj z' hj g=>?_⟩
  ·have:=zfi kvs (Sum.inr z) (.bl (if false=true then !inV (.int ((1+i:Nat):Int)) (ps.map V.int) else inV (.int ((1+i:Nat):Int)) (ps.map V.int)))
   show(zav kvs (Sum.inr z) _).length≤_;lia
  ·rw[zem];by_cases e:j=i
   ·subst e;rw[h1]at g;injection g with g;injection g with g;rw[if_pos (by rw[g]),if_neg (by decide:¬false=true),zb7];congr 3;rw[show((1+j:Nat):Int)=(j:Int)+1 by lia]
   ·rw[if_neg (λy=>e ?_)]
    ·exact hv j z' (by lia) g
    ·injection y with y;rw[←y]at h1;exact zfk nd g h1
 ·rintro r H1 ⟨Z,Y,kvs,rfl,v,hd1,lk,hv⟩;rw[yl]at hv;have s1:ap H H1:=λb o e=>v b o (λz=>by rw[z,hd]at e;cases e) (s0 b o e);have PP:PrP K C H1 p I:=⟨⟨tl,al,rl,Rs,S.same s1⟩,pl⟩;obtain⟨⟨X,U⟩,⟨ts,A,hT1⟩,_⟩:=S.same s1;have t0:ts=[]:=List.length_eq_zero_iff.mp (by rw[←hT1.length];rfl);subst t0;refine⟨_,rfl,p,C,X,_,_,rfl,U,T.cl,T.nT,zb9 _ _ _,tl,_,rfl,.inl (SqL.of A),_,rfl,_,rfl,p,q,I,ps,rfl,PP,.inr (s1.tup hq),λG l2 s2 n2 h2=>⟨l2,rfl,SqL.of h2,λH3 l3 u n3 h3=>?_⟩⟩;refine λJ O=>?_;have l:=(s2.trans u).trans (au O (.dK []));have B:=au O (.dK []) _ _ h3;have N:=af (H:=H3) (a:=J) (o:=.dK []);generalize upd H3 J (.dK [])=H4 at l B N;have M:=s1.trans l;refine⟨_,rfl,p,C,X,_,_,rfl,l _ _ U,T.cl,T.nT,zb9 _ _ _,_,rfl,tl,l3,rfl,⟨_,SqL.of (l _ _ A)⟩,⟨_,SqL.of B⟩,zba (tb:=λ_ _ _=>False) (zkW (xs:=([]:List V)) (ys:=([]:List V)) rfl) (λi r H'=>r=[some (.ref p),some (.ref q),some (.ref d),Z,Y,some (.ref l3),some (.ref J),none,none]∧H'=H4) (λi r H' ⟨_,e⟩=>e ▸ ⟨SqL.of (l _ _ A),SqL.of B⟩) ⟨rfl,rfl⟩ ?_ ?_⟩
  ·rintro i r H5 x H6 hi;exact absurd hi (Nat.not_lt_zero _)
  ·rintro r H' ⟨rfl,rfl⟩;refine⟨_,rfl,_,rfl,λx dx hx hdx nx=>⟨x,dx,d,J,rfl,af,λH6 k6 h6=>⟨rfl,?_⟩⟩⟩;have L:=zhK hx hdx k6;exact Q0 H6 x (M.trans L) (M.free hx) ⟨dx,d,J,kvs,h6,L _ _ (l _ _ hd1),hv⟩
end
def sgn (hs ps:List Int):List Int:=ps.map λa=>if a∈hs then a else -a
def zaH (t:List Int):List Int:=t.map λx=>-x
def zdS:List Int→List (List Int)
 | []=>[[]]
 | a :: r=>(zdS r).map (a :: ·)++(zdS r).map (-a :: ·)
def zg3:∀ ps:List Int,(zdS ps).length=2 ^ ps.length
 | []=>rfl
 | a :: r=>by show((zdS r).map (a :: ·)++(zdS r).map (-a :: ·)).length=2 ^ (r.length+1);rw[lAq,lM,lM,zg3 r,Nat.pow_succ];lia
structure zd5 (n:Nat)(ps:List Int):Prop where
 rng:∀ a∈ps,1≤a∧a≤n
 nd:ps.Nodup
def zjt (h:1≤a):zas a=a∧zas (-a)=a:=by unfold zas;constructor <;> split <;> lia
def zfl:∀ {ps t:List Int},(∀ a∈ps,1≤a)→(t∈zdS ps↔t.map zas=ps)
 | [],t,_=>by show t∈[[]]↔_;rw[List.mem_singleton,List.map_eq_nil_iff]
 | a :: r,t,h=>by
  have b:=λs=>zfl (ps:=r) (t:=s) λx f=>h x (List.mem_cons_of_mem _ f);have c:=zjt (h a List.mem_cons_self);show t∈(zdS r).map (a :: ·)++(zdS r).map (-a :: ·)↔_;rw[List.mem_append,List.mem_map,List.mem_map];constructor
  ·rintro (⟨s,hs,rfl⟩ | ⟨s,hs,rfl⟩)
   ·rw[List.map_cons,c.1,(b s).mp hs]
   ·rw[List.map_cons,c.2,(b s).mp hs]
  ·intro e;cases t with
   | nil=>cases e
   | cons x s =>
    rw[List.map_cons]at e;injection e with d g;have hs:=(b s).mpr g;have:x=a∨x=-a:=by unfold zas at d;split at d <;> lia
    rcases this with z | z
    ·exact .inl ⟨s,hs,by rw[z]⟩
    ·exact .inr ⟨s,hs,by rw[z]⟩
def zki:∀ {ps:List Int},(∀ a∈ps,1≤a)→(zdS ps).Nodup
 | [],_=>by show([[]]:List (List Int)).Nodup;simp
 | a :: r,h=>by have d:=zki (ps:=r) λx c=>h x (List.mem_cons_of_mem _ c);have g:=h a List.mem_cons_self;refine List.nodup_append.mpr ⟨List.pairwise_map.mpr (d.imp λ{x y} b e=>b (by injection e)),List.pairwise_map.mpr (d.imp λ{x y} b e=>b (by injection e)),λx c y f e=>?_⟩;obtain⟨s,_,rfl⟩:=List.mem_map.mp c;obtain⟨s',_,rfl⟩:=List.mem_map.mp f;injection e with e _;lia
def zhe [DecidableEq α]:∀(l zs:List α),l.Nodup→(∀ x∈l,x∈zs)→l.length≤zs.length
 | [],zs,_,_=>Nat.zero_le _
 | x :: l,zs,a,h=>by have c:=h x List.mem_cons_self;have:=zhe l (zs.erase x) (List.nodup_cons.mp a).2 λy b=>(List.mem_erase_of_ne (show y≠x from λe=>(List.nodup_cons.mp a).1 (e ▸ b))).mpr (h y (List.mem_cons_of_mem _ b));rw[List.length_erase_of_mem c]at this;have:=List.length_pos_of_mem c;simp only[List.length_cons];lia
def znu (h:∀ a∈ps,1≤a):(sgn hs ps).map zas=ps:=by
 unfold sgn;rw[List.map_map]
 conv=>rhs;rw[←List.map_id ps]
 refine List.map_congr_left λa b=>?_;have:=zjt (h a b);show zas (if a∈hs then a else -a)=id a
 split
 ·exact this.1
 ·exact this.2
def zjl (f:x∈zaM n hs)(e:-x∈zaM n hs):False:=by
 unfold zaM at f e;obtain⟨a,d,h⟩:=List.mem_map.mp f;obtain⟨b,c,g⟩:=List.mem_map.mp e;have d:=zdw.mp d;have c:=zdw.mp c;have:a=b:=by split at h <;> split at g <;> lia
 subst this;split at h <;> split at g <;> first | lia | contradiction
def zi0 (g:zd5 n ps){x:Int}(h:x∈sgn hs ps):x∈zaM n hs:=by unfold sgn at h;obtain⟨a,b,e⟩:=List.mem_map.mp h;unfold zaM;exact List.mem_map.mpr ⟨a,zdw.mpr (g.rng a b),e⟩
def znt (g:zd5 n ps){t:List Int}(h:∃ p∈zaH t,p∈zaM n hs):t≠sgn hs ps:=λe=>by obtain⟨p,b,c⟩:=h;obtain⟨x,a,rfl⟩:=List.mem_map.mp b;rw[e]at a;exact zjl (zi0 g a) c
def Taut (r:List Int):Prop:=∃ p,p≠0∧p∈r∧-p∈r
def zns (g:zd5 n ps){Rs Ts:List (List Int)}(D:∀ r∈Rs,Taut r)(G:∀ t∈Ts,t.map zas=ps){s:List Int}(hs:s.map zas=ps)(F:s∉Ts):zdm (λa=>decide (a∈s)) (Rs++Ts.map zaH):=by
 intro r E;rcases mPq E with h | h
 ·obtain⟨p,B,f,b⟩:=D r h;by_cases c:hldP (λa=>decide (a∈s)) p=true
  ·exact⟨p,f,c⟩
  ·refine⟨-p,b,?_⟩;rw[zjj B];simpa using c
 ·obtain⟨t,k,rfl⟩:=List.mem_map.mp h;have e:=G t k;have C:t≠s:=λz=>F (z ▸ k);obtain⟨i,v⟩:∃ i,t[i]?≠s[i]?:=Classical.byContradiction λz=>C (List.ext_getElem? λi=>Classical.byContradiction λy=>z ⟨i,y⟩);have K:t.length=ps.length:=by rw[←e,lM]
  have L:s.length=ps.length:=by rw[←hs,lM]
  have M:i < ps.length:=Classical.byContradiction λz=>v (by rw[List.getElem?_eq_none (by lia),List.getElem?_eq_none (by lia)]);have f:=gG (l:=t) (i:=i) (by lia);have b:=gG (l:=s) (i:=i) (by lia);generalize t[i]'(by lia)=x at f;generalize s[i]'(by lia)=y at b;have I:ps[i]?=some (zas x):=by rw[←e,List.getElem?_map,f];rfl
  have q:ps[i]?=some (zas y):=by rw[←hs,List.getElem?_map,b];rfl
  have d:zas x=zas y:=by rw[I]at q;injection q
  have J:x≠y:=λz=>v (by rw[f,b,z]);have u:=g.rng _ (mOq q);have H:y=-x:=by unfold zas at d;split at d <;> split at d <;> lia
  refine⟨y,List.mem_map.mpr ⟨x,mOq f,H.symm⟩,?_⟩;have A:=mOq b;unfold hldP;by_cases c:0 < y
  ·rw[if_pos c];exact dTq A
  ·rw[if_neg c];have no:-y∉s:=λz=>by
    obtain⟨j,o⟩:=List.getElem?_of_mem z;have w:ps[j]?=some (zas (-y)):=by rw[←hs,List.getElem?_map,o];rfl
    have ea:zas (-y)=zas y:=by unfold zas;split <;> split <;> lia
    rw[ea]at w;have:=zfk g.nd q w;subst this;rw[b]at o;injection o with o;unfold zas at u;split at u <;> lia
   show(!decide (-y∈s))=true;rw[dFq no];rfl
def zmg (g:zd5 n ps){Rs Ts:List (List Int)}(e:∀ r∈Rs,Taut r)(c:∀ t∈Ts,t.map zas=ps)(d:Ts.Nodup)(no:∀ v,¬zdm v (Rs++Ts.map zaH)):Ts.length=2 ^ ps.length:=by have b:∀ a∈ps,1≤a:=λa f=>(g.rng a f).1;have j:=zhe Ts (zdS ps) d λt h=>(zfl b).mpr (c t h);have i:=zhe (zdS ps) Ts (zki b) λs h=>Classical.byContradiction λz=>no _ (zns g e c ((zfl b).mp h) z);rw[zg3]at j i;lia
def zln (g:zd5 n ps){Ts:List (List Int)}(i:∀ t∈Ts,t.map zas=ps)(c:Ts.Nodup){s:List Int}(hs:s.map zas=ps)(d:s∉Ts):Ts.length+1≤2 ^ ps.length:=by have b:∀ a∈ps,1≤a:=λa f=>(g.rng a f).1;have:=zhe (s :: Ts) (zdS ps) (List.nodup_cons.mpr ⟨d,c⟩) λt h=>(zfl b).mpr ((List.mem_cons.mp h).elim (λe=>e ▸ hs) (i t));rw[zg3]at this;exact this
def zj7 (h:zdl n ps=false):zd5 n ps:=by
 have h':∀ i,i < ps.length→za9 n ps i=false:=λi b=>by have:=List.any_eq_false.mp h i (List.mem_range.mpr b);simpa using this
 have c:∀ i k,ps[i]?=some k→¬k < 1∧¬(n:Int) < k∧k∉ps.take i:=λi k f=>by have:=h' i (gEq f).1;unfold za9 at this;rw[List.getD_eq_getElem?_getD,f]at this;simp only[Option.getD_some,Bool.or_eq_false_iff,decide_eq_false_iff_not]at this;exact⟨this.1.1,this.1.2,this.2⟩
 refine⟨λa l=>?_,?_⟩
 ·obtain⟨i,b⟩:=List.getElem?_of_mem l;have:=c i a b;lia
 ·rw[List.Nodup,List.pairwise_iff_getElem];intro i j b g d e;have o:=(c j ps[j] (gG g)).2.2;refine o ?_;rw[←e];exact mOq (i:=i) (by rw[List.getElem?_take,if_pos d];exact gG b)
def zj1:∀(ps acc:List Int),(acc++ps).Nodup→zaF acc ps=acc++ps
 | [],acc,_=>by rw[List.append_nil];rfl
 | p :: ps,acc,a=>by
  have b:p∉acc:=λz=>by have:=(List.nodup_append.mp a).2.2 p z p List.mem_cons_self;exact this rfl
  show zaF (if p∈acc then acc else acc++[p]) ps=_
  rw[if_neg b,zj1 ps (acc++[p]) (by rw[List.append_assoc];exact a),List.append_assoc];rfl
structure EvA where
 p2:Addr
 tl:Addr
 al:Addr
 rl:Addr
 lt:Addr
 lc:Addr
structure EvS (K:W.Frag)(C CC:Addr)(H0 H:Hp)(A:EvA)(As:List At)(Rs:List (List Int))(ps:List Int)(Tr Tt Tc:List (List Int)):Prop where
 same:ap H0 H
 na:H0 A.al=none
 nr:H0 A.rl=none
 nt:H0 A.lt=none
 nc:H0 A.lc=none
 d1:A.lt≠A.lc
 d2:A.lt≠A.tl∧A.lt≠A.al∧A.lt≠A.rl
 d3:A.lc≠A.tl∧A.lc≠A.al∧A.lc≠A.rl
 pr:zat K C H A.p2 A.tl A.al A.rl [] As (Rs++Tr.map zaH)
 tt:∃ us,H A.lt=some (.lst us)∧aq K H (Tt.map zbe) us
 cc:∃ cs:List V,H A.lc=some (.lst cs)∧cs.length=Tc.length∧∀(j:Nat) (v:V),cs[j]?=some v→∃(c:Addr) (hs:List Int),v=.ref c∧zeL CC H As (zaM As.length hs) c∧Tc[j]?=some (sgn hs ps)
section
variable {K:W.Frag} {C CC:Addr} {H0 H H':Hp} {A:EvA} {As:List At} {Rs:List (List Int)} {ps:List Int} {Tr Tt Tc:List (List Int)}
def zeL.fr {hs:List Int}{c:Addr}{zs:List Addr}(h:zeL CC H As hs c)(f:∀ b o,H b=some o→b∉zs→H' b=some o)(a:∀ z∈zs,∃ xs,H z=some (.lst xs)):zeL CC H' As hs c:=by
 obtain⟨l,j,i,kvs,g,d,k⟩:=h.ex;refine⟨l,j,i,kvs,f _ _ g λz=>?_,f _ _ d λz=>?_,k⟩
 ·obtain⟨xs,e⟩:=a _ z;rw[g]at e;cases e
 ·obtain⟨xs,e⟩:=a _ z;rw[d]at e;cases e
def zku {zs:List Addr}(f:∀ b o,H b=some o→b∉zs→H' b=some o)(a:∀ z∈zs,∃ xs,H z=some (.lst xs)):aV H H':=λb xs q=>by
 rcases q with q | ⟨o,q⟩
 ·exact .inl (f _ _ q λz=>by obtain⟨ys,e⟩:=a _ z;rw[q]at e;cases e)
 ·exact .inr ⟨o,f _ _ q λz=>by obtain⟨ys,e⟩:=a _ z;rw[q]at e;cases e⟩
def EvS.more (h:EvS K C CC H0 H A As Rs ps Tr Tt Tc)(s:ap H H'):EvS K C CC H0 H' A As Rs ps Tr Tt Tc:=by
 obtain⟨us,g,f⟩:=h.tt;obtain⟨n,d,b,a⟩:=h.cc;exact⟨h.same.trans s,h.na,h.nr,h.nt,h.nc,h.d1,h.d2,h.d3,h.pr.same s,⟨us,s _ _ g,f.keep s.kt (zar _)⟩,⟨n,s _ _ d,b,λj v e=>by obtain⟨c,hs,l,k,i⟩:=a j v e;exact⟨c,hs,l,k.same s,i⟩⟩⟩
def zfB:∀ b u,H b=some u→b∉[z]→upd H z o b=some u:=λb u e n=>by rw[ag (λy=>n (by rw[y];exact List.mem_cons_self))];exact e
def zi4 (s:ap H0 H)(n:H0 z=none):ap H0 (upd H z o):=λb u e=>by rw[ag (λy=>by rw[y,n]at e;cases e)];exact s b u e
def EvS.tell (h:EvS K C CC H0 H A As Rs ps Tr Tt Tc){us:List V}{d:Addr}{t:List Int}(f:H A.lt=some (.lst us))(l:SqT K H d (t.map V.int)):EvS K C CC H0 (upd H A.lt (.lst (us++[.ref d]))) A As Rs ps Tr (Tt++[t]) Tc:=by
 obtain⟨k,a,s⟩:=h.tt;rw[f]at a;injection a with a;injection a with a;subst a;obtain⟨y,r,q,p⟩:=h.cc;have i:∀ z∈[A.lt],∃ xs,H z=some (.lst xs):=λz e=>⟨us,by rw[mS e];exact f⟩;have g:aV H (upd H A.lt (.lst (us++[.ref d]))):=zku zfB i;refine⟨zi4 h.same h.nt,h.na,h.nr,h.nt,h.nc,h.d1,h.d2,h.d3,h.pr.keep (z:=A.lt) (λb o e n=>by rw[ag n];exact e) f h.d2.1 h.d2.2.1 h.d2.2.2,⟨_,af,?_⟩,⟨y,by rw[ag (Ne.symm h.d1)];exact r,q,λj v e=>?_⟩⟩
 ·rw[mAq];exact(s.keep g (zar _)).append (aq.one (zeY (g.sq l)))
 ·obtain⟨c,hs,x,w,u⟩:=p j v e;exact⟨c,hs,x,w.fr zfB i,u⟩
def EvS.pick (h:EvS K C CC H0 H A As Rs ps Tr Tt Tc){d:List V}{c:Addr}{hs:List Int}(g:H A.lc=some (.lst d))(l:zeL CC H As (zaM As.length hs) c):EvS K C CC H0 (upd H A.lc (.lst (d++[.ref c]))) A As Rs ps Tr Tt (Tc++[sgn hs ps]):=by
 obtain⟨us,s,r⟩:=h.tt;obtain⟨x,a,q,p⟩:=h.cc;rw[g]at a;injection a with a;injection a with a;subst a;have f:∀ z∈[A.lc],∃ xs,H z=some (.lst xs):=λz e=>⟨d,by rw[mS e];exact g⟩;have i:aV H (upd H A.lc (.lst (d++[.ref c]))):=zku zfB f;refine⟨zi4 h.same h.nc,h.na,h.nr,h.nt,h.nc,h.d1,h.d2,h.d3,h.pr.keep (z:=A.lc) (λb o e n=>by rw[ag n];exact e) g h.d3.1 h.d3.2.1 h.d3.2.2,⟨us,by rw[ag h.d1];exact s,r.keep i (zar _)⟩,⟨_,af,by rw[lAq,lAq,q];rfl,λj v e=>?_⟩⟩;rcases Nat.lt_or_ge j d.length with z | z
 ·rw[List.getElem?_append_left z]at e;obtain⟨y,hs',w,u,t⟩:=p j v e;exact⟨y,hs',w,u.fr zfB f,by rw[List.getElem?_append_left (by lia)];exact t⟩
 ·rw[List.getElem?_append_right z]at e;have k:j - d.length=0:=by have:=(gEq e).1;simp only[List.length_cons,List.length_nil]at this;lia
  rw[k]at e;injection e with e;exact⟨c,hs,e.symm,l.fr zfB f,by rw[List.getElem?_append_right (by lia),show j - Tc.length=0 by lia];rfl⟩
def EvS.row (h:EvS K C CC H0 H A As Rs ps Tr Tt Tc){t:List Int}(f:Fr2 H H' A.al A.rl)(k:zat K C H' A.p2 A.tl A.al A.rl [] As ((Rs++Tr.map zaH)++[zaH t])):EvS K C CC H0 H' A As Rs ps (Tr++[t]) Tt Tc:=by
 obtain⟨us,s,r⟩:=h.tt;obtain⟨D,q,p,l⟩:=h.cc;obtain⟨_,_,⟨ys,w,_⟩,⟨g,u,_⟩,_⟩:=id h.pr;have a:∀ z∈[A.al,A.rl],∃ xs,H z=some (.lst xs):=λz e=>by
  rcases List.mem_cons.mp e with e | e
  ·exact⟨ys,by rw[e];exact w⟩
  ·exact⟨g,by rw[mS e];exact u⟩
 have d:∀ b o,H b=some o→b∉[A.al,A.rl]→H' b=some o:=λb o e n=>f b o e (λz=>n (by rw[z];simp)) (λz=>n (by rw[z];simp));have i:aV H H':=zku d a;refine⟨λb o e=>f b o (h.same b o e) (λz=>by rw[z,h.na]at e;cases e) (λz=>by rw[z,h.nr]at e;cases e),h.na,h.nr,h.nt,h.nc,h.d1,h.d2,h.d3,?_,⟨us,f _ _ s h.d2.2.1 h.d2.2.2,r.keep i (zar _)⟩,⟨D,f _ _ q h.d3.2.1 h.d3.2.2,p,λj v e=>?_⟩⟩
 ·rw[mAq,←List.append_assoc];exact k
 ·obtain⟨c,hs,B,y,x⟩:=l j v e;exact⟨c,hs,B,y.fr d a,x⟩
end
inductive Fnd (K:W.Frag)(H:Hp)(n:Nat)(rows:List (List Int))(t:Addr):Prop
 | yes {th:Addr} {hs:List Int}:SqT K H t [.str "yes",.ref th]→SqT K H th ((zaM n hs).map V.int)→(∀ r∈rows,∃ p∈r,p∈zaM n hs)→Fnd K H n rows t
 | no {pl:Addr}:SqT K H t [.str "no",.ref pl]→(∀ v,¬zdm v rows)→Fnd K H n rows t
structure zbJ (n:Nat)(Rs:List (List Int))(never:Bool):Prop where
 ro:zfG n Rs
 r200:Rs.length≤200
 nv:never=true→[]∈Rs
 tt:never=false→∀ r∈Rs,Taut r
structure EvQ (K:W.Frag)(C CB CL CM CC:Addr)(H:Hp)(As:List At)(Rs:List (List Int))(ps:List Int)(never:Bool)(Q:VK)(E:XK):Prop where
 bad:zdl As.length ps=true→∀ H',ap H H'→E (.ref CB) none H'
 long:zdl As.length ps=false→6 < As.length→∀ H',ap H H'→E (.ref CL) none H'
 many:zdl As.length ps=false→never=false→(6 < ps.length∨200 < Rs.length+2 ^ ps.length)→∀ H',ap H H'→E (.ref CM) none H'
 ok:zdl As.length ps=false→∀(H':Hp) (t:Addr) (A:EvA) (lp:Addr) (Ts:List (List Int)),SqT K H' t [.ref A.lt,.ref A.lc,.ref lp]→EvS K C CC H H' A As Rs ps Ts Ts Ts→(∀ t∈Ts,t.map zas=ps)→Ts.Nodup→(never=true→Ts.length=0)→(never=false→Ts.length=2 ^ ps.length∧ps.length≤6∧Rs.length+2 ^ ps.length≤200)→Q (.ref t) H'
def zj3 (g:zd5 n ps)(h:t.map zas=ps):(zaH t).Nodup∧∀ p∈zaH t,p≠0∧p.natAbs≤n:=by
 have e:(zaH t).map zas=ps:=by unfold zaH;rw[List.map_map,←h];refine List.map_congr_left λx _=>?_;show zas (-x)=zas x;unfold zas;split <;> split <;> lia
 constructor
 ·have c:=g.nd;rw[←e]at c;exact(List.pairwise_map.mp c).imp λ{a b} d z=>d (by rw[z])
 ·intro p f;have:=g.rng (zas p) (by rw[←e];exact List.mem_map.mpr ⟨p,f,rfl⟩);unfold zas at this;split at this <;> lia
def zm5 {n:Nat}{hs:List Int}{a:Int}(h:1≤a∧a≤n):atI ((zaM n hs).map V.int) (a - 1)=some (.int (if a∈hs then a else -a)):=by
 have e:a - 1=(((a - 1).toNat:Nat):Int):=by lia
 rw[e];refine zah ?_;unfold zaM upN;rw[List.map_map,List.map_map,List.getElem?_map,List.getElem?_range (by lia)];show some (V.int (if((((a - 1).toNat:Nat):Int)+1)∈hs then((((a - 1).toNat:Nat):Int)+1) else -((((a - 1).toNat:Nat):Int)+1)))=_
 rw[show(((a - 1).toNat:Nat):Int)+1=a by lia]
structure EvM (n:Nat)(Rs:List (List Int))(ps:List Int)(never:Bool)(Ts:List (List Int)):Prop where
 ab:∀ t∈Ts,t.map zas=ps
 nd:Ts.Nodup
 l64:Ts.length≤64
 r200:Rs.length+Ts.length≤200
 nv:never=true→Ts=[]
def EvM.rows (M:EvM n Rs ps never Ts)(B:zbJ n Rs never)(g:zd5 n ps):zfG n (Rs++Ts.map zaH):=by
 refine⟨λr b=>?_,B.ro.n40,by rw[lAq,lM];have:=M.r200;lia⟩;rcases mPq b with h | h
 ·exact B.ro.row r h
 ·obtain⟨t,a,rfl⟩:=List.mem_map.mp h;exact zj3 g (M.ab t a)
inductive zgI (K:W.Frag)(C CB CL CM CC:Addr):Sp|m{vs H Q E} (p tl al rl q:Addr) (As:List At) (Rs:List (List Int)) (ps:List Int) (never:Bool):vs=[.ref p,.ref q,.int 100000]→zat K C H p tl al rl [] As Rs→zdG As→As.Nodup→zbJ As.length Rs never→SqI K H q ps→ps.length≤100→(∀ k∈ps,k.natAbs < 10000000000)→EvQ K C CB CL CM CC H As Rs ps never Q E→zgI K C CB CL CM CC vs H Q E
def zcY:zab ["problem","atoms","most","longer","told","choices","found","parts"] ["problem","atoms","most"] (ao zdq):=fsc
abbrev NEv:List Str:=["problem","atoms","most","longer","told","choices","found","parts"]
section
variable {P:Program} {w:World} {K:W.Frag} {mg:Str→Option Value} {base:Heap} {aK C CN CT CB CM CL CC f fS fH fR fA fO:Addr} {fd dS dH dR' dA' dO:FuncData}
structure EvG (P:Program)(w:World)(K:W.Frag)(mg:Str→Option Value)(base:Heap)(C CN CT CB CM CL CC fS fH fR fA fO:Addr)(dS dH dR' dA' dO:FuncData):Prop where
 S:FB P w K mg base (CX1 P w) 9 "search" fS dS ["problem","most"] (zfK K C CL)
 H:FB P w K mg base CX0 5 "chosen" fH dH ["problem","held"] (zfO K C CC)
 mR:zbh K C "add_row" fR
 R:aI P w K mg base (CX1 P w) 2 fR dR' ["self","parts"] (zg5 K C CN CT CB CM)
 bR:az K dR' ["self","parts"] []
 A:FB P w K mg base (CX1 P w) 1 "ask_atoms" fA dA' ["problem","atoms"] (λvs H Q E=>zhB K C CB vs H Q E∨zhA K C CB vs H Q E)
 O:FB P w K mg base CX0 3 "part_of" fO dO ["problem","numbers"] (zhw K C)
 m64:∃ t,mg "MOST_TUPLES"=some (.int 64 t)
def every5 (T:Txt K mg aK C CN CT CB CM)(TB:TxB K mg CL)(G:EvG P w K mg base C CN CT CB CM CL CC fS fH fR fA fO dS dH dR' dA' dO)
  {cdv:Value}{Ar:Around}{outer:List Env}{s:Shared}{H00:Hp}{E:XK}(hr:zax 9 (Ar.deeper (PyProof.Rows.envOfC "every" (ao zdq) s.heap.objs.size f cdv))) :
  ∃ z,PSs (aZ (CX1 P w) P w K mg base NEv "every" (ao zdq) f cdv Ar outer s H00 E) ((zap zdq).drop 5) z ∧
   ∀(H0 H:Hp) (Q:VK) (p q t:Addr) (A:EvA) (k:List At) (Rs:List (List Int)) (ps:List Int) (d:Bool),zdG k→k.Nodup→zbJ k.length Rs d→SqI K H0 q ps→ps.length≤100→zdl k.length ps=false→EvQ K C CB CL CM CC H0 k Rs ps d Q E→EvS K C CC H0 H A k Rs ps [] [] []→Fnd K H k.length (Rs++([]:List (List Int)).map zaH) t →
    z { nx:=λ_ H'=>Q .non H',rt:=Q } [some (.ref p),some (.ref q),some (.int 100000),some (.ref A.p2),some (.ref A.lt),some (.ref A.lc),some (.ref t),none] H:=by
 obtain⟨t64,e64⟩:=G.m64;have hr2:=hr.mono (j:=2) (by decide);have hr5:=hr.mono (j:=5) (by decide);refine⟨_,(ae (zep PassesOwn.leaving (aA zbd (aW zal (pv 6) ai) zaU)
   (ae (zaj (aA zbd (aw zaa rfl TB.len bLq (aa (pv 4) ac)) (zaR (v:=.int 64) rfl e64 ⟨_,rfl⟩))
     (ak (zbA (C:=CM) xe1 rfl rfl T.bmany PySem.F.excBase_ValueError T.xmany (aa (zbv (zaC zaU (zaC (zdZ (zaR (v:=.int 64) rfl e64 ⟨_,rfl⟩)) zcN))) ac)))
     zac)
    (ae (aF (i:=7) zcY.nd rfl (Or.inl rfl) (zaL zce rfl TB.tuple PyProof.Rows.Boot.tuple (aa (zcS (N':=["atom","found"]) (ix:=[6]) rfl rfl (by decide +kernel) (by decide +kernel) rfl (λok=>zcd (sc:=ao zdq) ok rfl (by decide +kernel) (by decide +kernel)) (by decide +kernel) rfl rfl (λj i h=>match j,h with | 0,h=>by cases h;exact⟨_,rfl,rfl,.inl rfl,.inl rfl⟩ | n+1,h=>by simp at h) (zhH (pv 1)) (λ_ _ _ _=>(aW (r:=zeb K) zal (aW (r:=zeb K) zal (pv 1) ai) (aU zdg (pv 0) ai)))) ac)))
    (ae (zag (za2 PySem.F.plainAttrs_list PySem.F.slot_list_append PySem.F.type_list_append zaA (pv 4) (aa (pv 7) ac)))
    (ae (zag (za2 PySem.F.plainAttrs_list PySem.F.slot_list_append PySem.F.type_list_append zaA (pv 5) (aa (zai G.H.ok hr5 rfl G.H.m G.H.kp G.H.b .nil zak (aa (pv 3) (aa (aW zal (pv 6) ai) ac))) ac)))
    (ae (zag (zaZ (pv 3) T.cl G.mR G.R hr2 G.bR .nil (zcF xe1) (aa (zcS (N':=["part"]) (ix:=[]) rfl rfl (by decide +kernel) (by decide +kernel) rfl (λ_=>⟨[],zcv (by decide +kernel) (by decide +kernel)⟩) (by decide +kernel) rfl rfl (λj i h=>by simp at h) (zdK (pv 7)) (λ_ _ _ _=>(zaI zay (pv 0)))) ac)))
    (ak (aF (i:=6) zcY.nd rfl (Or.inr rfl) (zai G.S.ok hr rfl G.S.m G.S.kp G.S.b .nil (zcF xe1) (aa (pv 3) (aa (pv 2) ac)))))))))))
  (ak (aJ (zbz (aa (pv 4) (aa (pv 5) (aa (aW zal (pv 6) ai) ac))))))),?_⟩
 try dsimp only [Cx.nox,Cx.wish,aZ]
 rintro H0 H Q p q t A k Rs ps d pl nda Bo hq p100 hb hQ S0 f0;have g:=zj7 hb;have n40:=Bo.ro.n40;refine⟨λm σ H'=>∃(t:Addr) (v7:Option V) (Ts:List (List Int)),σ=[some (.ref p),some (.ref q),some (.int 100000),some (.ref A.p2),some (.ref A.lt),some (.ref A.lc),some (.ref t),v7]∧m=65 - Ts.length∧EvS K C CC H0 H' A k Rs ps Ts Ts Ts∧EvM k.length Rs ps d Ts∧Fnd K H' k.length (Rs++Ts.map zaH) t,⟨_,t,none,[],rfl,rfl,S0,⟨λ_ h=>(nomatch h),List.Pairwise.nil,Nat.zero_le _,Bo.r200,λ_=>rfl⟩,f0⟩,?_⟩;rintro m σ H1 ⟨t,v7,Ts,rfl,em,S1,M1,f1⟩;have l64:=M1.l64;have r200:=M1.r200;cases f1 with
 | @no lp ht hn =>
  have at0:atI [V.str "no",V.ref lp] 0=some (.str "no"):=zah (j:=0) rfl;have O:atI [V.str "no",V.ref lp] 1=some (.ref lp):=zah (j:=1) rfl;refine⟨_,rfl,t,_,_,_,rfl,rfl,ht,at0,rfl,_,rfl,aO (λc=>absurd c (by decide +kernel)) (λ_=>?_)⟩;refine⟨_,rfl,_,rfl,_,rfl,t,_,_,_,rfl,rfl,ht,O,lS3,λr hr'=>?_⟩;refine hQ.ok hb _ r A lp Ts (SqT.of af) (S1.more (au hr' _)) M1.ab M1.nd (λh=>by rw[M1.nv h];rfl) λh=>?_;have e:=zmg g (Bo.tt h) M1.ab M1.nd hn;refine⟨e,Classical.byContradiction λz=>?_,by lia⟩;have:2 ^ 7≤2 ^ ps.length:=Nat.pow_le_pow_right (by decide) (by lia);lia
 | @yes th hs ht hth Z =>
  have N:d=false:=by
   cases e:d with
   | false=>rfl
   | true =>
    obtain⟨_,z,_⟩:=Z [] (List.mem_append_left _ (Bo.nv e));cases z
  have p1:∀ a∈ps,1≤a:=λa ha=>(g.rng a ha).1;have ab:=znu (hs:=hs) p1;have nin:sgn hs ps∉Ts:=λz=>znt g (Z _ (List.mem_append_right _ (List.mem_map.mpr ⟨_,z,rfl⟩))) rfl;have less:=zln g M1.ab M1.nd ab nin;have big:64 < 2 ^ ps.length→6 < ps.length:=λh=>Classical.byContradiction λz=>by have:2 ^ ps.length≤2 ^ 6:=Nat.pow_le_pow_right (by decide) (by lia);lia
  have at0:atI [V.str "yes",V.ref th] 0=some (.str "yes"):=zah (j:=0) rfl;have O:atI [V.str "yes",V.ref th] 1=some (.ref th):=zah (j:=1) rfl;obtain⟨us,hlt,hus⟩:=id S1.tt;have ul:us.length=Ts.length:=by rw[←hus.length,lM]
  refine⟨_,rfl,t,_,_,_,rfl,rfl,ht,at0,rfl,_,rfl,aO (λ_=>?_) (λc=>absurd (by decide +kernel) c)⟩;refine⟨λσ' H'=>∃ m',m' < m∧∃(t:Addr) (v7:Option V) (Ts:List (List Int)),σ'=[some (.ref p),some (.ref q),some (.int 100000),some (.ref A.p2),some (.ref A.lt),some (.ref A.lc),some (.ref t),v7]∧m'=65 - Ts.length∧EvS K C CC H0 H' A k Rs ps Ts Ts Ts∧EvM k.length Rs ps d Ts∧Fnd K H' k.length (Rs++Ts.map zaH) t,λ_ _ z=>z,?_⟩;refine⟨_,rfl,A.lt,_,rfl,.inl (SqL.of hlt),rfl,_,rfl,aO (λc=>?_) (λc=>?_)⟩
  ·have c1:=oDq c;injection c1 with c1;rw[ul]at c1;exact⟨_,rfl,by decide +kernel,.inr ⟨64,rfl,by decide +kernel,_,rfl,by decide +kernel,by decide +kernel,(by show 1≤sizeLine;decide),hQ.many hb N (.inl (big (by lia))) _ S1.same⟩⟩
  have c1:Ts.length≠64:=λz=>c (dTq (by rw[ul,z];rfl));have hq1:=hq.same S1.same;refine⟨_,rfl,q,ps,rfl,hq1,λJ ⟨Ok,W,ok,yl'⟩ D hD=>zcT W (λi us H'=>ap H1 H'∧us=((sgn hs ps).take i).map V.int) (λi us H' ⟨X,_⟩=>ok _ X) ⟨au hD _,rfl⟩ ?_ ?_⟩
  ·rintro i us H2 x H3 hi hly u ⟨X,rfl⟩ yy;obtain⟨rfl,a,ha,rfl⟩:=yl' _ _ _ _ X yy;have hA:(sgn hs ps)[i]?=some (if a∈hs then a else -a):=by unfold sgn;rw[List.getElem?_map,ha];rfl
   refine⟨_,rfl,t,_,_,_,rfl,rfl,X.tup ht,O,_,rfl,_,_,rfl,rfl,th,_,_,_,rfl,rfl,X.tup hth,zm5 (g.rng a (mOq ha)),za5 (bsz _ (by lia)) hi hly u ⟨X.upd hD,?_⟩⟩;rw[zan hA,mAq];rfl
  rintro us2 H2 u ⟨X,rfl⟩;have sl:(sgn hs ps).length=ps.length:=by unfold sgn;rw[lM]
  rw[tO (by lia)]at u;refine⟨D,_,rfl,.inl ⟨SqL.of u,λtp htp=>?_⟩⟩;have s3:=X.trans (au htp (.tup ((sgn hs ps).map V.int)));have tp3:=SqT.of (K:=K) (af (H:=H2) (a:=tp) (o:=.tup ((sgn hs ps).map V.int)));generalize upd H2 tp (.tup ((sgn hs ps).map V.int))=H3 at s3 tp3;have S3:=S1.more s3;have l:=s3 _ _ hlt;refine⟨_,rfl,.inl ⟨rfl,_,SqL.of l⟩,_,rfl,A.lt,_,_,rfl,rfl,l,hln (by lia),?_⟩;have S4:=S3.tell l tp3;have k4:aV H3 (upd H3 A.lt (.lst (us++[.ref tp]))):=aV.oth l zaG.1 zaG.2;have ht4:=k4.sq (s3.tup ht);have Y:=k4.sq (s3.tup hth);have tp4:=k4.sq tp3;generalize upd H3 A.lt (.lst (us++[.ref tp]))=H4 at S4 ht4 Y tp4;clear k4;obtain⟨cs,hlc,csl,_⟩:=id S4.cc;refine⟨_,rfl,.inl ⟨rfl,_,SqL.of hlc⟩,_,rfl,_,rfl,t,_,_,_,rfl,rfl,ht4,O,A.p2,A.tl,A.al,A.rl,th,k,_,zaM k.length hs,rfl,S4.pr,pl,nda,n40,Y,λH5 c s5 _ hc=>?_⟩;have S5:=S4.more s5;have I:=s5 _ _ hlc;refine⟨A.lc,_,_,rfl,rfl,I,hln (by lia),?_⟩;have S6:=S5.pick I hc;have M:SqT K (upd H5 A.lc (.lst (cs++[.ref c]))) tp ((sgn hs ps).map V.int):=(aV.oth I zaG.1 zaG.2).sq (s5.tup tp4);generalize upd H5 A.lc (.lst (cs++[.ref c]))=H6 at S6 M;obtain⟨⟨dx6,ho6⟩,_⟩:=id S6.pr;refine⟨_,rfl,A.p2,dx6,_,rfl,ho6,zgs _ _ _ (by decide +kernel) (by decide +kernel) (by decide +kernel),_,rfl,tp,rfl,⟨_,M⟩,λD2 hD2=>zcT zdf (λi us H'=>ap H6 H'∧us=((zaH (sgn hs ps)).take i).map V.int) (λi us H' ⟨s7,_⟩=>s7.tup M) ⟨au hD2 _,rfl⟩ ?_ ?_⟩
  ·rintro i us H7 x H8 hi hly u ⟨s7,rfl⟩ ⟨rfl,hx⟩;obtain⟨a,ha,rfl⟩:=zaW (hx _ (s7.tup M));have hA:(zaH (sgn hs ps))[i]?=some (-a):=by unfold zaH;rw[List.getElem?_map,ha];rfl
   refine⟨_,rfl,_,rfl,za5 (bsz _ (by rw[lM,sl];lia)) hi hly u ⟨s7.upd hD2,?_⟩⟩;rw[zan hA,mAq];rfl
  rintro us7 H7 hDs7 ⟨s7,rfl⟩;have nl:(zaH (sgn hs ps)).length=ps.length:=by unfold zaH;rw[lM,sl]
  rw[lM,tO (by lia)]at hDs7;have S7:=S6.more s7;have B:=zj3 g ab;have small:∀ i∈zaH (sgn hs ps),-1000≤i∧i≤1000:=λi hi=>by have:=(B.2 i hi).2;lia
  have rl7:(Rs++Ts.map zaH).length=Rs.length+Ts.length:=by rw[lAq,lM]
  refine⟨A.p2,A.tl,A.al,A.rl,D2,[],k,_,zaH (sgn hs ps),rfl,S7.pr,.inl (SqL.of hDs7),by lia,small,by lia,?_⟩;have np:(zaH (sgn hs ps)).any (za4 k.length)=false:=by rw[List.any_eq_false];intro x hx;have:=B.2 x hx;unfold za4;rw[dFq this.1,dFq (by lia),dFq (by lia)];decide
  by_cases h20:20 < ps.length
  ·have e:zcl k.length (Rs++Ts.map zaH) (zaH (sgn hs ps))=(.many,Rs++Ts.map zaH):=by unfold zcl;rw[if_neg (by rw[np];decide),if_pos (by lia)]
   rw[e];exact λH8 s8=>hQ.many hb N (.inl (by lia)) _ (S7.same.trans s8)
  by_cases h200:200≤Rs.length+Ts.length
  ·have e:zcl k.length (Rs++Ts.map zaH) (zaH (sgn hs ps))=(.many,Rs++Ts.map zaH):=by unfold zcl;rw[if_neg (by rw[np];decide),if_neg (by lia),if_pos (by lia)]
   rw[e];exact λH8 s8=>hQ.many hb N (.inr (by lia)) _ (S7.same.trans s8)
  have e:zcl k.length (Rs++Ts.map zaH) (zaH (sgn hs ps))=(.num (Rs++Ts.map zaH).length,(Rs++Ts.map zaH)++[zaH (sgn hs ps)]):=by unfold zcl;rw[if_neg (by rw[np];decide),if_neg (by lia),if_neg (by lia),zj1 _ [] (by rw[List.nil_append];exact B.1)];rfl
  rw[e];intro H8 hp8 f8;have S8:=S7.row (t:=sgn hs ps) f8 hp8;have M8:EvM k.length Rs ps d (Ts++[sgn hs ps]):=by
   refine⟨λx hx=>(mPq hx).elim (M1.ab x) λz=>by rw[mS z];exact ab,List.nodup_append.mpr ⟨M1.nd,by simp,λx hx y hy z=>nin (by rw[mS hy]at z;exact z ▸ hx)⟩,?_,?_,λh=>by rw[N]at h;cases h⟩
   ·rw[lAq];show _+1≤_;lia
   ·rw[lAq];show _+(_+1)≤_;lia
  have fin:∀ L U,ap H8 L→Fnd K L k.length (Rs++(Ts++[sgn hs ps]).map zaH) U→∃ m',m' < m∧∃(t:Addr) (v7:Option V) (Ts:List (List Int)),[some (V.ref p),some (.ref q),some (.int 100000),some (.ref A.p2),some (.ref A.lt),some (.ref A.lc),some (.ref U),some (.ref tp)]=[some (.ref p),some (.ref q),some (.int 100000),some (.ref A.p2),some (.ref A.lt),some (.ref A.lc),some (.ref t),v7]∧m'=65 - Ts.length∧EvS K C CC H0 L A k Rs ps Ts Ts Ts∧EvM k.length Rs ps d Ts∧Fnd K L k.length (Rs++Ts.map zaH) t:=λL U s9 f9=>⟨_,by rw[em,lAq];show 65 - (_+1) < _;lia,U,_,_,rfl,rfl,S8.more s9,M8,f9⟩;refine⟨_,rfl,_,rfl,A.p2,A.tl,A.al,A.rl,k,_,100000,rfl,S8.pr,pl,M8.rows Bo g,by decide,by decide,λh L s9=>?_,λL U th9 hs9 s9 _ h1 h2 h3=>fin L U s9 (.yes (SqT.of h1) (SqT.of h2) h3),λL U pl9 ys9 s9 _ h1 _ h3=>fin L U s9 (.no (SqT.of h1) h3)⟩;refine hQ.long hb (Classical.byContradiction λz=>?_) _ (S8.same.trans s9);have:(2:Int) ^ (k.length+1)≤2 ^ 7:=by exact_mod_cast Nat.pow_le_pow_right (n:=2) (by decide) (show k.length+1≤7 by lia)
  lia
end
def zkA (Rs:List (List Int)):zeh Rs ((List.range Rs.length).map λi:Nat=>(i:Int))=Rs:=by
 unfold zeh;rw[List.map_map];refine List.ext_getElem? λi=>?_;rw[List.getElem?_map];rcases Nat.lt_or_ge i Rs.length with c | c
 ·rw[List.getElem?_range c,gG c];show some (Rs.getD ((i:Int)).toNat [])=_;rw[Int.toNat_natCast,List.getD_eq_getElem?_getD,gG c];rfl
 ·rw[List.getElem?_eq_none (by rw[List.length_range];exact c),List.getElem?_eq_none c];rfl
section
variable {P:Program} {w:World} {K:W.Frag} {mg:Str→Option Value} {base:Heap} {aK C CN CT CB CM CL CC f fS fH fR fA fO:Addr} {fd dS dH dR' dA' dO:FuncData}
def zmQ (F:FD K "every" zdq f td fd tk)(T:Txt K mg aK C CN CT CB CM)(TB:TxB K mg CL)(G:EvG P w K mg base C CN CT CB CM CL CC fS fH fR fA fO dS dH dR' dA' dO):aI P w K mg base (CX1 P w) 10 f fd ["problem","atoms","most"] (zgI K C CB CL CM CC):=by
 refine FD.okX F zcY (λvs H Q E h=>?_) (λcdv Ar outer s H vs Q E hr h=>?_)
 ·obtain⟨p,tl,al,rl,q,d,Rs,ps,g,rfl,_⟩:=h;rfl
 obtain⟨p,tl,al,rl,q,d,Rs,ps,g,rfl,S,pl,nda,Bo,hq,p100,big,hQ⟩:=h;have hr1:=hr.mono (j:=1) (by decide);have hr3:=hr.mono (j:=3) (by decide);obtain⟨z5,h5,q5⟩:=every5 (P:=P) (w:=w) (base:=base) (f:=f) T TB G (cdv:=cdv) (Ar:=Ar) (outer:=outer) (s:=s) (H00:=H) (E:=E) hr;refine⟨_,(ae (zag (zai G.A.ok hr1 rfl G.A.m G.A.kp G.A.b .nil (zcF xe1) (aa (pv 0) (aa (pv 1) ac))))
  (ae (aF (i:=3) zcY.nd rfl (Or.inl rfl) (zai G.O.ok hr3 rfl G.O.m G.O.kp G.O.b .nil zak (aa (pv 0) (aa (zaL (ziu rfl) rfl TB.list PyProof.Rows.Boot.list (aa (zlx rfl TB.range (aa (aw zaa rfl TB.len bLq (aa (aB (pv 0) rfl) ac)) ac)) ac)) ac))))
  (ae (aF (i:=4) zcY.nd rfl (Or.inl rfl) (zaD ac))
  (ae (aF (i:=5) zcY.nd rfl (Or.inl rfl) (zaD ac))
  (ae (aF (i:=6) zcY.nd rfl (Or.inr rfl) (zai G.S.ok hr rfl G.S.m G.S.kp G.S.b .nil (zcF xe1) (aa (pv 3) (aa (pv 2) ac))))
  h5))))),?_⟩
 try dsimp only [Cx.nox,Cx.wish,aZ]
 have r200:=Bo.r200;have n40:=Bo.ro.n40;refine(λ(k:AkQ CB H d.length ps _ E)=>⟨_,rfl,_,rfl,hq.elim (λz=>.inl ⟨p,tl,al,rl,q,[],d,Rs,ps,rfl,S,z,big,k⟩) (λz=>.inr ⟨p,tl,al,rl,q,[],d,Rs,ps,rfl,S,z,big,k⟩)⟩) ⟨hQ.bad,λhb H1 s1=>?_⟩;have S1:=S.same s1;obtain⟨⟨dx1,ho1⟩,_,_,⟨xs,hrl,hxs⟩,_⟩:=id S1;have xl:xs.length=Rs.length:=by rw[←hxs.length,lM]
 refine⟨_,rfl,_,rfl,p,C,dx1,_,_,rfl,ho1,T.cl,T.nR,zbK _ _ _,rl,_,rfl,.inl (SqL.of hrl),_,rfl,λrg hrg=>?_⟩;have s2:=s1.trans (au hrg (.rng 0 ((xs.length:Nat):Int)));have I:=af (H:=H1) (a:=rg) (o:=.rng 0 ((xs.length:Nat):Int));generalize upd H1 rg (.rng 0 ((xs.length:Nat):Int))=H2 at s2 I;refine⟨rg,_,rfl,I,by lia,by lia,λl hl=>?_⟩;have Z:=s2.trans (au hl (.lst (((List.range ((xs.length:Nat):Int).toNat).map λi:Nat=>(i:Int)).map V.int)));have U:=af (H:=H2) (a:=l) (o:=.lst (((List.range ((xs.length:Nat):Int).toNat).map λi:Nat=>(i:Int)).map V.int));generalize upd H2 l (.lst (((List.range ((xs.length:Nat):Int).toNat).map λi:Nat=>(i:Int)).map V.int))=H3 at Z U;rw[Int.toNat_natCast,xl]at U;refine⟨p,l,tl,al,rl,[],d,Rs,_,rfl,S.same Z,SqL.of U,λk hk=>?_,by show 0≤1000;decide,by lia,by rw[lM,List.length_range];lia,λX p2 r y u s4 e1 e2 e3 e4 P4=>?_⟩
 ·obtain⟨i,hi,rfl⟩:=List.mem_map.mp hk;have:=List.mem_range.mp hi;lia
 rw[zkA]at P4;have t:=Z.trans s4;refine⟨lS0,λB R=>?_⟩;have s5:ap X (upd X B (.lst [])):=au R _;have c:=af (H:=X) (a:=B) (o:=.lst []);generalize upd X B (.lst [])=H5 at s5 c;refine⟨lS0,λD x=>?_⟩;have s6:ap H5 (upd H5 D (.lst [])):=au x _;have J:=af (H:=H5) (a:=D) (o:=.lst []);generalize upd H5 D (.lst [])=H6 at s6 J;have L:=s5.trans s6;have P6:=P4.same L;obtain⟨_,⟨w1,g1,_⟩,⟨w2,g2,_⟩,⟨w3,g3,_⟩,_⟩:=id P4;have M:∀ {b:Addr} {o:HO},X b=some o→B≠b:=λe z=>by rw[←z,R]at e;cases e
 have N:∀ {b:Addr} {o:HO},X b=some o→D≠b:=λe z=>by have:=s5 _ _ e;rw[←z,x]at this;cases this
 have S6:EvS K C CC H H6 ⟨p2,r,y,u,B,D⟩ d Rs ps [] [] []:=by refine⟨t.trans L,Z.free e3,Z.free e4,t.free R,(t.trans s5).free x,(λz=>by have z:B=D:=z;rw[z,x]at c;cases c),⟨M g1,M g2,M g3⟩,⟨N g1,N g2,N g3⟩,?_,⟨[],s6 _ _ c,aq.nil⟩,⟨[],J,rfl,(λj v e=>by cases e)⟩⟩;show zat K C H6 p2 r y u [] d (Rs++[]);rw[List.append_nil];exact P6
 have W:∀ H7 t7,ap H6 H7→Fnd K H7 d.length (Rs++([]:List (List Int)).map zaH) t7→z5 { nx:=λ_ H'=>Q .non H',rt:=Q } [some (.ref p),some (.ref q),some (.int 100000),some (.ref p2),some (.ref B),some (.ref D),some (.ref t7),none] H7:=λH7 t7 s7 f7=>q5 H H7 Q p q t7 ⟨p2,r,y,u,B,D⟩ d Rs ps g pl nda Bo hq p100 hb hQ (S6.more s7) f7;have eR:Rs++([]:List (List Int)).map zaH=Rs:=List.append_nil _;rw[eR]at W;refine⟨_,rfl,_,rfl,p2,r,y,u,d,Rs,100000,rfl,P6,pl,Bo.ro,by decide,by decide,λh H9 Y=>?_,λH9 t9 th9 hs9 Y _ h1 h2 h3=>W H9 t9 Y (.yes (SqT.of h1) (SqT.of h2) h3),λH9 t9 pl9 ys9 Y _ h1 _ h3=>W H9 t9 Y (.no (SqT.of h1) h3)⟩;refine hQ.long hb (Classical.byContradiction λz=>?_) _ ((t.trans L).trans Y);have:(2:Int) ^ (d.length+1)≤2 ^ 7:=by exact_mod_cast Nat.pow_le_pow_right (n:=2) (by decide) (show d.length+1≤7 by lia)
 lia
end
end K95
namespace L2
open PySem PySem.Spec PySem.Calls PyProof.Rows PySem.W PySem.Builtin PySem.Builtin.ObjectAttr PySem.Builtin.Getset_descriptor
section
variable {prog:Program} {w:World} {A:Around} {E:Value→Shared→Prop} {s:Shared} {K:Frag} {x C:Addr}
def xc_get (X:K.In s.heap)(I:zb6 x C s.heap)(a:mroIn K C (.type "object")=some true)
  (h:R (.ok (.ret (.ref C))) s):codeAny (model prog w) A (.call (.builtin "getset_descriptor.__get__") ⟨[.builtin "object.__class__",.ref x,tp],[]⟩) R s:=by
 obtain⟨b,g,i,t,e⟩:=s;obtain⟨f,c,d⟩:=I;have k:Looks (model prog w) b (typeOf (.ref x)) (.ref C):=d ▸ (Looks.ld c).andThen .now;have j:=looks_mroIn (M:=model prog w) X a;refine codeAny_call_builtin KF.slot_gs.plain KF.entry_gs (KF.slot_gs.check _ _ _ _ _ _ _ _ KF.type_class (KF.args_gs _ _ _) ?_);unfold Builtin.«getset_descriptor.__get__» descrGet;rw[dga_obj];refine wpAny_bind (wpAny_pure ?_);unfold descrGetter descrCheckInstance descrNameAndClass isInstance;simp only[KF.owner_class]
 repeat lk
 refine⟨Code.quiet_builtin _ (by decide +kernel),codeAny_builtin KF.entry_class ?_⟩;unfold Builtin.«object.__class__» shownTypeOf
 repeat lk
 exact h
structure XcK (K:Frag)(C:Addr):Prop where
 c:(clsIn K C).isSome=true
 ga:findIn K (.ref C) "__getattribute__"=some (some (.builtin "BaseException.__getattribute__"))
 gn:findIn K (.ref C) "__getattr__"=some none
 cl:findIn K (.ref C) "__class__"=some (some (.builtin "object.__class__"))
 get:specialIn K (.builtin "object.__class__") "__get__"=some (some (.builtin "getset_descriptor.__get__"))
 tk:takesIn K (.builtin "object.__class__")=some true
 mo:mroIn K C (.type "object")=some true
 mb:mroIn K C (.type "BaseException")=some true
def zni (X:K.In h)(k:XcK K C):Looks M h (find (.ref x) (.ref C) "__class__") (.bind (.builtin "getset_descriptor.__get__") (.builtin "object.__class__")):=by have d:=looks_findIn (M:=M) X k.cl;have c:Looks M h (getOf (some (.builtin "object.__class__"))) (some (.builtin "getset_descriptor.__get__")):=looks_specialIn X k.get;have b:=looks_takesIn (M:=M) X k.tk;intro A Q E s a q;unfold find;refine wpAny_bind ((d.keeps a).here ?_);refine wpAny_bind ((c.keeps a).here ?_);unfold dataDescriptor?;refine wpAny_bind (wpAny_bind ((b.keeps a).here ?_));exact wpAny_pure (wpAny_bind (wpAny_rule (wpAny_pure q)))
def zl7 (X:K.In s.heap)(I:zb6 x C s.heap)(k:XcK K C)(h:Q (.done (.ret (.ref C))) s) :
  wpAny (model prog w) A (Builtin.«object.__getattribute__» ⟨[.ref x,.str "__class__" tk],[]⟩) Q E s:=by obtain⟨a,g,e,t,b⟩:=s;have j:=I;obtain⟨l,c,d⟩:=I;have i:Looks (model prog w) a (typeOf (.ref x)) (.ref C):=d ▸ (Looks.ld c).andThen .now;have f:=zni (M:=model prog w) (x:=x) X k;unfold Builtin.«object.__getattribute__»;refine wpAny_bind (wpAny_pure ?_);refine wpAny_bind (wpAny_pure ?_);refine wpAny_bind (i.at ?_);refine wpAny_bind (f.at ?_);show wpAny _ _ (holding [_] (call _ _) >>= ret) _ _ _;exact wpAny_bind (wpAny_holding (wpAny_call (xc_get (s:=⟨a,g,e,t,b⟩) X j k.mo (wpAny_pure h))))
def zl8 (X:K.In s.heap)(I:zb6 x C s.heap)(k:XcK K C)(b:Q () s):wpAny M A (checkBuiltinCall "BaseException.__getattribute__" ⟨[.ref x,nameV],[]⟩) Q E s:=by
 obtain⟨d,g,o,t,j⟩:=s;obtain⟨l,e,f⟩:=I;have i:Looks M d (typeOf (.ref x)) (.ref C):=f ▸ (Looks.ld e).andThen .now;have h:=looks_mroIn (M:=M) X k.mb;have c:builtinKind "BaseException.__getattribute__"=some .slot:=by decide +kernel
 have a:splitId "BaseException.__getattribute__"=some ("BaseException","__getattribute__"):=by decide +kernel
 have n:=F.args_bexc_ga (.ref x) nameV;simp only[checkBuiltinCall,c,a];refine wpAny_bind ?_;unfold isInstance;refine wpAny_bind (i.at (h.at ?_))
 repeat wp_step
 exact b
def znj (X:K.In s.heap)(I:zb6 x C s.heap)(k:XcK K C)(h:Q (some (.ref C)) { s with toks:=s.toks+1 }):wpAny (model prog w) A (getAttr? (.ref x) "__class__") Q E s:=by obtain⟨a,g,d,t,b⟩:=s;have c:=I;obtain⟨o,e,f⟩:=I;have n:Looks (model prog w) a (typeOf (.ref x)) (.ref C):=f ▸ (Looks.ld e).andThen .now;have l:=looks_findIn (M:=model prog w) X k.ga;have j:=looks_findIn (M:=model prog w) X k.gn;unfold getAttr? getAttrBy? getAttrBy;refine wpAny_bind (wpAny_mkText (wpAny_bind (wpAny_attempt (wpAny_holding (wpAny_bind (n.at (wpAny_bind (l.at ?_))))))));show wpAny _ _ (getAttrByItsOwn _ _ _ _ _ _) _ _ _;unfold getAttrByItsOwn;refine wpAny_bind (j.at ?_);refine wpAny_bind (wpAny_attempt (wpAny_holding ?_));show wpAny _ _ (boundAndCalled _ _ _) _ _ _;unfold boundAndCalled;have i:=F.excAttr_ValueError.ga.bind (.ref x);rw[i];refine wpAny_bind (wpAny_pure ?_);refine wpAny_call (codeAny_call_builtin F.excAttr_ValueError.ga.plain F.entry_bexc_ga (zl8 (s:=⟨a,g,d,t+1,b⟩) X c k (zl7 (s:=⟨a,g,d,t+1,b⟩) X c k ?_)));exact handed_on rfl (wpAny_pure h)
def zn5 (k:XcK K C):KitX K (.ref x) (.ref C) (λh=>zb6 x C h) where
 ty:=λM h _ I=>by obtain⟨v,p,r⟩:=I;exact r ▸ (Looks.ld p).andThen .now
 it:=λ_ _ X _=>by
  obtain⟨g,a⟩:=Option.isSome_iff_exists.mp k.c;unfold clsIn at a;split at a
  ·rename_i t d' i b f;intro A' y B s' k q;unfold isType loadHead;exact wpAny_bind (wpAny_loadPart (k _ _ (X _ _ f)) (wpAny_pure q))
  ·cases a
 ne:=λh j dd o n u X d=>by
  obtain⟨g,a⟩:=Option.isSome_iff_exists.mp k.c;refine Bool.eq_false_iff.mpr λq=>?_;have e:C=j:=Value.ref.inj (beq_iff_eq.mp q);subst e;unfold clsIn at a;split at a
  ·rename_i t d' i b f;have z:=(X _ _ f).symm.trans d;cases z
  ·cases a
 ca:=λX I l=>znj X I k l
end
section
variable {X:Cx}
inductive zcA (K:Frag):List V→Hp→VK→Prop|m{xs H Q} (ea C D:Addr) (b:Bool):xs=[.ref ea,.ref D]→H ea=some (.ext (zb6 ea C))→XcK K C→kitOne K (.ref C) (.ref D)=some b→Q (.bl b) H→zcA K xs H Q
def zbw:zbt X (.builtin "isinstance") (zcA X.K):=by intro a s k H xs us Q I r h;obtain⟨ea,C,D,b,rfl,j,g,i,q⟩:=h;obtain⟨u,c,rfl,e,d⟩:=zg4 r;cases (show c=Value.ref D from d);cases (show u=Value.ref ea from e);obtain⟨f,_⟩:=I.hok ea _ j;exact kia_one (zn5 g) I.kIn f i (λz=>nomatch z) λtk=>⟨.bl b,H,I.tok _,rfl,q⟩
end
end L2
namespace L2
open PySem PySem.Spec PyProof.Rows
section
variable {X:Cx} {pins:List (Addr × Obj)} {σ:St} {H:Hp} {s:Shared}
def zhs (I:Inv X pins σ H s){d:Dt}:∀ {a:List Dt} {vs:List V} {us:List Value},aq X.K H a vs→aQ vs us→us.countP (hitD X.K H d)=a.countP λe=>peq e d
 | [],vs,us,h,r=>by simp only[aq]at h;subst h;cases r;rfl
 | d' :: a,vs,us,h,r=>by
  simp only[aq]at h;obtain⟨v,rs,rfl,g,f⟩:=h;cases r with
  | cons c b=>rw[List.countP_cons,List.countP_cons,zhs I f b,zgr I c g]
end
end L2
namespace L2
open PySem
section
variable {K:W.Frag} {h:Heap} {mg:Str→Option Value} {C f:Addr} {fd:FuncData} {n x q:Str} {st:Stmt} {oc kV doc pm cdv ct:Value} {od an:Option Addr} {osl:Array (Option Value)}
structure FT (K:W.Frag)(n x:Str)(st:Stmt)(f:Addr)(fd:FuncData):Prop where
 a:W.nsIn K mainGlobals n=some (some (.ref f))
 F:Fun K x x st f fd
 k:W.keepIn K (.ref f)=true
def FT.m (z:FT K n x st f fd)(X:K.In h)(G:h.Ns mainGlobals mg):mg n=some (.ref f):=W.mg_of X G z.a
def ft_in (a:W.nsIn K mainGlobals n=some (some (.ref f)))(l:K.lookup f=some ⟨oc,od,.func (W.fnOf x x (zbo st) (zap st) (ao st) .none kV doc pm an cdv ct),osl⟩)(c:W.codeIn K cdv x=true)(k:W.keepIn K (.ref f)=true):FT K n x st f (W.fnOf x x (zbo st) (zap st) (ao st) .none kV doc pm an cdv ct):=⟨a,zle l c k,k⟩
structure FM (K:W.Frag)(C:Addr)(x q:Str)(st:Stmt)(f:Addr)(fd:FuncData):Prop where
 a:W.findIn K (.ref C) x=some (some (.ref f))
 i:W.isFn K (.ref f)=true
 F:Fun K x q st f fd
 k:W.keepIn K (.ref f)=true
def FM.M (z:FM K C x q st f fd):zbh K C x f:=⟨z.a,z.i,z.k⟩
def fm_in (a:W.findIn K (.ref C) x=some (some (.ref f)))(i:W.isFn K (.ref f)=true)(l:K.lookup f=some ⟨oc,od,.func (W.fnOf x q (zbo st) (zap st) (ao st) .none kV doc pm an cdv ct),osl⟩)(c:W.codeIn K cdv q=true)(k:W.keepIn K (.ref f)=true):FM K C x q st f (W.fnOf x q (zbo st) (zap st) (ao st) .none kV doc pm an cdv ct):=⟨a,i,zle l c k,k⟩
abbrev Bd (x q:Str)(st:Stmt)(ps:List Str)(us:List Value):Prop:=∀(kV doc pm:Value) (an:Option Addr) (cdv ct:Value),bindArgs (W.fnOf x q (zbo st) (zap st) (ao st) .none kV doc pm an cdv ct) ⟨us,[]⟩=pure (ps.zip us)
def Fun.b1 (F:Fun K x q st f fd)(h:∀ a,Bd x q st [p] [a]):az K fd [p] []:=F.binds λkV doc pm an cdv ct us b=>by rcases us with _ | ⟨_,_ | _⟩ <;> first | exact h _ kV doc pm an cdv ct | cases b
def Fun.b2 (F:Fun K x q st f fd)(h:∀ a b,Bd x q st [p,p2] [a,b]):az K fd [p,p2] []:=F.binds λkV doc pm an cdv ct us c=>by rcases us with _ | ⟨_,_ | ⟨_,_ | _⟩⟩ <;> first | exact h _ _ kV doc pm an cdv ct | cases c
def Fun.b3 (F:Fun K x q st f fd)(h:∀ a b c,Bd x q st [p,p2,p3] [a,b,c]):az K fd [p,p2,p3] []:=F.binds λkV doc pm an cdv ct us d=>by rcases us with _ | ⟨_,_ | ⟨_,_ | ⟨_,_ | _⟩⟩⟩ <;> first | exact h _ _ _ kV doc pm an cdv ct | cases d
def Fun.b4 (F:Fun K x q st f fd)(h:∀ a b c d,Bd x q st [p,p2,p3,p4] [a,b,c,d]):az K fd [p,p2,p3,p4] []:=F.binds λkV doc pm an cdv ct us e=>by rcases us with _ | ⟨_,_ | ⟨_,_ | ⟨_,_ | ⟨_,_ | _⟩⟩⟩⟩ <;> first | exact h _ _ _ _ kV doc pm an cdv ct | cases e
def Fun.b5 (F:Fun K x q st f fd)(h:∀ a b c d e,Bd x q st [p,p2,p3,p4,p5] [a,b,c,d,e]):az K fd [p,p2,p3,p4,p5] []:=F.binds λkV doc pm an cdv ct us g=>by rcases us with _ | ⟨_,_ | ⟨_,_ | ⟨_,_ | ⟨_,_ | ⟨_,_ | _⟩⟩⟩⟩⟩ <;> first | exact h _ _ _ _ _ kV doc pm an cdv ct | cases g
def Fun.top (F:Fun K x q st f fd)(h:∀ a,Bd x q st [p] [a]):∀(s:Shared) (v:Value),BindsTo s fd ⟨[v],[]⟩ [(p,v)]:=λs v=>by obtain⟨oc,od,kV,doc,pm,an,cdv,ct,osl,rfl,c,b⟩:=F.ex;exact .of_eq (h v kV doc pm an cdv ct)
end
end L2
namespace L2
open PySem PySem.Spec PyProof.Rows
section
variable {X:Cx}
inductive zjV (K:W.Frag):V→List V→Hp→VK→Prop|m{x vs H Q} a xs ds y d:x=.ref a→vs=[y]→SqL K H a xs→aq K H ds xs→Has K H d y→zaQ ds≤60→Q (.int ((ds.countP λe=>peq e d:Nat):Int)) H→zjV K x vs H Q
def zib (L:X.A.units+64 < cLine):MtR X "list.count" (zjV X.K):=by
 intro i s E H x vs v us Q I k l h;obtain⟨a,xs,D,y,d,rfl,rfl,C,hs,z,M,q⟩:=h;cases k;obtain⟨u,rfl,p⟩:=l.one;obtain⟨b,r,pl,J⟩:=I.list C;obtain⟨o,e,j,n,c⟩:=id pl.isList;obtain⟨G,od,t,f⟩:=o;simp only at j c;subst j c;have g:X.A.in1.units+zaQ D < cLine:=by rw[Around.in1_units];lia
 refine call_meets F.slot_list_count ⟨_,e,rfl⟩ F.entry_list_count (F.args_list_count_2 _ _) (SeqAt.list_countAt a b.toArray n od f u (hitD X.K H d)) ⟨e,?_,?_⟩
 ·intro w B;exact zc2 I z p hs r g w (by simpa using B)
 ·refine⟨.int _,H,I.tok _,⟨_,rfl⟩,?_⟩;show Q (.int ((b.countP (hitD X.K H d):Nat):Int)) H;rw[zhs I hs r];exact q
end
structure FnS (P:Program)(w:World)(K:W.Frag)(mg:Str→Option Value)(base:Heap)(k:Nat)(f:Addr)(fd:FuncData)(ps:List Str)(sp:Sp):Prop where
 len:∀ vs H Q E,sp vs H Q E→vs.length=ps.length
 run:∀(A:Around) (ea:Addr) (outer:List Env) (s:Shared) (H:Hp) (args:Args) (us:List Value) (vs:List V) (Q:VK) (E:XK),zax k A→zfA P w K mg base A outer s H→BindsTo s fd args (ps.zip us)→aQ vs us→sp vs H Q E →
  codeAny (model P w) (A.mark (some (.ref ea))) (.call (.ref f) args) (CR CX0 outer P w H s Q E) s
def Fun.okS {P:Program}{w:World}{K:W.Frag}{mg:Str→Option Value}{base:Heap}{x a:Str}{st:Stmt}{f:Addr}{G:FuncData}{N ps:List Str}{k:Nat}{sp:Sp}(F:Fun K x a st f G)(S:zab N ps (ao st))(h:∀ vs H Q E,sp vs H Q E→vs.length=ps.length)
  (g:∀(cdv:Value) (A:Around) (ea:Addr) (outer:List Env) (s:Shared) (H:Hp) (vs:List V) (Q:VK) (E:XK),zax k (A.deeper (envOfC a (ao st) s.heap.objs.size f cdv))→sp vs H Q E →
   ∃ t,PSs ((aZ CX0 P w K mg base N a (ao st) f cdv A outer s H E).susp ea) (zap st) t∧t { nx:=λ_ H'=>Q .non H',rt:=Q } (zcz N vs) H):FnS P w K mg base (k+1) f G ps sp:=by
 obtain⟨oc,od,kV,doc,pm,an,cdv,ct,O,rfl,R,C⟩:=F.ex;refine⟨h,λA ea outer s H L us vs Q E B l hb r i=>?_⟩;have Y:=h _ _ _ _ i;have M:K.In s.heap:=l.mod.kin.keeps λb o e=>(l.bs b o e).1;have z:s.heap.NoLimit:=l.mod.nolimit.keeps λb o e=>(l.bs b o e).1;have d:∀ y∈ps.zip us,(ao st).names.lookup y.1=some .local∨((ao st).names.lookup y.1=some .cell∧((cellsFrom (s.heap.objs.size+1) (ao st).names []).lookup y.1).isSome=true):=λ⟨n,v⟩ T=>by
  rcases S.par n (List.of_mem_zip T).1 with q | q
  ·exact .inl q
  ·exact .inr ⟨q,W.cellsFrom_some _ _ _ (.inl q)⟩
 refine codeAny_call_function (A:=A.mark (some (.ref ea))) B.depth (M _ _ R) rfl S.co S.gen rfl (W.codeRec_of M C) (hb _ _ _ _ ?_);refine wpAny_newFunctionEnv_cells S.kind d λenv Z D x=>?_;subst Z;refine⟨z.keeps x.toInCall.keep,codeAny_func ?_⟩;obtain⟨t,U,X⟩:=g cdv A ea outer s H vs Q E (B.deeper _) i;have I:Inv (aZ CX0 P w K mg base N a (ao st) f cdv A outer s H E) [] (zcz N vs) H D:=zie S B.hd l Y r x;have ok:=I.ok;refine wpAny_mono (U [] D (zcz N vs) H _ (I.susp ea) X) (λfl s' hs=>?_) λe s' hs=>hs.elim;have j:∀ {c:St} {H':Hp} {v:V} {u:Value},Inv ((aZ CX0 P w K mg base N a (ao st) f cdv A outer s H E).susp ea) [] c H' s'→aY v u→Q v H'→L2.CE outer P w H s Q u s' :=
  λ{c H' v u} J p q=>⟨v,H',J.os,J.bare,J.base,J.hok,p,q⟩
 cases fl with
 | ret u =>
  obtain⟨v,c,H',J,p,q⟩:=hs;exact j J p q
 | next =>
  obtain⟨c,H',J,q⟩:=hs;exact j (v:=V.non) (u:=Value.none) J rfl q
 | brk =>
  obtain⟨_,_,_,q⟩:=hs;exact False.elim q
 | cont =>
  obtain⟨_,_,_,q⟩:=hs;exact False.elim q
def zmx (F:FnS X.prog X.w X.K X.mg X.base k f fd ps sp)(j:zax k X.A)(D:Gl X x)(z:X.mg x=some (.ref f))(C:W.keepIn X.K (.ref f)=true)(L:az X.K fd ps [])
  (M:PA (X.susp ea) (e :: es) t)(d:(x == ("__debug__":Str))=false:=by decide)(G:starEach (e :: es) X.env=(false,eval e X.env) :: starEach es X.env:=by rfl)(c:(backTo pos (starEach es X.env)).any (·.1)=false:=by rfl) :
  PE (X.susp ea) (.Call (.Name x p) (e :: es) [] pos) (zkl sp [] E t):=by
 intro a s n H Q I h;refine wpAny_Call_Name_kw (zc4 (X:=X.susp ea) I D z ?_ d);refine W.callWith_K (h₀:=X.base) I.ok.mod.kin C (thn (M pos a s n H _ I h) λus g ⟨vs,R,l,r,q⟩=>⟨l.kIn,?_⟩) G c;have ok:X.Ok:=⟨I.ok.mod,I.ok.kind,I.ok.glob,I.ok.blt,I.ok.above,I.ok.inj,I.ok.has,I.ok.cab,λ_=>j.hd,I.ok.frames,I.ok.stk,I.ok.exf,I.ok.bs,I.ok.bsz,I.ok.noex,I.ok.exfs,I.ok.funs,I.ok.frf⟩;have J:=l.unsusp ok;have i:aQ (vs++[]) (us++[]):=r.append .nil;have B:(us++([]:List Value)).length=ps.length:=by rw[←i.length];exact F.len _ _ _ _ q
 refine wpAny_call (codeAny_mono (F.run X.A ea X.stack g R ⟨us,[]⟩ (us++[]) (vs++[]) Q E j J.env0 (L g us J.kIn B) i q) λr s' b=>?_);cases r with
 | error e=>exact b.elim
 | ok N =>
  cases N with
  | ret u =>
   obtain⟨v,P,O,o,y⟩:=J.after b;exact⟨v,P,O.susp ea,o,y⟩
  | next=>exact False.elim b
  | brk=>exact False.elim b
  | cont=>exact False.elim b
end L2
namespace K95
open PySem L2
def zb3:List Nat:=[0,1,2]
structure XF (K:W.Frag)(mg:Str→Option Value)(cl:Nat→Addr)(CE:Addr):Prop where
 isi:mg "isinstance"=none
 ve:mg "ValueError"=none
 c0:mg "BadPart"=some (.ref (cl 0))
 c1:mg "TooMany"=some (.ref (cl 1))
 c2:mg "TooLong"=some (.ref (cl 2))
 c3:mg "BadTerm"=some (.ref (cl 3))
 c4:mg "BadName"=some (.ref (cl 4))
 c5:mg "NoProblem"=some (.ref (cl 5))
 c6:mg "NotJoined"=some (.ref (cl 6))
 c7:mg "BadPaper"=some (.ref (cl 7))
 c8:mg "HasChoice"=some (.ref (cl 8))
 c9:mg "NoChoice"=some (.ref (cl 9))
 ce:mg "ChoiceError"=some (.ref CE)
 xc:∀ c∈zb3,XcK K (cl c)
 ki:∀ c∈zb3,∀ d,d < 10→W.kitOne K (.ref (cl c)) (.ref (cl d))=some (decide (c=d))
 kv:∀ c∈zb3,W.kitCls K (.ref (cl c)) (.type "ValueError")=some true
 ex:∀ c∈zb3,W.exmOne K (.ref (cl c)) (.ref CE)=some true
section
variable {P:Program} {w:World} {K:W.Frag} {mg:Str→Option Value} {base:Heap} {f:Addr} {fd:FuncData} {cl:Nat→Addr} {CE:Addr}
inductive zhy (cl:Nat→Addr):Sp|m{vs H Q E9} (ea:Addr) (c:Nat):vs=[.ref ea]→c∈zb3→H ea=some (.ext (zb6 ea (cl c)))→(∀ H',ap H H'→Q (.int (-2 - (c:Int))) H')→zhy cl vs H Q E9
def zgi:zab ["_law_e","_law_kinds"] ["_law_e"] (ao zeN):=fsc
def bls (c:Nat):List Bool:=(List.range 10).map λd=>decide (c=d)
def zhO:∀ bs:List Bool,aq K H (bs.map Dt.bl) (bs.map V.bl)
 | []=>by simp only[List.map_nil,aq]
 | b :: bs=>by simp only[List.map_cons,aq];exact⟨_,_,rfl,by simp only[Has],zhO bs⟩
def zkf:∀ c∈zb3,zaQ ((bls c).map Dt.bl)≤60:=by decide
def zl5:∀ c∈zb3,((bls c).map Dt.bl).countP (λe=>peq e (.bl true))=1:=by decide
def bls_at:∀ c∈zb3,(∃ d,((bls c).map Dt.bl)[c]?=some d∧peq d (.bl true)=true)∧(∀ m a,m < c→((bls c).map Dt.bl)[m]?=some a→peq a (.bl true)=false):=by
 intro c b;simp only[zb3,List.mem_cons,List.not_mem_nil,or_false]at b;rcases b with rfl | rfl | rfl
 ·exact⟨⟨.bl true,rfl,by decide⟩,λm a h=>absurd h (Nat.not_lt_zero _)⟩
 ·refine⟨⟨.bl true,rfl,by decide⟩,λm a h e=>?_⟩
  match m,h with
  | 0,_=>injection e with e;rw[←e];decide
 ·refine⟨⟨.bl true,rfl,by decide⟩,λm a h e=>?_⟩
  match m,h with
  | 0,_=>injection e with e;rw[←e];decide
  | 1,_=>injection e with e;rw[←e];decide
def znO (F:Fun K "_law_kind" "_law_kind" zeN f fd)(T:XF K mg cl CE):FnS P w K mg base 1 f fd ["_law_e"] (zhy cl):=by
 refine F.okS zgi (λvs H Q E h=>?_) (λcdv A ez outer s H vs Q E hr h=>?_)
 ·obtain⟨ea,c,rfl,_⟩:=h;rfl
 obtain⟨ea,c,rfl,j,k,q⟩:=h;have Y:=hr.units;refine⟨_,ae (aF (i:=1) zgi.nd rfl (Or.inl rfl) (zaD (aa (aw (r:=zcA K) zbw rfl T.isi PyProof.Rows.Boot.isinstance (aa (pv 0) (aa (zaR (v:=.ref (cl 0)) rfl T.c0 rfl) ac)))
   (aa (aw (r:=zcA K) zbw rfl T.isi PyProof.Rows.Boot.isinstance (aa (pv 0) (aa (zaR (v:=.ref (cl 1)) rfl T.c1 rfl) ac)))
   (aa (aw (r:=zcA K) zbw rfl T.isi PyProof.Rows.Boot.isinstance (aa (pv 0) (aa (zaR (v:=.ref (cl 2)) rfl T.c2 rfl) ac)))
   (aa (aw (r:=zcA K) zbw rfl T.isi PyProof.Rows.Boot.isinstance (aa (pv 0) (aa (zaR (v:=.ref (cl 3)) rfl T.c3 rfl) ac)))
   ac))))))
  (ae (aF (i:=1) zgi.nd rfl (Or.inl rfl) (aU ziO (pv 1) (zaD (aa (aw (r:=zcA K) zbw rfl T.isi PyProof.Rows.Boot.isinstance (aa (pv 0) (aa (zaR (v:=.ref (cl 4)) rfl T.c4 rfl) ac)))
   (aa (aw (r:=zcA K) zbw rfl T.isi PyProof.Rows.Boot.isinstance (aa (pv 0) (aa (zaR (v:=.ref (cl 5)) rfl T.c5 rfl) ac)))
   (aa (aw (r:=zcA K) zbw rfl T.isi PyProof.Rows.Boot.isinstance (aa (pv 0) (aa (zaR (v:=.ref (cl 6)) rfl T.c6 rfl) ac)))
   ac))))))
  (ae (aF (i:=1) zgi.nd rfl (Or.inl rfl) (aU ziO (pv 1) (zaD (aa (aw (r:=zcA K) zbw rfl T.isi PyProof.Rows.Boot.isinstance (aa (pv 0) (aa (zaR (v:=.ref (cl 7)) rfl T.c7 rfl) ac)))
   (aa (aw (r:=zcA K) zbw rfl T.isi PyProof.Rows.Boot.isinstance (aa (pv 0) (aa (zaR (v:=.ref (cl 8)) rfl T.c8 rfl) ac)))
   (aa (aw (r:=zcA K) zbw rfl T.isi PyProof.Rows.Boot.isinstance (aa (pv 0) (aa (zaR (v:=.ref (cl 9)) rfl T.c9 rfl) ac)))
   ac))))))
  (ae (zaj (PW.pt (zcB (aA zd0 (za2 PySem.F.plainAttrs_list PySem.F.slot_list_count PySem.F.type_list_count (zib Y) (pv 1) (aa za8 ac)) ai rfl)
   (zcb (zei (zcr (aw (r:=zks K) zl3 rfl T.isi PyProof.Rows.Boot.isinstance (aa (pv 0) (aa (znJ (v:=.ty "ValueError") rfl T.ve PyProof.Rows.Boot.ValueError rfl) ac)))))))) (ak (aJ (zaI zay ai))) zac)
  (ak (aJ (aU zdg (zaI zay ai) (za2 PySem.F.plainAttrs_list PySem.F.slot_list_index PySem.F.type_list_index (zia Y) (pv 1) (aa za8 ac)))))))),?_⟩
 have b:∀ {H':Hp} {d:Nat} {M:VK},H' ea=some (.ext (zb6 ea (cl c)))→d < 10→M (.bl (decide (c=d))) H'→zcA K [.ref ea,.ref (cl d)] H' M:=λ{H' d M} h hd q=>⟨ea,cl c,cl d,_,rfl,h,T.xc c j,T.ki c j d hd,q⟩;refine⟨_,rfl,b k (by decide) ⟨_,rfl,b k (by decide) ⟨_,rfl,b k (by decide) ⟨_,rfl,b k (by decide) ⟨lS4,λu h1=>?_⟩⟩⟩⟩⟩;have I:ap H (upd H u (.lst [.bl (decide (c=0)),.bl (decide (c=1)),.bl (decide (c=2)),.bl (decide (c=3))])):=au h1 _;have X:=af (H:=H) (a:=u) (o:=.lst [.bl (decide (c=0)),.bl (decide (c=1)),.bl (decide (c=2)),.bl (decide (c=3))]);generalize upd H u (.lst [.bl (decide (c=0)),.bl (decide (c=1)),.bl (decide (c=2)),.bl (decide (c=3))])=C at X I;have L:=I _ _ k;refine⟨.ref u,rfl,_,rfl,b L (by decide) ⟨_,rfl,b L (by decide) ⟨_,rfl,b L (by decide) ⟨lS3,λz h2=>?_⟩⟩⟩⟩;have G:ap C (upd C z (.lst [.bl (decide (c=4)),.bl (decide (c=5)),.bl (decide (c=6))])):=au h2 _;have W:=af (H:=C) (a:=z) (o:=.lst [.bl (decide (c=4)),.bl (decide (c=5)),.bl (decide (c=6))]);generalize upd C z (.lst [.bl (decide (c=4)),.bl (decide (c=5)),.bl (decide (c=6))])=n at W G;refine⟨u,z,_,_,rfl,rfl,G _ _ X,W,(by show 7≤sizeLine;decide),λg h3=>?_⟩;have R:ap n (upd n g (.lst [.bl (decide (c=0)),.bl (decide (c=1)),.bl (decide (c=2)),.bl (decide (c=3)),.bl (decide (c=4)),.bl (decide (c=5)),.bl (decide (c=6))])):=au h3 _;have U:=af (H:=n) (a:=g) (o:=.lst [.bl (decide (c=0)),.bl (decide (c=1)),.bl (decide (c=2)),.bl (decide (c=3)),.bl (decide (c=4)),.bl (decide (c=5)),.bl (decide (c=6))]);have e3:upd n g (.lst ([.bl (decide (c=0)),.bl (decide (c=1)),.bl (decide (c=2)),.bl (decide (c=3))]++[.bl (decide (c=4)),.bl (decide (c=5)),.bl (decide (c=6))]))=upd n g (.lst [.bl (decide (c=0)),.bl (decide (c=1)),.bl (decide (c=2)),.bl (decide (c=3)),.bl (decide (c=4)),.bl (decide (c=5)),.bl (decide (c=6))]):=rfl;rw[e3];generalize upd n g (.lst [.bl (decide (c=0)),.bl (decide (c=1)),.bl (decide (c=2)),.bl (decide (c=3)),.bl (decide (c=4)),.bl (decide (c=5)),.bl (decide (c=6))])=B at U R;have t:=I.trans (G.trans R);have J:=t _ _ k;refine⟨.ref g,rfl,_,rfl,b J (by decide) ⟨_,rfl,b J (by decide) ⟨_,rfl,b J (by decide) ⟨lS3,λy h4=>?_⟩⟩⟩⟩;have D:ap B (upd B y (.lst [.bl (decide (c=7)),.bl (decide (c=8)),.bl (decide (c=9))])):=au h4 _;have S:=af (H:=B) (a:=y) (o:=.lst [.bl (decide (c=7)),.bl (decide (c=8)),.bl (decide (c=9))]);generalize upd B y (.lst [.bl (decide (c=7)),.bl (decide (c=8)),.bl (decide (c=9))])=l at S D;refine⟨g,y,_,_,rfl,rfl,D _ _ U,S,(by show 10≤sizeLine;decide),λe h5=>?_⟩;have O:ap l (upd l e (.lst ((bls c).map V.bl))):=au h5 _;have x:=af (H:=l) (a:=e) (o:=.lst ((bls c).map V.bl));have e5:upd l e (.lst ([.bl (decide (c=0)),.bl (decide (c=1)),.bl (decide (c=2)),.bl (decide (c=3)),.bl (decide (c=4)),.bl (decide (c=5)),.bl (decide (c=6))]++[.bl (decide (c=7)),.bl (decide (c=8)),.bl (decide (c=9))]))=upd l e (.lst ((bls c).map V.bl)):=rfl;rw[e5];generalize upd l e (.lst ((bls c).map V.bl))=H5 at x O;have p:=t.trans (D.trans O);have Z:=p _ _ k;have N:Has K H5 (.bl true) (.bl true):=by simp only[Has]
 refine⟨.ref e,rfl,.inl ⟨rfl,_,SqL.of x⟩,e,_,(bls c).map Dt.bl,.bl true,.bl true,rfl,rfl,SqL.of x,zhO _,N,zkf c j,?_⟩;rw[zl5 c j];obtain⟨j1,j2⟩:=bls_at c j;refine⟨rfl,false,rfl,zck ⟨_,rfl,ea,cl c,"ValueError",rfl,Z,T.kv c j,true,rfl,zck ?_⟩⟩;exact⟨_,rfl,.ref e,rfl,.inl ⟨rfl,_,SqL.of x⟩,e,_,(bls c).map Dt.bl,.bl true,.bl true,c,rfl,rfl,x,zhO _,N,zkf c j,j1,j2,_,_,rfl,rfl,q _ p⟩
end
def zc8 (m:Nat)(ps:List Int)(r:Nat)(a:Bool):Int :=
 if zdl m ps=true then -2 else if a=true then 0 else if 6 < ps.length then -3 else if r+2 ^ ps.length≤200 then((2 ^ ps.length:Nat):Int) else -3
inductive ziF (K:W.Frag):Sp|m{vs H Q E9} (a:Addr) (ps:List Int) (m r:Nat) (never:Bool):vs=[.int m,.ref a,.int r,.bl never]→SqL K H a (ps.map V.int)→ps.length≤100→(∀ H',ap H H'→Q (.int (zc8 m ps r never)) H')→ziF K vs H Q E9
def zcQ:zab ["_law_many","_law_some","_law_rows","_law_never","_law_k","_law_tuples","_law_atom"] ["_law_many","_law_some","_law_rows","_law_never"] (ao zfq):=fsc
section
variable {P:Program} {w:World} {K:W.Frag} {mg:Str→Option Value} {base:Heap} {CL f:Addr} {fd:FuncData}
def ok_due (F:Fun K "_law_due" "_law_due" zfq f fd)(S:TxB K mg CL):aI P w K mg base CX0 1 f fd ["_law_many","_law_some","_law_rows","_law_never"] (ziF K):=by
 refine F.ok zcQ (λvs H Q E h=>?_) (λcdv Ar outer s H vs Q E hr h=>?_)
 ·obtain⟨a,ps,m,r,d,rfl,_⟩:=h;rfl
 obtain⟨a,ps,m,r,d,rfl,v,W,q⟩:=h;refine⟨_,(ae (zaN PassesOwn.never rfl (zc5 rfl S.range (aa (aw zaa rfl S.len bLq (aa (pv 1) ac)) ac)) (zae (i:=4) zcQ.nd rfl (Or.inl rfl))
   (ak (zaj (PW.pt (zcB (aA zd1 (aW zaK (pv 1) (pv 4)) ai) (zcB (aA zbk (aW zaK (pv 1) (pv 4)) (pv 0)) (zcb (aA zdP (aW zaK (pv 1) (pv 4)) (zc0 zeX (pv 1) zdt (zds (pv 4))) rfl)))))
     (ak (aJ (zaI zay ai)))
     zac)))
  (ae (zaj (zcr (pv 3))
   (ak (aJ ai))
   zac)
  (ae (zaj (aA zbk (aw zaa rfl S.len bLq (aa (pv 1) ac)) ai)
   (ak (aJ (zaI zay ai)))
   zac)
  (ae (aF (i:=5) zcQ.nd rfl (Or.inl rfl) ai)
  (ae (zaN PassesOwn.never rfl (zbE (pv 1)) (zae (i:=6) zcQ.nd rfl (Or.inl rfl))
   (ak (aF (i:=5) zcQ.nd rfl (Or.inl rfl) (aU op_mul ai (pv 5)))))
  (ak (aJ (zct (aA op_le (aU zbj (pv 2) (pv 5)) ai) (pv 5) (zaI zay ai))))))))),?_⟩
 try dsimp only [Cx.nox,Cx.wish,aZ]
 have pl:(((ps.map V.int).length:Nat):Int)=(ps.length:Int):=by rw[lM]
 refine⟨_,rfl,a,_,rfl,.inl v,_,rfl,by lia,by lia,zba zfa (λi l H'=>∃ A:Option V,l=[some (.int m),some (.ref a),some (.int r),some (.bl d),A,none,none]∧ap H H'∧∀ j,j < i→za9 m ps j=false) (λ_ _ _ _=>trivial) ⟨none,rfl,ap.refl H,λj X=>absurd X (Nat.not_lt_zero _)⟩ ?_ ?_⟩
 ·rintro i l Y x H3 D ⟨A,rfl,B,C⟩ ⟨rfl,rfl⟩;have L:i < ps.length:=by rw[pl]at D;lia
  have N:=gG L;generalize ps[i]=k at N;have G:ps.getD i 0=k:=by rw[List.getD_eq_getElem?_getD,N];rfl
  have e0:(0:Int)+(i:Int)=(i:Int):=by lia
  rw[e0];have M:(ps.map V.int)[i]?=some (.int k):=by rw[List.getElem?_map,N];rfl
  have p:atI (ps.map V.int) ((i:Nat):Int)=some (.int k):=zah M;have g:=B.seq v;have J:∀ H',ap H H'→za9 m ps i=true→Q (.int (-2)) H':=λH' s b=>by have:=q H' s;unfold zc8 at this;rw[if_pos (zhQ L b)]at this;exact this
  refine⟨_,rfl,_,rfl,a,_,_,_,rfl,rfl,g,p,_,_,rfl,rfl,_,rfl,aO (λc=>?_) (λc=>?_)⟩
  ·have R:k < 1:=oDq c;exact zcj ⟨_,rfl,J _ B (by unfold za9;rw[G,dTq R];rfl)⟩
  have R:¬k < 1:=λz=>c (dTq z);refine⟨_,rfl,_,rfl,a,_,_,_,rfl,rfl,g,p,_,rfl,_,_,rfl,rfl,_,rfl,aO (λo=>?_) (λo=>?_)⟩
  ·have y:(m:Int) < k:=oDq o;exact zcj ⟨_,rfl,J _ B (by unfold za9;rw[G,dTq y,Bool.or_true,Bool.true_or])⟩
  have y:¬(m:Int) < k:=λz=>o (dTq z);refine⟨_,rfl,_,rfl,a,_,_,_,rfl,rfl,g,p,_,rfl,_,rfl,_,rfl,a,_,rfl,g,λn hn=>?_⟩;rw[zhh (by rw[lM];lia),←List.map_take];have U:=B.trans (au hn (.lst ((ps.take i).map V.int)));refine⟨n,_,rfl,.inl (SqL.of af),rfl,zc6 _,_,rfl,?_⟩;rw[if_neg (by decide:¬false=true),zb7];by_cases e:k∈ps.take i
  ·rw[dTq e];exact zcj ⟨_,rfl,J _ U (by unfold za9;rw[G,dTq e,Bool.or_true])⟩
  ·rw[dFq e];refine zck ⟨_,rfl,U,λj X=>?_⟩;by_cases z:j < i
   ·exact C j z
   ·rw[show j=i by lia];unfold za9;rw[G,dFq R,dFq y,dFq e];rfl
 ·rintro l T ⟨A,rfl,t,C⟩;rw[pl]at C;have hb:zdl m ps=false:=zhP λi D=>C i (by lia);have q1:∀ H',ap H H'→Q (.int (if d=true then 0 else if 6 < ps.length then -3 else if r+2 ^ ps.length≤200 then((2 ^ ps.length:Nat):Int) else -3)) H':=λH' s=>by have:=q H' s;unfold zc8 at this;rw[if_neg (by rw[hb];decide)]at this;exact this
  refine⟨_,rfl,_,rfl,aO (λc=>?_) (λc=>?_)⟩
  ·have:=q1 T t;rw[if_pos c]at this;exact this
  refine⟨_,rfl,a,_,rfl,.inl (t.seq v),_,_,rfl,rfl,_,rfl,aO (λo=>?_) (λo=>?_)⟩
  ·have y:(6:Int) < (((ps.map V.int).length:Nat):Int):=oDq o;have:=q1 T t;rw[if_neg c,if_pos (by lia)]at this;exact⟨_,rfl,this⟩
  have y:¬(6:Int) < (((ps.map V.int).length:Nat):Int):=λz=>o (dTq z);have l6:ps.length≤6:=by lia
  refine⟨_,rfl,a,rfl,⟨_,t.seq v⟩,zba zbD (λi l H'=>∃ I:Option V,l=[some (.int m),some (.ref a),some (.int r),some (.bl d),A,some (.int ((2 ^ i:Nat):Int)),I]∧H'=T∧i≤ps.length) (λi l H' ⟨_,_,e,_⟩=>e ▸ t.seq v) ⟨none,rfl,rfl,Nat.zero_le _⟩ ?_ ?_⟩
  ·rintro i l Y x H3 D ⟨I,rfl,rfl,L⟩ ⟨rfl,hx⟩;have Z:i+1≤ps.length:=by rw[lM]at D;lia
   refine⟨_,rfl,_,_,rfl,rfl,.inl ⟨by decide,by decide⟩,some x,?_,rfl,Z⟩;rw[show(2:Int) * ((2 ^ i:Nat):Int)=((2 ^ (i+1):Nat):Int) by rw[Nat.pow_succ];lia];rfl
  ·rintro l Y ⟨I,rfl,rfl,_⟩;rw[lM];have u:=q1 _ t;rw[if_neg c,if_neg (by lia)]at u;refine⟨_,rfl,_,rfl,_,_,rfl,rfl,_,_,rfl,rfl,_,rfl,aO (λO=>?_) (λO=>?_)⟩
   ·have c5:(r:Int)+((2 ^ ps.length:Nat):Int)≤200:=oDq O;rw[if_pos (by lia)]at u;exact⟨_,rfl,u⟩
   ·have c5:¬(r:Int)+((2 ^ ps.length:Nat):Int)≤200:=λz=>O (dTq z);rw[if_neg (by lia)]at u;exact⟨_,rfl,u⟩
end
def at5 (a b c d e:V)(k:Int):∃ y∈[a,b,c,d,e],atI [a,b,c,d,e] (k % 5)=some y:=by
 have h:k % 5=0∨k % 5=1∨k % 5=2∨k % 5=3∨k % 5=4:=by lia
 rcases h with h | h | h | h | h <;> rw[h]
 ·exact⟨a,by simp,zah (j:=0) rfl⟩
 ·exact⟨b,by simp,zah (j:=1) rfl⟩
 ·exact⟨c,by simp,zah (j:=2) rfl⟩
 ·exact⟨d,by simp,zah (j:=3) rfl⟩
 ·exact⟨e,by simp,zah (j:=4) rfl⟩
structure SzQ (H:Hp)(m:Int)(Q:VK):Prop where
 q:∀(H':Hp) (t l:Addr) (ns:List Int) (r:Int),ap H H'→H l=none→H' t=some (.tup [.ref l,.int r])→H' l=some (.lst (ns.map V.int))→ns.length≤30→(∀ x∈ns,0≤x∧x≤100)→0≤r→r≤200→(0 < r→0 < m)→Q (.ref t) H'
inductive zgD:Sp|m{vs H Q E9} (f k m:Int):vs=[.int f,.int k,.int m]→0≤m→m≤24→SzQ H m Q→zgD vs H Q E9
def zbp:zab ["_law_first","_law_pick","_law_many","_law_size","_law_some","_law_rows"] ["_law_first","_law_pick","_law_many"] (ao zbX):=fsc
section
variable {P:Program} {w:World} {K:W.Frag} {mg:Str→Option Value} {base:Heap} {CL f:Addr} {fd:FuncData}
abbrev NSz:List Str:=["_law_first","_law_pick","_law_many","_law_size","_law_some","_law_rows"]
def sizes2 (TB:TxB K mg CL)(I:mg "min"=none){cdv:Value}{Ar:Around}{outer:List Env}{s:Shared}{H00:Hp}{E:XK}(hr:zax 0 (Ar.deeper (PyProof.Rows.envOfC "_law_sizes" (ao zbX) s.heap.objs.size f cdv))) :
  ∃ z,PSs (aZ CX0 P w K mg base NSz "_law_sizes" (ao zbX) f cdv Ar outer s H00 E).nox ((zap zbX).drop 2) z ∧
   ∀(H0 H:Hp) (Q:VK) (g k m sz:Int),0≤m→m≤24→0≤sz→sz≤24→ap H0 H→SzQ H0 m Q→z { nx:=λ_ H'=>Q .non H',rt:=Q } [some (.int g),some (.int k),some (.int m),some (.int sz),none,none] H:=by
 refine⟨_,(ae (zmr (i:=4) (N':=["_law_k"]) (ix:=[]) zbp.nd rfl (Or.inl rfl) rfl rfl (by decide +kernel) (by decide +kernel) rfl (λ_=>⟨[],zcv (by decide +kernel) (by decide +kernel)⟩) (by decide +kernel) rfl rfl (λj i h=>by simp at h) (zc5 rfl TB.range (aa (aw (zl0 rfl) rfl I PyProof.Rows.Boot.min (aa (pv 2) (aa (pv 3) ac))) ac)) (λ_ _ _ _=>(aU zbj (pv 0) ai)))
  (ae (aF (i:=5) zbp.nd rfl (Or.inl rfl) (aW zaK (zaD (aa ai (aa ai (aa ai (aa (aU zbj ai (aU zaO (aU zbV (pv 0) ai) ai)) (aa (aU zaO (aU zbV (pv 0) ai) ai) ac)))))) (aU zaO (aU zbV (pv 0) ai) ai)))
  (ae (zaj (PW.pt (zcB (aA zbk (aw zaa rfl TB.len bLq (aa (pv 4) ac)) ai) (zcb (aA zbd (pv 2) ai))))
   (ak (aF (i:=5) zbp.nd rfl (Or.inl rfl) ai))
   zac)
  (ae (zaj (aA zbk (pv 2) ai)
   (ak (aF (i:=5) zbp.nd rfl (Or.inl rfl) (aU zaO (pv 5) ai)))
   zac)
  (ak (aJ (zbz (aa (zct (aA zbk (pv 5) ai) (zc0 zeX (pv 4) zdt (zds ai)) (pv 4)) (aa (pv 5) ac))))))))),?_⟩
 try dsimp only [Cx.nox,Cx.wish,aZ]
 rintro H0 H Q g k m sz m0 m24 s0 s24 X q;have b:∀(p:Hp) (D:Addr) (ns:List Int) (r:Int),ap H0 p→H0 D=none→p D=some (.lst (ns.map V.int))→ns.length≤30→(∀ x∈ns,0≤x∧x≤100)→0≤r→r≤200→(0 < r→0 < m) →
   tRet (tTup (ziw (tIf (tTest (tOp (rI0 λi j=>V.bl (decide (j < i))) (zfz 5) (tC (.int 20)))) (tSl (rSlL K) (zfz 4) zjH (tPart (tC (.int 2)))) (zfz 4)) (ziw (zfz 5) zc7))) { nx:=λ_ H'=>Q .non H',rt:=Q } [some (.int g),some (.int k),some (.int m),some (.int sz),some (.ref D),some (.int r)] p:=by
  intro p D ns r B M h1 T u O N Y;refine⟨_,rfl,_,_,rfl,rfl,_,rfl,aO (λc=>?_) (λc=>?_)⟩
  ·refine⟨_,rfl,_,rfl,D,_,rfl,SqL.of h1,λl L=>⟨_,rfl,lS2,λt R=>?_⟩⟩;have v:=B.trans (au L (.lst (zcp (ns.map V.int) none (some 2))));have F:=af (H:=p) (a:=l) (o:=.lst (zcp (ns.map V.int) none (some 2)));generalize upd p l (.lst (zcp (ns.map V.int) none (some 2)))=A at v F R;have G:ap A (upd A t (.tup [.ref l,.int r])):=au R _;have e:zcp (ns.map V.int) none (some 2)=(ns.take 2).map V.int:=by
    unfold zcp;show(((ns.map V.int).drop 0).take (HT.sIx (ns.map V.int).length (ns.map V.int).length (some 2) - 0))=_;rw[List.drop_zero,Nat.sub_zero,List.map_take,lM];show(ns.map V.int).take (min 2 ns.length)=_;rcases Nat.le_total 2 ns.length with z | z
    ·rw[Nat.min_eq_left z]
    ·rw[Nat.min_eq_right z,tO (by rw[lM];exact nRq _),tO (by rw[lM];exact z)]
   rw[e]at F;refine q.q _ t l (ns.take 2) r (v.trans G) (B.free L) af (G _ _ F) (by rw[List.length_take];lia) (λx J=>u x (List.mem_of_mem_take J)) O N Y
  ·refine⟨_,rfl,_,rfl,lS2,λt R=>?_⟩;have G:ap p (upd p t (.tup [.ref D,.int r])):=au R _;exact q.q _ t D ns r (B.trans G) M af (G _ _ h1) T u O N Y
 have mn:0≤(if sz < m then sz else m)∧(if sz < m then sz else m)≤24:=by split <;> lia
 refine⟨_,rfl,_,rfl,_,_,rfl,_,rfl,by lia,by lia,λD M=>zcT zfa (λi us H'=>ap H H'∧∃ ns:List Int,us=ns.map V.int∧ns.length=i∧i≤24∧∀ x∈ns,0≤x∧x≤100) (λ_ _ _ _=>trivial) ⟨au M _,[],rfl,rfl,by lia,λx J=>nomatch J⟩ ?_ ?_⟩
 ·rintro i us p x A hi U C ⟨B,ns,rfl,Z,il,u⟩ ⟨rfl,rfl⟩;have i2:i+1≤24:=by lia
  refine⟨_,rfl,_,_,rfl,rfl,za5 (bsz _ (by lia)) hi U C ⟨B.upd M,ns++[0+(i:Int)+1],?_,by rw[lAq,Z];rfl,i2,λx J=>?_⟩⟩
  ·rw[mAq];rfl
  ·rcases mPq J with z | z
   ·exact u x z
   ·rw[mS z];lia
 ·rintro us p C ⟨B,ns,rfl,Z,il,u⟩;have S:=X.trans B;refine⟨_,rfl,_,_,rfl,rfl,⟨by decide,by decide⟩,_,_,rfl,rfl,(by show(0:Int) < 11;decide),_,_,rfl,rfl,_,rfl,_,_,rfl,rfl,⟨by decide,by decide⟩,_,_,rfl,rfl,(by show(0:Int) < 201;decide),(by show 5≤sizeLine;decide),λl L=>?_⟩;have v:=S.trans (au L (.lst [.int 0,.int 0,.int 0,.int (190+g / 24 % 11),.int (g / 24 % 201)]));have F:=af (H:=p) (a:=l) (o:=.lst [.int 0,.int 0,.int 0,.int (190+g / 24 % 11),.int (g / 24 % 201)]);have d:upd p l (.lst [.int 0,.int 0,.int 0,.int (190+g / 24 % 11),.int (g / 24 % 201)]) D=some (.lst (ns.map V.int)):=au L _ _ _ C;generalize upd p l (.lst [.int 0,.int 0,.int 0,.int (190+g / 24 % 11),.int (g / 24 % 201)])=A at v F d;obtain⟨y,hy,W⟩:=at5 (.int 0) (.int 0) (.int 0) (.int (190+g / 24 % 11)) (.int (g / 24 % 201)) (g / 24);obtain⟨r,rfl,O,N⟩:∃ r:Int,y=.int r∧0≤r∧r≤200:=by
   simp only[List.mem_cons,List.not_mem_nil,or_false]at hy;rcases hy with rfl | rfl | rfl | rfl | rfl
   ·exact⟨_,rfl,by decide,by decide⟩
   ·exact⟨_,rfl,by decide,by decide⟩
   ·exact⟨_,rfl,by decide,by decide⟩
   ·exact⟨_,rfl,by lia,by lia⟩
   ·exact⟨_,rfl,by lia,by lia⟩
  have n:H0 D=none:=X.free M;refine⟨_,rfl,_,_,rfl,rfl,⟨by decide,by decide⟩,_,_,rfl,rfl,(by show(0:Int) < 5;decide),l,_,_,_,rfl,rfl,SqL.of F,W,?_⟩;refine⟨_,rfl,D,_,rfl,.inl (SqL.of d),_,_,rfl,rfl,_,rfl,aO (λc=>?_) (λc=>?_)⟩
  ·exact⟨_,rfl,_,_,rfl,rfl,_,rfl,aO (λc=>⟨_,rfl,_,_,rfl,rfl,(by show(0:Int) < 20;decide),b A D ns _ v n d (by lia) u (by decide) (by decide) (λz=>absurd z (by decide))⟩) (λc=>b A D ns 0 v n d (by lia) u (by decide) (by decide) (λz=>absurd z (by decide)))⟩
  refine⟨_,rfl,rfl,_,rfl,aO (λc2=>?_) (λc2=>?_)⟩
  ·exact⟨_,rfl,_,_,rfl,rfl,_,rfl,aO (λc=>⟨_,rfl,_,_,rfl,rfl,(by show(0:Int) < 20;decide),b A D ns _ v n d (by lia) u (by decide) (by decide) (λz=>absurd z (by decide))⟩) (λc=>b A D ns 0 v n d (by lia) u (by decide) (by decide) (λz=>absurd z (by decide)))⟩
  ·have c3:m≠0:=λz=>c2 (dTq (by rw[z]));exact⟨_,rfl,_,_,rfl,rfl,_,rfl,aO (λc=>⟨_,rfl,_,_,rfl,rfl,(by show(0:Int) < 20;decide),b A D ns _ v n d (by lia) u (by lia) (by lia) (λ_=>by lia)⟩) (λc=>b A D ns r v n d (by lia) u O N (λ_=>by lia))⟩
def zmD (F:Fun K "_law_sizes" "_law_sizes" zbX f fd)(D:TxB K mg CL)(b:mg "min"=none):aI P w K mg base CX0 1 f fd ["_law_first","_law_pick","_law_many"] zgD:=by
 refine F.ok zbp (λvs H Q E h=>?_) (λcdv Ar outer s H vs Q E A h=>?_)
 ·obtain⟨j,k,m,rfl,_⟩:=h;rfl
 obtain⟨j,k,m,rfl,t,d,q⟩:=h;obtain⟨G,C,p⟩:=sizes2 (P:=P) (w:=w) (base:=base) (f:=f) D b (cdv:=cdv) (Ar:=Ar) (outer:=outer) (s:=s) (H00:=H) (E:=E) A;refine⟨_,(ae (aF (i:=3) zbp.nd rfl (Or.inl rfl) (aW zaK (zaD (aa (aU zaO (pv 1) ai) (aa (aU zbj ai (aU zaO (pv 1) ai)) (aa (aU zaO (pv 1) ai) (aa (aU zaO (pv 1) ai) (aa (aU zaO (pv 1) ai) ac)))))) (aU zaO (aU zbV (pv 1) ai) ai)))
  (ae (zaj (aA zbd (aU zaO (aU zbV (pv 1) ai) ai) ai)
   (ak (aF (i:=3) zbp.nd rfl (Or.inl rfl) (aU zbj ai (aU zaO (pv 1) ai))))
   zac) C)),?_⟩
 try dsimp only [Cx.nox,Cx.wish,aZ]
 refine⟨_,rfl,_,_,rfl,rfl,(by show(0:Int) < 4;decide),_,rfl,_,_,rfl,rfl,(by show(0:Int) < 4;decide),_,_,rfl,rfl,_,rfl,_,_,rfl,rfl,(by show(0:Int) < 3;decide),_,rfl,_,_,rfl,rfl,(by show(0:Int) < 4;decide),_,rfl,_,_,rfl,rfl,(by show(0:Int) < 4;decide),(by show 5≤sizeLine;decide),λl B=>?_⟩;have g:ap H (upd H l (.lst [.int (k % 4),.int (21+k % 4),.int (k % 3),.int (k % 4),.int (k % 4)])):=au B _;have v:=af (H:=H) (a:=l) (o:=.lst [.int (k % 4),.int (21+k % 4),.int (k % 3),.int (k % 4),.int (k % 4)]);generalize upd H l (.lst [.int (k % 4),.int (21+k % 4),.int (k % 3),.int (k % 4),.int (k % 4)])=x at g v;obtain⟨y,u,n⟩:=at5 (.int (k % 4)) (.int (21+k % 4)) (.int (k % 3)) (.int (k % 4)) (.int (k % 4)) (k / 25);obtain⟨sz,rfl,z,e⟩:∃ r:Int,y=.int r∧0≤r∧r≤24:=by
  simp only[List.mem_cons,List.not_mem_nil,or_false]at u;rcases u with rfl | rfl | rfl | rfl | rfl
  ·exact⟨_,rfl,by lia,by lia⟩
  ·exact⟨_,rfl,by lia,by lia⟩
  ·exact⟨_,rfl,by lia,by lia⟩
  ·exact⟨_,rfl,by lia,by lia⟩
  ·exact⟨_,rfl,by lia,by lia⟩
 refine⟨_,rfl,_,_,rfl,rfl,⟨by decide,by decide⟩,_,_,rfl,rfl,(by show(0:Int) < 5;decide),l,_,_,_,rfl,rfl,SqL.of v,n,?_⟩;refine⟨_,rfl,_,_,rfl,rfl,⟨by decide,by decide⟩,_,_,rfl,rfl,(by show(0:Int) < 15;decide),rfl,_,rfl,aO (λc=>?_) (λc=>?_)⟩
 ·exact⟨_,rfl,_,_,rfl,rfl,(by show(0:Int) < 3;decide),_,_,rfl,rfl,p H x Q j k m _ t d (by lia) (by lia) g q⟩
 ·exact p H x Q j k m sz t d z e g q
end
end K95
namespace L2
open PySem PySem.Spec PyProof.Rows
section
variable {X:Cx} {CX:CXT} {k:Nat} {f C:Addr} {fd:FuncData} {ps:List Str} {sp:Sp} {dvs:List V} {ds:List Value} {E:XK} {x m:Str} {p pos apos:Pos} {e o:Expr} {es:List Expr} {ta:TE} {t:TA}
def zhS (CX:CXT)(X:Cx)(E:XK)(b:St):Prop:=∀(a:List (Addr × Obj)) (H:Hp) (s:Shared) (e:Value) (s':Shared),Inv X a b H s→CX X.stack H s E e s'→X.xe e s'
def tCallS (a:St)(sp:Sp)(dvs:List V)(E:XK)(t:TA):TE:=λb H Q=>b=a∧zkl sp dvs E t b H Q
def zmy (F:aI X.prog X.w X.K X.mg X.base CX k f fd ps sp)(y:zax k X.A)(G:Gl X x)(z:X.mg x=some (.ref f))(D:W.keepIn X.K (.ref f)=true)(M:az X.K fd ps ds)(L:aQ dvs ds)(v:zhS CX X E σ0)
  (N:PA X (e :: es) t)(i:(x == ("__debug__":Str))=false:=by decide)(J:starEach (e :: es) X.env=(false,eval e X.env) :: starEach es X.env:=by rfl)(g:(backTo pos (starEach es X.env)).any (·.1)=false:=by rfl) :
  PE X (.Call (.Name x p) (e :: es) [] pos) (tCallS σ0 sp dvs E t):=by
 rintro a s n H Q I ⟨rfl,h⟩;refine wpAny_Call_Name_kw (zc4 I G z ?_ i);refine W.callWith_K (h₀:=X.base) I.ok.mod.kin D (thn (N pos a s n H _ I h) λus d ⟨vs,l,c,r,q⟩=>⟨c.kIn,?_⟩) J g;have j:aQ (vs++dvs) (us++ds):=r.append L;have B:(us++ds).length=ps.length:=by rw[←j.length];exact F.len _ _ _ _ q
 refine wpAny_call (codeAny_mono (F.run X.A X.stack d l ⟨us,[]⟩ (us++ds) (vs++dvs) Q E y c.env0 (M d us c.kIn B) j q) λr s' b=>?_);cases r with
 | error e=>exact v a l d e s' c b
 | ok O =>
  cases O with
  | ret u=>exact c.after b
  | next=>exact False.elim b
  | brk=>exact False.elim b
  | cont=>exact False.elim b
def tTryS (tb:XK→St→TS)(b:Addr→TS):TS:=λD a H=>tb (λc _ H'=>∃ C,c=.ref C∧b C D a H') a D a H
def znC (d:X.stack=X.env :: X.outer)(J:X.env.frame=some X.env.locals)
  (Z:∀(a:List (Addr × Obj)) (Q:Value→Shared→Prop) (P:XK) (i:St),zhS (CX1 X.prog X.w) (X.tryc a Q) P i→PSs (X.tryc a Q) body (tb P i))(Y:PH X (h0 :: hs) th) :
  PS X (.Try body (h0 :: hs) [] [] pos) (tTryS tb th):=by
 intro a s g H D I h;refine wpAny_Try_except ?_;have W:zhS (CX1 X.prog X.w) (X.tryc a (λe b=>wpAny (model X.prog X.w) X.A (noteFrame e X.env) (λ_ S=>wpAny (model X.prog X.w) X.A (setFlight e none) (λ_ R=>wpAny (model X.prog X.w) X.A (handleBy e X.env (h0 :: hs)) (SP X a D) X.xe R) X.xe S) X.xe b))
   (λc _ H'=>∃ C,c=.ref C∧th C D g H') g:=by
  intro y O b e s' I1 K;obtain⟨ea,C,H',B,N,rfl,T,l,u,U,fl,trk,F,C',ec,hE⟩:=K;cases ec;have c:Came X a g O b H' B s':=⟨I1.untryc I.ok,T,l,u,U,trk,F⟩;have M:Heap.FlyingW B (X.env :: X.outer) ea (.ref C) N s'.heap:=by have z:=fl;rw[show(X.tryc a _).stack=X.env :: X.outer from d]at z;exact z
  have G:X.A.frames=some (X.env :: X.outer):=by rw[I.ok.frames,d]
  refine wpAny_looks_onW G J M λh2 L v=>?_;refine wpAny_landsW L λh3 j r=>?_;rw[←d]at j;exact Y a g O b H' B s' D ea C N h3 c j (v.trans r) hE
 refine wpAny_mono (Z a _ _ g W [] s g H D (I.tryc _) h) (λf b q=>?_) λe b q=>q;have n:SP X a D f b:=q.untryc I.ok;cases f with
 | next=>exact wpAny_execs_nil n
 | brk=>exact n
 | cont=>exact n
 | ret u=>exact n
end
end L2
namespace K95
open PySem L2
def zlv (xs ys:List Int):zbx (xs.map Dt.int) (ys.map Dt.int)=decide (xs=ys):=by
 by_cases h:xs=ys
 ·subst h;rw[dTq rfl];exact zeG _
 ·rw[dFq h,Bool.eq_false_iff];intro z;have:=zgm _ _ (zfW xs) (zfW ys) z;exact h (List.map_inj_right (f:=Dt.int) (λa b e=>by injection e) |>.mp this)
def peq_dR (a b:List Int):peq (dR a) (dR b)=decide (a=b):=by unfold dR;show zbx (a.map Dt.int) (b.map Dt.int)=_;exact zlv a b
def zlZ {Ts:List (List Int)}(b:Ts.Nodup){t:List Int}(h:t∈Ts):(Ts.map zbe).countP (λe=>peq e (zbe t))=1:=by
 rw[List.countP_map];have e:(λe=>peq e (zbe t)) ∘ zbe=λs=>decide (s=t):=by funext s;exact peq_dR s t
 rw[e]
 induction Ts with
 | nil=>cases h
 | cons s Ts f =>
  obtain⟨a,d⟩:=List.nodup_cons.mp b;rw[List.countP_cons];rcases List.mem_cons.mp h with z | z
  ·rw[if_pos (dTq z.symm),List.countP_eq_zero.mpr];intro y g c;exact a (by rw[←z,←oDq c];exact g)
  ·rw[f d z,if_neg (λc=>a (by rw[oDq c];exact z))]
structure EaF (K:W.Frag)(C CC:Addr)(H:Hp)(p q lt lc:Addr)(As:List At)(ps:List Int)(Ts:List (List Int)):Prop where
 pr:∃ tl al rl T Rs,zat K C H p tl al rl T As Rs
 pl:zdG As
 g:zd5 As.length ps
 hq:SqI K H q ps
 p100:ps.length≤100
 tt:∃ us,H lt=some (.lst us)∧aq K H (Ts.map zbe) us
 cc:∃ cs:List V,H lc=some (.lst cs)∧cs.length=Ts.length∧∀(j:Nat) (v:V),cs[j]?=some v→∃(c:Addr) (hs:List Int),v=.ref c∧zeL CC H As (zaM As.length hs) c∧Ts[j]?=some (sgn hs ps)
 nd:Ts.Nodup
 ab:∀ t∈Ts,t.map zas=ps
 l64:Ts.length≤100
inductive zhz (K:W.Frag)(C CC:Addr):Sp|m{vs H Q E9} (p q lt lc:Addr) (As:List At) (ps:List Int) (Ts:List (List Int)):vs=[.ref p,.ref q,.ref lt,.ref lc]→EaF K C CC H p q lt lc As ps Ts→(∀ H',ap H H'→Q (.bl true) H')→zhz K C CC vs H Q E9
def EaF.same (h:EaF K C CC H p q lt lc As ps Ts)(s:ap H H'):EaF K C CC H' p q lt lc As ps Ts:=by
 obtain⟨a,u,b,T,Rs,h0⟩:=h.pr;obtain⟨us,l,k⟩:=h.tt;obtain⟨t,i,f,d⟩:=h.cc;exact⟨⟨a,u,b,T,Rs,h0.same s⟩,h.pl,h.g,h.hq.same s,h.p100,⟨us,s _ _ l,k.keep s.kt (zar _)⟩,⟨t,s _ _ i,f,λj v e=>by obtain⟨c,hs,r,o,n⟩:=d j v e;exact⟨c,hs,r,o.same s,n⟩⟩,h.nd,h.ab,h.l64⟩
def zbN:zab ["_law_problem","_law_atoms","_law_tuples","_law_choices","_law_k","_law_parts","_law_part"] ["_law_problem","_law_atoms","_law_tuples","_law_choices"] (ao zcL):=fsc
section
variable {P:Program} {w:World} {K:W.Frag} {mg:Str→Option Value} {base:Heap} {aK C CN CT CP CM CL CC f:Addr} {fd:FuncData}
def znS (F:Fun K "_law_each_right" "_law_each_right" zcL f fd)(T:Txt K mg aK C CN CT CP CM)(R:TxB K mg CL)(TC:TxC K mg CC):aI P w K mg base CX0 1 f fd ["_law_problem","_law_atoms","_law_tuples","_law_choices"] (zhz K C CC):=by
 refine F.ok zbN (λvs H Q E h=>?_) (λcdv Ar outer s H vs Q E hr h=>?_)
 ·obtain⟨p,q,L,U,As,ps,Ts,rfl,_⟩:=h;rfl
 obtain⟨p,q,L,U,As,ps,Ts,rfl,d,Q0⟩:=h;have hu:=zb5 hr;have Y:=hu64 hr;refine⟨_,(ae (zaN PassesOwn.never rfl (zc5 rfl R.range (aa (aw zaa rfl R.len bLq (aa (pv 2) ac)) ac)) (zae (i:=4) zbN.nd rfl (Or.inl rfl))
   (ae (aF (i:=5) zbN.nd rfl (Or.inl rfl) (aW zaK (pv 2) (pv 4)))
    (ae (zaj (PW.pt (zcB (aA (ziN Y) (zcS (N':=["_law_part"]) (ix:=[]) rfl rfl (by decide +kernel) (by decide +kernel) rfl (λ_=>⟨[],zcv (by decide +kernel) (by decide +kernel)⟩) (by decide +kernel) rfl rfl (λj i h=>by simp at h) (zdK (pv 5)) (λ_ _ _ _=>(aw zdD rfl R.abs PyProof.Rows.Boot.abs (aa (pv 0) ac)))) (zaL zcw rfl R.list PyProof.Rows.Boot.list (aa (pv 1) ac)) rfl) (zcb (aA zd0 (za2 PySem.F.plainAttrs_list PySem.F.slot_list_count PySem.F.type_list_count (zib Y) (pv 2) (aa (pv 5) ac)) ai))))
     (ak (aJ za8))
     zac)
    (ak (zaN PassesOwn.never rfl (zdK (pv 5)) (zae (i:=6) zbN.nd rfl (Or.inl rfl))
     (ak (zaj (aA zd0 (zdu hu (aB (aW zaK (pv 3) (pv 4)) rfl) (aW zal (aW zaK (aB (pv 0) rfl) (aU zdg (aw zdD rfl R.abs PyProof.Rows.Boot.abs (aa (pv 6) ac)) ai)) ai) (λ_ _=>rfl)) (zbc zbk (pv 6) ai))
       (ak (aJ za8))
       zac)))))))
  (ak (aJ (zbc zbd (aw zaa rfl R.len bLq (aa (pv 3) ac)) (aw zaa rfl R.len bLq (aa (pv 2) ac)))))),?_⟩
 try dsimp only [Cx.nox,Cx.wish,aZ]
 obtain⟨us,y,N⟩:=id d.tt;have ul:us.length=Ts.length:=by rw[←N.length,lM]
 have l64:=d.l64;have p100:=d.p100;refine⟨_,rfl,L,_,rfl,.inl (SqL.of y),_,rfl,by lia,by lia,zba zfa (λi B H'=>∃ v4 v5 J:Option V,B=[some (.ref p),some (.ref q),some (.ref L),some (.ref U),v4,v5,J]∧ap H H') (λ_ _ _ _=>trivial) ⟨none,none,none,rfl,ap.refl H⟩ ?_ ?_⟩
 ·rintro i B H1 x H2 hi ⟨v4,v5,J,rfl,G⟩ ⟨rfl,rfl⟩;have e0:(0:Int)+(i:Int)=(i:Int):=by lia
  rw[e0];have il:i < us.length:=by lia
  have E1:=d.same G;have hx:=gG il;have X:=N.keep G.kt (zar Ts);obtain⟨t,tq,ht,ex,v⟩:=zjP X hx;have at1:atI us ((i:Nat):Int)=some (.ref tq):=by rw[←ex];exact zah hx
  have tm:=mOq ht;have S:=d.ab t tm;have tl:t.length=ps.length:=by rw[←S,lM]
  have Z:=G _ _ y;refine⟨_,rfl,_,rfl,L,_,_,_,rfl,rfl,SqL.of Z,at1,?_⟩;refine⟨_,rfl,tq,rfl,⟨_,v⟩,λD hD=>zcT zdf (λj us H'=>ap H2 H'∧us=((t.map zas).take j).map V.int) (λj us H' ⟨n,_⟩=>n.tup v) ⟨au hD _,rfl⟩ ?_ ?_⟩
  ·rintro j us2 H3 x H4 hj hly A ⟨n,rfl⟩ ⟨rfl,M⟩;obtain⟨a,ha,rfl⟩:=zaW (M _ (n.tup v));have hA:(t.map zas)[j]?=some (zas a):=by rw[List.getElem?_map,ha];rfl
   refine⟨_,rfl,_,rfl,za5 (bsz _ (by rw[lM];lia)) hj hly A ⟨n.upd hD,?_⟩⟩;rw[zan hA,mAq];rfl
  rintro us2 H3 A ⟨n,rfl⟩;rw[lM,tO (by rw[lM];exact nRq _),S]at A;refine⟨_,rfl,q,_,rfl,E1.hq.imp n.seq n.tup,λl hl=>?_⟩;have s3:ap H3 (upd H3 l (.lst (ps.map V.int))):=au hl _;have h3:=af (H:=H3) (a:=l) (o:=.lst (ps.map V.int));generalize upd H3 l (.lst (ps.map V.int))=H4 at s3 h3;have r:=G.trans (n.trans s3);have E4:=d.same r;refine⟨.lst (ps.map Dt.int),.lst (ps.map Dt.int),Has.lst' (SqL.of (s3 _ _ A)) (aq.ints _),Has.lst' (SqL.of h3) (aq.ints _),by simp only[dep,zes];decide,_,rfl,?_⟩;rw[zcs];refine zck ?_;have b:=(n.trans s3).tup v;have I:=r _ _ y;refine⟨_,rfl,.inl ⟨rfl,_,SqL.of I⟩,_,rfl,L,us,Ts.map zbe,_,zbe t,rfl,rfl,SqL.of I,N.keep r.kt (zar Ts),zeY b,Nat.le_trans (zii Ts) (by decide),?_⟩;rw[zlZ d.nd tm];refine⟨rfl,false,rfl,zck ?_⟩;obtain⟨cs,O,csl,hcs⟩:=id E4.cc;have hcx:=gG (l:=cs) (i:=i) (by lia);obtain⟨c,hs,ec,hch,u⟩:=hcs i _ hcx;rw[ht]at u;injection u with u;have atc:atI cs ((i:Nat):Int)=some (.ref c):=by rw[←ec];exact zah hcx
  obtain⟨dxc,pd,td,kvs,c1,c2,c3⟩:=hch.ex;obtain⟨tl4,al4,rl4,T4,Rs4,P4⟩:=E4.pr;obtain⟨⟨dx4,ho4⟩,_,⟨ys,ha4,hA4⟩,_⟩:=id P4;have yl:ys.length=As.length:=by rw[←hA4.length,lM]
  refine⟨_,rfl,tq,rfl,⟨_,b⟩,zba zdf (λj B H'=>∃ J:Option V,B=[some (.ref p),some (.ref q),some (.ref L),some (.ref U),some (.int (i:Int)),some (.ref tq),J]∧H'=H4) (λj B H' ⟨_,_,e⟩=>e ▸ b) ⟨_,rfl,rfl⟩ ?_ ?_⟩
  ·rintro j B H5 x H6 hj ⟨J,rfl,rfl⟩ ⟨rfl,M⟩;obtain⟨x,hxj,rfl⟩:=zaW (M _ b);have xm:=mOq hxj;rw[u]at xm;obtain⟨a,ha,ea⟩:=List.mem_map.mp (show x∈ps.map (λa=>if a∈hs then a else -a) from xm)
   have ar:=d.g.rng a ha;have ax:(if x < 0 then -x else x)=a:=by rw[←ea];split <;> split <;> lia
   obtain⟨W,ej',hj'⟩:∃ W:Nat,a - 1=(W:Int)∧W < ys.length:=⟨(a - 1).toNat,by lia,by lia⟩;have hy:=gG hj';obtain⟨at',h1,h2⟩:=zhM hA4 hy;obtain⟨z,rfl⟩:=d.pl at' (mOq h1);simp only[dA,Has,aq]at h2;obtain⟨pq,zs,exq,hp,w1,r1,rfl,rfl,w2,r2,rfl,rfl,rfl⟩:=h2;have aty:atI ys ((if x < 0 then -x else x) - 1)=some (.ref pq):=by rw[ax,ej',←exq];exact zah hy
   have atz:atI [V.str "plain",V.str z] 1=some (.str z):=zah (j:=1) rfl;have dg:=zbi.k (k:=Sum.inr z) c2;rw[c3 W z (by lia) h1,show(W:Int)+1=a by lia]at dg;have tr:decide (a∈zaM As.length hs)=decide (0 < x):=by
    by_cases c:a∈hs
    ·rw[if_pos c]at ea;rw[dTq (zic c (by lia) (by lia) λz=>by lia),dTq (by lia)]
    ·rw[if_neg c]at ea;have m1:-a∈zaM As.length hs:=zi0 d.g (show -a∈ps.map (λa=>if a∈hs then a else -a) from List.mem_map.mpr ⟨a,ha,if_neg c⟩)
     rw[dFq (λz=>zjl z m1),dFq (by lia)]
   refine⟨_,rfl,_,rfl,U,_,_,_,rfl,rfl,SqL.of O,atc,c,CC,dxc,_,_,rfl,c1,TC.cl,TC.nP,znd _ _,_,rfl,p,C,dx4,_,_,rfl,ho4,T.cl,T.nA,zaX _ _ _,_,rfl,_,rfl,_,_,rfl,rfl,al4,_,_,_,rfl,rfl,SqL.of ha4,aty,pq,_,_,_,rfl,rfl,hp,atz,pd,_,rfl,dg,_,rfl,_,_,rfl,rfl,rfl,_,rfl,aO (λcc=>?_) (λ_=>⟨_,rfl,rfl⟩)⟩;rw[tr]at cc;simp at cc
  ·rintro B H5 ⟨J,rfl,rfl⟩;exact⟨_,_,_,rfl,r⟩
 ·rintro B H1 ⟨v4,v5,J,rfl,G⟩;have E1:=d.same G;obtain⟨cs,O,csl,_⟩:=id E1.cc;refine⟨_,rfl,U,_,rfl,.inl (SqL.of O),_,rfl,L,_,rfl,.inl (SqL.of (G _ _ y)),rfl,?_⟩;have e:decide (V.int ((cs.length:Nat):Int)=V.int ((us.length:Nat):Int))=true:=dTq (by rw[csl,ul]);rw[e];exact Q0 _ G
end
structure RtF (K:W.Frag)(C:Addr)(H:Hp)(p q:Addr)(As:List At)(Rs:List (List Int))(ps:List Int)(never:Bool):Prop where
 pr:∃ tl al rl,zat K C H p tl al rl [] As Rs
 pl:zdG As
 nd:As.Nodup
 bo:zbJ As.length Rs never
 hq:SqI K H q ps
 p100:ps.length≤100
 big:∀ k∈ps,k.natAbs < 10000000000
inductive zgE (K:W.Frag)(C:Addr):Sp|m{vs H Q E9} (p q:Addr) (As:List At) (Rs:List (List Int)) (ps:List Int) (never:Bool):vs=[.ref p,.ref q,.int (zc8 As.length ps Rs.length never)]→RtF K C H p q As Rs ps never→(∀ H',ap H H'→Q (.bl true) H')→zgE K C vs H Q E9
def zbF:zab ["_law_problem","_law_atoms","_law_due_here","_law_tuples","_law_choices","_law_paper","_law_e","_law_found"] ["_law_problem","_law_atoms","_law_due_here"] (ao zex):=fsc
section
variable {P:Program} {w:World} {K:W.Frag} {mg:Str→Option Value} {base:Heap} {aK C CN CT CE CC f fK fV fE:Addr} {fd dK' dV dE:FuncData} {cl:Nat→Addr}
def zmF (F:Fun K "_law_right" "_law_right" zex f fd)(T:Txt K mg aK C CN CT (cl 0) (cl 1))(TB:TxB K mg (cl 2))(X:XF K mg cl CE)(FK:FnS P w K mg base 1 fK dK' ["_law_e"] (zhy cl))(mK:mg "_law_kind"=some (.ref fK))(kK:W.keepIn K (.ref fK)=true)(bK:az K dK' ["_law_e"] [])
  (G:FB P w K mg base (CX1 P w) 10 "every" fV dV ["problem","atoms","most"] (zgI K C (cl 0) (cl 2) (cl 1) CC))(I:FB P w K mg base CX0 1 "_law_each_right" fE dE ["_law_problem","_law_atoms","_law_tuples","_law_choices"] (zhz K C CC)):aI P w K mg base CX0 11 f fd ["_law_problem","_law_atoms","_law_due_here"] (zgE K C):=by
 refine F.ok zbF (λvs H Q E h=>?_) (λcdv Ar outer s H vs Q E hr h=>?_)
 ·obtain⟨p,q,g,Rs,ps,a,rfl,_⟩:=h;rfl
 obtain⟨p,q,g,Rs,ps,a,rfl,L,D⟩:=h;have B:=hr.mono (j:=1) (by decide);refine⟨_,ae (znC rfl rfl (λpins E1 Eb σ0 hp=>ak (zk2 (zmy G.ok hr rfl G.m G.kp G.b .nil hp (aa (pv 0) (aa (pv 1) (aa ai ac)))) (znF 3 K rfl rfl (zaB (zae (i:=3) zbF.nd rfl (Or.inl rfl) (hf:=Or.inr rfl)) (zaB (zae (i:=4) zbF.nd rfl (Or.inl rfl) (hf:=Or.inr rfl)) (zaB (zae (i:=5) zbF.nd rfl (Or.inl rfl) (hf:=Or.inr rfl)) zcf)))) rfl))
  (ph_as (i:=6) rfl X.ce zbF.nd rfl rfl rfl (λea=>ae (aF (i:=7) zbF.nd rfl (Or.inl rfl) (zmx (E:=E0) FK B rfl mK kK bK (aa (pv 6) ac)))
   (ak (aJ (pe_or (zbc zbd (pv 7) (pv 2)) (zeQ (zej (zbc zbd (pv 7) (zaI zay ai)) (zej (zbc zd0 (pv 2) (zaI zay ai)) (zeQ (zbc zbk (aw (r:=zkr K) zaa rfl TB.len bLq (aa (zhJ K rfl (pv 0) rfl) ac)) ai))))))))) zmv))
  (ak (aJ (zej (zbc zbd (aw zaa rfl TB.len bLq (aa (pv 3) ac)) (pv 2)) (zeQ (zai I.ok B rfl I.m I.kp I.b .nil zak (aa (pv 0) (aa (pv 1) (aa (pv 3) (aa (pv 4) ac))))))))),?_⟩
 obtain⟨tl,al,rl,S⟩:=L.pr;have pw:(0:Int)≤((2 ^ ps.length:Nat):Int):=Int.natCast_nonneg _;have d4:zc8 g.length ps Rs.length a≠-4:=by
  unfold zc8;split
  ·decide
  split
  ·decide
  split
  ·decide
  split
  ·generalize ((2 ^ ps.length:Nat):Int)=z at pw;lia
  ·decide
 refine⟨rfl,_,rfl,_,rfl,p,tl,al,rl,q,g,Rs,ps,a,rfl,S,L.pl,L.nd,L.bo,L.hq,L.p100,L.big,λk H' s'=>⟨cl 0,rfl,?_⟩,λk h6 H' s'=>⟨cl 2,rfl,?_⟩,λk hv hm H' s'=>⟨cl 1,rfl,?_⟩,λk H' t A lp Ts ht u R N y x=>?_⟩
 ·have n:zc8 g.length ps Rs.length a=-2:=by unfold zc8;rw[if_pos k]
  refine⟨true,X.ex 0 (by decide),zcj λea d=>?_⟩;refine⟨_,rfl,ea,0,rfl,by decide,af,λH2 l=>?_⟩;have o:=s'.trans ((au d _).trans l);exact⟨_,rfl,_,rfl,rfl,_,rfl,aO (λ_=>D _ o) (λc=>absurd (dTq (by rw[n];rfl)) c)⟩
 ·have n:zc8 g.length ps Rs.length a≠-2:=by
   unfold zc8;rw[if_neg (by rw[k];decide)];split
   ·decide
   split
   ·decide
   split
   ·generalize ((2 ^ ps.length:Nat):Int)=z at pw;lia
   ·decide
  refine⟨true,X.ex 2 (by decide),zcj λea d=>?_⟩;refine⟨_,rfl,ea,2,rfl,by decide,af,λH2 l=>?_⟩;have o:=s'.trans ((au d _).trans l);obtain⟨⟨Z,M⟩,_,⟨ys,U,Y⟩,_⟩:=S.same o;have yl:ys.length=g.length:=by rw[←Y.length,lM]
  refine⟨_,rfl,_,rfl,rfl,_,rfl,aO (λc=>absurd (oDq c) (λz=>d4 (by injection z with z;rw[←z];rfl))) (λ_=>?_)⟩;refine⟨_,rfl,_,rfl,rfl,_,rfl,aO (λ_=>?_) (λc=>absurd (by decide) c)⟩;refine⟨_,rfl,_,rfl,rfl,_,rfl,aO (λ_=>?_) (λc=>absurd (by rw[dFq (λz=>n (by injection z))];rfl) c)⟩;refine⟨_,rfl,p,C,Z,_,_,rfl,M,T.cl,T.nA,zaX _ _ _,al,_,rfl,.inl (SqL.of U),_,_,rfl,rfl,?_⟩;have e:decide ((6:Int) < ((ys.length:Nat):Int))=true:=dTq (by lia);rw[e];exact D _ o
 ·have n:zc8 g.length ps Rs.length a=-3:=by
   unfold zc8;rw[if_neg (by rw[k];decide),if_neg (by rw[hv];decide)];split
   ·rfl
   ·rw[if_neg (by rcases hm with z | z <;> lia)]
  refine⟨true,X.ex 1 (by decide),zcj λea d=>?_⟩;refine⟨_,rfl,ea,1,rfl,by decide,af,λH2 l=>?_⟩;have o:=s'.trans ((au d _).trans l);exact⟨_,rfl,_,rfl,rfl,_,rfl,aO (λ_=>D _ o) (λc=>absurd (dTq (by rw[n];rfl)) c)⟩
 ·have n:zc8 g.length ps Rs.length a=(Ts.length:Int):=by
   unfold zc8;rw[if_neg (by rw[k];decide)];cases hnv:a with
   | true=>rw[if_pos rfl,y hnv];rfl
   | false =>
    obtain⟨e1,e2,e3⟩:=x hnv;rw[if_neg (by decide),if_neg (by lia),if_pos e3,e1]
  obtain⟨us,O,J⟩:=id u.tt;have ul:us.length=Ts.length:=by rw[←J.length,lM]
  have v:Ts.length≤100:=by
   cases hnv:a with
   | true=>rw[y hnv];decide
   | false =>
    obtain⟨e1,e2,e3⟩:=x hnv;have:2 ^ ps.length≤2 ^ 6:=Nat.pow_le_pow_right (by decide) e2;lia
  refine⟨t,_,rfl,ht,rfl,_,_,rfl,_,_,rfl,_,_,rfl,rfl,?_⟩;refine⟨_,rfl,A.lt,_,rfl,.inl (SqL.of O),_,rfl,rfl,_,rfl,aO (λ_=>?_) (λc=>absurd (dTq (by rw[n,ul])) c)⟩;refine⟨_,rfl,_,rfl,_,rfl,_,rfl,p,q,A.lt,A.lc,g,ps,Ts,rfl,⟨⟨tl,al,rl,[],Rs,S.same u.same⟩,L.pl,zj7 k,L.hq.same u.same,L.p100,u.tt,u.cc,N,R,v⟩,λH2 l=>D _ (u.same.trans l)⟩
end
def zg7:zcP (CX1 P w) X E0:=λ_ _ _ _ _ _ _ h=>by obtain⟨_,_,_,_,_,_,_,_,_,_,_,_,_,a⟩:=h;exact a.elim
def zf8 (a c b:Addr):(zdQ a c b).lookup ("add_plain":Str)=none:=zgs _ _ _ (by decide +kernel) (by decide +kernel) (by decide +kernel)
def zfs (a c b:Addr):(zdQ a c b).lookup ("add_row":Str)=none:=zgs _ _ _ (by decide +kernel) (by decide +kernel) (by decide +kernel)
def nm (k:Nat):Str:=⟨#[97+k,97+k]⟩
def nm_ok:∀ k < 26,zd2 (nm k)=true∧(nm k).length≤100∧∀ c∈(nm k).cps.toList,c < 1000:=by decide +kernel
def nm_inj:∀ i < 26,∀ j < 26,nm i=nm j→i=j:=by decide +kernel
def nm_at:∀ k < 26,atI abc.cps.toList ((k:Nat):Int)=some (97+k):=by decide +kernel
def nm_zz:nm 25=("zz":Str):=by decide +kernel
def nms (n:Nat):List At:=(List.range n).map λk=>.plain (nm k)
def zc3 (n:Nat):(nms n).length=n:=by simp [nms]
def zjd (n:Nat):nms (n+1)=nms n++[.plain (nm n)]:=by simp [nms,List.range_succ]
def zh9 (n:Nat):zdG (nms n):=λa h=>by obtain⟨k,_,rfl⟩:=List.mem_map.mp h;exact⟨_,rfl⟩
def zhf (h:n≤j)(b:j < 26):At.plain (nm j)∉nms n:=λm=>by obtain⟨k,a,e⟩:=List.mem_map.mp m;have a:=List.mem_range.mp a;have c:=nm_inj k (by lia) j b (by injection e);lia
def ziP:∀ n,n≤26→(nms n).Nodup
 | 0,_=>List.nodup_nil
 | n+1,h=>by
  rw[zjd];exact List.nodup_append.mpr ⟨ziP n (by lia),List.nodup_cons.mpr ⟨by simp,List.nodup_nil⟩,λa d b c e=>by rw[mS c]at e;exact zhf (nRq n) (by lia) (e ▸ d)⟩
section
variable {P:Program} {w:World} {K:W.Frag} {mg:Str→Option Value} {base:Heap} {aK C CN CT CP CM f fR fD fQ fW:Addr} {fd dR' dD dQ dW:FuncData}
def zjn (S:zat K C H p tl al rl [] As Rs)(h:k < 26)(d:At.plain (nm k)∉As)(g:As.length < 40)(q:∀ H',zat K C H' p tl al rl [] (As++[.plain (nm k)]) Rs→Fr2 H H' al rl→Q (.int ((As.length+1:Nat):Int)) H'):zgg K C CN CT CP CM [.ref p,.str (nm k)] H Q E0:=by
 obtain⟨c,b,a⟩:=nm_ok k h;have e:zed As (nm k)=(.num (As.length+1),As++[.plain (nm k)]):=by unfold zed;rw[if_neg (by rw[c];decide),if_neg d,if_neg (by lia)]
 refine⟨p,tl,al,rl,[],As,Rs,nm k,rfl,S,⟨b,a⟩,by lia,?_⟩;rw[e];exact q
def ziS (S:zat K C H p tl al rl [] As Rs)(c:SqI K H q ps)(d:ps.length≤20)(a:ps.any (za4 As.length)=false)(b:∀ i∈ps,-1000≤i∧i≤1000)(g:Rs.length < 200)(k:∀ H',zat K C H' p tl al rl [] As (Rs++[zaF [] ps])→Fr2 H H' al rl→Q (.int ((Rs.length:Nat):Int)) H'):zg5 K C CN CT CP CM [.ref p,.ref q] H Q E0:=by
 have e:zcl As.length Rs ps=(.num Rs.length,Rs++[zaF [] ps]):=by unfold zcl;rw[if_neg (by rw[a];decide),if_neg (by lia),if_neg (by lia)]
 refine⟨p,tl,al,rl,q,[],As,Rs,ps,rfl,S,c,by lia,b,by lia,?_⟩;rw[e];exact k
structure LG (P:Program)(w:World)(K:W.Frag)(mg:Str→Option Value)(base:Heap)(C CN CT CP CM fQ fW fR fD:Addr)(dQ dW dR' dD:FuncData):Prop where
 Q:aI P w K mg base (CX1 P w) 4 fQ dQ ["self","name"] (zgg K C CN CT CP CM)
 bQ:az K dQ ["self","name"] []
 mQ:zbh K C "add_plain" fQ
 W:aI P w K mg base (CX1 P w) 2 fW dW ["self","parts"] (zg5 K C CN CT CP CM)
 bW:az K dW ["self","parts"] []
 mW:zbh K C "add_row" fW
 R:FB P w K mg base CX0 11 "_law_right" fR dR' ["_law_problem","_law_atoms","_law_due_here"] (zgE K C)
 D:FB P w K mg base CX0 1 "_law_due" fD dD ["_law_many","_law_some","_law_rows","_law_never"] (ziF K)
structure LwS (K:W.Frag)(C:Addr)(H:Hp)(p tl al rl sl hl kl:Addr)(As:List At)(Rs:List (List Int))(ps:List Int)(never:Bool)(ks:List V):Prop where
 pr:zat K C H p tl al rl [] As Rs
 pl:zdG As
 nd:As.Nodup
 bo:zbJ As.length Rs never
 hs:H sl=some (.lst (ps.map V.int))
 hh:H hl=some (.lst (ps.map V.int))∨H hl=some (.tup (ps.map V.int))
 hk:H kl=some (.lst ks)
 n1:sl≠al
 n2:sl≠rl
 n3:hl≠al
 n4:hl≠rl
 n5:kl≠al
 n6:kl≠rl
 p100:ps.length≤100
 big:∀ k∈ps,k.natAbs < 10000000000
def LwS.sq (L:LwS K C H p tl al rl sl hl kl As Rs ps never ks):SqI K H hl ps:=L.hh.elim (λh=>.inl (SqL.of h)) λh=>.inr (SqT.of h)
def LwS.rt (L:LwS K C H p tl al rl sl hl kl As Rs ps never ks):RtF K C H p hl As Rs ps never :=
 ⟨⟨tl,al,rl,L.pr⟩,L.pl,L.nd,L.bo,L.sq,L.p100,L.big⟩
def LwS.same (L:LwS K C H p tl al rl sl hl kl As Rs ps never ks)(s:ap H H'):LwS K C H' p tl al rl sl hl kl As Rs ps never ks :=
 { L with pr:=L.pr.same s,hs:=s _ _ L.hs,hh:=L.hh.imp (s _ _) (s _ _),hk:=s _ _ L.hk }
def LwS.fr (L:LwS K C H p tl al rl sl hl kl As Rs ps never ks)(f:Fr2 H H' al rl)(pr:zat K C H' p tl al rl [] As' Rs')(pl:zdG As')(nd:As'.Nodup)(bo:zbJ As'.length Rs' never'):LwS K C H' p tl al rl sl hl kl As' Rs' ps never' ks :=
 { L with pr:=pr,pl:=pl,nd:=nd,bo:=bo,hs:=f _ _ L.hs L.n1 L.n2,hh:=L.hh.imp (λh=>f _ _ h L.n3 L.n4) (λh=>f _ _ h L.n3 L.n4),hk:=f _ _ L.hk L.n5 L.n6 }
def zbJ.up (B:zbJ n Rs never)(h:n≤m)(a:m≤40):zbJ m Rs never :=
 ⟨⟨λr b=>⟨(B.ro.row r b).1,λp c=>⟨((B.ro.row r b).2 p c).1,Nat.le_trans ((B.ro.row r b).2 p c).2 h⟩⟩,a,B.ro.bl⟩,B.r200,B.nv,B.tt⟩
def zbJ.nil (B:zbJ n Rs never)(h:Rs.length < 200):zbJ n (Rs++[[]]) true :=
 ⟨⟨λr a=>(mPq a).elim (B.ro.row r) (λz=>by rw[mS z];exact⟨List.nodup_nil,λp b=>nomatch b⟩),B.ro.n40,by rw[lAq];show _+1≤_;lia⟩,by rw[lAq];show _+1≤_;lia,λ_=>List.mem_append_right _ (List.mem_singleton.mpr rfl),λh=>nomatch h⟩
def zbH:zab ["_law_script","_law_first","_law_many","_law_problem","_law_k","_law_pick","_law_some","_law_rows","_law_never","_law_wrong","_law_handed","_law_kept","_law_due_here"] ["_law_script"] (ao zb4):=fsc
abbrev NLw:List Str:=["_law_script","_law_first","_law_many","_law_problem","_law_k","_law_pick","_law_some","_law_rows","_law_never","_law_wrong","_law_handed","_law_kept","_law_due_here"]
def law16 (T:Txt K mg aK C CN CT CP CM)(G:LG P w K mg base C CN CT CP CM fQ fW fR fD dQ dW dR' dD){cdv:Value}{Ar:Around}{outer:List Env}{s:Shared}{H00:Hp}{E:XK}(q:zax 11 (Ar.deeper (PyProof.Rows.envOfC "law" (ao zb4) s.heap.objs.size f cdv))) :
  ∃ z,PSs (aZ CX0 P w K mg base NLw "law" (ao zb4) f cdv Ar outer s H00 E).nox ((zap zb4).drop 16) z ∧
   ∀(H:Hp) (Q:VK) (Z Y X U S O h:Option V) (p tl al rl k r g:Addr) (n:Nat) (Rs:List (List Int)) (ps:List Int) (d:Bool) (ks:List V),LwS K C H p tl al rl k r g (nms n) Rs ps d ks→ks.length=Rs.length→n≤24→(∀ H',Q (.bl true) H') →
    z { nx:=λ_ H'=>Q .non H',rt:=Q } [Z,Y,some (.int (n:Nat)),some (.ref p),X,U,some (.ref k),S,some (.bl d),O,some (.ref r),some (.ref g),h] H:=by
 have F:=q.mono (j:=4) (by decide);have I:=q.mono (j:=2) (by decide);have o:=q.mono (j:=1) (by decide);refine⟨_,(ae (zag (zaZ (pv 3) T.cl G.mQ G.Q F G.bQ .nil zg7 (aa zaU ac)))
  (ae (zaj (zei (zcr (zai G.R.ok q rfl G.R.m G.R.kp G.R.b .nil zak (aa (pv 3) (aa (pv 10) (aa (zai G.D.ok o rfl G.D.m G.D.kp G.D.b .nil zak (aa (aU zbj (pv 2) ai) (aa (pv 6) (aa (aw zaa rfl T.len bLq (aa (pv 11) ac)) (aa (pv 8) ac))))) ac))))))
   (ak (aJ za8))
   zac)
  (ae (zaj (aA zd1 (aw zaa rfl T.len bLq (aa (pv 11) ac)) ai)
   (ae (zag (zaZ (pv 3) T.cl G.mW G.W I G.bW .nil zg7 (aa (zbz ac) ac)))
    (ak (aJ (zai G.R.ok q rfl G.R.m G.R.kp G.R.b .nil zak (aa (pv 3) (aa (pv 10) (aa (zai G.D.ok o rfl G.D.m G.D.kp G.D.b .nil zak (aa (aU zbj (pv 2) ai) (aa (pv 6) (aa (aU zbj (aw zaa rfl T.len bLq (aa (pv 11) ac)) ai) (aa za8 ac))))) ac)))))))
   zac)
  (ak (aJ za8))))),?_⟩
 try dsimp only [Cx.nox,Cx.wish,aZ]
 try dsimp only [Cx.nox,Cx.wish,aZ]
 intro H Q Z Y X U S O h p tl al rl k r g n Rs ps d ks L kL n24 Q0;obtain⟨⟨M,v⟩,_⟩:=id L.pr;refine⟨_,rfl,p,M,_,rfl,v,zf8 _ _ _,?_⟩
 try dsimp only [zc7]
 rw[←nm_zz];refine zjn L.pr (by decide) (zhf (by lia) (by decide)) (by rw[zc3];lia) λH1 l f1=>?_;have B:(nms n++[At.plain (nm 25)]).length=n+1:=by rw[lAq,zc3];rfl
 have y:=L.fr f1 l (λa J=>(mPq J).elim (zh9 n a) λz=>⟨_,mS z⟩) (List.nodup_append.mpr ⟨ziP n (by lia),List.nodup_cons.mpr ⟨by simp,List.nodup_nil⟩,λa J b hb e=>by rw[mS hb]at e;exact zhf (n:=n) (j:=25) (by lia) (by lia) (e ▸ J)⟩) (L.bo.up (by rw[lAq];lia) (by rw[B];lia))
 clear L l f1 v;refine⟨_,rfl,_,rfl,_,rfl,_,_,rfl,rfl,_,rfl,_,rfl,g,_,rfl,.inl (SqL.of y.hk),_,rfl,k,ps,n+1,ks.length,d,rfl,SqL.of y.hs,y.p100,λH2 s2=>?_⟩;have u:=y.same s2;refine⟨p,r,_,Rs,ps,d,by rw[B,kL];rfl,u.rt,λH3 s3=>⟨_,rfl,aO (λc=>absurd c (by decide)) (λ_=>?_)⟩⟩;have N:=u.same s3;refine⟨_,rfl,g,_,rfl,.inl (SqL.of N.hk),_,_,rfl,rfl,_,rfl,aO (λc=>?_) (λ_=>Q0 _)⟩;have c':((ks.length:Nat):Int) < 200:=oDq c;have r2:Rs.length < 200:=by lia
 obtain⟨⟨M,v⟩,_⟩:=id N.pr;refine⟨_,rfl,p,M,_,rfl,v,zfs _ _ _,lS0,λe he=>?_⟩
 try dsimp only [zc7]
 have t:=N.same (au he (.tup []));refine ziS (ps:=[]) t.pr (.inr (SqT.of af)) (by decide) rfl (λi hi=>nomatch hi) r2 λH5 A f5=>?_;have x:=t.fr f5 A t.pl t.nd (t.bo.nil r2);have l5:(Rs++[zaF [] []]).length=ks.length+1:=by rw[lAq,kL];rfl
 refine⟨_,rfl,_,rfl,_,rfl,_,_,rfl,rfl,_,rfl,_,rfl,g,_,rfl,.inl (SqL.of x.hk),_,_,rfl,rfl,k,ps,n+1,ks.length+1,true,rfl,SqL.of x.hs,x.p100,λH6 s6=>?_⟩;exact⟨p,r,_,_,ps,true,by rw[B,l5];rfl,(x.same s6).rt,λH7 _=>Q0 _⟩
end
def at2 (a b:V)(k:Int):∃ y,(y=a∨y=b)∧atI [a,b] (k % 2)=some y:=by
 have h:k % 2=0∨k % 2=1:=by lia
 rcases h with h | h <;> rw[h]
 ·exact⟨a,.inl rfl,zah (j:=0) rfl⟩
 ·exact⟨b,.inr rfl,zah (j:=1) rfl⟩
def zjr:∀ Rs:List (List Int),zaQ (Rs.map dR)≤10
 | []=>by simp [zaQ]
 | r :: Rs=>by have h:=zjr Rs;simp only[List.map_cons,zaQ,dR,dep,zes];lia
structure LwP (K:W.Frag)(C:Addr)(H:Hp)(p tl al rl sl:Addr)(As:List At)(Rs:List (List Int))(ps:List Int)(never:Bool):Prop where
 pr:zat K C H p tl al rl [] As Rs
 bo:zbJ As.length Rs never
 hs:H sl=some (.lst (ps.map V.int))
 n1:sl≠al
 n2:sl≠rl
 p100:ps.length≤100
 big:∀ k∈ps,k.natAbs < 10000000000
section
variable {P:Program} {w:World} {K:W.Frag} {mg:Str→Option Value} {base:Heap} {aK C CN CT CP CM f fR fD fQ fW:Addr} {fd dR' dD dQ dW:FuncData}
def law10 (T:Txt K mg aK C CN CT CP CM)(e:mg "list"=none)(G:LG P w K mg base C CN CT CP CM fQ fW fR fD dQ dW dR' dD){cdv:Value}{Ar:Around}{outer:List Env}{s:Shared}{H00:Hp}{E:XK}(hr:zax 11 (Ar.deeper (PyProof.Rows.envOfC "law" (ao zb4) s.heap.objs.size f cdv))) :
  ∃ z,PSs (aZ CX0 P w K mg base NLw "law" (ao zb4) f cdv Ar outer s H00 E).nox ((zap zb4).drop 10) z ∧
   ∀(H:Hp) (Q:VK) (v0 v1 v4 v7 v9:Option V) (g:Int) (p tl al Z r:Addr) (n:Nat) (Rs:List (List Int)) (ps:List Int) (d:Bool),LwP K C H p tl al Z r (nms n) Rs ps d→n≤24→(∀ H',Q (.bl true) H') →
    z { nx:=λ_ H'=>Q .non H',rt:=Q } [v0,v1,some (.int (n:Nat)),some (.ref p),v4,some (.int g),some (.ref r),v7,some (.bl d),v9,none,none,none] H:=by
 have hr1:=hr.mono (j:=1) (by decide);have hu:=hu64 hr;obtain⟨z2,h2,q2⟩:=law16 (P:=P) (w:=w) (base:=base) (f:=f) T G (cdv:=cdv) (Ar:=Ar) (outer:=outer) (s:=s) (H00:=H00) (E:=E) hr;refine⟨_,(ae (aF (i:=10) zbH.nd rfl (Or.inl rfl) (aW zaK (zaD (aa (zaL zcw rfl e PyProof.Rows.Boot.list (aa (pv 6) ac)) (aa (zaL zce rfl T.tuple PyProof.Rows.Boot.tuple (aa (pv 6) ac)) ac))) (aU zaO (pv 5) ai)))
  (ae (aF (i:=11) zbH.nd rfl (Or.inl rfl) (zaL zcw rfl e PyProof.Rows.Boot.list (aa (aB (pv 3) rfl) ac)))
  (ae (aF (i:=12) zbH.nd rfl (Or.inl rfl) (zai G.D.ok hr1 rfl G.D.m G.D.kp G.D.b .nil zak (aa (pv 2) (aa (pv 6) (aa (aw zaa rfl T.len bLq (aa (pv 11) ac)) (aa (pv 8) ac))))))
  (ae (zaj (PW.pt (zcB (zei (zcr (zai G.R.ok hr rfl G.R.m G.R.kp G.R.b .nil zak (aa (pv 3) (aa (pv 10) (aa (pv 12) ac)))))) (zcb (aA (ziN hu) (zaL zcw rfl e PyProof.Rows.Boot.list (aa (pv 10) ac)) (pv 6) rfl))))
   (ak (aJ za8))
   zac)
  (ae (zaj (PW.pt (zcB (aA (ziN hu) (aB (pv 3) rfl) (pv 11) rfl) (zcb (aA zd0 (aw zaa rfl T.len bLq (aa (aB (pv 3) rfl) ac)) (pv 2)))))
   (ak (aJ za8))
   zac)
  (ae (zaj (aA zbk (aw zaa rfl T.len bLq (aa (pv 6) ac)) ai)
   (ak (aJ za8))
   zac) h2)))))),?_⟩
 try dsimp only [Cx.nox,Cx.wish,aZ]
 try dsimp only [Cx.nox,Cx.wish,aZ]
 intro H Q v0 v1 v4 v7 v9 g p tl al Z r n Rs ps d L n24 Q0;obtain⟨xa,M,_⟩:=L.pr.am;obtain⟨h,q,N⟩:=L.pr.rm;refine⟨_,rfl,r,_,rfl,.inl (SqL.of L.hs),λu f1=>?_⟩;have Y:ap H (upd H u (.lst (ps.map V.int))):=au f1 _;have e1:=af (H:=H) (a:=u) (o:=.lst (ps.map V.int));generalize upd H u (.lst (ps.map V.int))=H1 at Y e1;refine⟨_,rfl,r,_,rfl,.inl ⟨SqL.of (Y _ _ L.hs),λt f2=>?_⟩⟩;have s2:ap H1 (upd H1 t (.tup (ps.map V.int))):=au f2 _;have e2:=af (H:=H1) (a:=t) (o:=.tup (ps.map V.int));generalize upd H1 t (.tup (ps.map V.int))=H2 at s2 e2;have f2':=Y.free f2;refine⟨lS2,λl3 f3=>?_⟩;have X:ap H2 (upd H2 l3 (.lst [.ref u,.ref t])):=au f3 _;have e3:=af (H:=H2) (a:=l3) (o:=.lst [.ref u,.ref t]);generalize upd H2 l3 (.lst [.ref u,.ref t])=x at X e3;obtain⟨y,hy,at1⟩:=at2 (.ref u) (.ref t) g;have l:=Y.trans (s2.trans X);obtain⟨v,rfl,fh,hh⟩:∃ v,y=.ref v∧H v=none∧(x v=some (.lst (ps.map V.int))∨x v=some (.tup (ps.map V.int))):=by
  rcases hy with rfl | rfl
  ·exact⟨u,rfl,f1,.inl (X _ _ (s2 _ _ e1))⟩
  ·exact⟨t,rfl,f2',.inr (X _ _ e2)⟩
 refine⟨_,rfl,_,_,rfl,rfl,(by show(0:Int) < 2;decide),l3,_,_,_,rfl,rfl,SqL.of e3,at1,?_⟩;obtain⟨⟨dx,ho⟩,_⟩:=id (L.pr.same l);refine⟨_,rfl,p,C,dx,_,_,rfl,ho,T.cl,T.nR,zbK _ _ _,Z,h,rfl,.inl (SqL.of (l _ _ q)),λB fk=>?_⟩;have W:ap x (upd x B (.lst h)):=au fk _;have e4:=af (H:=x) (a:=B) (o:=.lst h);generalize upd x B (.lst h)=H4 at W e4;have k:=l.trans W;have O:=l.free fk;have L4:LwS K C H4 p tl al Z r v B (nms n) Rs ps d h:=⟨L.pr.same k,zh9 n,ziP n (by lia),L.bo,k _ _ L.hs,hh.imp (W _ _) (W _ _),e4,L.n1,L.n2,(zad M fh).symm,(zad q fh).symm,(zad M O).symm,(zad q O).symm,L.p100,L.big⟩;have kL:h.length=Rs.length:=by rw[←N.length,lM]
 have hr4:aq K H4 (Rs.map dR) h:=N.keep k.kt (zaw zbI _);have F:=k _ _ q;refine⟨_,rfl,_,rfl,_,rfl,B,_,rfl,.inl (SqL.of L4.hk),_,rfl,r,ps,n,h.length,d,rfl,SqL.of L4.hs,L4.p100,λH5 s5=>?_⟩;have L5:=L4.same s5;refine⟨_,rfl,_,rfl,_,rfl,p,v,_,Rs,ps,d,by rw[zc3,kL];rfl,L5.rt,λH6 s6=>⟨_,rfl,aO (λc=>absurd c (by decide)) (λ_=>?_)⟩⟩;have L6:=L5.same s6;refine⟨_,rfl,v,_,rfl,L6.sq,λl7 f7=>?_⟩;have s7:ap H6 (upd H6 l7 (.lst (ps.map V.int))):=au f7 _;have e7:=af (H:=H6) (a:=l7) (o:=.lst (ps.map V.int));generalize upd H6 l7 (.lst (ps.map V.int))=H7 at s7 e7;have U:=L6.same s7;have A:=s5.trans (s6.trans s7);have I:=hr4.keep A.kt (zaw zbI _);refine⟨_,rfl,.lst (ps.map Dt.int),.lst (ps.map Dt.int),Has.lst' (SqL.of e7) (aq.ints _),Has.lst' (SqL.of U.hs) (aq.ints _),by simp only[dep,zes];decide,_,rfl,?_⟩;rw[zcs];refine zck ?_;obtain⟨⟨S,J⟩,_,⟨ya,ha7,hA7⟩,_⟩:=id U.pr;have yl:ya.length=n:=by rw[←hA7.length,lM,zc3]
 refine⟨_,rfl,p,C,S,_,_,rfl,J,T.cl,T.nR,zbK _ _ _,_,rfl,.lst (Rs.map dR),.lst (Rs.map dR),Has.lst' (SqL.of (A _ _ F)) I,Has.lst' (SqL.of U.hk) I,?_,_,rfl,?_⟩
 ·have:=zjr Rs;simp only[dep];lia
 rw[zcs];refine zck ?_;refine⟨_,rfl,p,C,S,_,_,rfl,J,T.cl,T.nA,zaX _ _ _,al,_,rfl,.inl (SqL.of ha7),_,rfl,rfl,_,rfl,aO (λc=>?_) (λ_=>?_)⟩
 ·exfalso;rw[yl]at c;simp at c
 refine⟨_,rfl,r,_,rfl,.inl (SqL.of U.hs),_,_,rfl,rfl,_,rfl,aO (λc=>Q0 _) (λ_=>?_)⟩;exact q2 _ _ _ _ _ _ _ _ _ _ _ _ _ _ _ _ n Rs ps d h U kL n24 Q0
end
def zn0 (L:LwP K C H p tl al rl sl As Rs ps never)(c:sl≠tl)(a:ps.length < 100)(j:Nat){x:Int}(d:x.natAbs < 10000000000):LwP K C (upd H sl (.lst ((ps.map V.int).take j++.int x :: (ps.map V.int).drop j))) p tl al rl sl As Rs (ps.take j++x :: ps.drop j) never:=by
 refine⟨L.pr.keep (z:=sl) (λb o e n=>by rw[ag n];exact e) L.hs c L.n1 L.n2,L.bo,?_,L.n1,L.n2,?_,λk f=>?_⟩
 ·rw[af];simp
 ·have h:=congrArg List.length (List.take_append_drop j ps);rw[lAq]at h;rw[lAq,List.length_cons];lia
 ·rcases mPq f with h | h
  ·exact L.big k (List.mem_of_mem_take h)
  ·rcases List.mem_cons.mp h with h | h
   ·rw[h];exact d
   ·exact L.big k (List.mem_of_mem_drop h)
section
variable {P:Program} {w:World} {K:W.Frag} {mg:Str→Option Value} {base:Heap} {aK C CN CT CP CM f fR fD fQ fW:Addr} {fd dR' dD dQ dW:FuncData}
def law9 (T:Txt K mg aK C CN CT CP CM)(g:mg "list"=none)(r:mg "max"=none)(G:LG P w K mg base C CN CT CP CM fQ fW fR fD dQ dW dR' dD){cdv:Value}{Ar:Around}{outer:List Env}{s:Shared}{H00:Hp}{E:XK}(hr:zax 11 (Ar.deeper (PyProof.Rows.envOfC "law" (ao zb4) s.heap.objs.size f cdv))) :
  ∃ z,PSs (aZ CX0 P w K mg base NLw "law" (ao zb4) f cdv Ar outer s H00 E).nox ((zap zb4).drop 9) z ∧
   ∀(H:Hp) (Q:VK) (O N M J:Option V) (b:Int) (p t I B e:Addr) (n:Nat) (Rs:List (List Int)) (ps:List Int) (c:Bool),LwP K C H p t I B e (nms n) Rs ps c→e≠t→ps.length < 100→n≤24→(∀ H',Q (.bl true) H') →
    z { nx:=λ_ H'=>Q .non H',rt:=Q } [O,N,some (.int (n:Nat)),some (.ref p),M,some (.int b),some (.ref e),J,some (.bl c),none,none,none,none] H:=by
 obtain⟨z2,h2,R⟩:=law10 (P:=P) (w:=w) (base:=base) (f:=f) T g G (cdv:=cdv) (Ar:=Ar) (outer:=outer) (s:=s) (H00:=H00) (E:=E) hr;refine⟨_,(ae (zaj (aA zbd (aU zaO (aU zbV (pv 5) ai) ai) ai)
   (ae (aF (i:=9) zbH.nd rfl (Or.inl rfl) (aW zaK (zaD (aa ai (aa (zaI zay ai) (aa (aU zbj (pv 2) ai) (aa (aU zbj ai (aU zaO (aU zbV (pv 5) ai) (aw (zl1 rfl) rfl r PyProof.Rows.Boot.max (aa ai (aa (pv 2) ac))))) (aa (aU zbj (aU zbj (pv 2) ai) (aU zaO (aw zdD rfl T.abs PyProof.Rows.Boot.abs (aa (pv 5) ac)) (aU op_pow ai ai))) ac)))))) (aU zaO (aU zbV (pv 5) ai) ai)))
    (ak (zag (za2 PySem.F.plainAttrs_list PySem.F.slot_list_insert PySem.F.type_list_insert zlK (pv 6) (aa (aU zaO (aU zbV (pv 5) ai) (aU zbj (aw zaa rfl T.len bLq (aa (pv 6) ac)) ai)) (aa (pv 9) ac))))))
   zac) h2),?_⟩
 try dsimp only [Cx.nox,Cx.wish,aZ]
 try dsimp only [Cx.nox,Cx.wish,aZ]
 intro H Q O N M J b p t I B e n Rs ps c L Z k q Y;refine⟨_,rfl,_,_,rfl,rfl,⟨by decide,by decide⟩,_,_,rfl,rfl,(by show(0:Int) < 3;decide),rfl,_,rfl,aO (λ_=>?_) (λ_=>R _ _ _ _ _ _ _ _ _ _ _ _ _ _ _ _ _ L q Y)⟩;have S:(0:Int) < (if(n:Int) > 1 then(n:Int) else 1)∧(if(n:Int) > 1 then(n:Int) else 1)≤24:=by split <;> lia
 refine⟨_,rfl,_,rfl,_,_,rfl,rfl,_,rfl,_,_,rfl,rfl,⟨by decide,by decide⟩,_,rfl,_,_,rfl,_,_,rfl,rfl,S.1,_,_,rfl,rfl,_,rfl,_,_,rfl,rfl,_,rfl,_,rfl,_,_,rfl,rfl,⟨by decide,by decide,by decide⟩,_,_,rfl,rfl,(by show(0:Int) < 10 ^ 9;decide),_,_,rfl,rfl,(by show 5≤sizeLine;decide),λl hl=>?_⟩;have m1:0≤(b / 300) % (if(n:Int) > 1 then(n:Int) else 1)∧(b / 300) % (if(n:Int) > 1 then(n:Int) else 1) < (if(n:Int) > 1 then(n:Int) else 1):=⟨Int.emod_nonneg _ (by lia),Int.emod_lt_of_pos _ S.1⟩
 have m2:0≤(if b < 0 then -b else b) % ((10:Int) ^ (9:Int).toNat)∧(if b < 0 then -b else b) % ((10:Int) ^ (9:Int).toNat) < 1000000000:=⟨Int.emod_nonneg _ (by decide),Int.emod_lt_of_pos _ (by decide)⟩
 generalize (b / 300) % (if(n:Int) > 1 then(n:Int) else 1)=v at m1
 generalize (if b < 0 then -b else b) % ((10:Int) ^ (9:Int).toNat)=u at m2
 have A:ap H (upd H l (.lst [.int 0,.int (-1),.int ((n:Int)+1),.int (1+v),.int ((n:Int)+1+u)])):=au hl _;have X:=af (H:=H) (a:=l) (o:=.lst [.int 0,.int (-1),.int ((n:Int)+1),.int (1+v),.int ((n:Int)+1+u)]);obtain⟨y,W,D⟩:=at5 (.int 0) (.int (-1)) (.int ((n:Int)+1)) (.int (1+v)) (.int ((n:Int)+1+u)) (b / 300);obtain⟨x,rfl,hx⟩:∃ x:Int,y=.int x∧x.natAbs < 10000000000:=by
  simp only[List.mem_cons,List.not_mem_nil,or_false]at W;rcases W with rfl | rfl | rfl | rfl | rfl
  ·exact⟨_,rfl,by decide⟩
  ·exact⟨_,rfl,by decide⟩
  ·exact⟨_,rfl,by lia⟩
  ·exact⟨_,rfl,by lia⟩
  ·exact⟨_,rfl,by lia⟩
 refine⟨_,rfl,_,_,rfl,rfl,⟨by decide,by decide⟩,_,_,rfl,rfl,(by show(0:Int) < 5;decide),l,_,_,_,rfl,rfl,SqL.of X,D,?_⟩;generalize upd H l (.lst [.int 0,.int (-1),.int ((n:Int)+1),.int (1+v),.int ((n:Int)+1+u)])=H1 at A X;have d:=A _ _ L.hs;have L1:LwP K C H1 p t I B e (nms n) Rs ps c:={ L with pr:=L.pr.same A,hs:=d };have h:(0:Int) < (((ps.map V.int).length:Nat):Int)+1:=by lia
 refine⟨_,rfl,.inl ⟨rfl,_,SqL.of d⟩,_,rfl,_,_,rfl,rfl,⟨by decide,by decide⟩,_,rfl,e,_,rfl,.inl (SqL.of d),_,_,rfl,rfl,_,_,rfl,rfl,h,_,rfl,?_⟩;have mb:0≤(b / 1500) % ((((ps.map V.int).length:Nat):Int)+1)∧(b / 1500) % ((((ps.map V.int).length:Nat):Int)+1) < (((ps.map V.int).length:Nat):Int)+1:=⟨Int.emod_nonneg _ (by lia),Int.emod_lt_of_pos _ h⟩;generalize (b / 1500) % ((((ps.map V.int).length:Nat):Int)+1)=U at mb;obtain⟨j,rfl⟩:∃ j:Nat,U=(j:Int):=⟨U.toNat,by lia⟩;refine⟨e,_,j,.int x,rfl,rfl,d,by lia,(by rw[lM];exact Nat.lt_of_lt_of_le k (by decide)),?_⟩;exact R _ _ _ _ _ _ _ _ _ _ _ _ _ _ _ _ _ (zn0 L1 Z k j hx) q Y
def zmB (h:b≠a):zaF [] [a,b]=[a,b]:=by simp [zaF,h]
def row_ok {n:Nat}{m:Int}(h0:0≤m)(d:m < n):([1+m,-1 - m].any (za4 n)=false)∧([1+m,-1 - m]:List Int).Nodup∧(∀ p∈([1+m,-1 - m]:List Int),p≠0∧p.natAbs≤n)∧Taut [1+m,-1 - m]:=by
 refine⟨?_,?_,λp a=>?_,1+m,by lia,by simp,?_⟩
 ·have c:za4 n (1+m)=false:=by unfold za4;rw[dFq (by lia),dFq (by lia),dFq (by lia)];rfl
  have b:za4 n (-1 - m)=false:=by unfold za4;rw[dFq (by lia),dFq (by lia),dFq (by lia)];rfl
  simp only[List.any_cons,List.any_nil,c,b];rfl
 ·simp;lia
 ·simp only[List.mem_cons,List.not_mem_nil,or_false]at a;rcases a with rfl | rfl <;> lia
 ·have:-(1+m)=-1 - m:=by lia
  rw[this];simp
def law7 (T:Txt K mg aK C CN CT CP CM)(v:mg "list"=none)(L:mg "max"=none)(G:LG P w K mg base C CN CT CP CM fQ fW fR fD dQ dW dR' dD){cdv:Value}{Ar:Around}{outer:List Env}{s:Shared}{H00:Hp}{E:XK}(hr:zax 11 (Ar.deeper (PyProof.Rows.envOfC "law" (ao zb4) s.heap.objs.size f cdv))) :
  ∃ z,PSs (aZ CX0 P w K mg base NLw "law" (ao zb4) f cdv Ar outer s H00 E).nox ((zap zb4).drop 7) z ∧
   ∀(H:Hp) (Q:VK) (v0 v1 D:Option V) (b r:Int) (p O Z R u:Addr) (n:Nat) (ps:List Int) (a:Bool),zat K C H p O Z R [] (nms n) []→H u=some (.lst (ps.map V.int))→u≠O→u≠Z→u≠R→ps.length≤30→(∀ x∈ps,0≤x∧x≤100)→0≤r→r≤200→(0 < r→0 < n)→(a=true→r < 200)→n≤24→(∀ H',Q (.bl true) H') →
    z { nx:=λ_ H'=>Q .non H',rt:=Q } [v0,v1,some (.int (n:Nat)),some (.ref p),D,some (.int b),some (.ref u),some (.int r),some (.bl a),none,none,none,none] H:=by
 have M:=hr.mono (j:=2) (by decide);obtain⟨z2,h2,q2⟩:=law9 (P:=P) (w:=w) (base:=base) (f:=f) T v L G (cdv:=cdv) (Ar:=Ar) (outer:=outer) (s:=s) (H00:=H00) (E:=E) hr;refine⟨_,(ae (zaN PassesOwn.never rfl (zc5 rfl T.range (aa (pv 7) ac)) (zae (i:=4) zbH.nd rfl (Or.inl rfl))
   (ak (zag (zaZ (pv 3) T.cl G.mW G.W M G.bW .nil zg7 (aa (zbz (aa (aU zbj ai (aU zaO (pv 4) (pv 2))) (aa (aU zdg (zaI zay ai) (aU zaO (pv 4) (pv 2))) ac))) ac)))))
  (ae (zaj (zcr (pv 8))
   (ak (zag (zaZ (pv 3) T.cl G.mW G.W M G.bW .nil zg7 (aa (zbz ac) ac))))
   zac) h2)),?_⟩
 try dsimp only [Cx.nox,Cx.wish,aZ]
 try dsimp only [Cx.nox,Cx.wish,aZ]
 intro H Q v0 v1 D b r p O Z R u n ps a S hs n0 X U p30 pb r0 r2 rn rv J Q0;have N:∀ k∈ps,k.natAbs < 10000000000:=λk hk=>by have:=pb k hk;lia
 refine⟨_,rfl,_,rfl,(by show -(2 ^ 62)≤r;lia),(by show r < 2 ^ 62;lia),zih (lo:=0) (n:=r.toNat) (λi σ H'=>∃(D:Option V) (Rs:List (List Int)),σ=[v0,v1,some (.int (n:Nat)),some (.ref p),D,some (.int b),some (.ref u),some (.int r),some (.bl a),none,none,none,none]∧zat K C H' p O Z R [] (nms n) Rs∧H' u=some (.lst (ps.map V.int))∧Rs.length=i∧∀ q∈Rs,(q.Nodup∧∀ k∈q,k≠0∧k.natAbs≤n)∧Taut q) ⟨D,[],rfl,S,hs,rfl,λq t=>nomatch t⟩ ?_ ?_⟩
 ·rintro i σ H1 hi ⟨v4',Rs,rfl,B,o,I,d⟩;have np:(0:Int) < ((n:Nat):Int):=by have:=rn (by lia);lia
  obtain⟨⟨A,y⟩,_⟩:=id B;refine⟨_,rfl,p,A,_,rfl,y,zfs _ _ _,_,rfl,_,rfl,_,_,rfl,rfl,np,_,_,rfl,rfl,_,rfl,_,rfl,_,rfl,_,_,rfl,rfl,np,_,_,rfl,rfl,lS2,λl hl=>?_⟩;have m0:0≤(0+(i:Int)) % ((n:Nat):Int):=Int.emod_nonneg _ (by lia);have m1:(0+(i:Int)) % ((n:Nat):Int) < ((n:Nat):Int):=Int.emod_lt_of_pos _ np;generalize (0+(i:Int)) % ((n:Nat):Int)=m at m0 m1;obtain⟨k1,k2,k3,k4⟩:=row_ok m0 m1;have F:=au hl (.tup [.int (1+m),.int (-1 - m)])
  try dsimp only [zc7]
  refine ziS (ps:=[1+m,-1 - m]) (B.same F) (.inr (SqT.of af)) (by show 2≤20;decide) (by rw[zc3];exact k1) (λk hk=>by have:=k3 k hk;lia) (by lia) λH3 g f3=>?_;rw[zmB (by lia)]at g;refine⟨_,_,rfl,g,f3 _ _ (F _ _ o) X U,by rw[lAq,I];rfl,λq t=>?_⟩;rcases mPq t with h | h
  ·exact d q h
  ·rw[mS h];exact⟨⟨k2,k3⟩,k4⟩
 rintro σ H1 ⟨v4',Rs,rfl,B,o,I,d⟩;have ro:zfG (nms n).length Rs:=⟨λq t=>by rw[zc3];exact(d q t).1,by rw[zc3];lia,by lia⟩;refine⟨_,rfl,_,rfl,aO (λc=>?_) (λc=>?_)⟩
 ·have Y:a=true:=c;have r3:=rv Y;have B0:zbJ (nms n).length Rs false:=⟨ro,by lia,(λh=>nomatch h),λ_ q t=>(d q t).2⟩;obtain⟨⟨A,y⟩,_⟩:=id B;refine⟨_,rfl,p,A,_,rfl,y,zfs _ _ _,lS0,λe he=>?_⟩
  try dsimp only [zc7]
  have F:=au he (.tup []);refine ziS (ps:=[]) (B.same F) (.inr (SqT.of af)) (by decide) rfl (λi hi=>nomatch hi) (by lia) λH3 g f3=>?_;refine q2 _ _ _ _ _ _ _ _ _ _ _ _ n (Rs++[[]]) ps a ⟨g,?_,f3 _ _ (F _ _ o) X U,X,U,by lia,N⟩ n0 (by lia) J Q0;rw[Y];exact B0.nil (by lia)
 ·have Y:a=false:=by cases a <;> simp_all
  exact q2 _ _ _ _ _ _ _ _ _ _ _ _ n Rs ps a ⟨B,⟨ro,by lia,(λh=>by rw[Y]at h;cases h),λ_ q t=>(d q t).2⟩,o,X,U,by lia,N⟩ n0 (by lia) J Q0
end
def nm_mul (k:Nat):PySem.Txt.mul ⟨#[97+k]⟩ 2=nm k:=rfl
def zm8 (s:ap H H1)(f:Fr2 H1 H2 al rl)(c:H al=none)(a:H rl=none):ap H H2 :=
 λb o h=>f b o (s b o h) (λe=>by rw[e,c]at h;cases h) (λe=>by rw[e,a]at h;cases h)
inductive zg6 (K:W.Frag):Sp|m{vs H Q E9} (a:Addr) (ns:List Int):vs=[.ref a]→SqL K H a (ns.map V.int)→ns.length≤63→(∀ H',Q (.bl true) H')→zg6 K vs H Q E9
def at_b (x y:V)(b:Bool):∃ v,(v=x∨v=y)∧atI [x,y] (if b=true then 1 else 0)=some v:=by
 cases b
 ·exact⟨x,.inl rfl,zah (j:=0) rfl⟩
 ·exact⟨y,.inr rfl,zah (j:=1) rfl⟩
section
variable {P:Program} {w:World} {K:W.Frag} {mg:Str→Option Value} {base:Heap} {aK C CN CT CP CM f fR fD fQ fW fC fS fI:Addr} {fd dR' dD dQ dW dC dS dI:FuncData}
def ok_law (F:Fun K "law" "law" zb4 f fd)(T:Txt K mg aK C CN CT CP CM)(q:mg "list"=none)(I:mg "max"=none)(J:mg "int"=none)(G:LG P w K mg base C CN CT CP CM fQ fW fR fD dQ dW dR' dD)
  (l:FB P w K mg base CX0 1 "_law_cell_at" fC dC ["_law_script","_law_k"] (ziH K))(R:FB P w K mg base CX0 1 "_law_sizes" fS dS ["_law_first","_law_pick","_law_many"] zgD)
  (MK:Mk K C fI)(mC:mg "Problem"=some (.ref C))(Bi:aI P w K mg base CX0 1 fI dI ["self"] (zhc C))(bi:az K dI ["self"] []):aI P w K mg base CX0 12 f fd ["_law_script"] (zg6 K):=by
 refine F.ok zbH (λvs H Q E h=>?_) (λcdv Ar outer s H vs Q E O h=>?_)
 ·obtain⟨a,ns,rfl,_⟩:=h;rfl
 obtain⟨a,ns,rfl,hS,u,Q0⟩:=h;have hr4:=O.mono (j:=4) (by decide);have hr2:=O.mono (j:=2) (by decide);have k:=O.mono (j:=1) (by decide);obtain⟨z2,h2,q2⟩:=law7 (P:=P) (w:=w) (base:=base) (f:=f) T q I G (cdv:=cdv) (Ar:=Ar) (outer:=outer) (s:=s) (H00:=H) (E:=E) O;refine⟨_,(ae (aF (i:=1) zbH.nd rfl (Or.inl rfl) (zai l.ok k rfl l.m l.kp l.b .nil zak (aa (pv 0) (aa ai ac))))
  (ae (aF (i:=2) zbH.nd rfl (Or.inl rfl) (aW zaK (zaD (aa (aU zaO (pv 1) ai) (aa (aU zbj ai (aU zaO (pv 1) ai)) ac))) (zaL zl4 rfl J PyProof.Rows.Boot.int (aa (zbc zbd (aU zaO (aU zbV (zai l.ok k rfl l.m l.kp l.b .nil zak (aa (pv 0) (aa ai ac))) ai) ai) ai) ac))))
  (ae (aF (i:=3) zbH.nd rfl (Or.inl rfl) (zfj MK Bi hr2 rfl mC bi .nil zak))
  (ae (zaN PassesOwn.never rfl (zc5 rfl T.range (aa (pv 2) ac)) (zae (i:=4) zbH.nd rfl (Or.inl rfl))
   (ak (zag (zaZ (pv 3) T.cl G.mQ G.Q hr4 G.bQ .nil zg7 (aa (aU znL (aW ix_str zaU (pv 4)) ai) ac)))))
  (ae (aF (i:=5) zbH.nd rfl (Or.inl rfl) (zai l.ok k rfl l.m l.kp l.b .nil zak (aa (pv 0) (aa ai ac))))
  (ae (zk2 (zai R.ok k rfl R.m R.kp R.b .nil zak (aa (pv 1) (aa (pv 5) (aa (pv 2) ac)))) (zcO rfl (zaB (zae (i:=6) zbH.nd rfl (Or.inl rfl)) (zaB (zae (i:=7) zbH.nd rfl (Or.inl rfl)) zcf))))
  (ae (aF (i:=8) zbH.nd rfl (Or.inl rfl) (zej (zbc zbd (aU zaO (aU zbV (pv 1) ai) ai) ai) (zeQ (zbc zd1 (pv 7) ai))))
  h2))))))),?_⟩
 try dsimp only [Cx.nox,Cx.wish,aZ]
 try dsimp only [Cx.nox,Cx.wish,aZ]
 refine⟨_,rfl,a,ns,0,rfl,hS,u,by decide,λg=>?_⟩;refine⟨_,rfl,_,_,rfl,rfl,(by show(0:Int) < 9;decide),_,rfl,_,_,rfl,rfl,(by show(0:Int) < 4;decide),_,_,rfl,rfl,lS2,λN hl0=>?_⟩;have M:ap H (upd H N (.lst [.int (g % 9),.int (21+g % 4)])):=au hl0 _;have e1:=af (H:=H) (a:=N) (o:=.lst [.int (g % 9),.int (21+g % 4)]);generalize upd H N (.lst [.int (g % 9),.int (21+g % 4)])=H1 at M e1;refine⟨_,rfl,a,ns,1,rfl,M.seq hS,u,by decide,λc1=>⟨_,_,rfl,rfl,⟨by decide,by decide⟩,_,_,rfl,rfl,(by show(0:Int) < 5;decide),rfl,.inr ⟨_,rfl,?_⟩⟩⟩;obtain⟨y,hy,at1⟩:=at_b (.int (g % 9)) (.int (21+g % 4)) (decide (V.int (c1 / 25 % 5)=V.int 1));obtain⟨n,rfl,D⟩:∃ n:Nat,y=.int (n:Int)∧n≤24:=by
  have m1:0≤g % 9∧g % 9 < 9:=by lia
  have m2:0≤g % 4∧g % 4 < 4:=by lia
  rcases hy with rfl | rfl
  ·exact⟨(g % 9).toNat,by rw[Int.toNat_of_nonneg m1.1],by lia⟩
  ·exact⟨(21+g % 4).toNat,by rw[Int.toNat_of_nonneg (by lia)],by lia⟩
 refine⟨N,_,_,_,rfl,rfl,SqL.of e1,at1,?_⟩;intro p d np X nex;have x:ap H (upd (upd H1 d (.own p)) p (.ins C d [])):=λb o h=>by have h':=M b o h;rw[ag (λe=>by rw[e,np]at h';cases h'),ag (λe=>by rw[e,X]at h';cases h')];exact h'
 have L:=af (H:=upd H1 d (.own p)) (a:=p) (o:=.ins C d []);generalize upd (upd H1 d (.own p)) p (.ins C d [])=H2 at x L;refine⟨p,d,rfl,L,λtl al rl H3 k1 k2 k3 d1 d2 d3 hp1 ht1 ha1 k kk=>⟨rfl,?_⟩⟩;have fp:=M.free np;have s3:ap H H3:=λb o h=>kk b o (x b o h) (λe=>by rw[e,fp]at h;cases h);have fT:=x.free k1;have fA:=x.free k2;have fR:=x.free k3;have P1:zat K C H3 p tl al rl [] (nms 0) []:=⟨⟨d,hp1⟩,⟨[],ht1,aq.nil⟩,⟨[],ha1,aq.nil⟩,⟨[],k,aq.nil⟩,d1,d2,d3⟩;refine⟨_,rfl,_,rfl,(by show -(2 ^ 62)≤((n:Nat):Int);lia),(by show((n:Nat):Int) < 2 ^ 62;lia),zih (lo:=0) (n:=n) (λi S H'=>∃(U:Option V),S=[some (.ref a),some (.int g),some (.int (n:Nat)),some (.ref p),U,none,none,none,none,none,none,none,none]∧ap H H'∧zat K C H' p tl al rl [] (nms i) []) ⟨none,rfl,s3,P1⟩ ?_ ?_⟩
 ·rintro i S H4 hi ⟨U,rfl,W,v⟩;obtain⟨⟨dx4,ho4⟩,_⟩:=id v;have e0:(0:Int)+(i:Int)=(i:Int):=by lia
  refine⟨_,rfl,p,dx4,_,rfl,ho4,zf8 _ _ _,_,rfl,_,_,97+i,rfl,rfl,sz _ (by decide +kernel),(by rw[e0];exact nm_at i (by lia)),_,_,rfl,rfl,by decide,by decide,(by show 1≤100;decide),?_⟩
  try dsimp only [zc7]
  rw[nm_mul];refine zjn v (by lia) (zhf (nRq _) (by lia)) (by rw[zc3];lia) λH5 z f5=>?_;rw[←zjd]at z;exact⟨_,rfl,zm8 W f5 fA fR,z⟩
 rintro S H4 ⟨U,rfl,W,v⟩;refine⟨_,rfl,a,ns,1,rfl,W.seq hS,u,by decide,λA=>?_⟩;refine⟨_,rfl,_,rfl,_,rfl,g,A,n,rfl,by lia,by lia,⟨λH5 t sl ps r s5 fl ht hl B pb r0 r2 rm=>?_⟩⟩;obtain⟨xt,Y,_⟩:=v.tm;obtain⟨xa,hxa,_⟩:=v.am;obtain⟨xr,Z,_⟩:=v.rm;have n0:=(zad Y fl).symm;have n1:=(zad hxa fl).symm;have n2:=(zad Z fl).symm;refine⟨t,_,rfl,SqT.of ht,rfl,?_⟩;refine⟨_,_,rfl,_,_,rfl,rfl,?_⟩;have S5:=v.same s5;refine⟨_,rfl,_,_,rfl,rfl,⟨by decide,by decide⟩,_,_,rfl,rfl,(by show(0:Int) < 5;decide),rfl,_,rfl,aO (λ_=>?_) (λc=>?_)⟩
 ·refine⟨_,rfl,_,_,rfl,rfl,?_⟩;exact q2 _ _ _ _ _ _ _ _ _ _ _ _ n ps _ S5 hl n0 n1 n2 B pb r0 r2 (λh=>by have:=rm h;lia) (λh=>oDq h) D Q0
 ·exact q2 _ _ _ _ _ _ _ _ _ _ _ _ n ps _ S5 hl n0 n1 n2 B pb r0 r2 (λh=>by have:=rm h;lia) (λh=>by first | exact absurd h c | cases h) D Q0
end
def zft (h:W.kitOne K (.ref D) (.type "ValueError")=some true):W.kitCls K (.ref D) (.type "ValueError")=some true:=by unfold W.kitOne at h;rw[if_neg (show ¬(Value.ref D == Value.type "ValueError")=true from by intro z;cases z)]at h;exact h
def zeB {R:Nat→Prop}(h0:R 0)(d:R 1)(b:R 2):∀ c∈zb3,R c:=λc a=>by
 simp only[zb3,List.mem_cons,List.not_mem_nil,or_false]at a;rcases a with rfl | rfl | rfl
 ·exact h0
 ·exact d
 ·exact b
def ziC {R:Nat→Prop}(h0:R 0)(j:R 1)(i:R 2)(h:R 3)(g:R 4)(f:R 5)(e:R 6)(c:R 7)(b:R 8)(a:R 9):∀ d,d < 10→R d
 | 0,_=>h0
 | 1,_=>j
 | 2,_=>i
 | 3,_=>h
 | 4,_=>g
 | 5,_=>f
 | 6,_=>e
 | 7,_=>c
 | 8,_=>b
 | 9,_=>a
 | n+10,z=>absurd z (by lia)
def all_mk {l:W.OpenLaw}{w:World}{K:W.Frag}{h:Heap}{mg:Str→Option Value}{fa aK C CN CT j CM n C5 C6 C7 C8 C9 CE CG f CC fs es fv ev f1 f2 f3 f4 f5 f6 f7 f8 f9 f10 f11 f12 f13 f14 f15 f16 f17 f18 f19 f20 f21 f22 f23 f24 f25 f26 f27 f28 f29 f30 f31 f32 f33 f34 f35 f36 f37 f38 f39 f40 f41 f42 f43 f44 f45 f46 f47:Addr}(X:K.In h)(G:h.Ns mainGlobals mg)(hfa:mg "law"=some (.ref fa))
  {d1 d2 d3 d4 d5 d6 d7 d8 d9 d10 d11 d12 d13 d14 d15 d16 d17 d18 d19 d20 d21 d22 d23 d24 d25 d26 d27 d28 d29 d30 d31 d32 d33 d34 d35 d36 d37 d38 d39 d40 d41 d42 d43 d44 d45 d46 d47:FuncData}{slK:Array (Option Value)}{t1 t2 t3 t4 t5 t6 ts tv u1 u2 u3 u4 u5 u6 u7 u8:Tok}{nK:Nat}{ds dv:FuncData}{cd0 cd1 cd2:ClassData}
  (aC:W.nsIn K mainGlobals "Problem"=some (some (.ref C)))
  (aN:W.nsIn K mainGlobals "BadName"=some (some (.ref CN)))
  (aT:W.nsIn K mainGlobals "BadTerm"=some (some (.ref CT)))
  (aP:W.nsIn K mainGlobals "BadPart"=some (some (.ref j)))
  (aM:W.nsIn K mainGlobals "TooMany"=some (some (.ref CM)))
  (aL:W.nsIn K mainGlobals "TooLong"=some (some (.ref n)))
  (a5:W.nsIn K mainGlobals "NoProblem"=some (some (.ref C5)))
  (a6:W.nsIn K mainGlobals "NotJoined"=some (some (.ref C6)))
  (a7:W.nsIn K mainGlobals "BadPaper"=some (some (.ref C7)))
  (a8:W.nsIn K mainGlobals "HasChoice"=some (some (.ref C8)))
  (a9:W.nsIn K mainGlobals "NoChoice"=some (some (.ref C9)))
  (aE:W.nsIn K mainGlobals "ChoiceError"=some (some (.ref CE)))
  (aG:W.nsIn K mainGlobals "Groups"=some (some (.ref CG)))
  (aH:W.nsIn K mainGlobals "Hunt"=some (some (.ref f)))
  (aD:W.nsIn K mainGlobals "Choice"=some (some (.ref CC)))
  (y1:FT K "is_word" "is_word" zhF f1 d1)
  (y2:FT K "is_name" "is_name" zhG f2 d2)
  (y3:FT K "ask_name" "ask_name" zgR f3 d3)
  (y4:FT K "once_each" "once_each" zkn f4 d4)
  (y5:FT K "place_of" "place_of" ziK f5 d5)
  (y6:FT K "given_links" "given_links" zdU f6 d6)
  (y7:FT K "alike_links" "alike_links" zdV f7 d7)
  (y8:FT K "links" "links" zhD f8 d8)
  (y9:FT K "groups_of" "groups_of" zeM f9 d9)
  (Z9:FT K "heads" "heads" zgj f10 d10)
  (Z8:FT K "sameness" "sameness" zfp f11 d11)
  (Z7:FT K "held_same" "held_same" zdH f12 d12)
  (Z6:FT K "same_links" "same_links" zdi f13 d13)
  (Z5:FT K "clashing_atom" "clashing_atom" zdj f14 d14)
  (Z4:FT K "clash" "clash" zhE f15 d15)
  (Z3:FT K "chosen" "chosen" zgP f16 d16)
  (Z2:FT K "levels" "levels" s_levels f17 d17)
  (Z1:FT K "part_levels" "part_levels" s_part_levels f18 d18)
  (Z0:FT K "is_replaced" "is_replaced" s_is_replaced f19 d19)
  (ZZ:FT K "learnt" "learnt" s_learnt f20 d20)
  (ZY:FT K "part_of" "part_of" zeE f21 d21)
  (ZX:FT K "ask_atoms" "ask_atoms" zdI f22 d22)
  (ZW:FT K "_law_cell_at" "_law_cell_at" zkp f23 d23)
  (ZV:FT K "_law_kind" "_law_kind" zeN f24 d24)
  (ZU:FT K "_law_each_right" "_law_each_right" zcL f25 d25)
  (ZT:FT K "_law_right" "_law_right" zex f26 d26)
  (ZS:FT K "_law_due" "_law_due" zfq f27 d27)
  (ZR:FT K "_law_sizes" "_law_sizes" zbX f28 d28)
  (ZQ:FT K "law" "law" zb4 f29 d29)
  (ZP:FM K C "__init__" "Problem.__init__" zko f30 d30)
  (ZO:FM K C "ask_part" "Problem.ask_part" zgQ f31 d31)
  (ZN:FM K C "add_plain" "Problem.add_plain" ziJ f32 d32)
  (ZM:FM K C "add_row" "Problem.add_row" sRow f33 d33)
  (ZL:FM K CG "__init__" "Groups.__init__" zdX f34 d34)
  (ZK:FM K CC "__init__" "Choice.__init__" zdY f35 d35)
  (ZJ:FM K f "__init__" "Hunt.__init__" zeI f36 d36)
  (ZI:FM K f "hold" "Hunt.hold" zgw f37 d37)
  (ZH:FM K f "watch" "Hunt.watch" zf3 f38 d38)
  (ZG:FM K f "begin" "Hunt.begin" zf6 f39 d39)
  (ZF:FM K f "finds" "Hunt.finds" zf5 f40 d40)
  (ZE:FM K f "look_at" "Hunt.look_at" ze2 f41 d41)
  (ZD:FM K f "grow" "Hunt.grow" zgx f42 d42)
  (ZC:FM K f "put" "Hunt.put" zhl f43 d43)
  (ZB:FM K f "cut" "Hunt.cut" zhm f44 d44)
  (ZA:FM K f "learn" "Hunt.learn" zf4 f45 d45)
  (Zz:FM K f "choose" "Hunt.choose" zfx f46 d46)
  (Zy:FM K f "held_parts" "Hunt.held_parts" zdW f47 d47)
  (s1:W.nsIn K mainGlobals "SMALL_LETTERS"=some (some (.str abc t1)))
  (s2:W.nsIn K mainGlobals "LONGEST_NAME"=some (some (.int 8 t2)))
  (s3:W.nsIn K mainGlobals "MOST_ATOMS"=some (some (.int 40 t3)))
  (s4:W.nsIn K mainGlobals "MOST_ROW_PARTS"=some (some (.int 20 t4)))
  (s5:W.nsIn K mainGlobals "MOST_ROWS"=some (some (.int 200 t5)))
  (s6:W.nsIn K mainGlobals "MOST_TUPLES"=some (some (.int 64 t6)))
  (s8:W.nsIn K mainGlobals "KEPT_WORDS"=some (some (.ref aK)))
  (s9:K.lookup aK=some ⟨.type "tuple",none,.seq #[.str "or" u1,.str "and" u2,.str "not" u3,.str "never" u4,.str "always" u5,.str "then" u6,.str "as" u7,.str "unlike" u8] nK,slK⟩)
  (L:W.nsIn K mainGlobals "len"=some none)
  (Zx:W.nsIn K mainGlobals "all"=some none)
  (p:W.nsIn K mainGlobals "range"=some none)
  (b:W.nsIn K mainGlobals "isinstance"=some none)
  (Z:W.nsIn K mainGlobals "bool"=some none)
  (o:W.nsIn K mainGlobals "tuple"=some none)
  (N:W.nsIn K mainGlobals "abs"=some none)
  (g:W.nsIn K mainGlobals "reversed"=some none)
  (z:W.nsIn K mainGlobals "enumerate"=some none)
  (Zw:W.nsIn K mainGlobals "sorted"=some none)
  (y:W.nsIn K mainGlobals "list"=some none)
  (Zv:W.nsIn K mainGlobals "zip"=some none)
  (Zu:W.nsIn K mainGlobals "dict"=some none)
  (Zt:W.nsIn K mainGlobals "any"=some none)
  (Zs:W.nsIn K mainGlobals "max"=some none)
  (Zr:W.nsIn K mainGlobals "min"=some none)
  (Zq:W.nsIn K mainGlobals "int"=some none)
  (r:W.nsIn K mainGlobals "ValueError"=some none)
  (Zp:W.kitOne K (.type "int") (.type "bool")=some false)
  (Zo:W.plainGet K C Str.empty=true)
  (Zn:W.hasDictIn K C=true)
  (Zm:W.plainOver K C=true)
  (Zl:W.findIn K (.ref C) "__setattr__"=some (some (.builtin "object.__setattr__")))
  (Zk:W.makesIn K C=true)
  (Zj:W.keepIn K (.ref C)=true)
  (Zi:W.plainGet K CG Str.empty=true)
  (Zh:W.hasDictIn K CG=true)
  (Zg:W.plainOver K CG=true)
  (Zf:W.findIn K (.ref CG) "__setattr__"=some (some (.builtin "object.__setattr__")))
  (Ze:W.makesIn K CG=true)
  (Zd:W.keepIn K (.ref CG)=true)
  (Zc:W.plainGet K CC Str.empty=true)
  (Zb:W.hasDictIn K CC=true)
  (Za:W.plainOver K CC=true)
  (Y9:W.findIn K (.ref CC) "__setattr__"=some (some (.builtin "object.__setattr__")))
  (Y8:W.makesIn K CC=true)
  (Y7:W.keepIn K (.ref CC)=true)
  (Y6:W.plainGet K f Str.empty=true)
  (Y5:W.hasDictIn K f=true)
  (Y4:W.plainOver K f=true)
  (Y3:W.findIn K (.ref f) "__setattr__"=some (some (.builtin "object.__setattr__")))
  (Y2:W.makesIn K f=true)
  (Y1:W.keepIn K (.ref f)=true)
  (Y0:W.findIn K (.ref C) "terms"=some none)
  (YZ:W.findIn K (.ref C) "atoms"=some none)
  (YY:W.findIn K (.ref C) "rows"=some none)
  (U:W.findIn K (.ref CG) "least"=some none)
  (u:W.findIn K (.ref CG) "gathered"=some none)
  (Y:W.findIn K (.ref CC) "plain"=some none)
  (J:W.findIn K (.ref CC) "tables"=some none)
  (B:W.findIn K (.ref f) "problem"=some none)
  (YX:W.findIn K (.ref f) "most"=some none)
  (S:W.findIn K (.ref f) "known"=some none)
  (Q:W.findIn K (.ref f) "paper"=some none)
  (O:W.findIn K (.ref f) "trail"=some none)
  (YW:W.findIn K (.ref f) "held"=some none)
  (D:W.findIn K (.ref f) "looked"=some none)
  (I:W.findIn K (.ref f) "begins"=some none)
  (A:W.findIn K (.ref f) "watched"=some none)
  (t:W.findIn K (.ref f) "watching"=some none)
  (R:W.findIn K (.ref f) "order"=some none)
  (E:W.findIn K (.ref f) "lately"=some none)
  (xN:W.excIn K CN bmV "ValueError.__new__"=true)
  (xT:W.excIn K CT bmV "ValueError.__new__"=true)
  (xP:W.excIn K j bmV "ValueError.__new__"=true)
  (xM:W.excIn K CM bmV "ValueError.__new__"=true)
  (xL:W.excIn K n bmV "ValueError.__new__"=true)
  (YV:W.clsIn K j=some cd0)
  (YU:W.findIn K (.ref j) "__getattribute__"=some (some (.builtin "BaseException.__getattribute__")))
  (YT:W.findIn K (.ref j) "__getattr__"=some none)
  (YS:W.findIn K (.ref j) "__class__"=some (some (.builtin "object.__class__")))
  (YR:W.mroIn K j (.type "object")=some true)
  (YQ:W.mroIn K j (.type "BaseException")=some true)
  (YP:W.clsIn K CM=some cd1)
  (YO:W.findIn K (.ref CM) "__getattribute__"=some (some (.builtin "BaseException.__getattribute__")))
  (YN:W.findIn K (.ref CM) "__getattr__"=some none)
  (YM:W.findIn K (.ref CM) "__class__"=some (some (.builtin "object.__class__")))
  (YL:W.mroIn K CM (.type "object")=some true)
  (YK:W.mroIn K CM (.type "BaseException")=some true)
  (YJ:W.clsIn K n=some cd2)
  (YI:W.findIn K (.ref n) "__getattribute__"=some (some (.builtin "BaseException.__getattribute__")))
  (YH:W.findIn K (.ref n) "__getattr__"=some none)
  (YG:W.findIn K (.ref n) "__class__"=some (some (.builtin "object.__class__")))
  (YF:W.mroIn K n (.type "object")=some true)
  (YE:W.mroIn K n (.type "BaseException")=some true)
  (q5:W.specialIn K (.builtin "object.__class__") "__get__"=some (some (.builtin "getset_descriptor.__get__")))
  (q6:W.takesIn K (.builtin "object.__class__")=some true)
  (YD:W.kitOne K (.ref j) (.ref j)=some true)
  (YC:W.kitOne K (.ref j) (.ref CM)=some false)
  (YB:W.kitOne K (.ref j) (.ref n)=some false)
  (YA:W.kitOne K (.ref j) (.ref CT)=some false)
  (Yz:W.kitOne K (.ref j) (.ref CN)=some false)
  (Yy:W.kitOne K (.ref j) (.ref C5)=some false)
  (Yx:W.kitOne K (.ref j) (.ref C6)=some false)
  (Yw:W.kitOne K (.ref j) (.ref C7)=some false)
  (Yv:W.kitOne K (.ref j) (.ref C8)=some false)
  (Yu:W.kitOne K (.ref j) (.ref C9)=some false)
  (Yt:W.kitOne K (.ref CM) (.ref j)=some false)
  (Ys:W.kitOne K (.ref CM) (.ref CM)=some true)
  (Yr:W.kitOne K (.ref CM) (.ref n)=some false)
  (Yq:W.kitOne K (.ref CM) (.ref CT)=some false)
  (Yp:W.kitOne K (.ref CM) (.ref CN)=some false)
  (Yo:W.kitOne K (.ref CM) (.ref C5)=some false)
  (Yn:W.kitOne K (.ref CM) (.ref C6)=some false)
  (Ym:W.kitOne K (.ref CM) (.ref C7)=some false)
  (Yl:W.kitOne K (.ref CM) (.ref C8)=some false)
  (Yk:W.kitOne K (.ref CM) (.ref C9)=some false)
  (Yj:W.kitOne K (.ref n) (.ref j)=some false)
  (Yi:W.kitOne K (.ref n) (.ref CM)=some false)
  (Yh:W.kitOne K (.ref n) (.ref n)=some true)
  (Yg:W.kitOne K (.ref n) (.ref CT)=some false)
  (Yf:W.kitOne K (.ref n) (.ref CN)=some false)
  (Ye:W.kitOne K (.ref n) (.ref C5)=some false)
  (Yd:W.kitOne K (.ref n) (.ref C6)=some false)
  (Yc:W.kitOne K (.ref n) (.ref C7)=some false)
  (Yb:W.kitOne K (.ref n) (.ref C8)=some false)
  (Ya:W.kitOne K (.ref n) (.ref C9)=some false)
  (X9:W.kitOne K (.ref j) (.type "ValueError")=some true)
  (X8:W.kitOne K (.ref CM) (.type "ValueError")=some true)
  (X7:W.kitOne K (.ref n) (.type "ValueError")=some true)
  (X6:W.exmOne K (.ref j) (.ref CE)=some true)
  (X5:W.exmOne K (.ref CM) (.ref CE)=some true)
  (X4:W.exmOne K (.ref n) (.ref CE)=some true)
  (ys:FD K "search" zdA fs es ds ts)
  (yv:FD K "every" zdq fv ev dv tv)
  : ∃ fd:FuncData,(∀(s:Shared) (v:Value),BindsTo s fd ⟨[v],[]⟩ [("_law_script",v)])∧∀ base:Heap,K.In base→base.Ns mainGlobals mg→aI l.prog w K mg base CX0 12 fa fd ["_law_script"] (zg6 K):=by have gn:=λ{x:Str} (e:W.nsIn K mainGlobals x=some none)=>W.mg_none_of X G e;have gm:=λ{x:Str}{v:Value} (e:W.nsIn K mainGlobals x=some (some v))=>W.mg_of X G e;have e:=hfa.symm.trans (ZQ.m X G);cases e;obtain⟨q,rfl,rfl,rfl,rfl,rfl,rfl,rfl,rfl,rfl,rfl⟩:∃ q:Nat→Addr,j=q 0∧CM=q 1∧n=q 2∧CT=q 3∧CN=q 4∧C5=q 5∧C6=q 6∧C7=q 7∧C8=q 8∧C9=q 9:=⟨λi=>[j,CM,n,CT,CN,C5,C6,C7,C8,C9].getD i 0,rfl,rfl,rfl,rfl,rfl,rfl,rfl,rfl,rfl,rfl⟩;have T:Txt K mg aK C (q 4) (q 3) (q 0) (q 1):=⟨⟨_,gm s1⟩,⟨_,gm s2⟩,⟨_,gm s3⟩,⟨_,gm s4⟩,⟨_,gm s5⟩,gm s8,λH=>.inr ⟨_,_,_,s9,rfl,rfl,(by show 8≤sizeLine;decide),.cons ⟨_,rfl⟩ (.cons ⟨_,rfl⟩ (.cons ⟨_,rfl⟩ (.cons ⟨_,rfl⟩ (.cons ⟨_,rfl⟩ (.cons ⟨_,rfl⟩ (.cons ⟨_,rfl⟩ (.cons ⟨_,rfl⟩ .nil)))))))⟩,gn L,gn Zx,gn p,gn b,gn Z,gn o,gn N,gm aN,gm aT,gm aP,gm aM,xN,xT,xP,xM,⟨Zo,Zn,Zm,Zl⟩,Y0,YZ,YY⟩;have x:TxB K mg (q 2):=⟨gn L,gn g,gn N,gn z,gn Zw,gn o,gn y,gn p,gm aL,xL⟩;have TG:TxG K CG:=⟨⟨Zi,Zh,Zg,Zf⟩,U,u⟩;have TC:TxC K mg CC:=⟨⟨Zc,Zb,Za,Y9⟩,Y,J,gn Zv⟩;have TH:TxH K f:=⟨⟨Y6,Y5,Y4,Y3⟩,B,YX,S,Q,O,YW,D,I,A,t,R,E⟩;have TE:Le95.Txt K mg:=⟨gn L,gn Zu,gn p,gn o,gn y,gn Zt,gn Zv,gn g,gn Zs,gn b,gn Zq,gn Z,gn N,Zp⟩;have u1:∀ c∈zb3,XcK K (q c):=zeB ⟨by rw[YV];rfl,YU,YT,YS,q5,q6,YR,YQ⟩ ⟨by rw[YP];rfl,YO,YN,YM,q5,q6,YL,YK⟩ ⟨by rw[YJ];rfl,YI,YH,YG,q5,q6,YF,YE⟩;have u2:∀ c∈zb3,∀ d,d < 10→W.kitOne K (.ref (q c)) (.ref (q d))=some (decide (c=d)):=zeB (ziC YD YC YB YA Yz Yy Yx Yw Yv Yu) (ziC Yt Ys Yr Yq Yp Yo Yn Ym Yl Yk) (ziC Yj Yi Yh Yg Yf Ye Yd Yc Yb Ya);have u3:∀ c∈zb3,W.kitCls K (.ref (q c)) (.type "ValueError")=some true:=zeB (zft X9) (zft X8) (zft X7);have u4:∀ c∈zb3,W.exmOne K (.ref (q c)) (.ref CE)=some true:=zeB X6 X5 X4;have XX:XF K mg q CE:=⟨gn b,gn r,gm aP,gm aM,gm aL,gm aT,gm aN,gm a5,gm a6,gm a7,gm a8,gm a9,gm aE,u1,u2,u3,u4⟩;have bs:az K ds ["problem","most"] []:=bindD ys λ_ _ _ _ _ _ _ _=>⟨_,rfl,rfl⟩;have bv:az K dv ["problem","atoms","most"] []:=bindD3 yv λ_ _ _ _ _ _ _ _ _=>⟨_,rfl,rfl⟩;have b1:az K d1 ["text"] []:=y1.F.b1 λ_ _ _ _ _ _ _=>rfl;have b2:az K d2 ["word"] []:=y2.F.b1 λ_ _ _ _ _ _ _=>rfl;have b3:az K d3 ["word"] []:=y3.F.b1 λ_ _ _ _ _ _ _=>rfl;have b4:az K d4 ["parts"] []:=y4.F.b1 λ_ _ _ _ _ _ _=>rfl;have b5:az K d5 ["thing","things","most"] []:=y5.F.b3 λ_ _ _ _ _ _ _ _ _=>rfl;have b6:az K d6 ["given","groups"] []:=y6.F.b2 λ_ _ _ _ _ _ _ _=>rfl;have b7:az K d7 ["terms","groups"] []:=y7.F.b2 λ_ _ _ _ _ _ _ _=>rfl;have b8:az K d8 ["terms","given"] []:=y8.F.b2 λ_ _ _ _ _ _ _ _=>rfl;have b9:az K d9 ["links"] []:=y9.F.b1 λ_ _ _ _ _ _ _=>rfl;have b10:az K d10 ["many","links"] []:=Z9.F.b2 λ_ _ _ _ _ _ _ _=>rfl;have b11:az K d11 ["problem","number"] []:=Z8.F.b2 λ_ _ _ _ _ _ _ _=>rfl;have b12:az K d12 ["problem","held"] []:=Z7.F.b2 λ_ _ _ _ _ _ _ _=>rfl;have b13:az K d13 ["problem","held"] []:=Z6.F.b2 λ_ _ _ _ _ _ _ _=>rfl;have b14:az K d14 ["problem","held","found"] []:=Z5.F.b3 λ_ _ _ _ _ _ _ _ _=>rfl;have b15:az K d15 ["problem","held"] []:=Z4.F.b2 λ_ _ _ _ _ _ _ _=>rfl;have b16:az K d16 ["problem","held"] []:=Z3.F.b2 λ_ _ _ _ _ _ _ _=>rfl;have b17:az K d17 ["trail"] []:=Z2.F.b1 λ_ _ _ _ _ _ _=>rfl;have b18:az K d18 ["trail"] []:=Z1.F.b1 λ_ _ _ _ _ _ _=>rfl;have b19:az K d19 ["part","why","kept","level_of","last"] []:=Z0.F.b5 λ_ _ _ _ _ _ _ _ _ _ _=>rfl;have b20:az K d20 ["rows","trail","fails"] []:=ZZ.F.b3 λ_ _ _ _ _ _ _ _ _=>rfl;have b21:az K d21 ["problem","numbers"] []:=ZY.F.b2 λ_ _ _ _ _ _ _ _=>rfl;have b22:az K d22 ["problem","atoms"] []:=ZX.F.b2 λ_ _ _ _ _ _ _ _=>rfl;have b23:az K d23 ["_law_script","_law_k"] []:=ZW.F.b2 λ_ _ _ _ _ _ _ _=>rfl;have b24:az K d24 ["_law_e"] []:=ZV.F.b1 λ_ _ _ _ _ _ _=>rfl;have b25:az K d25 ["_law_problem","_law_atoms","_law_tuples","_law_choices"] []:=ZU.F.b4 λ_ _ _ _ _ _ _ _ _ _=>rfl;have b26:az K d26 ["_law_problem","_law_atoms","_law_due_here"] []:=ZT.F.b3 λ_ _ _ _ _ _ _ _ _=>rfl;have b27:az K d27 ["_law_many","_law_some","_law_rows","_law_never"] []:=ZS.F.b4 λ_ _ _ _ _ _ _ _ _ _=>rfl;have b28:az K d28 ["_law_first","_law_pick","_law_many"] []:=ZR.F.b3 λ_ _ _ _ _ _ _ _ _=>rfl;have b30:az K d30 ["self"] []:=ZP.F.b1 λ_ _ _ _ _ _ _=>rfl;have b31:az K d31 ["self","part"] []:=ZO.F.b2 λ_ _ _ _ _ _ _ _=>rfl;have b32:az K d32 ["self","name"] []:=ZN.F.b2 λ_ _ _ _ _ _ _ _=>rfl;have b33:az K d33 ["self","parts"] []:=ZM.F.b2 λ_ _ _ _ _ _ _ _=>rfl;have b34:az K d34 ["self"] []:=ZL.F.b1 λ_ _ _ _ _ _ _=>rfl;have b35:az K d35 ["self","plain","tables"] []:=ZK.F.b3 λ_ _ _ _ _ _ _ _ _=>rfl;have b36:az K d36 ["self","problem","most"] []:=ZJ.F.b3 λ_ _ _ _ _ _ _ _ _=>rfl;have b37:az K d37 ["self","part","why"] []:=ZI.F.b3 λ_ _ _ _ _ _ _ _ _=>rfl;have b38:az K d38 ["self","number","one","other"] []:=ZH.F.b4 λ_ _ _ _ _ _ _ _ _ _=>rfl;have b39:az K d39 ["self"] []:=ZG.F.b1 λ_ _ _ _ _ _ _=>rfl;have b40:az K d40 ["self","number","other"] []:=ZF.F.b3 λ_ _ _ _ _ _ _ _ _=>rfl;have b41:az K d41 ["self","part"] []:=ZE.F.b2 λ_ _ _ _ _ _ _ _=>rfl;have b42:az K d42 ["self"] []:=ZD.F.b1 λ_ _ _ _ _ _ _=>rfl;have b43:az K d43 ["self","line"] []:=ZC.F.b2 λ_ _ _ _ _ _ _ _=>rfl;have b44:az K d44 ["self","level"] []:=ZB.F.b2 λ_ _ _ _ _ _ _ _=>rfl;have b45:az K d45 ["self","fails"] []:=ZA.F.b2 λ_ _ _ _ _ _ _ _=>rfl;have b46:az K d46 ["self"] []:=Zz.F.b1 λ_ _ _ _ _ _ _=>rfl;have b47:az K d47 ["self"] []:=Zy.F.b1 λ_ _ _ _ _ _ _=>rfl;refine⟨_,ZQ.F.top λ_ _ _ _ _ _ _=>rfl,λbase _ _=>?_⟩;have MKI:Mk K C f30:=⟨Zk,ZP.a,ZP.i,Zj⟩;have MKG:Mk K CG f34:=⟨Ze,ZL.a,ZL.i,Zd⟩;have MKC:Mk K CC f35:=⟨Y8,ZK.a,ZK.i,Y7⟩;have MKH:Mk K f f36:=⟨Y2,ZJ.a,ZJ.i,Y1⟩;have G1:=zlB (P:=l.prog) (w:=w) (base:=base) y1.F T;have G2:=zlC y2.F T G1 b1 y1.k (y1.m X G);have G3:=zkG y3.F T G2 b2 y2.k (y2.m X G);have G4:=znN (P:=l.prog) (w:=w) (base:=base) y4.F T;have G5:=zmH (P:=l.prog) (w:=w) (base:=base) y5.F T;have G30:=znP (P:=l.prog) (w:=w) (base:=base) ZP.F T;have G31:=zkF (P:=l.prog) (w:=w) (base:=base) ZO.F T;have G32:=zmG ZN.F T G3 b3 y3.k (y3.m X G) G5 b5 y5.k (y5.m X G);have G33:=ok_row ZM.F T G31 b31 ZO.M G4 b4 y4.k (y4.m X G);have G34:=zmO (P:=l.prog) (w:=w) (base:=base) (mg:=mg) ZL.F TG;have G6:=zmN (P:=l.prog) (w:=w) (base:=base) y6.F x;have G7:=zmT (P:=l.prog) (w:=w) (base:=base) y7.F x;have G8:=zmI y8.F x MKG G34 b34 (gm aG) ⟨G6,b6,y6.k,y6.m X G⟩ ⟨G7,b7,y7.k,y7.m X G⟩;have G9:=ok_gof y9.F MKG G34 b34 (gm aG);have G10:=zmM Z9.F x ⟨G9,b9,y9.k,y9.m X G⟩;have G11:=zmE (P:=l.prog) (w:=w) (base:=base) Z8.F T;have G12:=zmL Z7.F ⟨G11,b11,Z8.k,Z8.m X G⟩;have G13:=zkD Z6.F T ⟨G8,b8,y8.k,y8.m X G⟩ ⟨G12,b12,Z7.k,Z7.m X G⟩;have G14:=zlG Z5.F T x ⟨G10,b10,Z9.k,Z9.m X G⟩ ⟨G11,b11,Z8.k,Z8.m X G⟩;have G15:=zlD Z4.F ⟨G13,b13,Z6.k,Z6.m X G⟩ ⟨G14,b14,Z5.k,Z5.m X G⟩;have G17:=Le95.ok_levels (P:=l.prog) (w:=w) (base:=base) (mg:=mg) Z2.F;have G18:=Le95.ok_part_levels Z1.F TE ⟨G17,b17,Z2.k,Z2.m X G⟩;have G19:=Le95.ok_is_replaced (P:=l.prog) (w:=w) (base:=base) Z0.F TE;have G20:=Le95.ok_learnt ZZ.F TE ⟨G18,b18,Z1.k,Z1.m X G⟩ ⟨G19,b19,Z0.k,Z0.m X G⟩;have G37:=znQ (P:=l.prog) (w:=w) (base:=base) (mg:=mg) ZI.F TH;have G38:=zmC (P:=l.prog) (w:=w) (base:=base) (mg:=mg) ZH.F TH;have G40:=zmP (P:=l.prog) (w:=w) (base:=base) (mg:=mg) ZF.F TH;have G41:=zkE ZE.F TH ZF.M G40 b40 ZI.M G37 b37;have G43:=ok_put ZC.F TH x ZH.M G38 b38;have G44:=ok_cut (P:=l.prog) (w:=w) (base:=base) ZB.F TH x;have G46:=zlF Zz.F TH x ZI.M G37 b37;have G47:=zit (P:=l.prog) (w:=w) (base:=base) Zy.F TH x;have G45:=zmJ ZA.F TH x ZI.M G37 b37 ZB.M G44 b44 ZC.M G43 b43 ⟨G20,b20,ZZ.k,ZZ.m X G⟩;have G42:=znR ZD.F TH x ZE.M G41 b41 ⟨G15,b15,Z4.k,Z4.m X G⟩;have G39:=zmS ZG.F TH x ZH.M G38 b38 ZI.M G37 b37 ZD.M G42 b42;have G36:=zmK (P:=l.prog) (w:=w) (base:=base) ZJ.F TH x T;have GH:HG l.prog w K mg base f C _ f36 f39 f45 f46 f42 f47 _ _ _ _ _ _:=⟨MKH,G36,b36,gm aH,ZG.M,G39,b39,ZA.M,G45,b45,Zz.M,G46,b46,ZD.M,G42,b42,Zy.M,G47,b47⟩;have Gs:=zlA (P:=l.prog) (w:=w) (base:=base) ys TH GH;have G35:=zmR (P:=l.prog) (w:=w) (base:=base) ZK.F TC;have G16:=zlE Z3.F T x TC MKC G35 b35 (gm aD) ⟨G10,b10,Z9.k,Z9.m X G⟩ ⟨G13,b13,Z6.k,Z6.m X G⟩;have G21:=znM ZY.F T MKI (gm aC) G30 b30;have G22:=ok_or (znV (P:=l.prog) (w:=w) (base:=base) ZX.F T x) (znU (P:=l.prog) (w:=w) (base:=base) ZX.F T x);have EV:EvG l.prog w K mg base C _ _ _ _ _ CC fs f16 f33 f22 f21 _ _ _ _ _:=⟨⟨Gs,bs,ys.k,gm ys.a⟩,⟨G16,b16,Z3.k,Z3.m X G⟩,ZM.M,G33,b33,⟨G22,b22,ZX.k,ZX.m X G⟩,⟨G21,b21,ZY.k,ZY.m X G⟩,⟨_,gm s6⟩⟩;have Gv:=zmQ (P:=l.prog) (w:=w) (base:=base) yv T x EV;have G24:=znO (P:=l.prog) (w:=w) (base:=base) ZV.F XX;have G25:=znS (P:=l.prog) (w:=w) (base:=base) ZU.F T x TC;have G26:=zmF ZT.F T x XX G24 (ZV.m X G) ZV.k b24 ⟨Gv,bv,yv.k,gm yv.a⟩ ⟨G25,b25,ZU.k,ZU.m X G⟩;have G27:=ok_due (P:=l.prog) (w:=w) (base:=base) ZS.F x;have G28:=zmD (P:=l.prog) (w:=w) (base:=base) ZR.F x (gn Zr);have G23:=znT (P:=l.prog) (w:=w) (base:=base) ZW.F T;have LL:LG l.prog w K mg base C _ _ _ _ f32 f33 f26 f27 _ _ _ _:=⟨G32,b32,ZN.M,G33,b33,ZM.M,⟨G26,b26,ZT.k,ZT.m X G⟩,⟨G27,b27,ZS.k,ZS.m X G⟩⟩;exact ok_law ZQ.F T (gn y) (gn Zs) (gn Zq) LL ⟨G23,b23,ZW.k,ZW.m X G⟩ ⟨G28,b28,ZR.k,ZR.m X G⟩ MKI (gm aC) G30 b30
def walk {l:W.OpenLaw}{q:Program}{b:List Str}{t:(Str→Option Value)→Heap→Prop}{i:World→Heap→Prop}{d:DefRec}{K:Params→W.Frag}(j:l.most=some 63)(c:d.params.defaults=[])
  (p:∀(w:World) (h:Heap),i w h→(K w.params).In h)
  (F:∀(w:World) (mg:Str→Option Value) (g:Addr) (h:Heap),(K w.params).In h→h.Ns mainGlobals mg→mg d.name=some (.ref g) →
   ∃ e:FuncData,(∀(s:Shared) (u:Value),BindsTo s e ⟨[u],[]⟩ [("_law_script",u)])∧∀ base:Heap,(K w.params).In base→base.Ns mainGlobals mg→aI l.prog w (K w.params) mg base CX0 12 g e ["_law_script"] (zg6 (K w.params))) :
  W.WalkO q b t i l.row.toRowW d [] (λf vs=>PySem.call f vs) :=
 L2.walk_of (n:=63) (k:=12) (x:="_law_script") (CX:=λ_=>CX0) (sp:=λw=>zg6 (K w.params)) j (by decide) c ⟨rfl,by decide,by decide,rfl⟩ p F (λ_ _ a ns o _ r=>⟨a,ns,rfl,r,o,λ_=>rfl⟩) λ_ _ _ _ _ z=>z
end K95
inductive PySem.W.Fast:Prop|tw8580282547612756031|tw4067320090880679855|tw17198144836292430847|tw8893999007880111874|tw14548515889350946990|tw4747761131462524446|tw2279020556777725488|tw3559356701594953126|tw4664356421753820460|tw6495606325435903287|tw7464047599870609068|tw15315893698272762046|tw3220463404743320603|tw13329311112608407039|tw18374139257586675722|tw3935233885296733963|tw14385514377180735483|tw5980100238785785636|tw6062468278934364005|tw6699742910530811525|tw18319633060488403506|tw3158503310443884262|tw858034495437464758|tw8048364677452148792|tw6799037526415866618|tw2019220753070704868|tw15736839474988473749|tw2267986958385846078|tw11542715835337661627|tw15226193149834391297|tw2624388473676899710|tw5015975642132313619|tw8903839282512482460|tw264834331858657679|tw7248028671996131144|tw2594467439299437462|tw937404834241995715|tw14648333508381031556|tw3677517605533571657|tw124384189989670555|tw14603791813176469593|tw14166967547072478272|tw6158668608023363616|tw5593539946025983969|tw6119815399360967358|tw4544133250887112477|tw4434938956046846667|tw8525068716489429395|tw2848188939057711711|tw8423578556897663027|tw76865785468289404|tw15610167791540490253|tw17908864892112419535|tw10812568717518155257|tw16508639642783587102|tw1928746013015799761|tw12865323027526828096|tw16214359562733990432|tw5620216223635762511|tw7657646672160033139|tw1284672574238170063|tw9699889847847644000|tw9914994664392818973|tw1019986350070023263|tw12586102870572022130|tw12477457168966418485|tw17824826011763515944|tw18394303122282087400|tw16864336685556277971|tw3099832195410445439|tw12404525889188322900|tw17612175917254023628|tw15214218478004904295|tw15467398766137845063|tw14562843052760497598|tw3115900249942049734|tw15334098495950908186|tw2117935219743094430|tw17428084234120960023|tw5565612435945652733|tw6320836064372965986|tw11939563902979076501|tw5611986053864230231|tw9591251460352414348|tw15049103553521914144|tw543992310631427740|tw6550559230993860796|tw16442134902829307042|tw16251942978327769146|tw1284108987766961312|tw9932897668242740929|tw16406371734042933404|tw17021932059917766476|tw7023184276161954795|tw15093382453406536650|tw12447608157715945471|tw13378062730335553379|tw14232925179981639387|tw5825856066290004960|tw16444379447204210231
namespace PySem.W.Fast
def tw12485065942713200722:=0
def tw14460340805052309582:=0
def tw7992134895865086270:=0
def tw7012423071375310069:=0
def tw1266325229406181036:=0
def tw9680273417990165390:=0
def tw13966407993858045658:=0
def tw11392088394286475692:=0
def tw5212840921219591272:=0
def tw4279363005704196813:=0
def tw6344678973854362103:=0
def tw3915761462592858889:=0
def tw6349600611409298550:=0
def tw7062993427389542808:=0
def tw6940331268472350671:=0
def tw8884951447562410224:=0
def tw17260453544424185350:=0
def tw17679901790933974424:=0
def tw8738745824340237765:=0
def tw17321875117693241747:=0
def tw612926871893820279:=0
def tw5998135226780745450:=0
def tw2190159271148583662:=0
def tw13917448241192094903:=0
def tw16238157076476349605:=0
def tw12654996581588009951:=0
def tw1278534709897909603:=0
def tw9485611442370680082:=0
def tw5399120257379912779:=0
def tw18370102532726095269:=0
def tw11107120543592035502:=0
def tw17123715879953884808:=0
def tw7361057061282065402:=0
def tw4937578986638338021:=0
def tw10349610301480052419:=0
def tw8687759465110390667:=0
def tw5228081470491134042:=0
def tw7076781843969557122:=0
def tw16683851570878821093:=0
def tw15937950332034271410:=0
def tw5342660046974518462:=0
def tw14830238557984295713:=0
def tw10334572987140944502:=0
def tw4244871001602079524:=0
def tw1187781294101591952:=0
def tw12544148405311054422:=0
def tw2560470571539353935:=0
def tw16975772985535421911:=0
def tw3171734413096129533:=0
def tw1150613166226009140:=0
def tw17338595638912014934:=0
def tw11145980618594473619:=0
def tw4251053554574951375:=0
def tw14009129838388307180:=0
def tw13224878786103167632:=0
def tw13371583728432428095:=0
def tw10915033487995155537:=0
def tw1716217911332900821:=0
def tw12998613630534930727:=0
def tw3696973728414147124:=0
def tw17853027942816398876:=0
def tw10127140406420397285:=0
def tw15465303611409916489:=0
def tw16908552121278903157:=0
def tw13047789195291735762:=0
def tw16280281723480921518:=0
def tw15463481695796796417:=0
def tw15757743664434665829:=0
def tw16728098421084378894:=0
def tw6183560787981055491:=0
def tw9408707074395612490:=0
def tw11354384302897031292:=0
def tw10046121078974237652:=0
def tw2975852132587067460:=0
def tw5642207392468416099:=0
def tw57117603192353801:=0
def tw16547325376187613642:=0
def tw3849295435695617264:=0
def tw11769793562666596944:=0
def tw5161481324719968838:=0
def tw10331726570236955127:=0
def tw2803606650416730682:=0
def tw6743319514504708949:=0
def tw323582208218888394:=0
def tw16548872671190002035:=0
def tw7268694234509215582:=0
def tw4443432757824950821:=0
def tw1852974159549746771:=0
def tw5474571065207955050:=0
def tw431473754226953168:=0
def tw415514410323935283:=0
def tw13121887182112032308:=0
def tw2636355938352493827:=0
def tw15389122645832217212:=0
def tw3539879229061909064:=0
def tw18297677086886940162:=0
def tw1607660544885659155:=0
def tw4532397980474166724:=0
def tw5242839937831608304:=0
def tw14358418254482838260:=0
def tw13092278936837986638:=0
def tw12734363495572146390:=0
def tw6189906466475925645:=0
def tw4945711202315759325:=0
def tw3895179529337069588:=0
def tw2531743171774079624:=0
def tw4420041231174324922:=0
def tw10955073313020856659:=0
def tw164863593577172836:=0
def tw4958930983198474370:=0
def tw3007101686980423748:=0
def tw7549701087159839168:=0
def tw7641536200890279170:=0
def tw13621285854699262922:=0
def tw12783932330943409677:=0
def tw1066102801641071579:=0
def tw8299052223448268653:=0
def tw5814254758680835383:=0
def tw9739835326037195910:=0
def tw15574411298381770937:=0
def tw9078623230752041611:=0
def tw11532332272472998937:=0
def tw9326721582474577330:=0
def tw15114605506521909098:=0
def tw3854550517104872234:=0
def tw8485727483734571757:=0
def tw14097787735164601003:=0
def tw14504304329940783528:=0
def tw6154694116538936171:=0
def tw1475933995523356999:=0
def tw13203209050279729835:=0
def tw8507789547509425984:=0
def tw5752299049407883161:=0
def tw4103712950098827033:=0
def tw4820897687368143187:=0
def tw14506374749273859762:=0
def tw5722583565608192421:=0
def tw1468468545222345067:=0
def tw16748694826137995841:=0
def tw13896278097494845780:=0
def tw2056310940161832444:=0
def tw10881161512083198771:=0
def tw15532213813867278674:=0
def tw5878047908552689627:=0
def tw12945722361219328789:=0
def tw2720825747386428574:=0
def tw10136895337494837054:=0
def tw16479417171611211601:=0
def tw2142980037345134179:=0
def tw15853326301799173063:=0
def tw3325110740479651738:=0
def tw16130750878656758973:=0
def tw11251558840225167720:=0
def tw8624438228277682778:=0
def tw10711353357241801860:=0
def tw2805766214904728228:=0
def tw6886901767898399856:=0
def tw16223919521236574208:=0
def tw10200074093542698242:=0
def tw16617674805552757228:=0
def tw16972857702358826628:=0
def tw13008967907371235794:=0
def tw1460317498835060702:=0
def tw5769780074330997655:=0
def tw3218787990793881258:=0
def tw9666671162798039507:=0
def tw13621151346009213967:=0
def tw14917606168119917659:=0
def tw16880678380070470812:=0
def tw8838687942774810770:=0
def tw13006435343967364248:=0
def tw4950103509789464952:=0
def tw6239837629591807939:=0
def tw8085355135626672669:=0
def tw18265635626431419405:=0
def tw11344978011220358085:=0
def tw15645594224538932647:=0
def tw580215741469514303:=0
def tw11546177779117578894:=0
def tw17861723054029603705:=0
def tw91559080737728203:=0
def tw8339222200901144415:=0
def tw5912006189461212133:=0
def tw5115414675226496627:=0
def tw7304113277096603861:=0
def tw10840453307982011263:=0
def tw18444788573393804319:=0
def tw10633027852607975307:=0
def tw5686583204417934329:=0
def tw10272282586259414812:=0
def tw14627321260817652086:=0
def tw3079809609603714012:=0
def tw13833597529767375147:=0
def tw7793026807029826067:=0
def tw6950418438190059361:=0
def tw5368269089937674268:=0
def tw2544724886808558501:=0
def tw12363641380112643633:=0
def tw14887790337676417446:=0
def tw7169190691128558702:=0
def tw10263139576190733413:=0
def tw13897090743864885539:=0
def tw12932377634174616170:=0
def tw11531759526410641885:=0
def tw7419532609081030827:=0
def tw6876762289360627404:=0
def tw10399386605225175686:=0
def tw13539368267623048819:=0
def tw10373946165298916306:=0
def tw17219265077029517907:=0
def tw9286360444597824018:=0
def tw1394934223328551667:=0
def tw2918117655399875763:=0
def tw4081180827927041013:=0
def tw15920830916704902465:=0
def tw16275773157361391893:=0
def tw15186175527848704789:=0
def tw5546251543656621896:=0
def tw10650007068872858698:=0
def tw17407387105973127718:=0
def tw1312748507973208815:=0
def tw1792793772319914918:=0
def tw5418694120644319259:=0
def tw13069036431739195256:=0
def tw7084063856527984648:=0
def tw16515073903573438848:=0
def tw14018123569574524883:=0
def tw3464894198599159736:=0
def tw2271019167078519656:=0
def tw10969924121958409406:=0
def tw7627087852552237126:=0
def tw8722991443190886581:=0
def tw5593632078261900491:=0
def tw12419736914054461460:=0
def tw17686953343295953857:=0
def tw11950017592001590489:=0
def tw392170303178829520:=0
def tw8729395309279249833:=0
def tw12548117912694843749:=0
def tw14401657467945100730:=0
def tw6649114135033509814:=0
def tw15418483115552507759:=0
def tw8677532505261077677:=0
def tw3069391339578686949:=0
def tw4640484658121000650:=0
def tw9410231969019702661:=0
def tw699106077635584333:=0
def tw16070105285799673232:=0
def tw1931095151430984436:=0
def tw13351571396883935397:=0
def tw3990834241297333888:=0
def tw7364696636563724669:=0
def tw9242334628736752834:=0
def tw6342372789249794100:=0
def tw7234278238319512068:=0
def tw7414270731331801734:=0
def tw18265794151013561678:=0
def tw5295484012855764830:=0
def tw3558641565349510748:=0
def tw10109852293010593005:=0
def tw18213452416200375665:=0
def tw17435619256388035509:=0
def tw14262458262730494195:=0
def tw4813766744173025914:=0
def tw773609491967808807:=0
def tw17333891932524822972:=0
def tw10831957753800155341:=0
def tw6889564216244367833:=0
def tw2112181939927717811:=0
def tw16625377431975103563:=0
def tw11893639975334252585:=0
def tw13631535176217874984:=0
def tw17214079122566788795:=0
def tw13180198215943458633:=0
def tw11740971883260068305:=0
def tw14072097062778742542:=0
def tw415827037303545392:=0
def tw12165042014925921343:=0
def tw1349777905368216870:=0
def tw2490725858144234584:=0
def tw1326760577013752174:=0
def tw6128821380050083846:=0
def tw15751695628726101844:=0
def tw8127584522615662769:=0
def tw11532972608555511745:=0
def tw4907022888316561144:=0
def tw2896346358427771674:=0
def tw781827000120644433:=0
def tw494949108667771707:=0
def tw585589803184170187:=0
def tw15762621885711984257:=0
def tw9264091771877792313:=0
def tw2200510770174547612:=0
def tw2751284636890634704:=0
def tw16546806974307616898:=0
def tw5174944199330251534:=0
def tw8195322535810894648:=0
def tw10612859651536903584:=0
def tw14415970806508903333:=0
def tw10318822506078884026:=0
def tw9497257450876348895:=0
def tw16790702131467439816:=0
def tw325202400713269305:=0
def tw13468295656559833530:=0
def tw12215674448723261003:=0
def tw14089539272775420923:=0
def tw9380166155085964851:=0
def tw7009917676118466523:=0
def tw14824889899544226609:=0
def tw13081784582588266153:=0
def tw6357214760515481346:=0
def tw12650811991634806800:=0
def tw17745230315360235814:=0
def tw519502006242653631:=0
def tw10863361941468551637:=0
def tw12358096585790881158:=0
def tw5056544940378575007:=0
def tw16456775837019392635:=0
def tw11262281862282836516:=0
def tw10505482461675065870:=0
def tw8641098338203568733:=0
def tw14419669856593194587:=0
def tw3840089030585422764:=0
def tw3014676613703594291:=0
def tw12472543775117277310:=0
def tw10766752483689581261:=0
def tw1544693210977711966:=0
def tw13641371405849629409:=0
def tw5145468587185892449:=0
def tw501623172533132076:=0
def tw17283788362287750089:=0
def tw12869400053839500559:=0
def tw13010978730958981809:=0
def tw16752201072743476201:=0
def tw17497572993724293092:=0
def tw11449394888013616125:=0
def tw7273706044157391704:=0
def tw6293024094129254686:=0
def tw17686790050861171556:=0
def tw14327586263547974417:=0
def tw15202332069618822152:=0
def tw12081957101823090712:=0
def tw16585518169040589333:=0
def tw4134387755982451235:=0
def tw17951150355599037261:=0
def tw16785626220785456906:=0
def tw18210000765093692825:=0
def tw179318455427636258:=0
def tw5504894917399866092:=0
def tw15905694824176852184:=0
def tw12465119010382190744:=0
def tw971841934359741725:=0
def tw10214465218931697388:=0
def tw14904446168791430603:=0
def tw12543958721456531346:=0
def tw5545598034189591457:=0
def tw6343070332906657229:=0
def tw10178700329631991244:=0
def tw16711118817439293453:=0
def tw15679089481129353570:=0
def tw11358237188821570645:=0
def tw12544729405650616236:=0
def tw8661111587795414626:=0
def tw6771109503934587775:=0
def tw9783094987366456481:=0
def tw6431379160015791184:=0
def tw15119730691285419820:=0
def tw1288463242165447840:=0
def tw704757812888105127:=0
def tw875854399303663807:=0
def tw4169658317044276909:=0
def tw5338203580474538600:=0
def tw7766852471959584819:=0
def tw4111148153574996142:=0
def tw994408899583530346:=0
def tw750901062435890640:=0
def tw12292850545716619937:=0
def tw17540526761351344442:=0
def tw14183881284700762799:=0
def tw17714756101090316881:=0
def tw10445676953439983748:=0
def tw3267767585862215349:=0
def tw17681893154931018907:=0
def tw15958312754397736418:=0
def tw6630716899696588412:=0
def tw3669517625687571919:=0
def tw14969188193925285342:=0
def tw6538385881815922493:=0
def tw3251692823530833721:=0
def tw7678078220256897307:=0
def tw14952658891864063081:=0
def tw3636748828658324400:=0
def tw17951872629295408410:=0
def tw16780396205482014200:=0
def tw1182739301720677811:=0
def tw2720057891065388166:=0
def tw298813228425443885:=0
def tw9690265479638629598:=0
def tw15423652204912108263:=0
def tw10654358931092351022:=0
def tw8946461787122431159:=0
def tw7915466528902975549:=0
def tw16228706310534321645:=0
def tw1679721526312324000:=0
def tw16725961767195594809:=0
def tw1599299961827309861:=0
def tw11300247383745545886:=0
def tw18003660234772314557:=0
def tw3846018701001007874:=0
def tw7576838648024742138:=0
def tw667269266047634693:=0
def tw6660035713670959579:=0
def tw12710846962372197255:=0
def tw1513113910079673349:=0
def tw10859703310369257444:=0
def tw17557347534639070824:=0
def tw677363631947860276:=0
def tw12474243301896646894:=0
def tw12980736819438535888:=0
def tw494062736647952851:=0
def tw9958239206831736706:=0
def tw1344972924520626751:=0
def tw10364256453448521089:=0
def tw16492212047031302890:=0
def tw16763136401414979908:=0
def tw17569065811087819018:=0
def tw7520224855032525223:=0
def tw14830464955417013299:=0
def tw10490146928013355039:=0
def tw1048130024688478829:=0
def tw4577874218746773819:=0
def tw4627095615835137987:=0
def tw9728781538895081770:=0
def tw970252961556953838:=0
def tw14637774025435459797:=0
def tw10838694980730711858:=0
def tw12470092878220283012:=0
def tw8684553782702923907:=0
def tw11502273458422147130:=0
def tw17780349296493220983:=0
def tw6467540815466371461:=0
def tw12968319239712478423:=0
def tw4426759737582243939:=0
def tw13387117976357646108:=0
def tw3121590641549785840:=0
def tw14862462185548233793:=0
def tw11898142770630563916:=0
def tw9814547250113600448:=0
def tw6342674619551748105:=0
def tw3742040219405730332:=0
def tw5609301247072084817:=0
def tw16535715468445922343:=0
def tw8246281180469633718:=0
def tw1323019831058210639:=0
def tw16664083137742581553:=0
def tw9505651255255820509:=0
def tw5649399272221199955:=0
def tw11535310992242322412:=0
def tw18386511579150755704:=0
def tw6168239625678695286:=0
def tw17986883323132735677:=0
def tw8036264111949243935:=0
def tw4728581486563810810:=0
def tw6360511323525862601:=0
def tw8844981593280224519:=0
def tw17645083449832238306:=0
def tw4716275871694504292:=0
def tw11204153355597305539:=0
def tw13958263519313848254:=0
def tw15620232367233398934:=0
def tw11692557471463385820:=0
def tw5036368074996088619:=0
def tw7549333694021835515:=0
def tw3403901735437270948:=0
def tw14081812505472328997:=0
def tw13993829449135317494:=0
def tw11465575907084549963:=0
def tw921602611627859289:=0
def tw18252731766402405694:=0
def tw15800738577054886751:=0
def tw11048126447723804216:=0
def tw17615099655639195031:=0
def tw9996259213333799:=0
def tw10314658216753425380:=0
def tw13933934881063720198:=0
def tw1060980025988453804:=0
def tw12661143828337152048:=0
def tw3479278273373173010:=0
def tw6372512517032215999:=0
end PySem.W.Fast
open PySem PySem.W PyProof.Rows
set_option maxRecDepth 100000 in
set_option maxHeartbeats 0 in
theorem PySem.Challenge.cw_yesorno_k95_atoms_refused_holds : PySem.Challenge.rw_yesorno_k95_atoms_refused.Holds := by
 w_on;o_law;k_head;(case hw=>w_witness2)
 k_fill
 refine K95.walk (l:=PySem.Challenge.rw_yesorno_k95_atoms_refused) rfl rfl (λw h Y=>W.kIn_of Y) ?F
 case F =>
  intro w mg fa h KX G hmg;apply K95.all_mk KX G hmg
  iterate 15 ·k_is
  iterate 29 ·exact L2.ft_in (by k_is) (by k_is) (by k_is) (by k_is)
  iterate 18 ·exact L2.fm_in (by k_is) (by k_is) (by k_is) (by k_is) (by k_is)
  iterate 26 ·k_is
  ·kit_is
  iterate 43 ·k_is
  iterate 5 ·k_exc
  iterate 20 ·k_is
  iterate 33 ·kit_is
  iterate 3 ·kts_exm
  iterate 2 ·exact K95.fd_in (by k_is) (by k_is) (by k_is) (by k_is) (by k_is)
