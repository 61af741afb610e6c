import PyProof.Rows.All
import Wide.All
import OpenK.AllK
import Wide.FinOn
import Lean
import PyProof.EqAt
import PyProof.EqKinds
import PyProof.TupleCall
import PySem.Challenge.RW_yesorno_k35_faults
set_option Elab.async false
set_option linter.all false
set_option compiler.extract_closed false
set_option genSizeOf false
set_option maxRecDepth 100000
set_option maxHeartbeats 8000000
theorem lM{α β}{l:List α}(f:α→β):(l.map f).length=l.length:=List.length_map f
theorem lAq{α}{a b:List α}:(a++b).length=a.length+b.length:=List.length_append
theorem mAq{α β}{f:α→β}{a b:List α}:(a++b).map f=a.map f++b.map f:=List.map_append
theorem lS{α}{a:α}:[a].length=1:=rfl
theorem mOq{α}{l:List α}{i:Nat}{a:α}(h:l[i]?=some a):a∈l:=List.mem_of_getElem? h
theorem mPq{α}{a:α}{s t:List α}(h:a∈s++t):a∈s∨a∈t:=List.mem_append.mp h
theorem mSq{α}{a b:α}(h:a∈[b]):a=b:=List.mem_singleton.mp h
theorem gEq{α}{i:Nat}{a:α}{l:List α}(h:l[i]?=some a):∃h,l[i]=a:=List.getElem?_eq_some_iff.mp h
theorem gG{α}{l:List α}{i:Nat}(h:i<l.length):l[i]?=some l[i]:=List.getElem?_eq_getElem h
theorem sAq{α}{l:List α}:l.toArray.size=l.length:=List.size_toArray
theorem nRq(n:Nat):n≤n:=Nat.le_refl n
theorem tO{α}{i:Nat}{l:List α}(h:l.length≤i):l.take i=l:=List.take_of_length_le h
theorem dTq{p:Prop}[Decidable p](h:p):decide p=true:=decide_eq_true h
theorem oDq{p:Prop}[Decidable p](h:decide p=true):p:=of_decide_eq_true h
theorem dFq{p:Prop}[Decidable p](h:¬p):decide p=false:=decide_eq_false h
theorem hG{h:PySem.Heap}{a:PySem.Addr}{u:PySem.Obj}(o:PySem.Obj)(e:h.get? a=some u):(h.push o).get? a=some u:=PySem.Heap.get?_push_of_some o e
theorem bL:PySem.bootBuiltins "len"=some (.builtin "len"):=PySem.boot_len
theorem hLq{h:PySem.Heap}{a:PySem.Addr}{o:PySem.Obj}(e:h.get? a=some o):a<h.objs.size:=PySem.Heap.lt_size e
namespace L2
open PySem PySem.Spec PyProof.Rows
abbrev Key:=Sum Int Str
def zgr:Key→Value→Bool
  | .inl k,v=>Value.isInt k v
  | .inr x,v=>Value.isStrOf x v
def keyH (w:World):Key→Int
  | .inl k=>hashInt k
  | .inr x=>hashStr w x
theorem zbx:∀ {k:Key} {v:Value},zgr k v=true→(∃ i t,k=Sum.inl i∧v=Value.int i t)∨(∃ x t,k=Sum.inr x∧v=Value.str x t)
  | .inl i,v,h=>by
    obtain⟨t,e⟩:=Value.isInt_shape (k:=i) (v:=v) h
    exact .inl ⟨i,t,rfl,e⟩
  | .inr x,v,h=>by
    obtain⟨t,e⟩:=Value.isStrOf_shape (x:=x) (v:=v) h
    exact .inr ⟨x,t,rfl,e⟩
theorem zlJ (i:Int) (t:Tok):zgr (.inl i) (.int i t)=true:=by simp [zgr,Value.isInt]
theorem zlI (x:Str) (t:Tok):zgr (.inr x) (.str x t)=true:=by simp [zgr,Value.isStrOf]
theorem key_ll (a b:Int):decide ((Sum.inl a:Key)=Sum.inl b)=(a == b):=by
  by_cases e:a=b
  · subst e;simp
  · have h:¬(Sum.inl a:Key)=Sum.inl b:=λq=>e (Sum.inl.inj q)
    rw[dFq h]
    exact(beq_eq_false_iff_ne.mpr e).symm
theorem key_rr (a b:Str):decide ((Sum.inr a:Key)=Sum.inr b)=decide (a=b):=by
  by_cases e:a=b
  · subst e;simp
  · have h:¬(Sum.inr a:Key)=Sum.inr b:=λq=>e (Sum.inr.inj q)
    rw[dFq h,dFq e]
theorem key_lr (a:Int) (b:Str):decide ((Sum.inl a:Key)=Sum.inr b)=false:=dFq (λq=>nomatch q)
theorem key_rl (a:Str) (b:Int):decide ((Sum.inr a:Key)=Sum.inl b)=false:=dFq (λq=>nomatch q)
def za8 (prog:Program) (w:World):PySem.KeyKind prog w Key where
  is:=zgr
  hash:=keyH w
  inj:=λv a b ha hb=>by
    rcases zbx ha with ⟨i,t,rfl,rfl⟩ | ⟨x,t,rfl,rfl⟩
    · rcases zbx hb with ⟨j,u,rfl,e⟩ | ⟨y,u,rfl,e⟩
      · injection e with e1 _;rw[e1]
      · exact nomatch e
    · rcases zbx hb with ⟨j,u,rfl,e⟩ | ⟨y,u,rfl,e⟩
      · exact nomatch e
      · injection e with e1 _;rw[e1]
  byValue:=λk v h=>by
    rcases zbx h with ⟨i,t,rfl,rfl⟩ | ⟨x,t,rfl,rfl⟩ <;> rfl
  pyHash:=λhv h=>by
    rcases zbx hv with ⟨i,t,rfl,rfl⟩ | ⟨x,t,rfl,rfl⟩
    · exact wpAny_pyHash_int h
    · exact wpAny_pyHash_str h
  eqBool:=λhu hv h=>by
    rcases zbx hu with ⟨i,t,rfl,rfl⟩ | ⟨x,t,rfl,rfl⟩
    · rcases zbx hv with ⟨j,u,rfl,rfl⟩ | ⟨y,u,rfl,rfl⟩
      · rw[key_ll]at h;exact wpAny_eqBool_int h
      · rw[key_lr]at h;exact SeqAt.EqAt.int_str i t y u _ _ _ _ h
    · rcases zbx hv with ⟨j,u,rfl,rfl⟩ | ⟨y,u,rfl,rfl⟩
      · rw[key_rl]at h;exact SeqAt.EqAt.str_int x t j u _ _ _ _ h
      · rw[key_rr]at h;exact wpAny_eqBool_str h
  «strs»:=λk x t v h=>by
    rcases zbx h with ⟨i,u,rfl,e⟩ | ⟨y,u,rfl,e⟩
    · exact nomatch e
    · injection e with e1 _
      subst e1
      cases v <;> rfl
theorem zjB (prog:Program) (w:World) (i:Int) (t:Tok):(za8 prog w).is (.inl i) (.int i t)=true:=zlJ i t
theorem zjA (prog:Program) (w:World) (x:Str) (t:Tok):(za8 prog w).is (.inr x) (.str x t)=true:=zlI x t
end L2
namespace L2
open PySem PySem.Spec PyProof.Rows
inductive V where
  | non | bl (b:Bool) | int (i:Int) | str (x:Str) | byt (b:Array UInt8) | flt (b:UInt64) | ref (a:Addr) | ty (n:String)
  deriving DecidableEq
def aY:V→Value→Prop
  | .non,u=>u=Value.none
  | .bl b,u=>u=Value.bool b
  | .int i,u=>∃ t,u=Value.int i t
  | .str x,u=>∃ t,u=Value.str x t
  | .byt b,u=>∃ t,u=Value.bytes b t
  | .flt b,u=>∃ t,u=Value.float b t
  | .ref a,u=>u=Value.ref a
  | .ty n,u=>u=Value.type n
abbrev aW:List V→List Value→Prop:=Paired aY
theorem aW.length {xs:List V} {us:List Value} (r:aW xs us):xs.length=us.length:=Paired.length r
theorem aW.get:∀ {xs:List V} {us:List Value} {i:Nat} {x:V},aW xs us→xs[i]?=some x→∃ u,us[i]?=some u∧aY x u
  | _,_,_,_,.nil,e=>by simp at e
  | _,_,0,_,.cons r _,e=>by simp at e;subst e;exact⟨_,rfl,r⟩
  | _,_,i+1,x,.cons _ t,e=>by
    obtain⟨u,h1,h2⟩:=aW.get (i:=i) (x:=x) t (by simpa using e)
    exact⟨u,by simpa using h1,h2⟩
theorem aW.append:∀ {xs ys:List V} {us ws:List Value},aW xs us→aW ys ws→aW (xs++ys) (us++ws)
  | _,_,_,_,.nil,s=>s
  | _,_,_,_,.cons r t,s=>.cons r (aW.append t s)
theorem aW.take:∀ {xs:List V} {us:List Value} (n:Nat),aW xs us→aW (xs.take n) (us.take n)
  | _,_,0,_=>.nil
  | _,_,_+1,.nil=>.nil
  | _,_,n+1,.cons r t=>.cons r (aW.take n t)
theorem aW.drop:∀ {xs:List V} {us:List Value} (n:Nat),aW xs us→aW (xs.drop n) (us.drop n)
  | _,_,0,r=>r
  | _,_,_+1,.nil=>.nil
  | _,_,n+1,.cons _ t=>aW.drop n t
def zda:Option V→Option Value→Prop
  | some v,some u=>aY v u
  | none,none=>True
  | _,_=>False
def KV {κ:Type}:List (κ × V)→List (κ × Value)→Prop:=Paired λ(p:κ × V) (q:κ × Value)=>p.1=q.1∧aY p.2 q.2
def kV:Key→V
  | .inl i=>.int i
  | .inr x=>.str x
inductive HO where
    | lst (xs:List V)
    | tup (xs:List V)
    | dK (kvs:List (Key × V)) | dT (kvs:List (List Key × V))
    | set (S:Int→Bool) (n:Nat)
    | ins (C dx:Addr) (fs:List (Str × V))
    | own (x:Addr)
    | xd (fs:List (Str × V))
    | met (f x:Addr)
    | rng (lo hi:Int)
    | frz (o:Obj) (u:HO)
    | tbl (ps:Array Value)
    | ext (φ:Heap→Prop)
abbrev Hp:=Addr→Option HO
def upd (H:Hp) (a:Addr) (o:HO):Hp:=λb=>if b=a then some o else H b
theorem af {H:Hp} {a:Addr} {o:HO}:upd H a o a=some o:=by unfold upd;rw[if_pos rfl]
theorem aD {H:Hp} {a b:Addr} {o:HO} (h:b≠a):upd H a o b=H b:=by unfold upd;rw[if_neg h]
theorem zmJ {H:Hp} {a:Addr} {o u:HO}:upd (upd H a o) a u=upd H a u:=by
  funext b;unfold upd;split <;> rfl
theorem zb2 {H:Hp} {a b:Addr} {o u:HO} (h:H a=some o) (h':H b=some u) (d:o≠u):a≠b:=by
  intro e;subst e;rw[h]at h';exact d (Option.some.inj h')
theorem zae {H:Hp} {a b:Addr} {o:HO} (h:H a=some o) (h':H b=none):a≠b:=by
  intro e;subst e;rw[h]at h';cases h'
def zeq (h:Heap) (a:Addr) (items:Array Value):Prop:=∃ o,h.get? a=some o∧(o.cls,o.dict)=(Value.type "tuple",none)∧∃ n,o.data=.seq items n
theorem zeq.up {h:Heap} {a:Addr} {items:Array Value} (x:zeq h a items):IsTup h a items:=let ⟨o,e,c,d⟩:=x;⟨o,e,(Prod.mk.inj c).1,d⟩
theorem zeq.lt {h:Heap} {a:Addr} {items:Array Value} (x:zeq h a items):a < h.objs.size:=x.up.lt
theorem zeq.new (h:Heap) (items:Array Value):zeq (h.push { cls:=.type "tuple",data:=.seq items }) h.objs.size items:=⟨_,Heap.get?_push_size _ rfl,rfl,_,rfl⟩
section
variable (P:Program) (w:World)
def zaE (H:Hp) (h:Heap) (a:Addr):HO→Prop
  | .lst xs=>xs.length≤sizeLine∧∃(its:List Value) (n:Nat),aW xs its∧h.get? a=some { cls:=.type "list",data:=.seq its.toArray n }
  | .tup xs=>xs.length≤sizeLine∧∃ its:List Value,aW xs its∧zeq h a its.toArray
  | .dK kvs=>kvs.length≤sizeLine∧(a == sysModules)=false∧∃ vs,KV kvs vs∧h.DictOf (za8 P w) a vs
  | .dT kvs=>kvs.length≤sizeLine∧(a == sysModules)=false∧∃ xs:List (List Key × Addr × Value),
      Paired (λ(p:List Key × V) (q:List Key × Addr × Value)=>p.1=q.1∧H q.2.1=some (.tup (p.1.map kV))∧aY p.2 q.2.2) kvs xs ∧
      ∃ o es ep,h.get? a=some o∧o.ExactDict∧o.data=.dict es ep∧es.toList=xs.map (entryOfKey (tupleKind (za8 P w)))∧(xs.map (·.1)).Nodup
  | .set S n=>h.SetOf (intKind P w) a S n
  | .ins C dx fs=>H dx=some (.own a)∧fs.length≤1000∧dx≠a∧h.get? a=some (PySem.W.instObj C dx) ∧
      ∃ mA,h.Ns1 dx mA∧(∀ f,zda (fs.lookup f) (mA f))∧PySem.Within mA (fs.map (·.1))
  | .own _=>∃ o,h.get? a=some o
  | .xd fs=>∃ mA,h.Ns1 a mA∧∀ f,zda (fs.lookup f) (mA f)
  | .rng lo hi=>∃ t u v,h.get? a=some { cls:=.type "range",data:=.fields #[.int lo t,.int hi u,.int 1 v] }
  | .frz o u=>h.get? a=some o∧zaE H h a u
  | .tbl ps=>h.get? a=some { cls:=.none,data:=.fields ps }
  | .met f x=>h.get? a=some (PySem.W.methodObj (.ref f) (.ref x))
  | .ext φ=>φ h∧(∃ o,h.get? a=some o)∧∀ h1 h2:Heap,φ h1→(∀ o,h1.get? a=some o→h2.get? a=some o)→φ h2
def HOk (H:Hp) (h:Heap):Prop:=∀ a o,H a=some o→zaE P w H h a o
end
section
variable {P:Program} {w:World} {H H':Hp} {h h':Heap} {a:Addr} {o:HO}
theorem zaE.lt (x:zaE P w H h a o):a < h.objs.size:=by
  cases o with
  | lst xs=>obtain⟨_,_,_,_,e⟩:=x;exact hLq e
  | tup xs=>obtain⟨_,_,_,p⟩:=x;exact p.lt
  | dK kvs=>obtain⟨_,_,_,_,o,_,_,e,_⟩:=x;exact hLq e
  | dT kvs=>obtain⟨_,_,_,_,o,_,_,e,_⟩:=x;exact hLq e
  | set S n=>obtain⟨o,_,_,_,e,_⟩:=x;exact hLq e
  | ins C dx fs=>obtain⟨_,_,_,e,_⟩:=x;exact hLq e
  | own y=>obtain⟨_,e⟩:=x;exact hLq e
  | xd fs=>obtain⟨_,⟨_,_,_,e,_⟩,_⟩:=x;exact hLq e
  | rng lo hi=>obtain⟨_,_,_,e⟩:=x;exact hLq e
  | frz ob u=>obtain⟨e,_⟩:=x;exact hLq e
  | tbl ps=>exact hLq (show h.get? a=some _ from x)
  | met f y=>exact hLq (show h.get? a=some _ from x)
  | ext φ=>obtain⟨_,⟨_,e⟩,_⟩:=x;exact hLq e
theorem Paired.mapP {α β:Type} {F G:α→β→Prop}:∀ {l₁:List α} {l₂:List β},Paired F l₁ l₂→(∀ a b,F a b→G a b)→Paired G l₁ l₂
  | _,_,.nil,_=>.nil
  | _,_,.cons r t,f=>.cons (f _ _ r) (Paired.mapP t f)
theorem zaE.stay (x:zaE P w H h a o) (k:∀ b u,(b=a∨H b=some (.own a))→h.get? b=some u→h'.get? b=some u)
    (ho:∀ b,H b=some (.own a)→H' b=some (.own a)) (ht:∀ b xs,H b=some (.tup xs)→H' b=some (.tup xs)):zaE P w H' h' a o:=by
  induction o with
  | lst xs=>obtain⟨z,its,n,r,e⟩:=x;exact⟨z,its,n,r,k _ _ (.inl rfl) e⟩
  | tup xs=>obtain⟨z,its,r,ob,e,c⟩:=x;exact⟨z,its,r,ob,k _ _ (.inl rfl) e,c⟩
  | dK kvs=>obtain⟨z,y,vs,r,ob,es,ep,e,c⟩:=x;exact⟨z,y,vs,r,ob,es,ep,k _ _ (.inl rfl) e,c⟩
  | dT kvs =>
    obtain⟨z,y,xs,r,ob,es,ep,e,c⟩:=x
    exact⟨z,y,xs,Paired.mapP r λp q z=>⟨z.1,ht _ _ z.2.1,z.2.2⟩,ob,es,ep,k _ _ (.inl rfl) e,c⟩
  | set S n=>obtain⟨ob,es,ep,t,e,c⟩:=x;exact⟨ob,es,ep,t,k _ _ (.inl rfl) e,c⟩
  | ins C dx fs =>
    obtain⟨d,z,ne,e,mA,⟨od,es,ep,e2,c⟩,r⟩:=x
    exact⟨ho _ d,z,ne,k _ _ (.inl rfl) e,mA,⟨od,es,ep,k _ _ (.inr d) e2,c⟩,r⟩
  | own y=>obtain⟨ob,e⟩:=x;exact⟨ob,k _ _ (.inl rfl) e⟩
  | xd fs=>obtain⟨mA,⟨od,es,ep,e,c⟩,r⟩:=x;exact⟨mA,⟨od,es,ep,k _ _ (.inl rfl) e,c⟩,r⟩
  | rng lo hi=>obtain⟨t,u,v,e⟩:=x;exact⟨t,u,v,k _ _ (.inl rfl) e⟩
  | frz ob u ih=>obtain⟨e,q⟩:=x;exact⟨k _ _ (.inl rfl) e,ih q⟩
  | tbl ps =>
    have e:h.get? a=some { cls:=.none,data:=.fields ps }:=x
    show h'.get? a=some { cls:=.none,data:=.fields ps }
    exact k a _ (.inl rfl) e
  | met f y =>
    have e:h.get? a=some (PySem.W.methodObj (.ref f) (.ref y)):=x
    show h'.get? a=some (PySem.W.methodObj (.ref f) (.ref y))
    exact k a _ (.inl rfl) e
  | ext φ=>obtain⟨p,⟨o,e⟩,st⟩:=x;exact⟨st _ _ p λo q=>k _ _ (.inl rfl) q,⟨o,k _ _ (.inl rfl) e⟩,st⟩
theorem HOk.lt (x:HOk P w H h) (e:H a=some o):a < h.objs.size:=(x a o e).lt
theorem HOk.fresh (x:HOk P w H h) (e:h.objs.size≤a):H a=none:=by
  cases q:H a with
  | none=>rfl
  | some u=>exact absurd (Nat.lt_of_lt_of_le (x.lt q) e) (Nat.lt_irrefl _)
theorem HOk.kept (x:HOk P w H h) (k:∀ b u,h.get? b=some u→h'.get? b=some u):HOk P w H h':=λa o e =>
  (x a o e).stay (λb u _ q=>k b u q) (λ_ q=>q) λ_ _ q=>q
theorem HOk.laid (x:HOk P w H h) (k:∀ b u,h.get? b=some u→h'.get? b=some u) (hp:h.objs.size≤a) (new:zaE P w (upd H a o) h' a o):HOk P w (upd H a o) h':=λb u e=>by
  have hn:=x.fresh hp
  by_cases hb:b=a
  · subst hb;rw[af]at e;cases e;exact new
  · rw[aD hb]at e
    exact(x b u e).stay (λc v _ q=>k c v q) (λc q=>by rw[aD (zae q hn)];exact q) λc xs q=>by rw[aD (zae q hn)];exact q
end
def Rd (H:Hp) (a:Addr) (u:HO):Prop:=H a=some u∨∃ o,H a=some (.frz o u)
theorem Rd.ok {P:Program} {w:World} {H:Hp} {h:Heap} {a:Addr} {u:HO} (r:Rd H a u) (x:HOk P w H h):zaE P w H h a u:=by
  rcases r with r | ⟨o,r⟩
  · exact x a u r
  · obtain⟨_,q⟩:=x a _ r
    exact q
def Mut:Option HO→Prop
  | some (.lst _)=>True
  | some (.dK _)=>True
  | some (.dT _)=>True
  | some (.set _ _)=>True
  | some (.ins _ _ _)=>True
  | some (.ext _)=>True
  | _=>False
section
variable {P:Program} {w:World} {H:Hp} {h h':Heap} {x e:Addr} {o':HO}
theorem HOk.write (ok:HOk P w H h) (mu:Mut (H x)) (he:e=x∨H e=some (.own x)) (k:∀ b u,b≠e→h.get? b=some u→h'.get? b=some u) (heo:∃ u,h'.get? e=some u)
    (new:zaE P w (upd H x o') h' x o'):HOk P w (upd H x o') h':=λb u q=>by
  have nown:∀ c y,H c=some (.own y)→c≠x:=λc y r z=>by subst z;rw[r]at mu;exact mu
  have ntup:∀ c xs,H c=some (.tup xs)→c≠x:=λc xs r z=>by subst z;rw[r]at mu;exact mu
  by_cases hb:b=x
  · subst hb;rw[af]at q;cases q;exact new
  · rw[aD hb]at q
    by_cases hbe:b=e
    · have q':H b=some (.own x):=by
        rcases he with z | z
        · exact absurd (hbe.trans z) hb
        · rw[hbe];exact z
      rw[q]at q';cases q'
      obtain⟨v,hv⟩:=heo
      exact⟨v,by rw[hbe];exact hv⟩
    · refine(ok b u q).stay (λc v hc r=>k c v ?_ r) (λc r=>by rw[aD (nown c b r)];exact r) λc xs r=>by rw[aD (ntup c xs r)];exact r
      rcases hc with rfl | hc
      · exact hbe
      · rintro rfl
        rcases he with z | z
        · exact nown c b hc z
        · rw[hc]at z;cases z;exact hb rfl
end
structure Un (fs ex:List Addr) (H H':Hp) (h h':Heap):Prop where
  keep:∀ b o,h.get? b=some o→H b=none→b∉fs→b∉ex→h'.get? b=some o
  slot:∀ b o,h.get? b=some o→H b=none→b∈fs→b∉ex→∃ sl,h'.get? b=some { o with slots:=sl }
  free:∀ b o,h.get? b=some o→H b=none→b∉ex→H' b=none
  there:∀ b o,h.get? b=some o→b∉ex→∃ o',h'.get? b=some o'
  tups:∀ b xs,H b=some (.tup xs)→H' b=some (.tup xs)
  frzs:∀ b o u,H b=some (.frz o u)→H' b=some (.frz o u)
  tbls:∀ b ps,H b=some (.tbl ps)→∃ more,H' b=some (.tbl (ps++more))
section
variable {fs fs' ex ex':List Addr} {H H1 H2:Hp} {h h1 h2 h':Heap} {a x e:Addr} {o:HO}
theorem Un.any (u:Un fs ex H H1 h h1) {b:Addr} {ob:Obj} (q:h.get? b=some ob) (n:H b=none) (hx:b∉ex):∃ sl,h1.get? b=some { ob with slots:=sl }:=by
  by_cases hb:b∈fs
  · exact u.slot b ob q n hb hx
  · exact⟨ob.slots,u.keep b ob q n hb hx⟩
theorem Un.trans (a:Un fs ex H H1 h h1) (b:Un fs ex H1 H2 h1 h2):Un fs ex H H2 h h2 where
  keep:=λc ob q n hc hx=>b.keep c ob (a.keep c ob q n hc hx) (a.free c ob q n hx) hc hx
  slot:=λc ob q n hc hx=>by
    obtain⟨sl,e1⟩:=a.slot c ob q n hc hx
    obtain⟨sl',e2⟩:=b.slot c _ e1 (a.free c ob q n hx) hc hx
    exact⟨sl',e2⟩
  free:=λc ob q n hx=>by
    obtain⟨o',e1⟩:=a.there c ob q hx
    exact b.free c o' e1 (a.free c ob q n hx) hx
  there:=λc ob q hx=>by
    obtain⟨o',e1⟩:=a.there c ob q hx
    exact b.there c o' e1 hx
  tups:=λc xs q=>b.tups c xs (a.tups c xs q)
  frzs:=λc ob xs q=>b.frzs c ob xs (a.frzs c ob xs q)
  tbls:=λc ps q=>by
    obtain⟨m1,e1⟩:=a.tbls c ps q
    obtain⟨m2,e2⟩:=b.tbls c _ e1
    exact⟨m1++m2,by rw[e2,Array.append_assoc]⟩
theorem Un.kept (k:∀ b u,h.get? b=some u→h'.get? b=some u):Un fs ex H H h h' :=
  ⟨λb ob q _ _ _=>k b ob q,λb ob q _ _ _=>⟨ob.slots,k b ob q⟩,λ_ _ _ n _=>n,λb ob q _=>⟨ob,k b ob q⟩,λ_ _ q=>q,λ_ _ _ q=>q,λ_ ps q=>⟨#[],by rw[q];simp⟩⟩
theorem Un.refl:Un fs ex H H h h:=Un.kept λ_ _ q=>q
theorem Un.laid (k:∀ b u,h.get? b=some u→h'.get? b=some u) (hp:h.objs.size≤a) (hn:H a=none):Un fs ex H (upd H a o) h h' where
  keep:=λb u q _ _ _=>k b u q
  slot:=λb u q _ _ _=>⟨u.slots,k b u q⟩
  free:=λb u q n _=>by rw[aD (Nat.ne_of_lt (Nat.lt_of_lt_of_le (hLq q) hp))];exact n
  there:=λb u q _=>⟨u,k b u q⟩
  tups:=λb xs q=>by rw[aD (zae q hn)];exact q
  frzs:=λb u xs q=>by rw[aD (zae q hn)];exact q
  tbls:=λb ps q=>⟨#[],by rw[aD (zae q hn),q];simp⟩
theorem Un.write (mu:Mut (H x)) (he:e=x∨H e=some (.own x)) (k:∀ b u,b≠e→h.get? b=some u→h'.get? b=some u) (heo:∃ u,h'.get? e=some u):Un fs ex H (upd H x o) h h':=by
  have hx:∀ b,H b=none→b≠x:=λb n z=>by subst z;rw[n]at mu;exact mu
  have hb:∀ b,H b=none→b≠e:=λb n z=>by
    subst z
    rcases he with r | r
    · exact hx b n r
    · rw[n]at r;cases r
  have hm:∀ b u,H b=some u→¬Mut (some u)→b≠x:=λb u q nm z=>by subst z;rw[q]at mu;exact nm mu
  refine⟨λb u q n _ _=>k b u (hb b n) q,λb u q n _ _=>⟨u.slots,k b u (hb b n) q⟩,λb u q n _=>by rw[aD (hx b n)];exact n,λb u q _=>?_,
    λb xs q=>by rw[aD (hm b _ q λz=>z)];exact q,λb u xs q=>by rw[aD (hm b _ q λz=>z)];exact q,λb ps q=>⟨#[],by rw[aD (hm b _ q λz=>z),q];simp⟩⟩
  by_cases hbe:b=e
  · subst hbe;exact heo
  · exact⟨u,k b u hbe q⟩
end
def trk (h:Heap) (H:Hp):List Addr:=(List.range h.objs.size).filter λa=>(H a).isSome
def zft (h:Heap) (H:Hp):Heap:=PySem.W.hideAll h (trk h H)
theorem zlN (h:Heap) (H:Hp):(zft h H).objs.size=h.objs.size:=PySem.W.hideAll_size _ _
theorem zmt {h:Heap} {H:Hp} {b:Addr} {o:Obj} (e:h.get? b=some o) (n:H b=none):(zft h H).get? b=some o :=
  PySem.W.hideAll_get _ e λhm=>by
    have q:(H b).isSome=true:=(List.mem_filter.mp hm).2
    rw[n]at q;simp at q
theorem znc {h:Heap} {H:Hp} {b:Addr} {o:Obj} (e:(zft h H).get? b=some o):h.get? b=some o∧H b=none:=by
  have e':h.get? b=some o:=PySem.W.of_hideAll (trk h H) e
  refine⟨e',?_⟩
  cases q:H b with
  | none=>rfl
  | some x =>
    have hm:b∈trk h H:=List.mem_filter.mpr ⟨List.mem_range.mpr (hLq e'),by simp [q]⟩
    have z:(zft h H).get? b=none:=PySem.W.hideAll_none (trk h H) hm
    rw[z]at e;cases e
def znu (g h:Heap) (L:Addr):List (Addr × Obj):=(List.range h.objs.size).filterMap λa=>if a=L∨(g.get? a).isSome=true then none else(h.get? a).map λo=>(a,o)
def zbV (g h:Heap) (L d:Addr):List (Addr × Obj):=(znu g h L).filter λp=>decide (p.1≠d)
end L2
namespace L2
open PySem PySem.Spec PyProof.Rows
structure Mod (K:PySem.W.Frag) (mg:Str→Option Value) (base:Heap):Prop where
  kin:K.In base
  glob:base.Ns mainGlobals mg
  blt:∃ mb,base.Ns builtinsNs mb∧∀ x:Str,x≠"__name__"→mb x=bootBuiltins x
  nolimit:base.NoLimit
structure Cx where
  prog:Program
  w:World
  K:PySem.W.Frag
  mg:Str→Option Value
  base:Heap
  A:Around
  N:List Str
  s₀:Shared
  H₀:Hp
  env:Env
  outer:List Env
  stack:List Env
  ex:List Addr
  fn:Str→Bool
  calm:Bool
  pn:List (Addr × Obj)
  xe:Value→Shared→Prop
def frs (l:List Env):List Addr:=l.filterMap (·.frame)
abbrev Cx.fs (X:Cx):List Addr:=frs X.outer
def Vis (sc:Scope) (x:Str):Prop:=sc.names.lookup x=some .local∨sc.names.lookup x=some .cell∨sc.names.lookup x=some .free
def Loc (sc:Scope) (x:Str):Prop:=sc.names.lookup x=some .local∨sc.names.lookup x=some .cell
def Look (env:Env) (h:Heap) (m:Str→Option Value) (x:Str) (u:Value):Prop :=
  (env.kindOf x=some .local∧m x=some u)∨((env.kindOf x=some .cell∨env.kindOf x=some .free)∧∃ c,env.cells.lookup x=some c∧h.IsCell c (some u))
structure Cx.Ok (X:Cx):Prop where
  mod:Mod X.K X.mg X.base
  kind:X.env.scope.kind=.function
  glob:X.env.globals=mainGlobals
  blt:X.env.builtins=builtinsNs
  above:X.s₀.heap.objs.size≤X.env.locals
  inj:∀ x y c,X.env.cells.lookup x=some c→X.env.cells.lookup y=some c→x=y
  has:∀ x,(X.env.kindOf x=some .cell∨X.env.kindOf x=some .free)→∃ c,X.env.cells.lookup x=some c
  cab:∀ x c,X.fn x=true→X.env.cells.lookup x=some c→X.s₀.heap.objs.size≤c
  hd:X.calm=true→X.A.handled=none
  frames:X.A.frames=some X.stack
  stk:X.stack=X.outer∨(X.stack=X.env :: X.outer∧X.env.frame=some X.env.locals)
  exf:∀ b∈X.ex,b≠X.env.locals∧∀ x c,X.env.cells.lookup x=some c→c≠b
  bs:∀ b o,X.base.get? b=some o→X.s₀.heap.get? b=some o∧X.H₀ b=none
  bsz:X.base.objs.size≤X.s₀.heap.objs.size
  noex:∀ b o,X.base.get? b=some o→b∉X.ex
  exfs:∀ b∈X.ex,b∉X.fs
  funs:X.s₀.heap.FunFrames X.base X.outer
  frf:∀ b∈X.fs,X.H₀ b=none
structure Inv (X:Cx) (pins:List (Addr × Obj)) (σ:List (Option V)) (H:Hp) (s:Shared):Prop where
  ok:X.Ok
  os:s.os=X.s₀.os
  bare:AllBare s.gens
  base:Un X.fs X.ex X.H₀ H X.s₀.heap s.heap
  loc:∃ m,s.heap.Ns X.env.locals m∧∀(i:Nat) (x:Str) (v:V),X.N[i]?=some x→σ[i]?=some (some v)→Vis X.env.scope x→∃ u,aY v u∧Look X.env s.heap m x u
  cell:∀ x c,X.env.cells.lookup x=some c→∃ v,s.heap.IsCell c v
  free:H X.env.locals=none
  freeC:∀ x c,X.env.cells.lookup x=some c→H c=none
  pin:∀ p∈X.pn++pins,s.heap.get? p.1=some p.2∧H p.1=none∧p.1≠X.env.locals∧p.1∉X.fs∧∀ v,p.2.data≠.cell v
  hok:HOk X.prog X.w H s.heap
  len:σ.length=X.N.length
section
variable {X:Cx} {pins:List (Addr × Obj)} {σ:List (Option V)} {H H':Hp} {s:Shared} {h':Heap}
theorem Cx.Ok.nofr (ok:X.Ok) {b:Addr} {o:Obj} (e:X.base.get? b=some o):b∉X.fs:=λhb=>by
  have:=(ok.funs.mem hb).1
  rw[e]at this;cases this
theorem Inv.bs (I:Inv X pins σ H s):∀ b o,X.base.get? b=some o→s.heap.get? b=some o∧H b=none:=λb o e =>
  ⟨I.base.keep b o (I.ok.bs b o e).1 (I.ok.bs b o e).2 (I.ok.nofr e) (I.ok.noex b o e),I.base.free b o (I.ok.bs b o e).1 (I.ok.bs b o e).2 (I.ok.noex b o e)⟩
theorem Inv.bk (I:Inv X pins σ H s):∀ b o,X.base.get? b=some o→s.heap.get? b=some o:=λb o e=>(I.bs b o e).1
theorem Inv.mod (I:Inv X pins σ H s):Mod X.K X.mg X.base:=I.ok.mod
theorem Inv.kIn (I:Inv X pins σ H s):X.K.In s.heap:=I.ok.mod.kin.keeps I.bk
theorem Inv.fr (I:Inv X pins σ H s):∃ m,Fr X.base X.env.locals s.heap m :=
  let ⟨m,hn,_⟩:=I.loc
  ⟨m,hn,I.bk,Nat.le_trans I.ok.bsz I.ok.above⟩
theorem Inv.lt (I:Inv X pins σ H s):X.env.locals < s.heap.objs.size:=let ⟨_,hn,_⟩:=I.loc;hn.lt
theorem Inv.sz (I:Inv X pins σ H s):X.s₀.heap.objs.size≤s.heap.objs.size:=Nat.le_trans I.ok.above (Nat.le_of_lt I.lt)
theorem Inv.nofs (I:Inv X pins σ H s) {a:Addr} (h:s.heap.objs.size≤a):a∉X.fs:=λhb=>by
  obtain⟨_,o,ho,_⟩:=I.ok.funs.mem hb
  exact absurd (Nat.lt_of_lt_of_le (hLq ho) (Nat.le_trans I.sz h)) (Nat.lt_irrefl _)
theorem Inv.cne (I:Inv X pins σ H s):∀ x c,X.env.cells.lookup x=some c→c≠X.env.locals:=λx c e z=>by
  obtain⟨v,o,ho,hd⟩:=I.cell x c e
  obtain⟨m,⟨o',es,ep,ho',hd',_⟩,_⟩:=I.loc
  rw[z,ho']at ho;cases ho;rw[hd']at hd;cases hd
theorem Inv.funs (I:Inv X pins σ H s):s.heap.FunFrames X.base X.outer:=by
  have all:∀(l:List Env),(∀ b∈frs l,b∈X.fs)→X.s₀.heap.FunFrames X.base l→s.heap.FunFrames X.base l:=by
    intro l
    induction l with
    | nil=>intro _ _;trivial
    | cons env r ih =>
      intro hs hl
      obtain⟨hk,⟨L,o,hf,hn,ho,hd⟩,hr⟩:=hl
      have hL:L∈X.fs:=hs L (by unfold frs;rw[List.filterMap_cons,hf];exact List.mem_cons_self)
      obtain⟨sl,e⟩:=I.base.slot L o ho (I.ok.frf L hL) hL λz=>I.ok.exfs L z hL
      exact⟨hk,⟨L,_,hf,hn,e,hd⟩,ih (λb hb=>hs b (by unfold frs;rw[List.filterMap_cons,hf];exact List.mem_cons_of_mem _ hb)) hr⟩
  exact all X.outer (λ_ hb=>hb) I.ok.funs
theorem Inv.stack (I:Inv X pins σ H s):s.heap.FunFrames X.base X.stack:=by
  rcases I.ok.stk with e | ⟨e,hf⟩
  · rw[e];exact I.funs
  · rw[e]
    obtain⟨m,hn,_⟩:=I.loc
    refine .cons (by rw[I.ok.kind];decide) hf hn ?_ I.funs
    exact Heap.get?_none_of_le (Nat.le_trans I.ok.bsz I.ok.above)
theorem Inv.stkSub (I:Inv X pins σ H s):∀ b∈frs X.stack,b∈X.env.locals :: X.fs:=λb hb=>by
  rcases I.ok.stk with e | ⟨e,hf⟩
  · rw[e]at hb;exact List.mem_cons_of_mem _ hb
  · rw[e]at hb
    unfold frs at hb
    rw[List.filterMap_cons,hf]at hb
    exact hb
theorem Inv.stkFree (I:Inv X pins σ H s):∀ b∈frs X.stack,H b=none:=λb hb=>by
  rcases List.mem_cons.mp (I.stkSub b hb) with e | hb
  · rw[e];exact I.free
  · obtain⟨_,o,ho,_⟩:=I.ok.funs.mem hb
    exact I.base.free b o ho (I.ok.frf b hb) λz=>I.ok.exfs b z hb
theorem Inv.step {g':Array GenState} {t':Nat} {d':Drawn} {ch:List Addr} (I:Inv X pins σ H s)
    (hch:∀ b∈ch,(b∈X.ex∨X.s₀.heap.objs.size≤b)∧b≠X.env.locals∧(∀ x c,X.env.cells.lookup x=some c→c≠b)∧∀ p∈X.pn++pins,p.1≠b)
    (keep:∀ b o,b≠X.env.locals→b∉X.fs→b∉ch→s.heap.get? b=some o→H b=none→h'.get? b=some o)
    (slot:∀ b o,b≠X.env.locals→b∈X.fs→b∉ch→s.heap.get? b=some o→H b=none→∃ sl,h'.get? b=some { o with slots:=sl }) (free:∀ b o,b∉ch→s.heap.get? b=some o→H b=none→H' b=none)
    (there:∀ b o,b∉ch→s.heap.get? b=some o→∃ o',h'.get? b=some o')
    (tups:∀ b xs,H b=some (.tup xs)→H' b=some (.tup xs)) (frzs:∀ b o u,H b=some (.frz o u)→H' b=some (.frz o u)) (tbls:∀ b ps,H b=some (.tbl ps)→∃ more,H' b=some (.tbl (ps++more)))
    (ns:∀ m,s.heap.Ns X.env.locals m→h'.Ns X.env.locals m) (hok:HOk X.prog X.w H' h') (hg:AllBare g') :
    Inv X pins σ H' { s with heap:=h',gens:=g',drawn:=d',toks:=t' }:=by
  have neL:∀ b o,X.s₀.heap.get? b=some o→b≠X.env.locals:=λb o e=>Nat.ne_of_lt (Nat.lt_of_lt_of_le (hLq e) I.ok.above)
  have neC:∀ b o,X.s₀.heap.get? b=some o→b∉X.ex→b∉ch:=λb o e hx hb=>by
    rcases(hch b hb).1 with z | z
    · exact hx z
    · exact absurd (Nat.lt_of_lt_of_le (hLq e) z) (Nat.lt_irrefl _)
  have cellK:∀ x c,X.env.cells.lookup x=some c→∀ v,s.heap.IsCell c v→h'.IsCell c v:=λx c e v ⟨o,ho,hd⟩=>by
    have nch:c∉ch:=λz=>(hch c z).2.2.1 x c e rfl
    by_cases hc:c∈X.fs
    · obtain⟨sl,q⟩:=slot c o (I.cne x c e) hc nch ho (I.freeC x c e)
      exact⟨_,q,hd⟩
    · exact⟨o,keep c o (I.cne x c e) hc nch ho (I.freeC x c e),hd⟩
  refine⟨I.ok,I.os,hg,⟨λb o e n hb hx=>?_,λb o e n hb hx=>?_,λb o e n hx=>?_,λb o e hx=>?_,λb xs e=>tups b xs (I.base.tups b xs e),λb o xs e=>frzs b o xs (I.base.frzs b o xs e),λb ps e=>?_⟩,?_,λx c e=>?_,?_,λx c e=>?_,λp hp=>?_,hok,I.len⟩
  · exact keep b o (neL b o e) hb (neC b o e hx) (I.base.keep b o e n hb hx) (I.base.free b o e n hx)
  · obtain⟨sl,e1⟩:=I.base.slot b o e n hb hx
    obtain⟨sl',e2⟩:=slot b _ (neL b o e) hb (neC b o e hx) e1 (I.base.free b o e n hx)
    exact⟨sl',e2⟩
  · obtain⟨o',e1⟩:=I.base.there b o e hx
    exact free b o' (neC b o e hx) e1 (I.base.free b o e n hx)
  · obtain⟨o',e1⟩:=I.base.there b o e hx
    exact there b o' (neC b o e hx) e1
  · obtain⟨m1,e1⟩:=I.base.tbls b ps e
    obtain⟨m2,e2⟩:=tbls b _ e1
    exact⟨m1++m2,by rw[e2,Array.append_assoc]⟩
  · obtain⟨m,hn,hl⟩:=I.loc
    refine⟨m,ns m hn,λi x v e1 e2 e3=>?_⟩
    obtain⟨u,r,l⟩:=hl i x v e1 e2 e3
    refine⟨u,r,?_⟩
    rcases l with l | ⟨k,c,e,z⟩
    · exact .inl l
    · exact .inr ⟨k,c,e,cellK x c e _ z⟩
  · obtain⟨v,z⟩:=I.cell x c e
    exact⟨v,cellK x c e v z⟩
  · obtain⟨m,⟨o,_,_,ho,_⟩,_⟩:=I.loc
    exact free _ o (λz=>(hch _ z).2.1 rfl) ho I.free
  · obtain⟨v,o,ho,hd⟩:=I.cell x c e
    exact free c o (λz=>(hch c z).2.2.1 x c e rfl) ho (I.freeC x c e)
  · obtain⟨e,n,ne,nf,d⟩:=I.pin p hp
    have nch:p.1∉ch:=λz=>(hch p.1 z).2.2.2 p hp rfl
    exact⟨keep p.1 p.2 ne nf nch e n,free p.1 p.2 nch e n,ne,nf,d⟩
theorem Inv.un {t':Nat} (I:Inv X pins σ H s) (u:Un X.fs [] H H' s.heap h') (hok:HOk X.prog X.w H' h'):Inv X pins σ H' { s with heap:=h',toks:=t' }:=by
  obtain⟨m,⟨o,es,ep,ho,r⟩,_⟩:=id I.loc
  obtain⟨sl,hL⟩:=u.any ho I.free (by simp)
  exact I.step (g':=s.gens) (d':=s.drawn) (ch:=[]) (λ_ z=>nomatch z) (λb o _ hb _ e n=>u.keep b o e n hb (by simp)) (λb o _ hb _ e n=>u.slot b o e n hb (by simp)) (λb o _ e n=>u.free b o e n (by simp)) (λb o _ e=>u.there b o e (by simp)) u.tups u.frzs u.tbls (λm' hm=>by
    obtain⟨o',es',ep',ho',r'⟩:=hm
    rw[ho]at ho';cases ho'
    exact⟨_,es',ep',hL,r'⟩) hok I.bare
theorem Inv.call {g':Array GenState} {t':Nat} {d':Drawn} {ch:List Addr} (I:Inv X pins σ H s) (u:Un (frs X.stack) ch H H' s.heap h') (hok:HOk X.prog X.w H' h') (hg:AllBare g')
    (hch:∀ b∈ch,(b∈X.ex∨X.s₀.heap.objs.size≤b)∧b≠X.env.locals∧(∀ x c,X.env.cells.lookup x=some c→c≠b)∧∀ p∈X.pn++pins,p.1≠b) :
    Inv X pins σ H' { s with heap:=h',gens:=g',drawn:=d',toks:=t' }:=by
  obtain⟨m,⟨o,es,ep,ho,r⟩,_⟩:=id I.loc
  obtain⟨sl,hL⟩:=u.any ho I.free λz=>(hch _ z).2.1 rfl
  exact I.step (ch:=ch) hch (λb o hL hb hc e n=>u.keep b o e n (λz=>(List.mem_cons.mp (I.stkSub b z)).elim hL hb) hc) (λb o _ _ hc e n=>u.any e n hc) (λb o hc e n=>u.free b o e n hc) (λb o hc e=>u.there b o e hc) u.tups u.frzs u.tbls (λm' hm=>by
    obtain⟨o',es',ep',ho',r'⟩:=hm
    rw[ho]at ho';cases ho'
    exact⟨_,es',ep',hL,r'⟩) hok hg
theorem Inv.turned {t':Nat} {it:Addr} (I:Inv X pins σ H s) (k:∀ b o,b≠it→s.heap.get? b=some o→h'.get? b=some o) (hn:H it=none) (hL:it≠X.env.locals)
    (h1:it∈X.ex∨X.s₀.heap.objs.size≤it) (h2:∀ x c,X.env.cells.lookup x=some c→c≠it) (h3:∀ p∈X.pn++pins,p.1≠it):Inv X pins σ H { s with heap:=h',toks:=t' }:=by
  have nit:∀ b u,H b=some u→b≠it:=λb u e z=>by rw[z,hn]at e;cases e
  refine I.step (g':=s.gens) (d':=s.drawn) (ch:=[it]) (λb hb=>?_) (λb o _ _ hc e _=>k b o (λz=>hc (by simp [z])) e) (λb o _ _ hc e _=>⟨o.slots,k b o (λz=>hc (by simp [z])) e⟩) (λ_ _ _ _ n=>n)
    (λb o hc e=>⟨o,k b o (λz=>hc (by simp [z])) e⟩) (λ_ _ e=>e) (λ_ _ _ e=>e) (λb ps e=>⟨#[],by rw[e];simp⟩) (λm hm=>?_) (λb u e=>?_) I.bare
  · have e:b=it:=by simpa using hb
    subst e
    exact⟨h1,hL,h2,h3⟩
  · obtain⟨o,es,ep,ho,r⟩:=hm
    exact⟨o,es,ep,k _ o (Ne.symm hL) ho,r⟩
  · refine(I.hok b u e).stay (λc v hc q=>k c v ?_ q) (λ_ q=>q) λ_ _ q=>q
    rcases hc with z | z
    · rw[z];exact nit b u e
    · exact nit c _ z
theorem Inv.tok (I:Inv X pins σ H s) (t:Nat):Inv X pins σ H { s with toks:=t }:=I.un (h':=s.heap) (t':=t) Un.refl I.hok
theorem Inv.kept {t':Nat} (I:Inv X pins σ H s) (k:∀ b u,s.heap.get? b=some u→h'.get? b=some u):Inv X pins σ H { s with heap:=h',toks:=t' }:=I.un (Un.kept k) (I.hok.kept k)
theorem Inv.laid {a:Addr} {o:HO} {t':Nat} (I:Inv X pins σ H s) (k:∀ b u,s.heap.get? b=some u→h'.get? b=some u) (hp:s.heap.objs.size≤a) (new:zaE X.prog X.w (upd H a o) h' a o) :
    Inv X pins σ (upd H a o) { s with heap:=h',toks:=t' }:=I.un (Un.laid k hp (I.hok.fresh hp)) (I.hok.laid k hp new)
theorem Inv.write {x e:Addr} {o:HO} {t':Nat} (I:Inv X pins σ H s) (mu:Mut (H x)) (he:e=x∨H e=some (.own x)) (k:∀ b u,b≠e→s.heap.get? b=some u→h'.get? b=some u) (heo:∃ u,h'.get? e=some u)
    (new:zaE X.prog X.w (upd H x o) h' x o):Inv X pins σ (upd H x o) { s with heap:=h',toks:=t' }:=I.un (Un.write mu he k heo) (I.hok.write mu he k heo new)
theorem Inv.pins_of {pins':List (Addr × Obj)} (I:Inv X pins σ H s) (h:∀ p∈pins',s.heap.get? p.1=some p.2∧H p.1=none∧p.1≠X.env.locals∧p.1∉X.fs∧∀ v,p.2.data≠.cell v):Inv X pins' σ H s :=
  ⟨I.ok,I.os,I.bare,I.base,I.loc,I.cell,I.free,I.freeC,λp hp=>(mPq hp).elim (λz=>I.pin p (List.mem_append_left _ z)) (h p),I.hok,I.len⟩
theorem zi4 {N:List Str} (hN:N.Nodup) {i j:Nat} {x:Str} (a:N[i]?=some x) (b:N[j]?=some x):i=j:=by
  obtain⟨h1,e1⟩:=gEq a
  obtain⟨h2,e2⟩:=gEq b
  exact(List.getElem_inj hN).mp (e1.trans e2.symm)
theorem zhZ {M:Model} {A:Around} {E:Value→Shared→Prop} {i:Nat} {x:Str} {v:V} {u:Value} {Q:Unit→Shared→Prop} (I:Inv X pins σ H s) (hN:X.N.Nodup) (hi:X.N[i]?=some x) (hx:Loc X.env.scope x) (r:aY v u)
    (h:∀ s',Inv X pins (σ.set i (some v)) H s'→(∃ a,Heap.SameBut a s.heap s'.heap∧(a=X.env.locals∨X.env.cells.lookup x=some a))→Q () s') (hf:X.fn x=true∨X.env.scope.names.lookup x=some .local:=by first | exact .inl rfl | exact .inr rfl | assumption):wpAny M A (storeName X.env x u) Q E s:=by
  obtain⟨m,hn,hl⟩:=id I.loc
  have hcls:(X.env.scope.kind == .class||(X.env.scope.kind == .module&&X.env.locals != X.env.globals))=false:=by rw[I.ok.kind];rfl
  have hiσ:i < σ.length:=by rw[I.len];exact(gEq hi).1
  have cne:=I.cne
  have tracked:∀ {a:Addr} {h':Heap},(∃ o,s.heap.get? a=some o∧H a=none)→Heap.SameBut a s.heap h'→HOk X.prog X.w H h':=λ{a h'} ha hs b ob e=>by
    obtain⟨_,_,hfree⟩:=ha
    refine(I.hok b ob e).stay (λc w' hc q=>(hs.2 c ?_).trans q) (λ_ q=>q) λ_ _ q=>q
    rintro rfl
    rcases hc with rfl | hc
    · rw[hfree]at e;cases e
    · rw[hfree]at hc;cases hc
  rcases hx with hk | hk
  · refine wpAny_storeName_local hk hn (λh' hn' hs=>?_) hcls
    obtain⟨oL,_,_,hoL,_⟩:=id hn
    refine h _ ⟨I.ok,I.os,I.bare,⟨λb o e n hb hx=>?_,λb o e n hb hx=>?_,I.base.free,λb o e hx=>?_,I.base.tups,I.base.frzs,I.base.tbls⟩,⟨_,hn',λj y v' e1 e2 e3=>?_⟩,λy c e=>?_,I.free,I.freeC,λp hp=>?_,tracked ⟨oL,hoL,I.free⟩ hs,by simpa using I.len⟩ ⟨_,hs,.inl rfl⟩
    · exact(hs.2 b (Nat.ne_of_lt (Nat.lt_of_lt_of_le (hLq e) I.ok.above))).trans (I.base.keep b o e n hb hx)
    · obtain⟨sl,e1⟩:=I.base.slot b o e n hb hx
      exact⟨sl,(hs.2 b (Nat.ne_of_lt (Nat.lt_of_lt_of_le (hLq e) I.ok.above))).trans e1⟩
    · obtain⟨o',e1⟩:=I.base.there b o e hx
      exact⟨o',(hs.2 b (Nat.ne_of_lt (Nat.lt_of_lt_of_le (hLq e) I.ok.above))).trans e1⟩
    · by_cases hj:j=i
      · subst hj
        rw[hi]at e1;cases e1
        rw[List.getElem?_set_self hiσ]at e2
        cases e2
        exact⟨u,r,.inl ⟨hk,by simp⟩⟩
      · rw[List.getElem?_set_ne (Ne.symm hj)]at e2
        obtain⟨u',r',q⟩:=hl j y v' e1 e2 e3
        refine⟨u',r',?_⟩
        rcases q with ⟨k,e⟩ | ⟨k,c,e,z⟩
        · refine .inl ⟨k,?_⟩
          have:y≠x:=λe=>hj (zi4 hN e1 (e ▸ hi))
          simp [this,e]
        · exact .inr ⟨k,c,e,z.sameBut hs (cne y c e)⟩
    · obtain⟨w',z⟩:=I.cell y c e
      exact⟨w',z.sameBut hs (cne y c e)⟩
    · obtain⟨e,n,ne,nf,d⟩:=I.pin p hp
      exact⟨(hs.2 p.1 ne).trans e,n,ne,nf,d⟩
  · have hfn:X.fn x=true:=by
      rcases hf with z | z
      · exact z
      · rw[z]at hk;cases hk
    obtain⟨c,hc⟩:=I.ok.has x (.inl hk)
    obtain⟨w',z⟩:=I.cell x c hc
    refine wpAny_storeName_cell I.ok.kind hk hc z (λh' hc' hs=>?_)
    obtain⟨oc,hoc,hocd⟩:=id z
    refine h { s with heap:=h' } ⟨I.ok,I.os,I.bare,⟨λb o e n hb hx=>?_,λb o e n hb hx=>?_,I.base.free,λb o e hx=>?_,I.base.tups,I.base.frzs,I.base.tbls⟩,⟨m,hn.sameBut hs (Ne.symm (cne x c hc)),λj y v' e1 e2 e3=>?_⟩,λy c' e=>?_,I.free,I.freeC,λp hp=>?_,tracked ⟨oc,hoc,I.freeC x c hc⟩ hs,by simpa using I.len⟩ ⟨c,hs,.inr hc⟩
    · exact(hs.2 b (Nat.ne_of_lt (Nat.lt_of_lt_of_le (hLq e) (I.ok.cab x c hfn hc)))).trans (I.base.keep b o e n hb hx)
    · obtain⟨sl,e1⟩:=I.base.slot b o e n hb hx
      exact⟨sl,(hs.2 b (Nat.ne_of_lt (Nat.lt_of_lt_of_le (hLq e) (I.ok.cab x c hfn hc)))).trans e1⟩
    · obtain⟨o',e1⟩:=I.base.there b o e hx
      exact⟨o',(hs.2 b (Nat.ne_of_lt (Nat.lt_of_lt_of_le (hLq e) (I.ok.cab x c hfn hc)))).trans e1⟩
    · by_cases hj:j=i
      · subst hj
        rw[hi]at e1;cases e1
        rw[List.getElem?_set_self hiσ]at e2
        cases e2
        exact⟨u,r,.inr ⟨.inl hk,c,hc,hc'⟩⟩
      · rw[List.getElem?_set_ne (Ne.symm hj)]at e2
        obtain⟨u',r',q⟩:=hl j y v' e1 e2 e3
        refine⟨u',r',?_⟩
        rcases q with q | ⟨k,c',e,z'⟩
        · exact .inl q
        · refine .inr ⟨k,c',e,z'.sameBut hs ?_⟩
          rintro rfl
          exact hj (zi4 hN e1 (I.ok.inj _ _ _ e hc ▸ hi))
    · by_cases hcc:c'=c
      · subst hcc;exact⟨_,hc'⟩
      · obtain⟨w2,z2⟩:=I.cell y c' e
        exact⟨w2,z2.sameBut hs hcc⟩
    · obtain⟨e,n,ne,nf,d⟩:=I.pin p hp
      refine⟨(hs.2 p.1 ?_).trans e,n,ne,nf,d⟩
      intro q
      rw[q,hoc]at e
      have q':oc=p.2:=Option.some.inj e
      exact d w' (by rw[←q'];exact hocd)
theorem ziT {M:Model} {A:Around} {E:Value→Shared→Prop} {i:Nat} {x:Str} {v:V} {u:Value} {Q:Unit→Shared→Prop} (I:Inv X pins σ H s) (hN:X.N.Nodup) (hi:X.N[i]?=some x) (hx:Loc X.env.scope x) (r:aY v u)
    (h:∀ s',Inv X pins (σ.set i (some v)) H s'→Q () s') (hf:X.fn x=true∨X.env.scope.names.lookup x=some .local:=by first | exact .inl rfl | exact .inr rfl | assumption):wpAny M A (storeName X.env x u) Q E s :=
  zhZ I hN hi hx r (λs' I' _=>h s' I') hf
theorem Inv.call' {s':Shared} {ch:List Addr} (I:Inv X pins σ H s) (ho:s'.os=s.os) (u:Un (frs X.stack) ch H H' s.heap s'.heap) (hok:HOk X.prog X.w H' s'.heap) (hg:AllBare s'.gens)
    (hch:∀ b∈ch,(b∈X.ex∨X.s₀.heap.objs.size≤b)∧b≠X.env.locals∧(∀ x c,X.env.cells.lookup x=some c→c≠b)∧∀ p∈X.pn++pins,p.1≠b):Inv X pins σ H' s':=by
  obtain⟨h',g',d',t',o'⟩:=s'
  have e:o'=s.os:=ho
  subst e
  exact I.call (g':=g') (t':=t') (d':=d') u hok hg hch
end
abbrev XK:=Value→Option Addr→Hp→Prop
abbrev St:=List (Option V)
abbrev VK:=V→Hp→Prop
abbrev TE:=St→Hp→VK→Prop
abbrev TT:=St→Hp→(Bool→Hp→Prop)→Prop
abbrev TA:=St→Hp→(List V→Hp→Prop)→Prop
structure zb9 where
  nx:St→Hp→Prop
  rt:VK
  bk:St→Hp→Prop:=λ_ _=>False
  ct:St→Hp→Prop:=λ_ _=>False
abbrev TS:=zb9→St→Hp→Prop
def EP (X:Cx) (pins:List (Addr × Obj)) (σ:St) (Q:VK) (u:Value) (s':Shared):Prop:=∃ v H',Inv X pins σ H' s'∧aY v u∧Q v H'
def TP (X:Cx) (pins:List (Addr × Obj)) (σ:St) (Q:Bool→Hp→Prop) (b:Bool) (s':Shared):Prop:=∃ H',Inv X pins σ H' s'∧Q b H'
def AP (X:Cx) (pins:List (Addr × Obj)) (σ:St) (Q:List V→Hp→Prop) (us:List Value) (s':Shared):Prop:=∃ vs H',Inv X pins σ H' s'∧aW vs us∧Q vs H'
def SP (X:Cx) (pins:List (Addr × Obj)) (D:zb9) (f:Flow) (s':Shared):Prop :=
  match f with
  | .next=>∃ σ' H',Inv X pins σ' H' s'∧D.nx σ' H'
  | .brk=>∃ σ' H',Inv X pins σ' H' s'∧D.bk σ' H'
  | .cont=>∃ σ' H',Inv X pins σ' H' s'∧D.ct σ' H'
  | .ret u=>∃ v σ' H',Inv X pins σ' H' s'∧aY v u∧D.rt v H'
def PE (X:Cx) (e:Expr) (t:TE):Prop :=
  ∀(pins:List (Addr × Obj)) (s:Shared) (σ:St) (H:Hp) (Q:VK),Inv X pins σ H s→t σ H Q→wpAny (model X.prog X.w) X.A (eval e X.env) (EP X pins σ Q) X.xe s
def PT (X:Cx) (e:Expr) (t:TT):Prop :=
  ∀(pins:List (Addr × Obj)) (s:Shared) (σ:St) (H:Hp) (Q:Bool→Hp→Prop),Inv X pins σ H s→t σ H Q→wpAny (model X.prog X.w) X.A (isTrue e X.env (eval e X.env)) (TP X pins σ Q) X.xe s
def PW (X:Cx) (e:Expr) (t:TT):Prop :=
  ∀(whole:Sem Value) (pins:List (Addr × Obj)) (s:Shared) (σ:St) (H:Hp) (Q:Bool→Hp→Prop),Inv X pins σ H s→t σ H Q→wpAny (model X.prog X.w) X.A (isTrue e X.env whole) (TP X pins σ Q) X.xe s
theorem PW.pt {X:Cx} {e:Expr} {t:TT} (h:PW X e t):PT X e t:=h _
def PA (X:Cx) (es:List Expr) (t:TA):Prop :=
  ∀(pos:Pos) (pins:List (Addr × Obj)) (s:Shared) (σ:St) (H:Hp) (Q:List V→Hp→Prop),Inv X pins σ H s→t σ H Q→wpAny (model X.prog X.w) X.A (spliced (backTo pos (starEach es X.env))) (AP X pins σ Q) X.xe s
def PS (X:Cx) (st:Stmt) (t:TS):Prop :=
  ∀(pins:List (Addr × Obj)) (s:Shared) (σ:St) (H:Hp) (D:zb9),Inv X pins σ H s→t D σ H→wpAny (model X.prog X.w) X.A (exec st X.env) (SP X pins D) X.xe s
def PSs (X:Cx) (st:List Stmt) (t:TS):Prop :=
  ∀(pins:List (Addr × Obj)) (s:Shared) (σ:St) (H:Hp) (D:zb9),Inv X pins σ H s→t D σ H→wpAny (model X.prog X.w) X.A (execs st X.env) (SP X pins D) X.xe s
theorem thn {α:Type} {t:Sem α} {Q Q':α→Shared→Prop} {M:Model} {A:Around} {E:Value→Shared→Prop} {s:Shared} (h:wpAny M A t Q E s) (hQ:∀ a s,Q a s→Q' a s):wpAny M A t Q' E s:=wpAny_mono h hQ λ_ _ x=>x
end L2
namespace L2
open PySem PySem.Spec PyProof.Rows
section
variable {X:Cx}
theorem bin {a b:Expr} {ta tb:TE} (ha:PE X a ta) (hb:PE X b tb) {pins:List (Addr × Obj)} {s:Shared} {σ:St} {H:Hp} {R:V→V→Hp→Prop} (I:Inv X pins σ H s) (h:ta σ H λx H1=>tb σ H1 λy H2=>R x y H2)
    {α:Type} {Q:α→Shared→Prop} {f:Value→Value→Sem α}
    (hf:∀ v u s2 x y H2,Inv X pins σ H2 s2→aY x v→aY y u→R x y H2→wpAny (model X.prog X.w) X.A (f v u) Q X.xe s2) :
    wpAny (model X.prog X.w) X.A (eval a X.env) (λv s₁=>wpAny (model X.prog X.w) X.A (eval b X.env) (λu s₂=>wpAny (model X.prog X.w) X.A (f v u) Q X.xe s₂) X.xe s₁) X.xe s:=by
  refine thn (ha pins s σ H _ I h) λv s1 ⟨x,H1,I1,r1,q1⟩=>?_
  refine thn (hb pins s1 σ H1 _ I1 q1) λu s2 ⟨y,H2,I2,r2,q2⟩=>?_
  exact hf v u s2 x y H2 I2 r1 r2 q2
inductive tVar (i:Nat):TE|m{σ H Q} v:σ[i]?=some (some v)→Q v H→tVar i σ H Q
def tC (v:V):TE:=λ_ H Q=>Q v H
theorem pe_var {i:Nat} {x:Str} {pos:Pos} (hN:X.N[i]?=some x) (hv:Vis X.env.scope x) (hd:(x == ("__debug__":Str))=false:=by decide) (hcd:(x == ("__classdict__":Str))=false:=by decide):PE X (.Name x pos) (tVar i):=by
  intro pins s σ H Q I h
  obtain⟨v,e,h⟩:=h
  obtain⟨m,hn,hl⟩:=I.loc
  obtain⟨u,r,l⟩:=hl i x v hN e hv
  have fin:EP X pins σ Q u s:=⟨v,H,I,r,h⟩
  rcases l with ⟨hk,hm⟩ | ⟨hk,c,hc,hcell⟩
  · exact wpAny_Name (wpAny_loadName_local I.ok.kind hk hn hm fin) hd
  · rcases hk with hk | hk
    · exact wpAny_Name (wpAny_loadName_cell I.ok.kind hk hc hcell fin) hd
    · exact wpAny_Name (wpAny_loadName_free I.ok.kind hk hc hcell fin hcd) hd
theorem ad {i j pos}:PE X (.Constant (.int i) j pos) (tC (.int i)):=λ_ _ _ H _ I h=>wpAny_Constant_int ⟨.int i,H,I.tok _,⟨_,rfl⟩,h⟩
theorem zav {b j pos}:PE X (.Constant (.bool b) j pos) (tC (.bl b)):=λ_ _ _ H _ I h=>Constant_bool ⟨.bl b,H,I,rfl,h⟩
theorem zbG {j pos}:PE X (.Constant .none j pos) (tC .non):=λ_ _ _ H _ I h=>Constant_none ⟨.non,H,I,rfl,h⟩
theorem zac {x j pos}:PE X (.Constant (.str x) j pos) (tC (.str x)):=λ_ _ _ H _ I h=>Calls.Constant_str ⟨.str x,H,I.tok _,⟨_,rfl⟩,h⟩
def Gl (X:Cx) (x:Str):Prop:=X.env.kindOf x=some .globalImplicit
theorem zgA {E:Value→Shared→Prop} {pins:List (Addr × Obj)} {s:Shared} {σ:St} {H:Hp} {x:Str} {u:Value} {pos:Pos} {Q:Value→Shared→Prop} (I:Inv X pins σ H s) (hg:Gl X x) (hm:X.mg x=some u) (h:Q u s)
    (hd:(x == ("__debug__":Str))=false:=by decide):wpAny (model X.prog X.w) X.A (eval (.Name x pos) X.env) Q E s :=
  Calls.Name_function_global I.ok.kind hg (Calls.loadGlobal_global (by rw[I.ok.glob];exact I.mod.glob.keeps I.bk) hm h) hd
theorem zdX {E:Value→Shared→Prop} {pins:List (Addr × Obj)} {s:Shared} {σ:St} {H:Hp} {x:Str} {u:Value} {pos:Pos} {Q:Value→Shared→Prop} (I:Inv X pins σ H s) (hg:Gl X x) (hm:X.mg x=none) (hv:bootBuiltins x=some u) (h:Q u s)
    (hn:x≠"__name__":=by decide) (hd:(x == ("__debug__":Str))=false:=by decide):wpAny (model X.prog X.w) X.A (eval (.Name x pos) X.env) Q E s:=by
  obtain⟨mb,h1,h2⟩:=I.mod.blt
  exact Calls.Name_function_global I.ok.kind hg (Calls.loadGlobal_builtin (by rw[I.ok.glob];exact I.mod.glob.keeps I.bk) hm (by rw[I.ok.blt];exact h1.keeps I.bk) ((h2 x hn).trans hv) h) hd
theorem zbW {x:Str} {v:V} {u:Value} {pos:Pos} (hg:Gl X x) (hm:X.mg x=some u) (r:aY v u) (hd:(x == ("__debug__":Str))=false:=by decide):PE X (.Name x pos) (tC v) :=
  λ_ _ _ H _ I h=>zgA I hg hm ⟨v,H,I,r,h⟩ hd
theorem zbt {x:Str} {v:V} {u:Value} {pos:Pos} (hg:Gl X x) (hm:X.mg x=none) (hv:bootBuiltins x=some u) (r:aY v u) (hn:x≠"__name__":=by decide) (hd:(x == ("__debug__":Str))=false:=by decide):PE X (.Name x pos) (tC v) :=
  λ_ _ _ H _ I h=>zdX I hg hm hv ⟨v,H,I,r,h⟩ hn hd
variable {a b:Expr} {ta tb:TE} {pos:Pos}
def PC (X:Cx) (op:CmpOp) (a b:Expr) (t:TE):Prop :=
  ∀(pins:List (Addr × Obj)) (s:Shared) (σ:St) (H:Hp) (Q:VK),Inv X pins σ H s→t σ H Q →
    wpAny (model X.prog X.w) X.A (eval a X.env) (λv s₁=>wpAny (model X.prog X.w) X.A (eval b X.env) (λu s₂=>wpAny (model X.prog X.w) X.A (compareOp op v u) (EP X pins σ Q) X.xe s₂) X.xe s₁) X.xe s
inductive isB:V→Hp→(Bool→Hp→Prop)→Prop|m{x H Q} c:x=.bl c→Q c H→isB x H Q
def tB (t:TE):TT:=λσ H Q=>t σ H λx H1=>isB x H1 Q
theorem ziH {op:CmpOp} {t:TE} (h:PC X op a b t) (h1:behindInMarks op b=false:=by first | exact nobehind _ (by decide) (by decide) | rfl):PT X (.Compare a [op] [b] pos) (tB t):=by
  intro pins s σ H Q I hw
  refine wpAny_isTrue_Compare1 (thn (h pins s σ H _ I hw) λv s1 h1=>thn h1 λu s2 h2=>thn h2 λc s3 ⟨x,H1,I1,r1,q1⟩=>?_) h1
  obtain⟨d,rfl,q⟩:=q1
  cases r1
  exact wpAny_truthy_bool ⟨H1,I1,q⟩
theorem zaI {e:Expr} {t:TE} (h:PE X e t) (he:∀ whole,isTrue e X.env whole=(do let v ←whole;standAt e.pos;holding [v] (truthy v)):=by intro _;rfl):PT X e (tB t):=by
  intro pins s σ H Q I hw
  refine isTrue_plain (thn (h pins s σ H _ I hw) λv s1 ⟨x,H1,I1,r1,q1⟩=>?_) (he _)
  obtain⟨d,rfl,q⟩:=q1
  cases r1
  exact wpAny_truthy_bool ⟨H1,I1,q⟩
variable {tA tB':TT} {zbV:List Expr}
def tAnd (t u:TT):TT:=λσ H Q=>t σ H λc H1=>if c=true then u σ H1 Q else Q false H1
def tOr (t u:TT):TT:=λσ H Q=>t σ H λc H1=>if c=true then Q true H1 else u σ H1 Q
def tNot (t:TT):TT:=λσ H Q=>t σ H λc H1=>Q (!c) H1
theorem zaV (ha:PT X a tA):PW X (.BoolOp .And [a] pos) tA:=by
  intro wh pins s σ H Q I h
  refine isTrue_and (thn (ha pins s σ H Q I h) λc s1 e=>?_)
  cases c with
  | true=>exact isTrue_and_nil e
  | false=>exact e
theorem za4 (ha:PT X a tA):PW X (.BoolOp .Or [a] pos) tA:=by
  intro wh pins s σ H Q I h
  refine isTrue_or (thn (ha pins s σ H Q I h) λc s1 e=>?_)
  cases c with
  | false=>exact isTrue_or_nil e
  | true=>exact e
theorem zaR (ha:PT X a tA) (hb:PW X (.BoolOp .And (b :: zbV) pos) tB'):PW X (.BoolOp .And (a :: b :: zbV) pos) (tAnd tA tB'):=by
  intro wh pins s σ H Q I h
  refine isTrue_and (thn (ha pins s σ H _ I h) λc s1 ⟨H1,I1,q1⟩=>?_)
  cases c with
  | true=>exact hb wh pins s1 σ H1 Q I1 q1
  | false=>exact⟨H1,I1,q1⟩
theorem zbc (ha:PT X a tA) (hb:PW X (.BoolOp .Or (b :: zbV) pos) tB'):PW X (.BoolOp .Or (a :: b :: zbV) pos) (tOr tA tB'):=by
  intro wh pins s σ H Q I h
  refine isTrue_or (thn (ha pins s σ H _ I h) λc s1 ⟨H1,I1,q1⟩=>?_)
  cases c with
  | true=>exact⟨H1,I1,q1⟩
  | false=>exact hb wh pins s1 σ H1 Q I1 q1
theorem zaS (ha:PT X a tA):PT X (.UnaryOp .Not a pos) (tNot tA):=by
  intro pins s σ H Q I h
  exact isTrue_not (ha pins s σ H (λc H1=>Q (!c) H1) I h)
def tAndV (ta tb:TE):TE:=λσ H Q=>ta σ H λx H1=>∃ c,x=.bl c∧if c=true then tb σ H1 Q else Q (.bl false) H1
def tOrV (ta tb:TE):TE:=λσ H Q=>ta σ H λx H1=>∃ c,x=.bl c∧if c=true then Q (.bl true) H1 else tb σ H1 Q
def tNotV (ta:TE):TE:=λσ H Q=>ta σ H λx H1=>∃ c,x=.bl c∧Q (.bl (!c)) H1
theorem zbs {op} {t:TE} (h:PE X a t):PE X (.BoolOp op [a] pos) t:=λpins s σ H Q I hw=>BoolOp_one (h pins s σ H Q I hw)
theorem zba (ha:PE X a ta) (hb:PE X (.BoolOp .And (b :: zbV) pos) tb):PE X (.BoolOp .And (a :: b :: zbV) pos) (tAndV ta tb):=by
  intro pins s σ H Q I h
  refine BoolOp_and (thn (ha pins s σ H _ I h) λv s1 ⟨x,H1,I1,r1,q1⟩=>?_)
  obtain⟨c,rfl,q1⟩:=q1
  cases r1
  refine wpAny_truthy_bool ?_
  cases c with
  | true=>exact hb pins s1 σ H1 Q I1 q1
  | false=>exact⟨.bl false,H1,I1,rfl,q1⟩
theorem pe_or (ha:PE X a ta) (hb:PE X (.BoolOp .Or (b :: zbV) pos) tb):PE X (.BoolOp .Or (a :: b :: zbV) pos) (tOrV ta tb):=by
  intro pins s σ H Q I h
  refine BoolOp_or (thn (ha pins s σ H _ I h) λv s1 ⟨x,H1,I1,r1,q1⟩=>?_)
  obtain⟨c,rfl,q1⟩:=q1
  cases r1
  refine wpAny_truthy_bool ?_
  cases c with
  | false=>exact hb pins s1 σ H1 Q I1 q1
  | true=>exact⟨.bl true,H1,I1,rfl,q1⟩
theorem zkS (ha:PE X a ta):PE X (.UnaryOp .Not a pos) (tNotV ta):=by
  intro pins s σ H Q I h
  refine UnaryOp_ (thn (ha pins s σ H _ I h) λv s1 ⟨x,H1,I1,r1,q1⟩=>?_)
  obtain⟨c,rfl,q1⟩:=q1
  cases r1
  exact not_of (wpAny_truthy_bool ⟨.bl (!c),H1,I1,rfl,q1⟩)
def tIf (t:TT) (ta tb:TE):TE:=λσ H Q=>t σ H λc H1=>if c=true then ta σ H1 Q else tb σ H1 Q
theorem zg7 {c:Expr} (hc:PT X c tA) (ha:PE X a ta) (hb:PE X b tb):PE X (.IfExp c a b pos) (tIf tA ta tb):=by
  intro pins s σ H Q I h
  refine wpAny_IfExp (thn (hc pins s σ H _ I h) λd s1 ⟨H1,I1,q1⟩=>?_)
  cases d with
  | true=>exact ha pins s1 σ H1 Q I1 q1
  | false=>exact hb pins s1 σ H1 Q I1 q1
end
end L2
namespace L2
open PySem PySem.Spec PyProof.Rows
def SqL (K:PySem.W.Frag) (H:Hp) (a:Addr) (xs:List V):Prop :=
  Rd H a (.lst xs) ∨
    ∃(o:Obj) (its:Array Value) (n:Nat),K.lookup a=some o∧o.cls=.type "list"∧o.dict=none∧o.data=.seq its n∧its.size≤sizeLine∧aW xs its.toList
def SqT (K:PySem.W.Frag) (H:Hp) (a:Addr) (xs:List V):Prop :=
  Rd H a (.tup xs) ∨
    ∃(o:Obj) (its:Array Value) (n:Nat),K.lookup a=some o∧(o.cls,o.dict)=(Value.type "tuple",none)∧o.data=.seq its n∧its.size≤sizeLine∧aW xs its.toList
def absV:Value→Option V
  | .none=>some .non
  | .bool b=>some (.bl b)
  | .int i _=>some (.int i)
  | .str x _=>some (.str x)
  | .bytes b _=>some (.byt b)
  | .float b _=>some (.flt b)
  | .ref a=>some (.ref a)
  | .type n=>some (.ty n)
  | _=>none
theorem aY.abs {x:V} {u:Value} (r:aY x u):absV u=some x:=by
  cases x with
  | non=>cases r;rfl
  | bl _=>cases r;rfl
  | int _=>obtain⟨t,rfl⟩:=r;rfl
  | str _=>obtain⟨t,rfl⟩:=r;rfl
  | byt _=>obtain⟨t,rfl⟩:=r;rfl
  | flt _=>obtain⟨t,rfl⟩:=r;rfl
  | ref _=>cases r;rfl
  | ty _=>cases r;rfl
theorem aY.inj {x y:V} {u:Value} (r:aY x u) (q:aY y u):x=y:=Option.some.inj (r.abs.symm.trans q.abs)
theorem aW.inj:∀ {xs ys:List V} {us:List Value},aW xs us→aW ys us→xs=ys
  | _,_,_,.nil,.nil=>rfl
  | _,_,_,.cons r t,.cons r' t'=>by rw[r.inj r',aW.inj t t']
section
variable {X:Cx} {pins:List (Addr × Obj)} {σ:St} {H:Hp} {s:Shared} {a:Addr} {xs ys:List V}
theorem SqL.of {K:PySem.W.Frag} (h:H a=some (.lst xs)):SqL K H a xs:=.inl (.inl h)
theorem SqT.of {K:PySem.W.Frag} (h:H a=some (.tup xs)):SqT K H a xs:=.inl (.inl h)
theorem Inv.list (I:Inv X pins σ H s) (h:SqL X.K H a xs):∃ its:List Value,aW xs its∧PlainL s.heap a its.toArray∧xs.length≤sizeLine:=by
  rcases h with h | ⟨o,its,n,hk,hc,hd,hs,hz,r⟩
  · obtain⟨z,its,n,r,e⟩:=h.ok I.hok
    exact⟨its,r,⟨_,n,e,rfl,rfl,rfl⟩,z⟩
  · refine⟨its.toList,r,⟨o,n,I.kIn a o hk,hc,hd,by simpa using hs⟩,?_⟩
    have e:=r.length
    simp only[Array.length_toList]at e
    lia
theorem Inv.tupD (I:Inv X pins σ H s) (h:SqT X.K H a xs):∃ its:List Value,aW xs its∧zeq s.heap a its.toArray∧xs.length≤sizeLine:=by
  rcases h with h | ⟨o,its,n,hk,hc,hs,hz,r⟩
  · obtain⟨z,its,r,p⟩:=h.ok I.hok
    exact⟨its,r,p,z⟩
  · refine⟨its.toList,r,⟨o,I.kIn a o hk,hc,n,by simpa using hs⟩,?_⟩
    have e:=r.length
    simp only[Array.length_toList]at e
    lia
theorem Inv.tuple (I:Inv X pins σ H s) (h:SqT X.K H a xs):∃ its:List Value,aW xs its∧IsTup s.heap a its.toArray∧xs.length≤sizeLine:=by
  obtain⟨its,r,p,z⟩:=I.tupD h
  exact⟨its,r,p.up,z⟩
theorem Inv.list_inj (I:Inv X pins σ H s) (h:SqL X.K H a xs) (h':SqL X.K H a ys):xs=ys:=by
  obtain⟨its,r,⟨o,n,e,_,_,d⟩,_⟩:=I.list h
  obtain⟨its',r',⟨o',n',e',_,_,d'⟩,_⟩:=I.list h'
  rw[e]at e';cases e'
  rw[d]at d'
  injection d' with d1 _
  have:its=its':=by simpa using congrArg Array.toList d1
  subst this
  exact r.inj r'
theorem Inv.tuple_inj (I:Inv X pins σ H s) (h:SqT X.K H a xs) (h':SqT X.K H a ys):xs=ys:=by
  obtain⟨its,r,⟨o,e,_,n,d⟩,_⟩:=I.tuple h
  obtain⟨its',r',⟨o',e',_,n',d'⟩,_⟩:=I.tuple h'
  rw[e]at e';cases e'
  rw[d]at d'
  injection d' with d1 _
  have:its=its':=by simpa using congrArg Array.toList d1
  subst this
  exact r.inj r'
end
abbrev Cx.wish (X:Cx) (E:Value→Shared→Prop):Cx:={ X with xe:=E }
abbrev Cx.nox (X:Cx):Cx:=X.wish λ_ _=>False
theorem Cx.Ok.wish {X:Cx} (ok:X.Ok) (E:Value→Shared→Prop):(X.wish E).Ok :=
  ⟨ok.mod,ok.kind,ok.glob,ok.blt,ok.above,ok.inj,ok.has,ok.cab,ok.hd,ok.frames,ok.stk,ok.exf,ok.bs,ok.bsz,ok.noex,ok.exfs,ok.funs,ok.frf⟩
theorem Cx.Ok.unwish {X:Cx} {E:Value→Shared→Prop} (ok:(X.wish E).Ok):X.Ok :=
  ⟨ok.mod,ok.kind,ok.glob,ok.blt,ok.above,ok.inj,ok.has,ok.cab,ok.hd,ok.frames,ok.stk,ok.exf,ok.bs,ok.bsz,ok.noex,ok.exfs,ok.funs,ok.frf⟩
section
variable {X:Cx} {pins:List (Addr × Obj)} {σ:St} {H:Hp} {s:Shared} {E:Value→Shared→Prop}
theorem Inv.wish (I:Inv X pins σ H s) (E:Value→Shared→Prop):Inv (X.wish E) pins σ H s:=⟨I.ok.wish E,I.os,I.bare,I.base,I.loc,I.cell,I.free,I.freeC,I.pin,I.hok,I.len⟩
theorem Inv.unwish (I:Inv (X.wish E) pins σ H s):Inv X pins σ H s:=⟨I.ok.unwish,I.os,I.bare,I.base,I.loc,I.cell,I.free,I.freeC,I.pin,I.hok,I.len⟩
theorem SP.unwish {D:zb9} {f:Flow} {s':Shared} (h:SP (X.wish E) pins D f s'):SP X pins D f s':=by
  cases f with
  | next=>obtain⟨σ',H',I,q⟩:=h;exact⟨σ',H',I.unwish,q⟩
  | brk=>obtain⟨σ',H',I,q⟩:=h;exact⟨σ',H',I.unwish,q⟩
  | cont=>obtain⟨σ',H',I,q⟩:=h;exact⟨σ',H',I.unwish,q⟩
  | ret u=>obtain⟨v,σ',H',I,r,q⟩:=h;exact⟨v,σ',H',I.unwish,r,q⟩
theorem PE.nox {e:Expr} {t:TE} (h:PE X.nox e t):PE X e t:=λpins s σ H Q I hw =>
  wpAny_mono (h pins s σ H Q (I.wish _) hw) (λ_ _ ⟨v,H',I',r,q⟩=>⟨v,H',I'.unwish,r,q⟩) λ_ _ z=>False.elim z
theorem PT.nox {e:Expr} {t:TT} (h:PT X.nox e t):PT X e t:=λpins s σ H Q I hw =>
  wpAny_mono (h pins s σ H Q (I.wish _) hw) (λ_ _ ⟨H',I',q⟩=>⟨H',I'.unwish,q⟩) λ_ _ z=>False.elim z
theorem PSs.nox {st:List Stmt} {t:TS} (h:PSs X.nox st t):PSs X st t:=λpins s σ H D I hw =>
  wpAny_mono (h pins s σ H D (I.wish _) hw) (λ_ _ q=>q.unwish) λ_ _ z=>False.elim z
end
section
variable {X:Cx} {st:Stmt} {zbV:List Stmt} {t u:TS} {e:Expr} {te:TE} {pos:Pos}
def tNext:TS:=λ⟨n,_,_,_⟩ σ H=>n σ H
def tSeq (t u:TS):TS:=λ⟨n,r,b,c⟩ σ H=>t ⟨u ⟨n,r,b,c⟩,r,b,c⟩ σ H
theorem aA:PSs X [] tNext:=λ_ _ σ H _ I h=>wpAny_execs_nil ⟨σ,H,I,h⟩
theorem ae (h1:PS X st t) (h2:PSs X zbV u):PSs X (st :: zbV) (tSeq t u):=by
  intro pins s σ H D I h
  refine wpAny_execs_cons (thn (h1 pins s σ H { D with nx:=u D } I h) λf s1 q=>?_)
  cases f with
  | next =>
    obtain⟨σ',H',I',q⟩:=q
    exact h2 pins s1 σ' H' D I' q
  | ret v=>exact q
  | brk=>exact q
  | cont=>exact q
theorem ag (h1:PS X st t):PSs X [st] t:=by
  intro pins s σ H D I h
  refine wpAny_execs_cons (thn (h1 pins s σ H D I h) λf s1 q=>?_)
  cases f with
  | next=>exact wpAny_execs_nil q
  | ret v=>exact q
  | brk=>exact q
  | cont=>exact q
theorem Inv.quiet {pins:List (Addr × Obj)} {σ:St} {H:Hp} {s:Shared} (I:Inv X pins σ H s):interactive X.env=false:=by simp [interactive,I.ok.kind]
def tDrop (te:TE):TS:=λ⟨n,_,_,_⟩ σ H=>te σ H λ_ H1=>n σ H1
theorem zap (he:PE X e te) (hs:swapsWith e none pos.line X.env=pure false:=by rfl):PS X (.Expr e pos) (tDrop te):=by
  intro pins s σ H D I h
  exact wpAny_Expr_any (thn (he pins s σ H _ I h) λv s1 ⟨x,H1,I1,r1,q1⟩=>⟨σ,H1,I1,q1⟩) I.quiet hs
def tRet (te:TE):TS:=λ⟨_,r,_,_⟩ σ H=>te σ H r
theorem ay (he:PE X e te):PS X (.Return (some e) pos) (tRet te):=by
  intro pins s σ H D I h
  exact wpAny_Return_some (thn (he pins s σ H _ I h) λv s1 ⟨x,H1,I1,r1,q1⟩=>⟨x,σ,H1,I1,r1,q1⟩)
def tRetN:TS:=λD _ H=>D.rt .non H
theorem zmX:PS X (.Return none pos) tRetN:=λ_ _ σ H _ I h=>wpAny_Return_none ⟨.non,σ,H,I,rfl,h⟩
def tIfS (c:TT) (t u:TS):TS:=λD σ H=>c σ H λb H1=>if b=true then t D σ H1 else u D σ H1
theorem aL {c:Expr} {a b:List Stmt} {tc:TT} (hc:PT X c tc) (ha:PSs X a t) (hb:PSs X b u):PS X (.If c a b pos) (tIfS tc t u):=by
  intro pins s σ H D I h
  refine wpAny_If (thn (hc pins s σ H _ I h) λd s1 ⟨H1,I1,q1⟩=>?_)
  cases d with
  | true=>exact ha pins s1 σ H1 D I1 q1
  | false=>exact hb pins s1 σ H1 D I1 q1
end
abbrev TG:=V→St→Hp→(St→Hp→Prop)→Prop
abbrev TGs:=List V→St→Hp→(St→Hp→Prop)→Prop
def PG (X:Cx) (target:Expr) (t:TG):Prop :=
  ∀(pins:List (Addr × Obj)) (s:Shared) (σ:St) (H:Hp) (v:V) (u:Value) (Q:St→Hp→Prop),Inv X pins σ H s→aY v u→t v σ H Q →
    wpAny (model X.prog X.w) X.A (assign target X.env u) (λ_ s'=>∃ σ' H',Inv X pins σ' H' s'∧Q σ' H') X.xe s
def PGs (X:Cx) (ts:List Expr) (t:TGs):Prop :=
  ∀(pins:List (Addr × Obj)) (s:Shared) (σ:St) (H:Hp) (vs:List V) (us:List Value) (Q:St→Hp→Prop),Inv X pins σ H s→aW vs us→t vs σ H Q →
    wpAny (model X.prog X.w) X.A (assignInOrder ((assignEach ts X.env).map (·.2)) us) (λ_ s'=>∃ σ' H',Inv X pins σ' H' s'∧Q σ' H') X.xe s
section
variable {X:Cx} {pos:Pos}
def zcl (i:Nat):TG:=λv σ H Q=>Q (σ.set i (some v)) H
theorem zaj {i:Nat} {x:Str} (hN:X.N.Nodup) (hi:X.N[i]?=some x) (hx:Loc X.env.scope x) (hf:X.fn x=true∨X.env.scope.names.lookup x=some .local:=by first | exact .inl rfl | exact .inr rfl | assumption):PG X (.Name x pos) (zcl i):=by
  intro pins s σ H v u Q I r h
  exact wpAny_assign_Name (ziT I hN hi hx r (λs' I'=>⟨_,H,I',h⟩) hf)
def gNil:TGs:=λvs σ H Q=>vs=[]∧Q σ H
inductive gCons (t:TG) (u:TGs):TGs|m{vs σ H Q} v r:vs=v :: r→(t v σ H λσ' H'=>u r σ' H' Q)→gCons t u vs σ H Q
theorem zm0:PGs X [] gNil:=by
  intro pins s σ H vs us Q I r h
  obtain⟨e,h⟩:=h
  subst e
  cases r
  exact assignInOrder_nil ⟨σ,H,I,h⟩
theorem ziW {e:Expr} {es:List Expr} {t:TG} {u:TGs} (h1:PG X e t) (h2:PGs X es u)
    (hs:(assignEach (e :: es) X.env).map (·.2)=assign e X.env :: (assignEach es X.env).map (·.2):=by rfl):PGs X (e :: es) (gCons t u):=by
  intro pins s σ H vs us Q I r h
  obtain⟨v,vr,e1,h⟩:=h
  subst e1
  cases r with
  | cons r rr =>
    rw[hs]
    refine assignInOrder_cons (thn (h1 pins s σ H _ _ _ I r h) λ_ s1 ⟨σ1,H1,I1,q1⟩=>?_)
    exact h2 pins s1 σ1 H1 _ _ Q I1 rr q1
inductive gTup (K:PySem.W.Frag) (n:Nat) (t:TGs):TG|m{v σ H Q} a xs:v=.ref a→SqT K H a xs→xs.length=n→t xs σ H Q→gTup K n t v σ H Q
theorem pg_tup {es:List Expr} {k:Nat} {t:TGs} {n:Nat} (hc:X.calm=true) (h:PGs X es t)
    (hn:(assignEach es X.env).length=n:=by rfl) (hst:(assignEach es X.env).findIdx? (·.1)=none:=by rfl):PG X (.Tuple es k pos) (gTup X.K n t):=by
  intro pins s σ H v u Q I r hw
  obtain⟨a,xs,e1,hq,hl,hw⟩:=hw
  subst e1
  cases r
  obtain⟨its,rv,ht,hz⟩:=I.tuple hq
  refine assign_Tuple_tuple (I.ok.hd hc) ht (by simp [hn,←hl,rv.length]) hst λh' hx=>?_
  have I1:Inv X pins σ H { s with heap:=h' }:=I.kept (t':=s.toks) λb o e=>hx b o (Nat.ne_of_lt (hLq e)) e
  exact h pins _ σ H xs _ Q I1 (by simpa using rv) hw
def tAsg (te:TE) (g:TG):TS:=λ⟨n,_,_,_⟩ σ H=>te σ H λx H1=>g x σ H1 n
theorem aE {i:Nat} {x:Str} {e:Expr} {te:TE} {pos':Pos} (hN:X.N.Nodup) (hi:X.N[i]?=some x) (hx:Loc X.env.scope x) (he:PE X e te) (hs:swapsWith e (some (.Name x pos')) pos.line X.env=pure false:=by rfl) (hf:X.fn x=true∨X.env.scope.names.lookup x=some .local:=by first | exact .inl rfl | exact .inr rfl | assumption) :
    PS X (.Assign [.Name x pos'] e pos) (tAsg te (zcl i)):=by
  intro pins s σ H D I h
  refine wpAny_Assign_Name (thn (he pins s σ H _ I h) λv s1 ⟨y,H1,I1,r1,q1⟩=>?_) hs
  exact ziT I1 hN hi hx r1 (λs2 I2=>⟨_,H1,I2,q1⟩) hf
end
section
variable {X:Cx} {pos:Pos}
end
structure It where
  go:Nat→Hp→Prop
  yld:Nat→Hp→V→Hp→Prop
  stop:Nat→Hp→Prop
def zcv (X:Cx) (pins:List (Addr × Obj)) (H:Hp) (b:Addr):Prop :=
  H b=none∧b≠X.env.locals∧b∉X.fs∧(b∈X.ex∨X.s₀.heap.objs.size≤b)∧(∀ x c,X.env.cells.lookup x=some c→c≠b)∧∀ p∈X.pn++pins,p.1≠b
theorem Inv.fpOk {X:Cx} {pins:List (Addr × Obj)} {σ:St} {H H':Hp} {s:Shared} {b:Addr} (I:Inv X pins σ H s) (hb:s.heap.objs.size≤b) (hn:H' b=none):zcv X pins H' b:=by
  refine⟨hn,Nat.ne_of_gt (Nat.lt_of_lt_of_le I.lt hb),I.nofs hb,.inr (Nat.le_trans I.sz hb),λx c e z=>?_,λp hp z=>?_⟩
  · obtain⟨v,q⟩:=I.cell x c e
    exact absurd (Nat.lt_of_lt_of_le q.lt (by rw[z];exact hb)) (Nat.lt_irrefl _)
  · exact absurd (Nat.lt_of_lt_of_le (hLq (I.pin p hp).1) (by rw[z];exact hb)) (Nat.lt_irrefl _)
structure zgS (P:Program) (w:World) (K:PySem.W.Frag) (tg:Expr) (J:It) (fp:List Addr) (it:Addr) (tn:Nat→Heap→Prop):Prop where
  mem:it∈fp
  obj:∀ i h,tn i h→∀ b∈fp,∃ o,h.get? b=some o∧∀ v,o.data≠.cell v
  keep:∀ i h h',tn i h→(∀ b∈fp,∀ o,h.get? b=some o→h'.get? b=some o)→tn i h'
  item:∀(X:Cx),X.prog=P→X.w=w→X.K=K→X.calm=true→∀(i:Nat) (pins:List (Addr × Obj)) (s:Shared) (σ:St) (H:Hp) (E:Value→Shared→Prop),Inv X pins σ H s→(∀ b∈fp,zcv X pins H b)→tn i s.heap→J.go i H →
    wpAny (model P w) X.A (pyNext (.ref it)) (λr s1=>∃ u,r=some u ∧
      wpAny (model P w) X.A (letOwnedTupleGo tg (.ref it) u) (λ_ s2=>∃ x H',Inv X pins σ H' s2∧aY x u∧J.yld i H x H'∧tn (i+1) s2.heap∧∀ b∈fp,H' b=none) E s1) E s
  done:∀(X:Cx),X.prog=P→X.w=w→X.K=K→X.calm=true→∀(i:Nat) (pins:List (Addr × Obj)) (s:Shared) (σ:St) (H:Hp) (E:Value→Shared→Prop),Inv X pins σ H s→(∀ b∈fp,zcv X pins H b)→tn i s.heap→J.stop i H →
    wpAny (model P w) X.A (pyNext (.ref it)) (λr s1=>r=none∧Inv X pins σ H s1) E s
  self:∀(A:Around) (i:Nat) (s:Shared) (Q:Value→Shared→Prop) (E:Value→Shared→Prop),tn i s.heap→Q (.ref it) s→wpAny (model P w) A (pyIter (.ref it)) Q E s
abbrev TI:=St→Hp→(It→Hp→Prop)→Prop
def PIE (X:Cx) (pins:List (Addr × Obj)) (σ:St) (tg:Expr) (R:It→Hp→Prop) (itv:Value) (s2:Shared):Prop :=
  ∃(it:Addr) (fp:List Addr) (tn:Nat→Heap→Prop) (J:It) (H':Hp),itv=.ref it∧Inv X pins σ H' s2∧zgS X.prog X.w X.K tg J fp it tn∧tn 0 s2.heap∧(∀ b∈fp,zcv X pins H' b)∧R J H'
def PI (X:Cx) (tg iter:Expr) (wi:TI):Prop :=
  ∀(pins:List (Addr × Obj)) (s:Shared) (σ:St) (H:Hp) (R:It→Hp→Prop),Inv X pins σ H s→wi σ H R →
    wpAny (model X.prog X.w) X.A (eval iter X.env) (λv s1=>wpAny (model X.prog X.w) X.A (pyIter v) (PIE X pins σ tg R) X.xe s1) X.xe s
theorem zhj {M:Model} {A:Around} {E:Value→Shared→Prop} {s:Shared} {tg:Expr} {it:Addr} {u:Value} {o:Obj} {n:String} {vs:Array Value} {Q:Unit→Shared→Prop} (ho:s.heap.get? it=some o) (hc:o.cls=.type n) (hd:o.data=.fields vs)
    (hn:["enumerate","zip","dict_itemiterator","dict_reverseitemiterator","odict_iterator","itertools.zip_longest","itertools.pairwise"].contains n=false) (hQ:Q () s):wpAny M A (letOwnedTupleGo tg (.ref it) u) Q E s:=by
  unfold letOwnedTupleGo
  cases tg <;> first
    | exact wpAny_pure hQ
    | (cases u <;> first
        | exact wpAny_pure hQ
        | (refine wpAny_bind (wpAny_load ho ?_)
           rw[hc,hd]
           show wpAny M A (if(["enumerate","zip","dict_itemiterator","dict_reverseitemiterator","odict_iterator","itertools.zip_longest","itertools.pairwise"].contains n&&vs[0]? == some (rawInt _))=true then _ else _) Q E s
           rw[if_neg (by intro h;rw[hn,Bool.false_and]at h;cases h)]
           exact wpAny_pure hQ))
def Itl (K:PySem.W.Frag) (a:Addr):It :=
  ⟨λi H=>∃ xs x,SqL K H a xs∧xs[i]?=some x,λi H x H'=>H'=H∧∀ xs,SqL K H a xs→xs[i]?=some x,λi H=>∃ xs,SqL K H a xs∧xs.length≤i⟩
def Itt (K:PySem.W.Frag) (a:Addr):It :=
  ⟨λi H=>∃ xs x,SqT K H a xs∧xs[i]?=some x,λi H x H'=>H'=H∧∀ xs,SqT K H a xs→xs[i]?=some x,λi H=>∃ xs,SqT K H a xs∧xs.length≤i⟩
def Itr (lo:Int) (n:Nat):It:=⟨λi _=>i < n,λi H x H'=>H'=H∧x=.int (lo+i),λi _=>n≤i⟩
theorem zf4 {P:Program} {w:World} {K:PySem.W.Frag} {tg:Expr} (a it:Addr):zgS P w K tg (Itl K a) [it] it (λi h=>h.IsListIter it a i) where
  mem:=by simp
  obj:=λi h st b hb=>by
    have e:b=it:=by simpa using hb
    subst e
    obtain⟨o,e,c,d⟩:=st
    exact⟨o,e,λv z=>by rw[d]at z;cases z⟩
  keep:=λi h h' st k=>st.at λo e=>k it (by simp) o e
  item:=by
    intro X hP hw hK hc i pins s σ H E I hf st hg
    subst hP hw hK
    obtain⟨xs,x,hq,hx⟩:=hg
    obtain⟨its,rv,p,hz⟩:=I.list hq
    obtain⟨u,hu,ru⟩:=rv.get hx
    obtain⟨f0,f1,f2,f3,f4,f5⟩:=hf it (by simp)
    refine wpAny_pyNext_list_item st p.isList (x:=u) (by simpa using hu) λh' st' sb=>?_
    have I1:Inv X pins σ H { s with heap:=h' }:=I.turned (t':=s.toks) (λb o hb e=>(sb.2 b hb).trans e) f0 f1 f3 f4 f5
    obtain⟨o,e,c,d⟩:=id st'
    exact⟨u,rfl,zhj (s:={ s with heap:=h' }) e c d (by decide) ⟨x,H,I1,ru,⟨rfl,λys hy=>by rw[I.list_inj hy hq];exact hx⟩,st',λb hb=>(hf b hb).1⟩⟩
  done:=by
    intro X hP hw hK hc i pins s σ H E I hf st hg
    subst hP hw hK
    obtain⟨xs,hq,hx⟩:=hg
    obtain⟨its,rv,p,hz⟩:=I.list hq
    obtain⟨f0,f1,f2,f3,f4,f5⟩:=hf it (by simp)
    have hl:=rv.length
    exact wpAny_pyNext_list_end (I.ok.hd hc) st p.isList (by simp;lia) λh' eb=>⟨rfl,I.turned (t':=s.toks) (λb o hb e=>eb b o hb e) f0 f1 f3 f4 f5⟩
  self:=λ_ _ _ _ _ st h=>wpAny_pyIter_listiter st h
theorem zfG {P:Program} {w:World} {K:PySem.W.Frag} {tg:Expr} (a it:Addr):zgS P w K tg (Itt K a) [it] it (λi h=>h.IsTupleIter it a i) where
  mem:=by simp
  obj:=λi h st b hb=>by
    have e:b=it:=by simpa using hb
    subst e
    obtain⟨o,e,c,d⟩:=st
    exact⟨o,e,λv z=>by rw[d]at z;cases z⟩
  keep:=λi h h' st k=>st.at λo e=>k it (by simp) o e
  item:=by
    intro X hP hw hK hc i pins s σ H E I hf st hg
    subst hP hw hK
    obtain⟨xs,x,hq,hx⟩:=hg
    obtain⟨its,rv,p,hz⟩:=I.tuple hq
    obtain⟨u,hu,ru⟩:=rv.get hx
    obtain⟨f0,f1,f2,f3,f4,f5⟩:=hf it (by simp)
    refine wpAny_pyNext_tuple_item st (show s.heap.IsTuple a its.toArray from p) (x:=u) (by simpa using hu) λh' st' sb=>?_
    have I1:Inv X pins σ H { s with heap:=h' }:=I.turned (t':=s.toks) (λb o hb e=>(sb.2 b hb).trans e) f0 f1 f3 f4 f5
    obtain⟨o,e,c,d⟩:=id st'
    exact⟨u,rfl,zhj (s:={ s with heap:=h' }) e c d (by decide) ⟨x,H,I1,ru,⟨rfl,λys hy=>by rw[I.tuple_inj hy hq];exact hx⟩,st',λb hb=>(hf b hb).1⟩⟩
  done:=by
    intro X hP hw hK hc i pins s σ H E I hf st hg
    subst hP hw hK
    obtain⟨xs,hq,hx⟩:=hg
    obtain⟨its,rv,p,hz⟩:=I.tuple hq
    obtain⟨f0,f1,f2,f3,f4,f5⟩:=hf it (by simp)
    have hl:=rv.length
    exact wpAny_pyNext_tuple_end (I.ok.hd hc) st (show s.heap.IsTuple a its.toArray from p) (by simp;lia) λh' eb=>⟨rfl,I.turned (t':=s.toks) (λb o hb e=>eb b o hb e) f0 f1 f3 f4 f5⟩
  self:=λ_ _ _ _ _ st h=>wpAny_pyIter_tupleiter st h
theorem zkp {P:Program} {w:World} {K:PySem.W.Frag} {tg:Expr} (it:Addr) (lo:Int) (n:Nat):zgS P w K tg (Itr lo n) [it] it (λi h=>IsRangeIter h it (lo+(i:Nat) * 1) ((n:Int) - (i:Nat)) 1) where
  mem:=by simp
  obj:=λi h st b hb=>by
    have e:b=it:=by simpa using hb
    subst e
    exact⟨_,st,λv z=>by
      have z':Data.fields _=Data.cell v:=z
      cases z'⟩
  keep:=λi h h' st k=>k it (by simp) _ st
  item:=by
    intro X hP hw hK hc i pins s σ H E I hf st hg
    subst hP hw hK
    obtain⟨f0,f1,f2,f3,f4,f5⟩:=hf it (by simp)
    have W:=Walks.range (prog:=X.prog) (w:=X.w) (I.ok.hd hc) it lo 1 n
    refine W.item i s _ _ hg st λv h' tk hv st' kk=>?_
    obtain⟨t,rfl⟩:=hv
    have I1:Inv X pins σ H { s with heap:=h',toks:=tk }:=I.turned (λb o hb e=>kk b o (by simpa using hb) e) f0 f1 f3 f4 f5
    refine⟨_,rfl,zhj (s:={ s with heap:=h',toks:=tk }) (n:="range_iterator") st' rfl rfl (by decide) ⟨.int (lo+i),H,I1,⟨t,?_⟩,⟨rfl,rfl⟩,st',λb hb=>(hf b hb).1⟩⟩
    rw[Int.mul_one]
  done:=by
    intro X hP hw hK hc i pins s σ H E I hf st hg
    subst hP hw hK
    obtain⟨f0,f1,f2,f3,f4,f5⟩:=hf it (by simp)
    exact wpAny_pyNext_range_end (I.ok.hd hc) st (by have:n≤i:=hg;lia) λh' eb=>⟨rfl,I.turned (t':=s.toks) (λb o hb e=>eb b o hb e) f0 f1 f3 f4 f5⟩
  self:=λ_ _ _ _ _ st h=>wpAny_pyIter_rangeiter st h
end L2
namespace L2
open PySem PySem.Spec PyProof.Rows
section
variable {X:Cx} {tg:Expr}
inductive rItl (K:PySem.W.Frag):V→Hp→(It→Hp→Prop)→Prop|m{x H R} a:x=.ref a→(∃ xs,SqL K H a xs)→R (Itl K a) H→rItl K x H R
inductive rItt (K:PySem.W.Frag):V→Hp→(It→Hp→Prop)→Prop|m{x H R} a:x=.ref a→(∃ xs,SqT K H a xs)→R (Itt K a) H→rItt K x H R
def iList (K:PySem.W.Frag) (tl:TE):TI:=λσ H R=>tl σ H λx H1=>rItl K x H1 R
def iTup (K:PySem.W.Frag) (tl:TE):TI:=λσ H R=>tl σ H λx H1=>rItt K x H1 R
theorem zcr {l:Expr} {tl:TE} (hl:PE X l tl):PI X tg l (iList X.K tl):=by
  intro pins s σ H R I h
  refine thn (hl pins s σ H _ I h) λv s1 ⟨x,H1,I1,r1,q1⟩=>?_
  obtain⟨a,e,⟨xs,hq⟩,q⟩:=q1
  subst e
  cases r1
  obtain⟨its,rv,p,hz⟩:=I1.list hq
  refine wpAny_pyIter_list p.isList ?_
  refine⟨s1.heap.objs.size,[s1.heap.objs.size],_,_,H1,rfl,I1.kept (t':=s1.toks) λb o e=>hG _ e,zf4 a _,⟨_,Heap.get?_push_size _ rfl,rfl,rfl⟩,λb hb=>?_,q⟩
  have e:b=s1.heap.objs.size:=by simpa using hb
  subst e
  exact I1.fpOk (nRq _) (I1.hok.fresh (nRq _))
theorem zbr {l:Expr} {tl:TE} (hl:PE X l tl):PI X tg l (iTup X.K tl):=by
  intro pins s σ H R I h
  refine thn (hl pins s σ H _ I h) λv s1 ⟨x,H1,I1,r1,q1⟩=>?_
  obtain⟨a,e,⟨xs,hq⟩,q⟩:=q1
  subst e
  cases r1
  obtain⟨its,rv,p,hz⟩:=I1.tuple hq
  refine wpAny_pyIter_tuple (show s1.heap.IsTuple a its.toArray from p) ?_
  refine⟨s1.heap.objs.size,[s1.heap.objs.size],_,_,H1,rfl,I1.kept (t':=s1.toks) λb o e=>hG _ e,zfG a _,⟨_,Heap.get?_push_size _ rfl,rfl,rfl⟩,λb hb=>?_,q⟩
  have e:b=s1.heap.objs.size:=by simpa using hb
  subst e
  exact I1.fpOk (nRq _) (I1.hok.fresh (nRq _))
theorem ziV {pins:List (Addr × Obj)} {σ:St} {H:Hp} {s:Shared} {R:It→Hp→Prop} {E:Value→Shared→Prop} {lo hi:Int} {t u v:Tok} {tk:Nat} (I:Inv X pins σ H s) (h1:-(2 ^ 62)≤lo) (h2:lo < 2 ^ 62) (h3:-(2 ^ 62)≤hi) (h4:hi < 2 ^ 62)
    (q:R (Itr lo (hi - lo).toNat) H):wpAny (model X.prog X.w) X.A (pyIter (.ref s.heap.objs.size)) (PIE X pins σ tg R) E { s with heap:=s.heap.push { cls:=.type "range",data:=.fields #[.int lo t,.int hi u,.int 1 v] },toks:=tk }:=by
  refine wpAny_pyIter_range (IsRange.new ..) (small_one h1 h2 h3 h4) ?_
  have I1:Inv X pins σ H { s with heap:=s.heap.push { cls:=.type "range",data:=.fields #[.int lo t,.int hi u,.int 1 v] },toks:=tk }:=I.kept λb o e=>hG _ e
  refine⟨(s.heap.push { cls:=.type "range",data:=.fields #[.int lo t,.int hi u,.int 1 v] }).objs.size,[(s.heap.push { cls:=.type "range",data:=.fields #[.int lo t,.int hi u,.int 1 v] }).objs.size],_,_,H,rfl,
    I1.kept (t':=tk) λb o e=>hG _ e,zkp _ lo (hi - lo).toNat,?_,λb hb=>?_,q⟩
  · have e1:lo+((0:Nat):Int) * 1=lo:=by simp
    have e2:(((hi - lo).toNat:Nat):Int) - ((0:Nat):Int)=Builtin.Range.rangeSize lo hi 1:=by rw[rangeSize_one];split <;> lia
    show IsRangeIter _ _ (lo+((0:Nat):Int) * 1) ((((hi - lo).toNat:Nat):Int) - ((0:Nat):Int)) 1
    rw[e1,e2]
    exact Heap.get?_push_size _ rfl
  · have e:b=(s.heap.push { cls:=.type "range",data:=.fields #[.int lo t,.int hi u,.int 1 v] }).objs.size:=by simpa using hb
    subst e
    exact I1.fpOk (nRq _) (I1.hok.fresh (nRq _))
def iRng1 (ta:TA):TI:=λσ H R=>ta σ H λvs H1=>∃ j:Int,vs=[.int j]∧-(2 ^ 62)≤j∧j < 2 ^ 62∧R (Itr 0 j.toNat) H1
def iRng2 (ta:TA):TI:=λσ H R=>ta σ H λvs H1=>∃ i j:Int,vs=[.int i,.int j]∧(-(2 ^ 62)≤i∧i < 2 ^ 62∧-(2 ^ 62)≤j∧j < 2 ^ 62)∧R (Itr i (j - i).toNat) H1
theorem zbi {a:Expr} {ta:TA} {p pos:Pos} (hg:Gl X "range") (hm:X.mg "range"=none) (ha:PA X [a] ta) (hs:starEach [a] X.env=[(false,eval a X.env)]:=by rfl):PI X tg (.Call (.Name "range" p) [a] [] pos) (iRng1 ta):=by
  intro pins s σ H R I h
  refine Call_ (zdX I hg hm boot_range (PyProof.Rows.callWith_type1 (thn (ha pos pins s σ H _ I h) λus s1 ⟨vs,H1,I1,r1,q1⟩=>?_) hs rfl))
  obtain⟨j,e,q1,q2,q⟩:=q1
  subst e
  cases r1 with
  | cons r rr =>
    cases rr
    obtain⟨t,rfl⟩:=r
    exact call_range_1 (ziV I1 (by lia) (by lia) q1 q2 (by simpa using q))
theorem zh1 {a b:Expr} {ta:TA} {p pos:Pos} (hg:Gl X "range") (hm:X.mg "range"=none) (ha:PA X [a,b] ta) (hs:starEach [a,b] X.env=[(false,eval a X.env),(false,eval b X.env)]:=by rfl) (hs2:starEach [b] X.env=[(false,eval b X.env)]:=by rfl) :
    PI X tg (.Call (.Name "range" p) [a,b] [] pos) (iRng2 ta):=by
  intro pins s σ H R I h
  refine Call_ (zdX I hg hm boot_range (PyProof.Rows.callWith_type1 (thn (ha pos pins s σ H _ I h) λus s1 ⟨vs,H1,I1,r1,q1⟩=>?_) (by rw[hs,hs2]) (by rw[hs2];rfl)))
  obtain⟨i,j,e,⟨q1,q2,q3,q4⟩,q⟩:=q1
  subst e
  cases r1 with
  | cons r rr =>
    cases rr with
    | cons r' rr =>
      cases rr
      obtain⟨t,rfl⟩:=r
      obtain⟨t',rfl⟩:=r'
      exact call_range_2 (ziV I1 q1 q2 q3 q4 q)
def tFor (wi:TI) (g:TG) (tb:TS):TS:=λD σ H=>wi σ H λJ H1=>∃ W:Nat→Nat→St→Hp→Prop,(∃ m,W 0 m σ H1)∧∀ i m σ H,W i m σ H →
  (J.stop i H∧D.nx σ H)∨(J.go i H∧∃ N:St→Hp→Prop,(∀ σ' H',N σ' H'→∃ m',m' < m∧W (i+1) m' σ' H')∧∀ x H',J.yld i H x H'→g x σ H' λσ2 H2=>tb { D with nx:=N,ct:=N,bk:=D.nx } σ2 H2)
def zfX (fp:List Addr) (h:Heap):List (Addr × Obj):=fp.filterMap λb=>(h.get? b).map λo=>(b,o)
theorem zc4 {fp:List Addr} {h:Heap} {b:Addr} {o:Obj} (hb:b∈fp) (e:h.get? b=some o):(b,o)∈zfX fp h:=List.mem_filterMap.mpr ⟨b,hb,by rw[e];rfl⟩
theorem zlD {fp:List Addr} {h:Heap} {p:Addr × Obj} (hp:p∈zfX fp h):p.1∈fp∧h.get? p.1=some p.2:=by
  obtain⟨b,hb,e⟩:=List.mem_filterMap.mp hp
  cases q:h.get? b with
  | none=>rw[q]at e;cases e
  | some o =>
    rw[q]at e
    have e':(b,o)=p:=Option.some.inj e
    subst e'
    exact⟨hb,q⟩
theorem Inv.pinned {pins:List (Addr × Obj)} {σ:St} {H:Hp} {s:Shared} {fp:List Addr} (I:Inv X pins σ H s) (hf:∀ b∈fp,zcv X pins H b) (ho:∀ b∈fp,∃ o,s.heap.get? b=some o∧∀ v,o.data≠.cell v):Inv X (pins++zfX fp s.heap) σ H s :=
  I.pins_of λp hp=>(mPq hp).elim (λz=>I.pin p (List.mem_append_right _ z)) λz=>by
    obtain⟨hb,e⟩:=zlD z
    obtain⟨f0,f1,f2,_⟩:=hf p.1 hb
    obtain⟨o,e',d⟩:=ho p.1 hb
    rw[e]at e';cases e'
    exact⟨e,f0,f1,f2,d⟩
theorem Inv.unpinned {pins pl:List (Addr × Obj)} {σ:St} {H:Hp} {s:Shared} (I:Inv X (pins++pl) σ H s):Inv X pins σ H s:=I.pins_of λp hp=>I.pin p (List.mem_append_right _ (List.mem_append_left _ hp))
theorem zaB {iter:Expr} {body:List Stmt} {wi:TI} {g:TG} {tb:TS} {pos:Pos} (hp:PassesOwn (model X.prog X.w) X.A X.env X.xe) (hc:X.calm=true) (hi:PI X tg iter wi) (hg:PG X tg g) (hb:PSs X body tb)
    (hs:∀ x,foldedSetIterable iter X.env x=pure x:=by intro _;rfl):PS X (.For tg iter body [] pos) (tFor wi g tb):=by
  intro pins s σ H D I h
  refine wpAny_For (thn (hi pins s σ H _ I h) λv s1 h1=>thn h1 λitv s2 h2=>?_) hs
  obtain⟨it,fp,tn,J,H2,e,I2,T,st2,f2,W,⟨m0,w0⟩,turn⟩:=h2
  subst e
  have stat:∀ {H':Hp},(∀ b∈fp,H' b=none)→∀ b∈fp,zcv X pins H' b:=λhn b hb=>⟨hn b hb,(f2 b hb).2⟩
  refine codeAny_forLoop_any (λn s'=>∃ i σ' H',Inv X pins σ' H' s'∧tn i s'.heap∧(∀ b∈fp,H' b=none)∧W i n σ' H') ?_ m0 ⟨0,σ,H2,I2,st2,λb hb=>(f2 b hb).1,w0⟩
  rintro n s3 ⟨i,σ3,H3,I3,st3,fr3,w3⟩
  rcases turn i n σ3 H3 w3 with ⟨stop,qn⟩ | ⟨go,N,hN,step⟩
  · refine wpAny_passesOwn hp (thn (T.done X rfl rfl rfl hc i pins s3 σ3 H3 X.xe I3 (stat fr3) st3 stop) λr s4 ⟨hr,I4⟩=>?_)
    subst hr
    exact wpAny_execs_nil ⟨σ3,H3,I4,qn⟩
  · refine wpAny_passesOwn hp (thn (T.item X rfl rfl rfl hc i pins s3 σ3 H3 X.xe I3 (stat fr3) st3 go) λr s4 ⟨u,hr,h4⟩=>?_)
    subst hr
    refine wpAny_passesOwn hp (thn h4 λ_ s5 ⟨x,H5,I5,r5,y5,st5,fr5⟩=>?_)
    have I5':=I5.pinned (stat fr5) (T.obj _ _ st5)
    refine wpAny_passesOwn hp (thn (hg _ s5 σ3 H5 x u _ I5' r5 (step x H5 y5)) λ_ s6 ⟨σ6,H6,I6,q6⟩=>?_)
    refine wpAny_passesOwn hp (thn (hb _ s6 σ6 H6 _ I6 q6) λf s7 q7=>?_)
    have again:∀ {σ7:St} {H7:Hp},Inv X (pins++zfX fp s5.heap) σ7 H7 s7→N σ7 H7→∃ m,m < n∧∃ i σ' H',Inv X pins σ' H' s7∧tn i s7.heap∧(∀ b∈fp,H' b=none)∧W i m σ' H':=λ{σ7 H7} I7 n7=>by
      obtain⟨m',hm,w7⟩:=hN σ7 H7 n7
      refine⟨m',hm,i+1,σ7,H7,I7.unpinned,T.keep _ _ _ st5 λb hb o e=>(I7.pin (b,o) (List.mem_append_right _ (List.mem_append_right _ (zc4 hb e)))).1,λb hb=>?_,w7⟩
      obtain⟨o,e,d⟩:=T.obj _ _ st5 b hb
      exact(I7.pin (b,o) (List.mem_append_right _ (List.mem_append_right _ (zc4 hb e)))).2.1
    cases f with
    | next=>obtain⟨σ7,H7,I7,n7⟩:=q7;exact again I7 n7
    | cont=>obtain⟨σ7,H7,I7,n7⟩:=q7;exact again I7 n7
    | brk=>obtain⟨σ7,H7,I7,q7⟩:=q7;exact⟨σ7,H7,I7.unpinned,q7⟩
    | ret v=>obtain⟨x7,σ7,H7,I7,r7,q7⟩:=q7;exact⟨x7,σ7,H7,I7.unpinned,r7,q7⟩
end
theorem zfE {K:PySem.W.Frag} {a:Addr} {xs:List V} {g:TG} {tb:TS} {D:zb9} {σ:St} {H:Hp} (Pv:Nat→St→Hp→Prop) (h0:Pv 0 σ H) (hl:∀ i σ H,i≤xs.length→Pv i σ H→SqL K H a xs)
    (hs:∀ i x σ H,xs[i]?=some x→Pv i σ H→g x σ H λσ2 H2=>tb { D with nx:=Pv (i+1),ct:=Pv (i+1),bk:=D.nx } σ2 H2) (hd:∀ σ H,Pv xs.length σ H→D.nx σ H) :
    ∃ W:Nat→Nat→St→Hp→Prop,(∃ m,W 0 m σ H)∧∀ i m σ H,W i m σ H →
      ((Itl K a).stop i H∧D.nx σ H)∨((Itl K a).go i H∧∃ N:St→Hp→Prop,(∀ σ' H',N σ' H'→∃ m',m' < m∧W (i+1) m' σ' H')∧∀ x H',(Itl K a).yld i H x H'→g x σ H' λσ2 H2=>tb { D with nx:=N,ct:=N,bk:=D.nx } σ2 H2):=by
  refine⟨λi m σ H=>m=xs.length - i∧i≤xs.length∧Pv i σ H,⟨xs.length,by simp,Nat.zero_le _,h0⟩,?_⟩
  rintro i m σ H ⟨rfl,hi,p⟩
  have q:=hl i σ H hi p
  by_cases hlt:i < xs.length
  · refine .inr ⟨⟨xs,xs[i],q,by simp [hlt]⟩,Pv (i+1),λσ' H' p'=>⟨xs.length - (i+1),by lia,rfl,hlt,p'⟩,λx H' y=>?_⟩
    obtain⟨e,y⟩:=y
    subst e
    exact hs i x σ _ (y xs q) p
  · have e:i=xs.length:=by lia
    subst e
    exact .inl ⟨⟨xs,q,nRq _⟩,hd σ H p⟩
theorem zc1 {K:PySem.W.Frag} {a:Addr} {xs:List V} {g:TG} {tb:TS} {D:zb9} {σ:St} {H:Hp} (Pv:Nat→St→Hp→Prop) (h0:Pv 0 σ H) (hl:∀ i σ H,i≤xs.length→Pv i σ H→SqT K H a xs)
    (hs:∀ i x σ H,xs[i]?=some x→Pv i σ H→g x σ H λσ2 H2=>tb { D with nx:=Pv (i+1),ct:=Pv (i+1),bk:=D.nx } σ2 H2) (hd:∀ σ H,Pv xs.length σ H→D.nx σ H) :
    ∃ W:Nat→Nat→St→Hp→Prop,(∃ m,W 0 m σ H)∧∀ i m σ H,W i m σ H →
      ((Itt K a).stop i H∧D.nx σ H)∨((Itt K a).go i H∧∃ N:St→Hp→Prop,(∀ σ' H',N σ' H'→∃ m',m' < m∧W (i+1) m' σ' H')∧∀ x H',(Itt K a).yld i H x H'→g x σ H' λσ2 H2=>tb { D with nx:=N,ct:=N,bk:=D.nx } σ2 H2):=by
  refine⟨λi m σ H=>m=xs.length - i∧i≤xs.length∧Pv i σ H,⟨xs.length,by simp,Nat.zero_le _,h0⟩,?_⟩
  rintro i m σ H ⟨rfl,hi,p⟩
  have q:=hl i σ H hi p
  by_cases hlt:i < xs.length
  · refine .inr ⟨⟨xs,xs[i],q,by simp [hlt]⟩,Pv (i+1),λσ' H' p'=>⟨xs.length - (i+1),by lia,rfl,hlt,p'⟩,λx H' y=>?_⟩
    obtain⟨e,y⟩:=y
    subst e
    exact hs i x σ _ (y xs q) p
  · have e:i=xs.length:=by lia
    subst e
    exact .inl ⟨⟨xs,q,nRq _⟩,hd σ H p⟩
theorem za6 {lo:Int} {n:Nat} {g:TG} {tb:TS} {D:zb9} {σ:St} {H:Hp} (Pv:Nat→St→Hp→Prop) (h0:Pv 0 σ H)
    (hs:∀ i σ H,i < n→Pv i σ H→g (.int (lo+i)) σ H λσ2 H2=>tb { D with nx:=Pv (i+1),ct:=Pv (i+1),bk:=D.nx } σ2 H2) (hd:∀ σ H,Pv n σ H→D.nx σ H) :
    ∃ W:Nat→Nat→St→Hp→Prop,(∃ m,W 0 m σ H)∧∀ i m σ H,W i m σ H →
      ((Itr lo n).stop i H∧D.nx σ H)∨((Itr lo n).go i H∧∃ N:St→Hp→Prop,(∀ σ' H',N σ' H'→∃ m',m' < m∧W (i+1) m' σ' H')∧∀ x H',(Itr lo n).yld i H x H'→g x σ H' λσ2 H2=>tb { D with nx:=N,ct:=N,bk:=D.nx } σ2 H2):=by
  refine⟨λi m σ H=>m=n - i∧i≤n∧Pv i σ H,⟨n,by simp,Nat.zero_le _,h0⟩,?_⟩
  rintro i m σ H ⟨rfl,hi,p⟩
  by_cases hlt:i < n
  · refine .inr ⟨hlt,Pv (i+1),λσ' H' p'=>⟨n - (i+1),by lia,rfl,hlt,p'⟩,λx H' y=>?_⟩
    obtain⟨e,y⟩:=y
    subst e y
    exact hs i σ _ hlt p
  · have e:i=n:=by lia
    subst e
    exact .inl ⟨nRq _,hd σ H p⟩
end L2
namespace L2
open PySem PySem.Spec PyProof.Rows
abbrev R2:=V→V→Hp→VK→Prop
def OpR (X:Cx) (f:Value→Value→Sem Value) (r:R2):Prop :=
  ∀(pins:List (Addr × Obj)) (s:Shared) (σ:St) (H:Hp) (x y:V) (v u:Value) (Q:VK),Inv X pins σ H s→aY x v→aY y u→r x y H Q →
    wpAny (model X.prog X.w) X.A (f v u) (EP X pins σ Q) X.xe s
def UnR (X:Cx) (f:Value→Sem Value) (r:V→Hp→VK→Prop):Prop :=
  ∀(pins:List (Addr × Obj)) (s:Shared) (σ:St) (H:Hp) (x:V) (v:Value) (Q:VK),Inv X pins σ H s→aY x v→r x H Q →
    wpAny (model X.prog X.w) X.A (f v) (EP X pins σ Q) X.xe s
def zbp (X:Cx) (f:Value) (r:List V→Hp→VK→Prop):Prop :=
  ∀(pins:List (Addr × Obj)) (s:Shared) (σ:St) (H:Hp) (xs:List V) (us:List Value) (Q:VK),Inv X pins σ H s→aW xs us→r xs H Q →
    wpAny (model X.prog X.w) X.A (call f us) (EP X pins σ Q) X.xe s
def tOp (r:R2) (ta tb:TE):TE:=λσ H Q=>ta σ H λx H1=>tb σ H1 λy H2=>r x y H2 Q
def tUn (r:V→Hp→VK→Prop) (ta:TE):TE:=λσ H Q=>ta σ H λx H1=>r x H1 Q
inductive rI (C:Int→Int→Prop) (g:Int→Int→V):R2|m{x y H Q} i j:x=.int i→y=.int j→C i j→Q (g i j) H→rI C g x y H Q
inductive rI0 (g:Int→Int→V):R2|m{x y H Q} i j:x=.int i→y=.int j→Q (g i j) H→rI0 g x y H Q
inductive rU (g:Int→V):V→Hp→VK→Prop|m{x H Q} i:x=.int i→Q (g i) H→rU g x H Q
section
variable {X:Cx} {a b c:Expr} {ta tb tc:TE} {pos:Pos}
theorem binT (ha:PE X a ta) (hb:PE X b tb) {pins:List (Addr × Obj)} {s:Shared} {σ:St} {H:Hp} {R:V→V→Hp→Prop} (I:Inv X pins σ H s)
    (h:ta σ H λx H1=>tb σ H1 λy H2=>R x y H2) {Q:Value→Shared→Prop} {f:Value→Value→Sem Value}
    (hf:∀ v u s2 x y H2,Inv X pins σ H2 s2→aY x v→aY y u→R x y H2→wpAny (model X.prog X.w) X.A (f v u) Q X.xe s2) :
    wpAny (model X.prog X.w) X.A (eval a X.env) (λv s₁=>wpAny (model X.prog X.w) X.A (eval b X.env) (λu s₂=>wpAny (model X.prog X.w) X.A (f v u) Q X.xe s₂) X.xe s₁) X.xe s:=by
  refine thn (ha pins s σ H _ I h) λv s1 ⟨x,H1,I1,r1,q1⟩=>?_
  refine thn (hb pins s1 σ H1 _ I1 q1) λu s2 ⟨y,H2,I2,r2,q2⟩=>?_
  exact hf v u s2 x y H2 I2 r1 r2 q2
theorem ar {op:Operator} {r:R2} (ho:OpR X (binaryOp op) r) (ha:PE X a ta) (hb:PE X b tb):PE X (.BinOp a op b pos) (tOp r ta tb):=by
  intro pins s σ H Q I h
  exact wpAny_BinOp (binT ha hb I h λv u s2 x y H2 I2 rx ry q=>ho pins s2 σ H2 x y v u Q I2 rx ry q)
theorem zbk {op:UnaryOp} {r:V→Hp→VK→Prop} (ho:UnR X (unaryOp op) r) (ha:PE X a ta):PE X (.UnaryOp op a pos) (tUn r ta):=by
  intro pins s σ H Q I h
  exact UnaryOp_ (thn (ha pins s σ H _ I h) λv s1 ⟨x,H1,I1,r1,q1⟩=>ho pins s1 σ H1 x v Q I1 r1 q1)
theorem opI {f:Value→Value→Sem Value} {C:Int→Int→Prop} {g:Int→Int→Int}
    (rule:∀(i j:Int) (t u:Tok) (s:Shared) (Q:Value→Shared→Prop) (E:Value→Shared→Prop),C i j→Q (.int (g i j) s.toks) { s with toks:=s.toks+1 }→wpAny (model X.prog X.w) X.A (f (.int i t) (.int j u)) Q E s) :
    OpR X f (rI C λi j=>.int (g i j)):=by
  intro pins s σ H x y v u Q I rx ry h
  obtain⟨i,j,rfl,rfl,hc,q⟩:=h
  obtain⟨t,rfl⟩:=rx
  obtain⟨t',rfl⟩:=ry
  exact rule i j t t' s _ _ hc ⟨.int (g i j),H,I.tok _,⟨_,rfl⟩,q⟩
theorem opI0 {f:Value→Value→Sem Value} {g:Int→Int→Int}
    (rule:∀(i j:Int) (t u:Tok) (s:Shared) (Q:Value→Shared→Prop) (E:Value→Shared→Prop),Q (.int (g i j) s.toks) { s with toks:=s.toks+1 }→wpAny (model X.prog X.w) X.A (f (.int i t) (.int j u)) Q E s) :
    OpR X f (rI0 λi j=>.int (g i j)):=by
  intro pins s σ H x y v u Q I rx ry h
  obtain⟨i,j,rfl,rfl,q⟩:=h
  obtain⟨t,rfl⟩:=rx
  obtain⟨t',rfl⟩:=ry
  exact rule i j t t' s _ _ ⟨.int (g i j),H,I.tok _,⟨_,rfl⟩,q⟩
theorem opB0 {f:Value→Value→Sem Value} {g:Int→Int→Bool}
    (rule:∀(i j:Int) (t u:Tok) (s:Shared) (Q:Value→Shared→Prop) (E:Value→Shared→Prop),Q (.bool (g i j)) s→wpAny (model X.prog X.w) X.A (f (.int i t) (.int j u)) Q E s) :
    OpR X f (rI0 λi j=>.bl (g i j)):=by
  intro pins s σ H x y v u Q I rx ry h
  obtain⟨i,j,rfl,rfl,q⟩:=h
  obtain⟨t,rfl⟩:=rx
  obtain⟨t',rfl⟩:=ry
  exact rule i j t t' s _ _ ⟨.bl (g i j),H,I,rfl,q⟩
def CDiv (i j:Int):Prop:=0 < j∧j < 1073741824
def CMul (i j:Int):Prop:=(-(2 ^ 64) < i∧i < 2 ^ 64)∨(-(2 ^ 64) < j∧j < 2 ^ 64)
theorem CMul.ok {i j:Int} (h:CMul i j):IntMulOk i j:=by
  rcases h with ⟨h1,h2⟩ | ⟨h1,h2⟩
  · exact .of_left (intBits_le_64 h1 h2)
  · exact .of_right (intBits_le_64 h1 h2)
theorem zah:OpR X (binaryOp .Add) (rI0 λi j=>.int (i+j)):=opI0 λ_ _ _ _ _ _ _ q=>add_int q
theorem zbM:OpR X (binaryOp .Sub) (rI0 λi j=>.int (i - j)):=opI0 λ_ _ _ _ _ _ _ q=>sub_int q
theorem ziJ:OpR X (binaryOp .Mult) (rI CMul λi j=>.int (i * j)):=opI λ_ _ _ _ _ _ _ hc q=>mul_int q hc.ok
theorem zak:OpR X (binaryOp .FloorDiv) (rI CDiv λi j=>.int (i / j)):=opI λi j _ _ _ _ _ hc q=>by
  have h1:(0:Int) < j:=hc.1
  have h2:j < 1073741824:=hc.2
  exact floordiv_int (by lia) (by rw[Int.fdiv_eq_ediv_of_nonneg i (by lia)];exact q) (.inl (PyProof.noPylong_small (by lia)))
theorem zab:OpR X (binaryOp .Mod) (rI (λ_ j=>0 < j) λi j=>.int (i % j)):=opI λi j _ _ _ _ _ hc q=>by
  have h1:(0:Int) < j:=hc
  exact mod_int' (by lia) (by rw[Int.fmod_eq_emod_of_nonneg i (by lia)];exact q)
theorem unI {f:Value→Sem Value} {g:Int→Int}
    (rule:∀(i:Int) (t:Tok) (s:Shared) (Q:Value→Shared→Prop) (E:Value→Shared→Prop),Q (.int (g i) s.toks) { s with toks:=s.toks+1 }→wpAny (model X.prog X.w) X.A (f (.int i t)) Q E s) :
    UnR X f (rU λi=>.int (g i)):=by
  intro pins s σ H x v Q I rx h
  obtain⟨i,rfl,q⟩:=h
  obtain⟨t,rfl⟩:=rx
  exact rule i t s _ _ ⟨.int (g i),H,I.tok _,⟨_,rfl⟩,q⟩
theorem zaQ:UnR X (unaryOp .USub) (rU λi=>.int (-i)):=unI λ_ _ _ _ _ q=>neg_int q
end
def scal:V→V→Bool
  | .non,.non=>true | .non,.int _=>true | .int _,.non=>true | .non,.bl _=>true | .bl _,.non=>true | .non,.str _=>true | .str _,.non=>true
  | .int _,.int _=>true | .bl _,.bl _=>true | .str _,.str _=>true | .byt _,.byt _=>true
  | .int _,.str _=>true | .str _,.int _=>true | .bl _,.str _=>true | .str _,.bl _=>true
  | _,_=>false
def rEq:R2:=λx y H Q=>scal x y=true∧Q (.bl (decide (x=y))) H
def rNe:R2:=λx y H Q=>scal x y=true∧Q (.bl (!decide (x=y))) H
theorem zj6 {i j:Int}:decide (V.int i=V.int j)=(i == j):=by
  rw[Bool.eq_iff_iff]
  simp
theorem zlb {i j:Bool}:decide (V.bl i=V.bl j)=(i == j):=by
  rw[Bool.eq_iff_iff]
  simp
theorem zj5 {i j:Str}:decide (V.str i=V.str j)=(i == j):=by
  rw[Bool.eq_iff_iff]
  simp
theorem zj7 {i j:Array UInt8}:decide (V.byt i=V.byt j)=(i.toList == j.toList):=by
  rw[Bool.eq_iff_iff]
  cases i
  cases j
  simp
section
variable {X:Cx} {a b c:Expr} {ta tb tc:TE} {pos:Pos}
theorem zan {pins:List (Addr × Obj)} {σ:St} {H:Hp} {s:Shared} {Q:VK} {k k':Bool} (I:Inv X pins σ H s) (q:Q (.bl k) H) (e:k=k'):EP X pins σ Q (.bool k') s:=by
  subst e
  exact⟨.bl k,H,I,rfl,q⟩
theorem zag:OpR X (compareOp .Eq) rEq:=by
  intro pins s σ H x y v u Q I rx ry h
  obtain⟨hs,q⟩:=h
  cases x with
  | non =>
    cases rx
    cases y with
    | non=>cases ry;exact PySem.EqNone.eq_none_none (zan I q (by simp))
    | bl j=>cases ry;exact PySem.EqNone.eq_none_bool (zan I q (by simp))
    | int j=>obtain⟨t',rfl⟩:=ry;exact PySem.EqNone.eq_none_int (zan I q (by simp))
    | str j=>obtain⟨t',rfl⟩:=ry;exact PySem.EqNone.eq_none_str (zan I q (by simp))
    | _=>exact absurd (show false=true from hs) Bool.false_ne_true
  | bl i =>
    cases rx
    cases y with
    | non=>cases ry;exact PySem.EqNone.eq_bool_none (zan I q (by simp))
    | bl j=>cases ry;exact eq_bool (zan I q zlb)
    | str j=>obtain⟨t',rfl⟩:=ry;exact PySem.EqMixed.eq_bool_str (zan I q (by simp))
    | _=>exact absurd (show false=true from hs) Bool.false_ne_true
  | int i =>
    obtain⟨t,rfl⟩:=rx
    cases y with
    | non=>cases ry;exact PySem.EqNone.eq_int_none (zan I q (by simp))
    | int j=>obtain⟨t',rfl⟩:=ry;exact eq_int (zan I q zj6)
    | str j=>obtain⟨t',rfl⟩:=ry;exact PySem.EqMixed.eq_int_str (zan I q (by simp))
    | _=>exact absurd (show false=true from hs) Bool.false_ne_true
  | str i =>
    obtain⟨t,rfl⟩:=rx
    cases y with
    | non=>cases ry;exact PySem.EqNone.eq_str_none (zan I q (by simp))
    | bl j=>cases ry;exact PySem.EqMixed.eq_str_bool (zan I q (by simp))
    | int j=>obtain⟨t',rfl⟩:=ry;exact PySem.EqMixed.eq_str_int (zan I q (by simp))
    | str j=>obtain⟨t',rfl⟩:=ry;exact eq_str (zan I q zj5)
    | _=>exact absurd (show false=true from hs) Bool.false_ne_true
  | byt i =>
    obtain⟨t,rfl⟩:=rx
    cases y with
    | byt j=>obtain⟨t',rfl⟩:=ry;exact PySem.W.eq_bytes (zan I q zj7)
    | _=>exact absurd (show false=true from hs) Bool.false_ne_true
  | _=>cases y <;> exact absurd (show false=true from hs) Bool.false_ne_true
theorem zcB:OpR X (compareOp .NotEq) rNe:=by
  intro pins s σ H x y v u Q I rx ry h
  obtain⟨hs,q⟩:=h
  cases x with
  | non =>
    cases rx
    cases y with
    | non=>cases ry;exact PySem.EqNone.ne_none_none (zan I q (by simp))
    | bl j=>cases ry;exact PySem.EqNone.ne_none_bool (zan I q (by simp))
    | int j=>obtain⟨t',rfl⟩:=ry;exact PySem.EqNone.ne_none_int (zan I q (by simp))
    | str j=>obtain⟨t',rfl⟩:=ry;exact PySem.EqNone.ne_none_str (zan I q (by simp))
    | _=>exact absurd (show false=true from hs) Bool.false_ne_true
  | bl i =>
    cases rx
    cases y with
    | non=>cases ry;exact PySem.EqNone.ne_bool_none (zan I q (by simp))
    | bl j=>cases ry;exact ne_bool (zan I q (congrArg not zlb))
    | str j=>obtain⟨t',rfl⟩:=ry;exact PySem.EqMixed.ne_bool_str (zan I q (by simp))
    | _=>exact absurd (show false=true from hs) Bool.false_ne_true
  | int i =>
    obtain⟨t,rfl⟩:=rx
    cases y with
    | non=>cases ry;exact PySem.EqNone.ne_int_none (zan I q (by simp))
    | int j=>obtain⟨t',rfl⟩:=ry;exact ne_int (zan I q (congrArg not zj6))
    | str j=>obtain⟨t',rfl⟩:=ry;exact PySem.EqMixed.ne_int_str (zan I q (by simp))
    | _=>exact absurd (show false=true from hs) Bool.false_ne_true
  | str i =>
    obtain⟨t,rfl⟩:=rx
    cases y with
    | non=>cases ry;exact PySem.EqNone.ne_str_none (zan I q (by simp))
    | bl j=>cases ry;exact PySem.EqMixed.ne_str_bool (zan I q (by simp))
    | int j=>obtain⟨t',rfl⟩:=ry;exact PySem.EqMixed.ne_str_int (zan I q (by simp))
    | str j=>obtain⟨t',rfl⟩:=ry;exact ne_str (zan I q (congrArg not zj5))
    | _=>exact absurd (show false=true from hs) Bool.false_ne_true
  | byt i =>
    obtain⟨t,rfl⟩:=rx
    cases y with
    | byt j=>obtain⟨t',rfl⟩:=ry;exact PySem.W.ne_bytes (zan I q (congrArg not zj7))
    | _=>exact absurd (show false=true from hs) Bool.false_ne_true
  | _=>cases y <;> exact absurd (show false=true from hs) Bool.false_ne_true
theorem zbR:OpR X (compareOp .Lt) (rI0 λi j=>.bl (decide (i < j))):=opB0 λ_ _ _ _ _ _ _ q=>lt_int q
theorem op_le:OpR X (compareOp .LtE) (rI0 λi j=>.bl (decide (i≤j))):=opB0 λ_ _ _ _ _ _ _ q=>le_int q
theorem zcC:OpR X (compareOp .Gt) (rI0 λi j=>.bl (decide (j < i))):=opB0 λ_ _ _ _ _ _ _ q=>gt_int q
theorem zeR:OpR X (compareOp .GtE) (rI0 λi j=>.bl (decide (j≤i))):=opB0 λ_ _ _ _ _ _ _ q=>ge_int q
theorem zls:OpR X (compareOp .In) (λx y H Q=>∃ i j,x=.str i∧y=.str j∧Q (.bl (!(Builtin.Str.occurrences j i 0 j.length 1).isEmpty)) H):=by
  intro pins s σ H x y v u Q I rx ry h
  obtain⟨i,j,rfl,rfl,q⟩:=h
  obtain⟨t,rfl⟩:=rx
  obtain⟨t',rfl⟩:=ry
  exact in_str (zan I q rfl)
theorem zfY:OpR X (compareOp .Is) (λx y H Q=>y=.non∧Q (.bl (decide (x=.non))) H):=by
  intro pins s σ H x y v u Q I rx ry h
  obtain⟨rfl,q⟩:=h
  cases ry
  refine is_none_gen (zan I q ?_)
  cases x <;> first
    | (cases rx;rfl)
    | (obtain⟨t,rfl⟩:=rx;rfl)
theorem zhL:OpR X (compareOp .IsNot) (λx y H Q=>y=.non∧Q (.bl (!decide (x=.non))) H):=by
  intro pins s σ H x y v u Q I rx ry h
  obtain⟨rfl,q⟩:=h
  cases ry
  refine isnot_none_gen (zan I q ?_)
  cases x <;> first
    | (cases rx;rfl)
    | (obtain⟨t,rfl⟩:=rx;rfl)
theorem zkW (b:Expr) {op:CmpOp} (h:op≠.In:=by decide) (h2:op≠.NotIn:=by decide):behindInMarks op b=false:=by
  have e1:(op == CmpOp.In)=false:=by cases op <;> first | rfl | exact absurd rfl h
  have e2:(op == CmpOp.NotIn)=false:=by cases op <;> first | rfl | exact absurd rfl h2
  cases b <;> simp [behindInMarks,e1,e2]
theorem zaz {op:CmpOp} {r:R2} (ho:OpR X (compareOp op) r) (ha:PE X a ta) (hb:PE X b tb) (hm:behindInMarks op b=false:=by exact zkW _):PE X (.Compare a [op] [b] pos) (tOp r ta tb):=by
  intro pins s σ H Q I h
  exact wpAny_Compare1 (binT ha hb I h λv u s2 x y H2 I2 rx ry q=>ho pins s2 σ H2 x y v u Q I2 rx ry q) hm
def tTest (t:TE):TT:=λσ H Q=>t σ H λx H'=>isB x H' Q
theorem aw {op:CmpOp} {r:R2} (ho:OpR X (compareOp op) r) (ha:PE X a ta) (hb:PE X b tb) (hm:behindInMarks op b=false:=by exact zkW _):PT X (.Compare a [op] [b] pos) (tTest (tOp r ta tb)):=by
  intro pins s σ H Q I h
  refine wpAny_isTrue_Compare1 (thn (ha pins s σ H _ I h) λv s1 ⟨x,H1,I1,r1,q1⟩=>thn (hb pins s1 σ H1 _ I1 q1) λu s2 ⟨y,H2,I2,r2,q2⟩ =>
    thn (ho pins s2 σ H2 x y v u _ I2 r1 r2 q2) λc s3 ⟨z,H3,I3,r3,k,e,q3⟩=>?_) hm
  subst e
  cases r3
  exact wpAny_truthy_bool ⟨H3,I3,q3⟩
def zkO (r r':R2) (ta tb tc:TE):TE:=λσ H Q=>ta σ H λx H1=>tb σ H1 λy H2=>r x y H2 λz H3=>∃ k,z=.bl k ∧
  (if k=true then tc σ H3 λw' H4=>r' y w' H4 Q else Q (.bl false) H3)
theorem zmb {op op':CmpOp} {r r':R2} (ho:OpR X (compareOp op) r) (ho':OpR X (compareOp op') r') (ha:PE X a ta) (hb:PE X b tb) (hc:PE X c tc)
    (hm:lastMarks [op,op'] [b,c]=false:=by with_unfolding_all rfl):PE X (.Compare a [op,op'] [b,c] pos) (zkO r r' ta tb tc):=by
  intro pins s σ H Q I h
  refine Compare_chain (thn (ha pins s σ H _ I h) λv s1 ⟨x,H1,I1,r1,q1⟩=>chain_link (thn (hb pins s1 σ H1 _ I1 q1) λu s2 ⟨y,H2,I2,r2,q2⟩ =>
    thn (ho pins s2 σ H2 x y v u _ I2 r1 r2 q2) λd s3 ⟨z,H3,I3,r3,k,e,q3⟩=>?_)) hm
  subst e
  cases r3
  refine wpAny_truthy_bool ?_
  cases k with
  | false=>exact ite_ff ⟨.bl false,H3,I3,rfl,q3⟩
  | true=>exact ite_tt (chain_last (thn (hc pins s3 σ H3 _ I3 q3) λw' s4 ⟨z',H4,I4,r4,q4⟩=>ho' pins s4 σ H4 y z' u w' Q I4 r2 r4 q4))
theorem zl8 {op op':CmpOp} {r r':R2} (ho:OpR X (compareOp op) r) (ho':OpR X (compareOp op') r') (ha:PE X a ta) (hb:PE X b tb) (hc:PE X c tc)
    (hm:lastMarks [op,op'] [b,c]=false:=by with_unfolding_all rfl):PT X (.Compare a [op,op'] [b,c] pos) (tTest (zkO r r' ta tb tc)):=by
  intro pins s σ H Q I h
  refine isTrue_chain (thn (ha pins s σ H _ I h) λv s1 ⟨x,H1,I1,r1,q1⟩=>test_link (thn (hb pins s1 σ H1 _ I1 q1) λu s2 ⟨y,H2,I2,r2,q2⟩ =>
    thn (ho pins s2 σ H2 x y v u _ I2 r1 r2 q2) λd s3 ⟨z,H3,I3,r3,k,e,q3⟩=>?_)) hm
  subst e
  cases r3
  refine wpAny_truthy_bool ?_
  cases k with
  | false =>
    obtain⟨k',e',q'⟩:=q3
    cases e'
    exact ite_ff ⟨H3,I3,q'⟩
  | true =>
    refine ite_tt (test_last (thn (hc pins s3 σ H3 _ I3 q3) λw' s4 ⟨z',H4,I4,r4,q4⟩=>thn (ho' pins s4 σ H4 y z' u w' _ I4 r2 r4 q4) λd' s5 ⟨z2,H5,I5,r5,k2,e2,q5⟩=>?_))
    subst e2
    cases r5
    exact wpAny_truthy_bool ⟨H5,I5,q5⟩
theorem zhp:(sizeLine:Nat) < 2 ^ 63:=by rw[sizeLine_eq];decide
theorem zcc {x:V} {us:List Value} (r:aW [x] us):∃ u,us=[u]∧aY x u:=by
  cases r with
  | cons r1 r2=>cases r2;exact⟨_,rfl,r1⟩
theorem zgq {x y:V} {us:List Value} (r:aW [x,y] us):∃ u w',us=[u,w']∧aY x u∧aY y w':=by
  cases r with
  | cons r1 r2 =>
    cases r2 with
    | cons r3 r4=>cases r4;exact⟨_,_,rfl,r1,r3⟩
theorem zdK:zbp X (.builtin "abs") (λxs H Q=>∃ i,xs=[.int i]∧Q (.int (if i < 0 then -i else i)) H):=by
  intro pins s σ H xs us Q I r h
  obtain⟨i,rfl,q⟩:=h
  obtain⟨u,rfl,t,rfl⟩:=zcc r
  exact call_abs_int λu tk=>⟨.int (if i < 0 then -i else i),H,I.tok _,⟨_,rfl⟩,q⟩
theorem zig (hc:X.calm=true):zbp X (.builtin "max") (λxs H Q=>∃ i j,xs=[.int i,.int j]∧Q (.int (if j > i then j else i)) H):=by
  intro pins s σ H xs us Q I r h
  obtain⟨i,j,rfl,q⟩:=h
  obtain⟨u,w',rfl,⟨t,rfl⟩,⟨t',rfl⟩⟩:=zgq r
  refine max_two_ints (I.ok.hd hc) λh' tk k=>⟨_,H,I.kept k,?_,q⟩
  by_cases hj:j > i
  · rw[if_pos hj,if_pos hj];exact⟨_,rfl⟩
  · rw[if_neg hj,if_neg hj];exact⟨_,rfl⟩
theorem zlT (hc:X.calm=true):zbp X (.builtin "min") (λxs H Q=>∃ i j,xs=[.int i,.int j]∧Q (.int (if j < i then j else i)) H):=by
  intro pins s σ H xs us Q I r h
  obtain⟨i,j,rfl,q⟩:=h
  obtain⟨u,w',rfl,⟨t,rfl⟩,⟨t',rfl⟩⟩:=zgq r
  refine min_two_ints (I.ok.hd hc) λh' tk k=>⟨_,H,I.kept k,?_,q⟩
  by_cases hj:j < i
  · rw[if_pos hj,if_pos hj];exact⟨_,rfl⟩
  · rw[if_neg hj,if_neg hj];exact⟨_,rfl⟩
theorem zlU:zbp X (.type "int") (λxs H Q=>(∃ i,xs=[.int i]∧Q (.int i) H)∨∃ k,xs=[.bl k]∧Q (.int (if k then 1 else 0)) H):=by
  intro pins s σ H xs us Q I r h
  rcases h with ⟨i,rfl,q⟩ | ⟨k,rfl,q⟩
  · obtain⟨u,rfl,t,rfl⟩:=zcc r
    exact call_int_int ⟨.int i,H,I,⟨_,rfl⟩,q⟩
  · obtain⟨u,rfl,r1⟩:=zcc r
    cases r1
    exact call_int_bool ⟨.int (if k then 1 else 0),H,I.tok _,⟨_,rfl⟩,q⟩
theorem zkK:zbp X (.type "bool") (λxs H Q=>(∃ i,xs=[.int i]∧Q (.bl (i != 0)) H)∨∃ k,xs=[.bl k]∧Q (.bl k) H):=by
  intro pins s σ H xs us Q I r h
  rcases h with ⟨i,rfl,q⟩ | ⟨k,rfl,q⟩
  · obtain⟨u,rfl,t,rfl⟩:=zcc r
    exact call_bool_int ⟨.bl (i != 0),H,I,rfl,q⟩
  · obtain⟨u,rfl,r1⟩:=zcc r
    cases r1
    exact call_bool_bool ⟨.bl k,H,I,rfl,q⟩
end
end L2
namespace L2
open PySem PySem.Spec PyProof.Rows
structure zgT (h:Heap) (x dx C:Addr) (mA:Str→Option Value):Prop where
  obj:h.get? x=some (PySem.W.instObj C dx)
  ns:h.Ns1 dx mA
  ne:dx≠x
theorem zlF {h:Heap} {dx:Addr} {mA:Str→Option Value} (n:h.Ns1 dx mA):∃ od,h.get? dx=some od∧∀ name,PySem.W.lookIn name od=some (mA name):=by
  obtain⟨o,es,ep,ho,hd,hk,_,hm⟩:=n
  refine⟨o,ho,λname=>?_⟩
  have e:=hm name
  unfold nsFind findBy at e
  rw[←Array.find?_toList]at e
  unfold PySem.W.lookIn
  rw[hd]
  dsimp only
  split
  · rename_i y q
    rw[q]at e
    exact congrArg some e
  · rename_i q
    rw[q]at e
    have a:es.toList.any (·.refKey)=false:=by
      rw[List.any_eq_false]
      intro y hy
      obtain⟨z,t,hkey⟩:=hk y (Array.mem_toList_iff.mp hy)
      simp [DictEntry.refKey,hkey]
    have a':¬es.toList.any (·.refKey)=true:=by rw[a];exact Bool.false_ne_true
    rw[if_neg a']
    exact congrArg some e
theorem zgT.look {h:Heap} {x dx C:Addr} {mA:Str→Option Value} (I:zgT h x dx C mA):∃ od,PySem.W.InstAt h x (PySem.W.instObj C dx) C (some od)∧∀ name,PySem.W.lookIn name od=some (mA name) :=
  let ⟨od,ho,hl⟩:=zlF I.ns
  ⟨od,⟨I.obj,rfl,rfl,ho⟩,hl⟩
section
variable {prog:Program} {w:World} {A:Around} {E:Value→Shared→Prop} {s:Shared} {K:PySem.W.Frag} {x dx C f:Addr} {mA:Str→Option Value} {name:Str} {v:Value}
theorem znn {expr:Bool} {Q:Value→Shared→Prop} (X:K.In s.heap) (I:zgT s.heap x dx C mA) (hg:PySem.W.plainGet K C name=true) (hh:PySem.W.hasDictIn K C=true)
    (ha:PySem.W.findIn K (.ref C) name=some none) (hv:mA name=some v) (hv':PySem.W.handedIn v=true) (h:Q v { s with toks:=s.toks+1 }) :
    wpAny (model prog w) A (getAttr (.ref x) name expr) Q E s:=by
  obtain⟨od,J,hl⟩:=I.look
  exact PySem.W.get_value X J (PySem.W.plainGet_of hg).1 (PySem.W.findObj_own hh ha rfl (by rw[hl,hv])) hv' h
theorem zmy {pl:Sem Bool} {Q:Value × List Value→Shared→Prop} (X:K.In s.heap) (I:zgT s.heap x dx C mA) (hg:PySem.W.plainGet K C name=true)
    (hf:PySem.W.findIn K (.ref C) name=some (some (.ref f))) (ht:PySem.W.isFn K (.ref f)=true) (hv:mA name=none) (h:Q (.ref f,[.ref x]) s) :
    wpAny (model prog w) A (getMethod (.ref x) name pl) Q E s:=by
  obtain⟨od,J,hl⟩:=I.look
  exact PySem.W.method_fn X J (PySem.W.plainGet_of hg).1 (PySem.W.plainGet_of hg).2 hf (beq_iff_eq.mp ht) (by show(PySem.W.lookIn name od).map (·.isSome)=some false;rw[hl,hv];rfl) h
theorem zmS {ns:List Str} {Q:Unit→Shared→Prop} (X:K.In s.heap) (I:zgT s.heap x dx C mA)
    (hs:PySem.W.findIn K (.ref C) "__setattr__"=some (some (.builtin "object.__setattr__"))) (hp:PySem.W.plainOver K C=true) (ht:PySem.W.takerIn K C name=some none) (hh:PySem.W.hasDictIn K C=true)
    (hw:PySem.Within mA ns) (hsz:ns.length≤sizeLine)
    (h:∀ h',zgT h' x dx C (λy=>if y=name then some v else mA y)→Heap.SameBut dx s.heap h'→Q () { s with heap:=h',toks:=s.toks+2 }) :
    wpAny (model prog w) A (setAttr (.ref x) name v) Q E s:=by
  obtain⟨od,J,hl⟩:=I.look
  refine PySem.W.set_plain X J hs (PySem.W.osa_open (s:={ s with toks:=s.toks+1 }) (r:=none) X J hp ht λb=>?_)
  obtain⟨cd,hc,hd'⟩:=PySem.W.any_some hh
  have hx:s.heap.get? x=some ⟨.ref C,some dx,.plain,#[]⟩:=I.obj
  refine wpAny_bind (wpAny_pure (wpAny_bind (wpAny_bind (wpAny_loadPart hx (wpAny_bind (PySem.W.Looks.here (s:={ s with toks:=s.toks+1 }) (PySem.W.looks_clsIn X hc) ?_))))))
  rw[hd']
  refine wpAny_pure (a:=some dx) (wpAny_bind (wpAny_pure (wpAny_bind ?_)))
  refine wpAny_nsSet1 (s:={ s with toks:=s.toks+1 }) I.ns λh' hn2 hs2=>?_
  obtain⟨oD,esD,epD,hoD,hdD,hcD⟩:=hn2.count (PySem.Within.cons name v hw)
  refine wpAny_bind (wpAny_lookBehind hoD (by rw[hdD];exact pastItsLine_dict (Nat.le_trans hcD (by rw[List.length_cons];lia))) ?_)
  exact wpAny_pure (h _ ⟨(hs2.2 _ (Ne.symm I.ne)).trans I.obj,hn2,I.ne⟩ hs2)
theorem zmp {R:Result→Shared→Prop} {vs:List Value} {kw:List (Str × Value)} (X:K.In s.heap) (hm:PySem.W.makesIn K C=true)
    (hi:PySem.W.findIn K (.ref C) "__init__"=some (some (.ref f))) (hf:PySem.W.typeIn K (.ref f)=some (.type "function"))
    (h:codeAny (model prog w) (A.under (.builtin "type.__call__" ⟨.ref C :: vs,kw⟩)) (.call (.ref f) ⟨.ref (s.heap.objs.size+1) :: vs,kw⟩) (PySem.W.InitBack (s.heap.objs.size+1) R)
      { s with heap:=(s.heap.push PySem.W.emptyDict).push (PySem.W.instObj C s.heap.objs.size) }) :
    codeAny (model prog w) A (.call (.ref C) ⟨vs,kw⟩) R s:=by
  obtain⟨hh,g,d,t,os⟩:=s
  exact PySem.W.make_core (PySem.W.makes_of X hm) (PySem.W.looks_findIn X hi) (λself=>PySem.W.bind_fn X self hf) (.inl rfl) h
end
def zbI (f:Str) (v:V):List (Str × V)→List (Str × V)
  | []=>[(f,v)]
  | (g,x) :: r=>if g=f then(g,v) :: r else(g,x) :: zbI f v r
theorem zbb (f g:Str) (v:V):∀ fs:List (Str × V),(zbI f v fs).lookup g=if g=f then some v else fs.lookup g
  | []=>by
    show List.lookup g [(f,v)]=_
    by_cases h:g=f
    · have hb:(g == f)=true:=beq_iff_eq.mpr h
      simp only[List.lookup,hb,if_pos h]
    · have hb:(g == f)=false:=beq_eq_false_iff_ne.mpr h
      simp only[List.lookup,hb,if_neg h]
  | (k,x) :: r=>by
    have ih:=zbb f g v r
    rw[show zbI f v ((k,x) :: r)=(if k=f then(k,v) :: r else(k,x) :: zbI f v r) from rfl]
    by_cases hk:k=f
    · rw[if_pos hk]
      by_cases h:g=k
      · have hb:(g == k)=true:=beq_iff_eq.mpr h
        simp only[List.lookup,hb,if_pos (h.trans hk)]
      · have hb:(g == k)=false:=beq_eq_false_iff_ne.mpr h
        simp only[List.lookup,hb,if_neg (λe:g=f=>h (e.trans hk.symm))]
    · rw[if_neg hk]
      by_cases h:g=k
      · have hb:(g == k)=true:=beq_iff_eq.mpr h
        simp only[List.lookup,hb,if_neg (λe:g=f=>hk (h.symm.trans e))]
      · have hb:(g == k)=false:=beq_eq_false_iff_ne.mpr h
        simp only[List.lookup,hb]
        exact ih
theorem zgj (f:Str) (v:V):∀ fs:List (Str × V),f∈(zbI f v fs).map (·.1)∧∀ g,g∈fs.map (·.1)→g∈(zbI f v fs).map (·.1)
  | []=>⟨by simp [zbI],λg h=>by simp at h⟩
  | (k,x) :: r=>by
    obtain⟨i1,i2⟩:=zgj f v r
    rw[show zbI f v ((k,x) :: r)=(if k=f then(k,v) :: r else(k,x) :: zbI f v r) from rfl]
    by_cases hk:k=f
    · rw[if_pos hk]
      subst hk
      exact⟨by simp,λg h=>by simpa using h⟩
    · rw[if_neg hk]
      refine⟨?_,λg h=>?_⟩
      · rw[List.map_cons]
        exact List.mem_cons_of_mem _ i1
      · rw[List.map_cons]at h ⊢
        rcases List.mem_cons.mp h with e | e
        · exact List.mem_cons.mpr (.inl e)
        · exact List.mem_cons_of_mem _ (i2 g e)
theorem zgQ (f:Str) (v:V):∀ fs:List (Str × V),(zbI f v fs).length≤fs.length+1
  | []=>by simp [zbI]
  | (k,x) :: r=>by
    have ih:=zgQ f v r
    rw[show zbI f v ((k,x) :: r)=(if k=f then(k,v) :: r else(k,x) :: zbI f v r) from rfl]
    by_cases hk:k=f
    · rw[if_pos hk,List.length_cons,List.length_cons];lia
    · rw[if_neg hk,List.length_cons,List.length_cons];lia
theorem zda.some_of {v:V} {o:Option Value} (r:zda (some v) o):∃ u,o=some u∧aY v u:=by
  cases o with
  | none=>exact(show False from r).elim
  | some u=>exact⟨u,rfl,r⟩
theorem zda.none_of {o:Option Value} (r:zda none o):o=none:=by
  cases o with
  | none=>rfl
  | some u=>exact(show False from r).elim
theorem zlO {v:V} {u:Value} (r:aY v u):PySem.W.handedIn u=true:=by
  cases v with
  | non=>cases (show u=Value.none from r);rfl
  | bl b=>cases (show u=Value.bool b from r);rfl
  | int i=>obtain⟨t,e⟩:=(show ∃ t,u=Value.int i t from r);cases e;rfl
  | str x=>obtain⟨t,e⟩:=(show ∃ t,u=Value.str x t from r);cases e;rfl
  | byt b=>obtain⟨t,e⟩:=(show ∃ t,u=Value.bytes b t from r);cases e;rfl
  | flt b=>obtain⟨t,e⟩:=(show ∃ t,u=Value.float b t from r);cases e;rfl
  | ref a=>cases (show u=Value.ref a from r);rfl
  | ty n=>cases (show u=Value.type n from r);rfl
section
variable {P:Program} {w:World} {H H':Hp} {h h':Heap} {a C dx:Addr} {fs fs':List (Str × V)}
theorem zgC (hok:HOk P w H h) (e:H a=some (.ins C dx fs)):∃ mA,zgT h a dx C mA∧(∀ f,zda (fs.lookup f) (mA f))∧PySem.Within mA (fs.map (·.1))∧fs.length≤1000∧H dx=some (.own a):=by
  obtain⟨d,z,ne,ob,mA,n,r,q⟩:=(show zaE P w H h a (.ins C dx fs) from hok a _ e)
  exact⟨mA,⟨ob,n,ne⟩,r,q,z,d⟩
end
structure Cls (K:PySem.W.Frag) (C:Addr):Prop where
  pg:PySem.W.plainGet K C Str.empty=true
  hd:PySem.W.hasDictIn K C=true
  po:PySem.W.plainOver K C=true
  sa:PySem.W.findIn K (.ref C) "__setattr__"=some (some (.builtin "object.__setattr__"))
theorem Cls.get {K:PySem.W.Frag} {C:Addr} (c:Cls K C) (f:Str):PySem.W.plainGet K C f=true:=c.pg
def zcL (K:PySem.W.Frag) (C:Addr) (f:Str):Prop:=PySem.W.findIn K (.ref C) f=some none
theorem zcL.taker {K:PySem.W.Frag} {C:Addr} {f:Str} (n:zcL K C f):PySem.W.takerIn K C f=some none:=by
  unfold PySem.W.takerIn
  rw[show PySem.W.findIn K (.ref C) f=some none from n]
  rfl
structure zdb (K:PySem.W.Frag) (C:Addr) (m:Str) (f:Addr):Prop where
  at_:PySem.W.findIn K (.ref C) m=some (some (.ref f))
  fn:PySem.W.isFn K (.ref f)=true
  kp:PySem.W.keepIn K (.ref f)=true
section
variable {X:Cx} {pins:List (Addr × Obj)} {σ:St} {H:Hp} {s:Shared} {a C dx:Addr} {fs:List (Str × V)} {f:Str} {v:V} {A:Around} {E:Value→Shared→Prop}
theorem zkI {b:Bool} {Q:Value→Shared→Prop} (I:Inv X pins σ H s) (e:H a=some (.ins C dx fs)) (c:Cls X.K C) (n:zcL X.K C f) (l:fs.lookup f=some v)
    (h:∀ u s',Inv X pins σ H s'→aY v u→Q u s'):wpAny (model X.prog X.w) A (getAttr (.ref a) f b) Q E s:=by
  obtain⟨mA,O,r,_,_,_⟩:=zgC I.hok e
  obtain⟨u,hu,ru⟩:=zda.some_of (v:=v) (o:=mA f) (by rw[←l];exact r f)
  exact znn I.kIn O (c.get f) c.hd n hu (zlO ru) (h u _ (I.tok _) ru)
theorem zhy {m:Str} {g:Addr} {pl:Sem Bool} {Q:Value × List Value→Shared→Prop} (I:Inv X pins σ H s) (e:H a=some (.ins C dx fs)) (c:Cls X.K C) (k:zdb X.K C m g) (l:fs.lookup m=none)
    (h:Q (.ref g,[.ref a]) s):wpAny (model X.prog X.w) A (getMethod (.ref a) m pl) Q E s:=by
  obtain⟨mA,O,r,_,_,_⟩:=zgC I.hok e
  have hn:mA m=none:=zda.none_of (by rw[←l];exact r m)
  exact zmy I.kIn O (c.get m) k.at_ k.fn hn h
theorem zkr {y:V} {u:Value} {Q:Unit→Shared→Prop} (I:Inv X pins σ H s) (e:H a=some (.ins C dx fs)) (c:Cls X.K C) (n:zcL X.K C f) (hl:fs.length < 1000) (ry:aY y u)
    (h:∀ s',Inv X pins σ (upd H a (.ins C dx (zbI f y fs))) s'→Q () s'):wpAny (model X.prog X.w) A (setAttr (.ref a) f u) Q E s:=by
  obtain⟨mA,O,r,wi,_,ho⟩:=zgC I.hok e
  have hz:(fs.map (·.1)).length≤sizeLine:=by rw[lM,sizeLine_eq];lia
  refine zmS I.kIn O c.sa c.po n.taker c.hd wi hz λh' O' sb=>h _ ?_
  have hd:∃ o,h'.get? dx=some o:=let ⟨o,_,_,e',_⟩:=O'.ns;⟨o,e'⟩
  refine I.write (x:=a) (e:=dx) (by rw[e];exact True.intro) (.inr ho) (λb q hb z=>(sb.2 b hb).trans z) hd ?_
  refine⟨by rw[aD O.ne];exact ho,?_,O.ne,O'.obj,_,O'.ns,λg=>?_,λg hg=>?_⟩
  · have:=zgQ f y fs;lia
  · show zda ((zbI f y fs).lookup g) (if g=f then some u else mA g)
    rw[zbb]
    by_cases q:g=f
    · rw[if_pos q,if_pos q];exact ry
    · rw[if_neg q,if_neg q];exact r g
  · by_cases q:g=f
    · rw[q];exact(zgj f y fs).1
    · refine(zgj f y fs).2 g (wi g λz=>hg ?_)
      show(if g=f then some u else mA g)=none
      rw[if_neg q];exact z
theorem Inv.made (I:Inv X pins σ H s):Inv X pins σ (upd (upd H s.heap.objs.size (.own (s.heap.objs.size+1))) (s.heap.objs.size+1) (.ins C s.heap.objs.size []))
    { s with heap:=(s.heap.push PySem.W.emptyDict).push (PySem.W.instObj C s.heap.objs.size) }:=by
  have e1:(s.heap.push PySem.W.emptyDict).get? s.heap.objs.size=some PySem.W.emptyDict:=Heap.get?_push_size s.heap rfl
  have e2:((s.heap.push PySem.W.emptyDict).push (PySem.W.instObj C s.heap.objs.size)).get? (s.heap.objs.size+1)=some (PySem.W.instObj C s.heap.objs.size):=by
    have:=Heap.get?_push_size (s.heap.push PySem.W.emptyDict) (o:=PySem.W.instObj C s.heap.objs.size) rfl
    rwa [Heap.size_push]at this
  have e3:(s.heap.push PySem.W.emptyDict).Ns s.heap.objs.size (λ_=>none):=⟨PySem.W.emptyDict,#[],_,e1,rfl,(λe he=>absurd he (by simp)),λ_=>rfl⟩
  have I1:=I.laid (a:=s.heap.objs.size) (o:=.own (s.heap.objs.size+1)) (h':=s.heap.push PySem.W.emptyDict) (t':=s.toks) (λb u q=>hG _ q) (nRq _) ⟨_,e1⟩
  refine I1.laid (a:=s.heap.objs.size+1) (o:=.ins C s.heap.objs.size []) (t':=s.toks) (λb u q=>hG _ q) (Nat.le_of_eq (Heap.size_push _ _)) ?_
  have ne:s.heap.objs.size≠s.heap.objs.size+1:=Nat.ne_of_lt (Nat.lt_succ_self _)
  refine⟨by rw[aD ne,af],Nat.zero_le _,ne,e2,λ_=>none,(Heap.Ns1.of_empty e3).at λo q=>hG _ q,λ_=>True.intro,λy hy=>absurd rfl hy⟩
theorem znr {prog:Program} {w:World} {env:Env} {e:Expr} {f:Str} {pos:Pos} {s:Shared} {Q:Value→Shared→Prop} (hb:attributeBase e f env (eval e env)=eval e env)
    (h:wpAny (model prog w) A (eval e env) (λo s₁=>wpAny (model prog w) A (getAttr o f true) Q E s₁) E s):wpAny (model prog w) A (eval (.Attribute e f pos) env) Q E s :=
  Attribute_any_ h (by rw[arm_eval_Attribute,hb])
end
inductive rFld (K:PySem.W.Frag) (f:Str):V→Hp→VK→Prop|m{x H Q} a C dx fs v:x=.ref a→H a=some (.ins C dx fs)→Cls K C→zcL K C f→fs.lookup f=some v→Q v H→rFld K f x H Q
def tFld (K:PySem.W.Frag) (ta:TE) (f:Str):TE:=λσ H Q=>ta σ H λx H1=>rFld K f x H1 Q
def sFld (K:PySem.W.Frag) (ta tv:TE) (f:Str):TS:=λD σ H=>tv σ H λy H1=>ta σ H1 λx H2=>∃ a C dx fs,x=.ref a∧H2 a=some (.ins C dx fs)∧Cls K C∧zcL K C f∧fs.length < 1000 ∧
  D.nx σ (upd H2 a (.ins C dx (zbI f y fs)))
section
variable {X:Cx} {o e value:Expr} {f:Str} {pos pos' tpos:Pos} {ta tv:TE}
theorem aR (he:PE X e ta) (hb:attributeBase e f X.env (eval e X.env)=eval e X.env):PE X (.Attribute e f pos) (tFld X.K ta f):=by
  intro pins s σ H Q I h
  refine znr hb (thn (he pins s σ H _ I h) λu s1 ⟨x,H1,I1,rx,a,C,dx,fs,v,ex,ea,c,n,l,q⟩=>?_)
  subst ex
  obtain rfl:u=Value.ref a:=rx
  exact zkI I1 ea c n l λu' s2 I2 ru=>⟨v,H1,I2,ru,q⟩
theorem zfW (ha:PE X o ta) (hv:PE X value tv) (hs:swapsWith value (some (.Attribute o f pos')) pos.line X.env=pure false):PS X (.Assign [.Attribute o f pos'] value pos) (sFld X.K ta tv f):=by
  intro pins s σ H D I h
  refine plainObj_wpAny_Assign_Attribute (thn (hv pins s σ H _ I h) λu s1 ⟨y,H1,I1,ry,q⟩=>thn (ha pins s1 σ H1 _ I1 q) λov s2 ⟨x,H2,I2,rx,a,C,dx,fs,ex,ea,c,n,l,q2⟩=>?_) hs
  subst ex
  obtain rfl:ov=Value.ref a:=rx
  exact zkr I2 ea c n l ry λs3 I3=>⟨σ,_,I3,q2⟩
theorem znv {pl:Sem Bool} {m:Str} {apos:Pos} {args:List Expr} {pins:List (Addr × Obj)} {s:Shared} {σ:St} {H:Hp} {Q:Value→Shared→Prop} {te:TE} (he:PE X e te) (I:Inv X pins σ H s)
    (h:te σ H λx H1=>∃ a C dx fs g,x=.ref a∧H1 a=some (.ins C dx fs)∧Cls X.K C∧zdb X.K C m g∧fs.lookup m=none ∧
      ∀ s1,Inv X pins σ H1 s1→wpAny (model X.prog X.w) X.A (callWith pos (.ref g) [.ref a] (backTo pos (starEach args X.env)) (backToKw pos (keywordEach [] X.env))) Q X.xe s1)
    (ht:eval (.Call (.Attribute e m apos) args [] pos) X.env=(do
      let ov ←eval e X.env
      standAt apos.atName
      let (f,first) ←holding [ov] (getMethod ov m pl)
      callWith pos f first (backTo pos (starEach args X.env)) (backToKw pos (keywordEach [] X.env)))) :
    wpAny (model X.prog X.w) X.A (eval (.Call (.Attribute e m apos) args [] pos) X.env) Q X.xe s:=by
  refine PySem.W.methodCall_KW (pl:=pl) (thn (he pins s σ H _ I h) λu s1 ⟨x,H1,I1,rx,a,C,dx,fs,g,ex,ea,c,k,l,q⟩=>?_) ht
  subst ex
  obtain rfl:u=Value.ref a:=rx
  exact zhy I1 ea c k l (q s1 I1)
end
section
variable {X:Cx} {pins:List (Addr × Obj)} {σ:St} {H:Hp} {s:Shared} {A:Around} {E:Value→Shared→Prop} {Q:Value→Shared→Prop} {c:Value} {b:Bool}
inductive zcH (K:PySem.W.Frag) (H:Hp):V→Value→Prop where
  | non:zcH K H .non (.type "NoneType")
  | bl (x:Bool):zcH K H (.bl x) (.type "bool")
  | int (i:Int):zcH K H (.int i) (.type "int")
  | str (x:Str):zcH K H (.str x) (.type "str")
  | flt (x:UInt64):zcH K H (.flt x) (.type "float")
  | lst {a:Addr} {xs:List V} (e:H a=some (.lst xs)):zcH K H (.ref a) (.type "list")
  | frz {a:Addr} {o:Obj} {xs:List V} (e:H a=some (.frz o (.lst xs))):zcH K H (.ref a) (.type "list")
  | tup {a:Addr} {xs:List V} (e:H a=some (.tup xs)):zcH K H (.ref a) (.type "tuple")
  | dK {a:Addr} {kvs:List (Key × V)} (e:H a=some (.dK kvs)):zcH K H (.ref a) (.type "dict")
  | dT {a:Addr} {kvs:List (List Key × V)} (e:H a=some (.dT kvs)):zcH K H (.ref a) (.type "dict")
  | ins {a C dx:Addr} {fs:List (Str × V)} (e:H a=some (.ins C dx fs)) (cl:Cls K C) (ha:PySem.W.findIn K (.ref C) "__class__"=some (some (.builtin "object.__class__")))
      (hn:PySem.W.specialIn K (.builtin "object.__class__") "__get__"=some (some (.builtin "getset_descriptor.__get__"))) (htk:PySem.W.takesIn K (.builtin "object.__class__")=some true)
      (hm:PySem.W.mroIn K C (.type "object")=some true):zcH K H (.ref a) (.ref C)
theorem zlL {x:V} {u t:Value} (I:Inv X pins σ H s) (rx:aY x u) (ty:zcH X.K H x t) (e:PySem.W.kitOne X.K t c=some b) (h:∀ tk,Q (.bool b) { s with toks:=tk }) :
    wpAny (model X.prog X.w) A (call (.builtin "isinstance") [u,c]) Q E s:=by
  cases ty with
  | non=>cases (show u=Value.none from rx);exact PySem.W.kia_one PySem.W.kitx_none I.kIn True.intro e (λz=>nomatch z) h
  | bl y=>cases (show u=Value.bool y from rx);exact PySem.W.kia_one PySem.W.kitx_bool I.kIn True.intro e (λz=>nomatch z) h
  | int i=>obtain⟨t,q⟩:=(show ∃ t,u=Value.int i t from rx);cases q;exact PySem.W.kia_one PySem.W.kitx_int I.kIn True.intro e (λz=>nomatch z) h
  | str y=>obtain⟨t,q⟩:=(show ∃ t,u=Value.str y t from rx);cases q;exact PySem.W.kia_one PySem.W.kitx_str I.kIn True.intro e (λz=>nomatch z) h
  | flt y=>obtain⟨t,q⟩:=(show ∃ t,u=Value.float y t from rx);cases q;exact PySem.W.kia_one PySem.W.kitx_float I.kIn True.intro e (λz=>nomatch z) h
  | @lst a xs ea =>
    cases (show u=Value.ref a from rx)
    obtain⟨_,_,n,_,h1⟩:=(show zaE X.prog X.w H s.heap a (.lst xs) from I.hok a _ ea)
    exact PySem.W.kia_one PySem.W.kitx_list I.kIn ⟨_,h1,rfl⟩ e (λz=>nomatch z) h
  | @frz a ob xs ea =>
    cases (show u=Value.ref a from rx)
    obtain⟨_,_,_,n,_,h1⟩:=(show zaE X.prog X.w H s.heap a (.frz ob (.lst xs)) from I.hok a _ ea)
    exact PySem.W.kia_one PySem.W.kitx_list I.kIn ⟨_,h1,rfl⟩ e (λz=>nomatch z) h
  | @tup a xs ea =>
    cases (show u=Value.ref a from rx)
    obtain⟨_,_,_,p⟩:=(show zaE X.prog X.w H s.heap a (.tup xs) from I.hok a _ ea)
    obtain⟨o,h1,h2,_⟩:=p.up
    exact PySem.W.kia_one PySem.W.kitx_tuple I.kIn ⟨o,h1,h2⟩ e (λz=>nomatch z) h
  | @dK a kvs ea =>
    cases (show u=Value.ref a from rx)
    obtain⟨_,_,vs,_,p⟩:=(show zaE X.prog X.w H s.heap a (.dK kvs) from I.hok a _ ea)
    obtain⟨o,es,ep,h1,h2,_⟩:=p
    exact PySem.W.kia_one PySem.W.kitx_dict I.kIn ⟨o,h1,h2.1⟩ e (λz=>nomatch z) h
  | @dT a kvs ea =>
    cases (show u=Value.ref a from rx)
    obtain⟨_,_,xs,_,o,es,ep,h1,h2,_⟩:=(show zaE X.prog X.w H s.heap a (.dT kvs) from I.hok a _ ea)
    exact PySem.W.kia_one PySem.W.kitx_dict I.kIn ⟨o,h1,h2.1⟩ e (λz=>nomatch z) h
  | @ins a C dx fs ea cl ha hn htk hm =>
    cases (show u=Value.ref a from rx)
    obtain⟨mA,O,_⟩:=zgC I.hok ea
    obtain⟨od,J,_⟩:=O.look
    exact PySem.W.kia_one (PySem.W.kitx_own (cl.get _) cl.hd ha hn htk hm) I.kIn J e (λz=>nomatch z) h
end
end L2
namespace L2
open PySem PySem.Spec PyProof.Rows
structure ba (k:Nat) (A:Around):Prop where
  hd:A.handled=none
  dp:A.depth+3 * k+5 < recursionLimit
  un:A.units+16 * k+200 < cLine
  gd:A.guards=some []
theorem ba.mono {j k:Nat} {A:Around} (r:ba k A) (h:j≤k):ba j A:=⟨r.hd,by have:=r.dp;lia,by have:=r.un;lia,r.gd⟩
theorem ba.deeper {k:Nat} {A:Around} (r:ba (k+1) A) (env:Env):ba k (A.deeper env) :=
  ⟨r.hd,by have:=r.dp;show A.depth+1+3 * k+5 < _;lia,by have:=r.un;show A.units+3+16 * k+200 < _;lia,r.gd⟩
theorem zkF {A:Around} {C:Addr} {us:List Value} {kw:List (Str × Value)}:(A.under (.builtin "type.__call__" ⟨.ref C :: us,kw⟩)).depth=A.depth+1:=by
  first | rfl | simp [Around.under,Code.weight,Code.isCreation,Code.isGuard,Code.isCaller,Code.frames,Code.isFrame,guardIds]
theorem zkE {A:Around} {C:Addr} {us:List Value} {kw:List (Str × Value)}:(A.under (.builtin "type.__call__" ⟨.ref C :: us,kw⟩)).units=A.units+1:=by
  first | rfl | simp [Around.under,Code.cUnits,Code.frames,Code.isFrame]
theorem zjD {A:Around} {C:Addr} {us:List Value} {kw:List (Str × Value)} (h:A.guards=some []):(A.under (.builtin "type.__call__" ⟨.ref C :: us,kw⟩)).guards=some []:=by
  first | exact h | simp [Around.under,Code.guards,Code.isGuard,guardIds,pushGuards,h]
theorem ba.make {k:Nat} {A:Around} (r:ba (k+1) A) (C:Addr) (us:List Value) (kw:List (Str × Value)):ba k (A.under (.builtin "type.__call__" ⟨.ref C :: us,kw⟩)) :=
  ⟨r.hd,by have:=r.dp;rw[zkF];lia,by have:=r.un;rw[zkE];lia,zjD r.gd⟩
theorem ba.depth {k:Nat} {A:Around} (r:ba k A):A.depth < recursionLimit:=by have:=r.dp;lia
theorem ba.units {k:Nat} {A:Around} (r:ba k A):A.units+64 < cLine:=by have:=r.un;lia
def tNil:TA:=λ_ H Q=>Q [] H
def tCons (ta:TE) (tr:TA):TA:=λσ H Q=>ta σ H λx H1=>tr σ H1 λxs H2=>Q (x :: xs) H2
section
variable {X:Cx} {e:Expr} {es:List Expr} {te:TE} {t:TA} {pos:Pos}
theorem ac:PA X [] tNil:=λ_ _ _ _ H Q I h=>Calls.spliced_nil ⟨[],H,I,.nil,h⟩
theorem aa (ha:PE X e te) (hr:PA X es t) (hs:starEach (e :: es) X.env=(false,eval e X.env) :: starEach es X.env:=by rfl):PA X (e :: es) (tCons te t):=by
  intro pos pins s σ H Q I h
  rw[hs]
  show wpAny _ _ (spliced ((false,eval e X.env) :: backTo pos (starEach es X.env))) _ _ s
  refine Calls.spliced_cons (thn (ha pins s σ H _ I h) λu s1 ⟨x,H1,I1,r1,q1⟩=>?_)
  exact thn (hr pos pins s1 σ H1 _ I1 q1) λus s2 ⟨xs,H2,I2,r2,q2⟩=>⟨x :: xs,H2,I2,.cons r1 r2,q2⟩
def tTup (t:TA):TE:=λσ H Q=>t σ H λxs H1=>xs.length≤sizeLine∧∀ p,H1 p=none→Q (.ref p) (upd H1 p (.tup xs))
def tLst (t:TA):TE:=λσ H Q=>t σ H λxs H1=>xs.length≤sizeLine∧∀ p,H1 p=none→Q (.ref p) (upd H1 p (.lst xs))
theorem zal {x1} (h:PA X es t):PE X (.Tuple es x1 pos) (tTup t):=by
  intro pins s σ H Q I hq
  refine wpAny_Tuple_spliced (thn (h pos pins s σ H _ I hq) λus s1 ⟨xs,H1,I1,r,z,q⟩=>⟨by rw[←r.length];exact z,?_⟩)
  have hf:H1 s1.heap.objs.size=none:=I1.hok.fresh (nRq _)
  refine⟨.ref s1.heap.objs.size,upd H1 s1.heap.objs.size (.tup xs),I1.laid (t':=s1.toks) (λb u e=>hG _ e) (nRq _) ?_,rfl,q _ hf⟩
  exact⟨z,us,r,⟨_,Heap.get?_push_size _ rfl,rfl,_,rfl⟩⟩
theorem zaq (h:PA X es t):PE X (.List es pos) (tLst t):=by
  intro pins s σ H Q I hq
  refine wpAny_List_spliced (thn (h pos pins s σ H _ I hq) λus s1 ⟨xs,H1,I1,r,z,q⟩=>⟨by rw[←r.length];exact z,?_⟩)
  have hf:H1 s1.heap.objs.size=none:=I1.hok.fresh (nRq _)
  refine⟨.ref s1.heap.objs.size,upd H1 s1.heap.objs.size (.lst xs),I1.laid (t':=s1.toks) (λb u e=>hG _ e) (nRq _) ?_,rfl,q _ hf⟩
  exact⟨z,us,0,r,Heap.get?_push_size _ rfl⟩
end
abbrev Sp:=List V→Hp→VK→XK→Prop
abbrev CXT:=List Env→Hp→Shared→XK→Value→Shared→Prop
structure zgU (P:Program) (w:World) (K:PySem.W.Frag) (mg:Str→Option Value) (base:Heap) (A:Around) (outer:List Env) (s:Shared) (H:Hp):Prop where
  frames:A.frames=some outer
  mod:Mod K mg base
  bs:∀ b o,base.get? b=some o→s.heap.get? b=some o∧H b=none
  bsz:base.objs.size≤s.heap.objs.size
  funs:s.heap.FunFrames base outer
  frf:∀ b∈frs outer,H b=none
  hok:HOk P w H s.heap
  bare:AllBare s.gens
def CE (outer:List Env) (P:Program) (w:World) (H:Hp) (s:Shared) (Q:VK) (u:Value) (s':Shared):Prop :=
  ∃ v H',s'.os=s.os∧AllBare s'.gens∧Un (frs outer) [] H H' s.heap s'.heap∧HOk P w H' s'.heap∧aY v u∧Q v H'
def CR (CX:CXT) (outer:List Env) (P:Program) (w:World) (H:Hp) (s:Shared) (Q:VK) (E:XK) (r:Result) (s':Shared):Prop :=
  match r with
  | .ok (.ret u)=>CE outer P w H s Q u s'
  | .ok _=>False
  | .error e=>CX outer H s E e s'
structure aQ (P:Program) (w:World) (K:PySem.W.Frag) (mg:Str→Option Value) (base:Heap) (CX:CXT) (k:Nat) (f:Addr) (fd:FuncData) (ps:List Str) (sp:Sp):Prop where
  len:∀ vs H Q E,sp vs H Q E→vs.length=ps.length
  run:∀(A:Around) (outer:List Env) (s:Shared) (H:Hp) (args:Args) (us:List Value) (vs:List V) (Q:VK) (E:XK),ba k A→zgU P w K mg base A outer s H→BindsTo s fd args (ps.zip us)→aW vs us→sp vs H Q E →
    codeAny (model P w) A (.call (.ref f) args) (CR CX outer P w H s Q E) s
theorem aQ.mono {P:Program} {w:World} {K:PySem.W.Frag} {mg:Str→Option Value} {base:Heap} {CX:CXT} {j k:Nat} {f:Addr} {fd:FuncData} {ps:List Str} {sp:Sp} (F:aQ P w K mg base CX j f fd ps sp) (h:j≤k) :
    aQ P w K mg base CX k f fd ps sp:=⟨F.len,λA outer s H args us vs Q E hr=>F.run A outer s H args us vs Q E (hr.mono h)⟩
theorem zgU.make {P:Program} {w:World} {K:PySem.W.Frag} {mg:Str→Option Value} {base:Heap} {A:Around} {outer:List Env} {s:Shared} {H:Hp} (e:zgU P w K mg base A outer s H) (C:Addr) (us:List Value) (kw:List (Str × Value)) :
    zgU P w K mg base (A.under (.builtin "type.__call__" ⟨.ref C :: us,kw⟩)) outer s H:=⟨by first | exact e.frames | (simpa [Around.under,Code.envs,Code.isFrame,pushEnvs] using e.frames),e.mod,e.bs,e.bsz,e.funs,e.frf,e.hok,e.bare⟩
section
variable {X:Cx} {pins:List (Addr × Obj)} {σ:St} {H:Hp} {s s':Shared}
theorem Inv.env0 (I:Inv X pins σ H s):zgU X.prog X.w X.K X.mg X.base X.A X.stack s H :=
  ⟨I.ok.frames,I.ok.mod,I.bs,Nat.le_trans I.ok.bsz I.sz,I.stack,I.stkFree,I.hok,I.bare⟩
theorem Inv.after {Q:VK} {u:Value} (I:Inv X pins σ H s) (h:CE X.stack X.prog X.w H s Q u s'):EP X pins σ Q u s':=by
  obtain⟨v,H',os,bare,un,hok,r,q⟩:=h
  obtain⟨hh,g,d,t,os'⟩:=s'
  obtain rfl:os'=s.os:=os
  exact⟨v,H',I.call (h':=hh) (g':=g) (d':=d) (t':=t) (ch:=[]) un hok bare (λb z=>absurd z (by simp)),r,q⟩
end
def tCall (sp:Sp) (dvs:List V) (E:XK) (t:TA):TE:=λσ H Q=>t σ H λvs H1=>sp (vs++dvs) H1 Q E
inductive isO (C:Addr) (m:Str):V→Hp→Prop→Prop|m{x H R} a dx fs:x=.ref a→H a=some (.ins C dx fs)→fs.lookup m=none→R→isO C m x H R
def tMeth (C:Addr) (m:Str) (sp:Sp) (dvs:List V) (E:XK) (ta:TE) (t:TA):TE:=λσ H Q=>ta σ H λx H1=>isO C m x H1 <| t σ H1 λvs H2=>sp (x :: (vs++dvs)) H2 Q E
def tMake (C:Addr) (sp:Sp) (dvs:List V) (E:XK) (t:TA):TE:=λσ H Q=>t σ H λvs H1=>∀ x dx,H1 x=none→H1 dx=none→dx≠x →
  sp (.ref x :: (vs++dvs)) (upd (upd H1 dx (.own x)) x (.ins C dx [])) (λv H2=>v=.non∧Q (.ref x) H2) E
def aF (K:PySem.W.Frag) (fd:FuncData) (ps:List Str) (ds:List Value):Prop :=
  ∀(s:Shared) (us:List Value),K.In s.heap→(us++ds).length=ps.length→BindsTo s fd ⟨us,[]⟩ (ps.zip (us++ds))
theorem aF.all {K:PySem.W.Frag} {fd:FuncData} {ps:List Str} (h:∀ us:List Value,us.length=ps.length→bindArgs fd ⟨us,[]⟩=pure (ps.zip us)):aF K fd ps []:=λs us _ hl=>by
  rw[List.append_nil]at hl ⊢
  exact .of_eq (h us hl)
def zdZ (CX:CXT) (X:Cx) (E:XK):Prop:=∀(pins:List (Addr × Obj)) (σ:St) (H:Hp) (s:Shared) (e:Value) (s':Shared),Inv X pins σ H s→CX X.stack H s E e s'→X.xe e s'
section
variable {X:Cx} {CX:CXT} {k:Nat} {f C:Addr} {fd:FuncData} {ps:List Str} {sp:Sp} {dvs:List V} {ds:List Value} {E:XK} {x m:Str} {p pos apos:Pos} {e o:Expr} {es:List Expr} {ta:TE} {t:TA}
theorem zkQ {pins:List (Addr × Obj)} {σ:St} {H:Hp} {s:Shared} {Q:VK} {us:List Value} {vs:List V} (F:aQ X.prog X.w X.K X.mg X.base CX k f fd ps sp) (hr:ba k X.A) (hb:aF X.K fd ps ds) (hd:aW dvs ds) (hx:zdZ CX X E)
    (I:Inv X pins σ H s) (r:aW vs us) (h:sp (vs++dvs) H Q E):wpAny (model X.prog X.w) X.A (call (.ref f) us) (EP X pins σ Q) X.xe s:=by
  have r2:aW (vs++dvs) (us++ds):=r.append hd
  have hl:(us++ds).length=ps.length:=by rw[←r2.length];exact F.len _ _ _ _ h
  refine wpAny_call (codeAny_mono (F.run X.A X.stack s H ⟨us,[]⟩ (us++ds) (vs++dvs) Q E hr I.env0 (hb s us I.kIn hl) r2 h) λr s' hq=>?_)
  cases r with
  | error e=>exact hx pins σ H s e s' I hq
  | ok fl =>
    cases fl with
    | ret u=>exact I.after hq
    | next=>exact False.elim hq
    | brk=>exact False.elim hq
    | cont=>exact False.elim hq
theorem aB (F:aQ X.prog X.w X.K X.mg X.base CX k f fd ps sp) (hr:ba k X.A) (hg:Gl X x) (hm:X.mg x=some (.ref f)) (hk:PySem.W.keepIn X.K (.ref f)=true) (hb:aF X.K fd ps ds) (hd:aW dvs ds) (hx:zdZ CX X E)
    (ha:PA X (e :: es) t) (hdb:(x == ("__debug__":Str))=false:=by decide) (he:starEach (e :: es) X.env=(false,eval e X.env) :: starEach es X.env:=by rfl) (hpl:(backTo pos (starEach es X.env)).any (·.1)=false:=by rfl) :
    PE X (.Call (.Name x p) (e :: es) [] pos) (tCall sp dvs E t):=by
  intro pins s σ H Q I h
  refine wpAny_Call_Name_kw (zgA I hg hm ?_ hdb)
  refine PySem.W.callWith_K (h₀:=X.base) I.ok.mod.kin hk (thn (ha pos pins s σ H _ I h) λus s1 ⟨vs,H1,I1,r,q⟩=>⟨I1.kIn,?_⟩) he hpl
  exact zkQ F hr hb hd hx I1 r q
theorem zaO {pl:Sem Bool} (he:PE X o ta) (c:Cls X.K C) (hm:zdb X.K C m f) (F:aQ X.prog X.w X.K X.mg X.base CX k f fd ps sp) (hr:ba k X.A) (hb:aF X.K fd ps ds) (hd:aW dvs ds) (hx:zdZ CX X E) (ha:PA X (e :: es) t)
    (hst:starEach (e :: es) X.env=(false,eval e X.env) :: starEach es X.env:=by rfl) (hpl:(backTo pos (starEach es X.env)).any (·.1)=false:=by rfl)
    (ht:eval (.Call (.Attribute o m apos) (e :: es) [] pos) X.env=(do
      let ov ←eval o X.env
      standAt apos.atName
      let (f,first) ←holding [ov] (getMethod ov m pl)
      callWith pos f first (backTo pos (starEach (e :: es) X.env)) (backToKw pos (keywordEach [] X.env))):=by rfl) :
    PE X (.Call (.Attribute o m apos) (e :: es) [] pos) (tMeth C m sp dvs E ta t):=by
  intro pins s σ H Q I h
  refine PySem.W.methodCall_KW (pl:=pl) (thn (he pins s σ H _ I h) λu s1 ⟨x,H1,I1,rx,a,dx,fs,ex,ea,l,q⟩=>?_) ht
  subst ex
  obtain rfl:u=Value.ref a:=rx
  refine zhy I1 ea c hm l ?_
  refine PySem.W.callWith_K (first:=[.ref a]) (h₀:=X.base) I.ok.mod.kin hm.kp (thn (ha pos pins s1 σ H1 _ I1 q) λus s2 ⟨vs,H2,I2,r,q2⟩=>⟨I2.kIn,?_⟩) hst hpl
  exact zkQ (us:=.ref a :: us) (vs:=.ref a :: vs) F hr hb hd hx I2 (.cons rfl r) q2
structure Mk (K:PySem.W.Frag) (C f:Addr):Prop where
  makes:PySem.W.makesIn K C=true
  init:PySem.W.findIn K (.ref C) "__init__"=some (some (.ref f))
  fn:PySem.W.isFn K (.ref f)=true
  kp:PySem.W.keepIn K (.ref C)=true
theorem zl3 {pins:List (Addr × Obj)} {σ:St} {H:Hp} {s:Shared} {Q:VK} {us:List Value} {vs:List V} (M:Mk X.K C f) (F:aQ X.prog X.w X.K X.mg X.base CX k f fd ps sp) (hr:ba (k+1) X.A) (hb:aF X.K fd ps ds) (hd:aW dvs ds)
    (hx:zdZ CX X E) (I:Inv X pins σ H s) (r:aW vs us)
    (h:∀ x dx,H x=none→H dx=none→dx≠x→sp (.ref x :: (vs++dvs)) (upd (upd H dx (.own x)) x (.ins C dx [])) (λv H2=>v=.non∧Q (.ref x) H2) E) :
    wpAny (model X.prog X.w) X.A (call (.ref C) us) (EP X pins σ Q) X.xe s:=by
  have hq:=h (s.heap.objs.size+1) s.heap.objs.size (I.hok.fresh (Nat.le_succ _)) (I.hok.fresh (nRq _)) (Nat.ne_of_lt (Nat.lt_succ_self _))
  have I2:=Inv.made (C:=C) I
  have r2:aW (V.ref (s.heap.objs.size+1) :: (vs++dvs)) (Value.ref (s.heap.objs.size+1) :: (us++ds)):=.cons rfl (r.append hd)
  have hl:(Value.ref (s.heap.objs.size+1) :: us++ds).length=ps.length:=by
    have e:=r2.length
    rw[F.len _ _ _ _ hq]at e
    exact e.symm
  refine wpAny_call (zmp (f:=f) I.kIn M.makes M.init (beq_iff_eq.mp M.fn) (codeAny_mono (F.run _ X.stack _ _ ⟨Value.ref (s.heap.objs.size+1) :: us,[]⟩ (Value.ref (s.heap.objs.size+1) :: (us++ds)) _ _ E (hr.make C us [])
    (I2.env0.make C us []) (hb _ (Value.ref (s.heap.objs.size+1) :: us) I2.kIn hl) r2 hq) λr s' hq'=>?_))
  cases r with
  | error e=>exact hx pins σ _ _ e s' I2 hq'
  | ok fl =>
    cases fl with
    | ret u =>
      obtain⟨v,H',I3,rv,ev,q3⟩:=I2.after hq'
      subst ev
      exact⟨rv,⟨V.ref (s.heap.objs.size+1),H',I3,rfl,q3⟩⟩
    | next=>exact False.elim hq'
    | brk=>exact False.elim hq'
    | cont=>exact False.elim hq'
theorem ziY (M:Mk X.K C f) (F:aQ X.prog X.w X.K X.mg X.base CX k f fd ps sp) (hr:ba (k+1) X.A) (hg:Gl X x) (hm:X.mg x=some (.ref C)) (hb:aF X.K fd ps ds) (hd:aW dvs ds) (hx:zdZ CX X E)
    (hdb:(x == ("__debug__":Str))=false:=by decide):PE X (.Call (.Name x p) [] [] pos) (tMake C sp dvs E tNil):=by
  intro pins s σ H Q I h
  refine wpAny_Call_Name_kw (zgA I hg hm ?_ hdb)
  exact PySem.W.callWith_K0 I.kIn M.kp (zl3 (us:=[]) M F hr hb hd hx I .nil h)
end
section
variable {X:Cx} {CX:CXT} {k:Nat} {f C:Addr} {fd:FuncData} {ps ks:List Str} {sp:Sp} {E:XK} {x m:Str} {p pos apos kpos:Pos} {e o:Expr} {es:List Expr} {kws:List Keyword} {te ta:TE} {t tk:TA} {nm:Option Str}
variable {g:List Value→List Value→List Value} {gV:List V→List V→List V}
end
structure aO (N P:List Str) (sc:Scope):Prop where
  kind:sc.kind=.function
  co:sc.isCoroutine=false
  gen:sc.isGenerator=false
  nd:N.Nodup
  pre:N.take P.length=P
  par:∀ x∈P,sc.names.lookup x=some .local∨sc.names.lookup x=some .cell
  nofree:∀ y∈sc.names,y.2≠.free
theorem fsc {N P:List Str} {sc:Scope} (a:sc.kind=.function:=by exact rfl) (b:sc.isCoroutine=false:=by exact rfl) (c:sc.isGenerator=false:=by exact rfl) (d:N.Nodup:=by decide +kernel) (e:N.take P.length=P:=by exact rfl) (f:∀ x∈P,sc.names.lookup x=some .local∨sc.names.lookup x=some .cell:=by decide +kernel) (g:∀ y∈sc.names,y.2≠.free:=by decide +kernel):aO N P sc:=⟨a,b,c,d,e,f,g⟩
theorem zih {kindOf:Str→Option NameKind} {x:Str}:∀ {binds:List (Str × Value)} {m:Str→Option Value},(∀ v,(x,v)∉binds)→bindL kindOf binds m x=m x
  | [],_,_=>rfl
  | (n,v) :: r,m,h=>by
    unfold bindL
    rw[zih λw hw=>h w (List.mem_cons_of_mem _ hw)]
    split
    · have:x≠n:=by rintro rfl;exact h v List.mem_cons_self
      simp [this]
    · rfl
theorem zij {kindOf:Str→Option NameKind} {x:Str}:∀ {binds:List (Str × Value)} {m:Str→Option Value},(∀ v,(x,v)∉binds)→bindC kindOf binds m x=m x
  | [],_,_=>rfl
  | (n,v) :: r,m,h=>by
    unfold bindC
    rw[zij λw hw=>h w (List.mem_cons_of_mem _ hw)]
    split
    · rfl
    · have:x≠n:=by rintro rfl;exact h v List.mem_cons_self
      simp [this]
theorem zii {kindOf:Str→Option NameKind} {x:Str} {v:Value}:∀ {P:List Str} {vs:List Value} {i:Nat} {m:Str→Option Value},P.Nodup→P[i]?=some x→vs[i]?=some v→kindOf x=some .local →
    bindL kindOf (P.zip vs) m x=some v
  | [],_,_,_,_,h,_,_=>by simp at h
  | _ :: _,[],_,_,_,_,h,_=>by simp at h
  | p :: P,w :: vs,0,m,nd,h1,h2,hk=>by
    simp at h1 h2;subst h1;subst h2
    show bindL kindOf ((p,w) :: P.zip vs) m p=_
    unfold bindL
    rw[zih λv hv=>(List.nodup_cons.mp nd).1 (List.of_mem_zip hv).1,if_pos hk]
    simp
  | p :: P,w :: vs,i+1,m,nd,h1,h2,hk=>by
    show bindL kindOf ((p,w) :: P.zip vs) m x=_
    unfold bindL
    exact zii (i:=i) (List.nodup_cons.mp nd).2 (by simpa using h1) (by simpa using h2) hk
theorem zik {kindOf:Str→Option NameKind} {x:Str} {v:Value}:∀ {P:List Str} {vs:List Value} {i:Nat} {m:Str→Option Value},P.Nodup→P[i]?=some x→vs[i]?=some v→kindOf x≠some .local →
    bindC kindOf (P.zip vs) m x=some v
  | [],_,_,_,_,h,_,_=>by simp at h
  | _ :: _,[],_,_,_,_,h,_=>by simp at h
  | p :: P,w :: vs,0,m,nd,h1,h2,hk=>by
    simp at h1 h2;subst h1;subst h2
    show bindC kindOf ((p,w) :: P.zip vs) m p=_
    unfold bindC
    rw[zij λv hv=>(List.nodup_cons.mp nd).1 (List.of_mem_zip hv).1,if_neg hk]
    simp
  | p :: P,w :: vs,i+1,m,nd,h1,h2,hk=>by
    show bindC kindOf ((p,w) :: P.zip vs) m x=_
    unfold bindC
    exact zik (i:=i) (List.nodup_cons.mp nd).2 (by simpa using h1) (by simpa using h2) hk
def zea (N:List Str) (vs:List V):St:=vs.map some++List.replicate (N.length - vs.length) none
def aX (CX:CXT) (P:Program) (w:World) (K:PySem.W.Frag) (mg:Str→Option Value) (base:Heap) (N:List Str) (qual:Str) (scope:Scope) (f:Addr) (cd:Value) (A:Around) (outer:List Env) (s:Shared) (H:Hp) (E:XK):Cx where
  prog:=P
  w:=w
  K:=K
  mg:=mg
  base:=base
  A:=A.deeper (envOfC qual scope s.heap.objs.size f cd)
  N:=N
  s₀:=s
  H₀:=H
  env:=envOfC qual scope s.heap.objs.size f cd
  outer:=outer
  stack:=envOfC qual scope s.heap.objs.size f cd :: outer
  ex:=[]
  calm:=true
  fn:=λ_=>true
  pn:=[]
  xe:=λe s'=>wpAny (model P w) (A.deeper (envOfC qual scope s.heap.objs.size f cd)) (leaving (envOfC qual scope s.heap.objs.size f cd) e) (λ_ s''=>CX outer H s E e s'') (λe' s''=>CX outer H s E e' s'') s'
theorem zji {sc:Scope} {n:Nat} {x:Str} (h:sc.names.lookup x=some .cell):∃ c,(cellsFrom n sc.names []).lookup x=some c:=by
  have q:=PySem.W.cellsFrom_some sc.names n [] (.inl h)
  exact Option.isSome_iff_exists.mp q
theorem zlM {CX:CXT} {P:Program} {w:World} {K:PySem.W.Frag} {mg:Str→Option Value} {base:Heap} {N ps:List Str} {qual:Str} {scope:Scope} {f:Addr} {cd:Value} {A:Around} {outer:List Env} {s s1:Shared} {H:Hp} {E:XK} {us:List Value} {vs:List V}
    (S:aO N ps scope) (hd:A.handled=none) (e0:zgU P w K mg base A outer s H) (hl:vs.length=ps.length) (r:aW vs us)
    (x:InCallC s s.heap.objs.size (bindL (envOfC qual scope s.heap.objs.size f cd).kindOf (ps.zip us) λ_=>none) (cellsFrom (s.heap.objs.size+1) scope.names []) (bindC (envOfC qual scope s.heap.objs.size f cd).kindOf (ps.zip us) λ_=>none) s1) :
    Inv (aX CX P w K mg base N qual scope f cd A outer s H E) [] (zea N vs) H s1:=by
  have hpl:ps.length≤N.length:=by have:=congrArg List.length S.pre;rw[List.length_take]at this;lia
  obtain⟨h1,tk,rfl,hk⟩:=x.done
  have noA:∀ b:Addr,b∉(aX CX P w K mg base N qual scope f cd A outer s H E).ex:=λb z=>absurd (show b∈([]:List Addr) from z) (by simp)
  refine⟨⟨e0.mod,S.kind,rfl,rfl,nRq _,λy z c h1 h2=>?_,λy hy=>?_,λy c _ h=>?_,λ_=>hd,Around.frames_deeper e0.frames,.inr ⟨rfl,rfl⟩,λb z=>absurd z (noA b),e0.bs,e0.bsz,λb _ _=>noA b,λb z=>absurd z (noA b),e0.funs,e0.frf⟩,
    rfl,e0.bare,Un.kept hk,⟨_,x.toInCall.ns,λi y v h1 h2 h3=>?_⟩,λy c h=>⟨_,x.cell y c h⟩,e0.hok.fresh (nRq _),λy c h=>?_,λp hp=>absurd (show p∈([]:List (Addr × Obj)) from hp) (by simp),e0.hok.kept hk,?_⟩
  · exact name_of_addr x.apart (PySem.mem_of_lookup h1) (PySem.mem_of_lookup h2)
  · have hy:scope.names.lookup y=some .cell∨scope.names.lookup y=some .free:=hy
    rcases hy with hy | hy
    · exact zji hy
    · exact absurd rfl (S.nofree _ (PySem.mem_of_lookup hy))
  · exact Nat.le_of_lt (x.above y c (PySem.mem_of_lookup h))
  · have hi:i < vs.length:=by
      unfold zea at h2
      by_cases hi:i < vs.length
      · exact hi
      · rw[List.getElem?_append_right (by simpa using hi)]at h2
        rw[List.getElem?_replicate]at h2
        split at h2 <;> cases h2
    have ha:vs[i]?=some v:=by
      unfold zea at h2
      rw[List.getElem?_append_left (by simpa using hi),List.getElem?_map]at h2
      cases e:vs[i]? with
      | none=>rw[e]at h2;cases h2
      | some a=>rw[e]at h2;cases h2;rfl
    obtain⟨u,hu,rv⟩:=r.get ha
    have hp:ps[i]?=some y:=by
      rw[←S.pre,List.getElem?_take_of_lt (by lia)];exact h1
    have ndP:ps.Nodup:=by rw[←S.pre];exact S.nd.sublist (List.take_sublist _ _)
    refine⟨u,rv,?_⟩
    rcases S.par y (mOq hp) with k | k
    · exact .inl ⟨k,zii ndP hp hu k⟩
    · obtain⟨c,e⟩:=zji (n:=s.heap.objs.size+1) k
      refine .inr ⟨.inl k,c,e,?_⟩
      have q:=x.cell y c e
      rw[zik ndP hp hu (by show scope.names.lookup y≠_;rw[k];decide)]at q
      exact q
  · exact e0.hok.fresh (Nat.le_of_lt (x.above y c (PySem.mem_of_lookup h)))
  · unfold zea
    show _=N.length
    rw[lAq,lM,List.length_replicate]
    lia
theorem fn_of {CX:CXT} {P:Program} {w:World} {K:PySem.W.Frag} {mg:Str→Option Value} {base:Heap} {k:Nat} {f:Addr} {name qual:Str} {params:Arguments} {body:List Stmt} {scope:Scope} {dV kV doc pm cdv ct oc:Value} {an od:Option Addr}
    {osl:Array (Option Value)} {N ps:List Str} {sp:Sp} (lk:K.lookup f=some ⟨oc,od,.func (PySem.W.fnOf name qual params body scope dV kV doc pm an cdv ct),osl⟩) (hcd:PySem.W.codeIn K cdv qual=true) (S:aO N ps scope)
    (len:∀ vs H Q E,sp vs H Q E→vs.length=ps.length)
    (hbody:∀(A:Around) (outer:List Env) (s:Shared) (H:Hp) (vs:List V) (Q:VK) (E:XK),ba k (A.deeper (envOfC qual scope s.heap.objs.size f cdv))→sp vs H Q E →
      ∃ t,PSs (aX CX P w K mg base N qual scope f cdv A outer s H E) body t∧t { nx:=λ_ H'=>Q .non H',rt:=Q } (zea N vs) H) :
    aQ P w K mg base CX (k+1) f (PySem.W.fnOf name qual params body scope dV kV doc pm an cdv ct) ps sp:=by
  refine⟨len,λA outer s H args us vs Q E hr e0 hb r hsp=>?_⟩
  have hl:=len _ _ _ _ hsp
  have KX:K.In s.heap:=e0.mod.kin.keeps λb o e=>(e0.bs b o e).1
  have lim:s.heap.NoLimit:=e0.mod.nolimit.keeps λb o e=>(e0.bs b o e).1
  have hkind:∀ y∈ps.zip us,scope.names.lookup y.1=some .local∨(scope.names.lookup y.1=some .cell∧((cellsFrom (s.heap.objs.size+1) scope.names []).lookup y.1).isSome=true):=λ⟨n,v⟩ hy=>by
    rcases S.par n (List.of_mem_zip hy).1 with q | q
    · exact .inl q
    · exact .inr ⟨q,PySem.W.cellsFrom_some _ _ _ (.inl q)⟩
  refine codeAny_call_function hr.depth (KX _ _ lk) rfl S.co S.gen rfl (PySem.W.codeRec_of KX hcd) (hb _ _ _ _ ?_)
  refine wpAny_newFunctionEnv_cells S.kind hkind λenv he s1 x=>?_
  subst he
  refine⟨lim.keeps x.toInCall.keep,codeAny_func ?_⟩
  obtain⟨t,ht,hq⟩:=hbody A outer s H vs Q E (hr.deeper _) hsp
  have I:Inv (aX CX P w K mg base N qual scope f cdv A outer s H E) [] (zea N vs) H s1:=zlM S hr.hd e0 hl r x
  refine wpAny_mono (ht [] s1 (zea N vs) H _ I hq) (λfl s' hs=>?_) λe s' hs=>hs
  have fin:∀ {σ':St} {H':Hp} {v:V} {u:Value},Inv (aX CX P w K mg base N qual scope f cdv A outer s H E) [] σ' H' s'→aY v u→Q v H'→CE outer P w H s Q u s' :=
    λ{σ' H' v u} J rv q=>⟨v,H',J.os,J.bare,J.base,J.hok,rv,q⟩
  cases fl with
  | ret u =>
    obtain⟨v,σ',H',J,rv,q⟩:=hs
    exact fin J rv q
  | next =>
    obtain⟨σ',H',J,q⟩:=hs
    exact fin (v:=V.non) (u:=Value.none) J rfl q
  | brk =>
    obtain⟨_,_,_,q⟩:=hs
    exact False.elim q
  | cont =>
    obtain⟨_,_,_,q⟩:=hs
    exact False.elim q
end L2
namespace L2
open PySem PySem.Spec PyProof.Rows
section
variable {X:Cx} {x:Str} {p pos:Pos} {e:Expr} {es:List Expr} {t:TA} {id T:String} {r:List V→Hp→VK→Prop}
def tCB (r:List V→Hp→VK→Prop) (t:TA):TE:=λσ H Q=>t σ H λvs H1=>r vs H1 Q
theorem ap (hc:zbp X (.builtin id) r) (hg:Gl X x) (hm:X.mg x=none) (hv:bootBuiltins x=some (.builtin id)) (ha:PA X (e :: es) t) (hn:x≠"__name__":=by decide) (hdb:(x == ("__debug__":Str))=false:=by decide)
    (he:starEach (e :: es) X.env=(false,eval e X.env) :: starEach es X.env:=by rfl) (hpl:(backTo pos (starEach es X.env)).any (·.1)=false:=by rfl):PE X (.Call (.Name x p) (e :: es) [] pos) (tCB r t):=by
  intro pins s σ H Q I h
  refine wpAny_Call_Name_kw (zdX I hg hm hv ?_ hn hdb)
  exact PyProof.Rows.callWith_builtin1 (thn (ha pos pins s σ H _ I h) λus s1 ⟨vs,H1,I1,r1,q1⟩=>hc pins s1 σ H1 vs us Q I1 r1 q1) he hpl
theorem zai (hc:zbp X (.type T) r) (hg:Gl X x) (hm:X.mg x=none) (hv:bootBuiltins x=some (.type T)) (ha:PA X (e :: es) t) (hn:x≠"__name__":=by decide) (hdb:(x == ("__debug__":Str))=false:=by decide)
    (he:starEach (e :: es) X.env=(false,eval e X.env) :: starEach es X.env:=by rfl) (hpl:(backTo pos (starEach es X.env)).any (·.1)=false:=by rfl):PE X (.Call (.Name x p) (e :: es) [] pos) (tCB r t):=by
  intro pins s σ H Q I h
  refine wpAny_Call_Name_kw (zdX I hg hm hv ?_ hn hdb)
  exact PyProof.Rows.callWith_type1 (thn (ha pos pins s σ H _ I h) λus s1 ⟨vs,H1,I1,r1,q1⟩=>hc pins s1 σ H1 vs us Q I1 r1 q1) he hpl
end
end L2
namespace HT
open PySem PyProof.Rows
section
open PySem.SeqAt
open PySem.AutoSeq1 (wpAny_loadPart')
open PySem.MeetsSeq PySem.MeetsSeq2 PySem.MeetsSeq3
end
section
variable {prog:Program} {w:World} {A:Around} {E:Value→Shared→Prop} {s:Shared}
theorem cat_tup {t b:Addr} {vs ws:List Value} {Q:Value→Shared→Prop} (ht:IsTup s.heap t vs.toArray) (hb:IsTup s.heap b ws.toArray) (hv:vs≠[])
    (h1:ws=[]→Q (.ref t) s) (h2:ws≠[]→Q (.ref s.heap.objs.size) { s with heap:=s.heap.push { cls:=.type "tuple",data:=.seq (vs++ws).toArray } })
    (hsz:vs.length+ws.length≤sizeLine):wpAny (model prog w) A (binaryOp .Add (.ref t) (.ref b)) Q E s:=by
  obtain⟨⟨cls,dd,data,sl⟩,ho,hc,n,hd⟩:=id ht
  obtain⟨⟨cls2,dd2,data2,sl2⟩,ho2,hc2,n2,hd2⟩:=id hb
  simp only at hc hd hc2 hd2
  subst hc hd hc2 hd2
  have e:vs.toArray++ws.toArray=(vs++ws).toArray:=by simp
  by_cases hw:ws=[]
  · exact concat_meets ⟨_,ho,rfl⟩ ⟨_,ho2,rfl⟩ noFill_tuple_add seq_tuple_add PySem.F.slot_tuple_add PySem.F.entry_tuple_add (PySem.F.args_tuple_add_2 _ _)
      (tuple_addW1 t b vs.toArray ws.toArray n n2 dd dd2 sl sl2 (by simpa using hv) (by simp [hw])) ⟨ho,ho2,h1 hw⟩
  · refine concat_meets ⟨_,ho,rfl⟩ ⟨_,ho2,rfl⟩ noFill_tuple_add seq_tuple_add PySem.F.slot_tuple_add PySem.F.entry_tuple_add (PySem.F.args_tuple_add_2 _ _)
      (tuple_addW2 t b vs.toArray ws.toArray n n2 dd dd2 sl sl2 (by simpa using hv) (by simpa using hw) (by rw[sAq,sAq];exact hsz)) ⟨ho,ho2,?_⟩
    rw[e]
    exact h2 hw
def sIx (n d:Nat):Option Int→Nat
  | none=>d
  | some v=>if v < 0 then(v+(n:Int)).toNat else min v.toNat n
theorem sIx_none (n d:Nat):sIx n d none=d:=rfl
theorem sIx_nat (n d k:Nat):sIx n d (some (k:Int))=min k n:=by
  show(if(k:Int) < 0 then((k:Int)+(n:Int)).toNat else min (k:Int).toNat n)=min k n
  rw[if_neg (by lia),Int.toNat_natCast]
theorem sIx_le (n d:Nat) (hd:d≤n) (o:Option Int):sIx n d o≤n:=by
  cases o with
  | none=>exact hd
  | some v =>
    show(if v < 0 then(v+(n:Int)).toNat else min v.toNat n)≤n
    by_cases hv:v < 0
    · rw[if_pos hv];lia
    · rw[if_neg hv];exact Nat.min_le_right _ _
theorem zka (v:Int) (n d:Nat):(if v < 0 then max (v+(n:Int)) 0 else min v (n:Int))=((sIx n d (some v):Nat):Int):=by
  show(if v < 0 then max (v+(n:Int)) 0 else min v (n:Int))=(((if v < 0 then(v+(n:Int)).toNat else min v.toNat n):Nat):Int)
  by_cases hv:v < 0
  · simp only[if_pos hv];lia
  · simp only[if_neg hv];lia
theorem zkM (lo hi:Option Int) (n:Nat):Builtin.Slice.sliceAdjust lo hi 1 (n:Int)=(((sIx n 0 lo:Nat):Int),((sIx n n hi:Nat):Int)):=by
  have h1:¬((1:Int) < 0):=by lia
  unfold Builtin.Slice.sliceAdjust
  simp only[h1,if_false]
  refine Prod.ext ?_ ?_
  · cases lo with
    | none=>rfl
    | some v=>exact zka v n 0
  · cases hi with
    | none=>rfl
    | some v=>exact zka v n n
theorem zku (i j:Nat):Builtin.Slice.slicePlaces (i:Int) (j:Int) 1=j - i:=by
  unfold Builtin.Slice.slicePlaces
  have h1:(1:Int) > 0:=by lia
  simp only[h1,if_true,Int.ediv_one]
  split <;> lia
theorem zht {v:Value} {o:Option Int} {Q:Option Int→Shared→Prop} (p:IsPart v o) (h:Q o s):wpAny (model prog w) A (Builtin.Slice.slicePartIndex v) Q E s:=by
  cases p with
  | none=>exact slicePart_none h
  | int i t=>exact slicePart_int h
theorem zeN {sl:Addr} {vl vu:Value} {lo hi:Option Int} {n:Nat} {Q:Int × Int × Nat→Shared→Prop} (hs:s.heap.IsSliceOf sl vl vu .none) (pl:IsPart vl lo) (pu:IsPart vu hi)
    (h:Q (((sIx n 0 lo:Nat):Int),1,sIx n n hi - sIx n 0 lo) s):wpAny (model prog w) A (Builtin.Slice.sliceApplied (.ref sl) (pure (n:Int))) Q E s:=by
  obtain⟨os,hos,hcs,hds⟩:=id hs
  unfold Builtin.Slice.sliceApplied Builtin.Slice.sliceFields
  refine wpAny_bind (wpAny_bind (wpAny_field hos hds (x:=vl) rfl (wpAny_bind (wpAny_field hos hds (x:=vu) rfl (wpAny_bind (wpAny_field hos hds (x:=.none) rfl (wpAny_pure ?_)))))))
  refine wpAny_bind (slicePart_none ?_)
  show wpAny _ _ (if((1:Int) == 0)=true then _ else _) _ _ s
  rw[if_neg (by decide)]
  refine wpAny_bind (zht pl (wpAny_bind (zht pu (wpAny_bind (wpAny_pure ?_)))))
  show wpAny _ _ (match Builtin.Slice.sliceAdjust lo hi 1 (n:Int) with | (lo,hi)=>pure (lo,(1:Int),Builtin.Slice.slicePlaces lo hi 1)) _ _ s
  rw[zkM lo hi n]
  show wpAny _ _ (pure (((sIx n 0 lo:Nat):Int),(1:Int),Builtin.Slice.slicePlaces ((sIx n 0 lo:Nat):Int) ((sIx n n hi:Nat):Int) 1)) _ _ s
  rw[zku]
  exact wpAny_pure h
theorem zl9 (xs:Array Value) (i k:Nat):((List.range k).filterMap λ(m:Nat)=>xs[((i:Int)+(m:Int) * 1).toNat]?).toArray=((xs.toList.drop i).take k).toArray:=by
  have e:(λ(m:Nat)=>xs[((i:Int)+(m:Int) * 1).toNat]?)=λm=>xs[i+m]?:=by
    funext m
    have:((i:Int)+(m:Int) * 1).toNat=i+m:=by lia
    rw[this]
  rw[e]
  have:=pick_run xs i k
  rw[List.filterMap_map]at this
  have e2:((λx=>xs[x]?) ∘ λx=>i+x)=λm=>xs[i+m]?:=rfl
  rw[e2]at this
  rw[this]
theorem getItem_tuple_cut {t sl:Addr} {items:Array Value} {vl vu:Value} {lo hi:Option Int} {Q:Value→Shared→Prop} (ht:IsTup s.heap t items) (hs:s.heap.IsSliceOf sl vl vu .none) (pl:IsPart vl lo) (pu:IsPart vu hi)
    (hw:¬(sIx items.size 0 lo=0∧sIx items.size items.size hi=items.size))
    (h:Q (.ref s.heap.objs.size) { s with heap:=s.heap.push { cls:=.type "tuple",data:=.seq ((items.toList.drop (sIx items.size 0 lo)).take (sIx items.size items.size hi - sIx items.size 0 lo)).toArray } })
    (hsz:items.size≤sizeLine):wpAny (model prog w) A (getItem (.ref t) (.ref sl)) Q E s:=by
  have htake:sizeOk (.seq ((items.toList.drop (sIx items.size 0 lo)).take (sIx items.size items.size hi - sIx items.size 0 lo)).toArray):=by
    show((items.toList.drop (sIx items.size 0 lo)).take (sIx items.size items.size hi - sIx items.size 0 lo)).toArray.size≤sizeLine
    rw[sAq,List.length_take,List.length_drop,Array.length_toList]
    lia
  have hj:sIx items.size items.size hi≤items.size:=sIx_le _ _ (nRq _) hi
  obtain⟨os,hos,hcs,hds⟩:=id hs
  have hTs:s.TypeIs (.ref sl) "slice":=⟨os,hos,hcs⟩
  unfold getItem
  try with_reducible refine wpAny_holding ?_
  first | refine wpAny_bind (wpAny_pure ?_) | skip
  refine wpAny_bind (wpAny_sequenceKey ht.typeIs (by decide) ?_)
  refine wpAny_bind (wpAny_callSpecial?_slot (name:=Str.ofString "__getitem__") ht.typeIs PyProof.Rows.slot_tuple_getitem
    (wpAny_call_entry PyProof.Rows.slot_tuple_getitem ht.typeIs entry_tuple_getitem ?_ (args_tuple_getitem _ _)))
  show wpAny _ _ (Builtin.Tuple.tupleItemsOf (.ref t) >>= _) _ _ s
  refine wpAny_bind (tupleItemsOf_ ht ?_)
  refine wpAny_bind (wpAny_typeOf hTs ?_)
  rw[if_pos (by decide)]
  refine wpAny_bind (zeN hs pl pu ?_)
  have hno:¬((((sIx items.size 0 lo:Nat):Int) == 0&&(1:Int) == 1&&(sIx items.size items.size hi - sIx items.size 0 lo) == items.size)=true):=by
    intro q
    rw[Bool.and_eq_true,Bool.and_eq_true]at q
    have q1:((sIx items.size 0 lo:Nat):Int)=0:=eq_of_beq q.1.1
    have q2:sIx items.size items.size hi - sIx items.size 0 lo=items.size:=eq_of_beq q.2
    exact hw ⟨by lia,by lia⟩
  show wpAny _ _ (if(((sIx items.size 0 lo:Nat):Int) == 0&&(1:Int) == 1&&(sIx items.size items.size hi - sIx items.size 0 lo) == items.size)=true then _ else _) _ _ s
  rw[if_neg hno,zl9]
  first
    | exact wpAny_bind (m:=Builtin.Tuple.tupleExact _) (wpAny_newObj_type (wpAny_pure ⟨_,rfl,wpAny_pure h⟩) htake)
    | exact wpAny_bind (m:=Builtin.Tuple.tupleExact _) (wpAny_newObj_type (wpAny_bind (wpAny_pure (wpAny_pure ⟨_,rfl,wpAny_pure h⟩))) htake)
    | exact wpAny_bind (wpAny_bind (m:=Builtin.Tuple.tupleExact _) (wpAny_newObj_type (wpAny_pure (wpAny_pure ⟨_,rfl,wpAny_pure h⟩)) htake))
    | exact wpAny_bind (wpAny_bind (m:=Builtin.Tuple.tupleExact _) (wpAny_newObj_type (wpAny_pure ⟨_,rfl,wpAny_pure h⟩) htake))
end
end HT
namespace L2
open PySem PySem.Spec PyProof.Rows
abbrev TO:=St→Hp→(Option Int→Hp→Prop)→Prop
def PO (X:Cx) (e:Option Expr) (t:TO):Prop :=
  ∀(pins:List (Addr × Obj)) (s:Shared) (σ:St) (H:Hp) (Q:Option Int→Hp→Prop),Inv X pins σ H s→t σ H Q →
    wpAny (model X.prog X.w) X.A (evalPart e X.env) (λu s'=>∃ o H',Inv X pins σ H' s'∧IsPart u o∧Q o H') X.xe s
def zmM:TO:=λ_ H Q=>Q none H
def tPart (t:TE):TO:=λσ H Q=>t σ H λx H1=>∃ i,x=.int i∧Q (some i) H1
theorem zkH {ns:List Int}:∀ {us:List Value},aW (ns.map V.int) us→IntsAre us ns:=by
  induction ns with
  | nil=>intro us r;rw[List.map_nil]at r;cases r;exact .nil
  | cons n ns ih =>
    intro us r
    rw[List.map_cons]at r
    cases r with
    | cons r1 r2 =>
      obtain⟨t,e⟩:=r1
      subst e
      exact .cons n t (ih r2)
section
variable {X:Cx} {e:Expr} {te:TE} {lo hi:Option Expr} {tl th:TO} {pos p2:Pos}
theorem zaG:PO X none zmM:=by
  intro pins s σ H Q I h
  rw[evalPart_none]
  exact wpAny_pure ⟨none,H,I,.none,h⟩
theorem zaF (h:PE X e te):PO X (some e) (tPart te):=by
  intro pins s σ H Q I hw
  rw[evalPart_some]
  refine thn (h pins s σ H _ I hw) λu s1 ⟨x,H1,I1,r1,q1⟩=>?_
  obtain⟨i,rfl,q⟩:=q1
  obtain⟨t,rfl⟩:=r1
  exact⟨some i,H1,I1,.int i t,q⟩
def SlR (X:Cx) (r:V→Option Int→Option Int→Hp→VK→Prop):Prop :=
  ∀(pins:List (Addr × Obj)) (s:Shared) (σ:St) (H:Hp) (x:V) (v vl vu:Value) (lo hi:Option Int) (sl:Addr) (Q:VK),Inv X pins σ H s→aY x v→s.heap.IsSliceOf sl vl vu .none→IsPart vl lo→IsPart vu hi→r x lo hi H Q →
    ∃ T id,typeLookup (.type T) "__getitem__"=pure (some (.builtin id))∧s.TypeIs v T∧wpAny (model X.prog X.w) X.A (getItem v (.ref sl)) (EP X pins σ Q) X.xe s
theorem SlR.or {r r':V→Option Int→Option Int→Hp→VK→Prop} (h:SlR X r) (h':SlR X r'):SlR X (λx lo hi H Q=>r x lo hi H Q∨r' x lo hi H Q):=by
  intro pins s σ H x v vl vu lo hi sl Q I rx hs pl pu q
  rcases q with q | q
  · exact h pins s σ H x v vl vu lo hi sl Q I rx hs pl pu q
  · exact h' pins s σ H x v vl vu lo hi sl Q I rx hs pl pu q
def tSl (r:V→Option Int→Option Int→Hp→VK→Prop) (te:TE) (tl th:TO):TE:=λσ H Q=>te σ H λx H1=>tl σ H1 λl H2=>th σ H2 λu H3=>r x l u H3 Q
theorem zat {r:V→Option Int→Option Int→Hp→VK→Prop} (hr:SlR X r) (he:PE X e te) (hl:PO X lo tl) (hu:PO X hi th):PE X (.Subscript e (.Slice lo hi none p2) pos) (tSl r te tl th):=by
  intro pins s σ H Q I h
  refine Subscript_ (thn (he pins s σ H _ I h) λv s1 ⟨x,H1,I1,r1,q1⟩=>?_)
  refine wpAny_Slice (thn (hl pins s1 σ H1 _ I1 q1) λvl s2 ⟨l,H2,I2,pl,q2⟩=>thn (hu pins s2 σ H2 _ I2 q2) λvu s3 ⟨u,H3,I3,pu,q3⟩=>?_)
  rw[evalPart_none]
  refine wpAny_pure ?_
  have I4:Inv X pins σ H3 { s3 with heap:=s3.heap.push { cls:=.type "slice",data:=.fields #[vl,vu,.none] } }:=I3.kept (t':=s3.toks) λb ob q=>hG _ q
  obtain⟨T,id,hT,ht,hg⟩:=hr pins { s3 with heap:=s3.heap.push { cls:=.type "slice",data:=.fields #[vl,vu,.none] } } σ H3 x v vl vu l u s3.heap.objs.size Q I4 r1 (Heap.IsSliceOf.new ..) pl pu q3
  show wpAny (model X.prog X.w) X.A (subscriptTail e (.Slice lo hi none p2) v (.ref s3.heap.objs.size)) (EP X pins σ Q) X.xe { s3 with heap:=s3.heap.push { cls:=.type "slice",data:=.fields #[vl,vu,.none] } }
  exact tail_any (ops:=[.ref s3.heap.objs.size,v]) ht hT hg (by with_unfolding_all rfl)
def aU (xs:List V) (lo hi:Option Int):List V:=(xs.drop (HT.sIx xs.length 0 lo)).take (HT.sIx xs.length xs.length hi - HT.sIx xs.length 0 lo)
theorem zbK (xs:List V) (lo hi:Option Int):(aU xs lo hi).length≤xs.length:=by
  unfold aU
  rw[List.length_take,List.length_drop]
  lia
inductive rSlT (K:PySem.W.Frag):V→Option Int→Option Int→Hp→VK→Prop|m{x lo hi H Q} a xs:x=.ref a→SqT K H a xs→¬(HT.sIx xs.length 0 lo=0∧HT.sIx xs.length xs.length hi=xs.length)→(∀ p,H p=none→Q (.ref p) (upd H p (.tup (aU xs lo hi))))→rSlT K x lo hi H Q
theorem zff:SlR X (rSlT X.K):=by
  intro pins s σ H x v vl vu lo hi sl Q I rx hs pl pu h
  obtain⟨a,xs,rfl,hx,hw,q⟩:=h
  cases rx
  obtain⟨its,r,ht,hz⟩:=I.tuple hx
  have hlen:its.toArray.size=xs.length:=by rw[sAq];exact r.length.symm
  refine⟨"tuple",_,PyProof.Rows.slot_tuple_getitem.lookup,ht.typeIs,?_⟩
  refine HT.getItem_tuple_cut ht hs pl pu (by rw[hlen];exact hw) ?_ (by rw[hlen];exact hz)
  rw[hlen]
  refine⟨.ref s.heap.objs.size,_,I.laid (t':=s.toks) (o:=.tup (aU xs lo hi)) (λb ob q=>hG _ q) (nRq _) ?_,rfl,q _ (I.hok.fresh (nRq _))⟩
  exact⟨Nat.le_trans (zbK xs lo hi) hz,_,(r.drop (HT.sIx xs.length 0 lo)).take (HT.sIx xs.length xs.length hi - HT.sIx xs.length 0 lo),zeq.new _ _⟩
inductive rCatT (K:PySem.W.Frag):R2|m{x y H Q} a b xs ys:x=.ref a→y=.ref b→SqT K H a xs→SqT K H b ys→xs≠[]→xs.length+ys.length≤sizeLine→(ys=[]→Q (.ref a) H)→(ys≠[]→∀ p,H p=none→Q (.ref p) (upd H p (.tup (xs++ys))))→rCatT K x y H Q
theorem aW.nil_iff {xs:List V} {us:List Value} (r:aW xs us):us=[]↔xs=[]:=by
  cases r with
  | nil=>simp
  | cons _ _=>simp
theorem zjT:OpR X (binaryOp .Add) (rCatT X.K):=by
  intro pins s σ H x y v u Q I rx ry h
  obtain⟨a,b,xs,ys,rfl,rfl,ha,hb,hx,hz,q1,q2⟩:=h
  cases rx
  cases ry
  obtain⟨its,r1,p1,_⟩:=I.tuple ha
  obtain⟨its2,r2,p2,_⟩:=I.tuple hb
  refine HT.cat_tup p1 p2 (λz=>hx (r1.nil_iff.mp z)) (λz=>⟨.ref a,H,I,rfl,q1 (r2.nil_iff.mp z)⟩) (λz=>?_) (by rw[←r1.length,←r2.length];exact hz)
  refine⟨.ref s.heap.objs.size,_,I.laid (t':=s.toks) (o:=.tup (xs++ys)) (λb ob q=>hG _ q) (nRq _) ?_,rfl,q2 (λw=>z (r2.nil_iff.mpr w)) _ (I.hok.fresh (nRq _))⟩
  exact⟨by rw[lAq];exact hz,_,r1.append r2,zeq.new _ _⟩
end
end L2
namespace L2
open PySem PySem.Spec PyProof.Rows
def ixN (n:Nat) (i:Int):Option Nat:=if 0≤i then(if i < n then some i.toNat else none) else if -(n:Int)≤i then some (i+n).toNat else none
def atI {α:Type} (xs:List α) (i:Int):Option α:=(ixN xs.length i).bind λj=>xs[j]?
theorem znj {n:Nat} {i:Int} {j:Nat} (h:ixN n i=some j):seqIndex? i n=some j∧j < n∧-(n:Int)≤i∧i < n:=by
  unfold ixN at h
  by_cases h0:0≤i
  · rw[if_pos h0]at h
    by_cases h1:i < n
    · rw[if_pos h1]at h
      have e:i.toNat=j:=Option.some.inj h
      exact⟨by rw[seqIndex_of h0 h1,e],by lia,by lia,h1⟩
    · rw[if_neg h1]at h;cases h
  · rw[if_neg h0]at h
    by_cases h1:-(n:Int)≤i
    · rw[if_pos h1]at h
      have e:(i+n).toNat=j:=Option.some.inj h
      exact⟨by rw[seqIndex_neg (by lia) h1,e],by lia,h1,by lia⟩
    · rw[if_neg h1]at h;cases h
theorem zke {α:Type} {xs:List α} {i:Int} {v:α} (h:atI xs i=some v):∃ j,seqIndex? i xs.length=some j∧xs[j]?=some v∧j < xs.length∧-(xs.length:Int)≤i∧i < xs.length:=by
  unfold atI at h
  cases e:ixN xs.length i with
  | none=>rw[e]at h;cases h
  | some j =>
    rw[e]at h
    obtain⟨h1,h2,h3,h4⟩:=znj e
    exact⟨j,h1,h,h2,h3,h4⟩
theorem aH {α:Type} {xs:List α} {j:Nat} {v:α} (h:xs[j]?=some v):atI xs (j:Int)=some v:=by
  have hj:j < xs.length:=(gEq h).1
  have e:ixN xs.length (j:Int)=some j:=by
    unfold ixN
    rw[if_pos (by lia),if_pos (by lia)];simp
  unfold atI;rw[e];exact h
theorem zhg {α:Type} (xs:List α) (v:α):atI (xs++[v]) (-1)=some v:=by
  have hl:(xs++[v]).length=xs.length+1:=by simp
  have e:ixN (xs++[v]).length (-1)=some xs.length:=by
    unfold ixN
    rw[hl,if_neg (by decide),if_pos (by lia)]
    congr 1
    lia
  unfold atI
  rw[e]
  show(xs++[v])[xs.length]?=some v
  simp
def zkf (b:Expr):Prop:=∀ o i,subscripted b false o i=operate [o,i] (getItem o i)
def IxR (X:Cx) (r:R2):Prop :=
  ∀(value slice:Expr) (pins:List (Addr × Obj)) (s:Shared) (σ:St) (H:Hp) (x y:V) (v u:Value) (Q:VK),Inv X pins σ H s→aY x v→aY y u→r x y H Q →
    subscripted slice false v u=operate [v,u] (getItem v u)→wpAny (model X.prog X.w) X.A (subscriptTail value slice v u) (EP X pins σ Q) X.xe s
def MtR (X:Cx) (id:String) (r:V→List V→Hp→VK→Prop):Prop :=
  ∀(pins:List (Addr × Obj)) (s:Shared) (σ:St) (H:Hp) (x:V) (xs:List V) (v:Value) (us:List Value) (Q:VK),Inv X pins σ H s→aY x v→aW xs us→r x xs H Q →
    wpAny (model X.prog X.w) X.A (call (.builtin id) (v :: us)) (EP X pins σ Q) X.xe s
section
variable {X:Cx} {a b:Expr} {ta tb:TE} {pos:Pos}
theorem IxR.or {r r':R2} (h:IxR X r) (h':IxR X r'):IxR X (λx y H Q=>r x y H Q∨r' x y H Q):=by
  intro value slice pins s σ H x y v u Q I rx ry q hs
  rcases q with q | q
  · exact h value slice pins s σ H x y v u Q I rx ry q hs
  · exact h' value slice pins s σ H x y v u Q I rx ry q hs
theorem aq {r:R2} (hr:IxR X r) (ha:PE X a ta) (hb:PE X b tb) (hs:zkf b:=by exact λ_ _=>rfl):PE X (.Subscript a b pos) (tOp r ta tb):=by
  intro pins s σ H Q I h
  exact Subscript_ (binT ha hb I h λv u s2 x y H2 I2 rx ry q=>hr a b pins s2 σ H2 x y v u Q I2 rx ry q (hs _ _))
inductive zfQ (K:PySem.W.Frag):R2|m{x y H Q} p xs i v:x=.ref p→y=.int i→SqL K H p xs→atI xs i=some v→Q v H→zfQ K x y H Q
inductive zel (K:PySem.W.Frag):R2|m{x y H Q} p xs i v:x=.ref p→y=.int i→SqT K H p xs→atI xs i=some v→Q v H→zel K x y H Q
theorem zaa:IxR X (zfQ X.K):=by
  intro value slice pins s σ H x y v u Q I rx ry h hs
  obtain⟨p,xs,i,z,rfl,rfl,hq,he,q⟩:=h
  cases rx
  obtain⟨t,rfl⟩:=ry
  obtain⟨its,r,pl,hz⟩:=I.list hq
  obtain⟨j,h1,h2,h3,h4,h5⟩:=zke he
  obtain⟨w,ew,rw'⟩:=r.get h2
  have hl:=r.length
  have hn:=zhp
  have fin:EP X pins σ Q w s:=⟨z,H,I,rw',q⟩
  by_cases h0:0≤i
  · have hj:i.toNat=j:=by
      rw[seqIndex_of h0 h5]at h1
      exact Option.some.inj h1
    exact item_listR pl.isList h0 (by lia) (by rw[hj];simpa using ew) fin hs
  · have hj:(i+(its.toArray.size:Int)).toNat=j:=by
      rw[seqIndex_neg (by lia) h4]at h1
      rw[sAq,←hl]
      exact Option.some.inj h1
    exact subscriptTail_builtinR (x:=w) pl.isList.typeIs slot_list_getitem.lookup
      (wpAny_getItem_list_neg (Q:=λr s'=>r=w∧EP X pins σ Q r s') pl.isList (by lia) (by rw[sAq] <;> lia) (by lia) (by rw[hj];simpa using ew) ⟨rfl,fin⟩) hs
theorem az:IxR X (zel X.K):=by
  intro value slice pins s σ H x y v u Q I rx ry h hs
  obtain⟨p,xs,i,z,rfl,rfl,hq,he,q⟩:=h
  cases rx
  obtain⟨t,rfl⟩:=ry
  obtain⟨its,r,pl,hz⟩:=I.tuple hq
  obtain⟨j,h1,h2,h3,h4,h5⟩:=zke he
  obtain⟨w,ew,rw'⟩:=r.get h2
  have hl:=r.length
  have hn:=zhp
  have fin:EP X pins σ Q w s:=⟨z,H,I,rw',q⟩
  exact subscriptTail_builtinR (x:=w) pl.typeIs slot_tuple_getitem.lookup
    (getItem_tuple (j:=j) (Q:=λr s'=>r=w∧EP X pins σ Q r s') pl (by lia) (by lia) (by rw[sAq,←hl];exact h1) (by simpa using ew) ⟨rfl,fin⟩) hs
theorem Inv.lst {pins:List (Addr × Obj)} {σ:St} {H:Hp} {s:Shared} {p:Addr} {xs:List V} (I:Inv X pins σ H s) (h:H p=some (.lst xs)) :
    ∃(its:List Value) (n:Nat),aW xs its∧s.heap.get? p=some { cls:=.type "list",data:=.seq its.toArray n }∧xs.length≤sizeLine:=by
  obtain⟨z,its,n,r,e⟩:=I.hok p _ h
  exact⟨its,n,r,e,z⟩
theorem zjl (lo hi:Option Int) (n:Nat):(sliceBounds lo hi none n).1=((HT.sIx n 0 lo:Nat):Int)∧(sliceBounds lo hi none n).2.1=((HT.sIx n n hi:Nat):Int)∧(sliceBounds lo hi none n).2.2=1:=by
  refine⟨?_,?_,rfl⟩
  · cases lo with
    | none=>simp [sliceBounds,HT.sIx]
    | some i =>
      simp only[sliceBounds,HT.sIx,Option.getD_none,show(1:Int) > 0 by decide,if_true]
      by_cases h:i < 0
      · simp only[h,if_true] <;> lia
      · simp only[h,if_false] <;> lia
  · cases hi with
    | none=>simp [sliceBounds,HT.sIx]
    | some i =>
      simp only[sliceBounds,HT.sIx,Option.getD_none,show(1:Int) > 0 by decide,if_true]
      by_cases h:i < 0
      · simp only[h,if_true] <;> lia
      · simp only[h,if_false] <;> lia
theorem zim (its:List Value) (lo hi:Option Int):slicePick its.toArray lo hi none=((its.drop (HT.sIx its.length 0 lo)).take (HT.sIx its.length its.length hi - HT.sIx its.length 0 lo)).toArray:=by
  obtain⟨h1,h2,h3⟩:=zjl lo hi its.toArray.size
  unfold slicePick
  rw[h1,h2,h3]
  simp only[sliceRange_one,pick_run,sAq] <;> rfl
inductive rSlL (K:PySem.W.Frag):V→Option Int→Option Int→Hp→VK→Prop|m{x lo hi H Q} a xs:x=.ref a→SqL K H a xs→(∀ p,H p=none→Q (.ref p) (upd H p (.lst (aU xs lo hi))))→rSlL K x lo hi H Q
theorem zbf:SlR X (rSlL X.K):=by
  intro pins s σ H x v vl vu lo hi sl Q I rx hs pl pu h
  obtain⟨a,xs,rfl,hx,q⟩:=h
  cases rx
  obtain⟨its,r,ht,hz⟩:=I.list hx
  have hlen:=r.length
  refine⟨"list",_,slot_list_getitem.lookup,ht.isList.typeIs,?_⟩
  refine wpAny_getItem_list_slice ht.isList hs pl pu .none (by simp) ?_ (by rw[sAq] <;> lia)
  rw[zim,←hlen]
  refine⟨.ref s.heap.objs.size,_,I.laid (t':=s.toks) (o:=.lst (aU xs lo hi)) (λb ob q=>hG _ q) (nRq _) ?_,rfl,q _ (I.hok.fresh (nRq _))⟩
  exact⟨Nat.le_trans (zbK xs lo hi) hz,_,0,(r.drop (HT.sIx xs.length 0 lo)).take (HT.sIx xs.length xs.length hi - HT.sIx xs.length 0 lo),Heap.get?_push_size _ rfl⟩
def zdw:V→Bool
  | .non=>true
  | .bl _=>true
  | .int _=>true
  | .str _=>true
  | _=>false
def eqV:V→V→Bool
  | .non,.non=>true
  | .bl a,.bl b=>a == b
  | .bl a,.int b=>(if a then 1 else 0) == b
  | .int a,.bl b=>a == (if b then 1 else 0)
  | .int a,.int b=>a == b
  | .str a,.str b=>a == b
  | _,_=>false
theorem zf1 {A:Around} {s:Shared} {y x:V} {u v:Value} (ry:aY y u) (rx:aY x v) (fy:zdw y=true) (fx:zdw x=true):SeqAt.EqAt A s u v (eqV y x):=by
  cases y with
  | non =>
    cases ry
    cases x with
    | non=>cases rx;exact SeqAt.EqAt.same _
    | bl b=>cases rx;exact SeqAt.EqAt.none_bool b
    | int b=>obtain⟨t,rfl⟩:=rx;exact SeqAt.EqAt.none_int b t
    | str b=>obtain⟨t,rfl⟩:=rx;exact SeqAt.EqAt.none_str b t
    | _=>exact absurd (show false=true from fx) Bool.false_ne_true
  | bl a =>
    cases ry
    cases x with
    | non=>cases rx;exact SeqAt.EqAt.bool_none a
    | bl b=>cases rx;exact SeqAt.EqAt.bool_bool a b
    | int b=>obtain⟨t,rfl⟩:=rx;exact SeqAt.EqAt.bool_int a b t
    | str b=>obtain⟨t,rfl⟩:=rx;exact SeqAt.EqAt.bool_str a b t
    | _=>exact absurd (show false=true from fx) Bool.false_ne_true
  | int a =>
    obtain⟨t',rfl⟩:=ry
    cases x with
    | non=>cases rx;exact SeqAt.EqAt.int_none a t'
    | bl b=>cases rx;exact SeqAt.EqAt.int_bool a t' b
    | int b=>obtain⟨t,rfl⟩:=rx;exact SeqAt.EqAt.int_int a t' b t
    | str b=>obtain⟨t,rfl⟩:=rx;exact SeqAt.EqAt.int_str a t' b t
    | _=>exact absurd (show false=true from fx) Bool.false_ne_true
  | str a =>
    obtain⟨t',rfl⟩:=ry
    cases x with
    | non=>cases rx;exact SeqAt.EqAt.str_none a t'
    | bl b=>cases rx;exact SeqAt.EqAt.str_bool a t' b
    | int b=>obtain⟨t,rfl⟩:=rx;exact SeqAt.EqAt.str_int a t' b t
    | str b=>obtain⟨t,rfl⟩:=rx;exact SeqAt.EqAt.str_str a t' b t
    | _=>exact absurd (show false=true from fx) Bool.false_ne_true
  | _=>exact absurd (show false=true from fy) Bool.false_ne_true
def eqU (x:V) (u:Value):Bool:=match u with
  | .none=>eqV .non x
  | .bool b=>eqV (.bl b) x
  | .int i _=>eqV (.int i) x
  | .str z _=>eqV (.str z) x
  | _=>false
theorem zk6 {x y:V} {u:Value} (r:aY y u) (f:zdw y=true):eqU x u=eqV y x:=by
  cases y with
  | non=>cases r;rfl
  | bl b=>cases r;rfl
  | int i=>obtain⟨t,rfl⟩:=r;rfl
  | str z=>obtain⟨t,rfl⟩:=r;rfl
  | _=>exact absurd (show false=true from f) Bool.false_ne_true
theorem zfn {x:V}:∀ {xs:List V} {us:List Value},aW xs us→xs.all zdw=true→us.any (eqU x)=xs.any λy=>eqV y x
  | _,_,.nil,_=>rfl
  | y :: xs,u :: us,.cons r t,f=>by
    rw[List.all_cons,Bool.and_eq_true]at f
    rw[List.any_cons,List.any_cons,zk6 r f.1,zfn t f.2]
theorem zeB {A:Around} {s:Shared} {x:V} {v:Value} (rx:aY x v) (fx:zdw x=true):∀ {xs:List V} {us:List Value},aW xs us→xs.all zdw=true→∀ u∈us,SeqAt.EqAt A s u v (eqU x u)
  | _,_,.nil,_=>λu hu=>by cases hu
  | y :: xs,u :: us,.cons r t,f=>λu' hu=>by
    rw[List.all_cons,Bool.and_eq_true]at f
    rcases List.mem_cons.mp hu with rfl | hu
    · rw[zk6 r f.1];exact zf1 r rx f.1 fx
    · exact zeB rx fx t f.2 u' hu
def inV (x:V) (xs:List V):Bool:=xs.any λy=>eqV y x
inductive rIn (K:PySem.W.Frag) (neg:Bool):R2|m{x y H Q} p xs:y=.ref p→(SqL K H p xs∨SqT K H p xs)→zdw x=true→xs.all zdw=true→Q (.bl (if neg then !inV x xs else inV x xs)) H→rIn K neg x y H Q
theorem zh6:OpR X (compareOp .In) (rIn X.K false):=by
  intro pins s σ H x y v u Q I rx ry h
  obtain⟨p,xs,rfl,hq,fx,fs,q⟩:=h
  cases ry
  rcases hq with hq | hq
  · obtain⟨its,r,pl,hz⟩:=I.list hq
    refine SeqAt.in_listAt (eqU x) pl.isList (λw hw=>zeB rx fx r fs w (by simpa using hw)) ⟨.bl _,H,I,rfl,?_⟩
    rw[show its.toArray.any (eqU x)=its.any (eqU x) by simp,zfn r fs]
    exact q
  · obtain⟨its,r,pl,hz⟩:=I.tuple hq
    refine SeqAt.in_tupleAt (eqU x) pl (λw hw=>zeB rx fx r fs w (by simpa using hw)) ⟨.bl _,H,I,rfl,?_⟩
    rw[show its.toArray.any (eqU x)=its.any (eqU x) by simp,zfn r fs]
    exact q
theorem zbP:OpR X (compareOp .NotIn) (rIn X.K true):=by
  intro pins s σ H x y v u Q I rx ry h
  obtain⟨p,xs,rfl,hq,fx,fs,q⟩:=h
  cases ry
  rcases hq with hq | hq
  · obtain⟨its,r,pl,hz⟩:=I.list hq
    refine SeqAt.notIn_listAt (eqU x) pl.isList (λw hw=>zeB rx fx r fs w (by simpa using hw)) ⟨.bl _,H,I,rfl,?_⟩
    rw[show its.toArray.any (eqU x)=its.any (eqU x) by simp,zfn r fs]
    exact q
  · obtain⟨its,r,pl,hz⟩:=I.tuple hq
    refine SeqAt.notIn_tupleAt (eqU x) pl (λw hw=>zeB rx fx r fs w (by simpa using hw)) ⟨.bl _,H,I,rfl,?_⟩
    rw[show its.toArray.any (eqU x)=its.any (eqU x) by simp,zfn r fs]
    exact q
inductive zkk (K:PySem.W.Frag):List V→Hp→VK→Prop|m{xs H Q} p ys:xs=[.ref p]→(SqL K H p ys∨SqT K H p ys)→Q (.int ys.length) H→zkk K xs H Q
theorem aj:zbp X (.builtin "len") (zkk X.K):=by
  intro pins s σ H xs us Q I r h
  obtain⟨p,ys,rfl,hq,q⟩:=h
  obtain⟨u,rfl,rx⟩:=zcc r
  cases rx
  have hn:=zhp
  rcases hq with hq | hq
  · obtain⟨its,r',pl,hz⟩:=I.list hq
    have hlen:=r'.length
    exact Calls.call_len_list pl.isList (by simp only[sAq] <;> lia) ⟨.int ys.length,H,I.tok _,⟨s.toks+1,by rw[sAq,hlen]⟩,q⟩
  · obtain⟨its,r',pl,hz⟩:=I.tuple hq
    have hlen:=r'.length
    exact len_tuple pl (by simp only[sAq] <;> lia) ⟨.int ys.length,H,I.tok _,⟨s.toks+1,by rw[sAq,hlen]⟩,q⟩
theorem zgo:zbp X (.builtin "len") (λxs H Q=>∃ z,xs=[.str z]∧z.length≤sizeLine∧Q (.int z.length) H):=by
  intro pins s σ H xs us Q I r h
  obtain⟨z,rfl,hz,q⟩:=h
  obtain⟨u,rfl,t,rfl⟩:=zcc r
  have hn:=zhp
  exact len_str (by lia) ⟨.int z.length,H,I.tok _,⟨_,rfl⟩,q⟩
inductive rLsO (K:PySem.W.Frag):List V→Hp→VK→Prop|m{xs H Q} p ys:xs=[.ref p]→(SqL K H p ys∨SqT K H p ys)→(∀ l,H l=none→Q (.ref l) (upd H l (.lst ys)))→rLsO K xs H Q
theorem zbB:zbp X (.type "list") (rLsO X.K):=by
  intro pins s σ H xs us Q I r h
  obtain⟨p,ys,rfl,hq,q⟩:=h
  obtain⟨u,rfl,rx⟩:=zcc r
  cases rx
  have fin:∀(its:List Value),aW ys its→ys.length≤sizeLine→∀(h':Heap) (c':Nat),(∀ b o',s.heap.get? b=some o'→h'.get? b=some o') →
      h'.get? s.heap.objs.size=some { cls:=.type "list",dict:=none,data:=.seq its.toArray c',slots:=#[] }→EP X pins σ Q (.ref s.heap.objs.size) { s with heap:=h' }:=λits r' hz h' c' kp e =>
    ⟨.ref s.heap.objs.size,_,I.laid (t':=s.toks) kp (nRq _) (show zaE X.prog X.w _ h' _ (.lst ys) from⟨hz,its,c',r',e⟩),rfl,q _ (I.hok.fresh (nRq _))⟩
  rcases hq with hq | hq
  · obtain⟨its,r',pl,hz⟩:=I.list hq
    have hlen:=r'.length
    obtain⟨o,ho,hc,n,hd⟩:=pl.isList
    exact call_list_seq p (.inl rfl) ho hc hd (λh' c' kp e=>fin its r' hz h' c' kp e) (by simp only[sAq] <;> lia)
  · obtain⟨its,r',pl,hz⟩:=I.tuple hq
    have hlen:=r'.length
    obtain⟨o,ho,hc,n,hd⟩:=pl
    exact call_list_seq p (.inr rfl) ho hc hd (λh' c' kp e=>fin its r' hz h' c' kp e) (by simp only[sAq] <;> lia)
inductive rTpO (K:PySem.W.Frag):List V→Hp→VK→Prop|m{xs H Q} p ys:xs=[.ref p]→((SqL K H p ys∧∀ l,H l=none→Q (.ref l) (upd H l (.tup ys)))∨(SqT K H p ys∧Q (.ref p) H))→rTpO K xs H Q
theorem zaC:zbp X (.type "tuple") (rTpO X.K):=by
  intro pins s σ H xs us Q I r h
  obtain⟨p,ys,rfl,h⟩:=h
  obtain⟨u,rfl,rx⟩:=zcc r
  cases rx
  rcases h with ⟨hq,q⟩ | ⟨hq,q⟩
  · obtain⟨its,r',pl,hz⟩:=I.list hq
    have hlen:=r'.length
    refine call_tuple_list pl.isList (λh' kp=>?_) (by simp only[sAq] <;> lia)
    have I1:Inv X pins σ H { s with heap:=h' }:=I.kept (t':=s.toks) kp
    have I2:Inv X pins σ (upd H h'.objs.size (.tup ys)) { s with heap:=h'.push { cls:=.type "tuple",data:=.seq its.toArray } } :=
      I1.laid (t':=s.toks) (λb o e=>hG _ e) (nRq _) (show zaE X.prog X.w _ _ _ (.tup ys) from⟨hz,its,r',zeq.new _ _⟩)
    exact⟨.ref h'.objs.size,_,I2,rfl,q _ (I1.hok.fresh (nRq _))⟩
  · obtain⟨its,r',pl,hz⟩:=I.tuple hq
    exact call_tuple_same pl ⟨.ref p,H,I,rfl,q⟩
def tyV (K:PySem.W.Frag) (T:String) (x:V) (H:Hp):Prop:=match x with
  | .str _=>T="str"
  | .int _=>T="int"
  | .ref p=>(T="list"∧∃ xs,SqL K H p xs)∨(T="tuple"∧∃ o,K.lookup p=some o∧o.cls=.type "tuple"∧o.dict=none) ∨
      (T="dict"∧((∃ kvs,H p=some (.dK kvs))∨∃ kvs,H p=some (.dT kvs)))∨(T="set"∧∃ S n,H p=some (.set S n))∨(T="tuple"∧∃ xs,SqT K H p xs)
  | _=>False
theorem tyV_is {pins:List (Addr × Obj)} {σ:St} {H:Hp} {s:Shared} {T:String} {x:V} {v:Value} (I:Inv X pins σ H s) (r:aY x v) (ty:tyV X.K T x H) :
    s.TypeIs v T∧∀ a,v=.ref a→∃ ob,s.heap.get? a=some ob∧ob.dict=none:=by
  cases x with
  | str z =>
    obtain⟨t,rfl⟩:=r
    cases (show T="str" from ty)
    exact⟨typeIs_str s z t,λ_ e=>nomatch e⟩
  | int i =>
    obtain⟨t,rfl⟩:=r
    cases (show T="int" from ty)
    exact⟨typeIs_int s i t,λ_ e=>nomatch e⟩
  | ref p =>
    cases r
    rcases ty with ⟨rfl,xs,hq⟩ | ⟨rfl,o,hk,hc,hd⟩ | ⟨rfl,hk⟩ | ⟨rfl,S,n,hk⟩ | ⟨rfl,xs,hk⟩
    · obtain⟨its,_,pl,_⟩:=I.list hq
      refine⟨pl.isList.typeIs,λa e=>?_⟩
      cases e
      obtain⟨o,n,e,c,hd,_⟩:=pl
      exact⟨o,e,hd⟩
    · refine⟨⟨o,I.kIn p o hk,hc⟩,λa e=>?_⟩
      cases e
      exact⟨o,I.kIn _ o hk,hd⟩
    · have z:∃ o,s.heap.get? p=some o∧o.ExactDict:=by
        rcases hk with ⟨kvs,hk⟩ | ⟨kvs,hk⟩
        · obtain⟨_,_,_,_,o,_,_,e,ex,_⟩:=I.hok p _ hk
          exact⟨o,e,ex⟩
        · obtain⟨_,_,_,_,o,_,_,e,ex,_⟩:=I.hok p _ hk
          exact⟨o,e,ex⟩
      obtain⟨o,e,ex⟩:=z
      refine⟨⟨o,e,ex.1⟩,λa e2=>?_⟩
      cases e2
      exact⟨o,e,ex.2.1⟩
    · obtain⟨o,_,_,_,e,ex,_⟩:=I.hok p _ hk
      refine⟨⟨o,e,ex.1⟩,λa e2=>?_⟩
      cases e2
      exact⟨o,e,ex.2.1⟩
    · obtain⟨its,_,⟨o,e,c,_⟩,_⟩:=I.tupD hk
      refine⟨⟨o,e,(Prod.mk.inj c).1⟩,λa e2=>?_⟩
      cases e2
      exact⟨o,e,(Prod.mk.inj c).2⟩
  | _=>exact False.elim ty
def tBM (K:PySem.W.Frag) (T:String) (r:V→List V→Hp→VK→Prop) (to:TE) (t:TA):TE:=λσ H Q=>to σ H λx H1=>tyV K T x H1∧t σ H1 λxs H2=>r x xs H2 Q
variable {o e:Expr} {es:List Expr} {to:TE} {t:TA} {name:Str} {apos cpos:Pos} {T id:String} {r:V→List V→Hp→VK→Prop}
theorem zcj (pa:PlainAttrs T) (slot:Slot T name id) (hty:typeOf (.builtin id)=pure (.type "method_descriptor")) (hm:MtR X id r) (ho:PE X o to) (ha:PA X (e :: es) t)
    (hbase:attributeBase o name X.env (eval o X.env)=eval o X.env:=by rfl)
    (hfew:((backTo cpos (starEach (e :: es) X.env)).all (λx=>!x.1)&&(backToKw cpos (keywordEach [] X.env)).all (λx=>x.1.isSome)
      && decide ((e :: es).length+([]:List Keyword).length+(if([]:List Keyword).isEmpty then 0 else 1) < 30))=true:=by rfl)
    (hline:(apos.endLine == cpos.line)=true:=by rfl) (hs:starEach (e :: es) X.env=(false,eval e X.env) :: starEach es X.env:=by rfl) (hplain:(backTo cpos (starEach es X.env)).any (·.1)=false:=by rfl) :
    PE X (.Call (.Attribute o name apos) (e :: es) [] cpos) (tBM X.K T r to t):=by
  intro pins s σ H Q I h
  refine wpAny_Call_method_late hbase hfew hline rfl (thn (ho pins s σ H _ I h) λv s1 ⟨x,H1,I1,r1,ty,q1⟩=>?_)
  obtain⟨h1,h2⟩:=tyV_is I1 r1 ty
  refine⟨T,id,pa,slot,hty,h1,h2,?_⟩
  have hA:=ha cpos pins s1 σ H1 _ I1 q1
  rw[hs]at hA ⊢
  refine Calls.callWith_builtin (by show(false||(backTo cpos (starEach es X.env)).any (·.1))=false;rw[hplain] <;> rfl) (Calls.evalArgs_plain ?_)
  exact thn hA λus s2 ⟨vs,H2,I2,r2,q2⟩=>hm pins s2 σ H2 x vs v us Q I2 r1 r2 q2
end
end L2
namespace L2
open PySem PySem.Spec PyProof.Rows
def MtM (X:Cx) (id:String) (r:V→List V→Hp→VK→Prop):Prop :=
  ∀(pins:List (Addr × Obj)) (s:Shared) (σ:St) (H:Hp) (x:V) (xs:List V) (v:Value) (us:List Value) (Q:VK),Inv X pins σ H s→aY x v→aW xs us→r x xs H Q →
    wpAny (model X.prog X.w) X.A (call (.builtin id) (v :: us)) (EP X pins σ Q) X.xe s
theorem aW.one {x:V} {us:List Value} (h:aW [x] us):∃ u,us=[u]∧aY x u:=by
  cases h with
  | cons r h=>cases h;exact⟨_,rfl,r⟩
theorem aW.two {x y:V} {us:List Value} (h:aW [x,y] us):∃ u v,us=[u,v]∧aY x u∧aY y v:=by
  cases h with
  | cons r h=>cases h with
    | cons q h=>cases h;exact⟨_,_,rfl,r,q⟩
theorem aW.rep {xs:List V} {us:List Value} (h:aW xs us):∀ k:Nat,aW (List.replicate k xs).flatten (List.replicate k us).flatten
  | 0=>.nil
  | k+1=>by
    rw[List.replicate_succ,List.replicate_succ,List.flatten_cons,List.flatten_cons]
    exact aW.append h (aW.rep h k)
theorem zia (its:List Value):∀(k:Nat) (acc:List Value),
    List.foldl (λx1 x2=>x1++x2) acc.toArray (List.replicate k its.toArray)=(acc++(List.replicate k its).flatten).toArray
  | 0,acc=>by simp
  | k+1,acc=>by
    have e:acc.toArray++its.toArray=(acc++its).toArray:=by simp
    have e2:(acc++its)++(List.replicate k its).flatten=acc++(List.replicate (k+1) its).flatten:=by
      rw[List.replicate_succ,List.flatten_cons,List.append_assoc]
    rw[←e2,←zia its k (acc++its),←e,List.replicate_succ,List.foldl_cons]
section
variable {X:Cx} {pins:List (Addr × Obj)} {σ:St} {H:Hp} {s:Shared} {l b:Addr} {xs ys zs:List V}
theorem Inv.lset {its its':List Value} {n:Nat} {f:Array Value→Array Value} {t':Nat} (I:Inv X pins σ H s) (hH:H l=some (.lst xs))
    (e:s.heap.get? l=some { cls:=.type "list",data:=.seq its.toArray n }) (hf:f its.toArray=its'.toArray) (hv:aW ys its') (hz:ys.length≤sizeLine) :
    Inv X pins σ (upd H l (.lst ys)) { s with heap:=s.heap.update l (Obj.mapSeq f),toks:=t' }:=by
  have q:=PySem.IsL.update e f
  rw[hf]at q
  refine I.write (x:=l) (e:=l) (by rw[hH];exact trivial) (.inl rfl) (λb' u hb hu=>(Heap.get?_update_other s.heap (Obj.mapSeq f) (Ne.symm hb)).trans hu) ⟨_,q⟩ ?_
  exact⟨hz,its',_,hv,q⟩
theorem Inv.lnew {its:List Value} {t':Nat} (I:Inv X pins σ H s) (hv:aW ys its) (hz:ys.length≤sizeLine) :
    Inv X pins σ (upd H s.heap.objs.size (.lst ys)) { s with heap:=s.heap.push { cls:=.type "list",data:=.seq its.toArray },toks:=t' } :=
  I.laid (λ_ _ q=>hG _ q) (nRq _) ⟨hz,its,0,hv,Heap.get?_push_size _ rfl⟩
theorem Inv.fresh (I:Inv X pins σ H s):H s.heap.objs.size=none:=I.hok.fresh (nRq _)
theorem Inv.lstM (I:Inv X pins σ H s) (hH:H l=some (.lst xs)):xs.length≤sizeLine∧∃(its:List Value) (n:Nat),aW xs its∧xs.length=its.length∧s.heap.get? l=some { cls:=.type "list",data:=.seq its.toArray n }:=by
  obtain⟨z,its,n,r,e⟩:=I.hok l _ hH
  exact⟨z,its,n,r,r.length,e⟩
theorem zi2 {n:Nat} (h:n≤sizeLine):Builtin.List.listTooLong n=false:=by
  unfold Builtin.List.listTooLong
  exact dFq (by lia)
end
section
variable {X:Cx}
inductive zjQ:V→List V→Hp→VK→Prop|m{x vs H Q} l xs y:x=.ref l→vs=[y]→H l=some (.lst xs)→xs.length < sizeLine→Q .non (upd H l (.lst (xs++[y])))→zjQ x vs H Q
theorem za5:MtM X "list.append" zjQ:=by
  intro pins s σ H x vs v us Q I rx rv h
  obtain⟨l,xs,y,rfl,rfl,hH,hz,q⟩:=h
  cases rx
  obtain⟨u,rfl,ru⟩:=rv.one
  obtain⟨z,its,n,r,hl,e⟩:=I.lstM hH
  refine call_meets F.slot_list_append ⟨_,e,rfl⟩ F.entry_list_append (F.args_list_append_2 _ _) (PySem.list_append l its.toArray n u (by rw[sAq];lia)) ⟨e,?_⟩
  refine⟨.non,_,I.lset (its':=its++[u]) hH e (by simp) (r.append (.cons ru .nil)) ?_,rfl,q⟩
  rw[lAq,lS]
  lia
inductive zjO:V→List V→Hp→VK→Prop|m{x vs H Q} l b xs zs:x=.ref l→vs=[.ref b]→H l=some (.lst xs)→H b=some (.lst zs)→xs.length+zs.length≤sizeLine→Q .non (upd H l (.lst (xs++zs)))→zjO x vs H Q
theorem mt_extend:MtM X "list.extend" zjO:=by
  intro pins s σ H x vs v us Q I rx rv h
  obtain⟨l,b,xs,zs,rfl,rfl,hH,hB,hz,q⟩:=h
  cases rx
  obtain⟨u,rfl,ru⟩:=rv.one
  cases ru
  obtain⟨z,its,n,r,hl,e⟩:=I.lstM hH
  obtain⟨z2,its2,n2,r2,hl2,e2⟩:=I.lstM hB
  have hsz:its.toArray.size+its2.toArray.size≤sizeLine:=by rw[sAq,sAq];lia
  have hlong:¬(!its.toArray.isEmpty&&Builtin.List.listTooLong (its.toArray.size+its2.toArray.size))=true:=by
    rw[zi2 hsz,Bool.and_false]
    exact Bool.false_ne_true
  refine call_meets F.slot_list_extend ⟨_,e,rfl⟩ F.entry_list_extend (F.args_list_extend_2 _ _)
    (AutoSeq1.list_extend_list_list_0 l its.toArray n b its2.toArray n2 hlong (by rw[sAq];lia) (by lia)) ⟨e,e2,?_⟩
  refine⟨.non,_,I.lset (its':=its++its2) hH e (by simp) (r.append r2) ?_,rfl,q⟩
  rw[lAq]
  lia
inductive rCat:R2|m{x y H Q} l b xs zs:x=.ref l→y=.ref b→H l=some (.lst xs)→H b=some (.lst zs)→xs.length+zs.length≤sizeLine→(∀ p,H p=none→Q (.ref p) (upd H p (.lst (xs++zs))))→rCat x y H Q
theorem zaT:OpR X (binaryOp .Add) rCat:=by
  intro pins s σ H x y v u Q I rx ry h
  obtain⟨l,b,xs,zs,rfl,rfl,hH,hB,hz,q⟩:=h
  cases rx
  cases ry
  obtain⟨z,its,n,r,hl,e⟩:=I.lstM hH
  obtain⟨z2,its2,n2,r2,hl2,e2⟩:=I.lstM hB
  refine PySem.P.add_list e e2 ?_ (by rw[sAq,sAq];lia)
  have ea:its.toArray++its2.toArray=(its++its2).toArray:=by simp
  rw[ea]
  exact⟨.ref _,_,I.lnew (t':=s.toks) (r.append r2) (by rw[lAq];lia),rfl,q _ I.fresh⟩
inductive rRep:R2|m{x y H Q} l k xs:x=.ref l→y=.int k→H l=some (.lst xs)→-(2 ^ 63)≤k→k < 2 ^ 63→xs.length * k.toNat≤sizeLine→(∀ p,H p=none→Q (.ref p) (upd H p (.lst (List.replicate k.toNat xs).flatten)))→rRep x y H Q
theorem znh {α:Type} (xs:List α) (k:Nat):(List.replicate k xs).flatten.length=k * xs.length:=by
  induction k with
  | zero=>simp
  | succ k ih=>rw[List.replicate_succ,List.flatten_cons,lAq,ih,Nat.succ_mul,Nat.add_comm]
theorem op_rep:OpR X (binaryOp .Mult) rRep:=by
  intro pins s σ H x y v u Q I rx ry h
  obtain⟨l,k,xs,rfl,rfl,hH,h1,h2,hz,q⟩:=h
  cases rx
  obtain⟨t,rfl⟩:=ry
  obtain⟨z,its,n,r,hl,e⟩:=I.lstM hH
  have hlen:its.toArray.size * k.toNat≤sizeLine:=by rw[sAq,←hl];exact hz
  have hcap:¬its.toArray.size * k.toNat > (2 ^ 63 - 1) / 8:=by
    have:(sizeLine:Nat)≤(2 ^ 63 - 1) / 8:=by decide
    lia
  have hfit:¬(!Builtin.List.listFitsIndex k)=true:=by
    rw[fitsIndex_both h1 h2]
    exact Bool.false_ne_true
  have hlong:¬Builtin.List.listTooLong (its.toArray.size * k.toNat)=true:=by
    rw[zi2 hlen]
    exact Bool.false_ne_true
  have hnew:List.foldl (λx1 x2=>x1++x2) #[] (List.replicate (if its.toArray.isEmpty=true then 0 else k.toNat) its.toArray)=(List.replicate k.toNat its).flatten.toArray:=by
    have f0:∀ m:Nat,List.foldl (λx1 x2=>x1++x2) #[] (List.replicate m its.toArray)=(List.replicate m its).flatten.toArray:=λm=>by
      have:=zia its m []
      rw[List.nil_append]at this
      exact this
    rw[f0]
    cases its with
    | nil=>simp
    | cons a r'=>rw[if_neg (by simp)]
  refine wpAny_binaryOp_repeat_ref (T:="list") (U:="int") (by decide) ⟨_,e,rfl⟩ (λs'=>typeIs_int s' k t) noFill_list_mul F.fills_int_mul F.slot_int_rmul repeat_list F.slot_int_index.lookup
    (call_meets F.slot_int_rmul (typeIs_int s k t) F.entry_int_rmul (F.args_int_rmul_2 _ _) (int___rmul___int_list k t l its.toArray n)
      ⟨e,rfl,⟨_,e,rfl⟩,call_meets F.slot_list_mul ⟨_,e,rfl⟩ F.entry_list_mul (F.args_list_mul_2 _ _) (AutoListH.list___mul___list_int_3 l its.toArray n k t hfit hcap hlong) ⟨e,?_⟩⟩)
  rw[hnew]
  exact⟨.ref _,_,I.lnew (t':=s.toks) (r.rep k.toNat) (by rw[znh,Nat.mul_comm];exact hz),rfl,q _ I.fresh⟩
end
section
variable {prog:Program} {w:World} {A:Around} {E:Value→Shared→Prop} {s:Shared}
end
section
variable {X:Cx}
end
end L2
namespace Att
open PySem PySem.W PySem.Calls PyProof.Rows
theorem zhD {P:Params} {h:Heap}:∀(ns:List Int) (vs:List Value),WellAll P h vs (ns.map WData.int)→IntsAre vs ns:=by
  intro ns
  induction ns with
  | nil =>
    intro vs w
    rw[List.map_nil]at w
    cases w
    exact .nil
  | cons n ns ih =>
    intro vs w
    rw[List.map_cons]at w
    cases w with
    | cons a b =>
      cases a
      exact .cons _ _ (ih _ b)
theorem zlm {l:OpenLaw} {n:Nat} (hn:l.most=some n) {P:Params} {h:Heap} {args:List WData} {vals:List Value}
    (hpre:l.row.toRowW.claim.pre args=true) (hwl:WellAll P h vals args) :
    ∃ a vs ns,vals=[Value.ref a]∧args=[WData.list (ns.map WData.int)]∧h.get? a=some { cls:=.type "list",data:=.seq vs.toArray }∧IntsAre vs ns∧ns.length≤n:=by
  have hsh:WShape.hasAll [] args [.list .int]=true:=(pre_splitW hpre).1
  have hc:l.pre.holds [] { args:=args }=true:=(pre_splitW hpre).2
  obtain⟨d,r,rfl,h1,h2⟩:=hasAllW_cons hsh
  obtain rfl:=hasAllW_nil h2
  obtain⟨xs,rfl,h3⟩:=hasW_list h1
  obtain⟨ns,rfl⟩:=items_int h3
  have hlen:ns.length≤n:=by
    unfold OpenLaw.pre at hc
    have h4:(WTm.not (.lt (.lit (.int (n:Int))) (.len (.arg 0)))).holds [] { args:=[.list (ns.map .int)] }=true:=by
      have h4:=(holds_andW hc).1
      rw[hn]at h4
      exact h4
    have h5:=condW_of h4 (w_not (w_lt w_lit (w_len_list (w_arg rfl))))
    rw[lM]at h5
    refine Nat.le_of_not_lt λq=>?_
    have q':(n:Int) < ((ns.length:Nat):Int):=by lia
    first
      | (rw[dTq q']at h5;exact absurd h5 (by decide))
      | (simp at h5;lia)
  cases hwl with
  | cons w1 w2 =>
    cases w2
    cases w1 with
    | list ho hall=>exact⟨_,_,ns,rfl,rfl,ho,zhD ns _ hall,hlen⟩
theorem zlo (l:OpenLaw) (args:List WData):l.row.toRowW.claim.post args (.bool true) args=true :=
  postW_of (r:=l.row.toRowW) (X:=(true == true))
    (show WShape.has [] (.bool true) .bool=true by first | rfl | decide | simp [WShape.has,WShape.arms,WShape.armsAll])
    (show(WTm.eq .res (.lit (.bool true))).value [] { args:=args,res:=some (.bool true),after:=args }=some (.bool (true == true)) from w_eq_bool (w_res rfl) w_lit) rfl
theorem attach_call {l:OpenLaw} {n:Nat} {q:Program} {loose:List Str} {XP:(Str→Option Value)→Heap→Prop} {YP:World→Heap→Prop} {d:DefRec}
    (hn:l.most=some n) (hdf:d.params.defaults=[])
    (call:∀(w:World) (s₀ s₁:Shared) (mg mb:Str→Option Value) (fa:Addr) (o:Obj) (pm cd doc:Value) (a:Addr) (vs:List Value) (ns:List Int),
      Ground q loose [] XP w s₀ mg mb s₁.heap→YP w s₁.heap →
      s₁.heap.get? fa=some o→o.data=.func (docDef d.name d.params d.body d.scope pm cd doc)→s₁.heap.CodeRec cd d.name→mg d.name=some (.ref fa) →
      s₁.heap.get? a=some { cls:=.type "list",data:=.seq vs.toArray }→IntsAre vs ns→ns.length≤n→s₁.gens=#[] →
      codeAny (model l.prog w) callerA (.call (.ref fa) ⟨[.ref a],[]⟩) (λr s'=>r=.ok (.ret (.bool true))∧OldK s₁.heap s'.heap∧s'.os=s₁.os∧AllBare s'.gens) s₁) :
    WalkO q loose XP YP l.row.toRowW d [] (λf vs=>PySem.call f vs):=by
  intro w s₀ s₁ mg mb G Y fa o pm cd doc dV kV ho hd hcd hD hmg hg args vals as hpre hlay hrd hwl hlo
  obtain rfl:dV=.none:=Dflts.none hD hdf
  obtain rfl:kV=.none:=Dflts.noKw hD
  obtain⟨a,vs,ns,rfl,rfl,hobj,hints,hlen⟩:=zlm hn hpre hwl
  refine enter_call (codeAny_mono (call w s₀ s₁ mg mb fa o pm cd doc a vs ns G Y ho (fd_plain hd) hcd hmg hobj hints hlen hg) λr s' hq=>?_)
  obtain⟨rfl,h2,h3,h4⟩:=hq
  exact⟨.inl ⟨.bool true,.bool true,[],rfl,λ_=>rfl,.bool true,zlo l _,λ_=>⟨List.Pairwise.nil,λ_ hm=>(nomatch hm)⟩⟩,h2,h3,h4⟩
section
variable {prog:Program} {w:World} {A:Around} {E:Value→Shared→Prop} {s:Shared} {K:Frag}
def ledger (h:Heap) (L d:Addr):List (Addr × Obj):=(List.range h.objs.size).filterMap λa=>if a=L∨a=d then none else(h.get? a).map λo=>(a,o)
end
end Att
namespace L2
open PySem PySem.Spec PyProof.Rows
theorem zf3:∀ {vs:List Value} {ns:List Int},IntsAre vs ns→aW (ns.map V.int) vs
  | _,_,.nil=>.nil
  | _,_,.cons n t h=>.cons ⟨t,rfl⟩ (zf3 h)
def Only (H:Hp):Prop:=∀ b,H b=none∨∃ o xs,H b=some (.frz o (.lst xs))
theorem zms {P:Program} {w:World} {K:PySem.W.Frag} {mg mb:Str→Option Value} {CX:CXT} {k:Nat} {fa a:Addr} {fd:FuncData} {x:Str} {sp:Sp} {s₁:Shared} {vs:List Value} {ns:List Int}
    (KX:K.In s₁.heap) (hns:s₁.heap.Ns mainGlobals mg) (hb:s₁.heap.Ns builtinsNs mb) (hbb:∀ x:Str,x≠"__name__"→mb x=bootBuiltins x) (hlim:s₁.heap.NoLimit) (hg:s₁.gens=#[])
    (ha:s₁.heap.get? a=some { cls:=.type "list",data:=.seq vs.toArray }) (hi:IntsAre vs ns) (hl:ns.length≤sizeLine) (hr:ba k callerA)
    (F:∀ base:Heap,K.In base→base.Ns mainGlobals mg→aQ P w K mg base CX k fa fd [x] sp) (hbind:∀(s:Shared) (u:Value),BindsTo s fd ⟨[u],[]⟩ [(x,u)])
    (hsp:∀ H:Hp,Only H→SqL K H a (ns.map V.int)→sp [.ref a] H (λv _=>v=.bl true) λ_ _ _=>False)
    (hCX:∀ H e s',CX [] H s₁ (λ_ _ _=>False) e s'→False) :
    codeAny (model P w) callerA (.call (.ref fa) ⟨[.ref a],[]⟩) (λr s'=>r=.ok (.ret (.bool true))∧OldK s₁.heap s'.heap∧s'.os=s₁.os∧AllBare s'.gens) s₁:=by
  have rv:=zf3 hi
  have lenV:=hi.length
  have core:∀ H:Hp,Only H→SqL K H a (ns.map V.int)→HOk P w H s₁.heap→(∀ b,H b≠none→b=a)→(H a≠none→K.lookup a=none) →
      codeAny (model P w) callerA (.call (.ref fa) ⟨[.ref a],[]⟩) (λr s'=>r=.ok (.ret (.bool true))∧OldK s₁.heap s'.heap∧s'.os=s₁.os∧AllBare s'.gens) s₁:=by
    intro H hO hS hok hA hK
    have base_of:∀ {b:Addr} {o:Obj},s₁.heap.get? b=some o→H b=none→(zft s₁.heap H).get? b=some o:=λe n=>zmt e n
    have noA:∀ {b:Addr} {o:Obj} {es:Array DictEntry} {ep:Nat},s₁.heap.get? b=some o→o.data=.dict es ep→H b=none:=λ{b o es ep} e d=>by
      cases q:H b with
      | none=>rfl
      | some u =>
        have e':b=a:=hA b (by rw[q];simp)
        subst e'
        rw[ha]at e;cases e
        have d':Data.seq vs.toArray _=Data.dict es ep:=d
        cases d'
    have nsK:∀ {b:Addr} {m:Str→Option Value},s₁.heap.Ns b m→(zft s₁.heap H).Ns b m:=λ{b m} ⟨o,es,ep,e,d,r⟩=>⟨o,es,ep,base_of e (noA e d),d,r⟩
    have hKb:K.In (zft s₁.heap H):=λb o e=>base_of (KX b o e) (by
      cases q:H b with
      | none=>rfl
      | some u =>
        have e':b=a:=hA b (by rw[q];simp)
        subst e'
        rw[hK (by rw[q];simp)]at e;cases e)
    have hM:Mod K mg (zft s₁.heap H):=⟨hKb,nsK hns,⟨mb,nsK hb,hbb⟩,let ⟨mc,h1,h2⟩:=hlim;⟨mc,nsK h1,h2⟩⟩
    have e0:zgU P w K mg (zft s₁.heap H) callerA [] s₁ H:=⟨rfl,hM,λb o e=>znc e,Nat.le_of_eq (zlN _ _),trivial,λb hb=>absurd (show b∈([]:List Addr) from hb) (by simp),hok,.of_eq hg⟩
    refine codeAny_mono ((F _ hKb (nsK hns)).run callerA [] s₁ H ⟨[.ref a],[]⟩ [.ref a] [.ref a] _ _ hr e0 (hbind s₁ (.ref a)) (.cons rfl .nil) (hsp H hO hS)) λr s' h=>?_
    cases r with
    | error e=>exact(hCX H e s' h).elim
    | ok fl =>
      cases fl with
      | next=>exact False.elim h
      | brk=>exact False.elim h
      | cont=>exact False.elim h
      | ret u =>
        obtain⟨v,H',os,bare,un,hok',r',q⟩:=h
        have q':v=.bl true:=q
        subst q'
        obtain rfl:u=Value.bool true:=r'
        refine⟨rfl,OldK.of_keep λb o e=>?_,os,bare⟩
        cases q:H b with
        | none=>exact un.keep b o e q (by intro z;exact absurd (show b∈([]:List Addr) from z) (by simp)) (by simp)
        | some u =>
          rcases hO b with z | ⟨ob,xs,z⟩
          · rw[q]at z;cases z
          · have z2:=un.frzs b ob _ z
            obtain⟨e1,_⟩:=hok b _ z
            obtain⟨e2,_⟩:=hok' b _ z2
            rw[e]at e1;cases e1
            exact e2
  cases hk:K.lookup a with
  | some o =>
    have e:=KX a o hk
    rw[ha]at e
    cases e
    refine core (λ_=>none) (λ_=>.inl rfl) (.inr ⟨_,vs.toArray,_,hk,rfl,rfl,rfl,by rw[sAq,lenV];exact hl,by simpa using rv⟩) (λb u z=>by have z':(none:Option HO)=some u:=z;cases z') (λb z=>absurd rfl z) λz=>absurd rfl z
  | none =>
    refine core (λb=>if b=a then some (.frz { cls:=.type "list",data:=.seq vs.toArray } (.lst (ns.map V.int))) else none) (λb=>?_) (.inl (.inr ⟨{ cls:=.type "list",data:=.seq vs.toArray },if_pos rfl⟩)) (λb u z=>?_) (λb z=>?_) λ_=>hk
    · by_cases hb:b=a
      · exact .inr ⟨_,_,if_pos hb⟩
      · exact .inl (if_neg hb)
    · by_cases hb:b=a
      · have z':=(if_pos hb).symm.trans z
        cases z'
        subst hb
        exact⟨ha,by rw[lM];exact hl,vs,_,rv,ha⟩
      · have z':=(if_neg hb).symm.trans z
        cases z'
    · by_cases hb:b=a
      · exact hb
      · exact absurd (if_neg hb) z
end L2
namespace L2
open PySem PySem.Spec PyProof.Rows
abbrev KOf {K:PySem.W.Frag} {h:Heap} (_:K.In h):PySem.W.Frag:=K
theorem walk_of {l:PySem.W.OpenLaw} {n k:Nat} {q:Program} {loose:List Str} {XP:(Str→Option Value)→Heap→Prop} {YP:World→Heap→Prop} {d:DefRec} {K:Params→PySem.W.Frag} {CX:World→CXT} {sp:World→Sp} {x:Str}
    (hn:l.most=some n) (hn2:n≤sizeLine) (hdf:d.params.defaults=[]) (hr:ba k callerA)
    (hY:∀(w:World) (h:Heap),YP w h→(K w.params).In h)
    (F:∀(w:World) (mg:Str→Option Value) (fa:Addr) (h:Heap),(K w.params).In h→h.Ns mainGlobals mg→mg d.name=some (.ref fa) →
      ∃ fd:FuncData,(∀(s:Shared) (u:Value),BindsTo s fd ⟨[u],[]⟩ [(x,u)]) ∧
        ∀ base:Heap,(K w.params).In base→base.Ns mainGlobals mg→aQ l.prog w (K w.params) mg base (CX w) k fa fd [x] (sp w))
    (hsp:∀(w:World) (H:Hp) (a:Addr) (ns:List Int),ns.length≤n→Only H→SqL (K w.params) H a (ns.map V.int)→sp w [.ref a] H (λv _=>v=.bl true) λ_ _ _=>False)
    (hCX:∀(w:World) (H:Hp) (s:Shared) (e:Value) (s':Shared),CX w [] H s (λ_ _ _=>False) e s'→False) :
    PySem.W.WalkO q loose XP YP l.row.toRowW d [] (λf vs=>PySem.call f vs):=by
  refine Att.attach_call hn hdf λw s₀ s₁ mg mb fa o pm cd doc a vs ns G Y ho hd hcd hmg hobj hints hlen hg=>?_
  have KX:=hY w _ Y
  obtain⟨fd,hb,hF⟩:=F w mg fa _ KX G.T.g hmg
  exact zms KX G.T.g G.T.b G.T.builtins G.T.nolimit hg hobj hints (Nat.le_trans hlen hn2) hr hF hb (λH hO hS=>hsp w H a ns hlen hO hS) λH e s'=>hCX w H s₁ e s'
end L2
namespace L2
open PySem PySem.Spec PyProof.Rows
def zcg (s:Stmt) (j:Nat):Stmt:=match s with
  | .ClassDef _ _ _ body _ _ _ _ _ _ _=>body.getD j (.Pass ⟨0,0,0,0⟩)
  | _=>.Pass ⟨0,0,0,0⟩
def zc2 (s:Stmt):Arguments:=match s with
  | .FunctionDef _ a _ _ _ _ _ _ _ _=>a
  | _=>{ posonlyargs:=[],args:=[],vararg:=none,kwonlyargs:=[],kw_defaults:=[],kwarg:=none,defaults:=[] }
def zaX (s:Stmt):List Stmt:=match s with
  | .FunctionDef _ _ b _ _ _ _ _ _ _=>b
  | _=>[]
def au (s:Stmt):Scope:=match s with
  | .FunctionDef _ _ _ _ _ _ sc _ _ _=>sc
  | _=>{ kind:=.function,names:=[],isGenerator:=false,isCoroutine:=false }
abbrev CX0:CXT:=λ_ _ _ _ _ _=>False
abbrev E0:XK:=λ_ _ _=>False
theorem aI {X:Cx}:zdZ CX0 X E0:=λ_ _ _ _ _ _ _ h=>h.elim
structure Fun (K:PySem.W.Frag) (x qual:Str) (st:Stmt) (f:Addr) (fd:FuncData):Prop where
  ex:∃(oc:Value) (od:Option Addr) (kV doc pm:Value) (an:Option Addr) (cdv ct:Value) (osl:Array (Option Value)),
    fd=PySem.W.fnOf x qual (zc2 st) (zaX st) (au st) .none kV doc pm an cdv ct∧K.lookup f=some ⟨oc,od,.func fd,osl⟩∧PySem.W.codeIn K cdv qual=true
  kp:PySem.W.keepIn K (.ref f)=true
section
variable {P:Program} {w:World} {K:PySem.W.Frag} {mg:Str→Option Value} {base:Heap}
theorem Fun.ok {x qual:Str} {st:Stmt} {f:Addr} {fd:FuncData} {N ps:List Str} {k:Nat} {sp:Sp} (F:Fun K x qual st f fd) (S:aO N ps (au st)) (len:∀ vs H Q E,sp vs H Q E→vs.length=ps.length)
    (hbody:∀(cdv:Value) (A:Around) (outer:List Env) (s:Shared) (H:Hp) (vs:List V) (Q:VK) (E:XK),ba k (A.deeper (envOfC qual (au st) s.heap.objs.size f cdv))→sp vs H Q E →
      ∃ t,PSs (aX CX0 P w K mg base N qual (au st) f cdv A outer s H E).nox (zaX st) t∧t { nx:=λ_ H'=>Q .non H',rt:=Q } (zea N vs) H):aQ P w K mg base CX0 (k+1) f fd ps sp:=by
  obtain⟨oc,od,kV,doc,pm,an,cdv,ct,osl,rfl,lk,hcd⟩:=F.ex
  refine fn_of lk hcd S len λA outer s H vs Q E hr hsp=>?_
  obtain⟨t,h,q⟩:=hbody cdv A outer s H vs Q E hr hsp
  exact⟨t,h.nox,q⟩
theorem Fun.binds {x qual:Str} {st:Stmt} {f:Addr} {fd:FuncData} {ps:List Str} (F:Fun K x qual st f fd)
    (h:∀(kV doc pm:Value) (an:Option Addr) (cdv ct:Value) (us:List Value),us.length=ps.length→bindArgs (PySem.W.fnOf x qual (zc2 st) (zaX st) (au st) .none kV doc pm an cdv ct) ⟨us,[]⟩=pure (ps.zip us)):aF K fd ps []:=by
  obtain⟨oc,od,kV,doc,pm,an,cdv,ct,osl,rfl,lk,hcd⟩:=F.ex
  exact .all (h kV doc pm an cdv ct)
theorem zk4 {x qual:Str} {st:Stmt} {f:Addr} {oc:Value} {od an:Option Addr} {osl:Array (Option Value)} {kV doc pm cdv ct:Value} (l:K.lookup f=some ⟨oc,od,.func (PySem.W.fnOf x qual (zc2 st) (zaX st) (au st) .none kV doc pm an cdv ct),osl⟩)
    (c:PySem.W.codeIn K cdv qual=true) (k:PySem.W.keepIn K (.ref f)=true):Fun K x qual st f (PySem.W.fnOf x qual (zc2 st) (zaX st) (au st) .none kV doc pm an cdv ct):=⟨⟨oc,od,kV,doc,pm,an,cdv,ct,osl,rfl,l,c⟩,k⟩
end
theorem zgt {A:Around} {k:Nat} (hr:ba k A):A.units+1 < cLine:=Nat.lt_of_le_of_lt (Nat.add_le_add_left (by decide:1≤64) _) hr.units
theorem zaJ {n:Nat} (h:n≤1000):n < sizeLine:=Nat.lt_of_le_of_lt h (by decide)
section
variable {X:Cx}
theorem pv (i:Nat) {x:Str} {pos:Pos} (hN:X.N[i]?=some x:=by rfl) (hv:Vis X.env.scope x:=by first | exact Or.inl rfl | exact Or.inr (Or.inl rfl) | exact Or.inr (Or.inr rfl)) (hd:(x == ("__debug__":Str))=false:=by decide)
    (hcd:(x == ("__classdict__":Str))=false:=by decide):PE X (.Name x pos) (tVar i):=pe_var hN hv hd hcd
end
theorem aV {A B:Prop} (h:B):if false=true then A else B:=by
  rw[if_neg Bool.false_ne_true]
  exact h
theorem aS {A B:Prop} (h:A):if true=true then A else B:=by
  rw[if_pos rfl]
  exact h
theorem aJ {c A B:Prop} [Decidable c] (h1:c→A) (h2:¬c→B):if c then A else B:=by
  by_cases h:c
  · rw[if_pos h]
    exact h1 h
  · rw[if_neg h]
    exact h2 h
theorem iteNS {c A B:Prop} [Decidable c] (hc:c) (h:B):if(!decide c)=true then A else B:=by
  rw[dTq hc]
  exact aV h
def ah (H H':Hp):Prop:=∀ b o,H b=some o→H' b=some o
theorem ah.refl (H:Hp):ah H H:=λ_ _ h=>h
theorem ah.trans {H H1 H2:Hp} (a:ah H H1) (b:ah H1 H2):ah H H2:=λc o h=>b c o (a c o h)
theorem ah.free {H H':Hp} (e:ah H H') {l:Addr} (h:H' l=Option.none):H l=Option.none:=by
  cases q:H l with
  | none=>rfl
  | some o =>
    rw[e l o q]at h
    cases h
theorem ah.seq {K:PySem.W.Frag} {H H':Hp} {a:Addr} {xs:List V} (e:ah H H') (h:SqL K H a xs):SqL K H' a xs:=by
  rcases h with (h | ⟨o,h⟩) | h
  · exact .inl (.inl (e _ _ h))
  · exact .inl (.inr ⟨o,e _ _ h⟩)
  · exact .inr h
end L2
theorem lS0:0≤PySem.sizeLine:=by decide
theorem lS1:1≤PySem.sizeLine:=by decide
theorem lS2:2≤PySem.sizeLine:=by decide
theorem lS3:3≤PySem.sizeLine:=by decide
theorem lS4:4≤PySem.sizeLine:=by decide
namespace L2
open PySem PySem.Spec PyProof.Rows
section
variable {X:Cx} {e l:Expr} {te tl:TE} {pos:Pos} {tg:Expr}
def Its (z:Str):It:=⟨λi _=>i < z.length,λi H x H'=>H'=H∧∃ c,z.cps[i]?=some c∧x=.str ⟨#[c]⟩,λi _=>z.length≤i⟩
theorem ziS {P:Program} {w:World} {K:W.Frag} {ty:String} (hty:ty="str_ascii_iterator"∨ty="str_iterator") (it:Addr) (z:Str) (t:Tok):zgS P w K tg (Its z) [it] it (λi h=>h.IsStrIter it ty z t i) where
 mem:=by simp
 obj:=λi h st b hb=>by
  have e:b=it:=by simpa using hb
  subst e
  obtain⟨o,e,c,d⟩:=st
  exact⟨o,e,λv z=>by rw[d]at z;cases z⟩
 keep:=λi h h' st k=>by
  obtain⟨o,e,r⟩:=st
  exact⟨o,k it (by simp) o e,r⟩
 item:=by
  intro X hP hw hK hc i pins s σ H E I hf st hg
  subst hP hw hK
  have hi:i < z.cps.size:=hg
  have hx:z.cps[i]?=some z.cps[i]:=by simp [hi]
  obtain⟨f0,f1,f2,f3,f4,f5⟩:=hf it (by simp)
  rcases hty with rfl | rfl
  ·refine wpAny_pyNext_ascii_item st hx λh' st' sb=>?_
   have I1:Inv X pins σ H { s with heap:=h',toks:=s.toks+1 }:=I.turned (t':=s.toks+1) (λb o hb e=>(sb.2 b hb).trans e) f0 f1 f3 f4 f5
   obtain⟨o,e,c,d⟩:=id st'
   exact⟨_,rfl,zhj (s:={ s with heap:=h',toks:=s.toks+1 }) e c d (by decide) ⟨.str ⟨#[z.cps[i]]⟩,H,I1,⟨_,rfl⟩,⟨rfl,_,hx,rfl⟩,st',λb hb=>(hf b hb).1⟩⟩
  ·refine wpAny_pyNext_wide_item st hx λh' st' sb=>?_
   have I1:Inv X pins σ H { s with heap:=h',toks:=s.toks+1 }:=I.turned (t':=s.toks+1) (λb o hb e=>(sb.2 b hb).trans e) f0 f1 f3 f4 f5
   obtain⟨o,e,c,d⟩:=id st'
   exact⟨_,rfl,zhj (s:={ s with heap:=h',toks:=s.toks+1 }) e c d (by decide) ⟨.str ⟨#[z.cps[i]]⟩,H,I1,⟨_,rfl⟩,⟨rfl,_,hx,rfl⟩,st',λb hb=>(hf b hb).1⟩⟩
 done:=by
  intro X hP hw hK hc i pins s σ H E I hf st hg
  subst hP hw hK
  have hi:z.cps.size≤i:=hg
  have hx:z.cps[i]?=none:=by simp [hi]
  obtain⟨f0,f1,f2,f3,f4,f5⟩:=hf it (by simp)
  rcases hty with rfl | rfl
  ·exact wpAny_pyNext_ascii_end (I.ok.hd hc) st hx λh' eb=>⟨rfl,I.turned (t':=s.toks) (λb o hb e=>eb b o hb e) f0 f1 f3 f4 f5⟩
  ·exact wpAny_pyNext_wide_end (I.ok.hd hc) st hx λh' eb=>⟨rfl,I.turned (t':=s.toks) (λb o hb e=>eb b o hb e) f0 f1 f3 f4 f5⟩
 self:=λ_ _ _ _ _ st h=>by
  rcases hty with rfl | rfl
  ·exact wpAny_pyIter_striter_ascii st h
  ·exact wpAny_pyIter_striter_wide st h
def iStr (tl:TE):TI:=λσ H R=>tl σ H λx H1=>∃ z,x=.str z∧R (Its z) H1
theorem pi_str (hl:PE X l tl):PI X tg l (iStr tl):=by
 intro pins s σ H R I h
 refine thn (hl pins s σ H _ I h) λv s1 ⟨x,H1,I1,r1,q1⟩=>?_
 obtain⟨z,e,q⟩:=q1
 subst e
 obtain⟨t,rfl⟩:=r1
 have fp:∀ b∈[s1.heap.objs.size],zcv X pins H1 b:=λb hb=>by
  have e:b=s1.heap.objs.size:=by simpa using hb
  subst e
  exact I1.fpOk (nRq _) (I1.hok.fresh (nRq _))
 cases ha:z.cps.all (· < 128) with
 | true =>
  refine wpAny_pyIter_ascii ha ?_
  exact⟨s1.heap.objs.size,[s1.heap.objs.size],_,_,H1,rfl,I1.kept (t':=s1.toks) λb o e=>hG _ e,ziS (.inl rfl) _ z t,⟨_,Heap.get?_push_size _ rfl,rfl,rfl⟩,fp,q⟩
 | false =>
  refine wpAny_pyIter_wide ha ?_
  exact⟨s1.heap.objs.size,[s1.heap.objs.size],_,_,H1,rfl,I1.kept (t':=s1.toks) λb o e=>hG _ e,ziS (.inr rfl) _ z t,⟨_,Heap.get?_push_size _ rfl,rfl,rfl⟩,fp,q⟩
theorem zc6 (hc:X.calm=true):zbp X (.builtin "all") (λxs H Q=>∃(p:Addr) (bs:List Bool),xs=[.ref p]∧SqL X.K H p (bs.map V.bl)∧Q (.bl (bs.all id)) H):=by
 intro pins s σ H xs us Q I r h
 obtain⟨p,bs,rfl,hq,q⟩:=h
 obtain⟨u,rfl,rx⟩:=zcc r
 cases rx
 obtain⟨its,rv,pl,hz⟩:=I.list hq
 have hl:=rv.length
 rw[lM]at hl
 have hp:p < s.heap.objs.size:=by
  obtain⟨o,ho,_⟩:=pl.isList
  exact hLq ho
 have hne:p≠s.heap.objs.size:=Nat.ne_of_lt hp
 refine call_all_walk (wpAny_pyIter_list pl.isList ?_)
 refine⟨s.heap.objs.size,[s.heap.objs.size,p],[s.heap.objs.size],its.toArray.size,_,_,λi=>bs.getD i true,rfl,Walks.list (show X.A.in1.handled=none from I.ok.hd hc) _ p hne its.toArray,⟨⟨_,Heap.get?_push_size _ rfl,rfl,rfl⟩,pl.isList.push _⟩,?_,λh' tk hk=>?_⟩
 ·intro i v s' Q' E' hv hQ
  have hv':its[i]?=some v:=by simpa using hv
  have hi:i < its.length:=(gEq hv').1
  have hb:bs[i]?=some (bs.getD i true):=by
   rw[List.getD_eq_getElem?_getD,gG (by lia)]
   rfl
  obtain⟨w',e1,e2⟩:=rv.get (i:=i) (x:=.bl (bs.getD i true)) (by rw[List.getElem?_map,hb];rfl)
  rw[hv']at e1
  cases e1
  cases (show v=Value.bool _ from e2)
  exact wpAny_truthy_bool hQ
 ·have e:(List.range its.toArray.size).all (λi=>bs.getD i true)=bs.all id:=by
   rw[Bool.eq_iff_iff,List.all_eq_true,List.all_eq_true]
   constructor
   ·intro h x hx
    obtain⟨i,hi,rfl⟩:=List.mem_iff_getElem.mp hx
    have:=h i (List.mem_range.mpr (by simp only[sAq];lia))
    rw[List.getD_eq_getElem?_getD,gG hi]at this
    exact this
   ·intro h i hi
    have hi':i < bs.length:=by have:=List.mem_range.mp hi;simp only[sAq]at this;lia
    rw[List.getD_eq_getElem?_getD,gG hi']
    exact h _ (List.getElem_mem hi')
  refine⟨.bl (bs.all id),H,I.kept (t':=tk) λb o eb=>hk b o ?_ (hG _ eb),congrArg Value.bool e,q⟩
  intro hm
  have:b=s.heap.objs.size:=by simpa using hm
  exact absurd (hLq eb) (by rw[this];exact Nat.lt_irrefl _)
inductive rIs (K:W.Frag):List V→Hp→VK→Prop|m{xs H Q} x t n b:xs=[x,.ty n]→zcH K H x t→W.kitOne K t (.type n)=some b→Q (.bl b) H→rIs K xs H Q
theorem zdR:zbp X (.builtin "isinstance") (rIs X.K):=by
 intro pins s σ H xs us Q I r h
 obtain⟨x,t,n,b,rfl,ty,hk,q⟩:=h
 obtain⟨u,w',rfl,rx,ry⟩:=zgq r
 cases (show w'=Value.type n from ry)
 exact zlL I rx ty hk λtk=>⟨.bl b,H,I.tok _,rfl,q⟩
end
structure Clo (X:Cx) (scope:Scope) (cl:List (Str × Addr)):Prop where
 eq:closureFor scope X.env=pure cl
 sub:∀ y c,cl.lookup y=some c→X.env.cells.lookup y=some c
 has:∀ y,((relabel scope X.env).names.lookup y=some .cell∨(relabel scope X.env).names.lookup y=some .free)→∃ c,cl.lookup y=some c
theorem zbd {X:Cx} {scope:Scope} (hfree:∀ x∈scope.names,x.2≠.free) (hcell:∀ x∈scope.names,x.2≠.cell):Clo X scope []:=by
 refine⟨closureFor_none hfree,λy c h=>by simp at h,λy h=>?_⟩
 have e:(relabel scope X.env).names=scope.names:=by
  unfold relabel
  refine map_eq_self (λx hx=>?_)
  obtain⟨n,k⟩:=x
  have:(k == NameKind.free)=false:=by simpa using hfree _ hx
  simp [this]
 rw[e]at h
 rcases h with h | h
 ·exact absurd rfl (hcell _ (PySem.mem_of_lookup h))
 ·exact absurd rfl (hfree _ (PySem.mem_of_lookup h))
def zaN (X:Cx) (N':List Str) (scope:Scope) (cl:List (Str × Addr)) (fp:List Addr) (s₃:Shared) (H₃:Hp):Cx where
 prog:=X.prog
 w:=X.w
 K:=X.K
 mg:=X.mg
 base:=X.base
 A:=X.A
 N:=N'
 s₀:=s₃
 H₀:=H₃
 env:=compEnvC scope cl s₃.heap.objs.size X.env
 outer:=X.stack
 stack:=X.stack
 ex:=fp
 calm:=X.calm
 fn:=λ_=>false
 pn:=[]
 xe:=λ_ _=>False
def fvs (σ:St) (ix:List Nat):St:=ix.map λi=>(σ[i]?).join
def tLC (wi:TI) (ix:List Nat) (te:TE):TE:=λσ H Q=>wi σ H λJ H1=>∀ D,H1 D=none →
 ∃ W:Nat→Nat→List V→Hp→Prop,(∃ m,W 0 m [] (upd H1 D (.lst []))) ∧
  ∀ i m ys H',W i m ys H'→H' D=some (.lst ys) ∧
   ((J.stop i H'∧Q (.ref D) H')∨(J.go i H'∧∀ x H'',J.yld i H' x H''→te (some x :: fvs σ ix) H'' λy H3 =>
    H3 D=some (.lst ys)∧ys.length < sizeLine∧∃ m',m' < m∧W (i+1) m' (ys++[y]) (upd H3 D (.lst (ys++[y])))))
theorem zjE {prog:Program} {w:World} {A:Around} {R:Result→Shared→Prop} {s:Shared} {elt target iter:Expr} {scope:Scope} {pos:Pos} {it acc:Value} {env:Env} (I:Nat→Shared→Prop)
  (turn:∀ n s,I n s→wpAny (model prog w) A (pyNext it) (λr s₁=>match r with
   | none=>R (.ok .next) s₁
   | some v=>wpAny (model prog w) A (letOwnedTupleGo target it v) (λ_ s₁'=>wpAny (model prog w) A (assign target env v) (λ_ s₂=>wpAny (model prog w) A (eval elt env) (λx s₃ =>
     wpAny (model prog w) A (call (.builtin "list.append") [acc,x]) (λ_ s₄=>∃ m,m < n∧I m s₄) (notedBy (model prog w) A env λe s'=>R (.error e) s') s₃)
     (notedBy (model prog w) A env λe s'=>R (.error e) s') s₂) (notedBy (model prog w) A env λe s'=>R (.error e) s') s₁') (notedBy (model prog w) A env λe s'=>R (.error e) s') s₁) (notedBy (model prog w) A env λe s'=>R (.error e) s') s)
  (n:Nat) (h:I n s) :
  codeAny (model prog w) A (.compLoop (.ListComp elt [⟨target,iter,[],0⟩] scope pos) 0 it acc env) R s:=by
 refine codeAny_loop rfl I (λn s hI=>?_) n h
 show wpAny _ _ ((compTurn (.ListComp elt [⟨target,iter,[],0⟩] scope pos) 0 it acc env).onRaise (λx=>do noteFrame x env;theTreesLotGoes x)) _ _ s
 refine wpAny_noted ?_
 rw[compTurn_list1]
 refine wpAny_bind (wpAny_standAt (wpAny_bind (wpAny_mono (turn n s hI) (λr s₁ h₁=>?_) λ_ _ h'=>h')))
 cases r with
 | none=>exact wpAny_pure h₁
 | some v =>
  refine wpAny_bind (wpAny_mono h₁ (λ_ s₁' h₁'=>?_) λ_ _ h'=>h')
  exact wpAny_bind (wpAny_mono h₁' (λ_ s₂ h₂=>wpAny_bind (wpAny_bind (wpAny_mono h₂ (λx s₃ h₃=>wpAny_bind (wpAny_mono h₃
   (λ_ s₄ h₄=>wpAny_pure (wpAny_pure ⟨rfl,h₄⟩)) λ_ _ h'=>h')) λ_ _ h'=>h'))) λ_ _ h'=>h')
section
variable {X:Cx} {N':List Str} {scope:Scope} {cl:List (Str × Addr)} {fp:List Addr} {pins:List (Addr × Obj)} {σ:St} {H:Hp} {s:Shared}
theorem zfm (I:Inv X pins σ H s) (C:Clo X scope cl) (hkind:scope.kind=.function) (hf:∀ b∈fp,zcv X pins H b) (hlt:∀ b∈fp,b < s.heap.objs.size):(zaN X N' scope cl fp s H).Ok where
 mod:=I.ok.mod
 kind:=hkind
 glob:=I.ok.glob
 blt:=I.ok.blt
 above:=nRq _
 inj:=λx y c h1 h2=>I.ok.inj x y c (C.sub x c h1) (C.sub y c h2)
 has:=λx h=>C.has x h
 cab:=λx c h=>by cases (show false=true from h)
 hd:=I.ok.hd
 frames:=I.ok.frames
 stk:=.inl rfl
 exf:=λb hb=>⟨Nat.ne_of_lt (hlt b hb),λx c h=>(hf b hb).2.2.2.2.1 x c (C.sub x c h)⟩
 bs:=λb o h=>I.bs b o h
 bsz:=Nat.le_trans I.ok.bsz I.sz
 noex:=λb o h hb=>by
  rcases(hf b hb).2.2.2.1 with z | z
  ·exact I.ok.noex b o h z
  ·exact absurd (Nat.lt_of_lt_of_le (hLq h) (Nat.le_trans I.ok.bsz z)) (Nat.lt_irrefl _)
 exfs:=λb hb hs=>by
  rcases List.mem_cons.mp (I.stkSub b hs) with z | z
  ·exact(hf b hb).2.1 z
  ·exact(hf b hb).2.2.1 z
 funs:=I.stack
 frf:=I.stkFree
theorem zhA {ix:List Nat} {h₁:Heap} {t':Nat} {m:Str→Option Value} (I:Inv X pins σ H s) (C:Clo X scope cl) (hkind:scope.kind=.function) (hf:∀ b∈fp,zcv X pins H b) (hlt:∀ b∈fp,b < s.heap.objs.size)
  (hlen:N'.length=ix.length+1) (hix:∀(j i:Nat),ix[j]?=some i→∃ y,X.N[i]?=some y∧N'[j+1]?=some y∧(X.env.kindOf y=some .cell∨X.env.kindOf y=some .free)∧((relabel scope X.env).names.lookup y=some .cell∨(relabel scope X.env).names.lookup y=some .free))
  (hn:h₁.Ns s.heap.objs.size m) (hk:∀ b o,s.heap.get? b=some o→h₁.get? b=some o):Inv (zaN X N' scope cl fp s H) [] (none :: fvs σ ix) H { s with heap:=h₁,toks:=t' }:=by
 have cellK:∀ x c,cl.lookup x=some c→∃ v,h₁.IsCell c v:=λx c h=>by
  obtain⟨v,o,ho,hd⟩:=I.cell x c (C.sub x c h)
  exact⟨v,o,hk c o ho,hd⟩
 refine⟨zfm I C hkind hf hlt,rfl,I.bare,Un.kept hk,⟨m,hn,λi y v h1 h2 h3=>?_⟩,cellK,I.hok.fresh (nRq _),λx c h=>I.freeC x c (C.sub x c h),λp hp=>absurd (show p∈([]:List (Addr × Obj)) from hp) (by simp),I.hok.kept hk,?_⟩
 ·cases i with
  | zero=>cases (show some (none:Option V)=some (some v) from h2)
  | succ j =>
   have h2':(fvs σ ix)[j]?=some (some v):=h2
   unfold fvs at h2'
   rw[List.getElem?_map]at h2'
   cases e:ix[j]? with
   | none=>rw[e]at h2';cases h2'
   | some i =>
    rw[e]at h2'
    have h4:(σ[i]?).join=some v:=Option.some.inj h2'
    have h5:σ[i]?=some (some v):=by
     cases e':σ[i]? with
     | none=>rw[e']at h4;cases h4
     | some q =>
      rw[e']at h4
      have h6:q=some v:=h4
      rw[h6]
    obtain⟨y',n1,n2,k1,k2⟩:=hix j i e
    have ey:y'=y:=Option.some.inj (n2.symm.trans h1)
    subst ey
    obtain⟨m0,hn0,hl0⟩:=I.loc
    have hv0:Vis X.env.scope y':=k1.elim (λz=>.inr (.inl z)) λz=>.inr (.inr z)
    obtain⟨u,ru,l⟩:=hl0 i y' v n1 h5 hv0
    refine⟨u,ru,.inr ⟨k2,?_⟩⟩
    rcases l with ⟨k,_⟩ | ⟨_,c,ec,o,ho,hd⟩
    ·rcases k1 with z | z
     ·rw[z]at k;cases k
     ·rw[z]at k;cases k
    ·obtain⟨c',ec'⟩:=C.has y' k2
     have:c'=c:=Option.some.inj ((C.sub _ _ ec').symm.trans ec)
     subst this
     exact⟨c',ec',o,hk c' o ho,hd⟩
 ·show(none :: fvs σ ix:St).length=N'.length
  rw[hlen]
  simp [fvs]
theorem zhe {σ':St} {H':Hp} {s':Shared} {h':Heap} (I:Inv X pins σ H s) (J:Inv (zaN X N' scope cl fp s H) [] σ' H' s') (hf:∀ b∈fp,zcv X pins H b) (hs:Heap.SameBut s.heap.objs.size s'.heap h'):Inv X pins σ H' { s' with heap:=h' }:=by
 have ne:∀ b o,s.heap.get? b=some o→b≠s.heap.objs.size:=λb o e=>Nat.ne_of_lt (hLq e)
 have eq:∀ b,b≠s.heap.objs.size→h'.get? b=s'.heap.get? b:=λb hb=>hs.2 b hb
 have B:=J.base
 have u:Un (frs X.stack) fp H H' s.heap h' :=
  ⟨λb o e n h1 h2=>(eq b (ne b o e)).trans (B.keep b o e n h1 h2),λb o e n h1 h2=>by
   obtain⟨sl,q⟩:=B.slot b o e n h1 h2
   exact⟨sl,(eq b (ne b o e)).trans q⟩,λb o e n h1=>B.free b o e n h1,λb o e h1=>by
   obtain⟨o',q⟩:=B.there b o e h1
   exact⟨o',(eq b (ne b o e)).trans q⟩,B.tups,B.frzs,B.tbls⟩
 have hfree:H' s.heap.objs.size=none:=J.free
 have hok:HOk X.prog X.w H' h':=λb ob e=>by
  refine(J.hok b ob e).stay (λc w' hc q=>(eq c ?_).trans q) (λ_ q=>q) λ_ _ q=>q
  rintro rfl
  rcases hc with z | z
  ·rw[←z,hfree]at e;cases e
  ·rw[hfree]at z;cases z
 exact I.call' (s':={ s' with heap:=h' }) (ch:=fp) J.os u hok J.bare λb hb=>⟨(hf b hb).2.2.2.1,(hf b hb).2.1,(hf b hb).2.2.2.2.1,(hf b hb).2.2.2.2.2⟩
end
section
variable {X:Cx} {N':List Str} {scope:Scope} {elt iter:Expr} {x:Str} {px pos:Pos} {wi:TI} {te:TE} {ix:List Nat}
theorem zjZ (hc:X.calm=true) (hkind:scope.kind=.function) (hcell:∀ y∈scope.names,y.2≠.cell) (hnames:∀ y∈scope.names,y.2=.local→scope.names.lookup y.1=some .local) (hx:scope.names.lookup x=some .local)
  (hclo:X.Ok→∃ cl,Clo X scope cl) (hN:N'.Nodup) (hN0:N'[0]?=some x) (hlen:N'.length=ix.length+1)
  (hix:∀(j i:Nat),ix[j]?=some i→∃ y,X.N[i]?=some y∧N'[j+1]?=some y∧(X.env.kindOf y=some .cell∨X.env.kindOf y=some .free)∧((relabel scope X.env).names.lookup y=some .cell∨(relabel scope X.env).names.lookup y=some .free))
  (hi:PI X (.Name x px) iter wi) (he:∀ cl fp s₃ H₃,PE (zaN X N' scope cl fp s₃ H₃) elt te) (hs:∀ v,foldedSetIterable iter X.env v=pure v) {use:Option (Value→Sem Unit)} {Qf:Value→Shared→Prop} {pins:List (Addr × Obj)} {s:Shared} {σ:St} {H:Hp} {Q:VK} {cp:Pos} (I:Inv X pins σ H s) (h:tLC wi ix te σ H Q)
  (fin:∀(cl:List (Str × Addr)) (fp:List Addr) (s3 s6:Shared) (H3 H5:Hp) (σ6:St) (D:Addr),Inv X pins σ H3 s3→Inv (zaN X N' scope cl fp s3 H3) [] σ6 H5 s6→(∀ b∈fp,zcv X pins H3 b)→Q (.ref D) H5→compPost (model X.prog X.w) X.A X.xe use Qf (.ref D) s3.heap.objs.size (.ok .next) s6) :
  wpAny (model X.prog X.w) X.A (comprehension (.ListComp elt [⟨.Name x px,iter,[],0⟩] scope pos) scope X.env cp (newList []) false (eval iter X.env) use) Qf X.xe s:=by
 obtain⟨cl,C⟩:=hclo I.ok
 refine wpAny_comprehension_free rfl hs C.eq hkind hnames (thn (hi pins s σ H _ I h) λv s1 h1=>thn h1 λitv s2 h2=>?_)
 obtain⟨it,fp,tn,J,H2,e,I2,T,st2,f2,q2⟩:=h2
 subst e
 have hD:H2 s2.heap.objs.size=none:=I2.fresh
 obtain⟨W,⟨m0,w0⟩,turn⟩:=q2 s2.heap.objs.size hD
 refine wpAny_newObj_type (wpAny_newFunctionEnv hcell (by intro y hy;simp at hy) (λh₁ hns₁ hsb₁=>?_) hkind)
 dsimp only at hns₁ hsb₁ ⊢
 have I3:Inv X pins σ (upd H2 s2.heap.objs.size (.lst [])) { s2 with heap:=s2.heap.push { cls:=.type "list",data:=.seq ([]:List Value).toArray },toks:=s2.toks }:=I2.lnew .nil (Nat.zero_le _)
 generalize hs3:({ s2 with heap:=s2.heap.push { cls:=.type "list",data:=.seq ([]:List Value).toArray },toks:=s2.toks }:Shared)=s3 at I3
 have e3:s3.heap=s2.heap.push { cls:=.type "list",data:=.seq ([]:List Value).toArray }:=by rw[←hs3]
 generalize hDD:s2.heap.objs.size=D at *
 generalize hH3:upd H2 D (.lst [])=H3 at *
 have lt2:∀ b∈fp,b < s2.heap.objs.size:=λb hb=>by
  obtain⟨o,ho,_⟩:=T.obj 0 _ st2 b hb
  exact hLq ho
 have neD:∀ b∈fp,b≠D:=λb hb=>by rw[←hDD];exact Nat.ne_of_lt (lt2 b hb)
 have f3:∀ b∈fp,zcv X pins H3 b:=λb hb=>⟨by rw[←hH3,aD (neD b hb)];exact(f2 b hb).1,(f2 b hb).2⟩
 have sz3:s3.heap.objs.size=D+1:=by rw[e3,Heap.size_push,hDD]
 have lt3:∀ b∈fp,b < s3.heap.objs.size:=λb hb=>by have q:=lt2 b hb;rw[sz3];rw[hDD]at q;exact Nat.lt_succ_of_lt q
 have old:∀ b o,s3.heap.get? b=some o→h₁.get? b=some o:=λb o eb=>by
  have hb:b < D+1:=by rw[←sz3];exact hLq eb
  refine hsb₁.extBut b o ?_ (hG _ (by rw[←e3];exact eb))
  rw[Heap.size_push,hDD]
  exact Nat.ne_of_lt hb
 have szC:(s2.heap.push { cls:=.type "list",data:=.seq ([]:List Value).toArray }).objs.size=s3.heap.objs.size:=by rw[e3]
 have os3:s3.os=s2.os:=by rw[←hs3]
 rw[szC]at hns₁ hsb₁
 have I4:Inv (zaN X N' scope cl fp s3 H3) [] (none :: fvs σ ix) H3 { s3 with heap:=h₁,toks:=s2.toks+([]:List (Str × Value)).length }:=zhA I3 C hkind f3 lt3 hlen hix hns₁ old
 have st4:tn 0 h₁:=T.keep 0 _ _ st2 λb hb o eb=>old b o (by rw[e3];exact hG _ eb)
 have stat:∀ {H':Hp},(∀ b∈fp,H' b=none)→∀ b∈fp,zcv (zaN X N' scope cl fp s3 H3) [] H' b:=λhn b hb =>
  ⟨hn b hb,Nat.ne_of_lt (lt3 b hb),λhs'=>(zfm (N':=N') I3 C hkind f3 lt3).exfs b hb hs',.inl hb,λy c hy=>((zfm (N':=N') I3 C hkind f3 lt3).exf b hb).2 y c hy,λp hp=>absurd (show p∈([]:List (Addr × Obj)) from hp) (by simp)⟩
 have loop:∀ s4:Shared,s4={ s3 with heap:=h₁,toks:=s2.toks+([]:List (Str × Value)).length } →
   codeAny (model X.prog X.w) X.A (.compLoop (.ListComp elt [⟨.Name x px,iter,[],0⟩] scope pos) 0 (.ref it) (.ref D) (compEnvC scope cl s3.heap.objs.size X.env))
    (compPost (model X.prog X.w) X.A X.xe use Qf (.ref D) s3.heap.objs.size) s4:=by
  rintro s4 rfl
  refine zjE (λn s'=>∃ i σ0 H' ys,Inv (zaN X N' scope cl fp s3 H3) [] (σ0 :: fvs σ ix) H' s'∧tn i s'.heap∧(∀ b∈fp,H' b=none)∧W i n ys H') ?_ m0 ⟨0,none,H3,[],I4,st4,λb hb=>(f3 b hb).1,w0⟩
  rintro n s5 ⟨i,σ0,H5,ys,I5,st5,fr5,w5⟩
  obtain⟨hD5,alt⟩:=turn i n ys H5 w5
  rcases alt with ⟨stop,q⟩ | ⟨go,step⟩
  ·refine thn (T.done (zaN X N' scope cl fp s3 H3) rfl rfl rfl hc i [] s5 _ H5 _ I5 (stat fr5) st5 stop) λr s6 ⟨hr,I6⟩=>?_
   subst hr
   exact fin cl fp s3 s6 H3 H5 _ D I3 I6 f3 q
  ·refine thn (T.item (zaN X N' scope cl fp s3 H3) rfl rfl rfl hc i [] s5 _ H5 _ I5 (stat fr5) st5 go) λr s6 ⟨u,hr,h6⟩=>?_
   subst hr
   refine thn h6 λ_ s7 ⟨y7,H7,I7,r7,yl7,st7,fr7⟩=>?_
   have I7':=I7.pinned (stat fr7) (T.obj _ _ st7)
   have G:PG (zaN X N' scope cl fp s3 H3) (.Name x px) (zcl 0):=zaj hN hN0 (.inl (lookup_relabel_local hx)) (.inr (lookup_relabel_local hx))
   refine wpAny_mono (G _ s7 _ H7 y7 u (λσ' H'=>σ'=some y7 :: fvs σ ix∧H'=H7) I7' r7 ⟨rfl,rfl⟩) (λ_ s8 h8=>?_) λ_ _ f=>False.elim f
   obtain⟨σ8,H8,I8,rfl,rfl⟩:=h8
   refine wpAny_mono (he cl fp s3 H3 _ s8 _ H8 _ I8 (step y7 H8 yl7)) (λyv s9 h9=>?_) λ_ _ f=>False.elim f
   obtain⟨y9,H9,I9,r9,hD9,hl9,m',hm',w9⟩:=h9
   refine wpAny_mono (za5 (X:=zaN X N' scope cl fp s3 H3) _ s9 _ H9 (.ref D) [y9] (.ref D) [yv] (λ_ H'=>H'=upd H9 D (.lst (ys++[y9]))) I9 rfl (.cons r9 .nil) ⟨D,ys,y9,rfl,rfl,hD9,hl9,rfl⟩) (λ_ s10 h10=>?_) λ_ _ f=>False.elim f
   obtain⟨_,H10,I10,_,rfl⟩:=h10
   refine⟨m',hm',i+1,some y7,_,ys++[y9],I10.unpinned,T.keep _ _ _ st7 λb hb o eb=>(I10.pin (b,o) (List.mem_append_right _ (List.mem_append_right _ (zc4 hb eb)))).1,λb hb=>?_,w9⟩
   obtain⟨o,eb,d⟩:=T.obj _ _ st7 b hb
   exact(I10.pin (b,o) (List.mem_append_right _ (List.mem_append_right _ (zc4 hb eb)))).2.1
 subst hs3
 have fin':=codeAny_compStart_list (loop _ rfl) (T.self X.A 0 _ _ _ st4 (loop _ rfl))
 exact fin'
theorem zbQ (hc:X.calm=true) (hkind:scope.kind=.function) (hcell:∀ y∈scope.names,y.2≠.cell) (hnames:∀ y∈scope.names,y.2=.local→scope.names.lookup y.1=some .local) (hx:scope.names.lookup x=some .local)
  (hclo:X.Ok→∃ cl,Clo X scope cl) (hN:N'.Nodup) (hN0:N'[0]?=some x) (hlen:N'.length=ix.length+1)
  (hix:∀(j i:Nat),ix[j]?=some i→∃ y,X.N[i]?=some y∧N'[j+1]?=some y∧(X.env.kindOf y=some .cell∨X.env.kindOf y=some .free)∧((relabel scope X.env).names.lookup y=some .cell∨(relabel scope X.env).names.lookup y=some .free))
  (hi:PI X (.Name x px) iter wi) (he:∀ cl fp s₃ H₃,PE (zaN X N' scope cl fp s₃ H₃) elt te) (hs:∀ v,foldedSetIterable iter X.env v=pure v:=by intro _;rfl) :
  PE X (.ListComp elt [⟨.Name x px,iter,[],0⟩] scope pos) (tLC wi ix te):=by
 intro pins s σ H Q I h
 rw[eval_ListComp]
 refine zjZ hc hkind hcell hnames hx hclo hN hN0 hlen hix hi he hs I h λcl fp s3 s6 H3 H5 σ6 D I3 I6 f3 q=>?_
 obtain⟨m,hn,_⟩:=I6.loc
 exact⟨m,hn,λh' hsb=>⟨.ref D,H5,zhe I3 I6 f3 hsb,rfl,q⟩⟩
end
end L2
namespace L2
open PySem PySem.Spec PyProof.Rows
section
variable {X:Cx} {e l:Expr} {es:List Expr} {te tl:TE} {pos:Pos} {tg:Expr}
def tFmt (te:TE):TE:=λσ H Q=>te σ H λx H1=>(∃ z,x=.str z∧z.length≤sizeLine∧Q (.str z) H1)∨∃ i:Int,x=.int i∧i.natAbs.log2 < 1920∧Q (.str (toString i)) H1
theorem zfx (he:PE X e te):PE X (.FormattedValue e (-1) none pos) (tFmt te):=by
 intro pins s σ H Q I h
 refine FormattedValue_plain (thn (he pins s σ H _ I h) λv s1 ⟨x,H1,I1,r1,q1⟩=>?_)
 rcases q1 with ⟨z,rfl,hz,q⟩ | ⟨i,rfl,hi,q⟩
 ·obtain⟨t,rfl⟩:=r1
  exact formatField_str (λt' tk=>⟨.str z,H1,I1.tok _,⟨_,rfl⟩,q⟩) hz
 ·obtain⟨t,rfl⟩:=r1
  exact formatField_int_small hi ⟨.str _,H1,I1.tok _,⟨_,rfl⟩,q⟩
def tRepr (te:TE):TE:=λσ H Q=>te σ H λx H1=>∃ z,x=.str z∧(reprText z).length≤sizeLine∧Q (.str (reprText z)) H1
theorem pe_fvr (he:PE X e te):PE X (.FormattedValue e 114 none pos) (tRepr te):=by
 intro pins s σ H Q I h
 refine wpAny_FormattedValue_repr (thn (he pins s σ H _ I h) λv s1 ⟨x,H1,I1,r1,q1⟩=>?_)
 obtain⟨z,rfl,hz,q⟩:=q1
 obtain⟨t,rfl⟩:=r1
 refine wpAny_pyReprObj_str ?_ hz
 exact formatField_str (λt' tk=>⟨.str (reprText z),H1,I1.tok _,⟨_,rfl⟩,q⟩) hz
abbrev TJ:=St→Hp→Str→(Str→Hp→Prop)→Prop
def PJ (X:Cx) (es:List Expr) (t:TJ):Prop :=
 ∀(pins:List (Addr × Obj)) (s:Shared) (σ:St) (H:Hp) (acc:Str) (Q:Str→Hp→Prop) (R:Str→Shared→Prop),Inv X pins σ H s→t σ H acc Q→(∀ out s1 H1,Inv X pins σ H1 s1→Q out H1→R out s1)→Joins (model X.prog X.w) X.A X.xe (evalEach es X.env) acc R s
def jNil:TJ:=λ_ H acc Q=>Q acc H
def jCons (te:TE) (t:TJ):TJ:=λσ H acc Q=>te σ H λx H1=>∃ y,x=.str y∧(acc++y).length≤sizeLine∧t σ H1 (acc++y) Q
theorem zes:PJ X [] jNil:=λ_ _ _ _ _ _ _ I h k=>k _ _ _ I h
theorem za1 {t:TJ} (he:PE X e te) (hr:PJ X es t):PJ X (e :: es) (jCons te t):=by
 intro pins s σ H acc Q R I h k
 refine thn (he pins s σ H _ I h) λv s1 ⟨x,H1,I1,r1,q1⟩=>?_
 obtain⟨y,rfl,hz,q⟩:=q1
 obtain⟨t,rfl⟩:=r1
 exact⟨y,_,rfl,hz,hr pins s1 σ H1 _ Q R I1 q k⟩
def zmN (t:TJ):TE:=λσ H Q=>t σ H Str.empty λout H1=>out.length≤sizeLine∧Q (.str out) H1
theorem zcR {v1 v2:Expr} {t:TJ} (h:PJ X (v1 :: v2 :: es) t):PE X (.JoinedStr (v1 :: v2 :: es) pos) (zmN t):=by
 intro pins s σ H Q I hw
 exact wpAny_JoinedStr (h pins s σ H _ _ _ I hw λout s1 H1 I1 q=>⟨q.1,.str out,H1,I1.tok _,⟨_,rfl⟩,q.2⟩)
def iSeq (K:W.Frag) (tl:TE):TI:=λσ H R=>tl σ H λx H1=>∃ a,x=.ref a∧(((∃ xs,SqL K H1 a xs)∧R (Itl K a) H1)∨((∃ xs,SqT K H1 a xs)∧R (Itt K a) H1))
theorem zhn (hl:PE X l tl):PI X tg l (iSeq X.K tl):=by
 intro pins s σ H R I h
 refine thn (hl pins s σ H _ I h) λv s1 ⟨x,H1,I1,r1,q1⟩=>?_
 obtain⟨a,rfl,q⟩:=q1
 cases r1
 have fp:∀ b∈[s1.heap.objs.size],zcv X pins H1 b:=λb hb=>by
  have e:b=s1.heap.objs.size:=by simpa using hb
  subst e
  exact I1.fpOk (nRq _) (I1.hok.fresh (nRq _))
 rcases q with ⟨⟨xs,hq⟩,q⟩ | ⟨⟨xs,hq⟩,q⟩
 ·obtain⟨its,rv,p,hz⟩:=I1.list hq
  refine wpAny_pyIter_list p.isList ?_
  exact⟨s1.heap.objs.size,[s1.heap.objs.size],_,_,H1,rfl,I1.kept (t':=s1.toks) λb o e=>hG _ e,zf4 a _,⟨_,Heap.get?_push_size _ rfl,rfl,rfl⟩,fp,q⟩
 ·obtain⟨its,rv,p,hz⟩:=I1.tuple hq
  refine wpAny_pyIter_tuple (show s1.heap.IsTuple a its.toArray from p) ?_
  exact⟨s1.heap.objs.size,[s1.heap.objs.size],_,_,H1,rfl,I1.kept (t':=s1.toks) λb o e=>hG _ e,zfG a _,⟨_,Heap.get?_push_size _ rfl,rfl,rfl⟩,fp,q⟩
end
theorem zhf {env:Env}:∀(l:List (Str × NameKind)) (acc:List (Str × Addr)),(∀ y∈l,y.2=.free→∃ c,env.cells.lookup y.1=some c) →
  ∃ cl,(forIn l acc (λ(y:Str × NameKind) cs=>if(y.2 == NameKind.free)=true then do let c ←cellOf env y.1;pure (ForInStep.yield ((y.1,c) :: cs)) else pure (ForInStep.yield cs)):Sem (List (Str × Addr)))=pure cl ∧
   (∀ y c,cl.lookup y=some c→acc.lookup y=some c∨env.cells.lookup y=some c)∧∀ y,((y,NameKind.free)∈l∨∃ c,acc.lookup y=some c)→∃ c,cl.lookup y=some c
 | [],acc,_=>⟨acc,rfl,λ_ _ h=>.inl h,λy h=>h.elim (λz=>by cases z) λz=>z⟩
 | (n,k) :: r,acc,hf=>by
  by_cases hk:k=.free
  ·subst hk
   obtain⟨c,hc⟩:=hf (n,.free) List.mem_cons_self rfl
   obtain⟨cl,e1,e2,e3⟩:=zhf r ((n,c) :: acc) λy hy=>hf y (List.mem_cons_of_mem _ hy)
   refine⟨cl,?_,λy d h=>?_,λy h=>?_⟩
   ·rw[List.forIn_cons]
    have ec:cellOf env n=pure c:=by unfold cellOf;rw[show env.cells.lookup n=some c from hc]
    have eb:(NameKind.free == NameKind.free)=true:=rfl
    simp only[eb,if_true,ec,pure_bind]
    exact e1
   ·rcases e2 y d h with z | z
    ·by_cases hy:y=n
     ·subst hy
      rw[List.lookup_cons,beq_self_eq_true]at z
      cases z
      exact .inr hc
     ·rw[List.lookup_cons,beq_eq_false_iff_ne.mpr hy]at z
      exact .inl z
    ·exact .inr z
   ·refine e3 y ?_
    by_cases hy:y=n
    ·subst hy
     exact .inr ⟨c,by rw[List.lookup_cons,beq_self_eq_true]⟩
    ·rcases h with z | ⟨d,z⟩
     ·rcases List.mem_cons.mp z with z | z
      ·exact absurd (congrArg Prod.fst z) hy
      ·exact .inl z
     ·exact .inr ⟨d,by rw[List.lookup_cons,beq_eq_false_iff_ne.mpr hy];exact z⟩
  ·obtain⟨cl,e1,e2,e3⟩:=zhf r acc λy hy=>hf y (List.mem_cons_of_mem _ hy)
   refine⟨cl,?_,e2,λy h=>e3 y ?_⟩
   ·rw[List.forIn_cons]
    have hb:(k == NameKind.free)=false:=by simpa using hk
    simp only[hb,Bool.false_eq_true,if_false,pure_bind]
    exact e1
   ·rcases h with z | z
    ·rcases List.mem_cons.mp z with z | z
     ·exact absurd (congrArg Prod.snd z).symm hk
     ·exact .inl z
    ·exact .inr z
theorem zdA {X:Cx} {scope sc:Scope} (ok:X.Ok) (hsc:X.env.scope=sc) (hcell:∀ x∈scope.names,x.2≠.cell)
  (hf:∀ y∈scope.names,y.2=.free→sc.names.lookup y.1=some .cell∨sc.names.lookup y.1=some .free):∃ cl,Clo X scope cl:=by
 obtain⟨cl,e1,e2,e3⟩:=zhf (env:=X.env) scope.names [] λy hy h=>ok.has y.1 (by
  show X.env.scope.names.lookup y.1=_∨X.env.scope.names.lookup y.1=_
  rw[hsc]
  exact hf y hy h)
 refine⟨cl,?_,λy c h=>(e2 y c h).elim (λz=>by cases z) λz=>z,λy h=>e3 y (.inl ?_)⟩
 ·unfold closureFor
  have e0:(forIn scope.names ([]:List (Str × Addr)) (λ(x:Str × NameKind) cs=>match x with
    | (name,kind)=>if(kind == NameKind.free)=true then do let c ←cellOf X.env name;pure (ForInStep.yield ((name,c) :: cs)) else pure (ForInStep.yield cs)):Sem (List (Str × Addr)))=pure cl:=e1
  show(forIn scope.names ([]:List (Str × Addr)) _ >>= λz=>pure z)=pure cl
  rw[bind_pure]
  exact e0
 ·have m:∃ k,(k=.cell∨k=.free)∧(y,k)∈(relabel scope X.env).names:=by
   rcases h with h | h
   ·exact⟨_,.inl rfl,PySem.mem_of_lookup h⟩
   ·exact⟨_,.inr rfl,PySem.mem_of_lookup h⟩
  obtain⟨k,hk,hm⟩:=m
  unfold relabel at hm
  obtain⟨⟨n0,k0⟩,h0,ez⟩:=List.mem_map.mp hm
  by_cases hc:(k0 == NameKind.free&&X.env.scope.kind == .function&&X.env.kindOf n0 == some .cell)=true
  ·dsimp only at ez
   rw[if_pos hc]at ez
   have en:n0=y:=congrArg Prod.fst ez
   have ef:k0=.free:=by
    rw[Bool.and_eq_true,Bool.and_eq_true]at hc
    simpa using hc.1.1
   rw[en,ef]at h0
   exact h0
  ·dsimp only at ez
   rw[if_neg hc]at ez
   have en:n0=y:=congrArg Prod.fst ez
   have ek:k0=k:=congrArg Prod.snd ez
   rw[en,ek]at h0
   rcases hk with z | z
   ·exact absurd z (hcell _ h0)
   ·rw[z]at h0
    exact h0
def tLCI (wi:TI) (ix:List Nat) (tc:TT) (te:TE):TE:=λσ H Q=>wi σ H λJ H1=>∀ D,H1 D=none →
 ∃ W:Nat→Nat→List V→Hp→Prop,(∃ m,W 0 m [] (upd H1 D (.lst []))) ∧
  ∀ i m ys H',W i m ys H'→H' D=some (.lst ys) ∧
   ((J.stop i H'∧Q (.ref D) H')∨(J.go i H'∧∀ x H'',J.yld i H' x H''→tc (some x :: fvs σ ix) H'' λb H3 =>
    if b=true then te (some x :: fvs σ ix) H3 λy H4=>H4 D=some (.lst ys)∧ys.length < sizeLine∧∃ m',m' < m∧W (i+1) m' (ys++[y]) (upd H4 D (.lst (ys++[y])))
    else ∃ m',m' < m∧W (i+1) m' ys H3))
theorem zjr {prog:Program} {w:World} {A:Around} {R:Result→Shared→Prop} {s:Shared} {elt target iter c:Expr} {scope:Scope} {pos:Pos} {it acc:Value} {env:Env} (J:Nat→Shared→Prop)
  (step:∀ n s,J n s→wpAny (model prog w) A (pyNext it) (λr s1=>match r with
   | none=>R (.ok .next) s1
   | some v=>wpAny (model prog w) A (letOwnedTupleGo target it v) (λ_ s2=>wpAny (model prog w) A (assign target env v) (λ_ s3=>wpAny (model prog w) A (isTrue c env (eval c env)) (λb s4=>if b=true then wpAny (model prog w) A (eval elt env) (λx s5 =>
     wpAny (model prog w) A (call (.builtin "list.append") [acc,x]) (λ_ s6=>∃ m,m < n∧J m s6) (notedBy (model prog w) A env λe s'=>R (.error e) s') s5) (notedBy (model prog w) A env λe s'=>R (.error e) s') s4
     else ∃ m,m < n∧J m s4) (notedBy (model prog w) A env λe s'=>R (.error e) s') s3)
     (notedBy (model prog w) A env λe s'=>R (.error e) s') s2) (notedBy (model prog w) A env λe s'=>R (.error e) s') s1) (notedBy (model prog w) A env λe s'=>R (.error e) s') s)
  (n:Nat) (h0:J n s):codeAny (model prog w) A (.compLoop (.ListComp elt [⟨target,iter,[c],0⟩] scope pos) 0 it acc env) R s:=by
 refine codeAny_loop rfl J (λn s hJ=>?_) n h0
 show wpAny _ A ((compTurn (.ListComp elt [⟨target,iter,[c],0⟩] scope pos) 0 it acc env).onRaise (λx=>do noteFrame x env;theTreesLotGoes x)) _ _ s
 refine wpAny_noted ?_
 rw[compTurn_list]
 refine wpAny_bind (wpAny_standAt (wpAny_bind (wpAny_mono (step n s hJ) (λr s1 h1=>?_) λ_ _ z=>z)))
 cases r with
 | none=>exact wpAny_pure h1
 | some v =>
  refine wpAny_bind (wpAny_mono h1 (λ_ s2 h2=>?_) λ_ _ z=>z)
  refine wpAny_bind (wpAny_mono h2 (λ_ s3 h3=>?_) λ_ _ z=>z)
  refine wpAny_bind ?_
  rw[List.forIn_cons]
  refine wpAny_bind ?_
  rw[if_pos rfl]
  refine wpAny_bind (wpAny_mono h3 (λb s4 h4=>wpAny_pure ?_) λ_ _ z=>z)
  show wpAny _ A (forIn ([]:List Expr) b _) _ _ s4
  rw[List.forIn_nil]
  refine wpAny_pure ?_
  cases b with
  | false=>exact wpAny_pure ⟨rfl,h4⟩
  | true=>exact wpAny_bind (wpAny_bind (wpAny_mono h4 (λx s5 h5=>wpAny_bind (wpAny_mono h5 (λ_ s6 h6=>wpAny_pure (wpAny_pure ⟨rfl,h6⟩)) λ_ _ z=>z)) λ_ _ z=>z))
section
variable {X:Cx} {N':List Str} {scope:Scope} {elt iter c:Expr} {x:Str} {px pos:Pos} {wi:TI} {tc:TT} {te:TE} {ix:List Nat}
theorem ziI (hc:X.calm=true) (hkind:scope.kind=.function) (hcell:∀ y∈scope.names,y.2≠.cell) (hnames:∀ y∈scope.names,y.2=.local→scope.names.lookup y.1=some .local) (hx:scope.names.lookup x=some .local)
  (hclo:X.Ok→∃ cl,Clo X scope cl) (hN:N'.Nodup) (hN0:N'[0]?=some x) (hlen:N'.length=ix.length+1)
  (hix:∀(j i:Nat),ix[j]?=some i→∃ y,X.N[i]?=some y∧N'[j+1]?=some y∧(X.env.kindOf y=some .cell∨X.env.kindOf y=some .free)∧((relabel scope X.env).names.lookup y=some .cell∨(relabel scope X.env).names.lookup y=some .free))
  (hi:PI X (.Name x px) iter wi) (ht:∀ cl fp s₃ H₃,PT (zaN X N' scope cl fp s₃ H₃) c tc) (he:∀ cl fp s₃ H₃,PE (zaN X N' scope cl fp s₃ H₃) elt te) (hs:∀ v,foldedSetIterable iter X.env v=pure v:=by intro _;rfl) :
  PE X (.ListComp elt [⟨.Name x px,iter,[c],0⟩] scope pos) (tLCI wi ix tc te):=by
 intro pins s σ H Q I h
 obtain⟨cl,C⟩:=hclo I.ok
 rw[eval_ListComp]
 refine wpAny_comprehension_free (use:=none) rfl hs C.eq hkind hnames (thn (hi pins s σ H _ I h) λv s1 h1=>thn h1 λitv s2 h2=>?_)
 obtain⟨it,fp,tn,J,H2,e,I2,T,st2,f2,q2⟩:=h2
 subst e
 have hD:H2 s2.heap.objs.size=none:=I2.fresh
 obtain⟨W,⟨m0,w0⟩,turn⟩:=q2 s2.heap.objs.size hD
 refine wpAny_newObj_type (wpAny_newFunctionEnv hcell (by intro y hy;simp at hy) (λh₁ hns₁ hsb₁=>?_) hkind)
 dsimp only at hns₁ hsb₁ ⊢
 have I3:Inv X pins σ (upd H2 s2.heap.objs.size (.lst [])) { s2 with heap:=s2.heap.push { cls:=.type "list",data:=.seq ([]:List Value).toArray },toks:=s2.toks }:=I2.lnew .nil (Nat.zero_le _)
 generalize hs3:({ s2 with heap:=s2.heap.push { cls:=.type "list",data:=.seq ([]:List Value).toArray },toks:=s2.toks }:Shared)=s3 at I3
 have e3:s3.heap=s2.heap.push { cls:=.type "list",data:=.seq ([]:List Value).toArray }:=by rw[←hs3]
 generalize hDD:s2.heap.objs.size=D at *
 generalize hH3:upd H2 D (.lst [])=H3 at *
 have lt2:∀ b∈fp,b < s2.heap.objs.size:=λb hb=>by
  obtain⟨o,ho,_⟩:=T.obj 0 _ st2 b hb
  exact hLq ho
 have neD:∀ b∈fp,b≠D:=λb hb=>by rw[←hDD];exact Nat.ne_of_lt (lt2 b hb)
 have f3:∀ b∈fp,zcv X pins H3 b:=λb hb=>⟨by rw[←hH3,aD (neD b hb)];exact(f2 b hb).1,(f2 b hb).2⟩
 have sz3:s3.heap.objs.size=D+1:=by rw[e3,Heap.size_push,hDD]
 have lt3:∀ b∈fp,b < s3.heap.objs.size:=λb hb=>by have q:=lt2 b hb;rw[sz3];rw[hDD]at q;exact Nat.lt_succ_of_lt q
 have old:∀ b o,s3.heap.get? b=some o→h₁.get? b=some o:=λb o eb=>by
  have hb:b < D+1:=by rw[←sz3];exact hLq eb
  refine hsb₁.extBut b o ?_ (hG _ (by rw[←e3];exact eb))
  rw[Heap.size_push,hDD]
  exact Nat.ne_of_lt hb
 have szC:(s2.heap.push { cls:=.type "list",data:=.seq ([]:List Value).toArray }).objs.size=s3.heap.objs.size:=by rw[e3]
 rw[szC]at hns₁ hsb₁
 have I4:Inv (zaN X N' scope cl fp s3 H3) [] (none :: fvs σ ix) H3 { s3 with heap:=h₁,toks:=s2.toks+([]:List (Str × Value)).length }:=zhA I3 C hkind f3 lt3 hlen hix hns₁ old
 have st4:tn 0 h₁:=T.keep 0 _ _ st2 λb hb o eb=>old b o (by rw[e3];exact hG _ eb)
 have stat:∀ {H':Hp},(∀ b∈fp,H' b=none)→∀ b∈fp,zcv (zaN X N' scope cl fp s3 H3) [] H' b:=λhn b hb =>
  ⟨hn b hb,Nat.ne_of_lt (lt3 b hb),λhs'=>(zfm (N':=N') I3 C hkind f3 lt3).exfs b hb hs',.inl hb,λy c hy=>((zfm (N':=N') I3 C hkind f3 lt3).exf b hb).2 y c hy,λp hp=>absurd (show p∈([]:List (Addr × Obj)) from hp) (by simp)⟩
 have loop:∀ s4:Shared,s4={ s3 with heap:=h₁,toks:=s2.toks+([]:List (Str × Value)).length } →
   codeAny (model X.prog X.w) X.A (.compLoop (.ListComp elt [⟨.Name x px,iter,[c],0⟩] scope pos) 0 (.ref it) (.ref D) (compEnvC scope cl s3.heap.objs.size X.env))
    (compPost (model X.prog X.w) X.A X.xe none (EP X pins σ Q) (.ref D) s3.heap.objs.size) s4:=by
  rintro s4 rfl
  refine zjr (λn s'=>∃ i σ0 H' ys,Inv (zaN X N' scope cl fp s3 H3) [] (σ0 :: fvs σ ix) H' s'∧tn i s'.heap∧(∀ b∈fp,H' b=none)∧W i n ys H') ?_ m0 ⟨0,none,H3,[],I4,st4,λb hb=>(f3 b hb).1,w0⟩
  rintro n s5 ⟨i,σ0,H5,ys,I5,st5,fr5,w5⟩
  obtain⟨hD5,alt⟩:=turn i n ys H5 w5
  rcases alt with ⟨stop,q⟩ | ⟨go,step⟩
  ·refine thn (T.done (zaN X N' scope cl fp s3 H3) rfl rfl rfl hc i [] s5 _ H5 _ I5 (stat fr5) st5 stop) λr s6 ⟨hr,I6⟩=>?_
   subst hr
   obtain⟨m,hn,_⟩:=I6.loc
   exact⟨m,hn,λh' hsb=>⟨.ref D,H5,zhe I3 I6 f3 hsb,rfl,q⟩⟩
  ·refine thn (T.item (zaN X N' scope cl fp s3 H3) rfl rfl rfl hc i [] s5 _ H5 _ I5 (stat fr5) st5 go) λr s6 ⟨u,hr,h6⟩=>?_
   subst hr
   refine thn h6 λ_ s7 ⟨y7,H7,I7,r7,yl7,st7,fr7⟩=>?_
   have I7':=I7.pinned (stat fr7) (T.obj _ _ st7)
   have G:PG (zaN X N' scope cl fp s3 H3) (.Name x px) (zcl 0):=zaj hN hN0 (.inl (lookup_relabel_local hx)) (.inr (lookup_relabel_local hx))
   refine wpAny_mono (G _ s7 _ H7 y7 u (λσ' H'=>σ'=some y7 :: fvs σ ix∧H'=H7) I7' r7 ⟨rfl,rfl⟩) (λ_ s8 h8=>?_) λ_ _ f=>False.elim f
   obtain⟨σ8,H8,I8,rfl,rfl⟩:=h8
   have fin:∀ {σ9:Option V} {H9:Hp} {s9:Shared} {zs:List V} {m':Nat},Inv (zaN X N' scope cl fp s3 H3) ([]++zfX fp s7.heap) (σ9 :: fvs σ ix) H9 s9→m' < n→W (i+1) m' zs H9→∃ m,m < n∧∃ i σ0 H' ys,Inv (zaN X N' scope cl fp s3 H3) [] (σ0 :: fvs σ ix) H' s9∧tn i s9.heap∧(∀ b∈fp,H' b=none)∧W i m ys H':=λ{σ9 H9 s9 zs m'} I9 hm' w9=>by
    refine⟨m',hm',i+1,σ9,H9,zs,I9.unpinned,T.keep _ _ _ st7 λb hb o eb=>(I9.pin (b,o) (List.mem_append_right _ (List.mem_append_right _ (zc4 hb eb)))).1,λb hb=>?_,w9⟩
    obtain⟨o,eb,d⟩:=T.obj _ _ st7 b hb
    exact(I9.pin (b,o) (List.mem_append_right _ (List.mem_append_right _ (zc4 hb eb)))).2.1
   refine wpAny_mono (ht cl fp s3 H3 _ s8 _ H8 _ I8 (step y7 H8 yl7)) (λb s9 h9=>?_) λ_ _ f=>False.elim f
   obtain⟨H9,I9,q9⟩:=h9
   cases b with
   | false =>
    obtain⟨m',hm',w9⟩:=q9
    exact fin I9 hm' w9
   | true =>
    refine wpAny_mono (he cl fp s3 H3 _ s9 _ H9 _ I9 q9) (λyv s10 h10=>?_) λ_ _ f=>False.elim f
    obtain⟨y10,H10,I10,r10,hD10,hl10,m',hm',w10⟩:=h10
    refine wpAny_mono (za5 (X:=zaN X N' scope cl fp s3 H3) _ s10 _ H10 (.ref D) [y10] (.ref D) [yv] (λ_ H'=>H'=upd H10 D (.lst (ys++[y10]))) I10 rfl (.cons r10 .nil) ⟨D,ys,y10,rfl,rfl,hD10,hl10,rfl⟩) (λ_ s11 h11=>?_) λ_ _ f=>False.elim f
    obtain⟨_,H11,I11,_,rfl⟩:=h11
    exact fin I11 hm' w10
 subst hs3
 have fin:=codeAny_compStart_list (loop _ rfl) (T.self X.A 0 _ _ _ st4 (loop _ rfl))
 exact fin
end
end L2
namespace L2
open PySem PySem.Spec PyProof.Rows
theorem Inv.skip {X:Cx} {pins:List (Addr × Obj)} {σ:St} {H:Hp} {s:Shared} {h':Heap} {C:Addr} (I:Inv X pins σ H s) (hs:Heap.SameBut C s.heap h') (hC:X.s₀.heap.objs.size≤C) (hl:C≠X.env.locals) (hcl:∀ x c,X.env.cells.lookup x=some c→c≠C) (hp:∀ p∈X.pn++pins,p.1≠C) (hf:H C=none) :
  Inv X pins σ H { s with heap:=h' }:=by
 have eq:∀ b,b≠C→h'.get? b=s.heap.get? b:=λb hb=>hs.2 b hb
 have nm:∀ {b:Addr},b∉[C]→b≠C:=λh z=>h (by rw[z];exact List.mem_cons_self)
 have u:Un (frs X.stack) [C] H H s.heap h':=⟨λb o e _ _ h2=>(eq b (nm h2)).trans e,λb o e _ _ h2=>⟨o.slots,(eq b (nm h2)).trans e⟩,λb o e n _=>n,λb o e h1=>⟨o,(eq b (nm h1)).trans e⟩,λ_ _ q=>q,λ_ _ _ q=>q,λ_ ps q=>⟨#[],by rw[q];simp⟩⟩
 have hok:HOk X.prog X.w H h':=λb ob e=>by
  refine(I.hok b ob e).stay (λc w' hq q=>(eq c ?_).trans q) (λ_ q=>q) λ_ _ q=>q
  rintro rfl
  rcases hq with z | z
  ·rw[←z,hf]at e;cases e
  ·rw[hf]at z;cases z
 refine I.call' (s':={ s with heap:=h' }) (ch:=[C]) rfl u hok I.bare λb hb=>?_
 have e:b=C:=mSq hb
 subst e
 exact⟨.inr hC,hl,hcl,hp⟩
section
variable {X:Cx} {N':List Str} {scope:Scope} {elt iter:Expr} {x:Str} {px pos:Pos} {wi:TI} {te:TE} {ix:List Nat}
theorem zg6 {i:Nat} {y0:Str} {py spos:Pos} (hNy:X.N.Nodup) (hiy:X.N[i]?=some y0) (hy:Loc X.env.scope y0) (hc:X.calm=true) (hkind:scope.kind=.function) (hcell:∀ y∈scope.names,y.2≠.cell) (hnames:∀ y∈scope.names,y.2=.local→scope.names.lookup y.1=some .local) (hx:scope.names.lookup x=some .local)
  (hclo:X.Ok→∃ cl,Clo X scope cl) (hN:N'.Nodup) (hN0:N'[0]?=some x) (hlen:N'.length=ix.length+1)
  (hix:∀(j i:Nat),ix[j]?=some i→∃ y,X.N[i]?=some y∧N'[j+1]?=some y∧(X.env.kindOf y=some .cell∨X.env.kindOf y=some .free)∧((relabel scope X.env).names.lookup y=some .cell∨(relabel scope X.env).names.lookup y=some .free))
  (hi:PI X (.Name x px) iter wi) (he:∀ cl fp s₃ H₃,PE (zaN X N' scope cl fp s₃ H₃) elt te) (hsw:swapsWith (.ListComp elt [⟨.Name x px,iter,[],0⟩] scope pos) (some (.Name y0 py)) spos.line X.env=pure true:=by rfl)
  (hf:X.fn y0=true∨X.env.scope.names.lookup y0=some .local:=by first | exact .inl rfl | exact .inr rfl | assumption) (hs:∀ v,foldedSetIterable iter X.env v=pure v:=by intro _;rfl) :
  PS X (.Assign [.Name y0 py] (.ListComp elt [⟨.Name x px,iter,[],0⟩] scope pos) spos) (tAsg (tLC wi ix te) (zcl i)):=by
 intro pins s σ H Dn I h
 rw[exec_Assign_Name_used _ _ _ _ hsw]
 refine wpAny_bind (wpAny_standAt (wpAny_bind ?_))
 rw[arm_evalThenUse_ListComp]
 refine wpAny_bind (wpAny_mono (zjZ (use:=some (assign (.Name y0 py) X.env)) (Qf:=λ_ s'=>∃ σ' H',Inv X pins σ' H' s'∧Dn.nx σ' H') (Q:=λx H1=>zcl i x σ H1 Dn.nx) hc hkind hcell hnames hx hclo hN hN0 hlen hix hi he hs I h λcl fp s3 s6 H3 H5 σ6 D I3 I6 f3 q=>?_) (λ_ s' h'=>wpAny_pure (wpAny_pure h')) λ_ _ z=>z)
 obtain⟨m,hn,_⟩:=I6.loc
 have Io:Inv X pins σ H5 s6:=zhe (h':=s6.heap) I3 I6 f3 ⟨rfl,λ_ _=>rfl⟩
 refine wpAny_assign_Name (zhZ (v:=.ref D) Io hNy hiy hy rfl (λs7 I7 ⟨a,sb,ha⟩=>?_) hf)
 have ltC:∀ x c,X.env.cells.lookup x=some c→c < s3.heap.objs.size:=λx c e=>by
  obtain⟨v,hv⟩:=I3.cell x c e
  exact hv.lt
 have hCa:s3.heap.objs.size≠a:=by
  rintro rfl
  rcases ha with z | z
  ·exact absurd I3.lt (by rw[←z];exact Nat.lt_irrefl _)
  ·exact absurd (ltC _ _ z) (Nat.lt_irrefl _)
 refine⟨m,hn.sameBut sb hCa,λh' hsb=>⟨_,H5,?_,q⟩⟩
 exact I7.skip hsb I3.sz (Nat.ne_of_gt I3.lt) (λx c e=>Nat.ne_of_lt (ltC x c e)) (λp hp=>Nat.ne_of_lt (hLq (I3.pin p hp).1)) I6.free
end
section
variable {X:Cx} {N':List Str} {scope:Scope} {elt iter c:Expr} {x:Str} {px pos:Pos} {wi:TI} {tc:TT} {te:TE} {ix:List Nat}
end
end L2
namespace L2
open PySem PySem.Spec PyProof.Rows
inductive Dt where
 | non | bl (b:Bool) | int (i:Int) | str (x:Str) | tup (xs:List Dt) | lst (xs:List Dt)
mutual
def peq:Dt→Dt→Bool
 | .non,.non=>true
 | .bl a,.bl b=>a == b
 | .bl a,.int b=>(if a then 1 else 0) == b
 | .int a,.bl b=>a == (if b then 1 else 0)
 | .int a,.int b=>a == b
 | .str a,.str b=>a == b
 | .tup xs,.tup ys=>zbJ xs ys
 | .lst xs,.lst ys=>zbJ xs ys
 | _,_=>false
def zbJ:List Dt→List Dt→Bool
 | [],[]=>true
 | x :: xs,y :: ys=>peq x y&&zbJ xs ys
 | _,_=>false
end
mutual
def dep:Dt→Nat
 | .tup xs=>zaA xs+1
 | .lst xs=>zaA xs+1
 | _=>0
def zaA:List Dt→Nat
 | []=>0
 | x :: xs=>max (dep x) (zaA xs)
end
mutual
def nob:Dt→Bool
 | .bl _=>false
 | .tup xs=>zdF xs
 | .lst xs=>zdF xs
 | _=>true
def zdF:List Dt→Bool
 | []=>true
 | x :: xs=>nob x&&zdF xs
end
mutual
theorem zbD:∀ d:Dt,peq d d=true
 | .non=>rfl
 | .bl _=>by simp [peq]
 | .int _=>by simp [peq]
 | .str _=>by simp [peq]
 | .tup xs=>by simp only[peq];exact zeY xs
 | .lst xs=>by simp only[peq];exact zeY xs
theorem zeY:∀ d:List Dt,zbJ d d=true
 | []=>by simp [zbJ]
 | x :: xs=>by simp only[zbJ,zbD x,zeY xs,Bool.and_self]
end
mutual
theorem zho:∀ d e:Dt,nob d=true→nob e=true→peq d e=true→d=e
 | .non,e,_,_,h=>by cases e <;> first | rfl | (simp [peq]at h)
 | .bl _,e,h,_,_=>by simp [nob]at h
 | .int _,e,_,h2,h=>by cases e <;> first | (simp [nob]at h2;done) | (simp [peq]at h;done) | (simp [peq]at h;rw[h])
 | .str _,e,_,h2,h=>by cases e <;> first | (simp [peq]at h;done) | (simp [peq]at h;rw[h])
 | .tup xs,e,h1,h2,h=>by
  cases e with
  | tup ys=>simp only[peq]at h;simp only[nob]at h1 h2;rw[zgy xs ys h1 h2 h]
  | _=>simp [peq]at h
 | .lst xs,e,h1,h2,h=>by
  cases e with
  | lst ys=>simp only[peq]at h;simp only[nob]at h1 h2;rw[zgy xs ys h1 h2 h]
  | _=>simp [peq]at h
theorem zgy:∀ d e:List Dt,zdF d=true→zdF e=true→zbJ d e=true→d=e
 | [],e,_,_,h=>by cases e <;> first | rfl | (simp [zbJ]at h)
 | x :: xs,e,h1,h2,h=>by
  cases e with
  | nil=>simp [zbJ]at h
  | cons y ys =>
   simp only[zbJ,Bool.and_eq_true]at h
   simp only[zdF,Bool.and_eq_true]at h1 h2
   rw[zho x y h1.1 h2.1 h.1,zgy xs ys h1.2 h2.2 h.2]
end
mutual
def Has (K:W.Frag) (H:Hp):Dt→V→Prop
 | .non,v=>v=.non
 | .bl b,v=>v=.bl b
 | .int i,v=>v=.int i
 | .str x,v=>v=.str x
 | .tup ds,v=>∃ a xs,v=.ref a∧SqT K H a xs∧ao K H ds xs
 | .lst ds,v=>∃ a xs,v=.ref a∧SqL K H a xs∧ao K H ds xs
def ao (K:W.Frag) (H:Hp):List Dt→List V→Prop
 | [],vs=>vs=[]
 | d :: ds,vs=>∃ v r,vs=v :: r∧Has K H d v∧ao K H ds r
end
theorem ao.length {K:W.Frag} {H:Hp}:∀ {ds:List Dt} {vs:List V},ao K H ds vs→ds.length=vs.length
 | [],vs,h=>by simp only[ao]at h;rw[h];rfl
 | d :: ds,vs,h=>by
  simp only[ao]at h
  obtain⟨v,r,rfl,_,h2⟩:=h
  rw[List.length_cons,List.length_cons,ao.length h2]
theorem ao.get {K:W.Frag} {H:Hp}:∀ {ds:List Dt} {vs:List V} {i:Nat} {v:V},ao K H ds vs→vs[i]?=some v→∃ d,ds[i]?=some d∧Has K H d v
 | [],vs,i,v,h,e=>by simp only[ao]at h;rw[h]at e;simp at e
 | d :: ds,vs,i,v,h,e=>by
  simp only[ao]at h
  obtain⟨v0,r,rfl,h1,h2⟩:=h
  cases i with
  | zero=>simp at e;subst e;exact⟨d,rfl,h1⟩
  | succ i =>
   obtain⟨d',e1,e2⟩:=ao.get (i:=i) h2 (by simpa using e)
   exact⟨d',by simpa using e1,e2⟩
theorem ao.getD {K:W.Frag} {H:Hp}:∀ {ds:List Dt} {vs:List V} {i:Nat} {d:Dt},ao K H ds vs→ds[i]?=some d→∃ v,vs[i]?=some v∧Has K H d v
 | [],vs,i,d,h,e=>by simp at e
 | d0 :: ds,vs,i,d,h,e=>by
  simp only[ao]at h
  obtain⟨v0,r,rfl,h1,h2⟩:=h
  cases i with
  | zero=>simp at e;subst e;exact⟨v0,rfl,h1⟩
  | succ i =>
   obtain⟨v,e1,e2⟩:=ao.getD (i:=i) h2 (by simpa using e)
   exact⟨v,by simpa using e1,e2⟩
theorem ao.append {K:W.Frag} {H:Hp}:∀ {ds es:List Dt} {vs ws:List V},ao K H ds vs→ao K H es ws→ao K H (ds++es) (vs++ws)
 | [],es,vs,ws,h,h'=>by simp only[ao]at h;rw[h];exact h'
 | d :: ds,es,vs,ws,h,h'=>by
  simp only[ao]at h
  obtain⟨v,r,rfl,h1,h2⟩:=h
  show ao K H (d :: (ds++es)) (v :: (r++ws))
  simp only[ao]
  exact⟨v,r++ws,rfl,h1,ao.append h2 h'⟩
theorem ao.one {K:W.Frag} {H:Hp} {d:Dt} {v:V} (h:Has K H d v):ao K H [d] [v]:=by
 simp only[ao]
 exact⟨v,[],rfl,h,rfl⟩
theorem ao.ints {K:W.Frag} {H:Hp}:∀ ns:List Int,ao K H (ns.map Dt.int) (ns.map V.int)
 | []=>by simp [ao]
 | n :: ns=>by
  simp only[List.map_cons,ao]
  exact⟨_,_,rfl,by simp only[Has],ao.ints ns⟩
mutual
def nol:Dt→Bool
 | .lst _=>false
 | .tup xs=>zbn xs
 | _=>true
def zbn:List Dt→Bool
 | []=>true
 | x :: xs=>nol x&&zbn xs
end
def zam (H H':Hp):Prop:=∀ b xs,Rd H b (.tup xs)→Rd H' b (.tup xs)
theorem zam.sq {K:W.Frag} {H H':Hp} {a:Addr} {xs:List V} (k:zam H H') (h:SqT K H a xs):SqT K H' a xs:=h.elim (λz=>.inl (k a xs z)) .inr
theorem zam.trans {H H1 H2:Hp} (a:zam H H1) (b:zam H1 H2):zam H H2:=λc xs h=>b c xs (a c xs h)
theorem zam.of_same {H H':Hp} (e:ah H H'):zam H H':=λb xs h=>by
 rcases h with h | ⟨o,h⟩
 ·exact .inl (e _ _ h)
 ·exact .inr ⟨o,e _ _ h⟩
theorem zam.lst {H:Hp} {l:Addr} {xs ys:List V} (h:H l=some (.lst xs)):zam H (upd H l (.lst ys)):=λb zs q=>by
 rcases q with q | ⟨o,q⟩
 ·exact .inl (by rw[aD (zb2 q h (λz=>by cases z))];exact q)
 ·exact .inr ⟨o,by rw[aD (zb2 q h (λz=>by cases z))];exact q⟩
mutual
theorem Has.keep {K:W.Frag} {H H':Hp} (k:zam H H'):∀ {d:Dt} {v:V},nol d=true→Has K H d v→Has K H' d v
 | .non,v,_,h=>by simp only[Has]at h ⊢;exact h
 | .bl _,v,_,h=>by simp only[Has]at h ⊢;exact h
 | .int _,v,_,h=>by simp only[Has]at h ⊢;exact h
 | .str _,v,_,h=>by simp only[Has]at h ⊢;exact h
 | .tup ds,v,n,h=>by
  simp only[Has]at h ⊢
  simp only[nol]at n
  obtain⟨a,xs,e,h1,h2⟩:=h
  exact⟨a,xs,e,k.sq h1,ao.keep k n h2⟩
 | .lst _,v,n,h=>by simp [nol]at n
theorem ao.keep {K:W.Frag} {H H':Hp} (k:zam H H'):∀ {ds:List Dt} {vs:List V},zbn ds=true→ao K H ds vs→ao K H' ds vs
 | [],vs,_,h=>by simp only[ao]at h ⊢;exact h
 | d :: ds,vs,n,h=>by
  simp only[ao]at h ⊢
  simp only[zbn,Bool.and_eq_true]at n
  obtain⟨v,r,e,h1,h2⟩:=h
  exact⟨v,r,e,Has.keep k n.1 h1,ao.keep k n.2 h2⟩
end
section
variable {X:Cx} {pins:List (Addr × Obj)} {σ:St} {H:Hp} {s:Shared}
theorem ziU (I:Inv X pins σ H s) {a:Addr} {xs ys:List V} (h:SqL X.K H a xs) (h':SqT X.K H a ys):False:=by
 obtain⟨its,_,p,_⟩:=I.list h
 obtain⟨jts,_,q,_⟩:=I.tuple h'
 obtain⟨o,e,c,_⟩:=p.isList
 obtain⟨o',e',c',_⟩:=q
 rw[e]at e'
 cases e'
 rw[c]at c'
 exact absurd (Value.type.inj c') (by decide)
mutual
theorem Has.inj (I:Inv X pins σ H s):∀(d e:Dt) (v:V),Has X.K H d v→Has X.K H e v→d=e
 | .non,e,v,h,h'=>by
  simp only[Has]at h
  subst h
  cases e <;> simp only[Has]at h' <;> first | rfl | (cases h';done) | (obtain⟨_,_,z,_⟩:=h';cases z)
 | .bl b,e,v,h,h'=>by
  simp only[Has]at h
  subst h
  cases e <;> simp only[Has]at h' <;> first | (cases h';done) | (cases h';rfl) | (obtain⟨_,_,z,_⟩:=h';cases z)
 | .int b,e,v,h,h'=>by
  simp only[Has]at h
  subst h
  cases e <;> simp only[Has]at h' <;> first | (cases h';done) | (cases h';rfl) | (obtain⟨_,_,z,_⟩:=h';cases z)
 | .str b,e,v,h,h'=>by
  simp only[Has]at h
  subst h
  cases e <;> simp only[Has]at h' <;> first | (cases h';done) | (cases h';rfl) | (obtain⟨_,_,z,_⟩:=h';cases z)
 | .tup ds,e,v,h,h'=>by
  simp only[Has]at h
  obtain⟨a,xs,rfl,h1,h2⟩:=h
  cases e with
  | tup es =>
   simp only[Has]at h'
   obtain⟨a',ys,z,h3,h4⟩:=h'
   cases z
   rw[I.tuple_inj h3 h1]at h4
   rw[ao.inj I ds es xs h2 h4]
  | lst es =>
   simp only[Has]at h'
   obtain⟨a',ys,z,h3,h4⟩:=h'
   cases z
   exact(ziU I h3 h1).elim
  | _=>simp only[Has]at h';cases h'
 | .lst ds,e,v,h,h'=>by
  simp only[Has]at h
  obtain⟨a,xs,rfl,h1,h2⟩:=h
  cases e with
  | lst es =>
   simp only[Has]at h'
   obtain⟨a',ys,z,h3,h4⟩:=h'
   cases z
   rw[I.list_inj h3 h1]at h4
   rw[ao.inj I ds es xs h2 h4]
  | tup es =>
   simp only[Has]at h'
   obtain⟨a',ys,z,h3,h4⟩:=h'
   cases z
   exact(ziU I h1 h3).elim
  | _=>simp only[Has]at h';cases h'
theorem ao.inj (I:Inv X pins σ H s):∀(ds es:List Dt) (vs:List V),ao X.K H ds vs→ao X.K H es vs→ds=es
 | [],es,vs,h,h'=>by
  simp only[ao]at h
  subst h
  cases es with
  | nil=>rfl
  | cons e es=>simp only[ao]at h';obtain⟨_,_,z,_⟩:=h';cases z
 | d :: ds,es,vs,h,h'=>by
  simp only[ao]at h
  obtain⟨v,r,rfl,h1,h2⟩:=h
  cases es with
  | nil=>simp only[ao]at h';cases h'
  | cons e es =>
   simp only[ao]at h'
   obtain⟨v',r',z,h3,h4⟩:=h'
   cases z
   rw[Has.inj I d e v h1 h3,ao.inj I ds es r h2 h4]
end
def zcY (ds es:List Dt) (j:Nat):Bool:=match ds[j]?,es[j]? with
 | some d,some e=>peq d e
 | _,_=>true
theorem zkJ (d e:Dt) (ds es:List Dt):zcY (d :: ds) (e :: es) 0=peq d e:=rfl
theorem zgG:∀(ds es:List Dt),((List.range (min ds.length es.length)).all (zcY ds es)&&ds.length == es.length)=zbJ ds es
 | [],[]=>by simp [zbJ]
 | [],e :: es=>by simp [zbJ]
 | d :: ds,[]=>by simp [zbJ]
 | d :: ds,e :: es=>by
  have ih:=zgG ds es
  have e1:min (d :: ds).length (e :: es).length=min ds.length es.length+1:=by simp only[List.length_cons];lia
  rw[e1,List.range_succ_eq_map,List.all_cons,zkJ,List.all_map]
  have e2:(zcY (d :: ds) (e :: es) ∘ Nat.succ)=zcY ds es:=by funext j;rfl
  rw[e2,List.length_cons,List.length_cons]
  simp only[zbJ]
  rw[←ih,Bool.and_assoc]
  congr 2
  simp
theorem zmD {ds es:List Dt} (h:ds.length=es.length):(List.range ds.length).all (zcY ds es)=zbJ ds es:=by
 rw[←zgG,←h,Nat.min_self]
 simp
theorem zma {ds es:List Dt} (h:ds.length≠es.length):zbJ ds es=false:=by
 rw[←zgG]
 have:(ds.length == es.length)=false:=by simpa using h
 rw[this,Bool.and_false]
theorem zcz (I:Inv X pins σ H s) {a:Addr} {xs:List V} {ds:List Dt} (h:SqT X.K H a xs) (g:ao X.K H ds xs):∃ its:List Value,aW xs its∧s.heap.IsTuple a its.toArray∧its.toArray.size=ds.length:=by
 obtain⟨its,r,p,_⟩:=I.tuple h
 exact⟨its,r,p,by rw[sAq,←r.length,←g.length]⟩
theorem zcD (I:Inv X pins σ H s) {a:Addr} {xs:List V} {ds:List Dt} (h:SqL X.K H a xs) (g:ao X.K H ds xs):∃ its:List Value,aW xs its∧s.heap.IsList a its.toArray∧its.toArray.size=ds.length:=by
 obtain⟨its,r,p,_⟩:=I.list h
 exact⟨its,r,p.isList,by rw[sAq,←r.length,←g.length]⟩
def zkg (s:Shared) (A:Around) (ds es:List Dt) (xs ys:List V):Prop :=
 ∀(us zs:List Value),aW xs us→aW ys zs→∀(j:Nat) (u z:Value),us[j]?=some u→zs[j]?=some z→SeqAt.EqAt A.in1 s u z (zcY ds es j)
theorem rcTT (I:Inv X pins σ H s) {A:Around} {a b:Addr} {xs ys:List V} {ds es:List Dt} (h1:SqT X.K H a xs) (g1:ao X.K H ds xs) (h2:SqT X.K H b ys) (g2:ao X.K H es ys) (hu:A.units < cLine)
  (he:zkg s A ds es xs ys):SeqAt.RcAt A s (.ref a) (.ref b) (zbJ ds es)∧SeqAt.RcNeAt A s (.ref a) (.ref b) (!zbJ ds es):=by
 obtain⟨its,r1,p1,z1⟩:=zcz I h1 g1
 obtain⟨jts,r2,p2,z2⟩:=zcz I h2 g2
 have q:∀ j (k1:j < its.toArray.size) (k2:j < jts.toArray.size),SeqAt.EqAt A.in1 s its.toArray[j] jts.toArray[j] (zcY ds es j):=λj k1 k2=>he its jts r1 r2 j _ _ (by simp at k1 ⊢) (by simp at k2 ⊢)
 have t1:=SeqAt.RcAt.tuples (e:=zcY ds es) p1 p2 hu q
 have t2:=SeqAt.RcNeAt.tuples (e:=zcY ds es) p1 p2 hu q
 rw[z1,z2,zgG]at t1 t2
 exact⟨t1,t2⟩
theorem rcLL (I:Inv X pins σ H s) {A:Around} {a b:Addr} {xs ys:List V} {ds es:List Dt} (h1:SqL X.K H a xs) (g1:ao X.K H ds xs) (h2:SqL X.K H b ys) (g2:ao X.K H es ys) (hu:A.units < cLine)
  (he:zkg s A ds es xs ys):SeqAt.RcAt A s (.ref a) (.ref b) (zbJ ds es)∧SeqAt.RcNeAt A s (.ref a) (.ref b) (!zbJ ds es):=by
 obtain⟨its,r1,p1,z1⟩:=zcD I h1 g1
 obtain⟨jts,r2,p2,z2⟩:=zcD I h2 g2
 by_cases hl:ds.length=es.length
 ·have q:∀ j (k1:j < its.toArray.size) (k2:j < jts.toArray.size),SeqAt.EqAt A.in1 s its.toArray[j] jts.toArray[j] (zcY ds es j):=λj k1 k2=>he its jts r1 r2 j _ _ (by simp at k1 ⊢) (by simp at k2 ⊢)
  have t1:=SeqAt.RcAt.lists (e:=zcY ds es) p1 p2 (by rw[z1,z2,hl]) hu q
  have t2:=SeqAt.RcNeAt.lists (e:=zcY ds es) p1 p2 (by rw[z1,z2,hl]) hu q
  rw[z1,zmD hl]at t1 t2
  exact⟨t1,t2⟩
 ·have hne:(its.toArray.size != jts.toArray.size)=true:=by rw[z1,z2];simpa using hl
  rw[zma hl]
  exact⟨SeqAt.RcAt.lists_lengths p1 p2 hne hu,SeqAt.RcNeAt.lists_lengths p1 p2 hne hu⟩
theorem zdI {A:Around} {d:Dt} (h:A.units+dep d < cLine):A.units < cLine:=Nat.lt_of_le_of_lt (Nat.le_add_right _ _) h
mutual
theorem zk8 (I:Inv X pins σ H s):∀(d e:Dt) (v w:V) (u z:Value) (A:Around),Has X.K H d v→Has X.K H e w→aY v u→aY w z→A.units+dep d < cLine→SeqAt.EqAt A s u z (peq d e)
 | .non,e,v,w,u,z,A,h,h',r,r',hu=>by
  have hu':=zdI hu
  simp only[Has]at h
  subst h
  cases e with
  | tup es =>
   simp only[Has]at h'
   obtain⟨b,ys,rfl,h3,h4⟩:=h'
   obtain⟨_,_,p,_⟩:=zcz I h3 h4
   cases (show z=Value.ref b from r')
   cases (show u=Value.none from r)
   exact SeqAt.EqAt.none_tuple p hu'
  | lst es =>
   simp only[Has]at h'
   obtain⟨b,ys,rfl,h3,h4⟩:=h'
   obtain⟨_,_,p,_⟩:=zcD I h3 h4
   cases (show z=Value.ref b from r')
   cases (show u=Value.none from r)
   exact SeqAt.EqAt.none_list p hu'
  | _=>simp only[Has]at h';subst h';exact zf1 r r' rfl rfl
 | .bl k,e,v,w,u,z,A,h,h',r,r',hu=>by
  have hu':=zdI hu
  simp only[Has]at h
  subst h
  cases e with
  | tup es =>
   simp only[Has]at h'
   obtain⟨b,ys,rfl,h3,h4⟩:=h'
   obtain⟨_,_,p,_⟩:=zcz I h3 h4
   cases (show z=Value.ref b from r')
   cases (show u=Value.bool k from r)
   exact SeqAt.EqAt.bool_tuple k p hu'
  | lst es =>
   simp only[Has]at h'
   obtain⟨b,ys,rfl,h3,h4⟩:=h'
   obtain⟨_,_,p,_⟩:=zcD I h3 h4
   cases (show z=Value.ref b from r')
   cases (show u=Value.bool k from r)
   exact SeqAt.EqAt.bool_list k p hu'
  | _=>simp only[Has]at h';subst h';exact zf1 r r' rfl rfl
 | .int k,e,v,w,u,z,A,h,h',r,r',hu=>by
  have hu':=zdI hu
  simp only[Has]at h
  subst h
  cases e with
  | tup es =>
   simp only[Has]at h'
   obtain⟨b,ys,rfl,h3,h4⟩:=h'
   obtain⟨_,_,p,_⟩:=zcz I h3 h4
   cases (show z=Value.ref b from r')
   obtain⟨t,rfl⟩:=r
   exact SeqAt.EqAt.int_tuple k t p hu'
  | lst es =>
   simp only[Has]at h'
   obtain⟨b,ys,rfl,h3,h4⟩:=h'
   obtain⟨_,_,p,_⟩:=zcD I h3 h4
   cases (show z=Value.ref b from r')
   obtain⟨t,rfl⟩:=r
   exact SeqAt.EqAt.int_list k t p hu'
  | _=>simp only[Has]at h';subst h';exact zf1 r r' rfl rfl
 | .str k,e,v,w,u,z,A,h,h',r,r',hu=>by
  have hu':=zdI hu
  simp only[Has]at h
  subst h
  cases e with
  | tup es =>
   simp only[Has]at h'
   obtain⟨b,ys,rfl,h3,h4⟩:=h'
   obtain⟨_,_,p,_⟩:=zcz I h3 h4
   cases (show z=Value.ref b from r')
   obtain⟨t,rfl⟩:=r
   exact SeqAt.EqAt.str_tuple k t p hu'
  | lst es =>
   simp only[Has]at h'
   obtain⟨b,ys,rfl,h3,h4⟩:=h'
   obtain⟨_,_,p,_⟩:=zcD I h3 h4
   cases (show z=Value.ref b from r')
   obtain⟨t,rfl⟩:=r
   exact SeqAt.EqAt.str_list k t p hu'
  | _=>simp only[Has]at h';subst h';exact zf1 r r' rfl rfl
 | .tup ds,e,v,w,u,z,A,h,h',r,r',hu=>by
  have hu':=zdI hu
  have hd:=h
  simp only[Has]at h
  obtain⟨a,xs,rfl,h1,h2⟩:=h
  cases (show u=Value.ref a from r)
  obtain⟨_,_,p,_⟩:=zcz I h1 h2
  have hi:A.in1.units+zaA ds < cLine:=by simp only[dep]at hu;rw[Around.in1_units];lia
  cases e with
  | tup es =>
   have he:=h'
   simp only[Has]at h'
   obtain⟨b,ys,rfl,h3,h4⟩:=h'
   cases (show z=Value.ref b from r')
   by_cases hab:a=b
   ·subst hab
    rw[Has.inj I _ _ _ hd he,zbD]
    exact SeqAt.EqAt.same _
   ·have q:=(rcTT I h1 h2 h3 h4 hu' λus zs ru rz j u z e1 e2=>zf2 I ds es xs ys us zs A.in1 h2 h4 ru rz hi j u z e1 e2).1
    simp only[peq]
    exact SeqAt.EqAt.of_refs hab q
  | lst es =>
   simp only[Has]at h'
   obtain⟨b,ys,rfl,h3,h4⟩:=h'
   cases (show z=Value.ref b from r')
   obtain⟨_,_,p',_⟩:=zcD I h3 h4
   exact SeqAt.EqAt.tuple_list p p' hu'
  | non=>simp only[Has]at h';subst h';cases (show z=Value.none from r');exact SeqAt.EqAt.tuple_none p hu'
  | bl k=>simp only[Has]at h';subst h';cases (show z=Value.bool k from r');exact SeqAt.EqAt.tuple_bool k p hu'
  | int k=>simp only[Has]at h';subst h';obtain⟨t,rfl⟩:=r';exact SeqAt.EqAt.tuple_int k t p hu'
  | str k=>simp only[Has]at h';subst h';obtain⟨t,rfl⟩:=r';exact SeqAt.EqAt.tuple_str k t p hu'
 | .lst ds,e,v,w,u,z,A,h,h',r,r',hu=>by
  have hu':=zdI hu
  have hd:=h
  simp only[Has]at h
  obtain⟨a,xs,rfl,h1,h2⟩:=h
  cases (show u=Value.ref a from r)
  obtain⟨_,_,p,_⟩:=zcD I h1 h2
  have hi:A.in1.units+zaA ds < cLine:=by simp only[dep]at hu;rw[Around.in1_units];lia
  cases e with
  | lst es =>
   have he:=h'
   simp only[Has]at h'
   obtain⟨b,ys,rfl,h3,h4⟩:=h'
   cases (show z=Value.ref b from r')
   by_cases hab:a=b
   ·subst hab
    rw[Has.inj I _ _ _ hd he,zbD]
    exact SeqAt.EqAt.same _
   ·have q:=(rcLL I h1 h2 h3 h4 hu' λus zs ru rz j u z e1 e2=>zf2 I ds es xs ys us zs A.in1 h2 h4 ru rz hi j u z e1 e2).1
    simp only[peq]
    exact SeqAt.EqAt.of_refs hab q
  | tup es =>
   simp only[Has]at h'
   obtain⟨b,ys,rfl,h3,h4⟩:=h'
   cases (show z=Value.ref b from r')
   obtain⟨_,_,p',_⟩:=zcz I h3 h4
   exact SeqAt.EqAt.list_tuple p p' hu'
  | non=>simp only[Has]at h';subst h';cases (show z=Value.none from r');exact SeqAt.EqAt.list_none p hu'
  | bl k=>simp only[Has]at h';subst h';cases (show z=Value.bool k from r');exact SeqAt.EqAt.list_bool k p hu'
  | int k=>simp only[Has]at h';subst h';obtain⟨t,rfl⟩:=r';exact SeqAt.EqAt.list_int k t p hu'
  | str k=>simp only[Has]at h';subst h';obtain⟨t,rfl⟩:=r';exact SeqAt.EqAt.list_str k t p hu'
theorem zf2 (I:Inv X pins σ H s):∀(ds es:List Dt) (vs ws:List V) (us zs:List Value) (A:Around),ao X.K H ds vs→ao X.K H es ws→aW vs us→aW ws zs→A.units+zaA ds < cLine →
  ∀(j:Nat) (u z:Value),us[j]?=some u→zs[j]?=some z→SeqAt.EqAt A s u z (zcY ds es j)
 | [],es,vs,ws,us,zs,A,h,h',r,r',hu,j,u,z,e1,e2=>by
  simp only[ao]at h
  subst h
  cases r
  simp at e1
 | d :: ds,es,vs,ws,us,zs,A,h,h',r,r',hu,j,u,z,e1,e2=>by
  simp only[ao]at h
  obtain⟨v,rs,rfl,h1,h2⟩:=h
  cases r with
  | cons r1 r2 =>
   cases es with
   | nil =>
    simp only[ao]at h'
    subst h'
    cases r'
    simp at e2
   | cons e es =>
    simp only[ao]at h'
    obtain⟨w,rt,rfl,h3,h4⟩:=h'
    simp only[zaA]at hu
    cases r' with
    | cons r3 r4 =>
     cases j with
     | zero =>
      simp at e1 e2
      subst e1 e2
      exact zk8 I d e v w _ _ A h1 h3 r1 r3 (by lia)
     | succ j=>exact zf2 I ds es rs rt _ _ A h2 h4 r2 r4 (by lia) j u z (by simpa using e1) (by simpa using e2)
end
end
end L2
namespace L2
open PySem PySem.Spec PyProof.Rows
section
variable {X:Cx} {pins:List (Addr × Obj)} {σ:St} {H:Hp} {s:Shared}
theorem rc_D (I:Inv X pins σ H s) (A:Around) (d e:Dt) (v w:V) (u z:Value) (h:Has X.K H d v) (h':Has X.K H e w) (r:aY v u) (r':aY w z) (hu:A.units+dep d < cLine) :
  SeqAt.RcAt A s u z (peq d e)∧SeqAt.RcNeAt A s u z (!peq d e):=by
 have hu':=zdI hu
 cases d with
 | non =>
  simp only[Has]at h
  subst h
  cases (show u=Value.none from r)
  cases e with
  | non =>
   simp only[Has]at h'
   subst h'
   cases (show z=Value.none from r')
   exact⟨SeqAt.RcAt.none_none,SeqAt.RcNeAt.none_none⟩
  | bl k2 =>
   simp only[Has]at h'
   subst h'
   cases (show z=Value.bool k2 from r')
   exact⟨SeqAt.RcAt.none_bool k2,SeqAt.RcNeAt.none_bool k2⟩
  | int k2 =>
   simp only[Has]at h'
   subst h'
   obtain⟨t2,rfl⟩:=r'
   exact⟨SeqAt.RcAt.none_int k2 t2,SeqAt.RcNeAt.none_int k2 t2⟩
  | str k2 =>
   simp only[Has]at h'
   subst h'
   obtain⟨t2,rfl⟩:=r'
   exact⟨SeqAt.RcAt.none_str k2 t2,SeqAt.RcNeAt.none_str k2 t2⟩
  | tup es =>
   simp only[Has]at h'
   obtain⟨b,ys,rfl,h3,h4⟩:=h'
   obtain⟨_,_,p,_⟩:=zcz I h3 h4
   cases (show z=Value.ref b from r')
   exact⟨SeqAt.RcAt.none_tuple p hu',SeqAt.RcNeAt.none_tuple p hu'⟩
  | lst es =>
   simp only[Has]at h'
   obtain⟨b,ys,rfl,h3,h4⟩:=h'
   obtain⟨_,_,p,_⟩:=zcD I h3 h4
   cases (show z=Value.ref b from r')
   exact⟨SeqAt.RcAt.none_list p hu',SeqAt.RcNeAt.none_list p hu'⟩
 | bl k1 =>
  simp only[Has]at h
  subst h
  cases (show u=Value.bool k1 from r)
  cases e with
  | non =>
   simp only[Has]at h'
   subst h'
   cases (show z=Value.none from r')
   exact⟨SeqAt.RcAt.bool_none k1,SeqAt.RcNeAt.bool_none k1⟩
  | bl k2 =>
   simp only[Has]at h'
   subst h'
   cases (show z=Value.bool k2 from r')
   exact⟨SeqAt.RcAt.bool_bool k1 k2,SeqAt.RcNeAt.bool_bool k1 k2⟩
  | int k2 =>
   simp only[Has]at h'
   subst h'
   obtain⟨t2,rfl⟩:=r'
   exact⟨SeqAt.RcAt.bool_int k1 k2 t2,SeqAt.RcNeAt.bool_int k1 k2 t2⟩
  | str k2 =>
   simp only[Has]at h'
   subst h'
   obtain⟨t2,rfl⟩:=r'
   exact⟨SeqAt.RcAt.bool_str k1 k2 t2,SeqAt.RcNeAt.bool_str k1 k2 t2⟩
  | tup es =>
   simp only[Has]at h'
   obtain⟨b,ys,rfl,h3,h4⟩:=h'
   obtain⟨_,_,p,_⟩:=zcz I h3 h4
   cases (show z=Value.ref b from r')
   exact⟨SeqAt.RcAt.bool_tuple k1 p hu',SeqAt.RcNeAt.bool_tuple k1 p hu'⟩
  | lst es =>
   simp only[Has]at h'
   obtain⟨b,ys,rfl,h3,h4⟩:=h'
   obtain⟨_,_,p,_⟩:=zcD I h3 h4
   cases (show z=Value.ref b from r')
   exact⟨SeqAt.RcAt.bool_list k1 p hu',SeqAt.RcNeAt.bool_list k1 p hu'⟩
 | int k1 =>
  simp only[Has]at h
  subst h
  obtain⟨t1,rfl⟩:=r
  cases e with
  | non =>
   simp only[Has]at h'
   subst h'
   cases (show z=Value.none from r')
   exact⟨SeqAt.RcAt.int_none k1 t1,SeqAt.RcNeAt.int_none k1 t1⟩
  | bl k2 =>
   simp only[Has]at h'
   subst h'
   cases (show z=Value.bool k2 from r')
   exact⟨SeqAt.RcAt.int_bool k1 t1 k2,SeqAt.RcNeAt.int_bool k1 t1 k2⟩
  | int k2 =>
   simp only[Has]at h'
   subst h'
   obtain⟨t2,rfl⟩:=r'
   exact⟨SeqAt.RcAt.int_int k1 t1 k2 t2,SeqAt.RcNeAt.int_int k1 t1 k2 t2⟩
  | str k2 =>
   simp only[Has]at h'
   subst h'
   obtain⟨t2,rfl⟩:=r'
   exact⟨SeqAt.RcAt.int_str k1 t1 k2 t2,SeqAt.RcNeAt.int_str k1 t1 k2 t2⟩
  | tup es =>
   simp only[Has]at h'
   obtain⟨b,ys,rfl,h3,h4⟩:=h'
   obtain⟨_,_,p,_⟩:=zcz I h3 h4
   cases (show z=Value.ref b from r')
   exact⟨SeqAt.RcAt.int_tuple k1 t1 p hu',SeqAt.RcNeAt.int_tuple k1 t1 p hu'⟩
  | lst es =>
   simp only[Has]at h'
   obtain⟨b,ys,rfl,h3,h4⟩:=h'
   obtain⟨_,_,p,_⟩:=zcD I h3 h4
   cases (show z=Value.ref b from r')
   exact⟨SeqAt.RcAt.int_list k1 t1 p hu',SeqAt.RcNeAt.int_list k1 t1 p hu'⟩
 | str k1 =>
  simp only[Has]at h
  subst h
  obtain⟨t1,rfl⟩:=r
  cases e with
  | non =>
   simp only[Has]at h'
   subst h'
   cases (show z=Value.none from r')
   exact⟨SeqAt.RcAt.str_none k1 t1,SeqAt.RcNeAt.str_none k1 t1⟩
  | bl k2 =>
   simp only[Has]at h'
   subst h'
   cases (show z=Value.bool k2 from r')
   exact⟨SeqAt.RcAt.str_bool k1 t1 k2,SeqAt.RcNeAt.str_bool k1 t1 k2⟩
  | int k2 =>
   simp only[Has]at h'
   subst h'
   obtain⟨t2,rfl⟩:=r'
   exact⟨SeqAt.RcAt.str_int k1 t1 k2 t2,SeqAt.RcNeAt.str_int k1 t1 k2 t2⟩
  | str k2 =>
   simp only[Has]at h'
   subst h'
   obtain⟨t2,rfl⟩:=r'
   exact⟨SeqAt.RcAt.str_str k1 t1 k2 t2,SeqAt.RcNeAt.str_str k1 t1 k2 t2⟩
  | tup es =>
   simp only[Has]at h'
   obtain⟨b,ys,rfl,h3,h4⟩:=h'
   obtain⟨_,_,p,_⟩:=zcz I h3 h4
   cases (show z=Value.ref b from r')
   exact⟨SeqAt.RcAt.str_tuple k1 t1 p hu',SeqAt.RcNeAt.str_tuple k1 t1 p hu'⟩
  | lst es =>
   simp only[Has]at h'
   obtain⟨b,ys,rfl,h3,h4⟩:=h'
   obtain⟨_,_,p,_⟩:=zcD I h3 h4
   cases (show z=Value.ref b from r')
   exact⟨SeqAt.RcAt.str_list k1 t1 p hu',SeqAt.RcNeAt.str_list k1 t1 p hu'⟩
 | tup ds =>
  simp only[Has]at h
  obtain⟨a,xs,rfl,h1,h2⟩:=h
  cases (show u=Value.ref a from r)
  obtain⟨_,_,p,_⟩:=zcz I h1 h2
  have hi:A.in1.units+zaA ds < cLine:=by simp only[dep]at hu;rw[Around.in1_units];lia
  cases e with
  | non =>
   simp only[Has]at h'
   subst h'
   cases (show z=Value.none from r')
   exact⟨SeqAt.RcAt.tuple_none p hu',SeqAt.RcNeAt.tuple_none p hu'⟩
  | bl k2 =>
   simp only[Has]at h'
   subst h'
   cases (show z=Value.bool k2 from r')
   exact⟨SeqAt.RcAt.tuple_bool k2 p hu',SeqAt.RcNeAt.tuple_bool k2 p hu'⟩
  | int k2 =>
   simp only[Has]at h'
   subst h'
   obtain⟨t2,rfl⟩:=r'
   exact⟨SeqAt.RcAt.tuple_int k2 t2 p hu',SeqAt.RcNeAt.tuple_int k2 t2 p hu'⟩
  | str k2 =>
   simp only[Has]at h'
   subst h'
   obtain⟨t2,rfl⟩:=r'
   exact⟨SeqAt.RcAt.tuple_str k2 t2 p hu',SeqAt.RcNeAt.tuple_str k2 t2 p hu'⟩
  | tup es =>
   simp only[Has]at h'
   obtain⟨b,ys,rfl,h3,h4⟩:=h'
   cases (show z=Value.ref b from r')
   simp only[peq]
   exact rcTT I h1 h2 h3 h4 hu' λus zs ru rz j u z e1 e2=>zf2 I ds es xs ys us zs A.in1 h2 h4 ru rz hi j u z e1 e2
  | lst es =>
   simp only[Has]at h'
   obtain⟨b,ys,rfl,h3,h4⟩:=h'
   cases (show z=Value.ref b from r')
   obtain⟨_,_,p',_⟩:=zcD I h3 h4
   exact⟨SeqAt.RcAt.tuple_list p p' hu',SeqAt.RcNeAt.tuple_list p p' hu'⟩
 | lst ds =>
  simp only[Has]at h
  obtain⟨a,xs,rfl,h1,h2⟩:=h
  cases (show u=Value.ref a from r)
  obtain⟨_,_,p,_⟩:=zcD I h1 h2
  have hi:A.in1.units+zaA ds < cLine:=by simp only[dep]at hu;rw[Around.in1_units];lia
  cases e with
  | non =>
   simp only[Has]at h'
   subst h'
   cases (show z=Value.none from r')
   exact⟨SeqAt.RcAt.list_none p hu',SeqAt.RcNeAt.list_none p hu'⟩
  | bl k2 =>
   simp only[Has]at h'
   subst h'
   cases (show z=Value.bool k2 from r')
   exact⟨SeqAt.RcAt.list_bool k2 p hu',SeqAt.RcNeAt.list_bool k2 p hu'⟩
  | int k2 =>
   simp only[Has]at h'
   subst h'
   obtain⟨t2,rfl⟩:=r'
   exact⟨SeqAt.RcAt.list_int k2 t2 p hu',SeqAt.RcNeAt.list_int k2 t2 p hu'⟩
  | str k2 =>
   simp only[Has]at h'
   subst h'
   obtain⟨t2,rfl⟩:=r'
   exact⟨SeqAt.RcAt.list_str k2 t2 p hu',SeqAt.RcNeAt.list_str k2 t2 p hu'⟩
  | tup es =>
   simp only[Has]at h'
   obtain⟨b,ys,rfl,h3,h4⟩:=h'
   cases (show z=Value.ref b from r')
   obtain⟨_,_,p',_⟩:=zcz I h3 h4
   exact⟨SeqAt.RcAt.list_tuple p p' hu',SeqAt.RcNeAt.list_tuple p p' hu'⟩
  | lst es =>
   simp only[Has]at h'
   obtain⟨b,ys,rfl,h3,h4⟩:=h'
   cases (show z=Value.ref b from r')
   simp only[peq]
   exact rcLL I h1 h2 h3 h4 hu' λus zs ru rz j u z e1 e2=>zf2 I ds es xs ys us zs A.in1 h2 h4 ru rz hi j u z e1 e2
inductive rEqD (K:W.Frag):R2|m{x y H Q} d e:Has K H d x→Has K H e y→dep d≤60→Q (.bl (peq d e)) H→rEqD K x y H Q
inductive rNeD (K:W.Frag):R2|m{x y H Q} d e:Has K H d x→Has K H e y→dep d≤60→Q (.bl (!peq d e)) H→rNeD K x y H Q
theorem zdj (hu:X.A.units+64 < cLine):OpR X (compareOp .Eq) (rEqD X.K):=by
 intro pins s σ H x y v u Q I rx ry h
 obtain⟨d,e,h1,h2,hd,q⟩:=h
 exact(rc_D I X.A d e x y v u h1 h2 rx ry (by lia)).1 _ _ _ _ ⟨.bl _,H,I,rfl,q⟩
theorem zkU (hu:X.A.units+64 < cLine):OpR X (compareOp .NotEq) (rNeD X.K):=by
 intro pins s σ H x y v u Q I rx ry h
 obtain⟨d,e,h1,h2,hd,q⟩:=h
 exact(rc_D I X.A d e x y v u h1 h2 rx ry (by lia)).2 _ _ _ _ ⟨.bl _,H,I,rfl,q⟩
open Classical in
noncomputable def hitD (K:W.Frag) (H:Hp) (d:Dt) (u:Value):Bool:=decide (∃(v:V) (d':Dt),aY v u∧Has K H d' v∧peq d' d=true)
open Classical in
theorem zgD (I:Inv X pins σ H s) {d d':Dt} {v:V} {u:Value} (r:aY v u) (h:Has X.K H d' v):hitD X.K H d u=peq d' d:=by
 unfold hitD
 cases e:peq d' d with
 | true=>exact dTq ⟨v,d',r,h,e⟩
 | false =>
  refine dFq λ⟨v',d2,r',h',e'⟩=>?_
  rw[r'.inj r]at h'
  rw[Has.inj I _ _ _ h' h,e]at e'
  cases e'
theorem zeD (I:Inv X pins σ H s) {d:Dt}:∀ {ds:List Dt} {vs:List V} {us:List Value},ao X.K H ds vs→aW vs us→us.any (hitD X.K H d)=ds.any λd'=>peq d' d
 | [],vs,us,h,r=>by
  simp only[ao]at h
  subst h
  cases r
  rfl
 | d' :: ds,vs,us,h,r=>by
  simp only[ao]at h
  obtain⟨v,rs,rfl,h1,h2⟩:=h
  cases r with
  | cons r1 r2=>rw[List.any_cons,List.any_cons,zgD I r1 h1,zeD I h2 r2]
theorem zdp (I:Inv X pins σ H s) {A:Around} {d:Dt} {x:V} {ux:Value} (hx:Has X.K H d x) (rx:aY x ux):∀ {ds:List Dt} {vs:List V} {us:List Value},ao X.K H ds vs→aW vs us→A.units+zaA ds < cLine→∀ u∈us,SeqAt.EqAt A s u ux (hitD X.K H d u)
 | [],vs,us,h,r,hu,u,hm=>by
  simp only[ao]at h
  subst h
  cases r
  cases hm
 | d' :: ds,vs,us,h,r,hu,u,hm=>by
  simp only[ao]at h
  obtain⟨v,rs,rfl,h1,h2⟩:=h
  simp only[zaA]at hu
  cases r with
  | cons r1 r2 =>
   rcases List.mem_cons.mp hm with rfl | hm
   ·rw[zgD I r1 h1]
    exact zk8 I d' d v x _ _ A h1 hx r1 rx (by lia)
   ·exact zdp I hx rx h2 r2 (by lia) u hm
inductive rInD (K:W.Frag) (neg:Bool):R2|m{x y H Q} p xs ds d:y=.ref p→(SqL K H p xs∨SqT K H p xs)→ao K H ds xs→Has K H d x→zaA ds≤60→Q (.bl (if neg then !(ds.any λd'=>peq d' d) else ds.any λd'=>peq d' d)) H→rInD K neg x y H Q
theorem ziL (hu:X.A.units+64 < cLine):OpR X (compareOp .In) (rInD X.K false):=by
 intro pins s σ H x y v u Q I rx ry h
 obtain⟨p,xs,ds,d,rfl,hq,hs,hx,hd,q⟩:=h
 cases ry
 have hin:X.A.in1.units+zaA ds < cLine:=by rw[Around.in1_units];lia
 rcases hq with hq | hq
 ·obtain⟨its,r,pl,hz⟩:=I.list hq
  refine SeqAt.in_listAt (hitD X.K H d) pl.isList (λw hw=>zdp I hx rx hs r hin w (by simpa using hw)) ⟨.bl _,H,I,rfl,?_⟩
  rw[show its.toArray.any (hitD X.K H d)=its.any (hitD X.K H d) by simp,zeD I hs r]
  exact q
 ·obtain⟨its,r,pl,hz⟩:=I.tuple hq
  refine SeqAt.in_tupleAt (hitD X.K H d) pl (λw hw=>zdp I hx rx hs r hin w (by simpa using hw)) ⟨.bl _,H,I,rfl,?_⟩
  rw[show its.toArray.any (hitD X.K H d)=its.any (hitD X.K H d) by simp,zeD I hs r]
  exact q
theorem zlr (hu:X.A.units+64 < cLine):OpR X (compareOp .NotIn) (rInD X.K true):=by
 intro pins s σ H x y v u Q I rx ry h
 obtain⟨p,xs,ds,d,rfl,hq,hs,hx,hd,q⟩:=h
 cases ry
 have hin:X.A.in1.units+zaA ds < cLine:=by rw[Around.in1_units];lia
 rcases hq with hq | hq
 ·obtain⟨its,r,pl,hz⟩:=I.list hq
  refine SeqAt.notIn_listAt (hitD X.K H d) pl.isList (λw hw=>zdp I hx rx hs r hin w (by simpa using hw)) ⟨.bl _,H,I,rfl,?_⟩
  rw[show its.toArray.any (hitD X.K H d)=its.any (hitD X.K H d) by simp,zeD I hs r]
  exact q
 ·obtain⟨its,r,pl,hz⟩:=I.tuple hq
  refine SeqAt.notIn_tupleAt (hitD X.K H d) pl (λw hw=>zdp I hx rx hs r hin w (by simpa using hw)) ⟨.bl _,H,I,rfl,?_⟩
  rw[show its.toArray.any (hitD X.K H d)=its.any (hitD X.K H d) by simp,zeD I hs r]
  exact q
inductive zjN (K:W.Frag):V→List V→Hp→VK→Prop|m{x vs H Q} l xs ds y d j:x=.ref l→vs=[y]→H l=some (.lst xs)→ao K H ds xs→Has K H d y→zaA ds≤60→(∃ dj,ds[j]?=some dj∧peq dj d=true)→(∀ m dm,m < j→ds[m]?=some dm→peq dm d=false)→Q (.int (j:Nat)) H→zjN K x vs H Q
theorem zh7 (hu:X.A.units+64 < cLine):MtM X "list.index" (zjN X.K):=by
 intro pins s σ H x vs v us Q I rx rv h
 obtain⟨l,xs,ds,y,d,j,rfl,rfl,hH,hs,hy,hd,⟨dj,ej,hj⟩,hno,q⟩:=h
 cases rx
 obtain⟨u,rfl,ru⟩:=rv.one
 obtain⟨z,its,n,r,hl,e⟩:=I.lstM hH
 have hlen:=hs.length
 have hjl:j < ds.length:=(gEq ej).1
 have hin:X.A.in1.units+zaA ds < cLine:=by rw[Around.in1_units];lia
 have at_:∀ m (hm:m < its.toArray.size),∃ dm,ds[m]?=some dm∧hitD X.K H d its.toArray[m]=peq dm d:=λm hm=>by
  have hm':m < ds.length:=by rw[sAq]at hm;lia
  obtain⟨w,e1,e2⟩:=hs.getD (gG hm')
  obtain⟨wv,e3,e4⟩:=r.get e1
  have e5:its.toArray[m]=wv:=by
   have:its[m]?=some wv:=e3
   simp only[List.getElem_toArray]
   rw[gG (by rw[sAq]at hm;exact hm)]at this
   exact Option.some.inj this
  exact⟨_,gG hm',by rw[e5];exact zgD I e4 e2⟩
 have hjs:j < its.toArray.size:=by rw[sAq];lia
 have hsm:(j:Int) < 2 ^ 63 - 1:=by
  have:=sizeLine_eq
  lia
 refine call_meets F.slot_list_index ⟨_,e,rfl⟩ F.entry_list_index (F.args_list_index_2 _ _) (SeqAt.list_indexAt l its.toArray n none #[] u (hitD X.K H d) j hjs hsm ?_ ?_) ⟨e,?_,?_⟩
 ·obtain⟨dm,e1,e2⟩:=at_ j hjs
  rw[ej]at e1
  cases e1
  rw[e2,hj]
 ·intro m hm hlt
  obtain⟨dm,e1,e2⟩:=at_ m hm
  rw[e2,hno m dm hlt e1]
 ·intro w hw
  exact zdp I hy ru hs r hin w (by simpa using hw)
 ·exact⟨.int (j:Nat),H,I.tok _,⟨_,rfl⟩,q⟩
end
end L2
namespace L2
open PySem PySem.Spec PyProof.Rows
structure FB (P:Program) (w:World) (K:W.Frag) (mg:Str→Option Value) (base:Heap) (CX:CXT) (k:Nat) (x:Str) (f:Addr) (fd:FuncData) (ps:List Str) (sp:Sp):Prop where
 ok:aQ P w K mg base CX k f fd ps sp
 b:aF K fd ps []
 kp:W.keepIn K (.ref f)=true
 m:mg x=some (.ref f)
theorem bsz (n:Nat) (h:n≤1000):n≤sizeLine:=Nat.le_of_lt (zaJ h)
theorem zmK {k:Nat} {A:Around} (hr:ba k A):A.units+64 < cLine:=hr.units
theorem zjj {ns:List Int} {i:Nat} {n:Int} (h:ns[i]?=some n):atI (ns.map V.int) (i:Int)=some (.int n):=aH (by rw[List.getElem?_map,h];rfl)
theorem zaD {α:Type} {xs:List α} {i:Nat} {x:α} (h:xs[i]?=some x):xs.take (i+1)=xs.take i++[x]:=by
 rw[List.take_add_one,h]
 rfl
theorem ai {H:Hp} {p:Addr} (h:H p=none) (o:HO):ah H (upd H p o):=λb u q=>by rw[aD (zae q h)];exact q
theorem ah.upd {H0 H:Hp} {l:Addr} {o:HO} (s:ah H0 H) (h:H0 l=none):ah H0 (upd H l o):=λb u q=>by rw[aD (zae q h)];exact s b u q
theorem ah.kt {H H':Hp} (s:ah H H'):zam H H':=zam.of_same s
theorem ah.tup {K:W.Frag} {H H':Hp} {a:Addr} {xs:List V} (s:ah H H') (h:SqT K H a xs):SqT K H' a xs:=s.kt.sq h
structure Wk (J:It) (n:Nat) (Ok:Hp→Prop):Prop where
 stop:∀ i H,Ok H→n≤i→J.stop i H
 go:∀ i H,Ok H→i < n→J.go i H
theorem zlZ {lo:Int} {n:Nat}:Wk (Itr lo n) n (λ_=>True):=⟨λ_ _ _ h=>h,λ_ _ _ h=>h⟩
theorem zcZ {K:W.Frag} {a:Addr} {xs:List V}:Wk (Itl K a) xs.length (λH=>SqL K H a xs):=⟨λ_ _ h hi=>⟨xs,h,hi⟩,λi _ h hi=>⟨xs,xs[i],h,by simp [hi]⟩⟩
theorem zb5 {K:W.Frag} {a:Addr} {xs:List V}:Wk (Itt K a) xs.length (λH=>SqT K H a xs):=⟨λ_ _ h hi=>⟨xs,h,hi⟩,λi _ h hi=>⟨xs,xs[i],h,by simp [hi]⟩⟩
def LcW (n:Nat) (D:Addr) (Pv:Nat→List V→Hp→Prop) (i m:Nat) (ys:List V) (H:Hp):Prop:=m=n - i∧i≤n∧ys.length≤i∧H D=some (.lst ys)∧Pv i ys H
def zhs (n:Nat) (D:Addr) (Pv:Nat→List V→Hp→Prop) (i:Nat) (ys:List V):VK:=λy H3=>H3 D=some (.lst ys)∧ys.length < sizeLine∧∃ m',m' < n - i∧LcW n D Pv (i+1) m' (ys++[y]) (upd H3 D (.lst (ys++[y])))
def zlg (n:Nat) (D:Addr) (Pv:Nat→List V→Hp→Prop) (i:Nat) (ys:List V) (H3:Hp):Prop:=∃ m',m' < n - i∧LcW n D Pv (i+1) m' ys H3
theorem zaH {n:Nat} {D:Addr} {Pv:Nat→List V→Hp→Prop} {i:Nat} {ys:List V} {y:V} {H3:Hp} (hn:n≤sizeLine) (hi:i < n) (hl:ys.length≤i) (hD:H3 D=some (.lst ys)) (p:Pv (i+1) (ys++[y]) (upd H3 D (.lst (ys++[y])))):zhs n D Pv i ys y H3 :=
 ⟨hD,by lia,n - (i+1),by lia,rfl,hi,by rw[lAq,lS];lia,af,p⟩
theorem zhN {n:Nat} {D:Addr} {Pv:Nat→List V→Hp→Prop} {i:Nat} {ys:List V} {H3:Hp} (hi:i < n) (hl:ys.length≤i) (hD:H3 D=some (.lst ys)) (p:Pv (i+1) ys H3):zlg n D Pv i ys H3 :=
 ⟨n - (i+1),by lia,rfl,hi,by lia,hD,p⟩
theorem zbU {J:It} {n:Nat} {Ok:Hp→Prop} {te:TE} {fv:St} {H1:Hp} {D:Addr} {R:Hp→Prop} (W:Wk J n Ok) (Pv:Nat→List V→Hp→Prop) (hok:∀ i ys H,Pv i ys H→Ok H) (h0:Pv 0 [] (upd H1 D (.lst [])))
  (hs:∀ i ys H' x H'',i < n→ys.length≤i→H' D=some (.lst ys)→Pv i ys H'→J.yld i H' x H''→te (some x :: fv) H'' (zhs n D Pv i ys)) (hd:∀ ys H',H' D=some (.lst ys)→Pv n ys H'→R H') :
  ∃ W:Nat→Nat→List V→Hp→Prop,(∃ m,W 0 m [] (upd H1 D (.lst [])))∧∀ i m ys H',W i m ys H'→H' D=some (.lst ys) ∧
   ((J.stop i H'∧R H')∨(J.go i H'∧∀ x H'',J.yld i H' x H''→te (some x :: fv) H'' λy H3=>H3 D=some (.lst ys)∧ys.length < sizeLine∧∃ m',m' < m∧W (i+1) m' (ys++[y]) (upd H3 D (.lst (ys++[y]))))):=by
 refine⟨LcW n D Pv,⟨n,rfl,Nat.zero_le _,Nat.zero_le _,af,h0⟩,?_⟩
 rintro i m ys H' ⟨rfl,hi,hl,hD,p⟩
 refine⟨hD,?_⟩
 by_cases hlt:i < n
 ·exact .inr ⟨W.go i H' (hok _ _ _ p) hlt,λx H'' y=>hs i ys H' x H'' hlt hl hD p y⟩
 ·have e:i=n:=by lia
  subst e
  exact .inl ⟨W.stop i H' (hok _ _ _ p) (nRq _),hd ys H' hD p⟩
theorem ziN {J:It} {n:Nat} {Ok:Hp→Prop} {tc:TT} {te:TE} {fv:St} {H1:Hp} {D:Addr} {R:Hp→Prop} (W:Wk J n Ok) (Pv:Nat→List V→Hp→Prop) (hok:∀ i ys H,Pv i ys H→Ok H) (h0:Pv 0 [] (upd H1 D (.lst [])))
  (hs:∀ i ys H' x H'',i < n→ys.length≤i→H' D=some (.lst ys)→Pv i ys H'→J.yld i H' x H''→tc (some x :: fv) H'' λb H3=>if b=true then te (some x :: fv) H3 (zhs n D Pv i ys) else zlg n D Pv i ys H3)
  (hd:∀ ys H',H' D=some (.lst ys)→Pv n ys H'→R H') :
  ∃ W:Nat→Nat→List V→Hp→Prop,(∃ m,W 0 m [] (upd H1 D (.lst [])))∧∀ i m ys H',W i m ys H'→H' D=some (.lst ys) ∧
   ((J.stop i H'∧R H')∨(J.go i H'∧∀ x H'',J.yld i H' x H''→tc (some x :: fv) H'' λb H3 =>
    if b=true then te (some x :: fv) H3 λy H4=>H4 D=some (.lst ys)∧ys.length < sizeLine∧∃ m',m' < m∧W (i+1) m' (ys++[y]) (upd H4 D (.lst (ys++[y])))
    else ∃ m',m' < m∧W (i+1) m' ys H3)):=by
 refine⟨LcW n D Pv,⟨n,rfl,Nat.zero_le _,Nat.zero_le _,af,h0⟩,?_⟩
 rintro i m ys H' ⟨rfl,hi,hl,hD,p⟩
 refine⟨hD,?_⟩
 by_cases hlt:i < n
 ·exact .inr ⟨W.go i H' (hok _ _ _ p) hlt,λx H'' y=>hs i ys H' x H'' hlt hl hD p y⟩
 ·have e:i=n:=by lia
  subst e
  exact .inl ⟨W.stop i H' (hok _ _ _ p) (nRq _),hd ys H' hD p⟩
theorem zev {J:It} {n:Nat} {Ok:Hp→Prop} {g:TG} {tb:TS} {D:zb9} {σ:St} {H:Hp} (W:Wk J n Ok) (Pv:Nat→St→Hp→Prop) (hok:∀ i σ H,Pv i σ H→Ok H) (h0:Pv 0 σ H)
  (hs:∀ i σ H x H',i < n→Pv i σ H→J.yld i H x H'→g x σ H' λσ2 H2=>tb { D with nx:=Pv (i+1),ct:=Pv (i+1),bk:=D.nx } σ2 H2) (hd:∀ σ H,Pv n σ H→D.nx σ H) :
  ∃ W:Nat→Nat→St→Hp→Prop,(∃ m,W 0 m σ H)∧∀ i m σ H,W i m σ H →
   (J.stop i H∧D.nx σ H)∨(J.go i H∧∃ N:St→Hp→Prop,(∀ σ' H',N σ' H'→∃ m',m' < m∧W (i+1) m' σ' H')∧∀ x H',J.yld i H x H'→g x σ H' λσ2 H2=>tb { D with nx:=N,ct:=N,bk:=D.nx } σ2 H2):=by
 refine⟨λi m σ H=>m=n - i∧i≤n∧Pv i σ H,⟨n,by simp,Nat.zero_le _,h0⟩,?_⟩
 rintro i m σ H ⟨rfl,hi,p⟩
 by_cases hlt:i < n
 ·exact .inr ⟨W.go i H (hok _ _ _ p) hlt,Pv (i+1),λσ' H' p'=>⟨n - (i+1),by lia,rfl,hlt,p'⟩,λx H' y=>hs i σ H x H' hlt p y⟩
 ·have e:i=n:=by lia
  subst e
  exact .inl ⟨W.stop i H (hok _ _ _ p) (nRq _),hd σ H p⟩
theorem Has.int {K:W.Frag} {H:Hp} {i:Int}:Has K H (.int i) (.int i):=by simp only[Has]
theorem Has.str' {K:W.Frag} {H:Hp} {x:Str}:Has K H (.str x) (.str x):=by simp only[Has]
theorem ao.nil {K:W.Frag} {H:Hp}:ao K H [] []:=by simp only[ao]
theorem ao.cons {K:W.Frag} {H:Hp} {d:Dt} {ds:List Dt} {v:V} {vs:List V} (h:Has K H d v) (r:ao K H ds vs):ao K H (d :: ds) (v :: vs):=by
 simp only[ao]
 exact⟨v,vs,rfl,h,r⟩
theorem Has.tup' {K:W.Frag} {H:Hp} {ds:List Dt} {a:Addr} {xs:List V} (h:SqT K H a xs) (r:ao K H ds xs):Has K H (.tup ds) (.ref a):=by
 simp only[Has]
 exact⟨a,xs,rfl,h,r⟩
theorem Has.lst' {K:W.Frag} {H:Hp} {ds:List Dt} {a:Addr} {xs:List V} (h:SqL K H a xs) (r:ao K H ds xs):Has K H (.lst ds) (.ref a):=by
 simp only[Has]
 exact⟨a,xs,rfl,h,r⟩
theorem zch {K:W.Frag} {H:Hp}:∀ {ns:List Int} {vs:List V},ao K H (ns.map Dt.int) vs→vs=ns.map V.int
 | [],vs,h=>by simp only[List.map_nil,ao]at h;rw[h];rfl
 | n :: ns,vs,h=>by
  simp only[List.map_cons,ao]at h
  obtain⟨v,r,rfl,h1,h2⟩:=h
  simp only[Has]at h1
  rw[h1,zch h2]
  rfl
def dP (t:Int × Int):Dt:=.tup [.int t.1,.int t.2]
end L2
namespace PySem
open Sem (wp)
namespace F
theorem entry_dict_update_loop:entryFor table "dict.update.loop"=some Builtin.«dict.update.loop»:=entryFor_of_tree (by kernel_rfl)
theorem plain_dict_update_loop:plainId "dict.update.loop"=true:=by decide +kernel
theorem miss_list_keys:typeLookup (.type "list") "keys"=pure none:=by rw[typeLookup_type,builtinLookup_eq_fast];kernel_rfl
end F
theorem zgp {prog:Program} {w:World} {A:Around} {E:Value→Shared→Prop} {s:Shared} {a:Addr} {o:Obj} {xs:Array Value} {k:Nat} {name:Str} {Q:Option Value→Shared→Prop}
  (hx:s.heap.get? a=some o) (hc:o.cls=.type "list") (hdat:o.data=.seq xs k) (hd:o.dict=none) (hmiss:typeLookup (.type "list") name=pure none) (hname:(["__module__","__name__","__qualname__","__doc__","__annotations__"]:List Str).contains name=false) (hA:A.handled=none)
  (h:∀ h' tk e,Heap.NewExcOf s.heap h' e "AttributeError"→Q none { s with heap:=h',toks:=tk }) (hsz:name.length+100≤sizeLine:=by size_fits) :
  wpAny (model prog w) A (getAttr? (.ref a) name) Q E s:=by
 obtain⟨c,dct,dat,sl⟩:=o
 simp only at hc hdat hd
 subst hc hdat hd
 obtain⟨hp,g,d,tk,os⟩:=s
 have hT:∀ tk',(⟨hp,g,d,tk',os⟩:Shared).TypeIs (.ref a) "list":=λ_=>⟨_,hx,rfl⟩
 have f1:=sub_AttributeError
 have f3:=F.slot_list_getattribute.lookup
 have f4:=F.slot_list_getattribute.bind (.ref a)
 have f5:=am_list_getattr_none
 unfold getAttr? getAttrBy? getAttrBy
 repeat (any_goals (first | assumption | exact hT _ | ((with_reducible show wpAny _ _ (call (Value.builtin "list.__getattribute__") _ _) _ _ _);refine call_meets F.slot_list_getattribute (hT _) am_entry_list_getattribute (F.args_list_getattribute_2 _ _) (meets_getattribute_miss_list a xs k sl name _ hmiss hname hsz) ⟨hx,hA,λh' tk' e hx'=>?_⟩) | wp_step))
 obtain⟨t',u',he⟩:=hx'.there
 show wpAny _ _ (getattributeRaised _ _ _ _ _ _ _) _ _ _
 unfold getattributeRaised
 repeat (any_goals (first | assumption | wp_step))
 exact h _ _ _ hx'.of
section
variable {prog:Program} {w:World} {K:Type} [DecidableEq K] {knd:KeyKind prog w K} {A:Around}
def zcs (ks:Nat→K) (vals:Nat→Value) (n:Nat):List (K × Value):=(List.range n).foldl (λacc j=>stored acc (ks j) (vals j)) []
theorem zeM (ks:Nat→K) (vals:Nat→Value) (n:Nat):zcs ks vals (n+1)=stored (zcs ks vals n) (ks n) (vals n):=by
 unfold zcs
 rw[List.range_succ,List.foldl_append]
 rfl
theorem zkq (kvs:List (K × Value)) (k:K) (v:Value):(stored kvs k v).length≤kvs.length+1:=by
 unfold stored
 split
 ·rw[lM];lia
 ·rw[lAq];simp
theorem zfc (ks:Nat→K) (vals:Nat→Value):∀ n,(zcs ks vals n).length≤n
 | 0=>nRq _
 | n+1=>by
  rw[zeM]
  have:=zkq (zcs ks vals n) (ks n) (vals n)
  have:=zfc ks vals n
  lia
theorem zeO {R:Result→Shared→Prop} {h0:Heap} {l it d:Addr} {items:Array Value} {Ts:Nat→Addr} {keys vals:Nat→Value} {ks:Nat→K} {res:Value} (hh:A.handled=none) (hl:h0.IsList l items) (hli:l≠it) (hld:l≠d) (hid:d≠it) (hsz:items.size≤sizeLine)
  (hi:∀ i,i < items.size→items[i]?=some (.ref (Ts i))∧h0.IsTuple (Ts i) #[keys i,vals i]∧knd.is (ks i) (keys i)=true∧Ts i≠it∧Ts i≠d) :
  ∀(k i:Nat) (s:Shared),items.size - i=k→i≤items.size→s.heap.IsListIter it l i→(∀ b o,b≠it→b≠d→h0.get? b=some o→s.heap.get? b=some o)→s.heap.DictOf knd d (zcs ks vals i) →
   (∀ h' tk,(∀ b o,b≠it→b≠d→h0.get? b=some o→h'.get? b=some o)→h'.DictOf knd d (zcs ks vals items.size)→R (.ok (.ret res)) { s with heap:=h',toks:=tk }) →
   codeAny (model prog w) A (.builtin "dict.update.loop" ⟨[.ref d,.ref it,rawInt i,res],[]⟩) R s:=by
 have lst:∀ h:Heap,(∀ b o,b≠it→b≠d→h0.get? b=some o→h.get? b=some o)→h.IsList l items:=λh hk=>by
  obtain⟨o,ho,r⟩:=hl
  exact⟨o,hk _ _ hli hld ho,r⟩
 intro k
 induction k with
 | zero =>
  intro i s hk hin hit keep hD hR
  have e:i=items.size:=by lia
  subst e
  refine codeAny_builtin F.entry_dict_update_loop ?_
  rw[Around.under_plainId F.plain_dict_update_loop _]
  show wpAny _ A.in1 (pyNext (.ref it) >>= _) _ _ s
  refine wpAny_bind (wpAny_pyNext_list_end (by simpa using hh) hit (lst _ keep) (by simp) λh' he=>?_)
  show wpAny _ _ (Builtin.Dict.addKeywords d [] >>= _) _ _ _
  refine wpAny_bind (wpAny_pure (wpAny_pure ?_))
  exact hR h' s.toks (λb o h1 h2 h3=>he b o h1 (keep b o h1 h2 h3)) (hD.extBut he hid)
 | succ k ih =>
  intro i s hk hin hit keep hD hR
  have hlt:i < items.size:=by lia
  obtain⟨e1,e2,e3,e4,e5⟩:=hi i hlt
  refine codeAny_builtin F.entry_dict_update_loop ?_
  rw[Around.under_plainId F.plain_dict_update_loop _]
  show wpAny _ A.in1 (pyNext (.ref it) >>= _) _ _ s
  refine wpAny_bind (wpAny_pyNext_list_item hit (lst _ keep) e1 λh' hit' hs'=>?_)
  have keep':∀ b o,b≠it→b≠d→h0.get? b=some o→h'.get? b=some o:=λb o h1 h2 h3=>(hs'.2 b h1).trans (keep b o h1 h2 h3)
  have hD':h'.DictOf knd d (zcs ks vals i):=hD.sameBut hs' hid
  obtain⟨ot,ht,htc,nt,htd⟩:=id e2
  have ht':=keep' _ _ e4 e5 ht
  have hT:({ s with heap:=h' }:Shared).TypeIs (.ref (Ts i)) "tuple":=⟨_,ht',htc⟩
  refine wpAny_bind (wpAny_holding (wpAny_bind (wpAny_tryCatch ?_)))
  unfold Builtin.Dict.pairItems
  refine wpAny_bind (wpAny_typeOf hT ?_)
  rw[if_pos (by decide)]
  refine wpAny_bind (wpAny_seqItems ht' htd (wpAny_pure ?_))
  show wpAny _ _ (holding [keys i,vals i] (dictSet d (keys i) (vals i))) _ _ _
  have hlen:=zfc ks vals i
  refine wpAny_holding (wpAny_dictSet_pairs e3 hD' (λh2 hD2 hs2=>?_) (by lia))
  refine wpAny_pure ⟨plainId_quiet F.plain_dict_update_loop _,?_⟩
  have ei:rawInt ((i:Int)+1)=rawInt ((i+1:Nat):Int):=by rfl
  rw[ei]
  refine ih (i+1) _ (by lia) (by lia) ?_ ?_ ?_ ?_
  ·obtain⟨o,ho,r⟩:=hit'
   exact⟨o,(hs2.2 it hid.symm).trans ho,r⟩
  ·exact λb o h1 h2 h3=>(hs2.2 b h2).trans (keep' b o h1 h2 h3)
  ·rw[zeM]
   exact hD2
  ·exact λh3 tk h4 h5=>hR h3 tk h4 h5
theorem zhV {E:Value→Shared→Prop} {s:Shared} {l:Addr} {o:Obj} {items:Array Value} {n:Nat} {Ts:Nat→Addr} {keys vals:Nat→Value} {ks:Nat→K} {Q:Value→Shared→Prop} (hh:A.handled=none)
  (hx:s.heap.get? l=some o) (hc:o.cls=.type "list") (hd:o.dict=none) (hdat:o.data=.seq items n) (hsz:items.size≤sizeLine)
  (hi:∀ i,i < items.size→items[i]?=some (.ref (Ts i))∧s.heap.IsTuple (Ts i) #[keys i,vals i]∧knd.is (ks i) (keys i)=true)
  (h:∀ h' tk,(∀ b o,s.heap.get? b=some o→h'.get? b=some o)→h'.DictOf knd s.heap.objs.size (zcs ks vals items.size)→Q (.ref s.heap.objs.size) { s with heap:=h',toks:=tk }) :
  wpAny (model prog w) A (call (.type "dict") [.ref l]) Q E s:=by
 refine callType_codes (Q₁:=λobj s₁=>obj=.ref s.heap.objs.size∧s₁={ s with heap:=s.heap.push { cls:=.type "dict",data:=.dict #[] } }) F.kt_called_dict (F.kt_typeCall_dict_1 _) F.entry_dict_init (kt_code_dict_new _ ⟨rfl,rfl⟩) ?_
 rintro obj s₁ ⟨rfl,rfl⟩
 have hnew:(s.heap.push { cls:=.type "dict",data:=.dict #[] }).DictOf knd s.heap.objs.size []:=Heap.DictOf.new s.heap
 have hx1:(s.heap.push { cls:=.type "dict",data:=.dict #[] }).get? l=some o:=hG _ hx
 have hT:({ s with heap:=s.heap.push { cls:=.type "dict",data:=.dict #[] } }:Shared).TypeIs (.ref l) "list":=⟨_,hx1,hc⟩
 refine⟨hnew.typeIs,F.args_dict_init_2 _ _,?_⟩
 unfold Builtin.«dict.__init__»
 refine wpAny_bind ?_
 unfold Builtin.Dict.selfAndRest
 refine wpAny_bind (wpAny_notOrdered_dict hnew.typeIs ?_)
 show wpAny _ _ (pure (s.heap.objs.size,[Value.ref l])) _ _ _
 refine wpAny_pure ?_
 show wpAny _ _ (Builtin.Dict.updateFrom "dict.__init__" s.heap.objs.size (.ref l) [] .none) _ _ _
 unfold Builtin.Dict.updateFrom
 refine wpAny_bind (wpAny_typeOf hT ?_)
 rw[if_pos (by decide)]
 refine wpAny_bind (zgp hx1 hc hdat hd F.miss_list_keys (by decide +kernel) (by simpa using hh) λh1 tk1 e ne=>?_)
 rw[if_pos (show(none:Option Value).isNone=true from rfl)]
 have k1:∀ b ob,(s.heap.push { cls:=.type "dict",data:=.dict #[] }).get? b=some ob→h1.get? b=some ob:=ne.keeps
 refine wpAny_bind (wpAny_rule ?_)
 have hl1:h1.IsList l items:=⟨o,k1 _ _ hx1,hc,n,hdat⟩
 refine wpAny_bind (wpAny_pyIter_list hl1 ?_)
 refine wpAny_pure ⟨plainId_quiet F.plain_dict_update_loop _,?_⟩
 have sz1:s.heap.objs.size < h1.objs.size:=hLq (k1 _ _ (Heap.get?_push_size _ rfl))
 have hd1:h1.DictOf knd s.heap.objs.size []:=by
  obtain⟨o',es,ep,ho,r⟩:=hnew
  exact⟨o',es,ep,k1 _ _ ho,r⟩
 have keep:∀ b ob,s.heap.get? b=some ob→(h1.push { cls:=.type "list_iterator",data:=.fields #[.ref l,.int 0 0] }).get? b=some ob:=λb ob e=>hG _ (k1 _ _ (hG _ e))
 have ltb:∀ b ob,s.heap.get? b=some ob→b≠h1.objs.size∧b≠s.heap.objs.size:=λb ob e=>by
  have:=hLq e
  exact⟨Nat.ne_of_lt (Nat.lt_trans this sz1),Nat.ne_of_lt this⟩
 refine zeO (h0:=h1.push { cls:=.type "list_iterator",data:=.fields #[.ref l,.int 0 0] }) (knd:=knd) (l:=l) (it:=h1.objs.size) (d:=s.heap.objs.size) (items:=items) (Ts:=Ts) (keys:=keys) (vals:=vals) (ks:=ks) (by simpa using hh) ?_ (ltb _ _ hx).1 (ltb _ _ hx).2 (Nat.ne_of_lt sz1) hsz ?_ items.size 0 _ (by lia) (Nat.zero_le _) ?_ (λ_ _ _ _ e=>e) (hd1.push _) ?_
 ·exact⟨o,keep _ _ hx,hc,n,hdat⟩
 ·intro i hlt
  obtain⟨e1,⟨ot,ho,r⟩,e3⟩:=hi i hlt
  exact⟨e1,⟨ot,keep _ _ ho,r⟩,e3,(ltb _ _ ho).1,(ltb _ _ ho).2⟩
 ·exact⟨_,Heap.get?_push_size _ rfl,rfl,rfl⟩
 ·intro h' tk kp hD
  exact⟨rfl,h h' tk (λb ob e=>kp b ob (ltb _ _ e).1 (ltb _ _ e).2 (keep _ _ e)) hD⟩
end
end PySem
namespace L2
open PySem PySem.Spec PyProof.Rows
section
variable {κ:Type} [DecidableEq κ]
def zaU (kvs:List (κ × V)) (k:κ):Option V:=(kvs.find? λkv=>decide (kv.1=k)).map (·.2)
def zbL (kvs:List (κ × V)) (k:κ) (v:V):List (κ × V) :=
 if(kvs.any λkv=>decide (kv.1=k))=true then kvs.map (λkv=>if kv.1=k then(kv.1,v) else kv) else kvs++[(k,v)]
theorem zl0 {k:κ}:zaU ([]:List (κ × V)) k=none:=rfl
theorem zbN {p:κ × V} {r:List (κ × V)} {k:κ} (e:p.1=k):zaU (p :: r) k=some p.2:=by simp [zaU,List.find?_cons,e]
theorem zbO {p:κ × V} {r:List (κ × V)} {k:κ} (e:¬p.1=k):zaU (p :: r) k=zaU r k:=by simp [zaU,List.find?_cons,e]
theorem zfz (k:κ):∀ kvs:List (κ × V),(kvs.any λkv=>decide (kv.1=k))=(zaU kvs k).isSome
 | []=>rfl
 | p :: r=>by
  rw[List.any_cons]
  by_cases e:p.1=k
  ·simp only[zbN e,dTq e,Bool.true_or,Option.isSome_some]
  ·rw[zbO e,dFq e,Bool.false_or];exact zfz k r
theorem ziR (k j:κ) (y:V):∀ kvs:List (κ × V),zaU (kvs.map λkv=>if kv.1=k then(kv.1,y) else kv) j=(zaU kvs j).map λx=>if j=k then y else x
 | []=>rfl
 | p :: r=>by
  have ih:=ziR k j y r
  rw[List.map_cons]
  by_cases h:p.1=k
  ·rw[if_pos h]
   by_cases e:p.1=j
   ·rw[zbN (p:=(p.1,y)) e,zbN e,Option.map_some,if_pos (e.symm.trans h)]
   ·rw[zbO (p:=(p.1,y)) e,zbO e,ih]
  ·rw[if_neg h]
   by_cases e:p.1=j
   ·rw[zbN (p:=p) e,zbN e,Option.map_some,if_neg (λz=>h (e.trans z))]
   ·rw[zbO (p:=p) e,zbO e,ih]
theorem zhX (k j:κ) (y:V):∀ kvs:List (κ × V),zaU kvs k=none→zaU (kvs++[(k,y)]) j=if j=k then some y else zaU kvs j
 | [],_=>by
  by_cases e:k=j
  ·rw[if_pos e.symm];exact zbN (p:=(k,y)) e
  ·rw[if_neg (λz=>e z.symm)];exact zbO (p:=(k,y)) e
 | p :: r,hn=>by
  rw[List.cons_append]
  have hk:¬p.1=k:=λz=>by rw[zbN z]at hn;cases hn
  rw[zbO hk]at hn
  have ih:=zhX k j y r hn
  by_cases e:p.1=j
  ·rw[zbN e,zbN e,if_neg (λz=>hk (e.trans z))]
  ·rw[zbO e,zbO e,ih]
theorem zfy (kvs:List (κ × V)) (k j:κ) (y:V):zaU (zbL kvs k y) j=if j=k then some y else zaU kvs j:=by
 unfold zbL
 by_cases a:(kvs.any λkv=>decide (kv.1=k))=true
 ·rw[if_pos a,ziR]
  rw[zfz]at a
  by_cases e:j=k
  ·obtain⟨x,hx⟩:=Option.isSome_iff_exists.mp a
   rw[if_pos e,e,hx,Option.map_some,if_pos rfl]
  ·rw[if_neg e]
   cases zaU kvs j with
   | none=>rfl
   | some x=>rw[Option.map_some,if_neg e]
 ·rw[if_neg a]
  refine zhX k j y kvs ?_
  rw[zfz]at a
  cases q:zaU kvs k with
  | none=>rfl
  | some x=>rw[q]at a;exact(a rfl).elim
theorem zgP (kvs:List (κ × V)) (k:κ) (v:V):(zbL kvs k v).length≤kvs.length+1:=by
 unfold zbL
 split
 ·rw[lM];lia
 ·rw[lAq,List.length_cons,List.length_nil];lia
theorem zda.isSome_eq {o:Option V} {u:Option Value} (r:zda o u):o.isSome=u.isSome:=by
 cases o with
 | none=>cases u with
  | none=>rfl
  | some _=>exact(show False from r).elim
 | some _=>cases u with
  | none=>exact(show False from r).elim
  | some _=>rfl
theorem zda.getD {o:Option V} {u:Option Value} {d:V} {d':Value} (r:zda o u) (rd:aY d d'):aY (o.getD d) (u.getD d'):=by
 cases o with
 | none=>cases u with
  | none=>exact rd
  | some _=>exact(show False from r).elim
 | some _=>cases u with
  | none=>exact(show False from r).elim
  | some _=>exact r
theorem KV.val {kvs:List (κ × V)} {vs:List (κ × Value)} (r:KV kvs vs) (k:κ):zda (zaU kvs k) (valueAt vs k):=by
 unfold KV at r
 induction r with
 | nil=>exact True.intro
 | @cons p q ps qs h t ih =>
  obtain⟨h1,h2⟩:=h
  by_cases e:p.1=k
  ·have e':q.1=k:=h1.symm.trans e
   have b:valueAt (q :: qs) k=some q.2:=by simp [valueAt,List.find?_cons,e']
   rw[zbN e,b];exact h2
  ·have e':¬q.1=k:=λz=>e (h1.trans z)
   have b:valueAt (q :: qs) k=valueAt qs k:=by simp [valueAt,List.find?_cons,e']
   rw[zbO e,b];exact ih
theorem KV.any {kvs:List (κ × V)} {vs:List (κ × Value)} (r:KV kvs vs) (k:κ):(kvs.any λkv=>decide (kv.1=k))=vs.any λkv=>decide (kv.1=k):=by
 unfold KV at r
 induction r with
 | nil=>rfl
 | cons h t ih=>rw[List.any_cons,List.any_cons,ih,h.1]
theorem KV.repl {kvs:List (κ × V)} {vs:List (κ × Value)} (r:KV kvs vs) (k:κ) {y:V} {u:Value} (ry:aY y u) :
  KV (kvs.map λkv=>if kv.1=k then(kv.1,y) else kv) (vs.map λkv=>if kv.1=k then(kv.1,u) else kv):=by
 unfold KV at r ⊢
 induction r with
 | nil=>exact .nil
 | @cons p q ps qs h t ih =>
  rw[List.map_cons,List.map_cons]
  refine .cons ?_ ih
  obtain⟨h1,h2⟩:=h
  by_cases e:p.1=k
  ·rw[if_pos e,if_pos (h1.symm.trans e)];exact⟨h1,ry⟩
  ·rw[if_neg e,if_neg (λz=>e (h1.trans z))];exact⟨h1,h2⟩
theorem KV.put {kvs:List (κ × V)} {vs:List (κ × Value)} (r:KV kvs vs) (k:κ) {y:V} {u:Value} (ry:aY y u):KV (zbL kvs k y) (stored vs k u):=by
 unfold zbL stored
 rw[r.any k]
 by_cases e:(vs.any λkv=>decide (kv.1=k))=true
 ·rw[if_pos e,if_pos e];exact r.repl k ry
 ·rw[if_neg e,if_neg e];exact Paired.snoc r ⟨rfl,ry⟩
theorem KV.length {kvs:List (κ × V)} {vs:List (κ × Value)} (r:KV kvs vs):kvs.length=vs.length:=Paired.length r
end
theorem zgs {P:Program} {w:World} {k:Key} {u:Value} (r:aY (kV k) u):(za8 P w).is k u=true:=by
 cases k with
 | inl i=>obtain⟨t,e⟩:=(show ∃ t,u=Value.int i t from r);subst e;exact zjB P w i t
 | inr x=>obtain⟨t,e⟩:=(show ∃ t,u=Value.str x t from r);subst e;exact zjA P w x t
theorem zh9 {P:Program} {w:World}:∀ {ks:List Key} {us:List Value},aW (ks.map kV) us→ItemsAre (za8 P w) ks us
 | [],_,r=>by rw[List.map_nil]at r;cases r;exact .nil
 | k :: ks,_,r=>by
  rw[List.map_cons]at r
  cases r with
  | cons h t=>exact .cons (zgs h) (zh9 t)
abbrev KT (H:Hp):List (List Key × V)→List (List Key × Addr × Value)→Prop:=Paired λp q=>p.1=q.1∧H q.2.1=some (.tup (p.1.map kV))∧aY p.2 q.2.2
theorem KT.val {H:Hp} {kvs:List (List Key × V)} {xs:List (List Key × Addr × Value)} (r:KT H kvs xs) (k:List Key):zda (zaU kvs k) ((atKey xs k).map (·.2)):=by
 induction r with
 | nil=>exact True.intro
 | @cons p q ps qs h t ih =>
  obtain⟨h1,_,h2⟩:=h
  by_cases e:p.1=k
  ·have e':q.1=k:=h1.symm.trans e
   have b:atKey (q :: qs) k=some q.2:=by simp [atKey,List.find?_cons,e']
   rw[zbN e,b];exact h2
  ·have e':¬q.1=k:=λz=>e (h1.trans z)
   have b:atKey (q :: qs) k=atKey qs k:=by simp [atKey,List.find?_cons,e']
   rw[zbO e,b];exact ih
theorem KT.repl {H:Hp} {kvs:List (List Key × V)} {xs:List (List Key × Addr × Value)} (r:KT H kvs xs) (k:List Key) {y:V} {u:Value} (ry:aY y u) :
  KT H (kvs.map λkv=>if kv.1=k then(kv.1,y) else kv) (xs.map (putAt k u)):=by
 induction r with
 | nil=>exact .nil
 | @cons p q ps qs h t ih =>
  rw[List.map_cons,List.map_cons]
  refine .cons ?_ ih
  obtain⟨h1,h2,h3⟩:=h
  unfold putAt
  by_cases e:p.1=k
  ·rw[if_pos e,if_pos (h1.symm.trans e)];exact⟨h1,h2,ry⟩
  ·rw[if_neg e,if_neg (λz=>e (h1.trans z))];exact⟨h1,h2,h3⟩
theorem KT.put {H:Hp} {kvs:List (List Key × V)} {xs:List (List Key × Addr × Value)} (r:KT H kvs xs) (k:List Key) {b:Addr} {y:V} {u:Value} (hb:H b=some (.tup (k.map kV))) (ry:aY y u) :
  KT H (zbL kvs k y) (storedH xs k b u):=by
 have e:(kvs.any λkv=>decide (kv.1=k))=(atKey xs k).isSome:=by
  rw[zfz,(r.val k).isSome_eq,Option.isSome_map]
 unfold zbL storedH
 rw[e]
 by_cases q:(atKey xs k).isSome=true
 ·rw[if_pos q,if_pos q];exact r.repl k ry
 ·rw[if_neg q,if_neg q];exact Paired.snoc r ⟨rfl,hb,ry⟩
theorem KT.keeps {H H':Hp} {kvs:List (List Key × V)} {xs:List (List Key × Addr × Value)} (r:KT H kvs xs) (ht:∀ b ys,H b=some (.tup ys)→H' b=some (.tup ys)):KT H' kvs xs :=
 Paired.mapP r λ_ _ z=>⟨z.1,ht _ _ z.2.1,z.2.2⟩
section
variable {P:Program} {w:World} {H:Hp} {h:Heap} {a:Addr}
theorem rd_of {u:HO} (ok:HOk P w H h) (e:Rd H a u):zaE P w H h a u:=e.ok ok
theorem zhl {kvs:List (Key × V)} (ok:HOk P w H h) (e:Rd H a (.dK kvs)):kvs.length≤sizeLine∧(a == sysModules)=false∧∃ vs,KV kvs vs∧h.DictOf (za8 P w) a vs :=
 show zaE P w H h a (.dK kvs) from rd_of ok e
theorem dk_of {kvs:List (Key × V)} (ok:HOk P w H h) (e:H a=some (.dK kvs)):kvs.length≤sizeLine∧(a == sysModules)=false∧∃ vs,KV kvs vs∧h.DictOf (za8 P w) a vs:=zhl ok (.inl e)
theorem zfZ {ks:List Key} (ok:HOk P w H h) (e:H a=some (.tup (ks.map kV))):(tupleKind (za8 P w)).is h ks a:=by
 obtain⟨_,its,r,o,h1,h2,n,h3⟩:=(show zaE P w H h a (.tup (ks.map kV)) from ok a _ e)
 replace h2:=(Prod.mk.inj h2).1
 exact⟨o,its.toArray,n,h1,h2,h3,by simpa using zh9 r⟩
theorem zhk {kvs:List (List Key × V)} (ok:HOk P w H h) (e:Rd H a (.dT kvs)):kvs.length≤sizeLine∧(a == sysModules)=false ∧
  ∃ xs,KT H kvs xs∧h.DictOfH (tupleKind (za8 P w)) a xs:=by
 obtain⟨z,y,xs,r,o,es,ep,h1,h2,h3,h4,h5⟩:=(show zaE P w H h a (.dT kvs) from rd_of ok e)
 refine⟨z,y,xs,r,o,es,ep,h1,h2,h3,h4,λx hx=>?_,h5⟩
 have all:∀ {l:List (List Key × V)} {m:List (List Key × Addr × Value)},KT H l m→∀ x∈m,(tupleKind (za8 P w)).is h x.1 x.2.1:=by
  intro l m q
  induction q with
  | nil=>intro x hx;exact nomatch hx
  | @cons p q ps qs hq t ih =>
   intro x hx
   rcases List.mem_cons.mp hx with e | hx
   ·subst e
    exact zfZ ok (by rw[←hq.1];exact hq.2.1)
   ·exact ih x hx
 exact all r x hx
theorem dt_of {kvs:List (List Key × V)} (ok:HOk P w H h) (e:H a=some (.dT kvs)):kvs.length≤sizeLine∧(a == sysModules)=false ∧
  ∃ xs,KT H kvs xs∧h.DictOfH (tupleKind (za8 P w)) a xs:=zhk ok (.inl e)
end
def zdc (H:Hp) (a:Addr) (y:V) (r:Option V):Prop :=
 (∃ kvs k,Rd H a (.dK kvs)∧y=kV k∧r=zaU kvs k)∨∃ kvs k b,Rd H a (.dT kvs)∧y=.ref b∧H b=some (.tup (k.map kV))∧r=zaU kvs k
def ze5 (H:Hp) (a:Addr) (y v:V) (H':Hp):Prop :=
 (∃ kvs k,H a=some (.dK kvs)∧y=kV k∧kvs.length < sizeLine∧H'=upd H a (.dK (zbL kvs k v))) ∨
 ∃ kvs k b,H a=some (.dT kvs)∧y=.ref b∧H b=some (.tup (k.map kV))∧kvs.length < sizeLine∧H'=upd H a (.dT (zbL kvs k v))
theorem zdc.k {H:Hp} {a:Addr} {kvs:List (Key × V)} {k:Key} (e:H a=some (.dK kvs)):zdc H a (kV k) (zaU kvs k):=.inl ⟨kvs,k,.inl e,rfl,rfl⟩
theorem zdc.t {H:Hp} {a b:Addr} {kvs:List (List Key × V)} {k:List Key} (e:H a=some (.dT kvs)) (eb:H b=some (.tup (k.map kV))):zdc H a (.ref b) (zaU kvs k):=.inr ⟨kvs,k,b,.inl e,rfl,eb,rfl⟩
theorem ze5.k {H:Hp} {a:Addr} {kvs:List (Key × V)} {k:Key} {v:V} (e:H a=some (.dK kvs)) (hl:kvs.length < sizeLine):ze5 H a (kV k) v (upd H a (.dK (zbL kvs k v))):=.inl ⟨kvs,k,e,rfl,hl,rfl⟩
theorem ze5.t {H:Hp} {a b:Addr} {kvs:List (List Key × V)} {k:List Key} {v:V} (e:H a=some (.dT kvs)) (eb:H b=some (.tup (k.map kV))) (hl:kvs.length < sizeLine) :
  ze5 H a (.ref b) v (upd H a (.dT (zbL kvs k v))):=.inr ⟨kvs,k,b,e,rfl,eb,hl,rfl⟩
section
variable {X:Cx} {pins:List (Addr × Obj)} {σ:St} {H:Hp} {s:Shared} {a:Addr} {y v:V} {u r:Value} {o:Option V} {A:Around} {E:Value→Shared→Prop}
theorem Inv.big (I:Inv X pins σ H s):sysModules < s.heap.objs.size:=by
 have h:mainGlobals < s.heap.objs.size:=(I.mod.glob.keeps I.bk).lt
 exact Nat.lt_trans (by decide) h
theorem d_in {Q:Value→Shared→Prop} (hu:A.units+1 < cLine) (I:Inv X pins σ H s) (g:zdc H a y o) (ry:aY y u) (h:∀ s',Inv X pins σ H s'→Q (.bool o.isSome) s') :
  wpAny (model X.prog X.w) A (compareOp .In u (.ref a)) Q E s:=by
 rcases g with ⟨kvs,k,e,ey,l⟩ | ⟨kvs,k,b,e,ey,eb,l⟩
 ·subst ey
  obtain⟨z,hd,vs,rel,dd⟩:=zhl I.hok e
  refine wpAny_in_of (zgs ry) hd dd.mapOf ?_
  rw[←(rel.val k).isSome_eq,←l]
  exact h _ (I.tok _)
 ·subst ey
  cases (show u=Value.ref b from ry)
  obtain⟨z,hd,xs,rel,dd⟩:=zhk I.hok e
  refine wpAny_in_heap (tupleKind_room_in1 hu) (zfZ I.hok eb) hd dd ?_
  have q:=(rel.val k).isSome_eq
  rw[Option.isSome_map]at q
  rw[←q,←l]
  exact h _ (I.tok _)
theorem zno {Q:Value→Shared→Prop} (hu:A.units+1 < cLine) (I:Inv X pins σ H s) (g:zdc H a y o) (ry:aY y u) (h:∀ s',Inv X pins σ H s'→Q (.bool (!o.isSome)) s') :
  wpAny (model X.prog X.w) A (compareOp .NotIn u (.ref a)) Q E s:=by
 rcases g with ⟨kvs,k,e,ey,l⟩ | ⟨kvs,k,b,e,ey,eb,l⟩
 ·subst ey
  obtain⟨z,hd,vs,rel,dd⟩:=zhl I.hok e
  refine wpAny_notIn_of (zgs ry) hd dd.mapOf ?_
  rw[←(rel.val k).isSome_eq,←l]
  exact h _ (I.tok _)
 ·subst ey
  cases (show u=Value.ref b from ry)
  obtain⟨z,hd,xs,rel,dd⟩:=zhk I.hok e
  refine wpAny_notIn_heap (tupleKind_room_in1 hu) (zfZ I.hok eb) hd dd ?_
  have q:=(rel.val k).isSome_eq
  rw[Option.isSome_map]at q
  rw[←q,←l]
  exact h _ (I.tok _)
theorem zj8 {h':Heap} {t':Nat} {ob:HO} (I:Inv X pins σ H s) (mu:Mut (H a)) (hs:Heap.SameBut a s.heap h') (he:∃ q,h'.get? a=some q) (new:zaE X.prog X.w (upd H a ob) h' a ob) :
  Inv X pins σ (upd H a ob) { s with heap:=h',toks:=t' } :=
 I.write (x:=a) (e:=a) mu (.inl rfl) (λb q hb z=>(hs.2 b hb).trans z) he new
theorem zk9 {P:Program} {w:World} {H':Hp} {h':Heap} {kvs:List (Key × V)} {vs:List (Key × Value)} (z:kvs.length≤sizeLine) (hd:(a == sysModules)=false) (rel:KV kvs vs) (dd:h'.DictOf (za8 P w) a vs) :
  zaE P w H' h' a (.dK kvs):=⟨z,hd,vs,rel,dd⟩
theorem zlR {H':Hp} {Q:Unit→Shared→Prop} (hu:A.units+1 < cLine) (I:Inv X pins σ H s) (g:ze5 H a y v H') (ry:aY y u) (rv:aY v r) (h:∀ s',Inv X pins σ H' s'→Q () s') :
  wpAny (model X.prog X.w) A (setItem (.ref a) u r) Q E s:=by
 rcases g with ⟨kvs,k,e,ey,l,eH⟩ | ⟨kvs,k,b,e,ey,eb,l,eH⟩
 ·subst ey eH
  obtain⟨z,hd,vs,rel,dd⟩:=dk_of I.hok e
  have hz:vs.length≤sizeLine:=by rw[←rel.length];exact z
  have hl:(zbL kvs k v).length≤sizeLine:=by have:=zgP kvs k v;lia
  refine wpAny_setItem_pairs (hsz:=hz) (zgs ry) dd λh' dd' hs=>h _ ?_
  have he:∃ q,h'.get? a=some q:=let ⟨q,_,_,hq,_⟩:=dd';⟨q,hq⟩
  exact zj8 I (by rw[e];exact True.intro) hs he (zk9 hl hd (rel.put k rv) dd')
 ·subst ey eH
  cases (show u=Value.ref b from ry)
  obtain⟨z,hd,xs,rel,dd⟩:=dt_of I.hok e
  have hz:xs.length≤sizeLine:=by rw[←Paired.length rel];exact z
  have hl:(zbL kvs k v).length≤sizeLine:=by have:=zgP kvs k v;lia
  refine wpAny_setItem_heap (hsz:=hz) (tupleKind_room_in1 hu) (zfZ I.hok eb) dd λh' dd' hs=>h _ ?_
  obtain⟨q,es,ep,hq,h2,h3,h4,_,h5⟩:=dd'
  refine zj8 I (by rw[e];exact True.intro) hs ⟨q,hq⟩ ⟨hl,hd,_,(rel.put k eb rv).keeps λc ys ec=>?_,q,es,ep,hq,h2,h3,h4,h5⟩
  rw[aD (zb2 ec e (λz=>nomatch z))]
  exact ec
end
section
variable {X:Cx} {pins:List (Addr × Obj)} {σ:St} {H:Hp} {s:Shared} {a:Addr} {kvs:List (Key × V)} {k:Key} {u:Value} {A:Around} {E:Value→Shared→Prop}
end
def tDIn (ty td:TE):TE:=λσ H Q=>ty σ H λy H1=>td σ H1 λx H2=>∃ a o,x=.ref a∧zdc H2 a y o∧Q (.bl o.isSome) H2
def zmO (ty td:TE):TE:=λσ H Q=>ty σ H λy H1=>td σ H1 λx H2=>∃ a o,x=.ref a∧zdc H2 a y o∧Q (.bl (!o.isSome)) H2
def sDPut (td ty tv:TE):TS:=λD σ H=>tv σ H λv H1=>td σ H1 λx H2=>ty σ H2 λy H3=>∃ a H4,x=.ref a∧ze5 H3 a y v H4∧D.nx σ H4
section
variable {X:Cx} {o i e value:Expr} {pos pos' tpos:Pos} {td ty tv:TE}
theorem zkT (hu:X.A.units+1 < cLine) (hi:PE X i ty) (ho:PE X o td):PC X .In i o (tDIn ty td):=by
 intro pins s σ H Q I h
 refine thn (hi pins s σ H _ I h) λiv s1 ⟨y,H1,I1,ry,q1⟩=>thn (ho pins s1 σ H1 _ I1 q1) λu s2 ⟨x,H2,I2,rx,a,ov,ex,g,q2⟩=>?_
 subst ex
 obtain rfl:u=Value.ref a:=rx
 exact d_in hu I2 g ry λs3 I3=>⟨.bl ov.isSome,H2,I3,rfl,q2⟩
theorem zlp (hu:X.A.units+1 < cLine) (hi:PE X i ty) (ho:PE X o td):PC X .NotIn i o (zmO ty td):=by
 intro pins s σ H Q I h
 refine thn (hi pins s σ H _ I h) λiv s1 ⟨y,H1,I1,ry,q1⟩=>thn (ho pins s1 σ H1 _ I1 q1) λu s2 ⟨x,H2,I2,rx,a,ov,ex,g,q2⟩=>?_
 subst ex
 obtain rfl:u=Value.ref a:=rx
 exact zno hu I2 g ry λs3 I3=>⟨.bl (!ov.isSome),H2,I3,rfl,q2⟩
theorem zgw (hu:X.A.units+1 < cLine) (ho:PE X o td) (hi:PE X i ty) (hv:PE X value tv) (hs:swapsWith value (some (.Subscript o i pos')) pos.line X.env=pure false) :
  PS X (.Assign [.Subscript o i pos'] value pos) (sDPut td ty tv):=by
 intro pins s σ H D I h
 refine wpAny_Assign_Subscript (thn (hv pins s σ H _ I h) λr s1 ⟨v,H1,I1,rv,q1⟩=>thn (ho pins s1 σ H1 _ I1 q1) λu s2 ⟨x,H2,I2,rx,q2⟩=>thn (hi pins s2 σ H2 _ I2 q2) λiv s3 ⟨y,H3,I3,ry,a,H4,ex,g,q3⟩=>?_) hs
 subst ex
 obtain rfl:u=Value.ref a:=rx
 exact zlR hu I3 g ry rv λs4 I4=>⟨σ,H4,I4,q3⟩
end
theorem zmz {P:Program} {w:World} {H:Hp} (h:Heap) (hb:sysModules < h.objs.size):zaE P w H (h.push { cls:=.type "dict",data:=.dict #[] }) h.objs.size (.dK []) :=
 ⟨Nat.zero_le _,beq_eq_false_iff_ne.mpr (Ne.symm (Nat.ne_of_lt hb)),[],.nil,Heap.DictOf.new h⟩
def tDNewK:TE:=λ_ H Q=>∀ p,H p=none→Q (.ref p) (upd H p (.dK []))
section
variable {X:Cx} {pos:Pos}
theorem zg8:PE X (.Dict [] [] pos) tDNewK:=λpins s σ H Q I h =>
 wpAny_Dict_empty ⟨.ref s.heap.objs.size,_,I.laid (a:=s.heap.objs.size) (o:=.dK []) (t':=s.toks) (λ_ _ q=>hG _ q) (nRq _) (zmz s.heap I.big),rfl,h _ (I.hok.fresh (nRq _))⟩
end
def zbl (kvs more:List (Key × V)):List (Key × V):=more.foldl (λacc kv=>zbL acc kv.1 kv.2) kvs
structure M2 (X:Cx) (o:Expr) (m:Str) (apos:Pos) (e f:Expr) (cpos:Pos):Prop where
 base:attributeBase o m X.env (eval o X.env)=eval o X.env
 few:((backTo cpos (starEach [e,f] X.env)).all (λx=>!x.1)&&(backToKw cpos (keywordEach [] X.env)).all (λx=>x.1.isSome)
  && decide (([e,f]:List Expr).length+([]:List Keyword).length+(if([]:List Keyword).isEmpty then 0 else 1) < 30))=true
 line:(apos.endLine == cpos.line)=true
 trees:backTo cpos (starEach [e,f] X.env)=[(false,eval e X.env),(false,eval f X.env)]
def IsD (H:Hp) (a:Addr):Prop:=(∃ kvs,Rd H a (.dK kvs))∨∃ kvs,Rd H a (.dT kvs)
theorem isD_at {X:Cx} {pins:List (Addr × Obj)} {σ:St} {H:Hp} {s:Shared} {a:Addr} (I:Inv X pins σ H s) (d:IsD H a) :
  s.TypeIs (.ref a) "dict"∧(∀ b,Value.ref a=.ref b→∃ ob,s.heap.get? b=some ob∧ob.dict=none)∧(a == sysModules)=false:=by
 rcases d with ⟨kvs,e⟩ | ⟨kvs,e⟩
 ·obtain⟨_,hd,vs,_,dd⟩:=zhl I.hok e
  refine⟨dd.typeIs,λb q=>?_,hd⟩
  cases q
  obtain⟨ob,_,_,h1,h2,_⟩:=dd
  exact⟨ob,h1,h2.2.1⟩
 ·obtain⟨_,hd,xs,_,dd⟩:=zhk I.hok e
  refine⟨dd.typeIs,λb q=>?_,hd⟩
  cases q
  obtain⟨ob,_,_,h1,h2,_⟩:=dd
  exact⟨ob,h1,h2.2.1⟩
section
variable {X:Cx} {pins:List (Addr × Obj)} {σ:St} {H:Hp} {s:Shared} {a:Addr} {y d:V} {u r:Value} {o:Option V} {A:Around} {E:Value→Shared→Prop}
theorem d_get2 {Q:Value→Shared→Prop} (hu:A.units+1 < cLine) (I:Inv X pins σ H s) (g:zdc H a y o) (ry:aY y u) (rd:aY d r) (h:∀ w' s',Inv X pins σ H s'→aY (o.getD d) w'→Q w' s') :
  wpAny (model X.prog X.w) A (call (.builtin "dict.get") [.ref a,u,r]) Q E s:=by
 rcases g with ⟨kvs,k,e,ey,l⟩ | ⟨kvs,k,b,e,ey,eb,l⟩
 ·subst ey
  obtain⟨z,hd,vs,rel,dd⟩:=zhl I.hok e
  refine call_meetsIn PySem.F.slot_dict_get dd.typeIs PySem.F.entry_dict_get (PySem.F.args_dict_get_3 _ _ _) (meets_dict_get_default (za8 X.prog X.w) a (zgs ry) hd r) ⟨_,dd.mapOf,h _ _ (I.tok _) ?_⟩
  rw[l]
  exact(rel.val k).getD rd
 ·subst ey
  cases (show u=Value.ref b from ry)
  obtain⟨z,hd,xs,rel,dd⟩:=zhk I.hok e
  refine call_meetsIn PySem.F.slot_dict_get dd.typeIs PySem.F.entry_dict_get (PySem.F.args_dict_get_3 _ _ _) (meetsH_dict_get_default (tupleKind (za8 X.prog X.w)) a b hd r) ⟨tupleKind_room_in1 hu,k,xs,zfZ I.hok eb,dd,h _ _ (I.tok _) ?_⟩
  rw[l]
  exact(rel.val k).getD rd
end
def tDGet2 (td ty tx:TE):TE:=λσ H Q=>td σ H λx H1=>∃ a,x=.ref a∧IsD H1 a∧ty σ H1 λy H2=>tx σ H2 λz H3=>∃ o,zdc H3 a y o∧Q (o.getD z) H3
section
variable {X:Cx} {o e f:Expr} {apos cpos:Pos} {td ty tx:TE}
theorem zg9 (hu:X.A.units+1 < cLine) (ho:PE X o td) (he:PE X e ty) (hf:PE X f tx) (m:M2 X o "get" apos e f cpos):PE X (.Call (.Attribute o "get" apos) [e,f] [] cpos) (tDGet2 td ty tx):=by
 intro pins s σ H Q I h
 refine wpAny_Call_method m.base m.few m.line PySem.F.plainAttrs_dict PySem.F.slot_dict_get PySem.F.type_dict_get (thn (ho pins s σ H _ I h) λu s1 ⟨x,H1,I1,rx,a,ex,d,q1⟩=>?_)
 subst ex
 obtain rfl:u=Value.ref a:=rx
 obtain⟨t1,t2,_⟩:=isD_at I1 d
 refine⟨t1,t2,?_⟩
 rw[m.trees]
 refine Calls.callWith_builtin rfl (Calls.evalArgs_plain (Calls.spliced_cons (thn (he pins s1 σ H1 _ I1 q1) λiv s2 ⟨y,H2,I2,ry,q2⟩ =>
  Calls.spliced_cons (thn (hf pins s2 σ H2 _ I2 q2) λfv s3 ⟨z,H3,I3,rz,ov,g,q3⟩=>Calls.spliced_nil ?_))))
 exact d_get2 hu I3 g ry rz λw' s4 I4 rw'=>⟨_,H3,I4,rw',q3⟩
end
section
variable {X:Cx} {pins:List (Addr × Obj)} {σ:St} {H:Hp} {s:Shared} {a:Addr} {kvs:List (Key × V)} {A:Around} {E:Value→Shared→Prop}
end
section
variable {X:Cx} {pins:List (Addr × Obj)} {σ:St} {H:Hp} {s:Shared} {a:Addr} {y:V} {u:Value} {A:Around} {E:Value→Shared→Prop}
end
end L2
namespace L2
open PySem PySem.Spec PyProof.Rows
section
variable {X:Cx}
end
section
variable {κ:Type} [DecidableEq κ]
end
end L2
namespace L2
open PySem PySem.Spec PyProof.Rows
theorem zjC (kvs more:List (Key × V)) (kv:Key × V):zbl kvs (more++[kv])=zbL (zbl kvs more) kv.1 kv.2:=by
 unfold zbl
 rw[List.foldl_append]
 rfl
theorem zi8 {kvs:List (Key × V)} {ks:Nat→Key} {vals:Nat→Value}:∀ n,n≤kvs.length→(∀ i kv,i < n→kvs[i]?=some kv→kv.1=ks i∧aY kv.2 (vals i))→KV (zbl [] (kvs.take n)) (zcs ks vals n)
 | 0,_,_=>.nil
 | n+1,hn,h=>by
  have hk:kvs[n]?=some kvs[n]:=gG hn
  obtain⟨e1,e2⟩:=h n _ (Nat.lt_succ_self n) hk
  rw[zeM,zaD hk,zjC,←e1]
  exact KV.put (zi8 n (by lia) λi kv hi=>h i kv (by lia)) _ e2
section
variable {X:Cx}
theorem zju (hc:X.calm=true):zbp X (.type "dict") (λxs H Q=>∃(p:Addr) (ys:List V) (kvs:List (Key × V)),xs=[.ref p]∧SqL X.K H p ys∧ys.length=kvs.length∧(∀(i:Nat) y kv,ys[i]?=some y→kvs[i]?=some kv→∃ a,y=.ref a∧SqT X.K H a [kV kv.1,kv.2]) ∧
  ∀ d,H d=none→Q (.ref d) (upd H d (.dK (zbl [] kvs)))):=by
 intro pins s σ H xs us Q I r h
 obtain⟨p,ys,kvs,rfl,hq,hlen,hT,q⟩:=h
 obtain⟨u,rfl,ru⟩:=zcc r
 cases (show u=Value.ref p from ru)
 obtain⟨its,rv,⟨o,n,ho,hcl,hdi,hdat⟩,hz⟩:=I.list hq
 have hl:its.length=kvs.length:=by rw[←hlen,rv.length]
 have ex:∀ i:Nat,∃ t:Addr × Key × Value × Value,i < its.length→its[i]?=some (.ref t.1)∧s.heap.IsTuple t.1 #[t.2.2.1,t.2.2.2]∧(za8 X.prog X.w).is t.2.1 t.2.2.1=true∧∀ kv,kvs[i]?=some kv→kv.1=t.2.1∧aY kv.2 t.2.2.2:=λi=>by
  by_cases hi:i < its.length
  ·have hy:ys[i]?=some ys[i]:=gG (by have:=rv.length;lia)
   have hk:kvs[i]?=some kvs[i]:=gG (by lia)
   obtain⟨a,ea,ha⟩:=hT i _ _ hy hk
   rw[ea]at hy
   obtain⟨w',e1,e2⟩:=rv.get hy
   cases (show w'=Value.ref a from e2)
   obtain⟨jts,rj,pj,_⟩:=I.tuple ha
   obtain⟨u1,u2,rfl,r1,r2⟩:=zgq rj
   exact⟨(a,kvs[i].1,u1,u2),λ_=>⟨e1,pj,zgs r1,λkv e=>by rw[hk]at e;cases e;exact⟨rfl,r2⟩⟩⟩
  ·exact⟨(0,.inl 0,.none,.none),λz=>absurd z hi⟩
 obtain⟨f,hf⟩:=Classical.axiomOfChoice ex
 refine zhV (knd:=za8 X.prog X.w) (Ts:=λi=>(f i).1) (keys:=λi=>(f i).2.2.1) (vals:=λi=>(f i).2.2.2) (ks:=λi=>(f i).2.1) (I.ok.hd hc) ho hcl hdi hdat ?_ (λi hi=>?_) λh' tk keep hD=>?_
 ·have:=rv.length
  simp only[sAq]
  lia
 ·have hi':i < its.length:=by simpa using hi
  obtain⟨e1,e2,e3,_⟩:=hf i hi'
  exact⟨by simpa using e1,e2,e3⟩
 ·have rel:=zi8 (kvs:=kvs) (ks:=λi=>(f i).2.1) (vals:=λi=>(f i).2.2.2) kvs.length (nRq _) λi kv hi e=>(hf i (by lia)).2.2.2 kv e
  rw[tO (nRq _)]at rel
  have es:its.toArray.size=kvs.length:=by simp only[sAq];exact hl
  rw[es]at hD
  have z:(zbl [] kvs).length≤sizeLine:=by
   have e1:=rel.length
   have e2:=zfc (λi=>(f i).2.1) (λi=>(f i).2.2.2) kvs.length
   lia
  exact⟨.ref s.heap.objs.size,upd H s.heap.objs.size (.dK (zbl [] kvs)),I.laid (a:=s.heap.objs.size) (o:=.dK (zbl [] kvs)) (t':=tk) keep (nRq _) (zk9 z (beq_eq_false_iff_ne.mpr (Ne.symm (Nat.ne_of_lt I.big))) rel hD),rfl,q _ (I.hok.fresh (nRq _))⟩
theorem zhW (hc:X.calm=true):zbp X (.builtin "any") (λxs H Q=>∃(p:Addr) (bs:List Bool),xs=[.ref p]∧SqL X.K H p (bs.map V.bl)∧Q (.bl (bs.any id)) H):=by
 intro pins s σ H xs us Q I r h
 obtain⟨p,bs,rfl,hq,q⟩:=h
 obtain⟨u,rfl,ru⟩:=zcc r
 cases (show u=Value.ref p from ru)
 obtain⟨its,rv,pl,hz⟩:=I.list hq
 have hl:=rv.length
 rw[lM]at hl
 have hp:p < s.heap.objs.size:=by
  obtain⟨o,ho,_⟩:=pl.isList
  exact hLq ho
 have hne:p≠s.heap.objs.size:=Nat.ne_of_lt hp
 refine call_any_walk (wpAny_pyIter_list pl.isList ?_)
 refine⟨s.heap.objs.size,[s.heap.objs.size,p],[s.heap.objs.size],its.toArray.size,_,_,λi=>bs.getD i true,rfl,Walks.list (show X.A.in1.handled=none from I.ok.hd hc) _ p hne its.toArray,⟨⟨_,Heap.get?_push_size _ rfl,rfl,rfl⟩,pl.isList.push _⟩,?_,λh' tk hk=>?_⟩
 ·intro i v s' Q' E' hv hQ
  have hv':its[i]?=some v:=by simpa using hv
  have hi:i < its.length:=(gEq hv').1
  have hb:bs[i]?=some (bs.getD i true):=by
   rw[List.getD_eq_getElem?_getD,gG (by lia)]
   rfl
  obtain⟨w',e1,e2⟩:=rv.get (i:=i) (x:=.bl (bs.getD i true)) (by rw[List.getElem?_map,hb];rfl)
  rw[hv']at e1
  cases e1
  cases (show v=Value.bool _ from e2)
  exact wpAny_truthy_bool hQ
 ·have e:(List.range its.toArray.size).any (λi=>bs.getD i true)=bs.any id:=by
   rw[Bool.eq_iff_iff,List.any_eq_true,List.any_eq_true]
   constructor
   ·rintro ⟨i,hi,hb⟩
    have hi':i < bs.length:=by have:=List.mem_range.mp hi;simp only[sAq]at this;lia
    rw[List.getD_eq_getElem?_getD,gG hi']at hb
    exact⟨bs[i],List.getElem_mem hi',hb⟩
   ·rintro ⟨x,hx,hb⟩
    obtain⟨i,hi,rfl⟩:=List.mem_iff_getElem.mp hx
    refine⟨i,List.mem_range.mpr (by simp only[sAq];lia),?_⟩
    rw[List.getD_eq_getElem?_getD,gG hi]
    exact hb
  refine⟨.bl (bs.any id),H,I.kept (t':=tk) λb o eb=>hk b o ?_ (hG _ eb),congrArg Value.bool e,q⟩
  intro hm
  have:b=s.heap.objs.size:=by simpa using hm
  exact absurd (hLq eb) (by rw[this];exact Nat.lt_irrefl _)
end
end L2
namespace L2
open PySem PySem.Spec PyProof.Rows
def zfT (r:List Int):Dt:=.tup (r.map Dt.int)
theorem zmo:∀ ns:List Int,zbn (ns.map Dt.int)=true
 | []=>by simp [zbn]
 | n :: ns=>by simp only[List.map_cons,zbn,nol,Bool.true_and];exact zmo ns
theorem zjh:∀ ns:List Int,zaA (ns.map Dt.int)=0
 | []=>by simp [zaA]
 | n :: ns=>by simp only[List.map_cons,zaA,dep,zjh ns];rfl
theorem zmu {K:W.Frag} {H:Hp} {r:List Int} {x:V} (h:Has K H (zfT r) x):∃ q,x=.ref q∧SqT K H q (r.map V.int):=by
 unfold zfT at h
 simp only[Has]at h
 obtain⟨a,xs,rfl,hs,hl⟩:=h
 rw[zch hl]at hs
 exact⟨a,rfl,hs⟩
theorem zl4 {K:W.Frag} {H:Hp} {Rs:List (List Int)} {xs:List V} {i:Nat} {r:List Int} (h:ao K H (Rs.map zfT) xs) (e:Rs[i]?=some r):∃ q,xs[i]?=some (.ref q)∧SqT K H q (r.map V.int):=by
 obtain⟨v,e1,e2⟩:=h.getD (i:=i) (d:=zfT r) (by rw[List.getElem?_map,e];rfl)
 obtain⟨p,rfl,hp⟩:=zmu e2
 exact⟨p,e1,hp⟩
def zko (K:W.Frag) (H:Hp) (q:Addr) (ps:List Int):Prop:=SqL K H q (ps.map V.int)∨SqT K H q (ps.map V.int)
theorem zaW {ps:List Int} {i:Nat} {x:V} (h:(ps.map V.int)[i]?=some x):∃ k,ps[i]?=some k∧x=.int k:=by
 rw[List.getElem?_map]at h
 cases e:ps[i]? with
 | none=>rw[e]at h;cases h
 | some k =>
  rw[e]at h
  exact⟨k,rfl,(Option.some.inj h).symm⟩
theorem zco (n:Int):∀ ps:List Int,inV (.int n) (ps.map V.int)=decide (n∈ps)
 | []=>by simp [inV]
 | p :: ps=>by
  have ih:=zco n ps
  unfold inV at ih ⊢
  rw[List.map_cons,List.any_cons,ih]
  show(p == n||decide (n∈ps))=decide (n∈p :: ps)
  by_cases e:p=n
  ·subst e
   simp
  ·have e':¬n=p:=λz=>e z.symm
   simp [e,e']
theorem zdt (ps:List Int):(ps.map V.int).all zdw=true:=by
 rw[List.all_eq_true]
 intro x hx
 obtain⟨n,_,rfl⟩:=List.mem_map.mp hx
 rfl
def aZ:List Int→List Int→List Int
 | acc,[]=>acc
 | acc,p :: ps=>aZ (if p∈acc then acc else acc++[p]) ps
theorem zdn:∀(ps acc:List Int),(aZ acc ps).length≤acc.length+ps.length
 | [],acc=>by simp [aZ]
 | p :: ps,acc=>by
  unfold aZ
  have h:=zdn ps (if p∈acc then acc else acc++[p])
  split at h <;> simp only[lAq,List.length_cons,lS,List.length_nil]at h ⊢ <;> split <;> simp_all <;> lia
theorem ze1 {ps:List Int} {i:Nat} {k:Int}:∀ {acc:List Int},ps[i]?=some k→aZ acc (ps.take (i+1))=if k∈aZ acc (ps.take i) then aZ acc (ps.take i) else aZ acc (ps.take i)++[k]:=by
 induction ps generalizing i with
 | nil=>intro acc h;simp at h
 | cons p ps ih =>
  intro acc h
  cases i with
  | zero =>
   simp at h
   subst h
   simp [aZ]
  | succ i =>
   simp only[List.take_succ_cons,aZ]
   exact ih (by simpa using h)
theorem zi1 {n:Int}:∀(ps acc:List Int),n∈aZ acc ps↔n∈acc∨n∈ps
 | [],acc=>by simp [aZ]
 | p :: ps,acc=>by
  unfold aZ
  rw[zi1 ps]
  by_cases e:p∈acc
  ·rw[if_pos e]
   constructor
   ·rintro (h | h)
    ·exact .inl h
    ·exact .inr (List.mem_cons_of_mem _ h)
   ·rintro (h | h)
    ·exact .inl h
    ·rcases List.mem_cons.mp h with rfl | h
     ·exact .inl e
     ·exact .inr h
  ·rw[if_neg e]
   simp only[List.mem_append,List.mem_cons,List.not_mem_nil,or_false]
   exact or_assoc
theorem zhw:∀(ps acc:List Int),(acc++ps).Nodup→aZ acc ps=acc++ps
 | [],acc,_=>by simp [aZ]
 | p :: ps,acc,h=>by
  have hp:p∉acc:=λhm=>by
   have:=(List.nodup_append.mp h).2.2 p hm p List.mem_cons_self
   exact this rfl
  unfold aZ
  rw[if_neg hp,zhw ps (acc++[p]) (by simpa using h)]
  simp
structure zcw (H:Hp) (d:Addr) (hs:List Int):Prop where
 ex:∃ kvs:List (Key × V),H d=some (.dK kvs)∧(∀ n:Int,(zaU kvs (Sum.inl n)).isSome=decide (n∈hs))∧kvs.length≤hs.length
theorem zfD (kvs:List (Key × V)) (k:Key) (v:V):(zbL kvs k v).length≤kvs.length+1:=by
 unfold zbL
 split
 ·rw[lM];lia
 ·rw[lAq];simp
theorem zhY (kvs:List (Key × V)) (n m:Int) (v:V):(zaU (zbL kvs (Sum.inl n) v) (Sum.inl m)).isSome=(decide (m=n)||(zaU kvs (Sum.inl m)).isSome):=by
 rw[zfy]
 by_cases e:m=n
 ·rw[if_pos (by rw[e]),dTq e]
  rfl
 ·rw[if_neg (λz=>e (by injection z)),dFq e,Bool.false_or]
theorem zcw.put {H:Hp} {d:Addr} {hs:List Int} {kvs:List (Key × V)} {n:Int} {v:V} (h2:∀ n:Int,(zaU kvs (Sum.inl n)).isSome=decide (n∈hs)) (h3:kvs.length≤hs.length):zcw (upd H d (.dK (zbL kvs (Sum.inl n) v))) d (hs++[n]):=by
 refine⟨_,af,λm=>?_,?_⟩
 ·rw[zhY,h2]
  by_cases e:m=n
  ·subst e
   simp
  ·simp [e]
 ·have:=zfD kvs (Sum.inl n) v
  rw[lAq]
  simp only[lS]
  lia
def tkv (ps:List Int):List (Key × V):=ps.map λp=>(Sum.inl p,V.bl true)
theorem zkN:∀ ps:List Int,(∀ n:Int,(zaU (zbl [] (tkv ps)) (Sum.inl n)).isSome=decide (n∈ps))∧(zbl [] (tkv ps)).length≤ps.length:=by
 intro ps
 suffices h:∀(kvs:List (Key × V)) (hs:List Int),(∀ n:Int,(zaU kvs (Sum.inl n)).isSome=decide (n∈hs))→kvs.length≤hs.length→(∀ n:Int,(zaU (zbl kvs (tkv ps)) (Sum.inl n)).isSome=decide (n∈hs++ps))∧(zbl kvs (tkv ps)).length≤(hs++ps).length by
  have:=h [] [] (λn=>by simp [zl0]) (nRq _)
  simpa using this
 induction ps with
 | nil=>intro kvs hs h1 h2;simpa [tkv,zbl] using ⟨h1,h2⟩
 | cons p ps ih =>
  intro kvs hs h1 h2
  have e:zbl kvs (tkv (p :: ps))=zbl (zbL kvs (Sum.inl p) (.bl true)) (tkv ps):=rfl
  rw[e,show hs++p :: ps=(hs++[p])++ps by simp]
  refine ih _ _ (λn=>?_) ?_
  ·rw[zhY,h1]
   by_cases e:n=p
   ·subst e
    simp
   ·simp [e]
  ·have:=zfD kvs (Sum.inl p) (.bl true)
   rw[lAq]
   simp only[lS]
   lia
theorem zcw.of {H:Hp} {d:Addr} {ps:List Int}:zcw (upd H d (.dK (zbl [] (tkv ps)))) d ps:=⟨_,af,(zkN ps).1,(zkN ps).2⟩
theorem zcw.same {H H':Hp} {d:Addr} {hs:List Int} (h:zcw H d hs) (s:ah H H'):zcw H' d hs:=by
 obtain⟨kvs,h1,h2,h3⟩:=h.ex
 exact⟨kvs,s _ _ h1,h2,h3⟩
def nf (row held:List Int):List Int:=aZ [] (row.filter λp=>decide (-p∉held))
def zas (Rs:List (List Int)) (h:Int):List Int:=Rs.getD h.toNat []
def goL (Rs:List (List Int)):List Int→List Int→Bool
 | _,[]=>false
 | held,[h]=>(nf (zas Rs h) held).isEmpty
 | held,h :: h' :: r=>match nf (zas Rs h) held with
  | [x]=>if x∈held then false else goL Rs (held++[x]) (h' :: r)
  | _=>false
def zcb (n:Nat) (hs:List Int):Bool:=hs.isEmpty||hs.any (λh=>decide (h < 0))||hs.any (λh=>decide ((n:Int)≤h))
def zcP (Rs:List (List Int)) (ps hs:List Int):Bool:=if zcb Rs.length hs=true then false else goL Rs (ps.map λp=>-p) hs
def zbT (row held:List Int):Option (List Int):=if row.any (λp=>decide (p∈held))=true then none else some (row.filter λp=>decide (-p∉held))
def zbE (Rs:List (List Int)):List Int→List Int→Bool
 | _,[]=>false
 | held,[h]=>match zbT (zas Rs h) held with
  | some l=>l.isEmpty
  | none=>false
 | held,h :: h' :: r=>match zbT (zas Rs h) held with
  | some [x]=>zbE Rs (held++[x]) (h' :: r)
  | _=>false
def Cons (held:List Int):Prop:=∀ x∈held,-x∉held
theorem zmv {Rs:List (List Int)} (hn:∀ r∈Rs,r.Nodup∧∀ x∈r,x≠0):∀(hs held:List Int),Cons held→goL Rs held hs=zbE Rs held hs:=by
 have rowOk:∀ h:Int,(zas Rs h).Nodup∧∀ x∈zas Rs h,x≠0:=λh=>by
  unfold zas
  rw[List.getD_eq_getElem?_getD]
  cases e:Rs[h.toNat]? with
  | none=>exact⟨List.nodup_nil,λx hx=>nomatch hx⟩
  | some r=>exact hn r (mOq e)
 have key:∀(row held:List Int),row.Nodup→Cons held→(zbT row held=none→∃ p∈nf row held,p∈held)∧∀ l,zbT row held=some l→nf row held=l∧∀ x∈l,x∈row∧x∉held∧-x∉held:=by
  intro row held nd hc
  unfold zbT
  by_cases e:row.any (λp=>decide (p∈held))=true
  ·rw[if_pos e]
   refine⟨λ_=>?_,(λl z=>nomatch z)⟩
   obtain⟨p,hp,hq⟩:=List.any_eq_true.mp e
   have hq':=oDq hq
   refine⟨p,?_,hq'⟩
   unfold nf
   rw[zi1]
   exact .inr (List.mem_filter.mpr ⟨hp,dTq (hc p hq')⟩)
  ·rw[if_neg e]
   refine⟨(λz=>nomatch z),λl z=>?_⟩
   cases z
   refine⟨?_,λx hx=>?_⟩
   ·unfold nf
    rw[zhw _ [] (by rw[List.nil_append];exact List.Pairwise.filter _ nd)]
    rfl
   ·obtain⟨h1,h2⟩:=List.mem_filter.mp hx
    exact⟨h1,λz=>e (List.any_eq_true.mpr ⟨x,h1,dTq z⟩),oDq h2⟩
 intro hs
 induction hs with
 | nil=>intro held _;rfl
 | cons h t ih =>
  intro held hc
  obtain⟨nd,nz⟩:=rowOk h
  obtain⟨k1,k2⟩:=key (zas Rs h) held nd hc
  cases t with
  | nil =>
   unfold goL zbE
   cases e:zbT (zas Rs h) held with
   | none =>
    obtain⟨p,hp,_⟩:=k1 e
    cases q:nf (zas Rs h) held with
    | nil=>rw[q]at hp;cases hp
    | cons _ _=>rfl
   | some l=>rw[(k2 l e).1]
  | cons h' r =>
   unfold goL zbE
   cases e:zbT (zas Rs h) held with
   | none =>
    obtain⟨p,hp,hq⟩:=k1 e
    match q:nf (zas Rs h) held,hp with
    | [x],hp =>
     have e2:p=x:=mSq hp
     subst e2
     simp [hq]
    | [],hp=>cases hp
    | _ :: _ :: _,_=>rfl
   | some l =>
    obtain⟨e1,e2⟩:=k2 l e
    rw[e1]
    match l,e2 with
    | [x],e2 =>
     obtain⟨x1,x2,x3⟩:=e2 x List.mem_cons_self
     simp only[if_neg x2]
     refine ih (held++[x]) λy hy=>?_
     have xz:=nz x x1
     simp only[List.mem_append,List.mem_singleton]at hy ⊢
     rintro (z | z)
     ·rcases hy with hy | rfl
      ·exact hc y hy z
      ·exact x3 z
     ·rcases hy with hy | rfl
      ·have:y=-x:=by lia
       rw[this]at hy
       exact x3 hy
      ·lia
    | [],_=>rfl
    | _ :: _ :: _,_=>rfl
end L2
namespace L2
open PySem PySem.Spec PyProof.Rows
theorem zkb (val:Nat→Int):∀ k,argBest (λi j=>decide (val i < val j)) k≤k∧∀ i,i≤k→val (argBest (λi j=>decide (val i < val j)) k)≤val i
 | 0=>⟨nRq _,λi hi=>by
   have e:i=0:=by lia
   subst e
   exact Int.le_refl _⟩
 | k+1=>by
  obtain⟨h1,h2⟩:=zkb val k
  unfold argBest
  by_cases e:val (k+1) < val (argBest (λi j=>decide (val i < val j)) k)
  ·rw[if_pos (dTq e)]
   refine⟨nRq _,λi hi=>?_⟩
   by_cases hk:i=k+1
   ·rw[hk]
    exact Int.le_refl _
   ·have:=h2 i (by lia)
    lia
  ·rw[if_neg (λz=>e (oDq z))]
   refine⟨by lia,λi hi=>?_⟩
   by_cases hk:i=k+1
   ·rw[hk]
    lia
   ·exact h2 i (by lia)
theorem zkc (val:Nat→Int):∀ k,argBest (λi j=>decide (val i > val j)) k≤k∧∀ i,i≤k→val i≤val (argBest (λi j=>decide (val i > val j)) k)
 | 0=>⟨nRq _,λi hi=>by
   have e:i=0:=by lia
   subst e
   exact Int.le_refl _⟩
 | k+1=>by
  obtain⟨h1,h2⟩:=zkc val k
  unfold argBest
  by_cases e:val (k+1) > val (argBest (λi j=>decide (val i > val j)) k)
  ·rw[if_pos (dTq e)]
   refine⟨nRq _,λi hi=>?_⟩
   by_cases hk:i=k+1
   ·rw[hk]
    exact Int.le_refl _
   ·have:=h2 i (by lia)
    lia
  ·rw[if_neg (λz=>e (oDq z))]
   refine⟨by lia,λi hi=>?_⟩
   by_cases hk:i=k+1
   ·rw[hk]
    lia
   ·exact h2 i (by lia)
theorem zjc {ns:List Int} {i:Nat} (h:i < ns.length):ns.getD i 0∈ns:=by
 rw[List.getD_eq_getElem?_getD,gG h]
 exact List.getElem_mem h
theorem zi5 {ns:List Int} {n:Int} (h:n∈ns):∃ i,i < ns.length∧ns.getD i 0=n:=by
 obtain⟨i,hi,e⟩:=List.mem_iff_getElem.mp h
 exact⟨i,hi,by rw[List.getD_eq_getElem?_getD,gG hi];exact e⟩
section
variable {X:Cx}
theorem ziK:OpR X (compareOp .Is) (λx y H Q=>∃ a b,x=.bl a∧y=.bl b∧Q (.bl (a == b)) H):=by
 intro pins s σ H x y v u Q I rx ry h
 obtain⟨a,b,rfl,rfl,q⟩:=h
 cases rx
 cases ry
 exact is_bool (zan I q rfl)
theorem zeg {ns:List Int} {its:List Value} (rv:aW (ns.map V.int) its):∀(i:Nat) (v:Value),its.toArray[i]?=some v→∃ t,v=.int (ns.getD i 0) t:=λi v hv=>by
 have hv':its[i]?=some v:=by simpa using hv
 have hi:i < its.length:=(gEq hv').1
 have hl:=rv.length
 rw[lM]at hl
 have hb:ns[i]?=some (ns.getD i 0):=by
  rw[List.getD_eq_getElem?_getD,gG (by lia)]
  rfl
 obtain⟨w',e1,e2⟩:=rv.get (i:=i) (x:=.int (ns.getD i 0)) (by rw[List.getElem?_map,hb];rfl)
 rw[hv']at e1
 cases e1
 exact e2
theorem zie (hc:X.calm=true):zbp X (.builtin "min") (λxs H Q=>∃(p:Addr) (ns:List Int),xs=[.ref p]∧zko X.K H p ns∧ns≠[]∧∀ m,m∈ns→(∀ n∈ns,m≤n)→Q (.int m) H):=by
 intro pins s σ H xs us Q I r h
 obtain⟨p,ns,rfl,hq,hne,q⟩:=h
 obtain⟨u,rfl,ru⟩:=zcc r
 cases (show u=Value.ref p from ru)
 have fin:∀ {its:List Value} {v:Value} {h':Heap} {tk:Nat},aW (ns.map V.int) its→its.toArray[argBest (λi j=>decide (ns.getD i 0 < ns.getD j 0)) (its.toArray.size - 1)]?=some v→(∀ b o,s.heap.get? b=some o→h'.get? b=some o)→EP X pins σ Q v { s with heap:=h',toks:=tk }:=λ{its v h' tk} rv hP hk=>by
  obtain⟨t,rfl⟩:=zeg rv _ _ hP
  have hl:=rv.length
  rw[lM]at hl
  have n0:0 < ns.length:=List.length_pos_iff.mpr hne
  have es:its.toArray.size - 1=ns.length - 1:=by simp only[sAq];lia
  rw[es]
  obtain⟨b1,b2⟩:=zkb (λi=>ns.getD i 0) (ns.length - 1)
  exact⟨.int _,H,I.kept (t':=tk) hk,⟨t,rfl⟩,q _ (zjc (by lia)) λn hn=>by
   obtain⟨i,hi,e⟩:=zi5 hn
   rw[←e]
   exact b2 i (by lia)⟩
 have n0:0 < ns.length:=List.length_pos_iff.mpr hne
 rcases hq with hq | hq
 ·obtain⟨its,rv,pl,hz⟩:=I.list hq
  have hl:=rv.length
  rw[lM]at hl
  have hp:p < s.heap.objs.size:=by
   obtain⟨o,ho,_⟩:=pl.isList
   exact hLq ho
  refine call_min_walk (wpAny_pyIter_list pl.isList ?_)
  refine⟨s.heap.objs.size,[s.heap.objs.size,p],[s.heap.objs.size],its.toArray.size,_,_,λi j=>decide (ns.getD i 0 < ns.getD j 0),rfl,Walks.list (show X.A.in1.handled=none from I.ok.hd hc) _ p (Nat.ne_of_lt hp) its.toArray,⟨⟨_,Heap.get?_push_size _ rfl,rfl,rfl⟩,pl.isList.push _⟩,λb hb=>?_,by simp only[sAq];lia,CmpOf.ints_lt (λi=>ns.getD i 0) (zeg rv),λv h' tk hP hk=>fin rv hP λb o e=>hk b o (λhm=>?_) (hG _ e)⟩
  ·show b < (s.heap.push _).objs.size
   rw[Heap.size_push]
   simp only[List.mem_cons,List.not_mem_nil,or_false]at hb
   rcases hb with rfl | rfl
   ·exact Nat.lt_succ_self _
   ·exact Nat.lt_succ_of_lt hp
  ·have:b=s.heap.objs.size:=by simpa using hm
   exact absurd (hLq e) (by rw[this];exact Nat.lt_irrefl _)
 ·obtain⟨its,rv,pl,hz⟩:=I.tuple hq
  have hl:=rv.length
  rw[lM]at hl
  have pt:s.heap.IsTuple p its.toArray:=pl
  have hp:p < s.heap.objs.size:=by
   obtain⟨o,ho,_⟩:=id pt
   exact hLq ho
  refine call_min_walk (wpAny_pyIter_tuple pt ?_)
  refine⟨s.heap.objs.size,[s.heap.objs.size,p],[s.heap.objs.size],its.toArray.size,_,_,λi j=>decide (ns.getD i 0 < ns.getD j 0),rfl,Walks.tuple (show X.A.in1.handled=none from I.ok.hd hc) _ p (Nat.ne_of_lt hp) its.toArray,⟨⟨_,Heap.get?_push_size _ rfl,rfl,rfl⟩,pt.push _⟩,λb hb=>?_,by simp only[sAq];lia,CmpOf.ints_lt (λi=>ns.getD i 0) (zeg rv),λv h' tk hP hk=>fin rv hP λb o e=>hk b o (λhm=>?_) (hG _ e)⟩
  ·show b < (s.heap.push _).objs.size
   rw[Heap.size_push]
   simp only[List.mem_cons,List.not_mem_nil,or_false]at hb
   rcases hb with rfl | rfl
   ·exact Nat.lt_succ_self _
   ·exact Nat.lt_succ_of_lt hp
  ·have:b=s.heap.objs.size:=by simpa using hm
   exact absurd (hLq e) (by rw[this];exact Nat.lt_irrefl _)
theorem zif (hc:X.calm=true):zbp X (.builtin "max") (λxs H Q=>∃(p:Addr) (ns:List Int),xs=[.ref p]∧zko X.K H p ns∧ns≠[]∧∀ m,m∈ns→(∀ n∈ns,n≤m)→Q (.int m) H):=by
 intro pins s σ H xs us Q I r h
 obtain⟨p,ns,rfl,hq,hne,q⟩:=h
 obtain⟨u,rfl,ru⟩:=zcc r
 cases (show u=Value.ref p from ru)
 have fin:∀ {its:List Value} {v:Value} {h':Heap} {tk:Nat},aW (ns.map V.int) its→its.toArray[argBest (λi j=>decide (ns.getD i 0 > ns.getD j 0)) (its.toArray.size - 1)]?=some v→(∀ b o,s.heap.get? b=some o→h'.get? b=some o)→EP X pins σ Q v { s with heap:=h',toks:=tk }:=λ{its v h' tk} rv hP hk=>by
  obtain⟨t,rfl⟩:=zeg rv _ _ hP
  have hl:=rv.length
  rw[lM]at hl
  have n0:0 < ns.length:=List.length_pos_iff.mpr hne
  have es:its.toArray.size - 1=ns.length - 1:=by simp only[sAq];lia
  rw[es]
  obtain⟨b1,b2⟩:=zkc (λi=>ns.getD i 0) (ns.length - 1)
  exact⟨.int _,H,I.kept (t':=tk) hk,⟨t,rfl⟩,q _ (zjc (by lia)) λn hn=>by
   obtain⟨i,hi,e⟩:=zi5 hn
   rw[←e]
   exact b2 i (by lia)⟩
 have n0:0 < ns.length:=List.length_pos_iff.mpr hne
 rcases hq with hq | hq
 ·obtain⟨its,rv,pl,hz⟩:=I.list hq
  have hl:=rv.length
  rw[lM]at hl
  have hp:p < s.heap.objs.size:=by
   obtain⟨o,ho,_⟩:=pl.isList
   exact hLq ho
  refine call_max_walk (wpAny_pyIter_list pl.isList ?_)
  refine⟨s.heap.objs.size,[s.heap.objs.size,p],[s.heap.objs.size],its.toArray.size,_,_,λi j=>decide (ns.getD i 0 > ns.getD j 0),rfl,Walks.list (show X.A.in1.handled=none from I.ok.hd hc) _ p (Nat.ne_of_lt hp) its.toArray,⟨⟨_,Heap.get?_push_size _ rfl,rfl,rfl⟩,pl.isList.push _⟩,λb hb=>?_,by simp only[sAq];lia,CmpOf.ints_gt (λi=>ns.getD i 0) (zeg rv),λv h' tk hP hk=>fin rv hP λb o e=>hk b o (λhm=>?_) (hG _ e)⟩
  ·show b < (s.heap.push _).objs.size
   rw[Heap.size_push]
   simp only[List.mem_cons,List.not_mem_nil,or_false]at hb
   rcases hb with rfl | rfl
   ·exact Nat.lt_succ_self _
   ·exact Nat.lt_succ_of_lt hp
  ·have:b=s.heap.objs.size:=by simpa using hm
   exact absurd (hLq e) (by rw[this];exact Nat.lt_irrefl _)
 ·obtain⟨its,rv,pl,hz⟩:=I.tuple hq
  have hl:=rv.length
  rw[lM]at hl
  have pt:s.heap.IsTuple p its.toArray:=pl
  have hp:p < s.heap.objs.size:=by
   obtain⟨o,ho,_⟩:=id pt
   exact hLq ho
  refine call_max_walk (wpAny_pyIter_tuple pt ?_)
  refine⟨s.heap.objs.size,[s.heap.objs.size,p],[s.heap.objs.size],its.toArray.size,_,_,λi j=>decide (ns.getD i 0 > ns.getD j 0),rfl,Walks.tuple (show X.A.in1.handled=none from I.ok.hd hc) _ p (Nat.ne_of_lt hp) its.toArray,⟨⟨_,Heap.get?_push_size _ rfl,rfl,rfl⟩,pt.push _⟩,λb hb=>?_,by simp only[sAq];lia,CmpOf.ints_gt (λi=>ns.getD i 0) (zeg rv),λv h' tk hP hk=>fin rv hP λb o e=>hk b o (λhm=>?_) (hG _ e)⟩
  ·show b < (s.heap.push _).objs.size
   rw[Heap.size_push]
   simp only[List.mem_cons,List.not_mem_nil,or_false]at hb
   rcases hb with rfl | rfl
   ·exact Nat.lt_succ_self _
   ·exact Nat.lt_succ_of_lt hp
  ·have:b=s.heap.objs.size:=by simpa using hm
   exact absurd (hLq e) (by rw[this];exact Nat.lt_irrefl _)
end
end L2
namespace L2
open PySem PySem.Spec PyProof.Rows
section
variable {X:Cx} {N':List Str} {scope:Scope} {cl:List (Str × Addr)} {fp:List Addr} {pins:List (Addr × Obj)} {σ:St} {H:Hp} {s:Shared}
end
section
variable {X:Cx} {N':List Str} {scope:Scope} {elt iter tg:Expr} {L:Nat} {pos:Pos} {wi:TI} {g:TG} {te:TE} {ix:List Nat}
end
section
variable {X:Cx} {N':List Str} {scope:Scope} {elt iter c tg:Expr} {L:Nat} {pos:Pos} {wi:TI} {g:TG} {tc:TT} {te:TE} {ix:List Nat}
end
end L2
namespace L2
open PySem PySem.Spec PyProof.Rows
theorem Inv.turnedLaid {X:Cx} {pins:List (Addr × Obj)} {σ:St} {H:Hp} {s:Shared} {h':Heap} {fp:List Addr} {a:Addr} {o:HO} {t':Nat} (I:Inv X pins σ H s) (hf:∀ b∈fp,zcv X pins H b) (k:∀ b u,b∉fp→s.heap.get? b=some u→h'.get? b=some u) (hp:s.heap.objs.size≤a) (new:zaE X.prog X.w (upd H a o) h' a o) :
  Inv X pins σ (upd H a o) { s with heap:=h',toks:=t' }:=by
 have hn:=I.hok.fresh hp
 have nfp:∀ b u,H b=some u→b∉fp:=λb u e z=>by rw[(hf b z).1]at e;cases e
 have un:Un (frs X.stack) fp H (upd H a o) s.heap h':=⟨λb u q _ _ hx=>k b u hx q,λb u q _ _ hx=>⟨u.slots,k b u hx q⟩,λb u q n _=>by rw[aD (Nat.ne_of_lt (Nat.lt_of_lt_of_le (hLq q) hp))];exact n,
  λb u q hx=>⟨u,k b u hx q⟩,λb xs q=>by rw[aD (zae q hn)];exact q,λb u xs q=>by rw[aD (zae q hn)];exact q,λb ps q=>⟨#[],by rw[aD (zae q hn),q];simp⟩⟩
 have hok:HOk X.prog X.w (upd H a o) h':=λb u e=>by
  by_cases hb:b=a
  ·subst hb;rw[af]at e;cases e;exact new
  ·rw[aD hb]at e
   refine(I.hok b u e).stay (λc v hc q=>k c v ?_ q) (λc q=>by rw[aD (zae q hn)];exact q) λc xs q=>by rw[aD (zae q hn)];exact q
   rcases hc with z | z
   ·rw[z];exact nfp b u e
   ·exact nfp c _ z
 exact I.call (g':=s.gens) (d':=s.drawn) (ch:=fp) un hok I.bare λb hb=>⟨(hf b hb).2.2.2.1,(hf b hb).2.1,(hf b hb).2.2.2.2.1,(hf b hb).2.2.2.2.2⟩
def Ite (K:W.Frag) (a:Addr):It :=
 ⟨λi H=>∃ xs x,SqL K H a xs∧xs[i]?=some x,λi H x H'=>∃ p y,x=.ref p∧H p=none∧H'=upd H p (.tup [.int i,y])∧∀ xs,SqL K H a xs→xs[i]?=some y,λi H=>∃ xs,SqL K H a xs∧xs.length≤i⟩
theorem zmI {K:W.Frag} {a:Addr} {xs:List V}:Wk (Ite K a) xs.length (λH=>SqL K H a xs):=⟨λ_ _ h hi=>⟨xs,h,hi⟩,λi _ h hi=>⟨xs,xs[i],h,by simp [hi]⟩⟩
theorem zlk {P:Program} {w:World} {K:W.Frag} {elts:List Expr} {x1:Nat} {pos:Pos} (a e it:Addr) (hei:e≠it):zgS P w K (.Tuple elts x1 pos) (Ite K a) [e,it] e (λi h=>(∃ old,IsEnum h e it ((i:Nat):Int) old)∧h.IsListIter it a i) where
 mem:=by simp
 obj:=λi h st b hb=>by
  obtain⟨⟨old,he⟩,o,ho,hc,hd⟩:=st
  rcases List.mem_cons.mp hb with rfl | hb
  ·exact⟨_,he,λv z=>by
    have z':Data.fields _=Data.cell v:=z
    cases z'⟩
  ·have e':=mSq hb
   subst e'
   exact⟨o,ho,λv z=>by rw[hd]at z;cases z⟩
 keep:=λi h h' st k=>⟨by
  obtain⟨old,he⟩:=st.1
  exact⟨old,k e (by simp) _ he⟩,st.2.at λo q=>k it (by simp) o q⟩
 item:=by
  intro X hP hw hK hc i pins s σ H E I hf st hg
  subst hP hw hK
  obtain⟨xs,x,hq,hx⟩:=hg
  obtain⟨its,rv,p,hz⟩:=I.list hq
  obtain⟨u,hu,ru⟩:=rv.get hx
  obtain⟨⟨old,he⟩,hit⟩:=st
  obtain⟨oi,hoi,hci,hdi⟩:=id hit
  refine wpAny_pyNext_enum_item he hit p.isList (x:=u) (by simpa using hu) hei λh' ho st' hT hsz hk=>?_
  refine⟨_,rfl,wpAny_letOwnedTupleGo_enum ho λh2 he2 hs2=>?_⟩
  replace hs2:Heap.SameBut e h' h2:=hs2
  have heH:e < s.heap.objs.size:=hLq he
  have hiH:it < s.heap.objs.size:=hLq hoi
  have hT2:h2.get? s.heap.objs.size=some { cls:=.type "tuple",data:=.seq #[.int i s.toks,u] }:=(hs2.2 _ (Nat.ne_of_gt heH)).trans hT
  have kk:∀ b o,b∉[e,it]→s.heap.get? b=some o→h2.get? b=some o:=λb o hb q=>by
   have hbe:b≠e:=λz=>hb (by simp [z])
   have hbi:b≠it:=λz=>hb (by simp [z])
   exact(hs2.2 b hbe).trans (hk b o hbe hbi q)
  have new:zaE X.prog X.w (upd H s.heap.objs.size (.tup [.int i,x])) h2 s.heap.objs.size (.tup [.int i,x]):=by
   refine⟨?_,[.int i s.toks,u],.cons ⟨_,rfl⟩ (.cons ru .nil),_,hT2,?_⟩
   ·exact Nat.le_of_lt (zaJ (show 2≤1000 by decide))
   ·first | exact⟨rfl,rfl,_,rfl⟩ | exact⟨rfl,_,rfl⟩ | exact⟨rfl,rfl⟩
  refine⟨.ref s.heap.objs.size,_,I.turnedLaid (t':=s.toks+1) hf kk (nRq _) new,rfl,⟨_,x,rfl,I.fresh,rfl,λys hy=>by rw[I.list_inj hy hq];exact hx⟩,⟨⟨u,by simpa using he2⟩,?_⟩,?_⟩
  ·exact st'.at λo q=>(hs2.2 it (Ne.symm hei)).trans q
  ·intro b hb
   have hlt':b < s.heap.objs.size:=by
    rcases List.mem_cons.mp hb with rfl | hb
    ·exact heH
    ·rw[mSq hb];exact hiH
   rw[aD (Nat.ne_of_lt hlt')]
   exact(hf b hb).1
 done:=by
  intro X hP hw hK hc i pins s σ H E I hf st hg
  subst hP hw hK
  obtain⟨xs,hq,hx⟩:=hg
  obtain⟨its,rv,p,hz⟩:=I.list hq
  obtain⟨⟨old,he⟩,hit⟩:=st
  obtain⟨f0,f1,f2,f3,f4,f5⟩:=hf it (by simp)
  have hl:=rv.length
  exact wpAny_pyNext_enum_end (I.ok.hd hc) he hit p.isList (by simp;lia) λh' eb=>⟨rfl,I.turned (t':=s.toks) (λb o hb q=>eb b o hb q) f0 f1 f3 f4 f5⟩
 self:=λ_ _ _ _ _ st h=>by
  obtain⟨⟨old,he⟩,_⟩:=st
  exact wpAny_pyIter_enum he h
section
variable {X:Cx}
def iEnum (K:W.Frag) (ta:TA):TI:=λσ H R=>ta σ H λvs H1=>∃ a,vs=[.ref a]∧(∃ xs,SqL K H1 a xs)∧R (Ite K a) H1
theorem zmZ {elts:List Expr} {x1:Nat} {pt:Pos} {a:Expr} {ta:TA} {p pos:Pos} (hg:Gl X "enumerate") (hm:X.mg "enumerate"=none) (ha:PA X [a] ta) (hs:starEach [a] X.env=[(false,eval a X.env)]:=by rfl):PI X (.Tuple elts x1 pt) (.Call (.Name "enumerate" p) [a] [] pos) (iEnum X.K ta):=by
 intro pins s σ H R I h
 refine Call_ (zdX I hg hm boot_enumerate (PyProof.Rows.callWith_type1 (thn (ha pos pins s σ H _ I h) λus s1 ⟨vs,H1,I1,r1,q1⟩=>?_) hs rfl))
 obtain⟨a,e,⟨xs,hq⟩,q⟩:=q1
 subst e
 obtain⟨u,rfl,ru⟩:=r1.one
 cases ru
 obtain⟨its,rv,p,hz⟩:=I1.list hq
 refine call_enumerate_list p.isList λh' he hit hz' kk=>?_
 refine wpAny_pyIter_enum he ?_
 have I2:Inv X pins σ H1 { s1 with heap:=h' }:=I1.kept (t':=s1.toks) kk
 refine⟨_,[s1.heap.objs.size+1,s1.heap.objs.size],_,Ite X.K a,H1,rfl,I2,zlk a (s1.heap.objs.size+1) s1.heap.objs.size (Nat.succ_ne_self _),⟨⟨_,he⟩,hit⟩,λb hb=>?_,q⟩
 have hle:s1.heap.objs.size≤b:=by
  rcases List.mem_cons.mp hb with rfl | hb
  ·lia
  ·rw[mSq hb];exact nRq _
 exact I1.fpOk hle (I1.hok.fresh hle)
inductive rIsT (K:W.Frag):List V→Hp→VK→Prop|m{xs H Q} p ys n b:xs=[.ref p,.ty n]→SqT K H p ys→W.kitOne K (.type "tuple") (.type n)=some b→Q (.bl b) H→rIsT K xs H Q
theorem zjs:zbp X (.builtin "isinstance") (rIsT X.K):=by
 intro pins s σ H xs us Q I r h
 obtain⟨p,ys,n,b,rfl,hq,hk,q⟩:=h
 obtain⟨u,w',rfl,rx,ry⟩:=zgq r
 cases (show w'=Value.type n from ry)
 cases rx
 obtain⟨its,rv,⟨o,h1,h2,_⟩,hz⟩:=I.tuple hq
 exact W.kia_one W.kitx_tuple I.kIn ⟨o,h1,h2⟩ hk (λz=>nomatch z) λtk=>⟨.bl b,H,I.tok _,rfl,q⟩
theorem zjt:zbp X (.builtin "isinstance") (λxs H Q=>∃ p ys n b,xs=[.ref p,.ty n]∧SqL X.K H p ys∧W.kitOne X.K (.type "list") (.type n)=some b∧Q (.bl b) H):=by
 intro pins s σ H xs us Q I r h
 obtain⟨p,ys,n,b,rfl,hq,hk,q⟩:=h
 obtain⟨u,w',rfl,rx,ry⟩:=zgq r
 cases (show w'=Value.type n from ry)
 cases rx
 obtain⟨its,rv,pp,hz⟩:=I.list hq
 obtain⟨o,h1,h2,_⟩:=pp.isList
 exact W.kia_one W.kitx_list I.kIn ⟨o,h1,h2⟩ hk (λz=>nomatch z) λtk=>⟨.bl b,H,I.tok _,rfl,q⟩
end
end L2
namespace L2
open PySem
def left (U hs:List Int):Nat:=(U.filter λp=>decide (p∉hs)).length
def ins {α:Type} (xs:List α) (i:Nat) (y:α):List α:=xs.take i++y :: xs.drop i
def zcE (d:Addr) (H H':Hp):Prop:=∀ b o,b≠d→H b=some o→H' b=some o
theorem zcE.refl (d:Addr) (H:Hp):zcE d H H:=λ_ _ _ h=>h
theorem zcE.trans {d:Addr} {H H1 H2:Hp} (a:zcE d H H1) (b:zcE d H1 H2):zcE d H H2:=λc o n h=>b c o n (a c o n h)
theorem ah.x {H H':Hp} (s:ah H H') (d:Addr):zcE d H H':=λb o _ h=>s b o h
theorem zcE.put {d:Addr} (H:Hp) (o:HO):zcE d H (upd H d o):=λb u n h=>by rw[aD n];exact h
theorem zcw.ne {H:Hp} {d l:Addr} {hs:List Int} {xs:List V} (h:zcw H d hs) (hl:H l=some (.lst xs)):l≠d:=λe=>by
 obtain⟨kvs,hk,_⟩:=h.ex
 rw[e,hk]at hl
 cases hl
theorem zcE.lst {d l:Addr} {H H':Hp} {hs:List Int} {xs:List V} (s:zcE d H H') (h:zcw H d hs) (hl:H l=some (.lst xs)):H' l=some (.lst xs):=s _ _ (h.ne hl) hl
end L2
namespace L2
open PySem PySem.Spec PyProof.Rows
section
variable {X:Cx}
end
end L2
namespace L2
open PySem PySem.Spec PyProof.Rows
section
variable {X:Cx} {tg:Expr}
end
end L2
namespace L2
open PySem PySem.Spec PyProof.Rows
set_option maxRecDepth 100000
section
variable {prog:Program} {w:World} {A:Around} {E:Value→Shared→Prop} {s:Shared} {J:Addr} {fp wr:List Addr} {G:Array GenState→Array GenState→Prop} {n:Nat} {P:Nat→Value→Prop} {St:Nat→Shared→Prop}
end
end L2
namespace L2
open PySem PySem.Spec PyProof.Rows
set_option maxRecDepth 100000
section
variable {prog:Program} {w:World} {A:Around} {R:Result→Shared→Prop} {J:Addr} {fp wr:List Addr} {n:Nat} {P:Nat→Value→Prop} {St:Nat→Heap→Prop} {kw:List (Str × Value)}
end
section
variable {prog:Program} {w:World} {A:Around} {E:Value→Shared→Prop} {s:Shared}
end
section
variable {X:Cx}
end
end L2
namespace HT
open PySem PyProof.Rows
section
variable {prog:Program} {w:World} {A:Around} {E:Value→Shared→Prop} {s:Shared}
theorem getItem_tuple_whole {t sl:Addr} {items:Array Value} {vl vu:Value} {lo hi:Option Int} {Q:Value→Shared→Prop} (ht:IsTup s.heap t items) (hs:s.heap.IsSliceOf sl vl vu .none) (pl:IsPart vl lo) (pu:IsPart vu hi)
  (hw:sIx items.size 0 lo=0∧sIx items.size items.size hi=items.size) (h:Q (.ref t) s):wpAny (model prog w) A (getItem (.ref t) (.ref sl)) Q E s:=by
 obtain⟨os,hos,hcs,hds⟩:=id hs
 have hTs:s.TypeIs (.ref sl) "slice":=⟨os,hos,hcs⟩
 unfold getItem
 try with_reducible refine wpAny_holding ?_
 first | refine wpAny_bind (wpAny_pure ?_) | skip
 refine wpAny_bind (wpAny_sequenceKey ht.typeIs (by decide) ?_)
 refine wpAny_bind (wpAny_callSpecial?_slot (name:=Str.ofString "__getitem__") ht.typeIs PyProof.Rows.slot_tuple_getitem
  (wpAny_call_entry PyProof.Rows.slot_tuple_getitem ht.typeIs entry_tuple_getitem ?_ (args_tuple_getitem _ _)))
 show wpAny _ _ (Builtin.Tuple.tupleItemsOf (.ref t) >>= _) _ _ s
 refine wpAny_bind (tupleItemsOf_ ht ?_)
 refine wpAny_bind (wpAny_typeOf hTs ?_)
 rw[if_pos (by decide)]
 refine wpAny_bind (zeN hs pl pu ?_)
 have yes:(((sIx items.size 0 lo:Nat):Int) == 0&&(1:Int) == 1&&(sIx items.size items.size hi - sIx items.size 0 lo) == items.size)=true:=by
  rw[hw.1,hw.2]
  simp
 show wpAny _ _ (if(((sIx items.size 0 lo:Nat):Int) == 0&&(1:Int) == 1&&(sIx items.size items.size hi - sIx items.size 0 lo) == items.size)=true then _ else _) _ _ s
 rw[if_pos yes]
 refine wpAny_bind ?_
 unfold Builtin.Tuple.tupleIsExact
 refine wpAny_bind (wpAny_typeOf ht.typeIs (wpAny_pure ?_))
 rw[if_pos (by decide)]
 exact wpAny_bind (wpAny_rule (wpAny_pure ⟨_,rfl,wpAny_pure h⟩))
end
end HT
namespace L2
open PySem PySem.Spec PyProof.Rows
section
variable {X:Cx}
inductive zkj (K:W.Frag):V→Option Int→Option Int→Hp→VK→Prop|m{x lo hi H Q} a xs:x=.ref a→SqT K H a xs→(HT.sIx xs.length 0 lo=0∧HT.sIx xs.length xs.length hi=xs.length)→Q (.ref a) H→zkj K x lo hi H Q
theorem zmR:SlR X (zkj X.K):=by
 intro pins s σ H x v vl vu lo hi sl Q I rx hs pl pu h
 obtain⟨a,xs,rfl,hx,hw,q⟩:=h
 cases rx
 obtain⟨its,r,ht,hz⟩:=I.tuple hx
 have hlen:its.toArray.size=xs.length:=by rw[sAq];exact r.length.symm
 refine⟨"tuple",_,PyProof.Rows.slot_tuple_getitem.lookup,ht.typeIs,?_⟩
 exact HT.getItem_tuple_whole ht hs pl pu (by rw[hlen];exact hw) ⟨.ref a,H,I,rfl,q⟩
def rSlTA (K:W.Frag):V→Option Int→Option Int→Hp→VK→Prop:=λx lo hi H Q=>rSlT K x lo hi H Q∨zkj K x lo hi H Q
theorem zjI:SlR X (rSlTA X.K):=zff.or zmR
end
end L2
namespace L2
open PySem PySem.Spec PyProof.Rows
section
variable {X:Cx} {tg:Expr}
end
end L2
namespace L2
open PySem PySem.Spec PyProof.Rows
set_option maxRecDepth 100000
section
variable {X:Cx}
end
end L2
namespace L2
open PySem PySem.Spec PyProof.Rows
set_option maxRecDepth 100000
section
variable {X:Cx}
def zmL (ta:TA):TE:=λσ H Q=>ta σ H λvs H1=>∃ j:Int,vs=[.int j]∧∀ r,H1 r=none→Q (.ref r) (upd H1 r (.rng 0 j))
theorem zh3 {a:Expr} {ta:TA} {p pos:Pos} (hg:Gl X "range") (hm:X.mg "range"=none) (ha:PA X [a] ta) (hs:starEach [a] X.env=[(false,eval a X.env)]:=by rfl):PE X (.Call (.Name "range" p) [a] [] pos) (zmL ta):=by
 intro pins s σ H Q I h
 refine Call_ (zdX I hg hm boot_range (PyProof.Rows.callWith_type1 (thn (ha pos pins s σ H _ I h) λus s1 ⟨vs,H1,I1,r1,q1⟩=>?_) hs rfl))
 obtain⟨j,e,q⟩:=q1
 subst e
 cases r1 with
 | cons r rr =>
  cases rr
  obtain⟨t,rfl⟩:=r
  refine call_range_1 ?_
  refine⟨.ref s1.heap.objs.size,_,I1.laid (o:=.rng 0 j) (λb ob e=>hG _ e) (nRq _) ?_,rfl,q _ (I1.hok.fresh (nRq _))⟩
  exact⟨_,_,_,Heap.get?_push_size _ rfl⟩
theorem zfN (hc:X.calm=true):zbp X (.type "list") (λxs H Q=>∃ r j,xs=[.ref r]∧H r=some (.rng 0 j)∧0≤j∧j≤100000∧∀ l,H l=none→Q (.ref l) (upd H l (.lst (((List.range j.toNat).map λi:Nat=>(i:Int)).map V.int)))):=by
 intro pins s σ H xs us Q I r h
 obtain⟨r0,j,rfl,hr,j0,j1,q⟩:=h
 obtain⟨u,rfl,rx⟩:=zcc r
 cases rx
 obtain⟨t1,t2,t3,e⟩:=I.hok r0 _ hr
 have en:Builtin.Range.rangeSize 0 j 1=((j.toNat:Nat):Int):=by rw[rangeSize_one];split <;> lia
 refine call_list_range (I.ok.hd hc) e (small_one (by lia) (by lia) (by lia) (by lia)) en (by lia) λh' tk acc c kp e2 its=>?_
 have al:acc.toList.length=j.toNat:=by rw[Array.length_toList];exact its.1
 have rel:aW (((List.range j.toNat).map λi:Nat=>(i:Int)).map V.int) acc.toList:=by
  have key:∀(n:Nat) (L:List Value) (o:Nat),L.length=n→(∀ i v,L[i]?=some v→∃ t,v=Value.int (0+(((o+i:Nat):Nat):Int) * 1) t)→aW (((List.range' o n).map λi:Nat=>(i:Int)).map V.int) L:=by
   intro n
   induction n with
   | zero =>
    intro L o hl _
    cases L with
    | nil=>exact .nil
    | cons _ _=>cases hl
   | succ n ih =>
    intro L o hl hv
    match L,hl with
    | x :: L,hl =>
     refine .cons ?_ (ih L (o+1) (by simpa using hl) λi v e=>?_)
     ·obtain⟨t,e⟩:=hv 0 x rfl
      exact⟨t,by rw[e];congr 1;show(0:Int)+((o+0:Nat):Int) * 1=(o:Int);lia⟩
     ·obtain⟨t,e'⟩:=hv (i+1) v e
      exact⟨t,by rw[e'];congr 1;lia⟩
  have:=key j.toNat acc.toList 0 al λi v e=>by
   obtain⟨t,e'⟩:=its.2 i v (by rw[←Array.getElem?_toList];exact e)
   exact⟨t,by rw[e',Nat.zero_add]⟩
  rw[List.range_eq_range']
  exact this
 refine⟨.ref s.heap.objs.size,_,I.laid (t':=tk) kp (nRq _) (show zaE X.prog X.w _ h' _ (.lst (((List.range j.toNat).map λi:Nat=>(i:Int)).map V.int)) from⟨?_,acc.toList,c,rel,by rw[Array.toArray_toList];exact e2⟩),rfl,q _ (I.hok.fresh (nRq _))⟩
 rw[lM,lM,List.length_range,sizeLine_eq]
 lia
end
end L2
namespace L2
open PySem
def loF (x y:Int):Int:=if y < x then y else x
def hiF (x y:Int):Int:=if y > x then y else x
def mrg (hd:Int→Int) (a b:Int):Int→Int:=λt=>if hd t=hiF (hd a) (hd b) then loF (hd a) (hd b) else hd t
structure Hd (N:Nat) (hd:Int→Int):Prop where
 idem:∀ t,hd (hd t)=hd t
 le:∀ t,hd t≤t
 rng:∀ t,hd t≠t→0≤hd t∧t < (N:Int)
theorem Hd.zero (N:Nat):Hd N (λt=>t):=⟨λ_=>rfl,λ_=>Int.le_refl _,λ_ h=>absurd rfl h⟩
theorem lohi (x y:Int):loF x y≤hiF x y∧((loF x y=x∧hiF x y=y)∨(loF x y=y∧hiF x y=x)):=by
 unfold loF hiF
 split <;> split <;> lia
theorem Hd.in' {N:Nat} {hd:Int→Int} (h:Hd N hd) {a:Int} (ha:0≤a∧a < (N:Int)):0≤hd a∧hd a < (N:Int):=by
 have h1:=h.le a
 by_cases e:hd a=a
 ·rw[e];exact ha
 ·have:=h.rng a e
  lia
theorem Hd.lo_id {N:Nat} {hd:Int→Int} (h:Hd N hd) (a b:Int):hd (loF (hd a) (hd b))=loF (hd a) (hd b):=by
 rcases(lohi (hd a) (hd b)).2 with ⟨e,_⟩ | ⟨e,_⟩ <;> rw[e] <;> exact h.idem _
theorem Hd.hi_id {N:Nat} {hd:Int→Int} (h:Hd N hd) (a b:Int):hd (hiF (hd a) (hd b))=hiF (hd a) (hd b):=by
 rcases(lohi (hd a) (hd b)).2 with ⟨_,e⟩ | ⟨_,e⟩ <;> rw[e] <;> exact h.idem _
theorem zk0 {hd:Int→Int} {a b:Int} (e:loF (hd a) (hd b)=hiF (hd a) (hd b)):mrg hd a b=hd:=by
 funext t
 unfold mrg
 by_cases c:hd t=hiF (hd a) (hd b)
 ·rw[if_pos c,e,c]
 ·rw[if_neg c]
theorem Hd.mrg {N:Nat} {hd:Int→Int} (h:Hd N hd) {a b:Int} (ha:0≤a∧a < (N:Int)) (hb:0≤b∧b < (N:Int)):Hd N (mrg hd a b):=by
 have lh:=lohi (hd a) (hd b)
 have la:=h.in' ha
 have lb:=h.in' hb
 refine⟨λt=>?_,λt=>?_,λt=>?_⟩
 ·by_cases e:loF (hd a) (hd b)=hiF (hd a) (hd b)
  ·rw[zk0 e]
   exact h.idem t
  ·unfold L2.mrg
   by_cases c:hd t=hiF (hd a) (hd b)
   ·rw[if_pos c,h.lo_id,if_neg e]
   ·rw[if_neg c,h.idem,if_neg c]
 ·unfold L2.mrg
  have:=h.le t
  split <;> lia
 ·unfold L2.mrg
  intro z
  by_cases c:hd t=hiF (hd a) (hd b)
  ·rw[if_pos c]at z ⊢
   refine⟨by lia,?_⟩
   by_cases w:hd t=t
   ·lia
   ·exact(h.rng t w).2
  ·rw[if_neg c]at z ⊢
   exact h.rng t z
theorem znf {hd:Int→Int} {a b t u:Int}:mrg hd a b t=mrg hd a b u↔hd t=hd u∨(hd t=hd a∧hd u=hd b)∨(hd t=hd b∧hd u=hd a):=by
 have lh:=(lohi (hd a) (hd b)).2
 unfold mrg
 by_cases c:hd t=hiF (hd a) (hd b) <;> by_cases d:hd u=hiF (hd a) (hd b)
 ·rw[if_pos c,if_pos d]
  exact⟨λ_=>.inl (by rw[c,d]),λ_=>rfl⟩
 ·rw[if_pos c,if_neg d]
  rcases lh with ⟨e1,e2⟩ | ⟨e1,e2⟩ <;> rw[e1] <;> rw[e2]at c d
  ·exact⟨λz=>.inr (.inr ⟨c,z.symm⟩),λz=>z.elim (λz=>absurd (z.symm.trans c) d) λz=>z.elim (λz=>absurd z.2 d) λz=>z.2.symm⟩
  ·exact⟨λz=>.inr (.inl ⟨c,z.symm⟩),λz=>z.elim (λz=>absurd (z.symm.trans c) d) λz=>z.elim (λz=>z.2.symm) λz=>absurd z.2 d⟩
 ·rw[if_neg c,if_pos d]
  rcases lh with ⟨e1,e2⟩ | ⟨e1,e2⟩ <;> rw[e1] <;> rw[e2]at c d
  ·exact⟨λz=>.inr (.inl ⟨z,d⟩),λz=>z.elim (λz=>absurd (z.trans d) c) λz=>z.elim (λz=>z.1) λz=>absurd z.1 c⟩
  ·exact⟨λz=>.inr (.inr ⟨z,d⟩),λz=>z.elim (λz=>absurd (z.trans d) c) λz=>z.elim (λz=>absurd z.1 c) λz=>z.1⟩
 ·rw[if_neg c,if_neg d]
  rcases lh with ⟨e1,e2⟩ | ⟨e1,e2⟩ <;> rw[e2]at c d
  ·exact⟨.inl,λz=>z.elim id λz=>z.elim (λz=>absurd z.2 d) λz=>absurd z.1 c⟩
  ·exact⟨.inl,λz=>z.elim id λz=>z.elim (λz=>absurd z.1 c) λz=>absurd z.2 d⟩
abbrev Lk:=Int × Int × Int
theorem zfM:∀(n:Nat) {xs:List Int},xs.Nodup→(∀ x∈xs,0≤x∧x < (n:Int))→xs.length≤n
 | 0,[],_,_=>nRq _
 | 0,x :: xs,_,h=>by have:=h x List.mem_cons_self;lia
 | n+1,xs,nd,h=>by
  have q:=zfM n (nd.erase (n:Int)) (λx hx=>by
   have z:=(List.Nodup.mem_erase_iff nd).mp hx
   have:=h x z.2
   have:=z.1
   lia)
  rw[List.length_erase]at q
  split at q <;> lia
def dL (l:Lk):Dt:=.tup [.int l.1,.int l.2.1,.int l.2.2]
theorem has_dL {K:W.Frag} {H:Hp} {l:Lk} {v:V} (h:Has K H (dL l) v):∃ p,v=.ref p∧SqT K H p [.int l.1,.int l.2.1,.int l.2.2]:=by
 obtain⟨a,xs,rfl,h1,h2⟩:=h
 have e:=zch (ns:=[l.1,l.2.1,l.2.2]) h2
 rw[e]at h1
 exact⟨a,rfl,h1⟩
theorem za2:∀ ls:List Lk,zbn (ls.map dL)=true
 | []=>by simp [zbn]
 | l :: ls=>by
  simp only[List.map_cons,zbn,dL,nol,Bool.true_and]
  exact za2 ls
theorem zis {K:W.Frag} {H:Hp} {ls:List Lk} {xs:List V} {i:Nat} {x:V} (h:ao K H (ls.map dL) xs) (e:xs[i]?=some x):∃ l p,ls[i]?=some l∧x=.ref p∧SqT K H p [.int l.1,.int l.2.1,.int l.2.2]:=by
 obtain⟨d,h1,h2⟩:=h.get e
 rw[List.getElem?_map]at h1
 obtain⟨l,e1,e2⟩:=Option.map_eq_some_iff.mp h1
 rw[←e2]at h2
 obtain⟨p,e3,e4⟩:=has_dL h2
 exact⟨l,p,e1,e3,e4⟩
def Mem (H:Hp) (kg:List (Key × V)) (hd:Int→Int) (av:List Addr) (x:Int) (ms:List Int):Prop:=ms.Nodup∧(∀ t,t∈ms↔hd t=x)∧((zaU kg (Sum.inl x)=none∧ms=[x])∨∃ a,zaU kg (Sum.inl x)=some (.ref a)∧H a=some (.lst (ms.map V.int))∧a∉av)
structure GO (H:Hp) (C g ld gd:Addr) (N b:Nat) (hd:Int→Int) (av:List Addr):Prop where
 h:Hd N hd
 ne:ld≠gd
 ex:∃ dx kl kg,H g=some (.ins C dx [("least",.ref ld),("gathered",.ref gd)])∧H ld=some (.dK kl)∧H gd=some (.dK kg)∧(∀ t:Int,(zaU kl (Sum.inl t)).getD (.int t)=.int (hd t))∧(∀ x:Int,hd x=x→∃ ms:List Int,Mem H kg hd av x ms)∧kl.length≤b * N∧kg.length≤b
theorem GO.same {H H':Hp} {C g ld gd:Addr} {N b:Nat} {hd:Int→Int} {av:List Addr} (G:GO H C g ld gd N b hd av) (s:ah H H'):GO H' C g ld gd N b hd av:=by
 obtain⟨dx,kl,kg,h1,h2,h3,h4,h5,h6,h7⟩:=G.ex
 refine⟨G.h,G.ne,dx,kl,kg,s _ _ h1,s _ _ h2,s _ _ h3,h4,λx hx=>?_,h6,h7⟩
 obtain⟨ms,m1,m2,m3⟩:=h5 x hx
 refine⟨ms,m1,m2,?_⟩
 rcases m3 with m3 | ⟨a,m4,m5⟩
 ·exact .inl m3
 ·exact .inr ⟨a,m4,s _ _ m5.1,m5.2⟩
theorem GO.mono {H:Hp} {C g ld gd:Addr} {N b b':Nat} {hd:Int→Int} {av:List Addr} (G:GO H C g ld gd N b hd av) (h:b≤b'):GO H C g ld gd N b' hd av:=by
 obtain⟨dx,kl,kg,h1,h2,h3,h4,h5,h6,h7⟩:=G.ex
 exact⟨G.h,G.ne,dx,kl,kg,h1,h2,h3,h4,h5,Nat.le_trans h6 (Nat.mul_le_mul_right _ h),Nat.le_trans h7 h⟩
def zeU (ld gd:Addr) (H H':Hp):Prop:=∀ b o,b≠ld→b≠gd→H b=some o→H' b=some o
theorem zeU.trans {ld gd:Addr} {H H1 H2:Hp} (a:zeU ld gd H H1) (b:zeU ld gd H1 H2):zeU ld gd H H2:=λc o h1 h2 h=>b c o h1 h2 (a c o h1 h2 h)
theorem ah.g {ld gd:Addr} {H H':Hp} (s:ah H H'):zeU ld gd H H':=λb o _ _ h=>s b o h
theorem ah.ofG {ld gd:Addr} {H H1 H2:Hp} (s:ah H H1) (n1:H ld=none) (n2:H gd=none) (x:zeU ld gd H1 H2):ah H H2:=λb o hb=>x b o (λe=>by rw[e,n1]at hb;cases hb) (λe=>by rw[e,n2]at hb;cases hb) (s b o hb)
theorem zjV {N:Nat} {hd:Int→Int} (h:Hd N hd) {x:Int} (hx:0≤x∧x < (N:Int)) {ms:List Int} (nd:ms.Nodup) (hm:∀ t,t∈ms↔hd t=x):ms.length≤N:=by
 refine zfM N nd λt ht=>?_
 have e:=(hm t).mp ht
 have:=h.le t
 by_cases c:hd t=t
 ·lia
 ·have:=h.rng t c
  lia
theorem GO.merged {H:Hp} {C g ld gd:Addr} {N b:Nat} {hd:Int→Int} {av:List Addr} {a c:Int} (h:Hd N hd) (ne:ld≠gd) (ha:0≤a∧a < (N:Int)) (hc:0≤c∧c < (N:Int)) (nlh:loF (hd a) (hd c)≠hiF (hd a) (hd c)) {dx:Addr} {kl kg:List (Key × V)} {p:Addr} {ml mh:List Int}
  (h1:H g=some (.ins C dx [("least",.ref ld),("gathered",.ref gd)])) (h2:H ld=some (.dK kl)) (h3:H gd=some (.dK (zbL kg (Sum.inl (loF (hd a) (hd c))) (.ref p)))) (h4:∀ t:Int,(zaU kl (Sum.inl t)).getD (.int t)=.int (if t∈mh then loF (hd a) (hd c) else hd t))
  (h5:∀ x:Int,hd x=x→∃ ms:List Int,Mem H kg hd av x ms) (l1:ml.Nodup) (l2:∀ t,t∈ml↔hd t=loF (hd a) (hd c)) (k1:mh.Nodup) (k2:∀ t,t∈mh↔hd t=hiF (hd a) (hd c)) (hp:H p=some (.lst ((ml++mh).map V.int))) (h6:kl.length≤b * N) (h7:kg.length+1≤b) (hpa:p∉av):GO H C g ld gd N b (mrg hd a c) av:=by
 refine⟨h.mrg ha hc,ne,dx,kl,_,h1,h2,h3,λt=>?_,λx hx=>?_,h6,Nat.le_trans (zfD _ _ _) h7⟩
 ·rw[h4]
  unfold mrg
  by_cases z:hd t=hiF (hd a) (hd c)
  ·rw[if_pos ((k2 t).mpr z),if_pos z]
  ·rw[if_neg (λw=>z ((k2 t).mp w)),if_neg z]
 ·by_cases z:x=loF (hd a) (hd c)
  ·subst z
   refine⟨ml++mh,List.nodup_append.mpr ⟨l1,k1,λu hu v hv e=>?_⟩,λt=>?_,.inr ⟨p,by rw[zfy,if_pos rfl],hp,hpa⟩⟩
   ·subst e
    have w1:=(l2 u).mp hu
    have w2:=(k2 u).mp hv
    exact nlh (w1.symm.trans w2)
   ·rw[List.mem_append,l2,k2]
    unfold mrg
    by_cases w:hd t=hiF (hd a) (hd c)
    ·rw[if_pos w]
     exact⟨λ_=>rfl,λ_=>.inr w⟩
    ·rw[if_neg w]
     exact⟨λy=>y.resolve_right w,.inl⟩
  ·have nx:hd x≠hiF (hd a) (hd c):=λw=>by
    unfold mrg at hx
    rw[if_pos w]at hx
    exact z hx.symm
   have ex:hd x=x:=by
    unfold mrg at hx
    rw[if_neg nx]at hx
    exact hx
   obtain⟨ms,m1,m2,m3⟩:=h5 x ex
   refine⟨ms,m1,λt=>?_,?_⟩
   ·rw[m2]
    unfold mrg
    by_cases w:hd t=hiF (hd a) (hd c)
    ·rw[if_pos w]
     exact⟨λy=>absurd (ex.trans (y.symm.trans w)) nx,λy=>absurd y.symm z⟩
    ·rw[if_neg w]
   ·rw[zfy,if_neg (λy=>z (by injection y))]
    exact m3
end L2
namespace L2
open PySem PySem.Spec PyProof.Rows
section
variable {P:Program} {w:World}
abbrev Sgn:=Str × List Key
def ziQ (P:Program) (w:World) (h:Heap) (k:Sgn) (a:Addr):Prop :=
 ∃(o:Obj) (t:Tok) (q:Addr) (n:Nat),h.get? a=some o∧o.cls=.type "tuple"∧o.data=.seq #[.str k.1 t,.ref q] n∧IsTupleKey (za8 P w) h k.2 q
theorem ziQ.inj {h:Heap} {a:Addr} {x y:Sgn} (hx:ziQ P w h x a) (hy:ziQ P w h y a):x=y:=by
 obtain⟨o,t,q,n,ho,_,hd,hi⟩:=hx
 obtain⟨o',t',q',n',ho',_,hd',hi'⟩:=hy
 cases ho.symm.trans ho'
 have e:=hd.symm.trans hd'
 injection e with e _
 have e2:[Value.str x.1 t,.ref q]=[Value.str y.1 t',.ref q']:=congrArg Array.toList e
 injection e2 with e3 e4
 injection e3 with e5 _
 injection e4 with e6 _
 injection e6 with e7
 subst e7
 exact Prod.ext e5 (hi.inj hi')
variable {A:Around} {E:Value→Shared→Prop} {s:Shared}
end
section
variable {prog:Program} {w:World} {K:Type} [DecidableEq K] {knd:HeapKind prog w K} {A:Around} {E:Value→Shared→Prop} {s:Shared}
end
end L2
namespace L2
open PySem PySem.Spec PyProof.Rows
section
variable {X:Cx}
end
end L2
namespace HT
open PySem PySem.Spec PyProof.Rows
section
variable {prog:Program} {w:World} {A:Around} {E:Value→Shared→Prop} {s:Shared}
end
end HT
namespace L2
open PySem PySem.Spec PyProof.Rows
section
variable {X:Cx} {e st:Expr} {te ts:TE} {pos p2:Pos}
end
end L2
namespace L2
open PySem PySem.Spec PyProof.Rows
section
variable {prog:Program} {w:World} {A:Around} {E:Value→Shared→Prop} {s:Shared}
theorem zc3 {it t:Addr} {i:Nat} {items} {x:Value} {Q:Value→Shared→Prop} (hit:s.heap.IsTupleIter it t i) (ht:s.heap.IsTuple t items) (hx:items[i]?=some x)
  (hQ:∀ h',h'.IsTupleIter it t (i+1)→Heap.SameBut it s.heap h'→Q x { s with heap:=h' }):wpAny (model prog w) A (Builtin.SmallTypes.nextOf (.ref it)) Q E s:=by
 obtain⟨o,ho,hc,hd⟩:=id hit
 obtain⟨ol,hol,_,nl,hdl⟩:=ht
 unfold Builtin.SmallTypes.nextOf
 refine wpAny_bind (wpAny_callSpecial?_slot (name:=Str.ofString "__next__") hit.typeIs F.slot_tuple_iterator_next (wpAny_call_entry F.slot_tuple_iterator_next hit.typeIs F.entry_tuple_iterator_next ?_ (F.args_tuple_iterator_next_1 _)))
 show wpAny _ _ (field (.ref it) 0 >>= _) _ _ s
 refine wpAny_bind (wpAny_field ho hd (x:=.ref t) rfl ?_)
 show wpAny _ _ (if(Value.ref t == Value.none)=true then _ else _) _ _ s
 rw[if_neg (show ¬((Value.ref t == Value.none)=true) from Bool.false_ne_true)]
 show wpAny _ _ (field (.ref it) 1 >>= _) _ _ s
 refine wpAny_bind (wpAny_field ho hd (x:=.int i 0) rfl ?_)
 show wpAny _ _ (seqItems? (.ref t) >>= _) _ _ s
 refine wpAny_bind (wpAny_seqItems hol hdl ?_)
 simp only[Int.toNat_natCast,hx]
 refine wpAny_bind (wpAny_setField ho hd (by simp) (wpAny_pure ⟨x,rfl,wpAny_pure (hQ _ ?_ (Heap.SameBut.update ..))⟩))
 exact⟨_,Heap.get?_update_self _ ho (Obj.isFreed_of_fields (Obj.data_mapFields hd _)),(Obj.cls_mapFields ..).trans hc,by
  rw[Obj.data_mapFields hd];simp [rawInt]⟩
theorem zc5 {it t:Addr} {i:Nat} {items} {Q:Value→Shared→Prop} (hh:A.handled=none) (hit:s.heap.IsTupleIter it t i) (ht:s.heap.IsTuple t items) (hx:items[i]?=none)
  (hE:∀ h' e,Heap.ExtBut it s.heap h'→(∃ o,h'.get? e=some o∧o.cls=.type "StopIteration")→E (.ref e) { s with heap:=h' }):wpAny (model prog w) A (Builtin.SmallTypes.nextOf (.ref it)) Q E s:=by
 obtain⟨o,ho,hc,hd⟩:=id hit
 obtain⟨ol,hol,_,nl,hdl⟩:=ht
 unfold Builtin.SmallTypes.nextOf
 refine wpAny_bind (wpAny_callSpecial?_slot (name:=Str.ofString "__next__") hit.typeIs F.slot_tuple_iterator_next (wpAny_call_entry F.slot_tuple_iterator_next hit.typeIs F.entry_tuple_iterator_next ?_ (F.args_tuple_iterator_next_1 _)))
 show wpAny _ _ (field (.ref it) 0 >>= _) _ _ s
 refine wpAny_bind (wpAny_field ho hd (x:=.ref t) rfl ?_)
 show wpAny _ _ (if(Value.ref t == Value.none)=true then _ else _) _ _ s
 rw[if_neg (show ¬((Value.ref t == Value.none)=true) from Bool.false_ne_true)]
 show wpAny _ _ (field (.ref it) 1 >>= _) _ _ s
 refine wpAny_bind (wpAny_field ho hd (x:=.int i 0) rfl ?_)
 show wpAny _ _ (seqItems? (.ref t) >>= _) _ _ s
 refine wpAny_bind (wpAny_seqItems hol hdl ?_)
 simp only[Int.toNat_natCast,hx]
 refine wpAny_bind (wpAny_rule (wpAny_bind (wpAny_setField ho hd (by simp) ?_)))
 show wpAny _ _ (newExc (.type "StopIteration") [] >>= _) _ _ _
 refine wpAny_bind ?_
 simp only[newExc,newTuple]
 refine wpAny_bind (wpAny_newObj_type ?_ (by size_fits))
 refine wpAny_bind (m:=firstArgMember _ _) (wpAny_of_eq (a:=Value.none) (by first | rfl | (simp only[firstArgMember];rfl)) ?_)
 refine wpAny_newObj_type ?_ (by size_fits)
 simp only[raiseNew]
 refine wpAny_bind (wpAny_handled ?_)
 first | rw[show A.in1.handled=none from hh] | rw[hh]
 refine wpAny_bind (wpAny_pure (wpAny_throw ?_))
 exact hE _ _ (((Heap.SameBut.update ..).extBut.push _).push _) ⟨_,Heap.get?_push_size _ rfl,rfl⟩
def TuI (h:Heap) (it t:Addr) (i:Nat) (xs:Array Value):Prop:=h.IsTupleIter it t i∧h.IsTuple t xs
theorem TuI.ext {h h':Heap} {it t b:Addr} {i:Nat} {xs:Array Value} (x:TuI h it t i xs) (hs:Heap.ExtBut b h h') (h1:it≠b) (h2:t≠b):TuI h' it t i xs:=⟨x.1.extBut hs h1,x.2.extBut hs h2⟩
end
abbrev zpT1 (h:Heap) (l1:Addr):Heap:=h.push { cls:=.type "tuple_iterator",data:=.fields #[.ref l1,.int 0 0] }
abbrev zpT2 (h:Heap) (l1 l2:Addr):Heap:=(zpT1 h l1).push { cls:=.type "tuple_iterator",data:=.fields #[.ref l2,.int 0 0] }
abbrev zpT3 (h:Heap) (l1 l2:Addr):Heap:=(zpT2 h l1 l2).push { cls:=.type "tuple",data:=.seq #[.ref h.objs.size,.ref (zpT1 h l1).objs.size] }
abbrev zpT4 (h:Heap) (l1 l2:Addr):Heap:=(zpT3 h l1 l2).push { cls:=.type "tuple",data:=.seq #[.none,.none] }
abbrev zfO (h:Heap) (l1 l2:Addr):Heap:=(zpT4 h l1 l2).push { cls:=.type "zip",data:=.fields #[.none,.bool false,.bool false,.ref (zpT2 h l1 l2).objs.size,.ref (zpT3 h l1 l2).objs.size] }
theorem zkD (l1 l2:Addr) (xs ys:Array Value) :
  Meets (Builtin.«zip.__new__» ⟨[.type "zip",.ref l1,.ref l2],[]⟩) (λ_ R s=>s.heap.IsTuple l1 xs∧s.heap.IsTuple l2 ys∧R (.ok (.ret (.ref (zpT4 s.heap l1 l2).objs.size))) { s with heap:=zfO s.heap l1 l2 }) :=
 .of_wp λprog w A R s h=>by
  obtain⟨hp,g,d,tk,os⟩:=s;obtain⟨hl1,hl2,h⟩:=h
  have hsub:=sub_zip
  have hL1:Heap.IsTuple (Shared.heap ⟨hp,g,d,tk,os⟩) l1 xs:=hl1
  have hL2:Heap.IsTuple (Shared.heap ⟨hp.push { cls:=.type "tuple_iterator",data:=.fields #[.ref l1,.int 0 0] },g,d,tk,os⟩) l2 ys:=Heap.IsTuple.push hl2 _
  wp_walk using wpAny_pyIter_tuple hL1,wpAny_pyIter_tuple hL2
  exact⟨_,rfl,h⟩
section
variable {prog:Program} {w:World} {A:Around} {E:Value→Shared→Prop} {s:Shared}
theorem zlS {l1 l2:Addr} {xs ys:Array Value} {Q:Value→Shared→Prop} (hl1:s.heap.IsTuple l1 xs) (hl2:s.heap.IsTuple l2 ys)
  (h:∀ h',IsZip h' (s.heap.objs.size+4) (s.heap.objs.size+2) (s.heap.objs.size+3) .none→IsPair h' (s.heap.objs.size+2) (.ref s.heap.objs.size) (.ref (s.heap.objs.size+1)) →
   IsPair h' (s.heap.objs.size+3) .none .none→h'.IsTupleIter s.heap.objs.size l1 0→h'.IsTupleIter (s.heap.objs.size+1) l2 0→h'.objs.size=s.heap.objs.size+5 →
   (∀ c o,s.heap.get? c=some o→h'.get? c=some o)→Q (.ref (s.heap.objs.size+4)) { s with heap:=h' }) :
  wpAny (model prog w) A (call (.type "zip") [.ref l1,.ref l2]) Q E s:=by
 refine callType_new F.called_zip (by decide) (F.typeCall_zip_2 _ _) (F.newCall_zip_2 _ _) (λobj=>F.args_object_init_3 obj _ _) F.entry_zip_new (zkD l1 l2 xs ys) ⟨hl1,hl2,?_⟩
 have z1:(zpT1 s.heap l1).objs.size=s.heap.objs.size+1:=Heap.size_push ..
 have z2:(zpT2 s.heap l1 l2).objs.size=s.heap.objs.size+2:=by rw[Heap.size_push,z1]
 have z3:(zpT3 s.heap l1 l2).objs.size=s.heap.objs.size+3:=by rw[Heap.size_push,z2]
 have z4:(zpT4 s.heap l1 l2).objs.size=s.heap.objs.size+4:=by rw[Heap.size_push,z3]
 have z5:(zfO s.heap l1 l2).objs.size=s.heap.objs.size+5:=by rw[Heap.size_push,z4]
 have g5:(zfO s.heap l1 l2).get? (zpT4 s.heap l1 l2).objs.size=some _:=Heap.get?_push_size _ rfl
 have g4:(zfO s.heap l1 l2).get? (zpT3 s.heap l1 l2).objs.size=some _:=hG _ (Heap.get?_push_size _ rfl)
 have g3:(zfO s.heap l1 l2).get? (zpT2 s.heap l1 l2).objs.size=some _:=hG _ (hG _ (Heap.get?_push_size _ rfl))
 have g2:(zfO s.heap l1 l2).get? (zpT1 s.heap l1).objs.size=some _:=hG _ (hG _ (hG _ (Heap.get?_push_size _ rfl)))
 have g1:(zfO s.heap l1 l2).get? s.heap.objs.size=some _:=hG _ (hG _ (hG _ (hG _ (Heap.get?_push_size _ rfl))))
 have kk:∀ c o,s.heap.get? c=some o→(zfO s.heap l1 l2).get? c=some o:=λc o e=>hG _ (hG _ (hG _ (hG _ (hG _ e))))
 show _∧_
 rw[z2,z3,z4]at g5
 rw[z1,z2]at g3
 rw[z3]at g4
 rw[z1]at g2
 rw[z4]
 exact⟨⟨_,g5,rfl⟩,h _ g5 g3 g4 ⟨_,g1,rfl,rfl⟩ ⟨_,g2,rfl,rfl⟩ z5 kk⟩
end
def ItzT (K:W.Frag) (a b:Addr):It :=
 ⟨λi H=>∃ xs ys x y,SqT K H a xs∧SqT K H b ys∧xs[i]?=some x∧ys[i]?=some y,λi H x H'=>∃ p y z,x=.ref p∧H p=none∧H'=upd H p (.tup [y,z])∧(∀ xs,SqT K H a xs→xs[i]?=some y)∧∀ ys,SqT K H b ys→ys[i]?=some z,
  λi H=>∃ xs ys,SqT K H a xs∧SqT K H b ys∧(xs.length≤i∨ys.length≤i)⟩
theorem zmH {K:W.Frag} {a b:Addr} {xs ys:List V} (h:xs.length=ys.length):Wk (ItzT K a b) xs.length (λH=>SqT K H a xs∧SqT K H b ys) :=
 ⟨λ_ _ q hi=>⟨xs,ys,q.1,q.2,.inl hi⟩,λi _ q hi=>⟨xs,ys,xs[i],ys[i]'(by lia),q.1,q.2,by simp [hi],by simp⟩⟩
def iZipT (K:W.Frag) (ta:TA):L2.TI:=λσ H R=>ta σ H λvs H1=>∃ a b,vs=[.ref a,.ref b]∧(∃ xs,SqT K H1 a xs)∧(∃ ys,SqT K H1 b ys)∧R (ItzT K a b) H1
end L2
namespace L2
open PySem PySem.Spec PyProof.Rows
section
variable {X:Cx}
end
end L2
namespace L2
open PySem PySem.Spec PyProof.Rows
section
variable {X:Cx}
theorem zgn:zbp X (.builtin "sorted") (λxs H Q=>∃(p:Addr) (ns:List Int),xs=[.ref p]∧SqL X.K H p (ns.map V.int)∧ns.length < 64∧∀(l:Addr) (ms:List Int),H l=none→ms.Perm ns→ms.Pairwise (·≤·)→Q (.ref l) (upd H l (.lst (ms.map V.int)))):=by
 intro pins s σ H xs us Q I r h
 obtain⟨p,ns,rfl,hq,h64,q⟩:=h
 obtain⟨u,rfl,rx⟩:=zcc r
 cases rx
 obtain⟨its,r',pl,hz⟩:=I.list hq
 have hi:=zkH r'
 have hlen:=r'.length
 rw[lM]at hlen
 refine sorted_ints pl.isList hi (by lia) λout ms a1 a2 a3=>?_
 obtain⟨e,he⟩:=sortedAll_at s.heap its out
 have ml:=a2.length_eq
 exact⟨.ref (s.heap.objs.size+1),_,I.laid (t':=s.toks) (λb o hb=>sortedAll_old hb) (Nat.le_succ _) (show zaE X.prog X.w _ _ _ (.lst (ms.map V.int)) from⟨Nat.le_of_lt (zaJ (by rw[lM];lia)),out.toList,e,zf3 a1,he⟩),rfl,q _ ms (I.hok.fresh (Nat.le_succ _)) a2 a3⟩
end
end L2
namespace L2
open PySem PySem.Spec PyProof.Rows
abbrev zcu (h:Heap) (z TI TO:Addr) (m:Value) (f:Bool):Prop :=
 h.get? z=some { cls:=.type "zip",dict:=none,data:=.fields #[m,.bool f,.bool false,.ref TI,.ref TO],slots:=#[] }
def MkZ (m:Value):Prop:=m=.none∨∃ n:Nat,m=rawInt n
section
variable {prog:Program} {w:World} {A:Around} {E:Value→Shared→Prop} {s:Shared}
theorem alive_ {a:Addr} {Q:Option Obj→Shared→Prop} (h:Q (s.heap.get? a) s):wpAny (model prog w) A (loadIfAlive a) Q E s:=λ_ _ _=>h
theorem zh5 {z TI TO:Addr} {m:Value} {f:Bool} {Q:Bool→Shared→Prop} (hz:zcu s.heap z TI TO m f) (hm:MkZ m) (h1:Q true s)
  (h2:∀ h',zcu h' z TI TO m true→Heap.SameBut z s.heap h'→Q false { s with heap:=h' }):wpAny (model prog w) A (Builtin.SmallTypes.ownedTupleIsFree (.ref z)) Q E s:=by
 unfold Builtin.SmallTypes.ownedTupleIsFree
 rcases hm with rfl | ⟨n,rfl⟩
 ·exact wpAny_bind (wpAny_field hz rfl (x:=.none) rfl (wpAny_pure h1))
 ·refine wpAny_bind (wpAny_field hz rfl (x:=rawInt n) rfl ?_)
  show wpAny _ _ (loadIfAlive (Int.toNat (n:Int)) >>= _) _ _ _
  refine wpAny_bind (alive_ ?_)
  cases s.heap.get? (Int.toNat (n:Int)) with
  | none=>exact wpAny_pure h1
  | some o =>
   show wpAny _ _ (field (.ref z) 1 >>= _) _ _ _
   refine wpAny_bind (wpAny_field hz rfl (x:=.bool f) rfl ?_)
   cases f with
   | true=>exact wpAny_pure (h2 _ hz ⟨rfl,λ_ _=>rfl⟩)
   | false =>
    show wpAny _ _ (setField (.ref z) 1 (.bool true) >>= _) _ _ _
    exact wpAny_bind (wpAny_setField_rec hz (by simp) λh' hz' hs'=>wpAny_pure (h2 _ hz' hs'))
theorem zlh {z TI' TO i1 i2 l1 l2:Addr} {k1 k2:Nat} {m:Value} {f:Bool} {xs ys:Array Value} {x y a b:Value} {Q:Value→Shared→Prop} (D:ZipApart z TI' TO i1 i2 l1 l2)
  (hz:zcu s.heap z TI' TO m f) (hm:MkZ m) (hTI:IsPair s.heap TI' (.ref i1) (.ref i2)) (hTO:IsPair s.heap TO a b) (h1:TuI s.heap i1 l1 k1 xs) (h2:TuI s.heap i2 l2 k2 ys) (hx:xs[k1]?=some x) (hy:ys[k2]?=some y)
  (hQ:∀ h',(∃ m' f',MkZ m'∧zcu h' z TI' TO m' f')→(∃ u v,IsPair h' TO u v)→h'.IsTupleIter i1 l1 (k1+1)→h'.IsTupleIter i2 l2 (k2+1)→IsPair h' s.heap.objs.size x y→h'.objs.size=s.heap.objs.size+1 →
   (∀ c o,c≠z→c≠TO→c≠i1→c≠i2→s.heap.get? c=some o→h'.get? c=some o)→Q (.ref s.heap.objs.size) { s with heap:=h' }) :
  wpAny (model prog w) A (Builtin.«zip.__next__» ⟨[.ref z],[]⟩) (λfin s'=>∃ v,fin=.done (.ret v)∧Q v s') E s:=by
 show wpAny _ _ (field (.ref z) 2 >>= _) _ _ _
 refine wpAny_bind (wpAny_field hz rfl (x:=.bool false) rfl ?_)
 show wpAny _ _ (field (.ref z) 3 >>= _) _ _ _
 refine wpAny_bind (wpAny_field hz rfl (x:=.ref TI') rfl ?_)
 refine wpAny_bind (wpAny_seqItems hTI rfl ?_)
 show wpAny _ _ (Builtin.SmallTypes.ownedTupleIsFree (.ref z) >>= _) _ _ _
 refine wpAny_bind (zh5 hz hm ?_ λh₁ hz₁ hs₁=>?_)
 ·simp only[if_true]
  refine wpAny_bind (wpAny_rule ?_)
  refine wpAny_bind (wpAny_field hz rfl (x:=.ref TO) rfl ?_)
  refine wpAny_bind (wpAny_setField_rec hz (by simp) λh₁ hz₁ hs₁=>?_)
  replace hz₁:zcu h₁ z TI' TO .ellipsis f:=hz₁
  refine wpAny_bind ?_
  simp only[List.zipIdx_cons,List.zipIdx_nil,List.forIn_cons,List.forIn_nil]
  refine wpAny_bind (wpAny_bind (wpAny_onRaise ?_))
  show wpAny _ _ (Builtin.SmallTypes.nextOf (.ref i1) >>= _) _ _ _
  have a1:=h1.ext hs₁.extBut D.i1z D.l1z
  refine wpAny_bind (zc3 a1.1 a1.2 hx λh₂ h1₂ hs₂=>wpAny_pure ?_)
  have hTO₂:IsPair h₂ TO a b:=hs₂.extBut _ _ D.TOi1 (hs₁.extBut _ _ D.TOz hTO)
  refine wpAny_bind (wpAny_seqItems hTO₂ rfl ?_)
  refine wpAny_bind (wpAny_updateSeq_pair hTO₂ λh₃ hTO₃ hs₃=>?_)
  replace hTO₃:IsPair h₃ TO x b:=hTO₃
  refine wpAny_bind (wpAny_letGo (wpAny_pure ?_))
  refine wpAny_bind (wpAny_bind (wpAny_onRaise ?_))
  show wpAny _ _ (Builtin.SmallTypes.nextOf (.ref i2) >>= _) _ _ _
  have a2:=((h2.ext hs₁.extBut D.i2z D.l2z).ext hs₂.extBut D.i12.symm D.l2i1).ext hs₃.extBut D.TOi2.symm D.l2TO
  refine wpAny_bind (zc3 a2.1 a2.2 hy λh₄ h2₄ hs₄=>wpAny_pure ?_)
  have hTO₄:IsPair h₄ TO x b:=hs₄.extBut _ _ D.TOi2 hTO₃
  refine wpAny_bind (wpAny_seqItems hTO₄ rfl ?_)
  refine wpAny_bind (wpAny_updateSeq_pair hTO₄ λh₅ hTO₅ hs₅=>?_)
  replace hTO₅:IsPair h₅ TO x y:=hTO₅
  refine wpAny_bind (wpAny_letGo (wpAny_pure (wpAny_pure ?_)))
  refine wpAny_bind (wpAny_seqItems hTO₅ rfl ?_)
  refine wpAny_bind (wpAny_newTuple ?_)
  have hsz:h₅.objs.size=s.heap.objs.size:=by rw[hs₅.1,hs₄.1,hs₃.1,hs₂.1,hs₁.1]
  have hz₅:zcu h₅ z TI' TO .ellipsis f:=hs₅.extBut _ _ D.TOz.symm (hs₄.extBut _ _ D.i2z.symm (hs₃.extBut _ _ D.TOz.symm (hs₂.extBut _ _ D.i1z.symm hz₁)))
  have hk₅:∀ c o,c≠z→c≠TO→c≠i1→c≠i2→s.heap.get? c=some o→h₅.get? c=some o:=λc o c1 c2 c3 c4 e =>
   hs₅.extBut _ _ c2 (hs₄.extBut _ _ c4 (hs₃.extBut _ _ c2 (hs₂.extBut _ _ c3 (hs₁.extBut _ _ c1 e))))
  have h1₅:h₅.IsTupleIter i1 l1 (k1+1):=((h1₂.extBut hs₃.extBut D.TOi1.symm).extBut hs₄.extBut D.i12).extBut hs₅.extBut D.TOi1.symm
  have h2₅:h₅.IsTupleIter i2 l2 (k2+1):=h2₄.extBut hs₅.extBut D.TOi2.symm
  have hzlt:z < h₅.objs.size:=hLq hz₅
  show wpAny _ _ (Builtin.SmallTypes.ownedTupleHandOut (.ref z) (.ref h₅.objs.size) >>= _) _ _ _
  refine wpAny_bind ?_
  unfold Builtin.SmallTypes.ownedTupleHandOut
  have hz₆:zcu (h₅.push { cls:=.type "tuple",data:=.seq #[x,y] }) z TI' TO .ellipsis f:=hG _ hz₅
  refine wpAny_bind (wpAny_setField_rec hz₆ (by simp) λh₇ hz₇ hs₇=>?_)
  replace hz₇:zcu h₇ z TI' TO (rawInt h₅.objs.size) f:=hz₇
  refine wpAny_setField_rec hz₇ (by simp) λh₈ hz₈ hs₈=>?_
  replace hz₈:zcu h₈ z TI' TO (rawInt h₅.objs.size) false:=hz₈
  have up:∀ c o,c≠z→h₅.get? c=some o→h₈.get? c=some o:=λc o c1 e=>hs₈.extBut _ _ c1 (hs₇.extBut _ _ c1 (hG _ e))
  have hT₈:IsPair h₈ h₅.objs.size x y:=hs₈.extBut _ _ (Nat.ne_of_gt hzlt) (hs₇.extBut _ _ (Nat.ne_of_gt hzlt) (Heap.get?_push_size _ rfl))
  have hz8:h₈.objs.size=h₅.objs.size+1:=by rw[hs₈.1,hs₇.1,Heap.size_push]
  rw[hsz]at hz₈ hT₈ hz8
  refine wpAny_pure ⟨_,rfl,?_⟩
  show Q (.ref h₅.objs.size) _
  rw[hsz]
  exact hQ h₈ ⟨_,_,.inr ⟨_,rfl⟩,hz₈⟩ ⟨_,_,up _ _ D.TOz hTO₅⟩ (h1₅.at λo e=>up _ o D.i1z e) (h2₅.at λo e=>up _ o D.i2z e) hT₈ hz8 λc o c1 c2 c3 c4 e=>up c o c1 (hk₅ c o c1 c2 c3 c4 e)
 ·simp only[Bool.false_eq_true,if_false]
  refine wpAny_bind ?_
  simp only[List.forIn_toArray,List.forIn_cons,List.forIn_nil]
  have a1:=h1.ext hs₁.extBut D.i1z D.l1z
  refine wpAny_bind (wpAny_bind (wpAny_holding ?_))
  show wpAny _ _ (Builtin.SmallTypes.nextOf (.ref i1) >>= _) _ _ _
  refine wpAny_bind (zc3 a1.1 a1.2 hx λh₂ h1₂ hs₂=>wpAny_pure (wpAny_pure ?_))
  have a2:=(h2.ext hs₁.extBut D.i2z D.l2z).ext hs₂.extBut D.i12.symm D.l2i1
  refine wpAny_bind (wpAny_bind (wpAny_holding ?_))
  show wpAny _ _ (Builtin.SmallTypes.nextOf (.ref i2) >>= _) _ _ _
  refine wpAny_bind (zc3 a2.1 a2.2 hy λh₃ h2₃ hs₃=>wpAny_pure (wpAny_pure (wpAny_pure ?_)))
  show wpAny _ _ (newTuple [x,y] >>= _) _ _ _
  refine wpAny_bind (wpAny_newTuple (wpAny_pure ⟨_,rfl,?_⟩))
  have hsz:h₃.objs.size=s.heap.objs.size:=by rw[hs₃.1,hs₂.1,hs₁.1]
  have kk:∀ c o,c≠z→c≠i1→c≠i2→s.heap.get? c=some o→(h₃.push { cls:=.type "tuple",data:=.seq #[x,y] }).get? c=some o:=λc o c1 c3 c4 e =>
   hG _ (hs₃.extBut _ _ c4 (hs₂.extBut _ _ c3 (hs₁.extBut _ _ c1 e)))
  have hT:IsPair (h₃.push { cls:=.type "tuple",data:=.seq #[x,y] }) h₃.objs.size x y:=Heap.get?_push_size _ rfl
  show Q (.ref h₃.objs.size) _
  rw[hsz]at hT ⊢
  refine hQ _ ⟨_,_,hm,hG _ (hs₃.extBut _ _ D.i2z.symm (hs₂.extBut _ _ D.i1z.symm hz₁))⟩ ⟨_,_,kk _ _ D.TOz D.TOi1 D.TOi2 hTO⟩ ?_ ?_ hT (by rw[Heap.size_push,hsz]) λc o c1 _ c3 c4 e=>kk c o c1 c3 c4 e
  ·exact(h1₂.extBut hs₃.extBut D.i12).at λo e=>hG _ e
  ·exact h2₃.at λo e=>hG _ e
theorem zlY {z TI' TO i1 i2 l1 l2:Addr} {k1 k2:Nat} {m:Value} {f:Bool} {xs ys:Array Value} {a b:Value} {Q:Fin→Shared→Prop} (hh:A.handled=none) (D:ZipApart z TI' TO i1 i2 l1 l2)
  (hz:zcu s.heap z TI' TO m f) (hm:MkZ m) (hTI:IsPair s.heap TI' (.ref i1) (.ref i2)) (hTO:IsPair s.heap TO a b) (h1:TuI s.heap i1 l1 k1 xs) (h2:TuI s.heap i2 l2 k2 ys) (hend:xs[k1]?=none∨ys[k2]?=none)
  (hE:∀ h' e,(∀ c o,c≠z→c≠TO→c≠i1→c≠i2→s.heap.get? c=some o→h'.get? c=some o)→(∃ o,h'.get? e=some o∧o.cls=.type "StopIteration")→E (.ref e) { s with heap:=h' }) :
  wpAny (model prog w) A (Builtin.«zip.__next__» ⟨[.ref z],[]⟩) Q E s:=by
 show wpAny _ _ (field (.ref z) 2 >>= _) _ _ _
 refine wpAny_bind (wpAny_field hz rfl (x:=.bool false) rfl ?_)
 show wpAny _ _ (field (.ref z) 3 >>= _) _ _ _
 refine wpAny_bind (wpAny_field hz rfl (x:=.ref TI') rfl ?_)
 refine wpAny_bind (wpAny_seqItems hTI rfl ?_)
 show wpAny _ _ (Builtin.SmallTypes.ownedTupleIsFree (.ref z) >>= _) _ _ _
 refine wpAny_bind (zh5 hz hm ?_ λh₁ hz₁ hs₁=>?_)
 ·simp only[if_true]
  refine wpAny_bind (wpAny_rule ?_)
  refine wpAny_bind (wpAny_field hz rfl (x:=.ref TO) rfl ?_)
  refine wpAny_bind (wpAny_setField_rec hz (by simp) λh₁ hz₁ hs₁=>?_)
  replace hz₁:zcu h₁ z TI' TO .ellipsis f:=hz₁
  refine wpAny_bind ?_
  simp only[List.zipIdx_cons,List.zipIdx_nil,List.forIn_cons,List.forIn_nil]
  refine wpAny_bind (wpAny_bind (wpAny_onRaise ?_))
  show wpAny _ _ (Builtin.SmallTypes.nextOf (.ref i1) >>= _) _ _ _
  have a1:=h1.ext hs₁.extBut D.i1z D.l1z
  cases hx:xs[k1]? with
  | none =>
   refine wpAny_bind (zc5 hh a1.1 a1.2 hx λh₂ e hs₂ he=>?_)
   obtain⟨oe,hoe,hce⟩:=he
   have hz₂:zcu h₂ z TI' TO .ellipsis f:=hs₂ _ _ D.i1z.symm hz₁
   have hez:e≠z:=λx=>by subst x;rw[hz₂]at hoe;cases hoe;simp at hce
   refine wpAny_setField_rec hz₂ (by simp) λh₃ _ hs₃=>hE h₃ e (λc o c1 _ c3 _ x=>hs₃.extBut _ _ c1 (hs₂ _ _ c3 (hs₁.extBut _ _ c1 x))) ⟨oe,hs₃.extBut _ _ hez hoe,hce⟩
  | some x =>
   have hy:ys[k2]?=none:=by rcases hend with h | h;rw[hx]at h;cases h;exact h
   refine wpAny_bind (zc3 a1.1 a1.2 hx λh₂ h1₂ hs₂=>wpAny_pure ?_)
   have hTO₂:IsPair h₂ TO a b:=hs₂.extBut _ _ D.TOi1 (hs₁.extBut _ _ D.TOz hTO)
   refine wpAny_bind (wpAny_seqItems hTO₂ rfl ?_)
   refine wpAny_bind (wpAny_updateSeq_pair hTO₂ λh₃ hTO₃ hs₃=>?_)
   refine wpAny_bind (wpAny_letGo (wpAny_pure ?_))
   refine wpAny_bind (wpAny_bind (wpAny_onRaise ?_))
   show wpAny _ _ (Builtin.SmallTypes.nextOf (.ref i2) >>= _) _ _ _
   have a2:=((h2.ext hs₁.extBut D.i2z D.l2z).ext hs₂.extBut D.i12.symm D.l2i1).ext hs₃.extBut D.TOi2.symm D.l2TO
   refine wpAny_bind (zc5 hh a2.1 a2.2 hy λh₄ e hs₄ he=>?_)
   obtain⟨oe,hoe,hce⟩:=he
   have hz₄:zcu h₄ z TI' TO .ellipsis f:=hs₄ _ _ D.i2z.symm (hs₃.extBut _ _ D.TOz.symm (hs₂.extBut _ _ D.i1z.symm hz₁))
   have hez:e≠z:=λx=>by subst x;rw[hz₄]at hoe;cases hoe;simp at hce
   refine wpAny_setField_rec hz₄ (by simp) λh₅ _ hs₅=>hE h₅ e (λc o c1 c2 c3 c4 x=>hs₅.extBut _ _ c1 (hs₄ _ _ c4 (hs₃.extBut _ _ c2 (hs₂.extBut _ _ c3 (hs₁.extBut _ _ c1 x))))) ⟨oe,hs₅.extBut _ _ hez hoe,hce⟩
 ·simp only[Bool.false_eq_true,if_false]
  refine wpAny_bind ?_
  simp only[List.forIn_toArray,List.forIn_cons,List.forIn_nil]
  have a1:=h1.ext hs₁.extBut D.i1z D.l1z
  refine wpAny_bind (wpAny_bind (wpAny_holding ?_))
  show wpAny _ _ (Builtin.SmallTypes.nextOf (.ref i1) >>= _) _ _ _
  cases hx:xs[k1]? with
  | none =>
   refine wpAny_bind (zc5 hh a1.1 a1.2 hx λh₂ e hs₂ he=>?_)
   exact hE h₂ e (λc o c1 _ c3 _ x=>hs₂ _ _ c3 (hs₁.extBut _ _ c1 x)) he
  | some x =>
   have hy:ys[k2]?=none:=by rcases hend with h | h;rw[hx]at h;cases h;exact h
   refine wpAny_bind (zc3 a1.1 a1.2 hx λh₂ h1₂ hs₂=>wpAny_pure (wpAny_pure ?_))
   have a2:=(h2.ext hs₁.extBut D.i2z D.l2z).ext hs₂.extBut D.i12.symm D.l2i1
   refine wpAny_bind (wpAny_bind (wpAny_holding ?_))
   show wpAny _ _ (Builtin.SmallTypes.nextOf (.ref i2) >>= _) _ _ _
   refine wpAny_bind (zc5 hh a2.1 a2.2 hy λh₃ e hs₃ he=>?_)
   exact hE h₃ e (λc o c1 _ c3 c4 x=>hs₃ _ _ c4 (hs₂.extBut _ _ c3 (hs₁.extBut _ _ c1 x))) he
theorem zjy {z TI' TO i1 i2 l1 l2:Addr} {k1 k2:Nat} {m:Value} {f:Bool} {xs ys:Array Value} {x y a b:Value} {Q:Option Value→Shared→Prop} (D:ZipApart z TI' TO i1 i2 l1 l2)
  (hz:zcu s.heap z TI' TO m f) (hm:MkZ m) (hTI:IsPair s.heap TI' (.ref i1) (.ref i2)) (hTO:IsPair s.heap TO a b) (h1:TuI s.heap i1 l1 k1 xs) (h2:TuI s.heap i2 l2 k2 ys) (hx:xs[k1]?=some x) (hy:ys[k2]?=some y)
  (hQ:∀ h',(∃ m' f',MkZ m'∧zcu h' z TI' TO m' f')→(∃ u v,IsPair h' TO u v)→h'.IsTupleIter i1 l1 (k1+1)→h'.IsTupleIter i2 l2 (k2+1)→IsPair h' s.heap.objs.size x y→h'.objs.size=s.heap.objs.size+1 →
   (∀ c o,c≠z→c≠TO→c≠i1→c≠i2→s.heap.get? c=some o→h'.get? c=some o)→Q (some (.ref s.heap.objs.size)) { s with heap:=h' }) :
  wpAny (model prog w) A (pyNext (.ref z)) Q E s:=by
 have hT:s.TypeIs (.ref z) "zip":=⟨_,hz,rfl⟩
 unfold pyNext
 exact wpAny_bind (wpAny_attempt (wpAny_callSpecial?_slot (name:=Str.ofString "__next__") hT F.slot_zip_next
  (wpAny_call_entry F.slot_zip_next hT F.entry_zip_next (zlh D hz hm hTI hTO h1 h2 hx hy λh' a1 a2 a3 a4 a5 a6 a7=>wpAny_pure (hQ h' a1 a2 a3 a4 a5 a6 a7)) (F.args_zip_next_1 _))))
theorem zhC {z TI' TO i1 i2 l1 l2:Addr} {k1 k2:Nat} {m:Value} {f:Bool} {xs ys:Array Value} {a b:Value} {Q:Option Value→Shared→Prop} (hh:A.handled=none) (D:ZipApart z TI' TO i1 i2 l1 l2)
  (hz:zcu s.heap z TI' TO m f) (hm:MkZ m) (hTI:IsPair s.heap TI' (.ref i1) (.ref i2)) (hTO:IsPair s.heap TO a b) (h1:TuI s.heap i1 l1 k1 xs) (h2:TuI s.heap i2 l2 k2 ys) (hend:xs[k1]?=none∨ys[k2]?=none)
  (hQ:∀ h',(∀ c o,c≠z→c≠TO→c≠i1→c≠i2→s.heap.get? c=some o→h'.get? c=some o)→Q none { s with heap:=h' }):wpAny (model prog w) A (pyNext (.ref z)) Q E s:=by
 have hT:s.TypeIs (.ref z) "zip":=⟨_,hz,rfl⟩
 unfold pyNext
 refine wpAny_bind (wpAny_attempt (wpAny_callSpecial?_slot (name:=Str.ofString "__next__") hT F.slot_zip_next
  (wpAny_call_entry F.slot_zip_next hT F.entry_zip_next (zlY hh D hz hm hTI hTO h1 h2 hend λh' e hk he=>?_) (F.args_zip_next_1 _))))
 obtain⟨o,ho,hc⟩:=he
 refine wpAny_bind (wpAny_isInstance (T:="StopIteration") (b:=true) ⟨o,ho,hc⟩ isSubtype_stop ?_)
 exact wpAny_pure (hQ _ hk)
end
theorem zlK {prog:Program} {w:World} {A:Around} {E:Value→Shared→Prop} {s:Shared} {z TI' TO:Addr} {m:Value} {f:Bool} {Q:Value→Shared→Prop} (hz:zcu s.heap z TI' TO m f) (h:Q (.ref z) s):wpAny (model prog w) A (pyIter (.ref z)) Q E s:=by
 have hT:s.TypeIs (.ref z) "zip":=⟨_,hz,rfl⟩
 refine wpAny_pyIter_slot hT F.slot_zip_iter (wpAny_call_entry F.slot_zip_iter hT F.entry_zip_iter ?_ (F.args_zip_iter_1 _))
 show wpAny _ _ (ret (.ref z)) _ _ s
 exact wpAny_pure ⟨_,rfl,"zip",_,hT,F.slot_zip_next.lookup,h⟩
theorem zlj {P:Program} {w:World} {K:W.Frag} {nm:String} {pos:Pos} (a b z T TO i1 i2:Addr) (D:ZipApart z T TO i1 i2 a b):zgS P w K (.Name nm pos) (ItzT K a b) [z,T,TO,i1,i2] z
  (λi h=>(∃ m f,MkZ m∧zcu h z T TO m f)∧IsPair h T (.ref i1) (.ref i2)∧(∃ u v,IsPair h TO u v)∧h.IsTupleIter i1 a i∧h.IsTupleIter i2 b i) where
 mem:=by simp
 obj:=λi h st c hc=>by
  obtain⟨⟨m,f,hm,h1⟩,h2,⟨u,v,h3⟩,⟨o4,h4,c4,d4⟩,⟨o5,h5,c5,d5⟩⟩:=st
  simp only[List.mem_cons,List.not_mem_nil,or_false]at hc
  rcases hc with rfl | rfl | rfl | rfl | rfl
  ·exact⟨_,h1,λv q=>by have q':Data.fields _=Data.cell v:=q;cases q'⟩
  ·exact⟨_,h2,λv q=>by have q':Data.seq _ _=Data.cell v:=q;cases q'⟩
  ·exact⟨_,h3,λv q=>by have q':Data.seq _ _=Data.cell v:=q;cases q'⟩
  ·exact⟨o4,h4,λv q=>by rw[d4]at q;cases q⟩
  ·exact⟨o5,h5,λv q=>by rw[d5]at q;cases q⟩
 keep:=λi h h' st k=>by
  obtain⟨⟨m,f,hm,h1⟩,h2,⟨u,v,h3⟩,h4,h5⟩:=st
  exact⟨⟨m,f,hm,k z (by simp) _ h1⟩,k T (by simp) _ h2,⟨u,v,k TO (by simp) _ h3⟩,h4.at λo q=>k i1 (by simp) o q,h5.at λo q=>k i2 (by simp) o q⟩
 item:=by
  intro X hP hw hK hc i pins s σ H E I hf st hg
  subst hP hw hK
  obtain⟨xs,ys,x,y,hq,hq2,hx,hy⟩:=hg
  obtain⟨its,rv,p,hz⟩:=I.tuple hq
  obtain⟨its2,rv2,p2,hz2⟩:=I.tuple hq2
  obtain⟨u,hu,ru⟩:=rv.get hx
  obtain⟨v,hv,rw'⟩:=rv2.get hy
  obtain⟨⟨m,f,hm,h1⟩,h2,⟨u0,v0,h3⟩,h4,h5⟩:=st
  have lz:z < s.heap.objs.size:=hLq h1
  have lTI:T < s.heap.objs.size:=hLq h2
  have lTO:TO < s.heap.objs.size:=hLq h3
  have l1:i1 < s.heap.objs.size:=by obtain⟨o,e,_⟩:=id h4;exact hLq e
  have l2:i2 < s.heap.objs.size:=by obtain⟨o,e,_⟩:=id h5;exact hLq e
  refine zjy D h1 hm h2 h3 ⟨h4,show s.heap.IsTuple a its.toArray from p⟩ ⟨h5,show s.heap.IsTuple b its2.toArray from p2⟩ (x:=u) (y:=v) (by simpa using hu) (by simpa using hv) λh' g1 g3 g4 g5 gT gz gk=>?_
  refine⟨_,rfl,wpAny_pure ?_⟩
  have kk:∀ c o,c∉[z,T,TO,i1,i2]→s.heap.get? c=some o→h'.get? c=some o:=λc o hc q =>
   gk c o (λe=>hc (by simp [e])) (λe=>hc (by simp [e])) (λe=>hc (by simp [e])) (λe=>hc (by simp [e])) q
  have new:zaE X.prog X.w (upd H s.heap.objs.size (.tup [x,y])) h' s.heap.objs.size (.tup [x,y]) :=
   ⟨Nat.le_of_lt (zaJ (show 2≤1000 by decide)),[u,v],.cons ru (.cons rw' .nil),_,gT,rfl,_,rfl⟩
  have gTI:h'.get? T=some _:=gk T _ D.TIz D.TITO D.TIi1 D.TIi2 h2
  refine⟨.ref s.heap.objs.size,_,I.turnedLaid (t':=s.toks) hf kk (nRq _) new,rfl,⟨_,x,y,rfl,I.fresh,rfl,λzs hzs=>by rw[I.tuple_inj hzs hq];exact hx,λzs hzs=>by rw[I.tuple_inj hzs hq2];exact hy⟩,⟨g1,gTI,g3,g4,g5⟩,λc hc=>?_⟩
  have lc:c < s.heap.objs.size:=by
   have hc':=hc
   simp only[List.mem_cons,List.not_mem_nil,or_false]at hc'
   rcases hc' with rfl | rfl | rfl | rfl | rfl <;> assumption
  rw[aD (Nat.ne_of_lt lc)]
  exact(hf c hc).1
 done:=by
  intro X hP hw hK hc i pins s σ H E I hf st hg
  subst hP hw hK
  obtain⟨xs,ys,hq,hq2,hx⟩:=hg
  obtain⟨its,rv,p,hz⟩:=I.tuple hq
  obtain⟨its2,rv2,p2,hz2⟩:=I.tuple hq2
  obtain⟨⟨m,f,hm,h1⟩,h2,⟨u0,v0,h3⟩,h4,h5⟩:=st
  have hl:=rv.length
  have hl2:=rv2.length
  refine zhC (I.ok.hd hc) D h1 hm h2 h3 ⟨h4,show s.heap.IsTuple a its.toArray from p⟩ ⟨h5,show s.heap.IsTuple b its2.toArray from p2⟩ (hx.elim (λq=>.inl (by simp;lia)) λq=>.inr (by simp;lia)) λh' gk=>⟨rfl,?_⟩
  have un:Un (frs X.stack) [z,T,TO,i1,i2] H H s.heap h':=⟨λc o q _ _ hc=>gk c o (λe=>hc (by simp [e])) (λe=>hc (by simp [e])) (λe=>hc (by simp [e])) (λe=>hc (by simp [e])) q,
   λc o q _ _ hc=>⟨o.slots,gk c o (λe=>hc (by simp [e])) (λe=>hc (by simp [e])) (λe=>hc (by simp [e])) (λe=>hc (by simp [e])) q⟩,λ_ _ _ n _=>n,
   λc o q hc=>⟨o,gk c o (λe=>hc (by simp [e])) (λe=>hc (by simp [e])) (λe=>hc (by simp [e])) (λe=>hc (by simp [e])) q⟩,λ_ _ q=>q,λ_ _ _ q=>q,λ_ ps q=>⟨#[],by rw[q];simp⟩⟩
  have nfp:∀ c u,H c=some u→c∉[z,T,TO,i1,i2]:=λc u e q=>by rw[(hf c q).1]at e;cases e
  have hok:HOk X.prog X.w H h':=λc u e=>by
   refine(I.hok c u e).stay (λd v hd q=>?_) (λ_ q=>q) λ_ _ q=>q
   have nd:d∉[z,T,TO,i1,i2]:=by
    rcases hd with r | r
    ·rw[r];exact nfp c u e
    ·exact nfp d _ r
   exact gk d v (λe=>nd (by simp [e])) (λe=>nd (by simp [e])) (λe=>nd (by simp [e])) (λe=>nd (by simp [e])) q
  exact I.call (g':=s.gens) (d':=s.drawn) (t':=s.toks) (ch:=[z,T,TO,i1,i2]) un hok I.bare λc hc=>⟨(hf c hc).2.2.2.1,(hf c hc).2.1,(hf c hc).2.2.2.2.1,(hf c hc).2.2.2.2.2⟩
 self:=λ_ _ _ _ _ ⟨⟨_,_,_,h1⟩,_⟩ h=>zlK h1 h
theorem zmY {X:Cx} {nm:String} {pt:Pos} {a b:Expr} {ta:TA} {p pos:Pos} (hg:Gl X "zip") (hm:X.mg "zip"=none) (ha:PA X [a,b] ta) (hs:starEach [a,b] X.env=[(false,eval a X.env),(false,eval b X.env)]:=by rfl) (hs2:starEach [b] X.env=[(false,eval b X.env)]:=by rfl):PI X (.Name nm pt) (.Call (.Name "zip" p) [a,b] [] pos) (iZipT X.K ta):=by
 intro pins s σ H R I h
 refine Call_ (zdX I hg hm boot_zip (PyProof.Rows.callWith_type1 (thn (ha pos pins s σ H _ I h) λus s1 ⟨vs,H1,I1,r1,q1⟩=>?_) (by rw[hs,hs2]) (by rw[hs2];rfl)))
 obtain⟨a,b,e,⟨xs,hq⟩,⟨ys,hq2⟩,q⟩:=q1
 subst e
 obtain⟨u,v,rfl,ru,rv'⟩:=r1.two
 cases ru
 cases rv'
 obtain⟨its,rv,pl,hz⟩:=I1.tuple hq
 obtain⟨its2,rv2,pl2,hz2⟩:=I1.tuple hq2
 have la:a < s1.heap.objs.size:=by obtain⟨o,e,_⟩:=pl;exact hLq e
 have lb:b < s1.heap.objs.size:=by obtain⟨o,e,_⟩:=pl2;exact hLq e
 refine zlS (show s1.heap.IsTuple a its.toArray from pl) (show s1.heap.IsTuple b its2.toArray from pl2) λh' h1 h2 h3 h4 h5 hz' kk=>?_
 refine wpAny_pyIter_zip h1 ?_
 have I2:Inv X pins σ H1 { s1 with heap:=h' }:=I1.kept (t':=s1.toks) kk
 refine⟨_,_,_,ItzT X.K a b,H1,rfl,I2,zlj a b _ _ _ _ _ (zipApart_new la lb),⟨⟨_,_,.inl rfl,h1⟩,h2,⟨_,_,h3⟩,h4,h5⟩,λc hc=>?_,q⟩
 have hle:s1.heap.objs.size≤c:=by
  simp only[List.mem_cons,List.not_mem_nil,or_false]at hc
  rcases hc with rfl | rfl | rfl | rfl | rfl
  ·exact Nat.le_add_right _ _
  ·exact Nat.le_add_right _ _
  ·exact Nat.le_add_right _ _
  ·exact nRq _
  ·exact Nat.le_add_right _ _
 exact I1.fpOk hle (I1.hok.fresh hle)
end L2
namespace L2
open PySem PySem.Spec PyProof.Rows
end L2
namespace L2
open PySem PySem.Spec PyProof.Rows
section
variable {prog:Program} {w:World} {A:Around} {E:Value→Shared→Prop} {s:Shared}
theorem zmB {t b:Addr} {vs ws:List Value} {Q:Value→Shared→Prop} (ht:IsTup s.heap t vs.toArray) (hb:IsTup s.heap b ws.toArray) (hv:vs=[]) (h:Q (.ref b) s):wpAny (model prog w) A (binaryOp .Add (.ref t) (.ref b)) Q E s:=by
 obtain⟨⟨cls,dd,data,sl⟩,ho,hc,n,hd⟩:=id ht
 obtain⟨⟨cls2,dd2,data2,sl2⟩,ho2,hc2,n2,hd2⟩:=id hb
 simp only at hc hd hc2 hd2
 subst hc hd hc2 hd2
 exact concat_meets ⟨_,ho,rfl⟩ ⟨_,ho2,rfl⟩ noFill_tuple_add seq_tuple_add PySem.F.slot_tuple_add PySem.F.entry_tuple_add (PySem.F.args_tuple_add_2 _ _)
   (tuple_addW0 t b vs.toArray ws.toArray n n2 dd dd2 sl sl2 (by simp [hv])) ⟨ho,ho2,h⟩
end
inductive rCatA (K:W.Frag):R2|m{x y H Q} a b xs ys:x=.ref a→y=.ref b→SqT K H a xs→SqT K H b ys→xs.length+ys.length≤sizeLine→(∀(H':Hp) (p:Addr),ah H H'→SqT K H' p (xs++ys)→Q (.ref p) H')→rCatA K x y H Q
theorem zm2 {X:Cx}:OpR X (binaryOp .Add) (rCatA X.K):=by
 intro pins s σ H x y v u Q I rx ry h
 obtain⟨a,b,xs,ys,e1,e2,ha,hb,hz,q⟩:=h
 by_cases hx:xs=[]
 ·subst e1 e2
  cases rx
  cases ry
  obtain⟨its,r1,p1,_⟩:=I.tuple ha
  obtain⟨its2,r2,p2,_⟩:=I.tuple hb
  refine zmB p1 p2 (r1.nil_iff.mpr hx) ⟨.ref b,H,I,rfl,q H b (ah.refl _) ?_⟩
  rw[hx]
  exact hb
 ·refine zjT pins s σ H x y v u Q I rx ry ⟨a,b,xs,ys,e1,e2,ha,hb,hx,hz,λz=>?_,λz p hp=>q _ p (ai hp _) (SqT.of af)⟩
  refine q H a (ah.refl _) ?_
  rw[z,List.append_nil]
  exact ha
theorem zdE {t u:TS} {D:zb9} {σ:St} {H:Hp} (h:∀ n:St→Hp→Prop,n σ H→t { D with nx:=n } σ H) (a:u D σ H):tSeq t u D σ H:=h (u D) a
end L2
namespace L2
open PySem PySem.Spec PyProof.Rows
section
variable {X:Cx}
end
end L2
namespace L2
open PySem PySem.Spec PyProof.Rows
section
variable {X:Cx} {pins:List (Addr × Obj)} {σ:St} {H:Hp} {s:Shared}
inductive zjP (K:W.Frag):V→List V→Hp→VK→Prop|m{x vs H Q} a xs ds y d:x=.ref a→vs=[y]→SqT K H a xs→ao K H ds xs→Has K H d y→zaA ds≤60→Q (.int ((ds.countP λe=>peq e d:Nat):Int)) H→zjP K x vs H Q
theorem zhz (I:Inv X pins σ H s) {d:Dt}:∀ {ds:List Dt} {vs:List V} {us:List Value},ao X.K H ds vs→aW vs us→us.countP (hitD X.K H d)=ds.countP λe=>peq e d
 | [],vs,us,h,r=>by
  simp only[ao]at h
  subst h
  cases r
  rfl
 | d' :: ds,vs,us,h,r=>by
  simp only[ao]at h
  obtain⟨v,rs,rfl,h1,h2⟩:=h
  cases r with
  | cons r1 r2=>rw[List.countP_cons,List.countP_cons,zhz I h2 r2,zgD I r1 h1]
theorem zlE (hu:X.A.units+64 < cLine):MtR X "tuple.count" (zjP X.K):=by
 intro pins s σ H x vs v us Q I rx rv h
 obtain⟨a,xs,ds,y,d,rfl,rfl,hq,hs,hy,hd,q⟩:=h
 cases rx
 obtain⟨u,rfl,ru⟩:=rv.one
 obtain⟨its,r,pl,hz⟩:=I.tuple hq
 obtain⟨o,e,hc,n,hdt⟩:=id pl
 obtain⟨oc,od,odt,osl⟩:=o
 simp only at hc hdt
 subst hc hdt
 have hin:X.A.in1.units+zaA ds < cLine:=by rw[Around.in1_units];lia
 refine call_meets F.slot_tuple_count ⟨_,e,rfl⟩ F.entry_tuple_count (F.args_tuple_count_2 _ _) (SeqAt.tuple_countAt a its.toArray n od osl u (hitD X.K H d)) ⟨e,?_,?_⟩
 ·intro w hw
  exact zdp I hy ru hs r hin w (by simpa using hw)
 ·refine⟨.int _,H,I.tok _,⟨_,rfl⟩,?_⟩
  show Q (.int ((its.countP (hitD X.K H d):Nat):Int)) H
  rw[zhz I hs r]
  exact q
end
end L2
namespace L2
open PySem PySem.Spec PyProof.Rows
section
variable {P:Program} {w:World} {H H':Hp} {h h' B:Heap} {a:Addr} {o:HO}
theorem zaE.there (x:zaE P w H h a o):∃ ob,h.get? a=some ob:=by
 cases o with
 | lst xs=>obtain⟨_,_,_,_,q⟩:=x;exact⟨_,q⟩
 | tup xs=>obtain⟨_,_,_,ob,q,_⟩:=x;exact⟨_,q⟩
 | dK kvs=>obtain⟨_,_,_,_,o,_,_,q,_⟩:=x;exact⟨_,q⟩
 | dT kvs=>obtain⟨_,_,_,_,o,_,_,q,_⟩:=x;exact⟨_,q⟩
 | set S n=>obtain⟨o,_,_,_,q,_⟩:=x;exact⟨_,q⟩
 | ins C dx fs=>obtain⟨_,_,_,q,_⟩:=x;exact⟨_,q⟩
 | own y=>exact x
 | xd fs=>obtain⟨_,⟨_,_,_,q,_⟩,_⟩:=x;exact⟨_,q⟩
 | rng lo hi=>obtain⟨_,_,_,q⟩:=x;exact⟨_,q⟩
 | frz ob u=>exact⟨_,x.1⟩
 | tbl ps=>exact⟨_,(show h.get? a=some _ from x)⟩
 | met f y=>exact⟨_,(show h.get? a=some _ from x)⟩
 | ext φ=>exact x.2.1
def Trk (H:Hp) (h B:Heap):Prop:=∀ b ob,H b≠none→h.get? b=some ob→B.get? b=some ob
def Old (fs:List Addr) (H:Hp) (h B:Heap):Prop:=∀ b ob,h.get? b=some ob→b∉fs→∃ ob',B.get? b=some ob'∧(H b=none→ob'=ob)
theorem HOk.stays (ok:HOk P w H h) (t:Trk H h B) (k:B.StaysIn h'):HOk P w H h':=λa o e =>
 (ok a o e).stay (λb u hb q=>k b u (t b u (hb.elim (λz=>by rw[z,e];exact nofun) λz=>by rw[z];exact nofun) q)) (λ_ q=>q) λ_ _ q=>q
theorem Trk.stays (ok:HOk P w H h) (t:Trk H h B) (k:B.StaysIn h'):Trk H h' B:=λb ob hb e=>by
 cases q:H b with
 | none=>exact absurd q hb
 | some u =>
  obtain⟨ob1,e1⟩:=(ok b u q).there
  have z:=t b ob1 hb e1
  have z2:=k b ob1 z
  rw[e]at z2
  cases z2
  exact z
end
def CX1 (P:Program) (w:World):CXT:=λouter H s E e s'=>∃(ea C:Addr) (H':Hp) (B:Heap) (a0:Value),e=.ref ea∧s'.os=s.os∧AllBare s'.gens∧Un (frs outer) [] H H' s.heap s'.heap∧HOk P w H' s'.heap ∧
 Heap.FlyingW B outer ea (.ref C) a0 s'.heap∧Trk H' s'.heap B∧Old (frs outer) H s.heap B∧E (.ref C) none H'
structure Xe1 (X:Cx) (E:XK):Prop where
 xe:X.xe=λe s'=>wpAny (model X.prog X.w) X.A (leaving X.env e) (λ_ s''=>CX1 X.prog X.w X.outer X.H₀ X.s₀ E e s'') (λe' s''=>CX1 X.prog X.w X.outer X.H₀ X.s₀ E e' s'') s'
 stk:X.stack=X.env :: X.outer
 fr:X.env.frame=some X.env.locals
 ex:X.ex=[]
section
variable {X:Cx} {E:XK} {pins:List (Addr × Obj)} {σ:St} {H H':Hp} {s s':Shared} {B:Heap} {ea C:Addr} {a0:Value}
theorem zj9 (hx:Xe1 X E) (I:Inv X pins σ H s) {s'':Shared} (os:s''.os=s.os) (bare:AllBare s''.gens) (u:Un (frs X.stack) [] H H' s.heap s'.heap) (ok:HOk X.prog X.w H' s'.heap)
  (fl:Heap.FlyingW B X.outer ea (.ref C) a0 s''.heap) (sm:s'.heap.UpToSlots s''.heap) (trk:Trk H' s'.heap B) (old:Old (frs X.stack) H s.heap B) (hE:E (.ref C) none H') :
  CX1 X.prog X.w X.outer X.H₀ X.s₀ E (.ref ea) s'':=by
 have hfs:frs X.stack=X.env.locals :: X.fs:=by
  rw[hx.stk]
  unfold frs
  rw[List.filterMap_cons,hx.fr]
  rfl
 have nx:∀ b,b∉X.ex:=λb hb=>by rw[hx.ex]at hb;cases hb
 have nf:∀ b ob,X.s₀.heap.get? b=some ob→b∉X.fs→b∉frs X.stack:=λb ob e hb z=>by
  rw[hfs]at z
  rcases List.mem_cons.mp z with z | z
  ·exact absurd (Nat.lt_of_lt_of_le (hLq e) I.ok.above) (by rw[z];exact Nat.lt_irrefl _)
  ·exact hb z
 have st:B.StaysIn s''.heap:=fl.1
 have U:=I.base
 have old':Old X.fs X.H₀ X.s₀.heap B:=λb ob e hb=>by
  obtain⟨o1,e1⟩:=U.there b ob e (nx b)
  obtain⟨o',eB,hB⟩:=old b o1 e1 (nf b ob e hb)
  refine⟨o',eB,λn=>?_⟩
  have k:=U.keep b ob e n hb (nx b)
  rw[e1]at k
  cases k
  exact hB (U.free b ob e n (nx b))
 have slot:∀ b ob,X.s₀.heap.get? b=some ob→X.H₀ b=none→b∈X.fs→∃ sl,s''.heap.get? b=some { ob with slots:=sl }:=λb ob e n hb=>by
  obtain⟨sl,k⟩:=U.slot b ob e n hb (nx b)
  obtain⟨sl2,k2⟩:=u.any k (U.free b ob e n (nx b)) (by simp)
  obtain⟨_,o3,e3,hd⟩:=I.ok.funs.mem hb
  rw[e]at e3
  cases e3
  obtain⟨sl3,k3⟩:=sm b _ k2 λvs q=>hd vs q
  exact⟨sl3,k3⟩
 refine⟨ea,C,H',B,a0,rfl,os.trans I.os,bare,⟨λb ob e n hb _=>?_,λb ob e n hb _=>slot b ob e n hb,λb ob e n _=>?_,λb ob e _=>?_,λb xs q=>u.tups b xs (U.tups b xs q),λb ob xs q=>u.frzs b ob xs (U.frzs b ob xs q),λb ps q=>?_⟩,
  ok.stays trk st,fl,Trk.stays ok trk st,old',hE⟩
 ·obtain⟨o',eB,hB⟩:=old' b ob e hb
  rw[hB n]at eB
  exact st b ob eB
 ·obtain⟨o1,e1⟩:=U.there b ob e (nx b)
  exact u.free b o1 e1 (U.free b ob e n (nx b)) (by simp)
 ·by_cases hb:b∈X.fs
  ·obtain⟨sl,k⟩:=slot b ob e (I.ok.frf b hb) hb
   exact⟨_,k⟩
  ·obtain⟨o',eB,_⟩:=old' b ob e hb
   exact⟨o',st b o' eB⟩
 ·obtain⟨m1,e1⟩:=U.tbls b ps q
  obtain⟨m2,e2⟩:=u.tbls b _ e1
  exact⟨m1++m2,by rw[e2,Array.append_assoc]⟩
theorem zc0 (hx:Xe1 X E):zdZ (CX1 X.prog X.w) X E:=by
 intro pins σ H s e s' I h
 obtain⟨ea,C,H',B,a0,rfl,os,bare,u,ok,fl,trk,old,hE⟩:=h
 rw[hx.xe]
 have fl2:=fl
 rw[hx.stk]at fl2
 have hfr:X.A.frames=some (X.env :: X.outer):=by rw[I.ok.frames,hx.stk]
 exact wpAny_leaves_onW hfr hx.fr fl2 λh' fl' sm=>zj9 hx I os bare u ok fl' sm trk old hE
theorem zmF {h':Heap} {vs:List Value} (hx:Xe1 X E) (I:Inv X pins σ H s) (m:Heap.MadeExcOf s.heap h' ea (.ref C) vs) (hE:E (.ref C) none H):X.xe (.ref ea) { s with heap:=h' }:=by
 rw[hx.xe]
 have hl:s.heap.FunFrames (W.hideAll s.heap (frs X.stack)) X.stack:=W.funFrames_hide I.stack λenv he a ha=>List.mem_filterMap.mpr ⟨env,he,ha⟩
 have hl2:s.heap.FunFrames (W.hideAll s.heap (frs X.stack)) (X.env :: X.outer):=by
  have z:=hl
  rw[show X.stack=X.env :: X.outer from hx.stk]at z ⊢
  exact z
 have hfr:X.A.frames=some (X.env :: X.outer):=by rw[I.ok.frames,hx.stk]
 refine wpAny_leaves_madeW (base:=W.hideAll s.heap (frs X.stack)) (h:=s.heap) hfr hx.fr (λb ob q=>W.of_hideAll _ q) hl2 m λh'' t fl _ _ sm=>?_
 refine zj9 (s':={ s with heap:=h' }) hx I rfl I.bare (Un.kept m.keeps) (I.hok.kept m.keeps) fl sm (λb ob hb q=>?_) (λb ob q hb=>⟨ob,W.hideAll_get _ q hb,λ_=>rfl⟩) hE
 cases z:H b with
 | none=>exact absurd z hb
 | some v =>
  obtain⟨o1,e1⟩:=(I.hok b v z).there
  have e2:=m.keeps b o1 e1
  have q':h'.get? b=some ob:=q
  rw[q']at e2
  cases e2
  exact W.hideAll_get _ e1 λy=>hb (I.stkFree b y)
theorem own_at {K:W.Frag} {hp:Heap} {bmB:List Value} {newId:String} (XI:K.In hp) (q:W.excIn K C bmB newId=true) :
  ∃ bm N nm qn bs hdct sn sub ab col dd k0 k1 k2 k3 k5 mN,hp.get? C=some (excClassObj nm qn C N bs bm hdct sn sub ab col dd k0 k1 k2 k3 k5 newId)∧hp.Ns N mN∧mN "__init__"=none∧OwnTail hp bmB bm:=by
 unfold W.excIn at q
 split at q
 ·rename_i d1 c1 l1 hC1
  split at q
  ·rename_i C2 bm2 y0 y1 y2 y3 n2 y5 hm2 hs2
   simp only[Bool.and_eq_true,beq_iff_eq,Bool.not_eq_true']at q
   obtain⟨⟨⟨⟨⟨rfl,rfl⟩,hdl⟩,htl⟩,hno⟩,hin⟩:=q
   obtain⟨nm,bs,mro,ns,qn,hd,sn,sub,ab,col,del⟩:=c1
   dsimp only at hm2 hdl hno hin
   subst hm2 hdl
   have hsl:l1=#[y0,y1,y2,y3,some (.builtin n2),y5]:=by
    obtain⟨l⟩:=l1
    simp only at hs2
    rw[hs2]
   subst hsl
   exact⟨bm2,ns,nm,qn,bs,hd,sn,sub,ab,col,d1,y0,y1,y2,y3,y5,_,XI _ _ hC1,.of_isNs (W.isNs_of_in XI hno),W.nsMap_none_of_in XI hno hin,W.tail_of_in XI htl⟩
  ·cases q
 ·cases q
variable {e0:Expr} {zbV:List Expr} {t:TA} {x:Str} {np cpos pos:Pos} {Bn newId initId:String} {bm:List Value}
def tRaise (E:XK) (C:Addr) (t:TA):TS:=λ_ σ H=>t σ H λvs H1=>vs.length≤sizeLine∧E (.ref C) none H1
theorem zdm (hx:Xe1 X E) (hc:X.calm=true) (hg:Gl X x) (hm:X.mg x=some (.ref C)) (F:ExcBaseFacts Bn newId initId bm) (q:W.excIn X.K C bm newId=true) (ha:PA X (e0 :: zbV) t)
  (hdb:(x == ("__debug__":Str))=false:=by decide) (hse:starEach (e0 :: zbV) X.env=(false,eval e0 X.env) :: starEach zbV X.env:=by rfl) (hpl:(backTo cpos (starEach zbV X.env)).any (·.1)=false:=by rfl) :
  PS X (.Raise (some (.Call (.Name x np) (e0 :: zbV) [] cpos)) none pos) (tRaise E C t):=by
 intro pins s σ H D I h
 obtain⟨tl,N,nm,qn,bs,hdct,sn,sub,ab,col,dd,k0,k1,k2,k3,k5,mN,hC,hN,hni,T⟩:=own_at (C:=C) I.mod.kin q
 refine wpAny_Raise_call_subT (C:=C) (nm:=nm) (q:=qn) (N:=N) (bs:=bs) (bm:=tl) (hdct:=hdct) (sn:=sn) (sub:=sub) (ab:=ab) (col:=col) (dd:=dd) (k0:=k0) (k1:=k1) (k2:=k2) (k3:=k3) (k5:=k5) F (mN:=mN)
  (T.hasType F.hasBase) (I.ok.hd hc) (by rw[hse];show(false||(backTo cpos (starEach zbV X.env)).any (·.1))=false;rw[hpl];rfl) hni (zgA I hg hm ⟨rfl,?_⟩ hdb)
 have g:=ha cpos pins s σ H _ I h
 rw[hse]at g ⊢
 refine Calls.evalArgs_plain (wpAny_mono g (λvs s2 ⟨ws,H2,I2,r2,hz,hE⟩=>?_) λ_ _ y=>y)
 exact⟨rfl,by rw[←r2.length];exact hz,I2.bk _ _ hC,hN.keeps I2.bk,T.keeps I2.bk,λh' ea m=>zmF hx I2 m hE⟩
end
end L2
namespace L2
open PySem PySem.Spec PyProof.Rows
section
variable {X:Cx} {pins:List (Addr × Obj)} {σ:St} {H H':Hp} {s s':Shared} {B:Heap} {ea C:Addr} {a0:Value} {D:zb9} {f:Flow} {E1:Value→Shared→Prop}
end
end L2
namespace L2
open PySem PySem.Spec PyProof.Rows
section
variable {X:Cx} {pins:List (Addr × Obj)} {σ:St} {H H':Hp} {s s':Shared} {B:Heap} {ea C:Addr} {a0:Value} {D:zb9} {f:Flow}
end
end L2
namespace L2
open PySem
end L2
namespace L2
open PySem
section
variable {K:W.Frag} {h:Heap} {mg:Str→Option Value} {C f:Addr} {fd:FuncData} {n x q:Str} {st:Stmt} {oc kV doc pm cdv ct:Value} {od an:Option Addr} {osl:Array (Option Value)}
structure FT (K:W.Frag) (n x:Str) (st:Stmt) (f:Addr) (fd:FuncData):Prop where
 a:W.nsIn K mainGlobals n=some (some (.ref f))
 F:Fun K x x st f fd
 k:W.keepIn K (.ref f)=true
theorem FT.m (z:FT K n x st f fd) (X:K.In h) (G:h.Ns mainGlobals mg):mg n=some (.ref f):=W.mg_of X G z.a
theorem ft_in (a:W.nsIn K mainGlobals n=some (some (.ref f))) (l:K.lookup f=some ⟨oc,od,.func (W.fnOf x x (zc2 st) (zaX st) (au st) .none kV doc pm an cdv ct),osl⟩) (c:W.codeIn K cdv x=true) (k:W.keepIn K (.ref f)=true):FT K n x st f (W.fnOf x x (zc2 st) (zaX st) (au st) .none kV doc pm an cdv ct):=⟨a,zk4 l c k,k⟩
structure FM (K:W.Frag) (C:Addr) (x q:Str) (st:Stmt) (f:Addr) (fd:FuncData):Prop where
 a:W.findIn K (.ref C) x=some (some (.ref f))
 i:W.isFn K (.ref f)=true
 F:Fun K x q st f fd
 k:W.keepIn K (.ref f)=true
theorem FM.M (z:FM K C x q st f fd):zdb K C x f:=⟨z.a,z.i,z.k⟩
theorem fm_in (a:W.findIn K (.ref C) x=some (some (.ref f))) (i:W.isFn K (.ref f)=true) (l:K.lookup f=some ⟨oc,od,.func (W.fnOf x q (zc2 st) (zaX st) (au st) .none kV doc pm an cdv ct),osl⟩) (c:W.codeIn K cdv q=true) (k:W.keepIn K (.ref f)=true):FM K C x q st f (W.fnOf x q (zc2 st) (zaX st) (au st) .none kV doc pm an cdv ct):=⟨a,i,zk4 l c k,k⟩
abbrev Bd (x q:Str) (st:Stmt) (ps:List Str) (us:List Value):Prop:=∀(kV doc pm:Value) (an:Option Addr) (cdv ct:Value),bindArgs (W.fnOf x q (zc2 st) (zaX st) (au st) .none kV doc pm an cdv ct) ⟨us,[]⟩=pure (ps.zip us)
theorem Fun.b1 {p:Str} (F:Fun K x q st f fd) (h:∀ a,Bd x q st [p] [a]):aF K fd [p] []:=F.binds λkV doc pm an cdv ct us hl=>by
 rcases us with _ | ⟨_,_ | _⟩ <;> first | exact h _ kV doc pm an cdv ct | cases hl
theorem Fun.b2 {p p2:Str} (F:Fun K x q st f fd) (h:∀ a b,Bd x q st [p,p2] [a,b]):aF K fd [p,p2] []:=F.binds λkV doc pm an cdv ct us hl=>by
 rcases us with _ | ⟨_,_ | ⟨_,_ | _⟩⟩ <;> first | exact h _ _ kV doc pm an cdv ct | cases hl
theorem Fun.b3 {p p2 p3:Str} (F:Fun K x q st f fd) (h:∀ a b c,Bd x q st [p,p2,p3] [a,b,c]):aF K fd [p,p2,p3] []:=F.binds λkV doc pm an cdv ct us hl=>by
 rcases us with _ | ⟨_,_ | ⟨_,_ | ⟨_,_ | _⟩⟩⟩ <;> first | exact h _ _ _ kV doc pm an cdv ct | cases hl
theorem Fun.b4 {p p2 p3 p4:Str} (F:Fun K x q st f fd) (h:∀ a b c d,Bd x q st [p,p2,p3,p4] [a,b,c,d]):aF K fd [p,p2,p3,p4] []:=F.binds λkV doc pm an cdv ct us hl=>by
 rcases us with _ | ⟨_,_ | ⟨_,_ | ⟨_,_ | ⟨_,_ | _⟩⟩⟩⟩ <;> first | exact h _ _ _ _ kV doc pm an cdv ct | cases hl
theorem Fun.b5 {p p2 p3 p4 p5:Str} (F:Fun K x q st f fd) (h:∀ a b c d e,Bd x q st [p,p2,p3,p4,p5] [a,b,c,d,e]):aF K fd [p,p2,p3,p4,p5] []:=F.binds λkV doc pm an cdv ct us hl=>by
 rcases us with _ | ⟨_,_ | ⟨_,_ | ⟨_,_ | ⟨_,_ | ⟨_,_ | _⟩⟩⟩⟩⟩ <;> first | exact h _ _ _ _ _ kV doc pm an cdv ct | cases hl
theorem Fun.top {p:Str} (F:Fun K x q st f fd) (h:∀ a,Bd x q st [p] [a]):∀(s:Shared) (v:Value),BindsTo s fd ⟨[v],[]⟩ [(p,v)]:=λs v=>by
 obtain⟨oc,od,kV,doc,pm,an,cdv,ct,osl,rfl,lk,hcd⟩:=F.ex
 exact .of_eq (h v kV doc pm an cdv ct)
end
end L2
namespace K35
open PySem L2
variable {P:Program} {w:World} {K:W.Frag} {mg:Str→Option Value} {base:Heap} {aK C CN CT CP CM:Addr}
def top (i:Nat):Stmt:=PySem.Challenge.pw_yesorno_k35_faults.main.body.getD i (.Pass ⟨0,0,0,0⟩)
abbrev zgI:Stmt:=zcg (top 1) 0
abbrev zin:Stmt:=zcg (top 1) 1
abbrev zgH:Stmt:=zcg (top 1) 2
abbrev zhU:Stmt:=zcg (top 1) 3
abbrev zhJ:Stmt:=top 17
abbrev zhK:Stmt:=top 18
abbrev zg5:Stmt:=top 19
abbrev sOnce:Stmt:=top 20
abbrev ziF:Stmt:=top 21
abbrev zki:Stmt:=zcg (top 22) 0
abbrev zg3:Stmt:=zcg (top 22) 1
abbrev zg4:Stmt:=zcg (top 22) 2
abbrev sAdd:Stmt:=zcg (top 22) 3
abbrev ziE:Stmt:=zcg (top 22) 4
abbrev zkh:Stmt:=zcg (top 22) 5
abbrev sRow:Stmt:=zcg (top 22) 6
abbrev s_not_failing:Stmt:=top 24
abbrev s_is_learnt:Stmt:=top 25
abbrev zfI:Stmt:=top 26
abbrev zgf:Stmt:=top 27
abbrev zef:Stmt:=top 28
abbrev zfJ:Stmt:=top 29
abbrev zd5:Stmt:=top 31
abbrev zee:Stmt:=top 32
abbrev ze8:Stmt:=top 34
abbrev ze9:Stmt:=top 35
abbrev zd6:Stmt:=top 36
abbrev zfa:Stmt:=top 37
abbrev zdd:Stmt:=top 38
abbrev zhI:Stmt:=top 40
abbrev zge:Stmt:=top 41
abbrev sCell:Stmt:=top 43
abbrev zdC:Stmt:=top 44
abbrev zde:Stmt:=top 45
abbrev zdk:Stmt:=top 46
abbrev zcU:Stmt:=top 47
abbrev zfb:Stmt:=top 48
abbrev zeI:Stmt:=top 49
abbrev zdf:Stmt:=top 50
abbrev zeK:Stmt:=top 51
abbrev s__law_left:Stmt:=top 52
abbrev s__law_hints:Stmt:=top 53
abbrev s__law_right:Stmt:=top 54
abbrev s__law_spoilt:Stmt:=top 55
abbrev zfK:Stmt:=top 56
abbrev zcy:Stmt:=top 57
abbrev zbv:Stmt:=top 58
abbrev zcF:Stmt:=top 59
abbrev zd8:Stmt:=top 60
abbrev zd9:Stmt:=top 61
abbrev zcV:Stmt:=top 62
abbrev zeJ:Stmt:=top 63
abbrev zbm:Stmt:=top 64
abbrev zcq:Stmt:=top 65
abbrev zb0:Stmt:=top 66
abbrev zd7:Stmt:=top 67
abbrev zcW:Stmt:=top 68
abbrev za9:Stmt:=top 69
abbrev zeL:Stmt:=top 70
abbrev zci:Stmt:=top 71
abbrev abc:Str:="abcdefghijklmnopqrstuvwxyz"
def isL (c:Str):Bool:=!(Builtin.Str.occurrences abc c 0 abc.length 1).isEmpty
def zdl (z:Str):List Bool:=z.cps.toList.map λc=>isL ⟨#[c]⟩
def zir:List V:=[.str "or",.str "and",.str "not",.str "never",.str "always",.str "then",.str "as",.str "unlike"]
def zio (z:Str):Bool:=decide ((0:Int) < (z.length:Int))&&(zdl z).all id
def zbS (z:Str):Bool:=zio z&&(decide ((z.length:Int)≤8)&&!inV (.str z) zir)
theorem sz (n:Nat) (h:n≤1000):n≤sizeLine:=Nat.le_of_lt (zaJ h)
theorem zkG:zir.all zdw=true:=by decide +kernel
theorem zi7 (z:Str):(zdl z).length=z.length:=by simp [zdl,Str.length]
theorem zbh (a b:Str):(a++b).length=a.length+b.length:=by
 show(a.cps++b.cps).size=a.cps.size+b.cps.size
 exact Array.size_append
theorem zl1 {z:Str} {i ch:Nat} (hch:z.cps[i]?=some ch):(zdl z).take (i+1)=(zdl z).take i++[isL ⟨#[ch]⟩]:=by
 have hb:(zdl z)[i]?=some (isL ⟨#[ch]⟩):=by
  unfold zdl
  rw[List.getElem?_map,Array.getElem?_toList,hch]
  rfl
 rw[List.take_add_one,hb]
 rfl
abbrev Tm:=Str × List Int
def dT (t:Tm):Dt:=.tup [.str t.1,.tup (t.2.map Dt.int)]
theorem ze2:∀ ns:List Int,zdF (ns.map Dt.int)=true
 | []=>by simp [zdF]
 | n :: ns=>by simp only[List.map_cons,zdF,nob,Bool.true_and];exact ze2 ns
theorem zd1:∀ ns:List Int,zbn (ns.map Dt.int)=true
 | []=>by simp [zbn]
 | n :: ns=>by simp only[List.map_cons,zbn,nol,Bool.true_and];exact zd1 ns
theorem zbA:∀ ns:List Int,zaA (ns.map Dt.int)=0
 | []=>by simp [zaA]
 | n :: ns=>by simp only[List.map_cons,zaA,dep,zbA ns];rfl
theorem zkY (t:Tm):nob (dT t)=true:=by simp only[dT,nob,zdF,ze2,Bool.and_self]
theorem zkX (t:Tm):nol (dT t)=true:=by simp only[dT,nol,zbn,zd1,Bool.and_self]
theorem dep_dT (t:Tm):dep (dT t)=2:=by simp only[dT,dep,zaA,zbA];rfl
theorem zdo:∀ T:List Tm,zbn (T.map dT)=true
 | []=>by simp [zbn]
 | t :: T=>by simp only[List.map_cons,zbn,zkX,Bool.true_and];exact zdo T
theorem zjg:∀ T:List Tm,zaA (T.map dT)≤2
 | []=>by simp [zaA]
 | t :: T=>by
  have h:=zjg T
  simp only[List.map_cons,zaA,dep_dT]
  lia
theorem znk {a b:Int} (h:Dt.int a=Dt.int b):a=b:=by cases h;rfl
theorem zi9:∀ {as bs:List Int},as.map Dt.int=bs.map Dt.int→as=bs
 | [],[],_=>rfl
 | [],b :: bs,h=>by cases h
 | a :: as,[],h=>by cases h
 | a :: as,b :: bs,h=>by
  rw[List.map_cons,List.map_cons]at h
  injection h with h1 h2
  rw[znk h1,zi9 h2]
theorem dT_inj {a b:Tm} (h:dT a=dT b):a=b:=by
 obtain⟨n,ps⟩:=a
 obtain⟨m,qs⟩:=b
 unfold dT at h
 injection h with h
 injection h with h1 h2
 injection h1 with h1
 injection h2 with h2 _
 injection h2 with h2
 have e1:n=m:=h1
 have e2:ps=qs:=zi9 h2
 rw[e1,e2]
theorem peq_dT (a b:Tm):peq (dT a) (dT b)=decide (a=b):=by
 by_cases h:a=b
 ·subst h
  rw[zbD,dTq rfl]
 ·rw[dFq h]
  cases e:peq (dT a) (dT b) with
  | false=>rfl
  | true=>exact absurd (dT_inj (zho _ _ (zkY a) (zkY b) e)) h
inductive Out where
 | num (n:Nat) | name | term | many | part
def bad (T:List Tm) (ps:List Int):Bool:=decide (3 < ps.length)||ps.any λp=>decide (p < 0)||decide ((T.length:Int)≤p)
def zc9 (T:List Tm) (good:Bool) (t:Tm):Out × List Tm :=
 if good=false then(.name,T) else if bad T t.2=true then(.term,T) else if t∈T then(.num (T.idxOf t),T) else if 60≤T.length then(.many,T) else(.num T.length,T++[t])
theorem zeE {α:Type} [BEq α] [LawfulBEq α] {code:α→Dt} (hc:∀ a b,peq (code a) (code b)=true↔a=b) (T:List α) (t:α):((T.map code).any λd=>peq d (code t))=decide (t∈T):=by
 rw[Bool.eq_iff_iff,List.any_eq_true]
 constructor
 ·rintro ⟨d,hd,e⟩
  obtain⟨u,hu,rfl⟩:=List.mem_map.mp hd
  rw[hc]at e
  rw[←e]
  exact dTq hu
 ·intro h
  exact⟨code t,List.mem_map.mpr ⟨t,oDq h,rfl⟩,zbD _⟩
theorem zjb {α:Type} [BEq α] [LawfulBEq α] {code:α→Dt} (hc:∀ a b,peq (code a) (code b)=true↔a=b) (T:List α) (t:α):(T.map code).findIdx (λd=>peq d (code t))=T.idxOf t:=by
 rw[List.findIdx_map]
 unfold List.idxOf
 congr 1
 funext a
 show peq (code a) (code t)=(a == t)
 rw[Bool.eq_iff_iff,hc,beq_iff_eq]
theorem zk1 (a b:Tm):peq (dT a) (dT b)=true↔a=b:=by
 rw[peq_dT]
 exact decide_eq_true_iff
inductive At where
 | plain (z:Str)
 | same (a b:Int)
 deriving DecidableEq
def dA:At→Dt
 | .plain z=>.tup [.str "plain",.str z]
 | .same a b=>.tup [.str "same",.int a,.int b]
theorem zkZ (t:At):nob (dA t)=true:=by cases t <;> simp only[dA,nob,zdF,Bool.and_self]
theorem zdW (t:At):nol (dA t)=true:=by cases t <;> simp only[dA,nol,zbn,Bool.and_self]
theorem zla (t:At):dep (dA t)=1:=by cases t <;> simp only[dA,dep,zaA] <;> rfl
theorem dA_inj {a b:At} (h:dA a=dA b):a=b:=by
 cases a <;> cases b
 all_goals
  unfold dA at h
  injection h with h
  injection h with h1 h2
  injection h2 with h2 h3
  first
   | (injection h2 with h2;injection h3 with h3 _;injection h3 with h3;rw[h2,h3])
   | (injection h2 with h2;rw[h2])
   | (injection h1 with h1;exact absurd h1 (by decide +kernel))
   | cases h2
theorem zkR (a b:At):peq (dA a) (dA b)=decide (a=b):=by
 by_cases h:a=b
 ·subst h
  rw[zbD,dTq rfl]
 ·rw[dFq h]
  cases e:peq (dA a) (dA b) with
  | false=>rfl
  | true=>exact absurd (dA_inj (zho _ _ (zkZ a) (zkZ b) e)) h
theorem ziO (a b:At):peq (dA a) (dA b)=true↔a=b:=by
 rw[zkR]
 exact decide_eq_true_iff
def dR (r:List Int):Dt:=.tup (r.map Dt.int)
theorem zdV (r:List Int):nol (dR r)=true:=by simp only[dR,nol,zd1]
theorem zaP {α:Type} {code:α→Dt} (hc:∀ a,nol (code a)=true):∀ T:List α,zbn (T.map code)=true
 | []=>by simp [zbn]
 | t :: T=>by simp only[List.map_cons,zbn,hc,Bool.true_and];exact zaP hc T
theorem zdu {α:Type} {code:α→Dt} {n:Nat} (hc:∀ a,dep (code a)≤n):∀ T:List α,zaA (T.map code)≤n
 | []=>by simp [zaA]
 | t :: T=>by
  have h:=zdu hc T
  have:=hc t
  simp only[List.map_cons,zaA]
  lia
theorem kTA:¬(("terms":Str)="atoms"):=by decide +kernel
theorem kTR:¬(("terms":Str)="rows"):=by decide +kernel
theorem kAR:¬(("atoms":Str)="rows"):=by decide +kernel
def zcG (tl al rl:Addr):List (Str × V):=zbI "rows" (.ref rl) (zbI "atoms" (.ref al) (zbI "terms" (.ref tl) []))
theorem zaK (tl al rl:Addr):(zcG tl al rl).lookup ("terms":Str)=some (.ref tl):=by
 unfold zcG
 rw[zbb,if_neg kTR,zbb,if_neg kTA,zbb,if_pos rfl]
theorem zad (tl al rl:Addr):(zcG tl al rl).lookup ("atoms":Str)=some (.ref al):=by
 unfold zcG
 rw[zbb,if_neg kAR,zbb,if_pos rfl]
theorem zbz (tl al rl:Addr):(zcG tl al rl).lookup ("rows":Str)=some (.ref rl):=by
 unfold zcG
 rw[zbb,if_pos rfl]
theorem zds (tl al rl:Addr) {m:Str} (h1:¬m="rows") (h2:¬m="atoms") (h3:¬m="terms"):(zcG tl al rl).lookup m=none:=by
 unfold zcG
 rw[zbb,if_neg h1,zbb,if_neg h2,zbb,if_neg h3]
 all_goals rfl
def Fr1 (H H':Hp) (z:Addr):Prop:=∀ b o,H b=some o→b≠z→H' b=some o
theorem Fr1.of_same {H H':Hp} {z:Addr} (s:ah H H'):Fr1 H H' z:=λb o e _=>s b o e
theorem Fr1.trans {H H1 H2:Hp} {z:Addr} (a:Fr1 H H1 z) (b:Fr1 H1 H2 z):Fr1 H H2 z:=λc o e n=>b c o (a c o e n) n
theorem Fr1.keepT {H H':Hp} {z:Addr} {xs:List V} (f:Fr1 H H' z) (h:H z=some (.lst xs)):zam H H':=λb ys q=>by
 rcases q with q | ⟨o,q⟩
 ·exact .inl (f b _ q (zb2 q h (λe=>by cases e)))
 ·exact .inr ⟨o,f b _ q (zb2 q h (λe=>by cases e))⟩
structure zaY (K:W.Frag) (C:Addr) (H:Hp) (p tl al rl:Addr) (T:List Tm) (As:List At) (Rs:List (List Int)):Prop where
 ob:∃ dx,H p=some (.ins C dx (zcG tl al rl))
 tm:∃ xs,H tl=some (.lst xs)∧ao K H (T.map dT) xs
 am:∃ xs,H al=some (.lst xs)∧ao K H (As.map dA) xs
 rm:∃ xs,H rl=some (.lst xs)∧ao K H (Rs.map dR) xs
 na:al≠tl
 nr:rl≠tl
 nx:rl≠al
theorem zaY.keep {K:W.Frag} {C:Addr} {H H':Hp} {p tl al rl z:Addr} {T:List Tm} {As:List At} {Rs:List (List Int)} {zs:List V} (h:zaY K C H p tl al rl T As Rs) (f:Fr1 H H' z) (hz:H z=some (.lst zs)) (n1:z≠tl) (n2:z≠al) (n3:z≠rl):zaY K C H' p tl al rl T As Rs:=by
 obtain⟨⟨dx,h1⟩,⟨xs,h2,h3⟩,⟨ys,h4,h5⟩,⟨ws,h6,h7⟩,h8,h9,h10⟩:=h
 exact⟨⟨dx,f _ _ h1 (zb2 h1 hz (λe=>by cases e))⟩,⟨xs,f _ _ h2 n1.symm,h3.keep (f.keepT hz) (zdo T)⟩,⟨ys,f _ _ h4 n2.symm,h5.keep (f.keepT hz) (zaP zdW As)⟩,⟨ws,f _ _ h6 n3.symm,h7.keep (f.keepT hz) (zaP zdV Rs)⟩,h8,h9,h10⟩
theorem zaY.same {K:W.Frag} {C:Addr} {H H':Hp} {p tl al rl:Addr} {T:List Tm} {As:List At} {Rs:List (List Int)} (h:zaY K C H p tl al rl T As Rs) (s:ah H H'):zaY K C H' p tl al rl T As Rs:=by
 obtain⟨⟨dx,h1⟩,⟨xs,h2,h3⟩,⟨ys,h4,h5⟩,⟨ws,h6,h7⟩,h8,h9,h10⟩:=h
 exact⟨⟨dx,s _ _ h1⟩,⟨xs,s _ _ h2,h3.keep (.of_same s) (zdo T)⟩,⟨ys,s _ _ h4,h5.keep (.of_same s) (zaP zdW As)⟩,⟨ws,s _ _ h6,h7.keep (.of_same s) (zaP zdV Rs)⟩,h8,h9,h10⟩
theorem zaY.setT {K:W.Frag} {C:Addr} {H:Hp} {p tl al rl:Addr} {T T':List Tm} {As:List At} {Rs:List (List Int)} {us:List V} (h:zaY K C H p tl al rl T As Rs) (hs:ao K (upd H tl (.lst us)) (T'.map dT) us):zaY K C (upd H tl (.lst us)) p tl al rl T' As Rs:=by
 obtain⟨⟨dx,h1⟩,⟨xs,h2,h3⟩,⟨ys,h4,h5⟩,⟨ws,h6,h7⟩,h8,h9,h10⟩:=h
 have kt:zam H (upd H tl (.lst us)):=zam.lst h2
 exact⟨⟨dx,by rw[aD (zb2 h1 h2 (λe=>by cases e))];exact h1⟩,⟨us,af,hs⟩,⟨ys,by rw[aD h8];exact h4,h5.keep kt (zaP zdW As)⟩,⟨ws,by rw[aD h9];exact h6,h7.keep kt (zaP zdV Rs)⟩,h8,h9,h10⟩
theorem zaY.setA {K:W.Frag} {C:Addr} {H:Hp} {p tl al rl:Addr} {T:List Tm} {As As':List At} {Rs:List (List Int)} {us:List V} (h:zaY K C H p tl al rl T As Rs) (hs:ao K (upd H al (.lst us)) (As'.map dA) us):zaY K C (upd H al (.lst us)) p tl al rl T As' Rs:=by
 obtain⟨⟨dx,h1⟩,⟨xs,h2,h3⟩,⟨ys,h4,h5⟩,⟨ws,h6,h7⟩,h8,h9,h10⟩:=h
 have kt:zam H (upd H al (.lst us)):=zam.lst h4
 exact⟨⟨dx,by rw[aD (zb2 h1 h4 (λe=>by cases e))];exact h1⟩,⟨xs,by rw[aD h8.symm];exact h2,h3.keep kt (zdo T)⟩,⟨us,af,hs⟩,⟨ws,by rw[aD h10];exact h6,h7.keep kt (zaP zdV Rs)⟩,h8,h9,h10⟩
theorem zaY.setR {K:W.Frag} {C:Addr} {H:Hp} {p tl al rl:Addr} {T:List Tm} {As:List At} {Rs Rs':List (List Int)} {us:List V} (h:zaY K C H p tl al rl T As Rs) (hs:ao K (upd H rl (.lst us)) (Rs'.map dR) us):zaY K C (upd H rl (.lst us)) p tl al rl T As Rs':=by
 obtain⟨⟨dx,h1⟩,⟨xs,h2,h3⟩,⟨ys,h4,h5⟩,⟨ws,h6,h7⟩,h8,h9,h10⟩:=h
 have kt:zam H (upd H rl (.lst us)):=zam.lst h6
 exact⟨⟨dx,by rw[aD (zb2 h1 h6 (λe=>by cases e))];exact h1⟩,⟨xs,by rw[aD h9.symm];exact h2,h3.keep kt (zdo T)⟩,⟨ys,by rw[aD h10.symm];exact h4,h5.keep kt (zaP zdW As)⟩,⟨us,af,hs⟩,h8,h9,h10⟩
def SqI (K:W.Frag) (H:Hp) (q:Addr) (ps:List Int):Prop:=SqL K H q (ps.map V.int)∨SqT K H q (ps.map V.int)
theorem SqI.same {K:W.Frag} {H H':Hp} {q:Addr} {ps:List Int} (h:SqI K H q ps) (s:ah H H'):SqI K H' q ps:=h.elim (λz=>.inl (s.seq z)) λz=>.inr ((zam.of_same s).sq z)
def Low (z:Str):Prop:=z.length≤100∧∀ c∈z.cps.toList,c < 1000
theorem Low.repr {z:Str} (h:Low z):(reprText z).length≤1002:=by
 have:=StrLaws.reprText_len z λc hc=>Nat.lt_of_lt_of_le (h.2 c hc) (by decide)
 have:=h.1
 lia
inductive zg1:Sp|m{vs H Q E9} (z:Str):vs=[.str z]→z.length≤1000→(∀ H',ah H H'→Q (.bl (zio z)) H')→zg1 vs H Q E9
inductive zg2:Sp|m{vs H Q E9} (z:Str):vs=[.str z]→z.length≤1000→(∀ H',ah H H'→Q (.bl (zbS z)) H')→zg2 vs H Q E9
inductive zeX (CN:Addr):Sp|m{vs H Q E} (z:Str):vs=[.str z]→Low z→(if zbS z=true then ∀ H',ah H H'→Q .non H' else ∀ H',ah H H'→E (.ref CN) none H')→zeX CN vs H Q E
inductive zdJ (K:W.Frag) (CM:Addr):Sp|m{vs H Q E} (a tl:Addr) (m:Int) (xs:List V) (ds:List Dt) (d:Dt):vs=[.ref a,.ref tl,.int m]→Has K H d (.ref a)→H tl=some (.lst xs)→ao K H ds xs→zaA ds≤50→ds.length≤1000→0≤m→m≤1000→(if(ds.any λe=>peq e d)=true then ∀ H',ah H H'→Q (.int ((ds.findIdx λe=>peq e d):Nat)) H' else if m≤(ds.length:Int) then ∀ H',ah H H'→E (.ref CM) none H' else Q (.int (ds.length:Nat)) (upd H tl (.lst (xs++[.ref a]))))→zdJ K CM vs H Q E
inductive ziz (C:Addr):Sp|m{vs H Q E9} (p dx:Addr):vs=[.ref p]→H p=some (.ins C dx [])→(∀(tl al rl:Addr) (H':Hp),H tl=none→H al=none→H rl=none→al≠tl→rl≠tl→rl≠al→H' p=some (.ins C dx (zcG tl al rl))→H' tl=some (.lst [])→H' al=some (.lst [])→H' rl=some (.lst [])→(∀ b o,H b=some o→b≠p→H' b=some o)→Q .non H')→ziz C vs H Q E9
def zgc (K:W.Frag) (C CT:Addr):Sp:=λvs H Q E=>∃(p tl al rl:Addr) (T:List Tm) (As:List At) (Rs:List (List Int)) (n:Int),vs=[.ref p,.int n]∧zaY K C H p tl al rl T As Rs∧-1000≤n∧n≤1000 ∧
 if n < 0∨(T.length:Int)≤n then ∀ H',ah H H'→E (.ref CT) none H' else Q .non H
def zb6 (m:Nat) (n:Int):Bool:=decide (n=0)||decide ((m:Int) < n)||decide (n < -(m:Int))
inductive zgd (K:W.Frag) (C CP:Addr):Sp|m{vs H Q E} (p tl al rl:Addr) (T:List Tm) (As:List At) (Rs:List (List Int)) (n:Int):vs=[.ref p,.int n]→zaY K C H p tl al rl T As Rs→-1000≤n→n≤1000→(if zb6 As.length n=true then ∀ H',ah H H'→E (.ref CP) none H' else Q .non H)→zgd K C CP vs H Q E
theorem zbC {H:Hp} {p:Addr} (h:H p=none) (o:HO):ah H (upd H p o):=λb u q=>by rw[aD (zae q h)];exact q
abbrev bmV:List Value:=[.type "ValueError",.type "Exception",.type "BaseException",.type "object"]
structure Txt (K:W.Frag) (mg:Str→Option Value) (aK C CN CT CP CM:Addr):Prop where
 small:∃ t,mg "SMALL_LETTERS"=some (.str abc t)
 longest:∃ t,mg "LONGEST_NAME"=some (.int 8 t)
 parts:∃ t,mg "MOST_TERM_PARTS"=some (.int 3 t)
 terms:∃ t,mg "MOST_TERMS"=some (.int 60 t)
 atoms:∃ t,mg "MOST_ATOMS"=some (.int 40 t)
 rparts:∃ t,mg "MOST_ROW_PARTS"=some (.int 20 t)
 rows:∃ t,mg "MOST_ROWS"=some (.int 200 t)
 kept:mg "KEPT_WORDS"=some (.ref aK)
 tup:∀ H,SqT K H aK zir
 len:mg "len"=none
 all:mg "all"=none
 range:mg "range"=none
 isi:mg "isinstance"=none
 bool:mg "bool"=none
 tuple:mg "tuple"=none
 abs:mg "abs"=none
 bname:mg "BadName"=some (.ref CN)
 bterm:mg "BadTerm"=some (.ref CT)
 bpart:mg "BadPart"=some (.ref CP)
 bmany:mg "TooMany"=some (.ref CM)
 xname:W.excIn K CN bmV "ValueError.__new__"=true
 xterm:W.excIn K CT bmV "ValueError.__new__"=true
 xpart:W.excIn K CP bmV "ValueError.__new__"=true
 xmany:W.excIn K CM bmV "ValueError.__new__"=true
 cl:Cls K C
 nT:zcL K C "terms"
 nA:zcL K C "atoms"
 nR:zcL K C "rows"
theorem Fun.okX {x qual:Str} {st:Stmt} {f:Addr} {fd:FuncData} {N ps:List Str} {k:Nat} {sp:Sp} (F:Fun K x qual st f fd) (S:aO N ps (au st)) (len:∀ vs H Q E,sp vs H Q E→vs.length=ps.length)
  (hbody:∀(cdv:Value) (A:Around) (outer:List Env) (s:Shared) (H:Hp) (vs:List V) (Q:VK) (E:XK),ba k (A.deeper (PyProof.Rows.envOfC qual (au st) s.heap.objs.size f cdv))→sp vs H Q E →
   ∃ t,PSs (aX (CX1 P w) P w K mg base N qual (au st) f cdv A outer s H E) (zaX st) t∧t { nx:=λ_ H'=>Q .non H',rt:=Q } (zea N vs) H):aQ P w K mg base (CX1 P w) (k+1) f fd ps sp:=by
 obtain⟨oc,od,kV,doc,pm,an,cdv,ct,osl,rfl,lk,hcd⟩:=F.ex
 exact fn_of lk hcd S len λA outer s H vs Q E hr hsp=>hbody cdv A outer s H vs Q E hr hsp
theorem xe1 {N:List Str} {qual:Str} {scope:Scope} {f:Addr} {cd:Value} {A:Around} {outer:List Env} {s:Shared} {H:Hp} {E:XK}:Xe1 (aX (CX1 P w) P w K mg base N qual scope f cd A outer s H E) E:=⟨rfl,rfl,rfl,rfl⟩
theorem zfs {k:Nat} {A:Around} (hr:ba k A):A.units+64 < cLine:=hr.units
theorem scIW:aO ["text"] ["text"] (au zhJ):=fsc
theorem zlB {f:Addr} {fd:FuncData} (F:Fun K "is_word" "is_word" zhJ f fd) (T:Txt K mg aK C CN CT CP CM):aQ P w K mg base CX0 1 f fd ["text"] zg1:=by
 obtain⟨t1,e1⟩:=T.small
 refine F.ok scIW (λvs H Q E h=>?_) (λcdv A outer s H vs Q E hr h=>?_)
 ·obtain⟨z,rfl,_⟩:=h
  rfl
 obtain⟨z,rfl,hz,q⟩:=h
 refine⟨_,ag (ay (zba (zaz zcC (ap zgo rfl T.len bL (aa (pv 0) ac)) ad)
  (zbs (ap (zc6 rfl) rfl T.all PyProof.Rows.Boot.all (aa
   (zbQ (N':=["letter"]) (ix:=[]) rfl rfl (by decide +kernel) (by decide +kernel) rfl (λ_=>⟨[],zbd (by decide +kernel) (by decide +kernel)⟩) (by decide +kernel) rfl rfl (λj i h=>by simp at h)
    (pi_str (pv 0)) (λcl fp s₃ H₃=>zaz zls (pv 0) (zbW (v:=.str abc) rfl e1 ⟨_,rfl⟩) rfl)) ac))))),?_⟩
 refine⟨_,rfl,z,rfl,sz _ hz,_,_,rfl,rfl,_,rfl,?_⟩
 refine aJ (λc=>?_) (λc=>?_)
 ·have c':(0:Int) < (z.length:Int):=oDq c
  refine⟨_,rfl,z,rfl,λD hD=>⟨λi m ys H'=>m=z.length - i∧i≤z.length∧ys=((zdl z).take i).map V.bl∧H'=upd H D (.lst ys),⟨z.length,rfl,Nat.zero_le _,rfl,rfl⟩,?_⟩⟩
  rintro i m ys H' ⟨rfl,hi,rfl,rfl⟩
  refine⟨af,?_⟩
  by_cases hlt:i < z.length
  ·refine .inr ⟨hlt,λx H'' y=>?_⟩
   obtain⟨rfl,ch,hch,rfl⟩:=y
   have et:=zl1 hch
   refine⟨_,rfl,_,_,rfl,rfl,af,?_,z.length - (i+1),by lia,rfl,hlt,?_,zmJ⟩
   ·rw[lM,List.length_take,zi7]
    exact Nat.lt_of_le_of_lt (Nat.le_trans (Nat.min_le_right _ _) hz) (by decide)
   ·rw[et,mAq]
    rfl
  ·have hi':i=z.length:=by lia
   subst hi'
   refine .inl ⟨nRq _,D,zdl z,rfl,SqL.of (by rw[af,tO (by rw[zi7];exact nRq _)]),?_⟩
   have:=q _ (zbC hD (.lst (((zdl z).take z.length).map V.bl)))
   unfold zio at this
   rw[c,Bool.true_and]at this
   exact this
 ·have:=q H (ah.refl H)
  unfold zio at this
  rw[Bool.eq_false_iff.mpr c,Bool.false_and]at this
  exact this
theorem scIN:aO ["word"] ["word"] (au zhK):=fsc
theorem zlC {f g:Addr} {fd gd:FuncData} (F:Fun K "is_name" "is_name" zhK f fd) (T:Txt K mg aK C CN CT CP CM) (G:aQ P w K mg base CX0 1 g gd ["text"] zg1) (bG:aF K gd ["text"] []) (kG:W.keepIn K (.ref g)=true) (mG:mg "is_word"=some (.ref g)) :
  aQ P w K mg base CX0 2 f fd ["word"] zg2:=by
 obtain⟨t2,e2⟩:=T.longest
 refine F.ok scIN (λvs H Q E h=>?_) (λcdv A outer s H vs Q E hr h=>?_)
 ·obtain⟨z,rfl,_⟩:=h
  rfl
 obtain⟨z,rfl,hz,q⟩:=h
 refine⟨_,ag (ay (zba (aB G hr rfl mG kG bG .nil aI (aa (pv 0) ac)) (zba (zaz op_le (ap zgo rfl T.len bL (aa (pv 0) ac)) (zbW (v:=.int 8) rfl e2 ⟨_,rfl⟩))
  (zbs (zaz zbP (pv 0) (zbW (v:=.ref aK) rfl T.kept rfl) rfl))))),?_⟩
 refine⟨_,rfl,z,rfl,hz,λH1 s1=>⟨_,rfl,?_⟩⟩
 refine aJ (λc=>?_) (λc=>?_)
 ·refine⟨_,rfl,z,rfl,sz _ hz,_,_,rfl,rfl,_,rfl,?_⟩
  refine aJ (λc2=>?_) (λc2=>?_)
  ·refine⟨_,rfl,aK,zir,rfl,.inr (T.tup H1),rfl,zkG,?_⟩
   have:=q H1 s1
   unfold zbS at this
   rw[c,c2,Bool.true_and,Bool.true_and]at this
   exact this
  ·have:=q H1 s1
   unfold zbS at this
   rw[c,Bool.eq_false_iff.mpr c2,Bool.true_and,Bool.false_and]at this
   exact this
 ·have:=q H1 s1
  unfold zbS at this
  rw[Bool.eq_false_iff.mpr c,Bool.false_and]at this
  exact this
theorem scAN:aO ["word"] ["word"] (au zg5):=fsc
theorem zkB {f g:Addr} {fd gd:FuncData} (F:Fun K "ask_name" "ask_name" zg5 f fd) (T:Txt K mg aK C CN CT CP CM) (G:aQ P w K mg base CX0 2 g gd ["word"] zg2) (bG:aF K gd ["word"] []) (kG:W.keepIn K (.ref g)=true) (mG:mg "is_name"=some (.ref g)) :
  aQ P w K mg base (CX1 P w) 3 f fd ["word"] (zeX CN):=by
 refine Fun.okX F scAN (λvs H Q E h=>?_) (λcdv A outer s H vs Q E hr h=>?_)
 ·obtain⟨z,rfl,_⟩:=h
  rfl
 obtain⟨z,rfl,lo,h⟩:=h
 refine⟨_,ag (aL (zaS (zaI (aB G hr rfl mG kG bG .nil aI (aa (pv 0) ac))))
  (ag (zdm (C:=CN) xe1 rfl rfl T.bname PySem.F.excBase_ValueError T.xname (aa (zcR (za1 (pe_fvr (pv 0)) (za1 zac zes))) ac))) aA),?_⟩
 refine⟨_,rfl,z,rfl,Nat.le_trans lo.1 (by decide),λH1 s1=>⟨_,rfl,?_⟩⟩
 have hre:=lo.repr
 cases e:zbS z with
 | true =>
  rw[e]at h
  exact aV (h H1 s1)
 | false =>
  rw[e,if_neg (by decide)]at h
  refine aS ?_
  refine⟨_,rfl,z,rfl,Nat.le_trans hre (by decide),_,rfl,?_,_,rfl,?_,?_,(by show 1≤sizeLine;decide),h H1 s1⟩
  ·rw[zbh]
   exact Nat.le_trans (Nat.add_le_add_left hre _) (by decide +kernel)
  ·rw[zbh,zbh]
   exact Nat.le_trans (Nat.add_le_add_right (Nat.add_le_add_left hre _) _) (by decide +kernel)
  ·rw[zbh,zbh]
   exact Nat.le_trans (Nat.add_le_add_right (Nat.add_le_add_left hre _) _) (by decide +kernel)
theorem scPl:aO ["thing","things","most"] ["thing","things","most"] (au ziF):=fsc
theorem zhM {n:Int} (h1:-1000≤n) (h2:n≤1000):n.natAbs.log2 < 1920∧((toString n:String):Str).length≤1002:=by
 have hb:n.natAbs≤1000:=by lia
 refine⟨?_,?_⟩
 ·by_cases h0:n.natAbs=0
  ·rw[h0]
   decide
  ·have:=(Nat.log2_lt h0 (k:=1920)).mpr (Nat.lt_of_le_of_lt hb (by decide +kernel))
   exact this
 ·have:=PyProof.Rows.len_str_of_int n
  lia
theorem zmf {f:Addr} {fd:FuncData} (F:Fun K "place_of" "place_of" ziF f fd) (T:Txt K mg aK C CN CT CP CM):aQ P w K mg base (CX1 P w) 1 f fd ["thing","things","most"] (zdJ K CM):=by
 refine Fun.okX F scPl (λvs H Q E h=>?_) (λcdv A outer s H vs Q E hr h=>?_)
 ·obtain⟨a,tl,m,xs,ds,d,rfl,_⟩:=h
  rfl
 obtain⟨a,tl,m,xs,ds,d,rfl,ht,hl,hs,hd,hn,m0,m1,h⟩:=h
 have hu:=zfs hr
 have hlen:xs.length=ds.length:=hs.length.symm
 obtain⟨hlog,hsl⟩:=zhM (n:=m) (by lia) m1
 refine⟨_,ae (aL (aw (ziL hu) (pv 0) (pv 1) rfl) (ag (ay (zcj PySem.F.plainAttrs_list PySem.F.slot_list_index PySem.F.type_list_index (zh7 hu) (pv 1) (aa (pv 0) ac)))) aA)
  (ae (aL (aw zeR (ap aj rfl T.len bL (aa (pv 1) ac)) (pv 2))
   (ag (zdm (C:=CM) xe1 rfl rfl T.bmany PySem.F.excBase_ValueError T.xmany (aa (zcR (za1 zac (za1 (zfx (pv 2)) (za1 zac zes)))) ac))) aA)
  (ae (zap (zcj PySem.F.plainAttrs_list PySem.F.slot_list_append PySem.F.type_list_append za5 (pv 1) (aa (pv 0) ac)))
  (ag (ay (ar zbM (ap aj rfl T.len bL (aa (pv 1) ac)) ad))))),?_⟩
 refine⟨_,rfl,_,rfl,tl,xs,ds,d,rfl,.inl (SqL.of hl),hs,ht,Nat.le_trans hd (by decide),_,rfl,?_⟩
 refine aJ (λc=>?_) (λc=>?_)
 ·have c':(ds.any λe=>peq e d)=true:=c
  rw[if_pos c']at h
  have hlt:(ds.findIdx λe=>peq e d) < ds.length:=List.findIdx_lt_length_of_exists (by simpa using c')
  refine⟨_,rfl,.inl ⟨rfl,_,SqL.of hl⟩,_,rfl,tl,xs,ds,_,d,ds.findIdx (λe=>peq e d),rfl,rfl,hl,hs,ht,Nat.le_trans hd (by decide),⟨_,gG hlt,List.findIdx_getElem (w:=hlt)⟩,λj dj h1 h2=>?_,h H (ah.refl H)⟩
  obtain⟨h3,h4⟩:=gEq h2
  have z:=List.not_of_lt_findIdx (p:=λe=>peq e d) h1
  rw[h4]at z
  cases e:peq dj d with
  | false=>rfl
  | true=>rw[e]at z;cases z
 ·have c':¬(ds.any λe=>peq e d)=true:=c
  rw[if_neg c']at h
  refine⟨_,rfl,tl,xs,rfl,.inl (SqL.of hl),_,rfl,_,_,rfl,rfl,_,rfl,aJ (λc2=>?_) (λc2=>?_)⟩
  ·have c3:m≤((xs.length:Nat):Int):=oDq c2
   rw[hlen]at c3
   rw[if_pos c3]at h
   refine⟨_,rfl,by decide +kernel,_,rfl,.inr ⟨m,rfl,hlog,_,rfl,?_,_,rfl,?_,?_,(by show 1≤sizeLine;decide),h H (ah.refl H)⟩⟩
   all_goals
    simp only[zbh]
    first
     | exact Nat.le_trans (Nat.add_le_add_left hsl _) (by decide +kernel)
     | exact Nat.le_trans (Nat.add_le_add_right (Nat.add_le_add_left hsl _) _) (by decide +kernel)
  ·have c3:¬m≤((xs.length:Nat):Int):=λz=>c2 (dTq z)
   rw[hlen]at c3
   rw[if_neg c3]at h
   refine⟨_,rfl,.inl ⟨rfl,_,SqL.of hl⟩,_,rfl,tl,xs,_,rfl,rfl,hl,Nat.lt_of_le_of_lt (by rw[hlen];exact hn) (by decide),?_⟩
   refine⟨_,rfl,tl,_,rfl,.inl (SqL.of af),_,_,rfl,rfl,?_⟩
   have e:(((xs++[V.ref a]).length:Nat):Int) - 1=(ds.length:Nat):=by rw[lAq,hlen];simp
   show Q (.int ((((xs++[V.ref a]).length:Nat):Int) - 1)) _
   rw[e]
   exact h
theorem scI:aO ["self"] ["self"] (au zki):=fsc
theorem ok_init {f:Addr} {fd:FuncData} (F:Fun K "__init__" "Problem.__init__" zki f fd) (T:Txt K mg aK C CN CT CP CM):aQ P w K mg base CX0 1 f fd ["self"] (ziz C):=by
 refine F.ok scI (λvs H Q E h=>?_) (λcdv A outer s H vs Q E hr h=>?_)
 ·obtain⟨p,dx,rfl,_⟩:=h
  rfl
 obtain⟨p,dx,rfl,hp,k⟩:=h
 refine⟨_,ae (zfW (pv 0) (zaq ac) rfl) (ae (zfW (pv 0) (zaq ac) rfl) (ag (zfW (pv 0) (zaq ac) rfl))),?_⟩
 refine⟨lS0,λtl ht=>?_⟩
 have n1:p≠tl:=zae hp ht
 refine⟨_,rfl,p,C,dx,[],rfl,(by rw[aD n1];exact hp),T.cl,T.nT,(by show 0 < 1000;decide),?_⟩
 refine⟨lS0,λal ha=>?_⟩
 have a1:al≠p:=λz=>by rw[z,af]at ha;cases ha
 have a2:al≠tl:=λz=>by rw[z,aD n1.symm,af]at ha;cases ha
 have a0:H al=none:=by rw[aD a1,aD a2]at ha;exact ha
 refine⟨_,rfl,p,C,dx,_,rfl,(by rw[aD a1.symm,af]),T.cl,T.nA,(by show 1 < 1000;decide),?_⟩
 refine⟨lS0,λrl hrl=>?_⟩
 have r1:rl≠p:=λz=>by rw[z,af]at hrl;cases hrl
 have r2:rl≠al:=λz=>by rw[z,aD a1,af]at hrl;cases hrl
 have r3:rl≠tl:=λz=>by rw[z,aD n1.symm,aD a2.symm,aD n1.symm,af]at hrl;cases hrl
 have r0:H rl=none:=by rw[aD r1,aD r2,aD r1,aD r3]at hrl;exact hrl
 refine⟨_,rfl,p,C,dx,_,rfl,(by rw[aD r1.symm,af]),T.cl,T.nR,(by show 2 < 1000;decide),?_⟩
 refine k tl al rl _ ht a0 r0 a2 r3 r2 af ?_ ?_ ?_ λb o e hb=>?_
 ·rw[aD n1.symm,aD r3.symm,aD n1.symm,aD a2.symm,aD n1.symm,af]
 ·rw[aD a1,aD r2.symm,aD a1,af]
 ·rw[aD r1,af]
 ·rw[aD hb,aD (zae e r0),aD hb,aD (zae e a0),aD hb,aD (zae e ht)]
  exact e
theorem scAT:aO ["self","number"] ["self","number"] (au zg3):=fsc
theorem zkz {f:Addr} {fd:FuncData} (F:Fun K "ask_term" "Problem.ask_term" zg3 f fd) (T:Txt K mg aK C CN CT CP CM):aQ P w K mg base (CX1 P w) 1 f fd ["self","number"] (zgc K C CT):=by
 refine Fun.okX F scAT (λvs H Q E h=>?_) (λcdv A outer s H vs Q E hr h=>?_)
 ·obtain⟨p,tl,al,rl,T,As,Rs,n,rfl,_⟩:=h
  rfl
 obtain⟨p,tl,al,rl,T',As,Rs,n,rfl,S,h1,h2,h⟩:=h
 obtain⟨⟨dx,ho⟩,⟨xs,hl,hs⟩,_⟩:=id S
 have hlen:xs.length=T'.length:=by rw[←hs.length,lM]
 obtain⟨hlog,hsl⟩:=zhM h1 h2
 refine⟨_,ag (aL (PW.pt (zbc (aw zbR (pv 1) ad) (za4 (aw zeR (pv 1) (ap aj rfl T.len bL (aa (aR (pv 0) rfl) ac))))))
  (ag (zdm (C:=CT) xe1 rfl rfl T.bterm PySem.F.excBase_ValueError T.xterm (aa (zcR (za1 (zfx (pv 1)) (za1 zac zes))) ac))) aA),?_⟩
 refine⟨_,rfl,_,_,rfl,rfl,_,rfl,aJ (λc=>aS ?_) (λc=>⟨_,rfl,_,rfl,p,C,dx,_,_,rfl,ho,T.cl,T.nT,zaK _ _ _,tl,xs,rfl,.inl (SqL.of hl),_,_,rfl,rfl,_,rfl,aJ (λc2=>?_) (λc2=>?_)⟩)⟩
 rotate_left 2
 ·have c':¬n < 0:=λz=>c (dTq z)
  have c2':¬((xs.length:Nat):Int)≤n:=λz=>c2 (dTq z)
  rw[hlen]at c2'
  rw[if_neg (by lia)]at h
  exact h
 all_goals
  have hcond:n < 0∨(T'.length:Int)≤n:=by
   first
    | exact .inl (oDq c)
    | exact .inr (by have z:((xs.length:Nat):Int)≤n:=oDq c2;rw[hlen]at z;exact z)
  rw[if_pos hcond]at h
  refine⟨_,rfl,.inr ⟨n,rfl,hlog,_,rfl,?_,_,rfl,?_,?_,(by show 1≤sizeLine;decide),h H (ah.refl H)⟩⟩
  ·rw[zbh]
   exact Nat.le_trans (Nat.add_le_add_left hsl _) (by decide +kernel)
  ·rw[zbh,zbh]
   exact Nat.le_trans (Nat.add_le_add_right (Nat.add_le_add_left hsl _) _) (by decide +kernel)
  ·rw[zbh,zbh]
   exact Nat.le_trans (Nat.add_le_add_right (Nat.add_le_add_left hsl _) _) (by decide +kernel)
theorem scAP:aO ["self","part"] ["self","part"] (au zg4):=fsc
theorem zkA {f:Addr} {fd:FuncData} (F:Fun K "ask_part" "Problem.ask_part" zg4 f fd) (T:Txt K mg aK C CN CT CP CM):aQ P w K mg base (CX1 P w) 1 f fd ["self","part"] (zgd K C CP):=by
 refine Fun.okX F scAP (λvs H Q E h=>?_) (λcdv A outer s H vs Q E hr h=>?_)
 ·obtain⟨p,tl,al,rl,T,As,Rs,n,rfl,_⟩:=h
  rfl
 obtain⟨p,tl,al,rl,T',As,Rs,n,rfl,S,h1,h2,h⟩:=h
 obtain⟨⟨dx,ho⟩,_,⟨xs,hl,hs⟩,_⟩:=id S
 have hlen:xs.length=As.length:=by rw[←hs.length,lM]
 obtain⟨hlog,hsl⟩:=zhM h1 h2
 refine⟨_,ag (aL (PW.pt (zbc (aw zag (pv 1) ad) (za4 (aw zcC (ap zdK rfl T.abs PyProof.Rows.Boot.abs (aa (pv 1) ac)) (ap aj rfl T.len bL (aa (aR (pv 0) rfl) ac))))))
  (ag (zdm (C:=CP) xe1 rfl rfl T.bpart PySem.F.excBase_ValueError T.xpart (aa (zcR (za1 (zfx (pv 1)) (za1 zac zes))) ac))) aA),?_⟩
 refine⟨_,rfl,rfl,_,rfl,aJ (λc=>aS ?_) (λc=>⟨_,rfl,n,rfl,_,rfl,p,C,dx,_,_,rfl,ho,T.cl,T.nA,zad _ _ _,al,xs,rfl,.inl (SqL.of hl),_,_,rfl,rfl,_,rfl,aJ (λc2=>?_) (λc2=>?_)⟩)⟩
 rotate_left 2
 ·have c':¬n=0:=λz=>c (dTq (by rw[z]))
  have c2':¬((xs.length:Nat):Int) < (if n < 0 then -n else n):=λz=>c2 (dTq z)
  rw[hlen]at c2'
  have hb:zb6 As.length n=false:=by
   unfold zb6
   have a1:¬((As.length:Nat):Int) < n:=by split at c2' <;> lia
   have a2:¬n < -((As.length:Nat):Int):=by split at c2' <;> lia
   rw[dFq c',dFq a1,dFq a2]
   rfl
  rw[if_neg (by rw[hb];decide)]at h
  exact h
 all_goals
  have hb:zb6 As.length n=true:=by
   unfold zb6
   first
    | (have c':V.int n=V.int 0:=oDq c
       have c2':n=0:=by injection c'
       rw[dTq c2'];rfl)
    | (have z:((xs.length:Nat):Int) < (if n < 0 then -n else n):=oDq c2
       rw[hlen]at z
       split at z
       ·rw[dTq (show n < -((As.length:Nat):Int) by lia),Bool.or_true]
       ·rw[dTq (show((As.length:Nat):Int) < n by lia),Bool.or_true,Bool.true_or])
  rw[if_pos hb]at h
  refine⟨_,rfl,.inr ⟨n,rfl,hlog,_,rfl,?_,_,rfl,?_,?_,(by show 1≤sizeLine;decide),h H (ah.refl H)⟩⟩
  ·rw[zbh]
   exact Nat.le_trans (Nat.add_le_add_left hsl _) (by decide +kernel)
  ·rw[zbh,zbh]
   exact Nat.le_trans (Nat.add_le_add_right (Nat.add_le_add_left hsl _) _) (by decide +kernel)
  ·rw[zbh,zbh]
   exact Nat.le_trans (Nat.add_le_add_right (Nat.add_le_add_left hsl _) _) (by decide +kernel)
def Fr2 (H H':Hp) (z y:Addr):Prop:=∀ b o,H b=some o→b≠z→b≠y→H' b=some o
theorem Fr2.of1 {H H':Hp} {z y:Addr} (f:Fr1 H H' z):Fr2 H H' z y:=λb o e n _=>f b o e n
theorem Fr2.of_same {H H':Hp} {z y:Addr} (s:ah H H'):Fr2 H H' z y:=λb o e _ _=>s b o e
theorem Fr2.trans {H H1 H2:Hp} {z y:Addr} (a:Fr2 H H1 z y) (b:Fr2 H1 H2 z y):Fr2 H H2 z y:=λc o e n m=>b c o (a c o e n m) n m
def zdH (As:List At) (z:Str):Out × List At :=
 if zbS z=false then(.name,As) else if .plain z∈As then(.num (As.idxOf (.plain z)+1),As) else if 40≤As.length then(.many,As) else(.num (As.length+1),As++[.plain z])
def zct (n:Nat) (As:List At) (a b:Int):Out × List At :=
 if a < 0∨(n:Int)≤a∨b < 0∨(n:Int)≤b then(.term,As) else if .same b a∈As then(.num (As.idxOf (.same b a)+1),As) else if .same a b∈As then(.num (As.idxOf (.same a b)+1),As) else if 40≤As.length then(.many,As) else(.num (As.length+1),As++[.same a b])
def aZ:List Int→List Int→List Int
 | acc,[]=>acc
 | acc,p :: ps=>aZ (if p∈acc then acc else acc++[p]) ps
def zep (m:Nat) (Rs:List (List Int)) (ps:List Int):Out × List (List Int) :=
 if ps.any (zb6 m)=true then(.part,Rs) else if 20 < ps.length then(.many,Rs) else if 200≤Rs.length then(.many,Rs) else(.num Rs.length,Rs++[aZ [] ps])
def Told (K:W.Frag) (C CN CT CP CM:Addr) (H:Hp) (p tl al rl:Addr) (T:List Tm) (As:List At) (Rs:List (List Int)) (Q:VK) (E:XK):Out→Prop
 | .num k=>∀ H',zaY K C H' p tl al rl T As Rs→Fr2 H H' al rl→Q (.int (k:Nat)) H'
 | .name=>∀ H',ah H H'→E (.ref CN) none H'
 | .term=>∀ H',ah H H'→E (.ref CT) none H'
 | .part=>∀ H',ah H H'→E (.ref CP) none H'
 | .many=>∀ H',ah H H'→E (.ref CM) none H'
inductive zfj (K:W.Frag) (C CN CT CP CM:Addr):Sp|m{vs H Q E} (p tl al rl:Addr) (T:List Tm) (As:List At) (Rs:List (List Int)) (z:Str):vs=[.ref p,.str z]→zaY K C H p tl al rl T As Rs→Low z→As.length≤1000→Told K C CN CT CP CM H p tl al rl T (zdH As z).2 Rs Q E (zdH As z).1→zfj K C CN CT CP CM vs H Q E
inductive zfV (K:W.Frag) (C CN CT CP CM:Addr):Sp|m{vs H Q E} (p tl al rl:Addr) (T:List Tm) (As:List At) (Rs:List (List Int)) (a b:Int):vs=[.ref p,.int a,.int b]→zaY K C H p tl al rl T As Rs→(-1000≤a∧a≤1000)→(-1000≤b∧b≤1000)→As.length≤1000→Told K C CN CT CP CM H p tl al rl T (zct T.length As a b).2 Rs Q E (zct T.length As a b).1→zfV K C CN CT CP CM vs H Q E
inductive ziq (K:W.Frag) (C CN CT CP CM:Addr):Sp|m{vs H Q E} (p tl al rl q:Addr) (T:List Tm) (As:List At) (Rs:List (List Int)) (ps:List Int):vs=[.ref p,.ref q]→zaY K C H p tl al rl T As Rs→SqI K H q ps→ps.length≤1000→(∀ i∈ps,-1000≤i∧i≤1000)→Rs.length≤1000→Told K C CN CT CP CM H p tl al rl T As (zep As.length Rs ps).2 Q E (zep As.length Rs ps).1→ziq K C CN CT CP CM vs H Q E
inductive ziy (K:W.Frag):Sp|m{vs H Q E9} (q:Addr) (ps:List Int):vs=[.ref q]→SqI K H q ps→ps.length≤1000→(∀(H':Hp) (l:Addr),ah H H'→H' l=some (.tup ((aZ [] ps).map V.int))→Q (.ref l) H')→ziy K vs H Q E9
theorem zm1 (a b:Int):peq (.int a) (.int b)=decide (a=b):=by
 simp only[peq]
 rfl
theorem q1 {Q:VK} {n:Nat} {H:Hp} (h:Q (.int ((n+1:Nat):Int)) H):Q (.int (((n:Nat):Int)+1)) H:=h
theorem zdn:∀(ps acc:List Int),(aZ acc ps).length≤acc.length+ps.length
 | [],acc=>by simp [aZ]
 | p :: ps,acc=>by
  unfold aZ
  have h:=zdn ps (if p∈acc then acc else acc++[p])
  split at h <;> simp only[lAq,List.length_cons,lS,List.length_nil]at h ⊢ <;> split <;> simp_all <;> lia
theorem ze1 {ps:List Int} {i:Nat} {k:Int}:∀ {acc:List Int},ps[i]?=some k→aZ acc (ps.take (i+1))=if k∈aZ acc (ps.take i) then aZ acc (ps.take i) else aZ acc (ps.take i)++[k]:=by
 induction ps generalizing i with
 | nil=>intro acc h;simp at h
 | cons p ps ih =>
  intro acc h
  cases i with
  | zero =>
   simp at h
   subst h
   simp [aZ]
  | succ i =>
   simp only[List.take_succ_cons,aZ]
   exact ih (by simpa using h)
theorem zjR {H:Hp} {p tl al rl a:Addr} {T:List Tm} {As:List At} {Rs:List (List Int)} {t:At} {Q:VK} {E:XK} (S:zaY K C H p tl al rl T As Rs) (ha:Has K H (dA t) (.ref a)) (len:As.length≤1000)
  (k1:t∈As→∀ H',ah H H'→Q (.int (As.idxOf t:Nat)) H') (k2:t∉As→40≤As.length→∀ H',ah H H'→E (.ref CM) none H')
  (k3:t∉As→¬40≤As.length→∀ H',zaY K C H' p tl al rl T (As++[t]) Rs→Fr1 H H' al→Q (.int (As.length:Nat)) H'):zdJ K CM [.ref a,.ref al,.int 40] H Q E:=by
 obtain⟨xs,hl,hs⟩:=id S.am
 refine⟨a,al,40,xs,As.map dA,dA t,rfl,ha,hl,hs,Nat.le_trans (zdu (n:=1) (λa=>by rw[zla];exact nRq _) As) (by decide),by rw[lM];exact len,by decide,by decide,?_⟩
 rw[zeE ziO,zjb ziO,lM]
 by_cases hm:t∈As
 ·rw[if_pos (dTq hm)]
  exact k1 hm
 ·rw[if_neg (by rw[dFq hm];decide)]
  by_cases h40:40≤As.length
  ·rw[if_pos (by lia)]
   exact k2 hm h40
  ·rw[if_neg (by lia)]
   have kt:zam H (upd H al (.lst (xs++[.ref a]))):=zam.lst hl
   refine k3 hm h40 _ (S.setA ?_) λb o e hb=>by rw[aD hb];exact e
   rw[mAq]
   exact(hs.keep kt (zaP zdW As)).append (ao.one (ha.keep kt (zdW t)))
theorem scP:aO ["self","name"] ["self","name"] (au ziE):=fsc
theorem zme {f fN fP:Addr} {fd dN dP:FuncData} (F:Fun K "add_plain" "Problem.add_plain" ziE f fd) (T:Txt K mg aK C CN CT CP CM)
  (GN:aQ P w K mg base (CX1 P w) 3 fN dN ["word"] (zeX CN)) (bN:aF K dN ["word"] []) (kN:W.keepIn K (.ref fN)=true) (mN:mg "ask_name"=some (.ref fN))
  (GP:aQ P w K mg base (CX1 P w) 1 fP dP ["thing","things","most"] (zdJ K CM)) (bP:aF K dP ["thing","things","most"] []) (kP:W.keepIn K (.ref fP)=true) (mP:mg "place_of"=some (.ref fP)) :
  aQ P w K mg base (CX1 P w) 4 f fd ["self","name"] (zfj K C CN CT CP CM):=by
 obtain⟨t40,e40⟩:=T.atoms
 refine Fun.okX F scP (λvs H Q E h=>?_) (λcdv A outer s H vs Q E hr h=>?_)
 ·obtain⟨p,tl,al,rl,T,As,Rs,z,rfl,_⟩:=h
  rfl
 obtain⟨p,tl,al,rl,T',As,Rs,z,rfl,S,lo,len,h⟩:=h
 have hr1:ba 1 _:=hr.mono (by decide)
 refine⟨_,ae (zap (aB GN hr rfl mN kN bN .nil (zc0 xe1) (aa (pv 1) ac)))
  (ag (ay (ar zah (aB GP hr1 rfl mP kP bP .nil (zc0 xe1) (aa (zal (aa zac (aa (pv 1) ac))) (aa (aR (pv 0) rfl) (aa (zbW (v:=.int 40) rfl e40 ⟨_,rfl⟩) ac)))) ad))),?_⟩
 refine⟨_,rfl,z,rfl,lo,?_⟩
 cases hg:zbS z with
 | false =>
  rw[if_neg (by decide)]
  have e:zdH As z=(.name,As):=if_pos hg
  rw[e]at h
  exact h
 | true =>
 rw[if_pos rfl]
 intro H1 s1
 refine⟨_,rfl,lS2,λa ha=>?_⟩
 have s2:ah H1 (upd H1 a (.tup [.str "plain",.str z])):=zbC ha _
 have s12:=s1.trans s2
 have S2:=S.same s12
 obtain⟨⟨dx,ho⟩,_⟩:=id S2
 have hd:Has K (upd H1 a (.tup [.str "plain",.str z])) (dA (.plain z)) (.ref a):=by
  simp only[dA,Has,ao]
  exact⟨a,_,rfl,SqT.of af,_,_,rfl,rfl,_,_,rfl,rfl,rfl⟩
 refine⟨_,rfl,p,C,dx,_,_,rfl,ho,T.cl,T.nA,zad _ _ _,?_⟩
 refine zjR (CM:=CM) (E:=E) (Q:=λx H'=>rI0 (λi j=>.int (i+j)) x (.int 1) H' Q) S2 hd len (λhm H' s'=>?_) (λhm h40 H' s'=>?_) (λhm h40 H' S' fr=>?_)
 ·have e:zdH As z=(.num (As.idxOf (.plain z)+1),As):=by unfold zdH;rw[if_neg (by rw[hg];decide),if_pos hm]
  rw[e]at h
  exact⟨_,_,rfl,rfl,q1 <| h H' (S2.same s') (Fr2.of_same (s12.trans s'))⟩
 ·have e:zdH As z=(.many,As):=by unfold zdH;rw[if_neg (by rw[hg];decide),if_neg hm,if_pos h40]
  rw[e]at h
  exact h H' (s12.trans s')
 ·have e:zdH As z=(.num (As.length+1),As++[.plain z]):=by unfold zdH;rw[if_neg (by rw[hg];decide),if_neg hm,if_neg h40]
  rw[e]at h
  exact⟨_,_,rfl,rfl,q1 <| h H' S' ((Fr2.of_same s12).trans (Fr2.of1 fr))⟩
theorem scSm:aO ["self","one","other","turned"] ["self","one","other"] (au zkh):=fsc
theorem zm5 {f fT fP:Addr} {fd dT' dP:FuncData} (F:Fun K "add_same" "Problem.add_same" zkh f fd) (T:Txt K mg aK C CN CT CP CM)
  (GT:aQ P w K mg base (CX1 P w) 1 fT dT' ["self","number"] (zgc K C CT)) (bT:aF K dT' ["self","number"] []) (mT:zdb K C "ask_term" fT)
  (GP:aQ P w K mg base (CX1 P w) 1 fP dP ["thing","things","most"] (zdJ K CM)) (bP:aF K dP ["thing","things","most"] []) (kP:W.keepIn K (.ref fP)=true) (mP:mg "place_of"=some (.ref fP)) :
  aQ P w K mg base (CX1 P w) 2 f fd ["self","one","other"] (zfV K C CN CT CP CM):=by
 obtain⟨t40,e40⟩:=T.atoms
 refine Fun.okX F scSm (λvs H Q E h=>?_) (λcdv A outer s H vs Q E hr h=>?_)
 ·obtain⟨p,tl,al,rl,T,As,Rs,a,b,rfl,_⟩:=h
  rfl
 obtain⟨p,tl,al,rl,T',As,Rs,a,b,rfl,S,⟨a1,a2⟩,⟨b1,b2⟩,len,h⟩:=h
 have hu:=zfs hr
 refine⟨_,ae (zap (zaO (pv 0) T.cl mT GT hr bT .nil (zc0 xe1) (aa (pv 1) ac)))
  (ae (zap (zaO (pv 0) T.cl mT GT hr bT .nil (zc0 xe1) (aa (pv 2) ac)))
  (ae (aE (i:=3) scSm.nd rfl (Or.inl rfl) (zal (aa zac (aa (pv 2) (aa (pv 1) ac)))))
  (ae (aL (aw (ziL hu) (pv 3) (aR (pv 0) rfl) rfl) (ag (ay (ar zah (zcj PySem.F.plainAttrs_list PySem.F.slot_list_index PySem.F.type_list_index (zh7 hu) (aR (pv 0) rfl) (aa (pv 3) ac)) ad))) aA)
  (ag (ay (ar zah (aB GP hr rfl mP kP bP .nil (zc0 xe1) (aa (zal (aa zac (aa (pv 1) (aa (pv 2) ac)))) (aa (aR (pv 0) rfl) (aa (zbW (v:=.int 40) rfl e40 ⟨_,rfl⟩) ac)))) ad)))))),?_⟩
 obtain⟨⟨dx,ho⟩,_,⟨xs,hl,hs⟩,_⟩:=id S
 have no:=zds tl al rl (m:="ask_term") (by decide +kernel) (by decide +kernel) (by decide +kernel)
 refine⟨_,rfl,p,dx,_,rfl,ho,no,_,rfl,p,tl,al,rl,T',As,Rs,a,rfl,S,a1,a2,?_⟩
 by_cases ca:a < 0∨(T'.length:Int)≤a
 ·rw[if_pos ca]
  have e:zct T'.length As a b=(.term,As):=if_pos (ca.elim .inl λz=>.inr (.inl z))
  rw[e]at h
  exact h
 rw[if_neg ca]
 refine⟨_,rfl,p,dx,_,rfl,ho,no,_,rfl,p,tl,al,rl,T',As,Rs,b,rfl,S,b1,b2,?_⟩
 by_cases cb:b < 0∨(T'.length:Int)≤b
 ·rw[if_pos cb]
  have e:zct T'.length As a b=(.term,As):=if_pos (.inr (.inr cb))
  rw[e]at h
  exact h
 rw[if_neg cb]
 have cn:¬(a < 0∨(T'.length:Int)≤a∨b < 0∨(T'.length:Int)≤b):=by lia
 refine⟨_,rfl,_,rfl,lS3,λu hu'=>?_⟩
 have s1:ah H (upd H u (.tup [.str "same",.int b,.int a])):=zbC hu' _
 have hd:Has K (upd H u (.tup [.str "same",.int b,.int a])) (dA (.same b a)) (.ref u):=by
  simp only[dA,Has,ao]
  exact⟨u,_,rfl,SqT.of af,_,_,rfl,rfl,_,_,rfl,rfl,_,_,rfl,rfl,rfl⟩
 have S1:=S.same s1
 have hs1:=hs.keep (.of_same s1) (zaP zdW As)
 have dp:zaA (As.map dA)≤60:=Nat.le_trans (zdu (n:=1) (λa=>by rw[zla];exact nRq _) As) (by decide)
 refine⟨_,rfl,_,rfl,p,C,dx,_,_,rfl,s1 _ _ ho,T.cl,T.nA,zad _ _ _,al,xs,As.map dA,dA (.same b a),rfl,.inl (SqL.of (s1 _ _ hl)),hs1,hd,dp,_,rfl,?_⟩
 have ea:=zeE ziO As (.same b a)
 by_cases hm:At.same b a∈As
 ·rw[dTq hm]at ea
  refine aJ (λ_=>?_) (λc=>absurd ea c)
  have e:zct T'.length As a b=(.num (As.idxOf (.same b a)+1),As):=by unfold zct;rw[if_neg cn,if_pos hm]
  rw[e]at h
  have hlt:=List.idxOf_lt_length_of_mem hm
  refine⟨_,rfl,p,C,dx,_,_,rfl,s1 _ _ ho,T.cl,T.nA,zad _ _ _,.inl ⟨rfl,_,SqL.of (s1 _ _ hl)⟩,_,rfl,al,xs,As.map dA,_,dA (.same b a),As.idxOf (.same b a),rfl,rfl,s1 _ _ hl,hs1,hd,dp,⟨dA (.same b a),?_,zbD _⟩,λm dm h1 h2=>?_,_,_,rfl,rfl,q1 (h _ S1 (Fr2.of_same s1))⟩
  ·rw[List.getElem?_map,gG hlt]
   simp
  ·rw[List.getElem?_map]at h2
   cases q:As[m]? with
   | none=>rw[q]at h2;cases h2
   | some v =>
    rw[q]at h2
    have e':dm=dA v:=(Option.some.inj h2).symm
    rw[e',zkR]
    refine dFq λz=>?_
    obtain⟨hm',hv⟩:=gEq q
    have z':=List.not_of_lt_findIdx (p:=(· == At.same b a)) h1
    rw[hv,z,beq_self_eq_true]at z'
    cases z'
 ·rw[dFq hm]at ea
  refine aJ (λc=>absurd (show false=true from ea.symm.trans c) (by decide)) (λ_=>?_)
  refine⟨_,rfl,_,rfl,lS3,λv hv=>?_⟩
  have s2:ah (upd H u (.tup [.str "same",.int b,.int a])) (upd (upd H u (.tup [.str "same",.int b,.int a])) v (.tup [.str "same",.int a,.int b])):=zbC hv _
  have s12:=s1.trans s2
  have S2:=S.same s12
  have hd2:Has K (upd (upd H u (.tup [.str "same",.int b,.int a])) v (.tup [.str "same",.int a,.int b])) (dA (.same a b)) (.ref v):=by
   simp only[dA,Has,ao]
   exact⟨v,_,rfl,SqT.of af,_,_,rfl,rfl,_,_,rfl,rfl,_,_,rfl,rfl,rfl⟩
  refine⟨_,rfl,p,C,dx,_,_,rfl,s12 _ _ ho,T.cl,T.nA,zad _ _ _,?_⟩
  refine zjR (CM:=CM) (E:=E) (Q:=λx H'=>rI0 (λi j=>.int (i+j)) x (.int 1) H' Q) S2 hd2 len (λhm2 H' s'=>?_) (λhm2 h40 H' s'=>?_) (λhm2 h40 H' S' fr=>?_)
  ·have e:zct T'.length As a b=(.num (As.idxOf (.same a b)+1),As):=by unfold zct;rw[if_neg cn,if_neg hm,if_pos hm2]
   rw[e]at h
   exact⟨_,_,rfl,rfl,q1 <| h H' (S2.same s') (Fr2.of_same (s12.trans s'))⟩
  ·have e:zct T'.length As a b=(.many,As):=by unfold zct;rw[if_neg cn,if_neg hm,if_neg hm2,if_pos h40]
   rw[e]at h
   exact h H' (s12.trans s')
  ·have e:zct T'.length As a b=(.num (As.length+1),As++[.same a b]):=by unfold zct;rw[if_neg cn,if_neg hm,if_neg hm2,if_neg h40]
   rw[e]at h
   exact⟨_,_,rfl,rfl,q1 <| h H' S' ((Fr2.of_same s12).trans (Fr2.of1 fr))⟩
structure Asks (K:W.Frag) (C:Addr) (H:Hp) (p tl al rl q:Addr) (T:List Tm) (As:List At) (Rs:List (List Int)) (n:Str) (ps:List Int):Prop where
 pr:zaY K C H p tl al rl T As Rs
 sq:SqI K H q ps
 low:Low n
 few:ps.length≤10
 small:∀ i∈ps,-1000≤i∧i≤1000
 len:T.length≤1000
inductive zhh (K:W.Frag) (C CN CT CM:Addr):Sp|m{vs H Q E} (p tl al rl q:Addr) (T:List Tm) (As:List At) (Rs:List (List Int)) (n:Str) (ps:List Int):vs=[.ref p,.str n,.ref q]→Asks K C H p tl al rl q T As Rs n ps→(match zc9 T (zbS n) (n,ps) with | (.num k,T')=>∀ H',zaY K C H' p tl al rl T' As Rs→Fr1 H H' tl→Q (.int (k:Nat)) H' | (.name,_)=>∀ H',ah H H'→E (.ref CN) none H' | (.term,_)=>∀ H',ah H H'→E (.ref CT) none H' | (.many,_)=>∀ H',ah H H'→E (.ref CM) none H' | (.part,_)=>True)→zhh K C CN CT CM vs H Q E
theorem scA:aO ["self","name","parts","part"] ["self","name","parts"] (au sAdd):=fsc
theorem zja {ps:List Int} {i:Nat} {x:V} (h:(ps.map V.int)[i]?=some x):∃ k,ps[i]?=some k∧x=.int k:=by
 rw[List.getElem?_map]at h
 cases e:ps[i]? with
 | none=>rw[e]at h;cases h
 | some k =>
  rw[e]at h
  exact⟨k,rfl,(Option.some.inj h).symm⟩
theorem zlc {T:List Tm} {ps:List Int} {i:Nat} {k:Int} (h3:ps.length≤3) (e:ps[i]?=some k) (h:k < 0∨(T.length:Int)≤k):bad T ps=true:=by
 unfold bad
 rw[Bool.or_eq_true]
 refine .inr (List.any_eq_true.mpr ⟨k,mOq e,?_⟩)
 rw[Bool.or_eq_true]
 exact h.elim (λz=>.inl (dTq z)) λz=>.inr (dTq z)
theorem zej {T:List Tm} {ps:List Int} (h3:ps.length≤3) (h:∀(i:Nat) k,ps[i]?=some k→¬(k < 0∨(T.length:Int)≤k)):bad T ps=false:=by
 cases e:bad T ps with
 | false=>rfl
 | true =>
  unfold bad at e
  rw[Bool.or_eq_true]at e
  rcases e with e | e
  ·have:=oDq e
   lia
  ·obtain⟨k,hk,e⟩:=List.any_eq_true.mp e
   obtain⟨i,hi⟩:=List.mem_iff_getElem?.mp hk
   rw[Bool.or_eq_true]at e
   exact absurd (e.elim (λz=>.inl (oDq z)) λz=>.inr (oDq z)) (h i k hi)
theorem ok_add {f fN fT fP:Addr} {fd dN dT' dP:FuncData} (F:Fun K "add_term" "Problem.add_term" sAdd f fd) (T:Txt K mg aK C CN CT CP CM)
  (GN:aQ P w K mg base (CX1 P w) 3 fN dN ["word"] (zeX CN)) (bN:aF K dN ["word"] []) (kN:W.keepIn K (.ref fN)=true) (mN:mg "ask_name"=some (.ref fN))
  (GT:aQ P w K mg base (CX1 P w) 1 fT dT' ["self","number"] (zgc K C CT)) (bT:aF K dT' ["self","number"] []) (mT:zdb K C "ask_term" fT)
  (GP:aQ P w K mg base (CX1 P w) 1 fP dP ["thing","things","most"] (zdJ K CM)) (bP:aF K dP ["thing","things","most"] []) (kP:W.keepIn K (.ref fP)=true) (mP:mg "place_of"=some (.ref fP)) :
  aQ P w K mg base (CX1 P w) 4 f fd ["self","name","parts"] (zhh K C CN CT CM):=by
 obtain⟨t3,e3⟩:=T.parts
 obtain⟨t60,e60⟩:=T.terms
 refine Fun.okX F scA (λvs H Q E h=>?_) (λcdv A outer s H vs Q E hr h=>?_)
 ·obtain⟨p,tl,al,rl,q,T,As,Rs,n,ps,rfl,_⟩:=h
  rfl
 obtain⟨p,tl,al,rl,q,T',As,Rs,n,ps,rfl,A0,h⟩:=h
 obtain⟨S,hq,lo,few,small,len⟩:=A0
 have hr1:ba 1 _:=hr.mono (by decide)
 refine⟨_,ae (zap (aB GN hr rfl mN kN bN .nil (zc0 xe1) (aa (pv 1) ac)))
  (ae (aL (aw zcC (ap aj rfl T.len bL (aa (pv 2) ac)) (zbW (v:=.int 3) rfl e3 ⟨_,rfl⟩))
   (ag (zdm (C:=CT) xe1 rfl rfl T.bterm PySem.F.excBase_ValueError T.xterm (aa (zcR (za1 (zfx (pv 1)) (za1 zac (za1 (zfx (zbW (v:=.int 3) rfl e3 ⟨_,rfl⟩)) (za1 zac zes))))) ac))) aA)
  (ae (zaB PassesOwn.leaving rfl (zhn (pv 2)) (zaj (i:=3) scA.nd rfl (Or.inl rfl)) (ag (zap (zaO (pv 0) T.cl mT GT hr1 bT .nil (zc0 xe1) (aa (pv 3) ac)))))
  (ag (ay (aB GP hr1 rfl mP kP bP .nil (zc0 xe1) (aa (zal (aa (pv 1) (aa (zai zaC rfl T.tuple PyProof.Rows.Boot.tuple (aa (pv 2) ac)) ac))) (aa (aR (pv 0) rfl) (aa (zbW (v:=.int 60) rfl e60 ⟨_,rfl⟩) ac)))))))),?_⟩
 refine⟨_,rfl,n,rfl,lo,?_⟩
 cases hg:zbS n with
 | false =>
  have e:zc9 T' false (n,ps)=(.name,T'):=if_pos rfl
  rw[hg,e]at h
  rw[if_neg (by decide)]
  exact h
 | true =>
 rw[if_pos rfl]
 intro H1 s1
 have S1:=S.same s1
 have hq1:=hq.same s1
 refine⟨_,rfl,q,_,rfl,hq1,_,_,rfl,rfl,_,rfl,?_⟩
 have hl1:(ps.map V.int).length=ps.length:=lM _
 refine aJ (λc=>?_) (λc=>?_)
 ·have c':(3:Int) < (((ps.map V.int).length:Nat):Int):=oDq c
  rw[hl1]at c'
  have hb:bad T' ps=true:=by unfold bad;rw[dTq (by lia:3 < ps.length)];rfl
  have e:zc9 T' true (n,ps)=(.term,T'):=by unfold zc9;rw[if_neg (by decide),if_pos hb]
  rw[hg,e]at h
  have hn:=lo.1
  refine⟨_,rfl,.inl ⟨n,rfl,Nat.le_trans hn (by decide),_,rfl,?_,_,rfl,?_,.inr ⟨3,rfl,by decide +kernel,_,rfl,?_,_,rfl,?_,?_,(by show 1≤sizeLine;decide),h H1 s1⟩⟩⟩
  all_goals
   simp only[zbh]
   exact Nat.le_trans (by first | exact Nat.add_le_add_left hn _ | exact Nat.add_le_add_right (Nat.add_le_add_left hn _) _ | exact Nat.add_le_add_right (Nat.add_le_add_right (Nat.add_le_add_left hn _) _) _ | exact Nat.add_le_add_right (Nat.add_le_add_right (Nat.add_le_add_right (Nat.add_le_add_left hn _) _) _) _) (by decide +kernel)
 ·have c':¬(3:Int) < (((ps.map V.int).length:Nat):Int):=λz=>c (dTq z)
  rw[hl1]at c'
  have h3:ps.length≤3:=by lia
  obtain⟨⟨dx,ho⟩,⟨xs,hl,hs⟩,_⟩:=id S1
  have addE:bad T' ps=false→zc9 T' true (n,ps)=if(n,ps)∈T' then(.num (T'.idxOf (n,ps)),T') else if 60≤T'.length then(.many,T') else(.num T'.length,T'++[(n,ps)]):=λhb=>by unfold zc9;rw[if_neg (by decide),if_neg (by rw[hb];decide)]
  have last:∀(H3:Hp) (a l:Addr),ah H H3→H3 a=some (.tup [.str n,.ref l])→SqT K H3 l (ps.map V.int)→bad T' ps=false→zdJ K CM [.ref a,.ref tl,.int 60] H3 Q E:=λH3 a l s3 ha hq3 hb=>by
   have S3:=S.same s3
   rw[hg,addE hb]at h
   obtain⟨xs3,hl3,hs3⟩:=id S3.tm
   have hd:Has K H3 (dT (n,ps)) (.ref a):=by
    simp only[dT,Has,ao]
    exact⟨a,_,rfl,SqT.of ha,_,_,rfl,rfl,_,_,rfl,⟨l,_,rfl,hq3,ao.ints ps⟩,rfl⟩
   refine⟨a,tl,60,xs3,T'.map dT,dT (n,ps),rfl,hd,hl3,hs3,Nat.le_trans (zjg T') (by decide),by rw[lM];exact len,by decide,by decide,?_⟩
   rw[zeE zk1,zjb zk1,lM]
   by_cases hm:(n,ps)∈T'
   ·rw[if_pos hm]at h
    rw[if_pos (dTq hm)]
    exact λH' s'=>h H' (S3.same s') (Fr1.of_same (s3.trans s'))
   ·rw[if_neg hm]at h
    rw[if_neg (by rw[dFq hm];decide)]
    by_cases h60:60≤T'.length
    ·rw[if_pos h60]at h
     rw[if_pos (by lia)]
     exact λH' s'=>h H' (s3.trans s')
    ·rw[if_neg h60]at h
     rw[if_neg (by lia)]
     have kt:zam H3 (upd H3 tl (.lst (xs3++[.ref a]))):=zam.lst hl3
     refine h _ (S3.setT ?_) λb o e hb'=>?_
     ·rw[mAq]
      exact(hs3.keep kt (zdo T')).append (ao.one (hd.keep kt (zkX _)))
     ·rw[aD hb']
      exact s3 b o e
  rcases hq1 with hqX | hqX
  ·refine⟨_,rfl,q,rfl,.inl ⟨⟨_,hqX⟩,zfE (K:=K) (a:=q) (xs:=ps.map V.int) (λi σ H2=>H2=H1∧(∃ z,σ=[some (.ref p),some (.str n),some (.ref q),z])∧∀(j:Nat) k,j < i→ps[j]?=some k→¬(k < 0∨(T'.length:Int)≤k))
    ⟨rfl,⟨_,rfl⟩,λj k hj=>absurd hj (Nat.not_lt_zero j)⟩ (λi σ H2 _ ⟨e,_⟩=>by rw[e];exact hqX) ?_ ?_⟩⟩
   ·rintro i x σ H2 hx ⟨rfl,⟨z,rfl⟩,no⟩
    obtain⟨k,ek,rfl⟩:=zja hx
    have sk:=small k (mOq ek)
    refine⟨_,rfl,p,dx,_,rfl,ho,zds _ _ _ (by decide +kernel) (by decide +kernel) (by decide +kernel),_,rfl,p,tl,al,rl,T',As,Rs,k,rfl,S1,sk.1,sk.2,?_⟩
    by_cases hk:k < 0∨(T'.length:Int)≤k
    ·rw[if_pos hk]
     have e:zc9 T' true (n,ps)=(.term,T'):=by unfold zc9;rw[if_neg (by decide),if_pos (zlc h3 ek hk)]
     rw[hg,e]at h
     exact λH' s'=>h H' (s1.trans s')
    ·rw[if_neg hk]
     refine⟨rfl,⟨_,rfl⟩,λj k' hj ej=>?_⟩
     by_cases hji:j < i
     ·exact no j k' hji ej
     ·have:j=i:=by lia
      subst this
      rw[ek]at ej
      cases ej
      exact hk
   ·rintro σ H2 ⟨rfl,⟨z,rfl⟩,no⟩
    have hb:bad T' ps=false:=zej h3 λi k e=>no i k (by rw[hl1];exact(gEq e).1) e
    refine⟨_,rfl,_,rfl,q,_,rfl,.inl ⟨hqX,λl hl'=>⟨lS2,λa ha=>?_⟩⟩⟩
    have sA:ah H2 (upd H2 l (.tup (ps.map V.int))):=zbC hl' _
    have sB:ah (upd H2 l (.tup (ps.map V.int))) (upd (upd H2 l (.tup (ps.map V.int))) a (.tup [.str n,.ref l])):=zbC ha _
    have sAB:=sA.trans sB
    have hq3:SqT K (upd (upd H2 l (.tup (ps.map V.int))) a (.tup [.str n,.ref l])) l (ps.map V.int):=SqT.of (sB _ _ af)
    refine⟨_,rfl,p,C,dx,_,_,rfl,sAB _ _ ho,T.cl,T.nT,zaK _ _ _,last _ a _ (s1.trans sAB) af hq3 hb⟩
  ·refine⟨_,rfl,q,rfl,.inr ⟨⟨_,hqX⟩,zc1 (K:=K) (a:=q) (xs:=ps.map V.int) (λi σ H2=>H2=H1∧(∃ z,σ=[some (.ref p),some (.str n),some (.ref q),z])∧∀(j:Nat) k,j < i→ps[j]?=some k→¬(k < 0∨(T'.length:Int)≤k))
    ⟨rfl,⟨_,rfl⟩,λj k hj=>absurd hj (Nat.not_lt_zero j)⟩ (λi σ H2 _ ⟨e,_⟩=>by rw[e];exact hqX) ?_ ?_⟩⟩
   ·rintro i x σ H2 hx ⟨rfl,⟨z,rfl⟩,no⟩
    obtain⟨k,ek,rfl⟩:=zja hx
    have sk:=small k (mOq ek)
    refine⟨_,rfl,p,dx,_,rfl,ho,zds _ _ _ (by decide +kernel) (by decide +kernel) (by decide +kernel),_,rfl,p,tl,al,rl,T',As,Rs,k,rfl,S1,sk.1,sk.2,?_⟩
    by_cases hk:k < 0∨(T'.length:Int)≤k
    ·rw[if_pos hk]
     have e:zc9 T' true (n,ps)=(.term,T'):=by unfold zc9;rw[if_neg (by decide),if_pos (zlc h3 ek hk)]
     rw[hg,e]at h
     exact λH' s'=>h H' (s1.trans s')
    ·rw[if_neg hk]
     refine⟨rfl,⟨_,rfl⟩,λj k' hj ej=>?_⟩
     by_cases hji:j < i
     ·exact no j k' hji ej
     ·have:j=i:=by lia
      subst this
      rw[ek]at ej
      cases ej
      exact hk
   ·rintro σ H2 ⟨rfl,⟨z,rfl⟩,no⟩
    have hb:bad T' ps=false:=zej h3 λi k e=>no i k (by rw[hl1];exact(gEq e).1) e
    refine⟨_,rfl,_,rfl,q,_,rfl,.inr ⟨hqX,lS2,λa ha=>?_⟩⟩
    have sAB:ah H2 (upd H2 a (.tup [.str n,.ref q])):=zbC ha _
    have hq3:SqT K (upd H2 a (.tup [.str n,.ref q])) q (ps.map V.int):=(zam.of_same sAB).sq hqX
    refine⟨_,rfl,p,C,dx,_,_,rfl,sAB _ _ ho,T.cl,T.nT,zaK _ _ _,last _ a _ (s1.trans sAB) af hq3 hb⟩
theorem zj0 (a b:Int):peq (.int a) (.int b)=true↔a=b:=by
 rw[zm1]
 exact decide_eq_true_iff
theorem zgB {ps:List Int} {i:Nat} {x:V} (h:(ps.map V.int)[i]?=some x):∃ k,ps[i]?=some k∧x=.int k:=by
 rw[List.getElem?_map]at h
 cases e:ps[i]? with
 | none=>rw[e]at h;cases h
 | some k =>
  rw[e]at h
  exact⟨k,rfl,(Option.some.inj h).symm⟩
theorem scO:aO ["parts","kept","part"] ["parts"] (au sOnce):=fsc
theorem zm7 {f:Addr} {fd:FuncData} (F:Fun K "once_each" "once_each" sOnce f fd) (T:Txt K mg aK C CN CT CP CM):aQ P w K mg base CX0 1 f fd ["parts"] (ziy K):=by
 refine F.ok scO (λvs H Q E h=>?_) (λcdv A outer s H vs Q E hr h=>?_)
 ·obtain⟨q,ps,rfl,_⟩:=h
  rfl
 obtain⟨q,ps,rfl,hq,len,k⟩:=h
 have hu:=zfs hr
 refine⟨_,ae (aE (i:=1) scO.nd rfl (Or.inl rfl) (zaq ac))
  (ae (zaB PassesOwn.never rfl (zhn (pv 0)) (zaj (i:=2) scO.nd rfl (Or.inl rfl))
   (ag (aL (aw (zlr hu) (pv 2) (pv 1) rfl) (ag (zap (zcj PySem.F.plainAttrs_list PySem.F.slot_list_append PySem.F.type_list_append za5 (pv 1) (aa (pv 2) ac)))) aA)))
  (ag (ay (zai zaC rfl T.tuple PyProof.Rows.Boot.tuple (aa (pv 1) ac))))),?_⟩
 refine⟨lS0,λl hl=>?_⟩
 have s1:ah H (upd H l (.lst [])):=zbC hl _
 rcases hq with hqX | hqX
 ·refine⟨_,rfl,q,rfl,.inl ⟨⟨_,s1.seq hqX⟩,zfE (K:=K) (a:=q) (xs:=ps.map V.int) (λi σ H2=>ah H H2∧(∃ z,σ=[some (.ref q),some (.ref l),z])∧H2 l=some (.lst ((aZ [] (ps.take i)).map V.int)))
   ⟨s1,⟨_,rfl⟩,af⟩ (λi σ H2 _ ⟨e,_⟩=>e.seq hqX) ?_ ?_⟩⟩
  ·rintro i x σ H2 hx ⟨s2,⟨z,rfl⟩,hl2⟩
   obtain⟨k',ek,rfl⟩:=zgB hx
   have et:=ze1 (acc:=[]) ek
   have lenz:((aZ [] (ps.take i)).map V.int).length < sizeLine:=by
    rw[lM]
    have:=zdn (ps.take i) []
    rw[List.length_take,List.length_nil]at this
    exact Nat.lt_of_le_of_lt (show _≤1000 by lia) (by decide)
   refine⟨_,rfl,_,rfl,l,_,(aZ [] (ps.take i)).map Dt.int,.int k',rfl,.inl (SqL.of hl2),ao.ints _,by simp only[Has],by rw[zbA];decide,_,rfl,?_⟩
   have ea:=zeE zj0 (aZ [] (ps.take i)) k'
   by_cases hm:k'∈aZ [] (ps.take i)
   ·rw[dTq hm]at ea
    refine aJ (λc=>absurd (show(!((aZ [] (ps.take i)).map Dt.int).any λd'=>peq d' (.int k'))=true from c) (by rw[ea];decide)) (λ_=>?_)
    rw[if_pos hm]at et
    exact⟨s2,⟨_,rfl⟩,by rw[et];exact hl2⟩
   ·rw[dFq hm]at ea
    refine aJ (λ_=>?_) (λc=>absurd (show(!((aZ [] (ps.take i)).map Dt.int).any λd'=>peq d' (.int k'))=true by rw[ea];rfl) c)
    rw[if_neg hm]at et
    refine⟨_,rfl,.inl ⟨rfl,_,SqL.of hl2⟩,_,rfl,l,_,_,rfl,rfl,hl2,lenz,?_⟩
    refine⟨λb o e=>by rw[aD (zae e hl)];exact s2 b o e,⟨_,rfl⟩,?_⟩
    rw[et,mAq,af]
    rfl
  ·rintro σ H2 ⟨s2,⟨z,rfl⟩,hl2⟩
   rw[lM,List.take_length]at hl2
   refine⟨_,rfl,l,_,rfl,.inl ⟨SqL.of hl2,λl2 hl2'=>k _ l2 (s2.trans (zbC hl2' _)) af⟩⟩
 ·refine⟨_,rfl,q,rfl,.inr ⟨⟨_,(zam.of_same s1).sq hqX⟩,zc1 (K:=K) (a:=q) (xs:=ps.map V.int) (λi σ H2=>ah H H2∧(∃ z,σ=[some (.ref q),some (.ref l),z])∧H2 l=some (.lst ((aZ [] (ps.take i)).map V.int)))
   ⟨s1,⟨_,rfl⟩,af⟩ (λi σ H2 _ ⟨e,_⟩=>(zam.of_same e).sq hqX) ?_ ?_⟩⟩
  ·rintro i x σ H2 hx ⟨s2,⟨z,rfl⟩,hl2⟩
   obtain⟨k',ek,rfl⟩:=zgB hx
   have et:=ze1 (acc:=[]) ek
   have lenz:((aZ [] (ps.take i)).map V.int).length < sizeLine:=by
    rw[lM]
    have:=zdn (ps.take i) []
    rw[List.length_take,List.length_nil]at this
    exact Nat.lt_of_le_of_lt (show _≤1000 by lia) (by decide)
   refine⟨_,rfl,_,rfl,l,_,(aZ [] (ps.take i)).map Dt.int,.int k',rfl,.inl (SqL.of hl2),ao.ints _,by simp only[Has],by rw[zbA];decide,_,rfl,?_⟩
   have ea:=zeE zj0 (aZ [] (ps.take i)) k'
   by_cases hm:k'∈aZ [] (ps.take i)
   ·rw[dTq hm]at ea
    refine aJ (λc=>absurd (show(!((aZ [] (ps.take i)).map Dt.int).any λd'=>peq d' (.int k'))=true from c) (by rw[ea];decide)) (λ_=>?_)
    rw[if_pos hm]at et
    exact⟨s2,⟨_,rfl⟩,by rw[et];exact hl2⟩
   ·rw[dFq hm]at ea
    refine aJ (λ_=>?_) (λc=>absurd (show(!((aZ [] (ps.take i)).map Dt.int).any λd'=>peq d' (.int k'))=true by rw[ea];rfl) c)
    rw[if_neg hm]at et
    refine⟨_,rfl,.inl ⟨rfl,_,SqL.of hl2⟩,_,rfl,l,_,_,rfl,rfl,hl2,lenz,?_⟩
    refine⟨λb o e=>by rw[aD (zae e hl)];exact s2 b o e,⟨_,rfl⟩,?_⟩
    rw[et,mAq,af]
    rfl
  ·rintro σ H2 ⟨s2,⟨z,rfl⟩,hl2⟩
   rw[lM,List.take_length]at hl2
   refine⟨_,rfl,l,_,rfl,.inl ⟨SqL.of hl2,λl2 hl2'=>k _ l2 (s2.trans (zbC hl2' _)) af⟩⟩
theorem scRw:aO ["self","parts","part"] ["self","parts"] (au sRow):=fsc
theorem ok_row {f fP fO:Addr} {fd dP dO:FuncData} (F:Fun K "add_row" "Problem.add_row" sRow f fd) (T:Txt K mg aK C CN CT CP CM)
  (GP:aQ P w K mg base (CX1 P w) 1 fP dP ["self","part"] (zgd K C CP)) (bP:aF K dP ["self","part"] []) (mP:zdb K C "ask_part" fP)
  (GO:aQ P w K mg base CX0 1 fO dO ["parts"] (ziy K)) (bO:aF K dO ["parts"] []) (kO:W.keepIn K (.ref fO)=true) (mO:mg "once_each"=some (.ref fO)) :
  aQ P w K mg base (CX1 P w) 2 f fd ["self","parts"] (ziq K C CN CT CP CM):=by
 obtain⟨t20,e20⟩:=T.rparts
 obtain⟨t200,e200⟩:=T.rows
 refine Fun.okX F scRw (λvs H Q E h=>?_) (λcdv A outer s H vs Q E hr h=>?_)
 ·obtain⟨p,tl,al,rl,q,T,As,Rs,ps,rfl,_⟩:=h
  rfl
 obtain⟨p,tl,al,rl,q,T',As,Rs,ps,rfl,S,hq,len,small,rlen,h⟩:=h
 obtain⟨t2,h2,q2⟩:∃ t,PSs (aX (CX1 P w) P w K mg base ["self","parts","part"] "Problem.add_row" (au sRow) f cdv A outer s H E) ((zaX sRow).drop 1) t ∧
   ∀ z,ps.any (zb6 As.length)=false→t { nx:=λ_ H'=>Q .non H',rt:=Q } [some (.ref p),some (.ref q),z] H:=by
  refine⟨_,ae (aL (aw zcC (ap aj rfl T.len bL (aa (pv 1) ac)) (zbW (v:=.int 20) rfl e20 ⟨_,rfl⟩))
    (ag (zdm (C:=CM) xe1 rfl rfl T.bmany PySem.F.excBase_ValueError T.xmany (aa (zcR (za1 zac (za1 (zfx (zbW (v:=.int 20) rfl e20 ⟨_,rfl⟩)) (za1 zac zes)))) ac))) aA)
   (ae (aL (aw zeR (ap aj rfl T.len bL (aa (aR (pv 0) rfl) ac)) (zbW (v:=.int 200) rfl e200 ⟨_,rfl⟩))
    (ag (zdm (C:=CM) xe1 rfl rfl T.bmany PySem.F.excBase_ValueError T.xmany (aa (zcR (za1 zac (za1 (zfx (zbW (v:=.int 200) rfl e200 ⟨_,rfl⟩)) (za1 zac zes)))) ac))) aA)
   (ae (zap (zcj PySem.F.plainAttrs_list PySem.F.slot_list_append PySem.F.type_list_append za5 (aR (pv 0) rfl) (aa (aB GO hr rfl mO kO bO .nil aI (aa (pv 1) ac)) ac)))
   (ag (ay (ar zbM (ap aj rfl T.len bL (aa (aR (pv 0) rfl) ac)) ad))))),?_⟩
  intro z no
  obtain⟨⟨dx,ho⟩,_,_,⟨xs,hl,hs⟩,_⟩:=id S
  have hlen:xs.length=Rs.length:=by rw[←hs.length,lM]
  have hpl:(ps.map V.int).length=ps.length:=lM _
  refine⟨_,rfl,q,_,rfl,hq,_,_,rfl,rfl,_,rfl,aJ (λc=>?_) (λc=>?_)⟩
  ·have c':(20:Int) < (((ps.map V.int).length:Nat):Int):=oDq c
   rw[hpl]at c'
   have e:zep As.length Rs ps=(.many,Rs):=by unfold zep;rw[if_neg (by rw[no];decide),if_pos (by lia)]
   rw[e]at h
   exact⟨_,rfl,by decide +kernel,.inr ⟨20,rfl,by decide +kernel,_,rfl,by decide +kernel,_,rfl,by decide +kernel,by decide +kernel,(by show 1≤sizeLine;decide),h H (ah.refl H)⟩⟩
  have c':¬(20:Int) < (((ps.map V.int).length:Nat):Int):=λz=>c (dTq z)
  rw[hpl]at c'
  refine⟨_,rfl,p,C,dx,_,_,rfl,ho,T.cl,T.nR,zbz _ _ _,rl,xs,rfl,.inl (SqL.of hl),_,_,rfl,rfl,_,rfl,aJ (λc2=>?_) (λc2=>?_)⟩
  ·have c3:(200:Int)≤((xs.length:Nat):Int):=oDq c2
   rw[hlen]at c3
   have e:zep As.length Rs ps=(.many,Rs):=by unfold zep;rw[if_neg (by rw[no];decide),if_neg (by lia),if_pos (by lia)]
   rw[e]at h
   exact⟨_,rfl,by decide +kernel,.inr ⟨200,rfl,by decide +kernel,_,rfl,by decide +kernel,_,rfl,by decide +kernel,by decide +kernel,(by show 1≤sizeLine;decide),h H (ah.refl H)⟩⟩
  have c3:¬(200:Int)≤((xs.length:Nat):Int):=λz=>c2 (dTq z)
  rw[hlen]at c3
  have e:zep As.length Rs ps=(.num Rs.length,Rs++[aZ [] ps]):=by unfold zep;rw[if_neg (by rw[no];decide),if_neg (by lia),if_neg (by lia)]
  rw[e]at h
  refine⟨_,rfl,p,C,dx,_,_,rfl,ho,T.cl,T.nR,zbz _ _ _,.inl ⟨rfl,_,SqL.of hl⟩,_,rfl,q,ps,rfl,hq,len,λH2 l s2 hl2=>?_⟩
  have S2:=S.same s2
  have hlr:=s2 _ _ hl
  have hd:Has K H2 (dR (aZ [] ps)) (.ref l):=by
   simp only[dR,Has]
   exact⟨l,_,rfl,SqT.of hl2,ao.ints _⟩
  have kt:zam H2 (upd H2 rl (.lst (xs++[.ref l]))):=zam.lst hlr
  have S3:zaY K C (upd H2 rl (.lst (xs++[.ref l]))) p tl al rl T' As (Rs++[aZ [] ps]):=S2.setR (by
   rw[mAq]
   exact((hs.keep (.of_same s2) (zaP zdV Rs)).keep kt (zaP zdV Rs)).append (ao.one (hd.keep kt (zdV _))))
  obtain⟨⟨dx3,ho3⟩,_⟩:=id S3
  refine⟨rl,xs,_,rfl,rfl,hlr,Nat.lt_of_le_of_lt (by rw[hlen];exact rlen) (by decide),?_⟩
  refine⟨_,rfl,p,C,dx3,_,_,rfl,ho3,T.cl,T.nR,zbz _ _ _,rl,_,rfl,.inl (SqL.of af),_,_,rfl,rfl,?_⟩
  have en:(((xs++[V.ref l]).length:Nat):Int) - 1=(Rs.length:Nat):=by rw[lAq,hlen];simp
  have fin:=h _ S3 (λb o e _ n2=>by rw[aD n2];exact s2 b o e)
  show Q (.int ((((xs++[V.ref l]).length:Nat):Int) - 1)) _
  rw[en]
  exact fin
 refine⟨_,ae (zaB PassesOwn.leaving rfl (zhn (pv 1)) (zaj (i:=2) scRw.nd rfl (Or.inl rfl)) (ag (zap (zaO (pv 0) T.cl mP GP hr bP .nil (zc0 xe1) (aa (pv 2) ac))))) h2,?_⟩
 obtain⟨⟨dx,ho⟩,_⟩:=id S
 have noA:=zds tl al rl (m:="ask_part") (by decide +kernel) (by decide +kernel) (by decide +kernel)
 have fin:∀ z,ps.any (zb6 As.length)=false→SqI K H q ps→t2 { nx:=λ_ H'=>Q .non H',rt:=Q } [some (.ref p),some (.ref q),z] H:=λz no _=>q2 z no
 rcases hq with hqX | hqX
 ·refine⟨_,rfl,q,rfl,.inl ⟨⟨_,hqX⟩,zfE (K:=K) (a:=q) (xs:=ps.map V.int) (λi σ H2=>H2=H∧(∃ z,σ=[some (.ref p),some (.ref q),z])∧(ps.take i).any (zb6 As.length)=false)
   ⟨rfl,⟨_,rfl⟩,by simp⟩ (λi σ H2 _ ⟨e,_⟩=>by rw[e];exact hqX) ?_ ?_⟩⟩
  ·rintro i x σ H2 hx ⟨rfl,⟨z,rfl⟩,no⟩
   obtain⟨k',ek,rfl⟩:=zgB hx
   have sk:=small k' (mOq ek)
   refine⟨_,rfl,p,dx,_,rfl,ho,noA,_,rfl,p,tl,al,rl,T',As,Rs,k',rfl,S,sk.1,sk.2,?_⟩
   by_cases hk:zb6 As.length k'=true
   ·rw[if_pos hk]
    have e:zep As.length Rs ps=(.part,Rs):=if_pos (List.any_eq_true.mpr ⟨k',mOq ek,hk⟩)
    rw[e]at h
    exact h
   ·rw[if_neg hk]
    refine⟨rfl,⟨_,rfl⟩,?_⟩
    rw[List.take_add_one,ek,List.any_append,no]
    simpa using hk
  ·rintro σ H2 ⟨rfl,⟨z,rfl⟩,no⟩
   rw[lM,List.take_length]at no
   exact fin z no (.inl hqX)
 ·refine⟨_,rfl,q,rfl,.inr ⟨⟨_,hqX⟩,zc1 (K:=K) (a:=q) (xs:=ps.map V.int) (λi σ H2=>H2=H∧(∃ z,σ=[some (.ref p),some (.ref q),z])∧(ps.take i).any (zb6 As.length)=false)
   ⟨rfl,⟨_,rfl⟩,by simp⟩ (λi σ H2 _ ⟨e,_⟩=>by rw[e];exact hqX) ?_ ?_⟩⟩
  ·rintro i x σ H2 hx ⟨rfl,⟨z,rfl⟩,no⟩
   obtain⟨k',ek,rfl⟩:=zgB hx
   have sk:=small k' (mOq ek)
   refine⟨_,rfl,p,dx,_,rfl,ho,noA,_,rfl,p,tl,al,rl,T',As,Rs,k',rfl,S,sk.1,sk.2,?_⟩
   by_cases hk:zb6 As.length k'=true
   ·rw[if_pos hk]
    have e:zep As.length Rs ps=(.part,Rs):=if_pos (List.any_eq_true.mpr ⟨k',mOq ek,hk⟩)
    rw[e]at h
    exact h
   ·rw[if_neg hk]
    refine⟨rfl,⟨_,rfl⟩,?_⟩
    rw[List.take_add_one,ek,List.any_append,no]
    simpa using hk
  ·rintro σ H2 ⟨rfl,⟨z,rfl⟩,no⟩
   rw[lM,List.take_length]at no
   exact fin z no (.inr hqX)
end K35
namespace K35
open PySem L2
theorem zeQ {P:Program} {w:World} {X:Cx}:zdZ (CX1 P w) X E0:=λ_ _ _ _ _ _ _ h=>by
 obtain⟨_,_,_,_,_,_,_,_,_,_,_,_,_,hE⟩:=h
 exact hE.elim
theorem zby (a:Int) {b:Int} (h:0 < b):0≤a % b∧a % b < b:=⟨Int.emod_nonneg _ (by lia),Int.emod_lt_of_pos _ h⟩
theorem made {K:W.Frag} {C:Addr} {H H1:Hp} {x dx tl al rl:Addr} (hx:H x=none) (hdx:H dx=none) (hne:dx≠x) (h1:(upd (upd H dx (.own x)) x (.ins C dx [])) tl=none) (h2:(upd (upd H dx (.own x)) x (.ins C dx [])) al=none)
  (h3:(upd (upd H dx (.own x)) x (.ins C dx [])) rl=none) (na:al≠tl) (nr:rl≠tl) (nx:rl≠al) (k1:H1 x=some (.ins C dx (zcG tl al rl))) (k2:H1 tl=some (.lst [])) (k3:H1 al=some (.lst [])) (k4:H1 rl=some (.lst []))
  (k5:∀ b o,(upd (upd H dx (.own x)) x (.ins C dx [])) b=some o→b≠x→H1 b=some o):zaY K C H1 x tl al rl [] [] []∧ah H H1∧H tl=none∧H al=none∧H rl=none:=by
 have sm:ah H (upd (upd H dx (.own x)) x (.ins C dx [])):=(zbC hdx _).trans (zbC (by rw[aD hne.symm];exact hx) _)
 exact⟨⟨⟨dx,k1⟩,⟨[],k2,.nil⟩,⟨[],k3,.nil⟩,⟨[],k4,.nil⟩,na,nr,nx⟩,λb o e=>k5 b o (sm _ _ e) (zae e hx),sm.free h1,sm.free h2,sm.free h3⟩
structure Own (P:Program) (w:World) (K:W.Frag) (mg:Str→Option Value) (base:Heap) (C CN CT CP CM:Addr) (fI fA fQ fS:Addr) (dI dA' dQ dS:FuncData):Prop where
 I:aQ P w K mg base CX0 1 fI dI ["self"] (ziz C)
 bI:aF K dI ["self"] []
 mI:Mk K C fI
 gI:mg "Problem"=some (.ref C)
 A:aQ P w K mg base (CX1 P w) 4 fA dA' ["self","name","parts"] (zhh K C CN CT CM)
 bA:aF K dA' ["self","name","parts"] []
 mA:zdb K C "add_term" fA
 Q:aQ P w K mg base (CX1 P w) 4 fQ dQ ["self","name"] (zfj K C CN CT CP CM)
 bQ:aF K dQ ["self","name"] []
 mQ:zdb K C "add_plain" fQ
 S:aQ P w K mg base (CX1 P w) 4 fS dS ["self","one","other"] (zfV K C CN CT CP CM)
 bS:aF K dS ["self","one","other"] []
 mS:zdb K C "add_same" fS
section
variable {K:W.Frag} {C CN CT CP CM:Addr}
theorem zaY.lenA {H:Hp} {p tl al rl:Addr} {T:List Tm} {As:List At} {Rs:List (List Int)} (S:zaY K C H p tl al rl T As Rs):∃ dx xs,H p=some (.ins C dx (zcG tl al rl))∧H al=some (.lst xs)∧xs.length=As.length:=by
 obtain⟨⟨dx,h1⟩,_,⟨xs,h2,h3⟩,_⟩:=S
 exact⟨dx,xs,h1,h2,by rw[←h3.length,lM]⟩
theorem zgO (tl al rl:Addr):(zcG tl al rl).lookup ("add_term":Str)=none:=zds _ _ _ (by decide +kernel) (by decide +kernel) (by decide +kernel)
theorem zjp (tl al rl:Addr):(zcG tl al rl).lookup ("add_plain":Str)=none:=zds _ _ _ (by decide +kernel) (by decide +kernel) (by decide +kernel)
theorem zdQ (tl al rl:Addr):(zcG tl al rl).lookup ("add_same":Str)=none:=zds _ _ _ (by decide +kernel) (by decide +kernel) (by decide +kernel)
theorem zkC (tl al rl:Addr):(zcG tl al rl).lookup ("add_row":Str)=none:=zds _ _ _ (by decide +kernel) (by decide +kernel) (by decide +kernel)
end
abbrev ziC:Stmt:=zgI
abbrev ziD:Stmt:=zin
abbrev zfH:Stmt:=zgH
abbrev zeh:Stmt:=zhU
structure TxG (K:W.Frag) (mg:Str→Option Value) (C:Addr):Prop where
 cl:Cls K C
 nL:zcL K C "least"
 nG:zcL K C "gathered"
 min:mg "min"=none
 max:mg "max"=none
 range:mg "range"=none
namespace Gp
inductive sp_init (C:Addr):Sp|m{vs H Q E9} (g dx:Addr):vs=[.ref g]→H g=some (.ins C dx [])→(∀(H':Hp) (ld gd:Addr),(∀ b o,b≠g→H b=some o→H' b=some o)→H ld=none→H gd=none→ld≠gd→H' g=some (.ins C dx [("least",.ref ld),("gathered",.ref gd)])→H' ld=some (.dK [])→H' gd=some (.dK [])→Q .non H')→sp_init C vs H Q E9
theorem zmT:aO ["self"] ["self"] (au ziC):=fsc
section
variable {P:Program} {w:World} {K:W.Frag} {mg:Str→Option Value} {base:Heap} {C f fH fT fM fI fG:Addr} {fd dH dT' dM dI dG:FuncData}
theorem ok_init (F:Fun K "__init__" "Groups.__init__" ziC f fd) (T:TxG K mg C):aQ P w K mg base CX0 1 f fd ["self"] (sp_init C):=by
 refine F.ok zmT (λvs H Q E h=>?_) (λcdv A outer s H vs Q E hr h=>?_)
 ·obtain⟨g,dx,rfl,_⟩:=h
  rfl
 obtain⟨g,dx,rfl,hg,q⟩:=h
 refine⟨_,(ae (zfW (pv 0) zg8 rfl)
  (ag (zfW (pv 0) zg8 rfl))),?_⟩
 try dsimp only [Cx.nox,Cx.wish,aX]
 refine λld hld=>?_
 have n1:g≠ld:=zae hg hld
 have hg1:(upd H ld (.dK [])) g=some (.ins C dx []):=by rw[aD n1];exact hg
 have k1:∀ b o,H b=some o→(upd H ld (.dK [])) b=some o:=ai hld _
 have hl1:=af (H:=H) (a:=ld) (o:=.dK [])
 generalize upd H ld (.dK [])=H1 at hg1 k1 hl1
 refine⟨_,rfl,g,C,dx,_,rfl,hg1,T.cl,T.nL,(by decide),?_⟩
 have hg2:(upd H1 g (.ins C dx (zbI "least" (.ref ld) []))) g=some (.ins C dx [("least",.ref ld)]):=af
 have hl2:(upd H1 g (.ins C dx (zbI "least" (.ref ld) []))) ld=some (.dK []):=by rw[aD (Ne.symm n1)];exact hl1
 have k2:∀ b o,b≠g→H b=some o→(upd H1 g (.ins C dx (zbI "least" (.ref ld) []))) b=some o:=λb o nb h=>by rw[aD nb];exact k1 b o h
 have f2:∀ b,(upd H1 g (.ins C dx (zbI "least" (.ref ld) []))) b=none→H b=none:=λb h=>by
  cases e:H b with
  | none=>rfl
  | some o =>
   by_cases z:b=g
   ·rw[z,hg2]at h;cases h
   ·rw[k2 b o z e]at h;cases h
 generalize upd H1 g (.ins C dx (zbI "least" (.ref ld) []))=H2 at hg2 hl2 k2 f2
 refine λgd hgd=>?_
 have n3:g≠gd:=zae hg2 hgd
 have n4:ld≠gd:=zae hl2 hgd
 refine⟨_,rfl,g,C,dx,_,rfl,by rw[aD n3];exact hg2,T.cl,T.nG,(by show 1 < 1000;decide),?_⟩
 refine q _ ld gd (λb o nb h=>?_) hld (f2 gd hgd) n4 af (by rw[aD (Ne.symm n1),aD n4];exact hl2) (by rw[aD (Ne.symm n3)];exact af)
 have nbg:b≠gd:=λz=>by rw[z,f2 gd hgd]at h;cases h
 rw[aD nb,aD nbg]
 exact k2 b o nb h
inductive zgv (C:Addr):Sp|m{vs H Q E9} (g ld gd:Addr) (t:Int) (N b:Nat) (hd:Int→Int) (av:List Addr):vs=[.ref g,.int t]→GO H C g ld gd N b hd av→Q (.int (hd t)) H→zgv C vs H Q E9
theorem zmU:aO ["self","term"] ["self","term"] (au ziD):=fsc
theorem ok_head (F:Fun K "head" "Groups.head" ziD f fd) (T:TxG K mg C):aQ P w K mg base CX0 1 f fd ["self","term"] (zgv C):=by
 refine F.ok zmU (λvs H Q E h=>?_) (λcdv A outer s H vs Q E hr h=>?_)
 ·obtain⟨g,ld,gd,t,N,b,hd,av,rfl,_⟩:=h
  rfl
 obtain⟨g,ld,gd,t,N,b,hd,av,rfl,G,q⟩:=h
 have hu:=zgt hr
 obtain⟨dx,kl,kg,h1,h2,h3,h4,h5,h6,h7⟩:=G.ex
 refine⟨_,(ag (ay (zg9 hu (aR (pv 0) rfl) (pv 1) (pv 1) ⟨rfl,rfl,rfl,rfl⟩))),?_⟩
 try dsimp only [Cx.nox,Cx.wish,aX]
 refine⟨_,rfl,g,C,dx,_,_,rfl,h1,T.cl,T.nL,rfl,ld,rfl,.inl ⟨kl,.inl h2⟩,_,rfl,_,rfl,_,zdc.k (k:=Sum.inl t) h2,?_⟩
 rw[h4]
 exact q
inductive sp_together (C:Addr):Sp|m{vs H Q E9} (g ld gd:Addr) (t u:Int) (N b:Nat) (hd:Int→Int) (av:List Addr):vs=[.ref g,.int t,.int u]→GO H C g ld gd N b hd av→Q (.bl (decide (hd t=hd u))) H→sp_together C vs H Q E9
theorem zjv:aO ["self","one","other"] ["self","one","other"] (au zfH):=fsc
theorem decV (x y:Int):decide (V.int x=V.int y)=decide (x=y):=decide_eq_decide.mpr ⟨λz=>by injection z,λz=>by rw[z]⟩
theorem ok_together (F:Fun K "together" "Groups.together" zfH f fd) (T:TxG K mg C) (M:zdb K C "head" fH) (Bh:aQ P w K mg base CX0 1 fH dH ["self","term"] (zgv C)) (bh:aF K dH ["self","term"] []):aQ P w K mg base CX0 2 f fd ["self","one","other"] (sp_together C):=by
 refine F.ok zjv (λvs H Q E h=>?_) (λcdv A outer s H vs Q E hr h=>?_)
 ·obtain⟨g,ld,gd,t,u,N,b,hd,av,rfl,_⟩:=h
  rfl
 obtain⟨g,ld,gd,t,u,N,b,hd,av,rfl,G,q⟩:=h
 obtain⟨dx,kl,kg,h1,h2,h3,h4,h5,h6,h7⟩:=G.ex
 refine⟨_,(ag (ay (zaz zag (zaO (pv 0) T.cl M Bh hr bh .nil aI (aa (pv 1) ac)) (zaO (pv 0) T.cl M Bh hr bh .nil aI (aa (pv 2) ac))))),?_⟩
 try dsimp only [Cx.nox,Cx.wish,aX]
 refine⟨_,rfl,g,dx,_,rfl,h1,rfl,_,rfl,g,ld,gd,t,N,b,hd,av,rfl,G,_,rfl,g,dx,_,rfl,h1,rfl,_,rfl,g,ld,gd,u,N,b,hd,av,rfl,G,rfl,?_⟩
 rw[decV]
 exact q
inductive sp_merge (C:Addr):Sp|m{vs H Q E9} (g ld gd:Addr) (t u:Int) (N b:Nat) (hd:Int→Int) (av:List Addr):vs=[.ref g,.int t,.int u]→GO H C g ld gd N b hd av→(0≤t∧t < (N:Int))→(0≤u∧u < (N:Int))→N≤100→b≤1000→(∀ a∈av,H a≠none)→(∀ H',zeU ld gd H H'→GO H' C g ld gd N (b+1) (mrg hd t u) av→Q .non H')→sp_merge C vs H Q E9
theorem zey:aO ["self","one","other","low","high","moved","term"] ["self","one","other"] (au zeh):=fsc
theorem line3 {n:Nat} (h:n≤200000):n≤sizeLine:=by rw[sizeLine_eq];lia
theorem line4 {n:Nat} (h:n≤200000):n < sizeLine:=by rw[sizeLine_eq];lia
theorem merge3 (T:TxG K mg C) {cdv:Value} {A:Around} {outer:List Env} {s:Shared} {H0:Hp} {E:XK} (hr:ba 1 (A.deeper (PyProof.Rows.envOfC "Groups.merge" (au zeh) s.heap.objs.size f cdv))) :
  ∃ z,PSs (aX CX0 P w K mg base ["self","one","other","low","high","moved","term"] "Groups.merge" (au zeh) f cdv A outer s H0 E).nox ((zaX zeh).drop 3) z ∧
   ∀(D:zb9) (H:Hp) (g ld gd:Addr) (t u:Int) (N b:Nat) (hd:Int→Int) (av:List Addr),GO H C g ld gd N b hd av→(0≤t∧t < (N:Int))→(0≤u∧u < (N:Int))→N≤100→b≤1000→loF (hd t) (hd u)≠hiF (hd t) (hd u)→(∀ a∈av,H a≠none)→(∀ H' σ',zeU ld gd H H'→GO H' C g ld gd N (b+1) (mrg hd t u) av→D.nx σ' H') →
    z D [some (.ref g),some (.int t),some (.int u),some (.int (loF (hd t) (hd u))),some (.int (hiF (hd t) (hd u))),none,none] H:=by
 have hu:=zgt hr
 refine⟨_,(ae (aE (i:=5) zey.nd rfl (Or.inl rfl) (zg9 hu (aR (pv 0) rfl) (pv 4) (zaq (aa (pv 4) ac)) ⟨rfl,rfl,rfl,rfl⟩))
  (ae (zaB PassesOwn.never rfl (zcr (pv 5)) (zaj (i:=6) zey.nd rfl (Or.inl rfl))
   (ag (zgw hu (aR (pv 0) rfl) (pv 6) (pv 3) rfl)))
  (ag (zgw hu (aR (pv 0) rfl) (pv 3) (ar zaT (zg9 hu (aR (pv 0) rfl) (pv 3) (zaq (aa (pv 3) ac)) ⟨rfl,rfl,rfl,rfl⟩) (pv 5)) rfl)))),?_⟩
 try dsimp only [Cx.nox,Cx.wish,aX]
 rintro D H g ld gd t u N b hd av G ht hu' N100 b1000 e hav q
 obtain⟨dx,kl,kg,h1,h2,h3,h4,h5,h6,h7⟩:=G.ex
 have bN:b * N≤100000:=Nat.mul_le_mul b1000 N100
 obtain⟨mh,k1,k2,k3⟩:=h5 _ (G.h.hi_id t u)
 obtain⟨ml,l1,l2,l3⟩:=h5 _ (G.h.lo_id t u)
 have tN:=G.h.in' ht
 have uN:=G.h.in' hu'
 have lh:=lohi (hd t) (hd u)
 have mhl:=zjV G.h (x:=hiF (hd t) (hd u)) (by lia) k1 k2
 have mll:=zjV G.h (x:=loF (hd t) (hd u)) (by lia) l1 l2
 have ngl:g≠ld:=zb2 h1 h2 (by intro z;cases z)
 have ngg:g≠gd:=zb2 h1 h3 (by intro z;cases z)
 refine⟨_,rfl,g,C,dx,_,_,rfl,h1,T.cl,T.nG,rfl,gd,rfl,.inl ⟨kg,.inl h3⟩,_,rfl,_,rfl,lS1,λl hl=>?_⟩
 have s1:ah H (upd H l (.lst [.int (hiF (hd t) (hd u))])):=ai hl _
 have n1:(upd H l (.lst [.int (hiF (hd t) (hd u))])) l=some (.lst ([hiF (hd t) (hd u)].map V.int)):=af
 generalize upd H l (.lst [.int (hiF (hd t) (hd u))])=H1 at s1 n1
 obtain⟨am,eam,ham⟩:∃ am,(zaU kg (Sum.inl (hiF (hd t) (hd u)))).getD (.ref l)=.ref am∧H1 am=some (.lst (mh.map V.int)):=by
  rcases k3 with ⟨k3,k4⟩ | ⟨a,k3,k4,_⟩
  ·rw[k3]
   refine⟨l,rfl,?_⟩
   rw[k4]
   exact n1
  ·rw[k3]
   exact⟨a,rfl,s1 _ _ k4⟩
 refine⟨_,zdc.k (k:=Sum.inl (hiF (hd t) (hd u))) (s1 _ _ h3),?_⟩
 rw[eam]
 have G1:=G.same s1
 have h11:=s1 _ _ h1
 have h21:=s1 _ _ h2
 have h31:=s1 _ _ h3
 have nal:am≠ld:=zb2 ham h21 (by intro z;cases z)
 have nag:am≠gd:=zb2 ham h31 (by intro z;cases z)
 refine⟨_,rfl,am,rfl,⟨_,SqL.of ham⟩,zev zcZ (λi σ H'=>∃(v6:Option V) (kl':List (Key × V)),σ=[some (.ref g),some (.int t),some (.int u),some (.int (loF (hd t) (hd u))),some (.int (hiF (hd t) (hd u))),some (.ref am),v6]∧zcE ld H1 H'∧H' ld=some (.dK kl')∧kl'.length≤kl.length+i∧∀ x:Int,(zaU kl' (Sum.inl x)).getD (.int x)=.int (if x∈mh.take i then loF (hd t) (hd u) else hd x)) (λi σ H' ⟨_,_,_,sx,_⟩=>SqL.of (sx _ _ nal ham)) ⟨none,kl,rfl,zcE.refl _ _,h21,nRq _,λx=>by simpa using h4 x⟩ ?_ ?_⟩
 ·rintro i σ H2 x H3 hi ⟨v6,kl',rfl,sx,hl2,ll,hv⟩ ⟨rfl,hx⟩
  obtain⟨k,hk,rfl⟩:=zaW (hx _ (SqL.of (sx _ _ nal ham)))
  rw[lM]at hi
  refine⟨_,rfl,_,rfl,g,C,dx,_,_,rfl,sx _ _ ngl h11,T.cl,T.nL,rfl,_,rfl,ld,_,rfl,ze5.k (k:=Sum.inl k) hl2 (line4 (by lia)),_,_,rfl,sx.trans (zcE.put _ _),af,?_,λx=>?_⟩
  ·have:=zfD kl' (Sum.inl k) (.int (loF (hd t) (hd u)))
   show(zbL kl' (Sum.inl k) (.int (loF (hd t) (hd u)))).length≤_
   lia
  ·rw[zfy,zaD hk]
   by_cases z:x=k
   ·subst z
    rw[if_pos rfl,if_pos (List.mem_append_right _ List.mem_cons_self)]
    rfl
   ·rw[if_neg (λw=>z (by injection w)),hv]
    congr 1
    by_cases w:x∈mh.take i
    ·rw[if_pos w,if_pos (List.mem_append_left _ w)]
    ·rw[if_neg w,if_neg (λy=>by
      rcases mPq y with y | y
      ·exact w y
      ·exact z (mSq y))]
 ·rintro σ H2 ⟨v6,kl',rfl,sx,hl2,ll,hv⟩
  rw[lM]at ll
  rw[lM,tO (nRq _)]at hv
  have h12:=sx _ _ ngl h11
  have h32:=sx _ _ (Ne.symm G.ne) h31
  have ham2:=sx _ _ nal ham
  refine⟨_,rfl,g,C,dx,_,_,rfl,h12,T.cl,T.nG,rfl,gd,rfl,.inl ⟨kg,.inl h32⟩,_,rfl,_,rfl,lS1,λl2' hl2'=>?_⟩
  have s3:ah H2 (upd H2 l2' (.lst [.int (loF (hd t) (hd u))])):=ai hl2' _
  have n3:(upd H2 l2' (.lst [.int (loF (hd t) (hd u))])) l2'=some (.lst ([loF (hd t) (hd u)].map V.int)):=af
  generalize upd H2 l2' (.lst [.int (loF (hd t) (hd u))])=H3 at s3 n3
  obtain⟨al,eal,hal⟩:∃ al,(zaU kg (Sum.inl (loF (hd t) (hd u)))).getD (.ref l2')=.ref al∧H3 al=some (.lst (ml.map V.int)):=by
   rcases l3 with ⟨l3,l4⟩ | ⟨a,l3,l4,_⟩
   ·rw[l3]
    refine⟨l2',rfl,?_⟩
    rw[l4]
    exact n3
   ·rw[l3]
    have na:a≠ld:=zb2 l4 h2 (by intro z;cases z)
    exact⟨a,rfl,s3 _ _ (sx _ _ na (s1 _ _ l4))⟩
  refine⟨_,zdc.k (k:=Sum.inl (loF (hd t) (hd u))) (s3 _ _ h32),?_⟩
  rw[eal]
  refine⟨_,rfl,al,am,_,_,rfl,rfl,hal,s3 _ _ ham2,line3 (by rw[lM,lM];lia),λp hp=>?_⟩
  rw[←mAq]
  have s4:ah H3 (upd H3 p (.lst ((ml++mh).map V.int))):=ai hp _
  have n4:=af (H:=H3) (a:=p) (o:=.lst ((ml++mh).map V.int))
  generalize upd H3 p (.lst ((ml++mh).map V.int))=H4 at s4 n4
  have s24:=s3.trans s4
  have h14:=s24 _ _ h12
  have h34:=s24 _ _ h32
  have hl4:=s24 _ _ hl2
  have npg:p≠gd:=zb2 n4 h34 (by intro z;cases z)
  refine⟨_,rfl,g,C,dx,_,_,rfl,h14,T.cl,T.nG,rfl,_,rfl,gd,_,rfl,ze5.k (k:=Sum.inl (loF (hd t) (hd u))) h34 (line4 (by lia)),?_⟩
  refine q _ _ ?_ ?_
  ·intro b' o' nb1 nb2 hb
   rw[aD nb2]
   exact s24 _ _ (sx _ _ nb1 (s1 _ _ hb))
  ·have l4:kl'.length≤(b+1) * N:=by
    rw[Nat.add_mul,Nat.one_mul]
    lia
   refine GO.merged (kl:=kl') (kg:=kg) (p:=p) (ml:=ml) (mh:=mh) (dx:=dx) G.h G.ne ht hu' e (by rw[aD ngg];exact h14) (by rw[aD G.ne];exact hl4) af hv (λx hx=>?_) l1 l2 k1 k2 (by rw[aD npg];exact n4) l4 (by lia) (λz=>?_)
   ·obtain⟨ms,m1,m2,m3⟩:=h5 x hx
    refine⟨ms,m1,m2,?_⟩
    rcases m3 with m3 | ⟨a,m3,m4,m5⟩
    ·exact .inl m3
    ·have na:a≠ld:=zb2 m4 h2 (by intro z;cases z)
     have ng:a≠gd:=zb2 m4 h3 (by intro z;cases z)
     exact .inr ⟨a,m3,(by rw[aD ng];exact s24 _ _ (sx _ _ na (s1 _ _ m4))),m5⟩
   ·cases eo:H p with
    | none=>exact hav p z eo
    | some o =>
     by_cases c:p=ld
     ·rw[c,s3 _ _ hl2]at hp
      cases hp
     ·rw[s3 _ _ (sx _ _ c (s1 _ _ eo))]at hp
      cases hp
theorem ok_merge (F:Fun K "merge" "Groups.merge" zeh f fd) (T:TxG K mg C) (M:zdb K C "head" fH) (Bh:aQ P w K mg base CX0 1 fH dH ["self","term"] (zgv C)) (bh:aF K dH ["self","term"] []):aQ P w K mg base CX0 2 f fd ["self","one","other"] (sp_merge C):=by
 refine F.ok zey (λvs H Q E h=>?_) (λcdv A outer s H vs Q E hr h=>?_)
 ·obtain⟨g,ld,gd,t,u,N,b,hd,av,rfl,_⟩:=h
  rfl
 obtain⟨g,ld,gd,t,u,N,b,hd,av,rfl,G,ht,hu',N100,b1000,hav,q⟩:=h
 have hu:=zgt hr
 obtain⟨dx,kl,kg,h1,h2,h3,h4,h5,h6,h7⟩:=G.ex
 have bN:b * N≤100000:=Nat.mul_le_mul b1000 N100
 obtain⟨t3,h3',q3⟩:=merge3 (P:=P) (w:=w) (base:=base) (f:=f) (outer:=outer) (H0:=H) (E:=E) T hr
 refine⟨_,(ae (aE (i:=3) zey.nd rfl (Or.inl rfl) (ap (zlT rfl) rfl T.min PyProof.Rows.Boot.min (aa (zaO (pv 0) T.cl M Bh hr bh .nil aI (aa (pv 1) ac)) (aa (zaO (pv 0) T.cl M Bh hr bh .nil aI (aa (pv 2) ac)) ac))))
  (ae (aE (i:=4) zey.nd rfl (Or.inl rfl) (ap (zig rfl) rfl T.max PyProof.Rows.Boot.max (aa (zaO (pv 0) T.cl M Bh hr bh .nil aI (aa (pv 1) ac)) (aa (zaO (pv 0) T.cl M Bh hr bh .nil aI (aa (pv 2) ac)) ac))))
  (ae (aL (aw zag (pv 3) (pv 4))
   (ag zmX)
   aA)
  h3'))),?_⟩
 try dsimp only [Cx.nox,Cx.wish,aX]
 refine⟨_,rfl,g,dx,_,rfl,h1,rfl,_,rfl,g,ld,gd,t,N,b,hd,av,rfl,G,_,rfl,g,dx,_,rfl,h1,rfl,_,rfl,g,ld,gd,u,N,b,hd,av,rfl,G,_,_,rfl,?_⟩
 refine⟨_,rfl,g,dx,_,rfl,h1,rfl,_,rfl,g,ld,gd,t,N,b,hd,av,rfl,G,_,rfl,g,dx,_,rfl,h1,rfl,_,rfl,g,ld,gd,u,N,b,hd,av,rfl,G,_,_,rfl,?_⟩
 refine⟨_,rfl,_,rfl,rfl,_,rfl,?_⟩
 show if decide (V.int (loF (hd t) (hd u))=V.int (hiF (hd t) (hd u)))=true then _ else _
 rw[decV]
 by_cases e:loF (hd t) (hd u)=hiF (hd t) (hd u)
 ·rw[dTq e]
  refine aS (q H (λ_ _ _ _ h=>h) ?_)
  rw[zk0 e]
  exact G.mono (Nat.le_succ _)
 rw[dFq e]
 exact aV (q3 _ H g ld gd t u N b hd av G ht hu' N100 b1000 e hav λH' σ' s' G'=>q H' s' G')
end
end Gp
def tG (T:List Tm) (a:Int):Tm:=T.getD a.toNat ("",[])
def smF (As:List At) (k:Int):Option (Int × Int):=if 1≤k∧k≤(As.length:Int) then(match As.getD (k - 1).toNat (.plain "") with | .same a b=>some (a,b) | .plain _=>none) else none
def zeP (ps:List Int) (As:List At) (l:Lk):Bool:=decide (-l.2.2∈ps)&&(match smF As l.2.2 with | some q=>decide (q=(l.1,l.2.1))||decide (q=(l.2.1,l.1)) | none=>false)
def zdY (f:Int→Int) (T:List Tm) (a b:Int):Bool:=decide ((tG T a).1=(tG T b).1)&&(decide ((tG T a).2.length=(tG T b).2.length)&&((tG T a).2.zip (tG T b).2).all λxy=>decide (f xy.1=f xy.2))
def zer (f:Int→Int) (ps:List Int) (T:List Tm) (As:List At) (l:Lk):Bool:=if l.2.2=0 then zdY f T l.1 l.2.1 else zeP ps As l
def inB (n:Nat) (l:Lk):Bool:=decide ((0≤l.1∧l.1 < (n:Int))∧0≤l.2.1∧l.2.1 < (n:Int))
def zbq (f:Int→Int) (ps:List Int) (T:List Tm) (As:List At) (l:Lk):Bool:=inB T.length l&&zer f ps T As l
def zb1 (f:Int→Int) (As:List At) (p:Int):Bool:=match smF As p with | some q=>decide (f q.1=f q.2) | none=>false
def zfu (f:Int→Int) (ps:List Int) (As:List At):Bool:=(ps.map (zb1 f As)).any id
def eqF (st:(Int→Int)→Int→Int→Int→Int) (ps:List Int) (T:List Tm) (As:List At):List Lk→(Int→Int)→Bool
 | [],f=>zfu f ps As
 | l :: ls,f=>if zbq f ps T As l=true then eqF st ps T As ls (st f l.1 l.2.1) else false
def rtm (f:Int→Int) (a b:Int):Int→Int:=λt=>if f t=f a then f b else f t
def InR (n:Nat) (x:Int):Prop:=0≤x∧x < (n:Int)
structure Dom (T:List Tm) (As:List At):Prop where
 tm:∀ t∈T,∀ q∈t.2,InR T.length q
 am:∀ x y,At.same x y∈As→InR T.length x∧InR T.length y
def zcf (n m:Nat) (l:Lk):Prop:=InR n l.1∧InR n l.2.1∧0≤l.2.2∧l.2.2≤(m:Int)
theorem zfd {T:List Tm} {a:Int} (h:InR T.length a):T[a.toNat]?=some (tG T a)∧tG T a∈T:=by
 obtain⟨h0,h1⟩:=h
 have e:T[a.toNat]?=some (tG T a):=by
  unfold tG
  rw[List.getD_eq_getElem?_getD,gG (by lia)]
  rfl
 exact⟨e,mOq e⟩
theorem ziA {As:List At} {k:Int} (h0:1≤k) (h1:k≤(As.length:Int)):∃ a,As[(k - 1).toNat]?=some a∧a∈As∧smF As k=(match a with | .same x y=>some (x,y) | .plain _=>none):=by
 have hl:(k - 1).toNat < As.length:=by lia
 refine⟨As[(k - 1).toNat],gG hl,List.getElem_mem hl,?_⟩
 unfold smF
 rw[if_pos ⟨h0,h1⟩,List.getD_eq_getElem?_getD,gG hl]
 rfl
theorem smF_in {T:List Tm} {As:List At} (D:Dom T As) {k:Int} {x y:Int} (h:smF As k=some (x,y)):InR T.length x∧InR T.length y:=by
 unfold smF at h
 split at h
 ·rename_i hk
  have hl:(k - 1).toNat < As.length:=by lia
  rw[List.getD_eq_getElem?_getD,gG hl]at h
  have hm:As[(k - 1).toNat]∈As:=List.getElem_mem hl
  change (match As[(k - 1).toNat] with | .same a b=>some (a,b) | .plain _=>none)=some (x,y) at h
  generalize As[(k - 1).toNat]=a at h hm
  cases a with
  | plain z=>cases h
  | same u v =>
   cases h
   exact D.am _ _ hm
 ·cases h
def zeb (n:Nat) (f g:Int→Int):Prop:=∀ t u,InR n t→InR n u→(f t=f u↔g t=g u)
theorem zeb.dec {n:Nat} {f g:Int→Int} (h:zeb n f g) {t u:Int} (ht:InR n t) (hu:InR n u):decide (f t=f u)=decide (g t=g u):=decide_eq_decide.mpr (h t u ht hu)
theorem zmE {α β:Type} {xs:List α} {ys:List β} {p:α × β} (h:p∈xs.zip ys):p.1∈xs∧p.2∈ys:=List.of_mem_zip (a:=p.1) (b:=p.2) h
theorem zjF {T:List Tm} {As:List At} (D:Dom T As) {f g:Int→Int} (h:zeb T.length f g) {a b:Int} (ha:InR T.length a) (hb:InR T.length b):zdY f T a b=zdY g T a b:=by
 unfold zdY
 congr 2
 have key:∀(zs:List (Int × Int)),(∀ p∈zs,InR T.length p.1∧InR T.length p.2)→(zs.all λxy=>decide (f xy.1=f xy.2))=zs.all λxy=>decide (g xy.1=g xy.2):=λzs=>by
  induction zs with
  | nil=>intro _;rfl
  | cons z zs ih =>
   intro hz
   rw[List.all_cons,List.all_cons,ih λp hp=>hz p (List.mem_cons_of_mem _ hp),h.dec (hz z (by simp)).1 (hz z (by simp)).2]
 refine key _ λp hp=>?_
 obtain⟨p1,p2⟩:=zmE hp
 exact⟨D.tm _ (zfd ha).2 _ p1,D.tm _ (zfd hb).2 _ p2⟩
theorem zd0 {f:Int→Int} {ps:List Int} {T:List Tm} {As:List At} {l:Lk} (h:InR T.length l.1) (h':InR T.length l.2.1):zbq f ps T As l=zer f ps T As l:=by
 unfold zbq inB
 rw[dTq ⟨h,h'⟩,Bool.true_and]
theorem zln {f:Int→Int} {ps:List Int} {T:List Tm} {As:List At} {l:Lk} (h:¬(InR T.length l.1∧InR T.length l.2.1)):zbq f ps T As l=false:=by
 unfold zbq inB
 unfold InR at h
 rw[dFq h,Bool.false_and]
theorem zhv {f:Int→Int} {ps:List Int} {T:List Tm} {As:List At} {l:Lk} (h:zbq f ps T As l=true):InR T.length l.1∧InR T.length l.2.1:=by
 have:=(Bool.and_eq_true_iff.mp h).1
 unfold inB at this
 have:=oDq this
 exact this
theorem zgN {T:List Tm} {As:List At} (D:Dom T As) {f g:Int→Int} (h:zeb T.length f g) {l:Lk} (hl:zcf T.length As.length l) (ps:List Int):zbq f ps T As l=zbq g ps T As l:=by
 rw[zd0 hl.1 hl.2.1,zd0 hl.1 hl.2.1]
 unfold zer
 rw[zjF D h hl.1 hl.2.1]
theorem zkt {T:List Tm} {As:List At} (D:Dom T As) {f g:Int→Int} (h:zeb T.length f g) (p:Int):zb1 f As p=zb1 g As p:=by
 unfold zb1
 cases e:smF As p with
 | none=>rfl
 | some q =>
  obtain⟨x,y⟩:=q
  have:=smF_in D e
  exact h.dec this.1 this.2
theorem zil {T:List Tm} {As:List At} (D:Dom T As) {f g:Int→Int} (h:zeb T.length f g) (ps:List Int):zfu f ps As=zfu g ps As:=by
 unfold zfu
 rw[List.map_congr_left λp _=>zkt D h p]
theorem zmV {f:Int→Int} {a b t u:Int}:rtm f a b t=rtm f a b u↔f t=f u∨(f t=f a∧f u=f b)∨(f t=f b∧f u=f a):=by
 unfold rtm
 constructor
 ·intro h
  split at h <;> split at h <;> lia
 ·intro h
  split <;> split <;> lia
theorem zkL {n:Nat} {f g:Int→Int} (h:zeb n f g) {a b:Int} (ha:InR n a) (hb:InR n b):zeb n (mrg f a b) (rtm g a b):=λt u ht hu=>by
 rw[znf,zmV,h t u ht hu,h t a ht ha,h u b hu hb,h t b ht hb,h u a hu ha]
theorem zje {T:List Tm} {As:List At} (D:Dom T As) (ps:List Int):∀(ls:List Lk) {f g:Int→Int},(∀ l∈ls,zcf T.length As.length l)→zeb T.length f g→eqF mrg ps T As ls f=eqF rtm ps T As ls g
 | [],f,g,_,h=>zil D h ps
 | l :: ls,f,g,hl,h=>by
  have h1:=hl l (by simp)
  simp only[eqF]
  rw[zgN D h h1 ps,zje D ps ls (λu hu=>hl u (List.mem_cons_of_mem _ hu)) (zkL h h1.1 h1.2.1)]
theorem zhP {T:List Tm} {As:List At} (D:Dom T As) (ps:List Int):∀(ls:List Lk) {f g:Int→Int},(∀ l∈ls,zcf T.length As.length l)→(∀ t,InR T.length t→f t=g t)→eqF rtm ps T As ls f=eqF rtm ps T As ls g
 | [],f,g,_,h=>zil D (λt u ht hu=>by rw[h t ht,h u hu]) ps
 | l :: ls,f,g,hl,h=>by
  have h1:=hl l (by simp)
  simp only[eqF]
  rw[zgN D (λt u ht hu=>by rw[h t ht,h u hu]) h1 ps,zhP D ps ls (λu hu=>hl u (List.mem_cons_of_mem _ hu)) (λt ht=>by unfold rtm;rw[h t ht,h l.1 h1.1,h l.2.1 h1.2.1])]
  rfl
end K35
namespace K35
open PySem L2
variable {K:W.Frag} {P:Program} {w:World} {mg:Str→Option Value} {base:Heap} {aK C CN CT CP CM CG f fS fT fA fM fI fG fJ fR:Addr} {fd dS dT' dA' dM dI dG dJ dR':FuncData}
theorem zgF {H:Hp} {T:List Tm} {xs:List V} {i:Nat} {x:V} (h:ao K H (T.map dT) xs) (e:xs[i]?=some x):∃ t q r,T[i]?=some t∧x=.ref q∧SqT K H q [.str t.1,.ref r]∧SqT K H r (t.2.map V.int):=by
 obtain⟨d,e1,e2⟩:=h.get e
 rw[List.getElem?_map]at e1
 cases q:T[i]? with
 | none=>rw[q]at e1;cases e1
 | some t =>
  rw[q]at e1
  cases e1
  simp only[dT,Has,ao]at e2
  obtain⟨p,ys,rfl,hp,v1,r1,rfl,rfl,v2,r2,rfl,⟨r,zs,rfl,hr,hz⟩,rfl⟩:=e2
  rw[zch hz]at hr
  exact⟨t,p,r,rfl,rfl,hp,hr⟩
theorem zfl {H:Hp} {As:List At} {xs:List V} {i:Nat} {x:V} (h:ao K H (As.map dA) xs) (e:xs[i]?=some x):∃ a,As[i]?=some a∧Has K H (dA a) x:=by
 obtain⟨d,e1,e2⟩:=h.get e
 rw[List.getElem?_map]at e1
 cases q:As[i]? with
 | none=>rw[q]at e1;cases e1
 | some t =>
  rw[q]at e1
  cases e1
  exact⟨t,rfl,e2⟩
theorem zcS {H:Hp} {z:Str} {x:V} (h:Has K H (dA (.plain z)) x):∃ q,x=.ref q∧SqT K H q [.str "plain",.str z]:=by
 unfold dA at h
 simp only[Has,ao]at h
 obtain⟨a,xs,rfl,hs,v,r,rfl,rfl,v2,r2,rfl,rfl,rfl⟩:=h
 exact⟨a,rfl,hs⟩
theorem zdq {H:Hp} {a b:Int} {x:V} (h:Has K H (dA (.same a b)) x):∃ q,x=.ref q∧SqT K H q [.str "same",.int a,.int b]:=by
 unfold dA at h
 simp only[Has,ao]at h
 obtain⟨q,xs,rfl,hs,v,r,rfl,rfl,v2,r2,rfl,rfl,v3,r3,rfl,rfl,rfl⟩:=h
 exact⟨q,rfl,hs⟩
theorem zbe {α:Type} {xs:List α} {i:Int} (h0:0≤i) (h1:i < (xs.length:Int)):∃ x,xs[i.toNat]?=some x∧atI xs i=some x:=by
 have hk:i.toNat < xs.length:=by lia
 have e:i=((i.toNat:Nat):Int):=by lia
 have q:atI xs ((i.toNat:Nat):Int)=some xs[i.toNat]:=aH (gG hk)
 rw[←e]at q
 exact⟨_,gG hk,q⟩
def SmQ (K:W.Frag) (As:List At) (k:Int) (H:Hp) (Q:VK):Prop:=(smF As k=none→∀ H',ah H H'→Q .non H')∧∀ x y,smF As k=some (x,y)→∀(H':Hp) (a:Addr),ah H H'→SqT K H' a [.int x,.int y]→Q (.ref a) H'
inductive zdP (K:W.Frag) (C:Addr):Sp|m{vs H Q E9} (p tl al rl:Addr) (T:List Tm) (As:List At) (Rs:List (List Int)) (k:Int):vs=[.ref p,.int k]→zaY K C H p tl al rl T As Rs→SmQ K As k H Q→zdP K C vs H Q E9
theorem zgK:aO ["problem","number","atom"] ["problem","number"] (au zfI):=fsc
theorem zjz (F:Fun K "sameness" "sameness" zfI f fd) (T:Txt K mg aK C CN CT CP CM):aQ P w K mg base CX0 1 f fd ["problem","number"] (zdP K C):=by
 refine F.ok zgK (λvs H Q E h=>?_) (λcdv A outer s H vs Q E hr h=>?_)
 ·obtain⟨p,tl,al,rl,T',As,Rs,k,rfl,_⟩:=h
  rfl
 obtain⟨p,tl,al,rl,T',As,Rs,k,rfl,S,q0,q1⟩:=h
 obtain⟨⟨dx,ho⟩,_,⟨ys,ha,hA⟩,_⟩:=id S
 have yl:ys.length=As.length:=by rw[←hA.length,lM]
 refine⟨_,(ae (aL (PW.pt (zbc (aw zbR (pv 1) ad) (za4 (aw zcC (pv 1) (ap aj rfl T.len bL (aa (aR (pv 0) rfl) ac))))))
   (ag (ay zbG))
   aA)
  (ae (aE (i:=2) zgK.nd rfl (Or.inl rfl) (aq zaa (aR (pv 0) rfl) (ar zbM (pv 1) ad)))
  (ag (ay (zg7 (aw zag (aq az (pv 2) ad) zac) (zat zff (pv 2) (zaF ad) zaG) zbG))))),?_⟩
 try dsimp only [Cx.nox,Cx.wish,aX]
 refine⟨_,rfl,_,_,rfl,rfl,_,rfl,aJ (λc=>aS ?_) (λc=>⟨_,rfl,_,rfl,p,C,dx,_,_,rfl,ho,T.cl,T.nA,zad _ _ _,al,ys,rfl,.inl (SqL.of ha),_,_,rfl,rfl,_,rfl,aJ (λc2=>?_) (λc2=>?_)⟩)⟩
 ·have c':k < 1:=oDq c
  exact q0 (by unfold smF;rw[if_neg (by lia)]) H (ah.refl H)
 ·have c':((ys.length:Nat):Int) < k:=oDq c2
  exact q0 (by unfold smF;rw[if_neg (by lia)]) H (ah.refl H)
 ·have c1:¬k < 1:=λz=>c (dTq z)
  have c3:¬((ys.length:Nat):Int) < k:=λz=>c2 (dTq z)
  obtain⟨a,e1,e2,e3⟩:=ziA (As:=As) (k:=k) (by lia) (by lia)
  obtain⟨x,x1,x2⟩:=zbe (xs:=ys) (i:=k - 1) (by lia) (by lia)
  obtain⟨a',ea,hax⟩:=zfl hA x1
  rw[e1]at ea
  cases ea
  refine⟨_,rfl,p,C,dx,_,_,rfl,ho,T.cl,T.nA,zad _ _ _,_,rfl,_,_,rfl,rfl,al,_,_,_,rfl,rfl,SqL.of ha,x2,?_⟩
  cases a with
  | plain z =>
   obtain⟨q,rfl,hq⟩:=zcS hax
   refine⟨_,rfl,q,_,_,_,rfl,rfl,hq,aH (j:=0) rfl,rfl,_,rfl,aJ (λc=>?_) (λc=>?_)⟩
   ·exact absurd (oDq c) (by decide +kernel)
   ·exact q0 e3 H (ah.refl H)
  | same x y =>
   obtain⟨q,rfl,hq⟩:=zdq hax
   refine⟨_,rfl,q,_,_,_,rfl,rfl,hq,aH (j:=0) rfl,rfl,_,rfl,aJ (λc=>?_) (λc=>?_)⟩
   ·refine⟨_,rfl,_,rfl,q,_,rfl,hq,(by show ¬(1=0∧_);rintro ⟨z,_⟩;exact absurd z (by decide)),λb hb=>?_⟩
    exact q1 x y e3 _ b (ai hb _) (SqT.of af)
   ·exact absurd (dTq rfl) c
theorem zco (k:Int):∀ ps:List Int,inV (.int k) (ps.map V.int)=decide (k∈ps)
 | []=>by simp [inV]
 | p :: ps=>by
  have ih:=zco k ps
  unfold inV at ih ⊢
  rw[List.map_cons,List.any_cons,ih]
  by_cases h:k=p
  ·subst h
   simp [eqV]
  ·have:¬p=k:=λz=>h z.symm
   simp [eqV,h,this]
theorem zgk:∀ ps:List Int,(ps.map V.int).all zdw=true
 | []=>rfl
 | p :: ps=>by rw[List.map_cons,List.all_cons,zgk ps];rfl
theorem ziX (x y a b:Int):peq (.tup [.int x,.int y]) (.tup [.int a,.int b])=decide ((x,y)=(a,b)):=by
 by_cases h:(x,y)=(a,b)
 ·cases h
  rw[dTq rfl]
  exact zbD _
 ·rw[dFq h,Bool.eq_false_iff]
  intro z
  have:=zho _ _ (by simp [nob,zdF]) (by simp [nob,zdF]) z
  simp only[Dt.tup.injEq,List.cons.injEq,Dt.int.injEq,and_true]at this
  exact h (by rw[this.1,this.2])
theorem Has.pair {H:Hp} {a:Addr} {x y:Int} (h:SqT K H a [.int x,.int y]):Has K H (.tup [.int x,.int y]) (.ref a):=Has.tup' h (.cons .int (.cons .int .nil))
inductive zhE (K:W.Frag) (C:Addr):Sp|m{vs H Q E9} (p tl al rl q l:Addr) (T:List Tm) (As:List At) (Rs:List (List Int)) (ps:List Int) (lk:Lk):vs=[.ref p,.ref q,.ref l]→zaY K C H p tl al rl T As Rs→SqI K H q ps→SqT K H l [.int lk.1,.int lk.2.1,.int lk.2.2]→(∀ H',ah H H'→Q (.bl (zeP ps As lk)) H')→zhE K C vs H Q E9
theorem zhu:aO ["problem","parts","link","pair"] ["problem","parts","link"] (au zgf):=fsc
theorem l0 (lk:Lk):atI [V.int lk.1,V.int lk.2.1,V.int lk.2.2] 0=some (.int lk.1):=aH (j:=0) rfl
theorem l1 (lk:Lk):atI [V.int lk.1,V.int lk.2.1,V.int lk.2.2] 1=some (.int lk.2.1):=aH (j:=1) rfl
theorem l2 (lk:Lk):atI [V.int lk.1,V.int lk.2.1,V.int lk.2.2] 2=some (.int lk.2.2):=aH (j:=2) rfl
theorem zm3 (F:Fun K "is_told" "is_told" zgf f fd) (T:Txt K mg aK C CN CT CP CM) (mS:mg "sameness"=some (.ref fS)) (BS:aQ P w K mg base CX0 1 fS dS ["problem","number"] (zdP K C)) (bS:aF K dS ["problem","number"] []) (kS:W.keepIn K (.ref fS)=true):aQ P w K mg base CX0 2 f fd ["problem","parts","link"] (zhE K C):=by
 refine F.ok zhu (λvs H Q E h=>?_) (λcdv A outer s H vs Q E hr h=>?_)
 ·obtain⟨p,tl,al,rl,q,l,T',As,Rs,ps,lk,rfl,_⟩:=h
  rfl
 obtain⟨p,tl,al,rl,q,l,T',As,Rs,ps,lk,rfl,S,hq,hl,Q0⟩:=h
 have hu:=zfs hr
 refine⟨_,(ae (aL (aw zbP (zbk zaQ (aq az (pv 2) ad)) (pv 1) rfl)
   (ag (ay zav))
   aA)
  (ae (aE (i:=3) zhu.nd rfl (Or.inl rfl) (aB BS hr rfl mS kS bS .nil aI (aa (pv 0) (aa (aq az (pv 2) ad) ac))))
  (ag (ay (pe_or (zaz (zdj hu) (pv 3) (zal (aa (aq az (pv 2) ad) (aa (aq az (pv 2) ad) ac))) rfl) (zbs (zaz (zdj hu) (pv 3) (zal (aa (aq az (pv 2) ad) (aa (aq az (pv 2) ad) ac))) rfl))))))),?_⟩
 try dsimp only [Cx.nox,Cx.wish,aX]
 refine⟨_,rfl,l,_,_,_,rfl,rfl,hl,l2 lk,_,rfl,_,rfl,q,_,rfl,hq,rfl,zgk _,_,rfl,?_⟩
 show if(!inV (.int (-lk.2.2)) (ps.map V.int))=true then _ else _
 rw[zco]
 by_cases hin:¬-lk.2.2∈ps
 ·rw[dFq hin]
  refine aS ?_
  have:=Q0 H (ah.refl H)
  unfold zeP at this
  rw[dFq hin]at this
  exact this
 replace hin:=Classical.not_not.mp hin
 rw[dTq hin]
 refine aV ⟨_,rfl,_,rfl,l,_,_,_,rfl,rfl,hl,l2 lk,p,tl,al,rl,T',As,Rs,_,rfl,S,λe H1 s1=>?_,λx y e H1 a s1 ha=>?_⟩
 ·have hl1:=s1.tup hl
  refine⟨_,rfl,_,rfl,l,_,_,_,rfl,rfl,hl1,l0 lk,_,rfl,l,_,_,_,rfl,rfl,hl1,l1 lk,lS2,λb hb=>?_⟩
  have s2:=ai hb (.tup [.int lk.1,.int lk.2.1])
  have n2:=af (H:=H1) (a:=b) (o:=.tup [.int lk.1,.int lk.2.1])
  generalize upd H1 b (.tup [.int lk.1,.int lk.2.1])=H2 at s2 n2
  have hl2:=s2.tup hl1
  refine⟨.non,_,(by simp only[Has]),Has.pair (SqT.of n2),(by decide),_,rfl,aV ⟨_,rfl,_,rfl,l,_,_,_,rfl,rfl,hl2,l1 lk,_,rfl,l,_,_,_,rfl,rfl,hl2,l0 lk,lS2,λd hd=>?_⟩⟩
  have s3:=ai hd (.tup [.int lk.2.1,.int lk.1])
  have n3:=af (H:=H2) (a:=d) (o:=.tup [.int lk.2.1,.int lk.1])
  generalize upd H2 d (.tup [.int lk.2.1,.int lk.1])=H3 at s3 n3
  refine⟨.non,_,(by simp only[Has]),Has.pair (SqT.of n3),(by decide),?_⟩
  have:=Q0 H3 ((s1.trans s2).trans s3)
  unfold zeP at this
  rw[dTq hin,e]at this
  exact this
 ·have hl1:=s1.tup hl
  refine⟨_,rfl,_,rfl,l,_,_,_,rfl,rfl,hl1,l0 lk,_,rfl,l,_,_,_,rfl,rfl,hl1,l1 lk,lS2,λb hb=>?_⟩
  have s2:=ai hb (.tup [.int lk.1,.int lk.2.1])
  have n2:=af (H:=H1) (a:=b) (o:=.tup [.int lk.1,.int lk.2.1])
  generalize upd H1 b (.tup [.int lk.1,.int lk.2.1])=H2 at s2 n2
  have hl2:=s2.tup hl1
  refine⟨_,_,Has.pair (s2.tup ha),Has.pair (SqT.of n2),(by simp only[dep,zaA];decide),_,rfl,?_⟩
  rw[ziX]
  refine aJ (λc=>?_) (λc=>⟨_,rfl,_,rfl,l,_,_,_,rfl,rfl,hl2,l1 lk,_,rfl,l,_,_,_,rfl,rfl,hl2,l0 lk,lS2,λd hd=>?_⟩)
  ·have:=Q0 H2 (s1.trans s2)
   unfold zeP at this
   rw[dTq hin,e]at this
   change Q (.bl (true&&(decide ((x,y)=(lk.1,lk.2.1))||decide ((x,y)=(lk.2.1,lk.1))))) H2 at this
   rw[c]at this
   exact this
  have s3:=ai hd (.tup [.int lk.2.1,.int lk.1])
  have n3:=af (H:=H2) (a:=d) (o:=.tup [.int lk.2.1,.int lk.1])
  generalize upd H2 d (.tup [.int lk.2.1,.int lk.1])=H3 at s3 n3
  refine⟨_,_,Has.pair (s3.tup (s2.tup ha)),Has.pair (SqT.of n3),(by simp only[dep,zaA];decide),?_⟩
  rw[ziX]
  have:=Q0 H3 ((s1.trans s2).trans s3)
  unfold zeP at this
  rw[dTq hin,e]at this
  change Q (.bl (true&&(decide ((x,y)=(lk.1,lk.2.1))||decide ((x,y)=(lk.2.1,lk.1))))) H3 at this
  rw[Bool.eq_false_iff.mpr c]at this
  exact this
inductive zg0 (K:W.Frag) (CG:Addr):Sp|m{vs H Q E9} (tl l g ld gd:Addr) (xs:List V) (T:List Tm) (lk:Lk) (N b:Nat) (hd:Int→Int) (av:List Addr):vs=[.ref tl,.ref l,.ref g]→SqL K H tl xs→ao K H (T.map dT) xs→(∀ t∈T,t.2.length≤1000)→SqT K H l [.int lk.1,.int lk.2.1,.int lk.2.2]→InR T.length lk.1→InR T.length lk.2.1→GO H CG g ld gd N b hd av→(∀ H',ah H H'→Q (.bl (zdY hd T lk.1 lk.2.1)) H')→zg0 K CG vs H Q E9
theorem ze7:aO ["terms","link","groups","one","other"] ["terms","link","groups"] (au zef):=fsc
theorem all_map {α:Type} (f:α→Bool):∀ xs:List α,(xs.map f).all id=xs.all f
 | []=>rfl
 | x :: xs=>by rw[List.map_cons,List.all_cons,List.all_cons,all_map f xs];rfl
theorem zlX {α β:Type} {xs:List α} {ys:List β} {i:Nat} {x:α} {y:β} (h1:xs[i]?=some x) (h2:ys[i]?=some y):(xs.zip ys).take (i+1)=(xs.zip ys).take i++[(x,y)]:=by
 have e:(xs.zip ys)[i]?=some (x,y):=by rw[List.getElem?_zip_eq_some];exact⟨h1,h2⟩
 exact zaD e
theorem zmn (F:Fun K "is_alike" "is_alike" zef f fd) (T:Txt K mg aK C CN CT CP CM) (G:TxG K mg CG) (mz:mg "zip"=none) (mA:mg "all"=none) (M:zdb K CG "together" fG) (Bg:aQ P w K mg base CX0 2 fG dG ["self","one","other"] (Gp.sp_together CG)) (bg:aF K dG ["self","one","other"] []):aQ P w K mg base CX0 3 f fd ["terms","link","groups"] (zg0 K CG):=by
 refine F.ok ze7 (λvs H Q E h=>?_) (λcdv A outer s H vs Q E hr h=>?_)
 ·obtain⟨tl,l,g,ld,gd,xs,T',lk,N,b,hd,av,rfl,_⟩:=h
  rfl
 obtain⟨tl,l,g,ld,gd,xs,T',lk,N,b,hd,av,rfl,ht,hT,t1000,hl,r1,r2,O,q⟩:=h
 have xl:xs.length=T'.length:=by rw[←hT.length,lM]
 refine⟨_,(ae (aE (i:=3) ze7.nd rfl (Or.inl rfl) (aq zaa (pv 0) (aq az (pv 1) ad)))
  (ae (aE (i:=4) ze7.nd rfl (Or.inl rfl) (aq zaa (pv 0) (aq az (pv 1) ad)))
  (ae (aL (PW.pt (zbc (aw zcB (aq az (pv 3) ad) (aq az (pv 4) ad)) (za4 (aw zcB (ap aj rfl T.len bL (aa (aq az (pv 3) ad) ac)) (ap aj rfl T.len bL (aa (aq az (pv 4) ad) ac))))))
   (ag (ay zav))
   aA)
  (ag (ay (ap (zc6 rfl) rfl mA PyProof.Rows.Boot.all (aa (zbQ (N':=["pair","groups"]) (ix:=[2]) rfl rfl (by decide +kernel) (by decide +kernel) rfl (λok=>zdA (sc:=au zef) ok rfl (by decide +kernel) (by decide +kernel)) (by decide +kernel) rfl rfl (λj i h=>match j,h with | 0,h=>by cases h;exact⟨_,rfl,rfl,.inl rfl,.inl rfl⟩ | n+1,h=>by simp at h) (zmY rfl mz (aa (aq az (pv 3) ad) (aa (aq az (pv 4) ad) ac))) (λ_ _ _ _=>(zaO (pv 1) G.cl M Bg hr bg .nil aI (aa (aq (r:=zel K) az (pv 0) ad) (aa (aq (r:=zel K) az (pv 0) ad) ac))))) ac))))))),?_⟩
 try dsimp only [Cx.nox,Cx.wish,aX]
 obtain⟨x,x1,x2⟩:=zbe (xs:=xs) (i:=lk.1) r1.1 (by rw[xl];exact r1.2)
 obtain⟨y,y1,y2⟩:=zbe (xs:=xs) (i:=lk.2.1) r2.1 (by rw[xl];exact r2.2)
 obtain⟨t,qa,ra,ta,rfl,ha,hra⟩:=zgF hT x1
 obtain⟨u,qb,rb,ua,rfl,hb,hrb⟩:=zgF hT y1
 have et:tG T' lk.1=t:=by have:=(zfd r1).1;rw[ta]at this;cases this;rfl
 have eu:tG T' lk.2.1=u:=by have:=(zfd r2).1;rw[ua]at this;cases this;rfl
 have tl1:=t1000 t (mOq ta)
 unfold zdY at q
 rw[et,eu]at q
 refine⟨_,rfl,_,rfl,l,_,_,_,rfl,rfl,hl,l0 lk,tl,_,_,_,rfl,rfl,ht,x2,?_⟩
 refine⟨_,rfl,_,rfl,l,_,_,_,rfl,rfl,hl,l1 lk,tl,_,_,_,rfl,rfl,ht,y2,?_⟩
 have a0:∀(z:Str) (r:Addr),atI [V.str z,V.ref r] 0=some (.str z):=λz r=>aH (j:=0) rfl
 have a1:∀(z:Str) (r:Addr),atI [V.str z,V.ref r] 1=some (.ref r):=λz r=>aH (j:=1) rfl
 refine⟨_,rfl,qa,_,_,_,rfl,rfl,ha,a0 _ _,_,rfl,qb,_,_,_,rfl,rfl,hb,a0 _ _,rfl,_,rfl,aJ (λc=>aS ?_) (λc=>⟨_,rfl,qa,_,_,_,rfl,rfl,ha,a1 _ _,ra,_,rfl,.inr hra,_,rfl,qb,_,_,_,rfl,rfl,hb,a1 _ _,rb,_,rfl,.inr hrb,rfl,_,rfl,aJ (λc2=>?_) (λc2=>?_)⟩)⟩
 ·have:=q H (ah.refl H)
  rw[dFq (λz:t.1=u.1=>by rw[z]at c;simp at c)]at this
  exact this
 ·have:=q H (ah.refl H)
  rw[dFq (p:=t.2.length=u.2.length) (λz=>by simp [z]at c2)]at this
  rw[Bool.false_and,Bool.and_false]at this
  exact this
 have n1:t.1=u.1:=by
  apply Classical.byContradiction
  intro z
  exact c (by simp [z])
 have n2:t.2.length=u.2.length:=by
  apply Classical.byContradiction
  intro z
  exact c2 (by simp;lia)
 rw[dTq n1,dTq n2,Bool.true_and,Bool.true_and]at q
 refine⟨_,rfl,qa,_,_,_,rfl,rfl,ha,a1 _ _,_,rfl,qb,_,_,_,rfl,rfl,hb,a1 _ _,ra,rb,rfl,⟨_,hra⟩,⟨_,hrb⟩,λD hD=>zbU (zmH (by rw[lM,lM];exact n2)) (λi us H'=>ah H H'∧us=(((t.2.zip u.2).take i).map λxy=>decide (hd xy.1=hd xy.2)).map V.bl) (λi us H' ⟨s4,_⟩=>⟨s4.tup hra,s4.tup hrb⟩) ⟨ai hD _,rfl⟩ ?_ ?_⟩
 ·rintro i us H8 z H4 hi hly hDs ⟨s4,rfl⟩ ⟨pp,v1,v2,rfl,hpp,rfl,h1,h2⟩
  obtain⟨k1,e1,rfl⟩:=zaW (h1 _ (s4.tup hra))
  obtain⟨k2,e2,rfl⟩:=zaW (h2 _ (s4.tup hrb))
  have hD5:=ai hpp (.tup [.int k1,.int k2]) _ _ hDs
  have s5:=s4.trans (ai hpp (.tup [.int k1,.int k2]))
  have n5:=af (H:=H8) (a:=pp) (o:=.tup [.int k1,.int k2])
  generalize upd H8 pp (.tup [.int k1,.int k2])=H5 at s5 n5 hD5
  have O5:=O.same s5
  obtain⟨dx5,kl5,kg5,g5,_⟩:=id O5.ex
  refine⟨_,rfl,g,dx5,_,rfl,g5,rfl,_,rfl,pp,_,_,_,rfl,rfl,SqT.of n5,aH (j:=0) rfl,_,rfl,pp,_,_,_,rfl,rfl,SqT.of n5,aH (j:=1) rfl,g,ld,gd,k1,k2,N,b,hd,av,rfl,O5,zaH (sz _ (by rw[lM];exact tl1)) hi hly hD5 ⟨s5.upd hD,?_⟩⟩
  ·rw[zlX e1 e2,mAq,mAq]
   rfl
 rintro us H4 hDs ⟨s4,rfl⟩
 refine⟨D,_,rfl,SqL.of hDs,?_⟩
 rw[all_map,lM,tO (by rw[List.length_zip];lia)]
 exact q H4 s4
structure PrD (K:W.Frag) (C:Addr) (H:Hp) (p tl al rl:Addr) (T:List Tm) (As:List At) (Rs:List (List Int)):Prop where
 pr:zaY K C H p tl al rl T As Rs
 dm:Dom T As
 t3:∀ t∈T,t.2.length≤1000
 tN:T.length≤100
theorem PrD.same {H H':Hp} {p tl al rl:Addr} {T:List Tm} {As:List At} {Rs:List (List Int)} (h:PrD K C H p tl al rl T As Rs) (s:ah H H'):PrD K C H' p tl al rl T As Rs:=⟨h.pr.same s,h.dm,h.t3,h.tN⟩
inductive sp_right (K:W.Frag) (C CG:Addr):Sp|m{vs H Q E9} (p tl al rl q l g ld gd:Addr) (T:List Tm) (As:List At) (Rs:List (List Int)) (ps:List Int) (lk:Lk) (N b:Nat) (hd:Int→Int) (av:List Addr):vs=[.ref p,.ref q,.ref l,.ref g]→PrD K C H p tl al rl T As Rs→SqI K H q ps→SqT K H l [.int lk.1,.int lk.2.1,.int lk.2.2]→GO H CG g ld gd N b hd av→(∀ H',ah H H'→Q (.bl (zbq hd ps T As lk)) H')→sp_right K C CG vs H Q E9
theorem zjw:aO ["problem","parts","link","groups"] ["problem","parts","link","groups"] (au zfJ):=fsc
theorem ok_right (F:Fun K "is_right" "is_right" zfJ f fd) (T:Txt K mg aK C CN CT CP CM) (G:TxG K mg CG) (mT:mg "is_told"=some (.ref fT)) (BT:aQ P w K mg base CX0 2 fT dT' ["problem","parts","link"] (zhE K C)) (bT:aF K dT' ["problem","parts","link"] []) (kT:W.keepIn K (.ref fT)=true)
  (mA:mg "is_alike"=some (.ref fA)) (BA:aQ P w K mg base CX0 3 fA dA' ["terms","link","groups"] (zg0 K CG)) (bA:aF K dA' ["terms","link","groups"] []) (kA:W.keepIn K (.ref fA)=true):aQ P w K mg base CX0 4 f fd ["problem","parts","link","groups"] (sp_right K C CG):=by
 refine F.ok zjw (λvs H Q E h=>?_) (λcdv A outer s H vs Q E hr h=>?_)
 ·obtain⟨p,tl,al,rl,q,l,g,ld,gd,T',As,Rs,ps,lk,N,b,hd,av,rfl,_⟩:=h
  rfl
 obtain⟨p,tl,al,rl,q,l,g,ld,gd,T',As,Rs,ps,lk,N,b,hd,av,rfl,S,hq,hl,O,Q0⟩:=h
 have hr2:ba 2 _:=hr.mono (by decide)
 refine⟨_,(ae (aL (PW.pt (zbc (aw zbR (ap (zie rfl) rfl G.min PyProof.Rows.Boot.min (aa (zat zff (pv 2) zaG (zaF ad)) ac)) ad) (za4 (aw zeR (ap (zif rfl) rfl G.max PyProof.Rows.Boot.max (aa (zat zff (pv 2) zaG (zaF ad)) ac)) (ap aj rfl T.len bL (aa (aR (pv 0) rfl) ac))))))
   (ag (ay zav))
   aA)
  (ae (aL (aw zag (aq az (pv 2) ad) ad)
   (ag (ay (aB BA hr rfl mA kA bA .nil aI (aa (aR (pv 0) rfl) (aa (pv 2) (aa (pv 3) ac))))))
   aA)
  (ag (ay (aB BT hr2 rfl mT kT bT .nil aI (aa (pv 0) (aa (pv 1) (aa (pv 2) ac)))))))),?_⟩
 try dsimp only [Cx.nox,Cx.wish,aX]
 refine⟨_,rfl,_,rfl,l,_,rfl,hl,(by show ¬(0=0∧(2:Nat)=3);rintro ⟨_,z⟩;exact absurd z (by decide)),λd hd'=>?_⟩
 have s1:=ai hd' (.tup (aU [.int lk.1,.int lk.2.1,.int lk.2.2] none (some 2)))
 have n1:upd H d (.tup (aU [.int lk.1,.int lk.2.1,.int lk.2.2] none (some 2))) d=some (.tup [.int lk.1,.int lk.2.1]):=af
 generalize upd H d (.tup (aU [.int lk.1,.int lk.2.1,.int lk.2.2] none (some 2)))=H1 at s1 n1 ⊢
 refine⟨d,[lk.1,lk.2.1],rfl,.inr (SqT.of n1),(by simp),λm hm hm'=>⟨_,_,rfl,rfl,_,rfl,?_⟩⟩
 have no:∀ H',ah H H'→¬(InR T'.length lk.1∧InR T'.length lk.2.1)→Q (.bl false) H':=λH' s' c=>by
  have:=Q0 H' s'
  rw[zln c]at this
  exact this
 have ma:=hm' lk.1 (by simp)
 have mb:=hm' lk.2.1 (by simp)
 have mc:m=lk.1∨m=lk.2.1:=by simpa using hm
 refine aJ (λc=>aS (no H1 s1 λz=>?_)) (λc=>?_)
 ·have:=oDq c
  have:=z.1.1
  have:=z.2.1
  lia
 have m0:¬m < 0:=λz=>c (dTq z)
 refine⟨_,rfl,_,rfl,l,_,rfl,s1.tup hl,(by show ¬(0=0∧(2:Nat)=3);rintro ⟨_,z⟩;exact absurd z (by decide)),λe he=>?_⟩
 have s2:=s1.trans (ai he (.tup (aU [.int lk.1,.int lk.2.1,.int lk.2.2] none (some 2))))
 have n2:upd H1 e (.tup (aU [.int lk.1,.int lk.2.1,.int lk.2.2] none (some 2))) e=some (.tup [.int lk.1,.int lk.2.1]):=af
 generalize upd H1 e (.tup (aU [.int lk.1,.int lk.2.1,.int lk.2.2] none (some 2)))=H2 at s2 n2 ⊢
 have S2:=S.same s2
 obtain⟨⟨dx,ho⟩,⟨xs,ht,hT⟩,_⟩:=id S2.pr
 have xl:xs.length=T'.length:=by rw[←hT.length,lM]
 refine⟨e,[lk.1,lk.2.1],rfl,.inr (SqT.of n2),(by simp),λm2 hm2 hm2'=>⟨_,rfl,p,C,dx,_,_,rfl,ho,T.cl,T.nT,zaK _ _ _,tl,xs,rfl,.inl (SqL.of ht),_,_,rfl,rfl,_,rfl,?_⟩⟩
 have na:=hm2' lk.1 (by simp)
 have nb:=hm2' lk.2.1 (by simp)
 have nc:m2=lk.1∨m2=lk.2.1:=by simpa using hm2
 refine aJ (λc=>no H2 s2 λz=>?_) (λc=>?_)
 ·have:=oDq c
  have:=z.1.2
  have:=z.2.2
  lia
 have m1:¬((xs.length:Nat):Int)≤m2:=λz=>c (dTq z)
 have i1:InR T'.length lk.1:=⟨by lia,by lia⟩
 have i2:InR T'.length lk.2.1:=⟨by lia,by lia⟩
 have Q0:∀ H',ah H H'→Q (.bl (zer hd ps T' As lk)) H':=λH' s'=>by
  have:=Q0 H' s'
  rw[zd0 i1 i2]at this
  exact this
 have hl2:=s2.tup hl
 unfold zer at Q0
 refine⟨_,rfl,l,_,_,_,rfl,rfl,hl2,l2 lk,rfl,_,rfl,aJ (λc=>?_) (λc=>?_)⟩
 ·have c':lk.2.2=0:=by
   have:=oDq c
   injection this
  rw[if_pos c']at Q0
  exact⟨_,rfl,p,C,dx,_,_,rfl,ho,T.cl,T.nT,zaK _ _ _,_,rfl,_,rfl,tl,l,g,ld,gd,xs,T',lk,N,b,hd,av,rfl,SqL.of ht,hT,S.t3,hl2,i1,i2,O.same s2,λH3 s3=>Q0 H3 (s2.trans s3)⟩
 ·have c':¬lk.2.2=0:=λz=>c (by rw[z];rfl)
  rw[if_neg c']at Q0
  exact⟨_,rfl,_,rfl,_,rfl,p,tl,al,rl,q,l,T',As,Rs,ps,lk,rfl,S2.pr,hq.same s2,hl2,λH3 s3=>Q0 H3 (s2.trans s3)⟩
inductive zhF (K:W.Frag) (C CG:Addr):Sp|m{vs H Q E9} (p tl al rl g ld gd:Addr) (T:List Tm) (As:List At) (Rs:List (List Int)) (k:Int) (N b:Nat) (hd:Int→Int) (av:List Addr):vs=[.ref p,.int k,.ref g]→zaY K C H p tl al rl T As Rs→GO H CG g ld gd N b hd av→(∀ H',ah H H'→Q (.bl (zb1 hd As k)) H')→zhF K C CG vs H Q E9
theorem zfo:aO ["problem","part","groups","pair"] ["problem","part","groups"] (au zd5):=fsc
theorem zm4 (F:Fun K "says_joined" "says_joined" zd5 f fd) (G:TxG K mg CG) (mS:mg "sameness"=some (.ref fS)) (BS:aQ P w K mg base CX0 1 fS dS ["problem","number"] (zdP K C)) (bS:aF K dS ["problem","number"] []) (kS:W.keepIn K (.ref fS)=true)
  (M:zdb K CG "together" fG) (Bg:aQ P w K mg base CX0 2 fG dG ["self","one","other"] (Gp.sp_together CG)) (bg:aF K dG ["self","one","other"] []):aQ P w K mg base CX0 3 f fd ["problem","part","groups"] (zhF K C CG):=by
 refine F.ok zfo (λvs H Q E h=>?_) (λcdv A outer s H vs Q E hr h=>?_)
 ·obtain⟨p,tl,al,rl,g,ld,gd,T',As,Rs,k,N,b,hd,av,rfl,_⟩:=h
  rfl
 obtain⟨p,tl,al,rl,g,ld,gd,T',As,Rs,k,N,b,hd,av,rfl,S,O,Q0⟩:=h
 have hr1:ba 1 _:=hr.mono (by decide)
 refine⟨_,(ae (aE (i:=3) zfo.nd rfl (Or.inl rfl) (aB BS hr1 rfl mS kS bS .nil aI (aa (pv 0) (aa (pv 1) ac))))
  (ag (ay (zba (zaz zhL (pv 3) zbG) (zbs (zaO (pv 2) G.cl M Bg hr bg .nil aI (aa (aq az (pv 3) ad) (aa (aq az (pv 3) ad) ac)))))))),?_⟩
 try dsimp only [Cx.nox,Cx.wish,aX]
 unfold zb1 at Q0
 refine⟨_,rfl,_,rfl,p,tl,al,rl,T',As,Rs,k,rfl,S,λe H1 s1=>?_,λx y e H1 a s1 ha=>?_⟩
 ·refine⟨_,rfl,rfl,_,rfl,aV ?_⟩
  have:=Q0 H1 s1
  rw[e]at this
  exact this
 ·have O1:=O.same s1
  obtain⟨dx1,kl1,kg1,g1,_⟩:=id O1.ex
  refine⟨_,rfl,rfl,_,rfl,aS ⟨_,rfl,g,dx1,_,rfl,g1,rfl,_,rfl,a,_,_,_,rfl,rfl,ha,aH (j:=0) rfl,_,rfl,a,_,_,_,rfl,rfl,ha,aH (j:=1) rfl,g,ld,gd,x,y,N,b,hd,av,rfl,O1,?_⟩⟩
  have:=Q0 H1 s1
  rw[e]at this
  exact this
inductive zgZ (K:W.Frag) (C:Addr):Sp|m{vs H Q E9} (p tl al rl q l:Addr) (T:List Tm) (As:List At) (Rs:List (List Int)) (ps:List Int) (xs:List V) (ls:List Lk):vs=[.ref p,.ref q,.ref l]→PrD K C H p tl al rl T As Rs→SqT K H q (ps.map V.int)→ps.length≤1000→SqT K H l xs→ao K H (ls.map dL) xs→ls.length≤1000→(∀ H',ah H H'→Q (.bl (eqF mrg ps T As ls id)) H')→zgZ K C vs H Q E9
theorem ze6:aO ["problem","parts","links","groups","link"] ["problem","parts","links"] (au zee):=fsc
theorem zib {st:(Int→Int)→Int→Int→Int→Int} {ps:List Int} {T:List Tm} {As:List At} {l:Lk} {ls:List Lk} {f:Int→Int} (h:¬zbq f ps T As l=true):eqF st ps T As (l :: ls) f=false:=by
 simp only[eqF]
 rw[if_neg h]
theorem zjf {st:(Int→Int)→Int→Int→Int→Int} {ps:List Int} {T:List Tm} {As:List At} {l:Lk} {ls:List Lk} {f:Int→Int} (h:zbq f ps T As l=true):eqF st ps T As (l :: ls) f=eqF st ps T As ls (st f l.1 l.2.1):=by
 simp only[eqF]
 rw[if_pos h]
theorem zj4 {α:Type} {xs:List α} {i:Nat} {x:α} (h:xs[i]?=some x):xs.drop i=x :: xs.drop (i+1):=by
 obtain⟨hi,rfl⟩:=gEq h
 exact List.drop_eq_getElem_cons hi
theorem zmk (F:Fun K "is_equal" "is_equal" zee f fd) (T:Txt K mg aK C CN CT CP CM) (G:TxG K mg CG) (many:mg "any"=none) (MK:Mk K CG fI) (mC:mg "Groups"=some (.ref CG)) (Bi:aQ P w K mg base CX0 1 fI dI ["self"] (Gp.sp_init CG)) (bi:aF K dI ["self"] [])
  (M:zdb K CG "merge" fM) (Bm:aQ P w K mg base CX0 2 fM dM ["self","one","other"] (Gp.sp_merge CG)) (bm:aF K dM ["self","one","other"] []) (mR:mg "is_right_lines"=some (.ref fR)) (BR:aQ P w K mg base CX0 4 fR dR' ["problem","parts","link","groups"] (sp_right K C CG)) (bR:aF K dR' ["problem","parts","link","groups"] []) (kR:W.keepIn K (.ref fR)=true)
  (mJ:mg "says_joined"=some (.ref fJ)) (BJ:aQ P w K mg base CX0 3 fJ dJ ["problem","part","groups"] (zhF K C CG)) (bJ:aF K dJ ["problem","part","groups"] []) (kJ:W.keepIn K (.ref fJ)=true):aQ P w K mg base CX0 5 f fd ["problem","parts","links"] (zgZ K C):=by
 refine F.ok ze6 (λvs H Q E h=>?_) (λcdv A outer s H vs Q E hr h=>?_)
 ·obtain⟨p,tl,al,rl,q,l,T',As,Rs,ps,xs,ls,rfl,_⟩:=h
  rfl
 obtain⟨p,tl,al,rl,q,l,T',As,Rs,ps,xs,ls,rfl,S,hq,p1000,hl,hL,l1000,Q0⟩:=h
 have xl:xs.length=ls.length:=by rw[←hL.length,lM]
 have hr1:ba 2 _:=hr.mono (by decide)
 have hr2:ba 2 _:=hr.mono (by decide)
 have hr3:ba 3 _:=hr.mono (by decide)
 refine⟨_,(ae (aE (i:=3) ze6.nd rfl (Or.inr rfl) (ziY MK Bi hr1 rfl mC bi .nil aI))
  (ae (zaB PassesOwn.never rfl (zbr (pv 2)) (zaj (i:=4) ze6.nd rfl (Or.inl rfl))
   (ae (aL (zaS (zaI (aB BR hr rfl mR kR bR .nil aI (aa (pv 0) (aa (pv 1) (aa (pv 4) (aa (pv 3) ac)))))))
     (ag (ay zav))
     aA)
    (ag (zap (zaO (pv 3) G.cl M Bm hr2 bm .nil aI (aa (aq az (pv 4) ad) (aa (aq az (pv 4) ad) ac)))))))
  (ag (ay (ap (zhW rfl) rfl many PyProof.Rows.Boot.any (aa (zbQ (N':=["part","problem","groups"]) (ix:=[0,3]) rfl rfl (by decide +kernel) (by decide +kernel) rfl (λok=>zdA (sc:=au zee) ok rfl (by decide +kernel) (by decide +kernel)) (by decide +kernel) rfl rfl (λj i h=>match j,h with | 0,h=>by cases h;exact⟨_,rfl,rfl,.inl rfl,.inl rfl⟩ | 1,h=>by cases h;exact⟨_,rfl,rfl,.inl rfl,.inl rfl⟩ | n+2,h=>by simp at h) (zbr (pv 1)) (λ_ _ _ _=>(aB BJ hr3 rfl mJ kJ bJ .nil aI (aa (pv 1) (aa (pv 0) (aa (pv 2) ac)))))) ac)))))),?_⟩
 try dsimp only [Cx.nox,Cx.wish,aX]
 intro g dx ng ndx nex
 have s0:∀ b o,H b=some o→(upd (upd H dx (.own g)) g (.ins CG dx [])) b=some o:=λb o h=>by
  rw[aD (λe=>by rw[e,ng]at h;cases h),aD (λe=>by rw[e,ndx]at h;cases h)]
  exact h
 have hg0:=af (H:=upd H dx (.own g)) (a:=g) (o:=.ins CG dx [])
 have f0:∀ b,(upd (upd H dx (.own g)) g (.ins CG dx [])) b=none→H b=none:=λb h=>by
  cases e:H b with
  | none=>rfl
  | some o=>rw[s0 b o e]at h;cases h
 generalize upd (upd H dx (.own g)) g (.ins CG dx [])=H0 at s0 hg0 f0
 refine⟨g,dx,rfl,hg0,λH1 ld gd k1 nl ngd ne hg1 hl1 hgd1=>⟨rfl,?_⟩⟩
 have s1:ah H H1:=λb o h=>k1 b o (λe=>by rw[e,ng]at h;cases h) (s0 b o h)
 have G1:GO H1 CG g ld gd T'.length 0 id []:=⟨Hd.zero T'.length,ne,dx,[],[],hg1,hl1,hgd1,λt=>rfl,λx _=>⟨[x],by simp,λt=>by simp,.inl ⟨rfl,rfl⟩⟩,Nat.zero_le _,Nat.zero_le _⟩
 have nld:H ld=none:=f0 ld nl
 have ngd':H gd=none:=f0 gd ngd
 refine⟨_,rfl,l,rfl,⟨_,s1.tup hl⟩,zev (zb5 (xs:=xs)) (λi σ H'=>∃(v4:Option V) (hd:Int→Int),σ=[some (.ref p),some (.ref q),some (.ref l),some (.ref g),v4]∧ah H H'∧GO H' CG g ld gd T'.length i hd []∧eqF mrg ps T' As ls id=eqF mrg ps T' As (ls.drop i) hd) (λi σ H' ⟨_,_,_,s2,_⟩=>s2.tup hl) ⟨none,id,rfl,s1,G1,rfl⟩ ?_ ?_⟩
 ·rintro i σ H9 x H2 hi ⟨v4,hd,rfl,s2,G2,eF⟩ ⟨rfl,hx⟩
  obtain⟨lk,pl,hlk,rfl,hp⟩:=zis hL (hx _ (s2.tup hl))
  have hp2:=s2.tup hp
  rw[zj4 hlk]at eF
  refine⟨_,rfl,_,rfl,_,rfl,_,rfl,p,tl,al,rl,q,pl,g,ld,gd,T',As,Rs,ps,lk,T'.length,i,hd,[],rfl,S.same s2,.inr (s2.tup hq),hp2,G2,λH3 s3=>⟨_,rfl,?_⟩⟩
  refine aJ (λc=>?_) (λc=>?_)
  ·have c':¬zbq hd ps T' As lk=true:=λz=>by rw[z]at c;cases c
   have:=Q0 H3 (s2.trans s3)
   rw[eF,zib c']at this
   exact this
  ·have c':zbq hd ps T' As lk=true:=by
    cases z:zbq hd ps T' As lk with
    | true=>rfl
    | false=>exact absurd (by rw[z];rfl) c
   rw[zjf c']at eF
   have lin:=zhv c'
   have G3:=G2.same s3
   obtain⟨dx3,kl3,kg3,e3,_⟩:=id G3.ex
   have hp3:=s3.tup hp2
   refine⟨_,rfl,g,dx3,_,rfl,e3,rfl,_,rfl,pl,_,_,_,rfl,rfl,hp3,l0 lk,_,rfl,pl,_,_,_,rfl,rfl,hp3,l1 lk,g,ld,gd,lk.1,lk.2.1,T'.length,i,hd,[],rfl,G3,lin.1,lin.2,S.tN,by lia,(λa ha=>nomatch ha),λH4 s4 G4=>?_⟩
   exact⟨_,_,rfl,(s2.trans s3).ofG nld ngd' s4,G4,eF⟩
 ·rintro σ H2 ⟨v4,hd,rfl,s2,G2,eF⟩
  rw[xl,List.drop_length]at eF
  have eF':eqF mrg ps T' As ls id=(ps.map (zb1 hd As)).any id:=eF
  refine⟨_,rfl,q,rfl,⟨_,s2.tup hq⟩,λD hD=>zbU zb5 (λi us H'=>ah H2 H'∧us=((ps.take i).map (zb1 hd As)).map V.bl) (λi us H' ⟨s4,_⟩=>(s2.trans s4).tup hq) ⟨ai hD _,rfl⟩ ?_ ?_⟩
  ·rintro i us H8 z H4 hi hly hDs ⟨s4,rfl⟩ ⟨rfl,hx⟩
   obtain⟨k,hk,rfl⟩:=zaW (hx _ ((s2.trans s4).tup hq))
   refine⟨_,rfl,_,rfl,_,rfl,p,tl,al,rl,g,ld,gd,T',As,Rs,k,_,_,hd,[],rfl,(S.same (s2.trans s4)).pr,G2.same s4,λH5 s5=>zaH (sz _ (by rw[lM];exact p1000)) hi hly (s5 _ _ hDs) ⟨(s4.trans s5).upd hD,?_⟩⟩
   rw[zaD hk,mAq,mAq]
   rfl
  rintro us H4 hDs ⟨s4,rfl⟩
  refine⟨D,_,rfl,SqL.of hDs,?_⟩
  rw[lM,tO (nRq _),←eF']
  exact Q0 H4 (s2.trans s4)
end K35
namespace Ls35
open PySem L2
abbrev zgM:Stmt:=K35.sOnce
abbrev s_not_failing:Stmt:=K35.s_not_failing
abbrev s_is_learnt:Stmt:=K35.s_is_learnt
structure Txt (K:W.Frag) (mg:Str→Option Value):Prop where
 len:mg "len"=none
 min:mg "min"=none
 max:mg "max"=none
 dict:mg "dict"=none
inductive zeF (K:W.Frag):Sp|m{vs H Q E9} (q:Addr) (ps:List Int):vs=[.ref q]→zko K H q ps→ps.length≤1000→(∀(H':Hp) (l:Addr),ah H H'→H l=none→H' l=some (.tup ((aZ [] ps).map V.int))→Q (.ref l) H')→zeF K vs H Q E9
theorem zeG:aO ["parts","kept","part"] ["parts"] (au zgM):=fsc
theorem ok_once_each {P:Program} {w:World} {K:W.Frag} {mg:Str→Option Value} {base:Heap} {f:Addr} {fd:FuncData} (F:Fun K "once_each" "once_each" zgM f fd) (tuple:mg "tuple"=none):aQ P w K mg base CX0 1 f fd ["parts"] (zeF K):=by
 refine F.ok zeG (λvs H Q E h=>?_) (λcdv A outer s H vs Q E hr h=>?_)
 ·obtain⟨q,ps,rfl,_⟩:=h
  rfl
 obtain⟨q,ps,rfl,hq,len,h⟩:=h
 refine⟨_,(ae (aE (i:=1) zeG.nd rfl (Or.inl rfl) (zaq ac))
  (ae (zaB PassesOwn.never rfl (zhn (pv 0)) (zaj (i:=2) zeG.nd rfl (Or.inl rfl))
   (ag (aL (aw zbP (pv 2) (pv 1) rfl)
     (ag (zap (zcj PySem.F.plainAttrs_list PySem.F.slot_list_append PySem.F.type_list_append za5 (pv 1) (aa (pv 2) ac))))
     aA)))
  (ag (ay (zai zaC rfl tuple PyProof.Rows.Boot.tuple (aa (pv 1) ac)))))),?_⟩
 try dsimp only [Cx.nox,Cx.wish,aX]
 refine⟨Nat.zero_le _,λl hl=>?_⟩
 have s0:ah H (upd H l (.lst [])):=ai hl _
 have turn:∀(i:Nat) (x:V) (σ:St) (H':Hp) (N:St→Hp→Prop),(ps.map V.int)[i]?=some x →
   ((∃ v,σ=[some (.ref q),some (.ref l),v])∧ah H H'∧H' l=some (.lst ((aZ [] (ps.take i)).map V.int))) →
   (∀ σ' H2,((∃ v,σ'=[some (.ref q),some (.ref l),v])∧ah H H2∧H2 l=some (.lst ((aZ [] (ps.take (i+1))).map V.int)))→N σ' H2) →
   ∃ k:Int,ps[i]?=some k∧x=.int k∧(aZ [] (ps.take (i+1)))=(if k∈aZ [] (ps.take i) then aZ [] (ps.take i) else aZ [] (ps.take i)++[k])∧((aZ [] (ps.take i)).map V.int).length < sizeLine:=λi x σ H' N hx hI hN=>by
  obtain⟨k,hk,rfl⟩:=zaW hx
  refine⟨k,hk,rfl,ze1 hk,?_⟩
  have h1:=zdn (ps.take i) []
  have h2:(ps.take i).length≤ps.length:=by rw[List.length_take];lia
  rw[lM]
  exact zaJ (by simp only[List.length_nil]at h1;lia)
 have done:∀(H':Hp) (v:Option V),ah H H'→H' l=some (.lst ((aZ [] (ps.take ps.length)).map V.int))→∀ t:Addr,H' t=none→Q (.ref t) (upd H' t (.tup ((aZ [] ps).map V.int))):=λH' v s1 hl' t ht=>h _ t (s1.trans (ai ht _)) (s1.free ht) af
 have lenm:(ps.map V.int).length=ps.length:=lM _
 refine⟨_,rfl,q,rfl,?_⟩
 rcases hq with hq | hq
 ·refine .inl ⟨⟨_,s0.seq hq⟩,zfE (xs:=ps.map V.int) (λi σ H'=>(∃ v,σ=[some (.ref q),some (.ref l),v])∧ah H H'∧H' l=some (.lst ((aZ [] (ps.take i)).map V.int))) ⟨⟨none,rfl⟩,s0,af⟩ (λi σ H' _ ⟨_,s1,_⟩=>s1.seq hq) ?_ ?_⟩
  ·rintro i x σ H' hx ⟨⟨v,rfl⟩,s1,hl'⟩
   obtain⟨k,hk,rfl,et,lt⟩:=turn i x _ H' (λ_ _=>True) hx ⟨⟨v,rfl⟩,s1,hl'⟩ (λ_ _ _=>trivial)
   refine⟨_,rfl,_,rfl,l,_,rfl,.inl (SqL.of hl'),rfl,zdt _,_,rfl,?_⟩
   rw[zco]
   by_cases e:k∈aZ [] (ps.take i)
   ·rw[dTq e]
    refine aV ⟨⟨_,rfl⟩,s1,?_⟩
    rw[et,if_pos e]
    exact hl'
   ·rw[dFq e]
    refine aS ⟨_,rfl,.inl ⟨rfl,_,SqL.of hl'⟩,_,rfl,l,_,_,rfl,rfl,hl',lt,⟨_,rfl⟩,s1.upd hl,?_⟩
    rw[et,if_neg e,mAq]
    exact af
  ·rintro σ H' ⟨⟨v,rfl⟩,s1,hl'⟩
   rw[lenm]at hl'
   refine⟨_,rfl,l,_,rfl,.inl ⟨SqL.of hl',λt ht=>?_⟩⟩
   have:=done H' v s1 hl' t ht
   rw[tO (nRq _)]
   exact this
 ·refine .inr ⟨⟨_,s0.tup hq⟩,zc1 (xs:=ps.map V.int) (λi σ H'=>(∃ v,σ=[some (.ref q),some (.ref l),v])∧ah H H'∧H' l=some (.lst ((aZ [] (ps.take i)).map V.int))) ⟨⟨none,rfl⟩,s0,af⟩ (λi σ H' _ ⟨_,s1,_⟩=>s1.tup hq) ?_ ?_⟩
  ·rintro i x σ H' hx ⟨⟨v,rfl⟩,s1,hl'⟩
   obtain⟨k,hk,rfl,et,lt⟩:=turn i x _ H' (λ_ _=>True) hx ⟨⟨v,rfl⟩,s1,hl'⟩ (λ_ _ _=>trivial)
   refine⟨_,rfl,_,rfl,l,_,rfl,.inl (SqL.of hl'),rfl,zdt _,_,rfl,?_⟩
   rw[zco]
   by_cases e:k∈aZ [] (ps.take i)
   ·rw[dTq e]
    refine aV ⟨⟨_,rfl⟩,s1,?_⟩
    rw[et,if_pos e]
    exact hl'
   ·rw[dFq e]
    refine aS ⟨_,rfl,.inl ⟨rfl,_,SqL.of hl'⟩,_,rfl,l,_,_,rfl,rfl,hl',lt,⟨_,rfl⟩,s1.upd hl,?_⟩
    rw[et,if_neg e,mAq]
    exact af
  ·rintro σ H' ⟨⟨v,rfl⟩,s1,hl'⟩
   rw[lenm]at hl'
   refine⟨_,rfl,l,_,rfl,.inl ⟨SqL.of hl',λt ht=>?_⟩⟩
   have:=done H' v s1 hl' t ht
   rw[tO (nRq _)]
   exact this
inductive zdL (K:W.Frag):Sp|m{vs H Q E9} (q d:Addr) (row held:List Int):vs=[.ref q,.ref d]→SqT K H q (row.map V.int)→zcw H d held→row.length≤1000→(∀(H':Hp) (l:Addr),ah H H'→H l=none→H' l=some (.tup ((nf row held).map V.int))→Q (.ref l) H')→zdL K vs H Q E9
theorem zhQ:aO ["row","held"] ["row","held"] (au s_not_failing):=fsc
theorem zgR {row:List Int} {i:Nat} {k:Int} (p:Int→Bool) (h:row[i]?=some k):(row.take (i+1)).filter p=if p k=true then(row.take i).filter p++[k] else(row.take i).filter p:=by
 rw[zaD h,List.filter_append]
 by_cases e:p k=true
 ·rw[if_pos e,List.filter_cons,if_pos e]
  rfl
 ·rw[if_neg e,List.filter_cons,if_neg e,List.filter_nil,List.append_nil]
theorem ok_not_failing {P:Program} {w:World} {K:W.Frag} {mg:Str→Option Value} {base:Heap} {f fO:Addr} {fd dO:FuncData} (F:Fun K "not_failing" "not_failing" s_not_failing f fd) (BO:FB P w K mg base CX0 1 "once_each" fO dO ["parts"] (zeF K)):aQ P w K mg base CX0 2 f fd ["row","held"] (zdL K):=by
 refine F.ok zhQ (λvs H Q E h=>?_) (λcdv A outer s H vs Q E hr h=>?_)
 ·obtain⟨q,d,row,held,rfl,_⟩:=h
  rfl
 obtain⟨q,d,row,held,rfl,hq,hd,len,h⟩:=h
 have hu:=zgt hr
 obtain⟨kvs,hk,hv,_⟩:=id hd.ex
 refine⟨_,(ag (ay (aB BO.ok hr rfl BO.m BO.kp BO.b .nil aI (aa (ziI (N':=["part","held"]) (ix:=[1]) rfl rfl (by decide +kernel) (by decide +kernel) rfl (λok=>zdA (sc:=au s_not_failing) ok rfl (by decide +kernel) (by decide +kernel)) (by decide +kernel) rfl rfl (λj i h=>match j,h with | 0,h=>by cases h;exact⟨_,rfl,rfl,.inl rfl,.inl rfl⟩ | n+1,h=>by simp at h) (zbr (pv 0)) (λ_ _ _ _=>(ziH (zlp hu (zbk zaQ (pv 0)) (pv 1)))) (λ_ _ _ _=>(pv 0))) ac)))),?_⟩
 try dsimp only [Cx.nox,Cx.wish,aX]
 refine⟨_,rfl,q,rfl,⟨_,hq⟩,λD hD=>ziN zb5 (λi ys H'=>ah H H'∧ys=((row.take i).filter λp=>decide (-p∉held)).map V.int) (λi ys H' ⟨s1,_⟩=>s1.tup hq) ⟨ai hD _,rfl⟩ ?_ ?_⟩
 ·rintro i ys H' x H'' hi hly hDs ⟨s1,rfl⟩ ⟨rfl,hx⟩
  obtain⟨k,hk',rfl⟩:=zaW (hx _ (s1.tup hq))
  have et:=zgR (λp=>decide (-p∉held)) hk'
  have hk2:=s1 _ _ hk
  have hi':i < row.length:=by simpa using hi
  refine⟨_,rfl,_,rfl,_,rfl,d,_,rfl,zdc.k (k:=Sum.inl (-k)) hk2,_,rfl,?_⟩
  rw[hv]
  by_cases e:-k∈held
  ·rw[dTq e]
   refine aV (zhN hi hly hDs ⟨s1,?_⟩)
   rw[et,if_neg (by simp [e])]
  ·rw[dFq e]
   refine aS ⟨_,rfl,zaH (by rw[lM];exact bsz _ len) hi hly hDs ⟨s1.upd hD,?_⟩⟩
   rw[et,if_pos (dTq e),mAq]
   rfl
 ·rintro ys H' hDs ⟨s1,rfl⟩
  rw[lM,tO (nRq _)]at hDs
  refine⟨D,row.filter λp=>decide (-p∉held),rfl,.inl (SqL.of hDs),Nat.le_trans (List.length_filter_le _ _) len,λH2 l s2 hl hl2=>h H2 l (s1.trans s2) (s1.free hl) hl2⟩
inductive sp_is_learnt (K:W.Frag):Sp|m{vs H Q E9} (rl pt ht:Addr) (xs:List V) (Rs:List (List Int)) (ps hs:List Int):vs=[.ref rl,.ref pt,.ref ht]→SqL K H rl xs→ao K H (Rs.map zfT) xs→SqT K H pt (ps.map V.int)→SqT K H ht (hs.map V.int)→(∀ r∈Rs,r.length≤300)→ps.length≤300→hs.length≤300→(∀ H',ah H H'→Q (.bl (zcP Rs ps hs)) H')→sp_is_learnt K vs H Q E9
theorem zdB:aO ["rows","parts","hints","held","hint","left"] ["rows","parts","hints"] (au s_is_learnt):=fsc
theorem zld {n:Int} {hs:List Int} (hm:n∈hs) (hmin:∀ h∈hs,n≤h):hs.any (λh=>decide (h < 0))=decide (n < 0):=by
 by_cases e:n < 0
 ·rw[dTq e]
  exact List.any_eq_true.mpr ⟨n,hm,dTq e⟩
 ·rw[dFq e,List.any_eq_false]
  intro h hh
  have:=hmin h hh
  simp
  lia
theorem zle {n:Int} {m:Nat} {hs:List Int} (hm:n∈hs) (hmax:∀ h∈hs,h≤n):hs.any (λh=>decide ((m:Int)≤h))=decide ((m:Int)≤n):=by
 by_cases e:(m:Int)≤n
 ·rw[dTq e]
  exact List.any_eq_true.mpr ⟨n,hm,dTq e⟩
 ·rw[dFq e,List.any_eq_false]
  intro h hh
  have:=hmax h hh
  simp
  lia
theorem neg_snoc {ps:List Int} {i:Nat} {k:Int} (h:ps[i]?=some k):(ps.take (i+1)).map (λp=>-p)=(ps.take i).map (λp=>-p)++[-k]:=by
 rw[zaD h,mAq]
 rfl
theorem zei {Rs:List (List Int)} {h:Int} (h0:0≤h) (h1:h < (Rs.length:Int)):Rs[h.toNat]?=some (zas Rs h):=by
 unfold zas
 rw[List.getD_eq_getElem?_getD,gG (by lia)]
 rfl
theorem zeC {K:W.Frag} {H:Hp} {Rs:List (List Int)} {xs:List V} {h:Int} (hL:ao K H (Rs.map zfT) xs) (h0:0≤h) (h1:h < (Rs.length:Int)):∃ q,atI xs h=some (.ref q)∧SqT K H q ((zas Rs h).map V.int):=by
 obtain⟨q,e1,e2⟩:=zl4 hL (zei h0 h1)
 have e:h=((h.toNat:Nat):Int):=by lia
 refine⟨q,?_,e2⟩
 rw[e]
 exact aH e1
theorem zlq {K:W.Frag} {H:Hp} {ys:List V} {ps:List Int} (hy:ys.length=ps.length) (h:∀(i:Nat) (y:V) (p:Int),ys[i]?=some y→ps[i]?=some p→∃ a,y=.ref a∧SqT K H a [.int p,.bl true]) :
  ∀(i:Nat) y kv,ys[i]?=some y→(tkv ps)[i]?=some kv→∃ a,y=.ref a∧SqT K H a [kV kv.1,kv.2]:=λi y kv e1 e2=>by
 unfold tkv at e2
 rw[List.getElem?_map]at e2
 cases q:ps[i]? with
 | none=>rw[q]at e2;cases e2
 | some p =>
  rw[q]at e2
  cases e2
  exact h i y p e1 q
def dPT (p:Int):Dt:=.tup [.int p,.bl true]
theorem zi3:∀ ps:List Int,zbn (ps.map dPT)=true
 | []=>by simp [zbn]
 | t :: ts=>by simp only[List.map_cons,zbn,dPT,nol,Bool.true_and];exact zi3 ts
theorem znl {K:W.Frag} {H:Hp} {p:Int} {v:V} (h:Has K H (dPT p) v):∃ a,v=.ref a∧SqT K H a [.int p,.bl true]:=by
 unfold dPT at h
 simp only[Has,ao]at h
 obtain⟨a,xs,rfl,hs,v1,r,rfl,rfl,v2,r2,rfl,rfl,rfl⟩:=h
 exact⟨a,rfl,hs⟩
theorem of_dPT {K:W.Frag} {H:Hp} {p:Int} {a:Addr} (h:SqT K H a [.int p,.bl true]):Has K H (dPT p) (.ref a):=Has.tup' h (.cons .int (.cons (by simp only[Has]) .nil))
theorem zl7 {K:W.Frag} {H:Hp} {ps:List Int} {ys:List V} (h:ao K H (ps.map dPT) ys):ys.length=(tkv ps).length∧∀(i:Nat) y kv,ys[i]?=some y→(tkv ps)[i]?=some kv→∃ a,y=.ref a∧SqT K H a [kV kv.1,kv.2]:=by
 have hl:ys.length=ps.length:=by rw[←h.length,lM]
 refine⟨by rw[hl];simp [tkv],zlq hl λi y p e1 e2=>?_⟩
 obtain⟨d,e3,e4⟩:=h.get e1
 rw[List.getElem?_map,e2]at e3
 cases e3
 exact znl e4
theorem zmx (Rs:List (List Int)) (held t:List Int) (h z:Int):goL Rs held (h :: (t++[z]))=(match nf (zas Rs h) held with
  | [x]=>if x∈held then false else goL Rs (held++[x]) (t++[z])
  | _=>false):=by
 cases t with
 | nil=>rfl
 | cons a r=>rfl
theorem znq (ini:List V) (z:V):aU (ini++[z]) none (some (-1))=ini:=by
 unfold aU
 have e:HT.sIx (ini++[z]).length (ini++[z]).length (some (-1))=ini.length:=by
  show(if(-1:Int) < 0 then((-1:Int)+((ini++[z]).length:Int)).toNat else min (-1:Int).toNat (ini++[z]).length)=ini.length
  rw[if_pos (by decide),lAq]
  simp only[lS]
  lia
 rw[e,HT.sIx_none,List.drop_zero,Nat.sub_zero,List.take_left]
theorem zej {n:Nat} {hs:List Int} (h:zcb n hs=false):∀ x∈hs,0≤x∧x < (n:Int):=λx hx=>by
 unfold zcb at h
 rw[Bool.or_eq_false_iff,Bool.or_eq_false_iff]at h
 obtain⟨⟨_,h2⟩,h3⟩:=h
 have a:=List.any_eq_false.mp h2 x hx
 have b:=List.any_eq_false.mp h3 x hx
 simp at a b
 lia
theorem ok_is_learnt {P:Program} {w:World} {K:W.Frag} {mg:Str→Option Value} {base:Heap} {f fN:Addr} {fd dN:FuncData} (F:Fun K "is_learnt" "is_learnt" s_is_learnt f fd) (T:Txt K mg) (BN:FB P w K mg base CX0 2 "not_failing" fN dN ["row","held"] (zdL K)):aQ P w K mg base CX0 3 f fd ["rows","parts","hints"] (sp_is_learnt K):=by
 refine F.ok zdB (λvs H Q E h=>?_) (λcdv A outer s H vs Q E hr h=>?_)
 ·obtain⟨rl,pt,ht,xs,Rs,ps,hs,rfl,_⟩:=h
  rfl
 obtain⟨rl,pt,ht,xs,Rs,ps,hs,rfl,hS,hL,hP,hH,lr,lp,lh,h⟩:=h
 have hu:=zgt hr
 have hlen:xs.length=Rs.length:=by rw[←hL.length,lM]
 refine⟨_,(ae (aL (PW.pt (zbc (aw zag (ap aj rfl T.len bL (aa (pv 2) ac)) ad) (zbc (aw zbR (ap (zie rfl) rfl T.min PyProof.Rows.Boot.min (aa (pv 2) ac)) ad) (za4 (aw zeR (ap (zif rfl) rfl T.max PyProof.Rows.Boot.max (aa (pv 2) ac)) (ap aj rfl T.len bL (aa (pv 0) ac)))))))
   (ag (ay zav))
   aA)
  (ae (aE (i:=3) zdB.nd rfl (Or.inl rfl) (zai (zju rfl) rfl T.dict PyProof.Rows.Boot.dict (aa (zbQ (N':=["part"]) (ix:=[]) rfl rfl (by decide +kernel) (by decide +kernel) rfl (λ_=>⟨[],zbd (by decide +kernel) (by decide +kernel)⟩) (by decide +kernel) rfl rfl (λj i h=>by simp at h) (zbr (pv 1)) (λ_ _ _ _=>(zal (aa (zbk zaQ (pv 0)) (aa zav ac))))) ac)))
  (ae (zaB PassesOwn.never rfl (zbr (zat zff (pv 2) zaG (zaF (zbk zaQ ad)))) (zaj (i:=4) zdB.nd rfl (Or.inl rfl))
   (ae (aE (i:=5) zdB.nd rfl (Or.inl rfl) (aB BN.ok hr rfl BN.m BN.kp BN.b .nil aI (aa (aq zaa (pv 0) (pv 4)) (aa (pv 3) ac))))
    (ae (aL (PW.pt (zbc (aw zcB (ap aj rfl T.len bL (aa (pv 5) ac)) ad) (za4 (ziH (zkT hu (aq az (pv 5) ad) (pv 3))))))
     (ag (ay zav))
     aA)
    (ag (zgw hu (pv 3) (aq az (pv 5) ad) zav rfl)))))
  (ag (ay (zaz zag (ap aj rfl T.len bL (aa (aB BN.ok hr rfl BN.m BN.kp BN.b .nil aI (aa (aq zaa (pv 0) (aq az (pv 2) (zbk zaQ ad))) (aa (pv 3) ac))) ac)) ad)))))),?_⟩
 try dsimp only [Cx.nox,Cx.wish,aX]
 have bad:zcb Rs.length hs=true→Q (.bl false) H:=λe=>by
  have q:=h H (ah.refl H)
  unfold zcP at q
  rw[if_pos e]at q
  exact q
 refine⟨_,rfl,ht,_,rfl,.inr hH,rfl,_,rfl,aJ (λc1=>aS ?_) (λc1=>?_)⟩
 ·refine bad ?_
  have e:=oDq c1
  injection e with e
  rw[lM]at e
  have e2:hs=[]:=List.length_eq_zero_iff.mp (by lia)
  rw[e2]
  rfl
 have hne:hs≠[]:=λz=>c1 (by rw[z];rfl)
 refine⟨_,rfl,ht,hs,rfl,.inr hH,hne,λm hm hmin=>⟨_,_,rfl,rfl,_,rfl,aJ (λc2=>aS ?_) (λc2=>?_)⟩⟩
 ·refine bad ?_
  unfold zcb
  rw[zld hm hmin,c2,Bool.or_true,Bool.true_or]
 refine⟨_,rfl,ht,hs,rfl,.inr hH,hne,λmx hm2 hmax=>⟨_,rfl,rl,xs,rfl,.inl hS,_,_,rfl,rfl,_,rfl,aJ (λc3=>?_) (λc3=>?_)⟩⟩
 ·refine bad ?_
  unfold zcb
  rw[hlen]at c3
  rw[zle hm2 hmax,c3,Bool.or_true]
 have good:zcb Rs.length hs=false:=by
  unfold zcb
  rw[hlen]at c3
  rw[zld hm hmin,zle hm2 hmax,Bool.eq_false_iff.mpr c2,Bool.eq_false_iff.mpr c3]
  cases hs with
  | nil=>exact absurd rfl hne
  | cons _ _=>rfl
 have rng:=zej good
 have hres:∀ H',ah H H'→Q (.bl (goL Rs (ps.map λp=>-p) hs)) H':=λH' s1=>by
  have q:=h H' s1
  unfold zcP at q
  rw[if_neg (by rw[good];decide)]at q
  exact q
 obtain⟨ini,z,rfl⟩:∃ ini z,hs=ini++[z]:=⟨hs.dropLast,hs.getLast hne,(List.dropLast_concat_getLast hne).symm⟩
 refine⟨_,rfl,pt,rfl,⟨_,hP⟩,λD hD=>zbU zb5 (λi ys H'=>ah H H'∧ao K H' (((ps.take i).map λp=>-p).map dPT) ys) (λi ys H' ⟨s1,_⟩=>s1.tup hP) ⟨ai hD _,.nil⟩ ?_ ?_⟩
 ·rintro i ys H' x H'' hi hly hDs ⟨s1,hy⟩ ⟨rfl,hx⟩
  obtain⟨k,hk',rfl⟩:=zaW (hx _ (s1.tup hP))
  refine⟨_,rfl,_,rfl,lS2,λa ha=>?_⟩
  have s2:ah H'' (upd H'' a (.tup [.int (-k),.bl true])):=ai ha _
  have hD2:=s2 _ _ hDs
  refine zaH (by rw[lM];exact bsz _ (by lia)) hi hly hD2 ⟨(s1.trans s2).upd hD,?_⟩
  rw[neg_snoc hk',mAq]
  exact ao.append (ao.keep (s2.kt.trans (zam.lst hD2)) (zi3 _) hy) (ao.one (of_dPT ((zam.lst hD2).sq (SqT.of af))))
 rintro ys H1 hDs ⟨s1,hy⟩
 rw[lM,tO (nRq _)]at hy
 obtain⟨pl,pp⟩:=zl7 hy
 refine⟨D,ys,tkv (ps.map λp=>-p),rfl,SqL.of hDs,pl,pp,λd hd=>?_⟩
 have hd0:H d=none:=s1.free hd
 have s2:ah H (upd H1 d (.dK (zbl [] (tkv (ps.map λp=>-p))))):=s1.upd hd0
 have ds2:zcw (upd H1 d (.dK (zbl [] (tkv (ps.map λp=>-p))))) d (ps.map λp=>-p):=zcw.of
 generalize upd H1 d (.dK (zbl [] (tkv (ps.map λp=>-p))))=H2 at s2 ds2
 have whole:¬(HT.sIx ((ini++[z]).map V.int).length 0 none=0∧HT.sIx ((ini++[z]).map V.int).length ((ini++[z]).map V.int).length (some (-1))=((ini++[z]).map V.int).length):=λq=>by
  have q2:=q.2
  have q3:(if(-1:Int) < 0 then((-1:Int)+(((ini++[z]).map V.int).length:Int)).toNat else min (-1:Int).toNat ((ini++[z]).map V.int).length)=((ini++[z]).map V.int).length:=q2
  rw[if_pos (by decide),lM,lAq]at q3
  simp only[lS]at q3
  lia
 have ecut:aU ((ini++[z]).map V.int) none (some (-1))=ini.map V.int:=by
  rw[mAq]
  exact znq (ini.map V.int) (.int z)
 refine⟨_,rfl,_,rfl,_,rfl,ht,_,rfl,s2.tup hH,whole,λq hq=>?_⟩
 rw[ecut]
 have s3:ah H2 (upd H2 q (.tup (ini.map V.int))):=ai hq _
 have ndq:d≠q:=by
  obtain⟨kvs,hk,_⟩:=ds2.ex
  exact zae hk hq
 refine⟨q,rfl,⟨_,SqT.of af⟩,zc1 (xs:=ini.map V.int) (λi σ H'=>∃(held:List Int) (v4 v5:Option V),σ=[some (.ref rl),some (.ref pt),some (.ref ht),some (.ref d),v4,v5]∧ah H H'∧H' q=some (.tup (ini.map V.int))∧zcw H' d held∧held.length≤ps.length+i∧goL Rs held (ini.drop i++[z])=goL Rs (ps.map λp=>-p) (ini++[z]))
  ⟨_,none,none,rfl,s2.trans s3,af,ds2.same s3,by rw[lM];exact nRq _,rfl⟩ (λi σ H' _ ⟨_,_,_,_,_,hq',_⟩=>SqT.of hq') ?_ ?_⟩
 ·rintro i x σ H' hx ⟨held,v4,v5,rfl,s4,hq4,ds4,hl4,e4⟩
  obtain⟨k,hk,rfl⟩:=zaW hx
  have lh':=lh
  rw[lAq]at lh'
  have hi:i < ini.length:=(gEq hk).1
  obtain⟨k0,k1⟩:=rng k (List.mem_append_left _ (mOq hk))
  obtain⟨r,hr1,hr2⟩:=zeC hL k0 k1
  have rl100:(zas Rs k).length≤1000:=Nat.le_trans (lr _ (mOq (zei k0 k1))) (by decide)
  have ed:ini.drop i=k :: ini.drop (i+1):=by
   rw[List.drop_eq_getElem_cons hi]
   congr 1
   rw[gG hi]at hk
   exact Option.some.inj hk
  rw[ed,List.cons_append,zmx]at e4
  refine⟨_,rfl,_,rfl,rl,_,_,_,rfl,rfl,s4.seq hS,hr1,_,rfl,r,d,zas Rs k,held,rfl,s4.tup hr2,ds4,rl100,λH5 l s5 hl hl5=>?_⟩
  have ds5:=ds4.same s5
  obtain⟨kvs,hk5,hv5,hn5⟩:=id ds5.ex
  have s45:=s4.trans s5
  generalize nf (zas Rs k) held=N at hl5 e4
  match N,hl5,e4 with
  | [],hl5,e4 =>
   refine⟨_,rfl,l,_,rfl,.inr (SqT.of hl5),rfl,_,rfl,aS (aS ?_)⟩
   have:=hres H5 s45
   rw[←e4]at this
   exact this
  | a :: b :: t,hl5,e4 =>
   refine⟨_,rfl,l,_,rfl,.inr (SqT.of hl5),rfl,_,rfl,?_⟩
   have ne:¬(V.int (((a :: b :: t).map V.int).length:Nat)=V.int 1):=λq=>by
    injection q with q
    rw[lM]at q
    simp only[List.length_cons]at q
    lia
   rw[dFq ne]
   refine aS (aS ?_)
   have:=hres H5 s45
   rw[←e4]at this
   exact this
  | [a],hl5,e4 =>
   refine⟨_,rfl,l,_,rfl,.inr (SqT.of hl5),rfl,_,rfl,iteNS rfl ?_⟩
   refine⟨_,rfl,l,_,_,_,rfl,rfl,SqT.of hl5,rfl,_,rfl,d,_,rfl,zdc.k (k:=Sum.inl a) hk5,_,rfl,?_⟩
   rw[hv5]
   by_cases ea:a∈held
   ·rw[dTq ea]
    refine aS ?_
    have:=hres H5 s45
    rw[←e4]at this
    simp only[if_pos ea]at this
    exact this
   ·rw[dFq ea]
    refine aV ?_
    simp only[if_neg ea]at e4
    refine⟨_,rfl,_,rfl,l,_,_,_,rfl,rfl,SqT.of hl5,rfl,d,_,rfl,ze5.k (k:=Sum.inl a) hk5 (zaJ (by lia)),?_⟩
    refine⟨held++[a],_,_,rfl,s45.upd hd0,?_,zcw.put hv5 hn5,?_,e4⟩
    ·rw[aD ndq.symm]
     exact s5 _ _ hq4
    ·rw[lAq]
     simp only[lS]
     lia
 ·rintro σ H' ⟨held,v4,v5,rfl,s4,hq4,ds4,hl4,e4⟩
  rw[lM,List.drop_length,List.nil_append]at e4
  obtain⟨k0,k1⟩:=rng z (List.mem_append_right _ List.mem_cons_self)
  obtain⟨r,hr1,hr2⟩:=zeC hL k0 k1
  have rl100:(zas Rs z).length≤1000:=Nat.le_trans (lr _ (mOq (zei k0 k1))) (by decide)
  have hz:atI ((ini++[z]).map V.int) (-1)=some (.int z):=by
   rw[mAq]
   exact zhg _ _
  refine⟨_,rfl,_,rfl,_,rfl,ht,_,_,_,rfl,rfl,s4.tup hH,hz,rl,_,_,_,rfl,rfl,s4.seq hS,hr1,_,rfl,r,d,zas Rs z,held,rfl,s4.tup hr2,ds4,rl100,λH5 l s5 hl hl5=>⟨l,_,rfl,.inr (SqT.of hl5),rfl,?_⟩⟩
  have q:=hres H5 (s4.trans s5)
  rw[←e4]at q
  have eq2:decide (V.int (((nf (zas Rs z) held).map V.int).length:Nat)=V.int 0)=goL Rs held [z]:=by
   show _=(nf (zas Rs z) held).isEmpty
   cases nf (zas Rs z) held with
   | nil=>rfl
   | cons a t =>
    refine dFq λq=>?_
    injection q with q
    rw[lM]at q
    simp only[List.length_cons]at q
    lia
  rw[←eq2]at q
  exact q
end Ls35
namespace K35
open PySem L2
variable {P:Program} {w:World} {K:W.Frag} {mg:Str→Option Value} {base:Heap} {aK C CN CT CP CM CG f fN fA fB fL fE fM fR fC fI fQ fS:Addr} {fd dN dA' dB dL' dE dM dR' dC dI dQ dS:FuncData}
def tyD:Dt→String
 | .non=>"NoneType"
 | .bl _=>"bool"
 | .int _=>"int"
 | .str _=>"str"
 | .tup _=>"tuple"
 | .lst _=>"list"
def isIB:Dt→Bool
 | .int _=>true
 | .bl _=>true
 | _=>false
def isBl:Dt→Bool
 | .bl _=>true
 | _=>false
def isInt:Dt→Bool
 | .int _=>true
 | _=>false
def isSt:Dt→Bool
 | .str _=>true
 | _=>false
def isTp:Dt→Bool
 | .tup _=>true
 | _=>false
def isLs:Dt→Bool
 | .lst _=>true
 | _=>false
structure TxP (K:W.Frag) (mg:Str→Option Value):Prop where
 int:mg "int"=none
 str:mg "str"=none
 list:mg "list"=none
 enum:mg "enumerate"=none
 ki:∀ d,W.kitOne K (.type (tyD d)) (.type "int")=some (isIB d)
 kb:∀ d,W.kitOne K (.type (tyD d)) (.type "bool")=some (isBl d)
 ks:∀ d,W.kitOne K (.type (tyD d)) (.type "str")=some (isSt d)
 kt:∀ d,W.kitOne K (.type (tyD d)) (.type "tuple")=some (isTp d)
 kl:∀ d,W.kitOne K (.type (tyD d)) (.type "list")=some (isLs d)
inductive rIsD (K:W.Frag):List V→Hp→VK→Prop|m{xs H Q} x d n b:xs=[x,.ty n]→Has K H d x→W.kitOne K (.type (tyD d)) (.type n)=some b→Q (.bl b) H→rIsD K xs H Q
theorem zaw {X:Cx}:zbp X (.builtin "isinstance") (rIsD X.K):=by
 intro pins s σ H xs us Q I r h
 obtain⟨x,d,n,b,rfl,hd,hk,q⟩:=h
 cases d with
 | non=>simp only[Has]at hd;subst hd;exact zdR pins s σ H _ us Q I r ⟨_,_,n,b,rfl,zcH.non,hk,q⟩
 | bl c=>simp only[Has]at hd;subst hd;exact zdR pins s σ H _ us Q I r ⟨_,_,n,b,rfl,zcH.bl _,hk,q⟩
 | int c=>simp only[Has]at hd;subst hd;exact zdR pins s σ H _ us Q I r ⟨_,_,n,b,rfl,zcH.int _,hk,q⟩
 | str c=>simp only[Has]at hd;subst hd;exact zdR pins s σ H _ us Q I r ⟨_,_,n,b,rfl,zcH.str _,hk,q⟩
 | tup c =>
  simp only[Has]at hd
  obtain⟨a,ys,rfl,ha,_⟩:=hd
  exact zjs pins s σ H _ us Q I r ⟨a,ys,n,b,rfl,ha,hk,q⟩
 | lst c =>
  simp only[Has]at hd
  obtain⟨a,ys,rfl,ha,_⟩:=hd
  exact zjt pins s σ H _ us Q I r ⟨a,ys,n,b,rfl,ha,hk,q⟩
mutual
def wd:Dt→Nat
 | .tup ds=>ds.length+wds ds
 | .lst ds=>ds.length+wds ds
 | _=>0
def wds:List Dt→Nat
 | []=>0
 | d :: ds=>wd d+wds ds
end
theorem zjH:∀ {ds:List Dt} {d:Dt},d∈ds→wd d≤wds ds
 | e :: ds,d,h=>by
  rw[wds]
  rcases List.mem_cons.mp h with rfl | h
  ·lia
  ·have:=zjH h
   lia
theorem wd_at {ds:List Dt} {d:Dt} {n i:Nat} (h:wd (.tup ds)≤n) (e:ds[i]?=some d):wd d≤n∧ds.length≤n:=by
 rw[wd]at h
 have:=zjH (mOq e)
 lia
theorem zdg {ds:List Dt} {n:Nat} (h:wd (.tup ds)≤n):ds.length≤n:=by
 rw[wd]at h
 lia
def ab (k:Int):Int:=if k < 0 then -k else k
def zcI (m:Nat):List Int→List Dt→Bool
 | _,[]=>true
 | seen,.int k :: r=>if k=0∨(m:Int) < ab k∨ab k∈seen then false else zcI m (seen++[ab k]) r
 | _,_ :: _=>false
def zdU (m:Nat):Dt→Bool
 | .tup ds=>zcI m [] ds
 | _=>false
def numD:Dt→Bool
 | .int k=>decide (0≤k)
 | _=>false
def zck:Dt→Bool
 | .tup ds=>ds.all numD
 | _=>false
def zfR:Dt→Nat
 | .tup ds=>ds.length
 | _=>0
def zet:Dt→Bool
 | .tup ds=>ds.all λd=>zck d&&zfR d == 3
 | _=>false
theorem zgm {α:Type} {xs:List α} {i:Nat} {x:α} (h:xs[i]?=some x):xs.drop i=x :: xs.drop (i+1):=by
 obtain⟨hi,e⟩:=gEq h
 rw[List.drop_eq_getElem_cons hi,e]
theorem zjk {α:Type} (g:α→Bool) (xs:List α):(xs.map g).all id=xs.all g:=by rw[List.all_map];rfl
theorem zbg {H:Hp} {ds:List Dt} {x:V} (h:Has K H (.tup ds) x):∃ a xs,x=.ref a∧SqT K H a xs∧ao K H ds xs:=by
 simp only[Has]at h
 exact h
mutual
theorem hsm {H H':Hp} (s:ah H H'):∀(d:Dt) (x:V),Has K H d x→Has K H' d x
 | .tup ds,x,h=>by
  simp only[Has]at h ⊢
  obtain⟨a,xs,e,h1,h2⟩:=h
  exact⟨a,xs,e,s.tup h1,zc7 s ds xs h2⟩
 | .lst ds,x,h=>by
  simp only[Has]at h ⊢
  obtain⟨a,xs,e,h1,h2⟩:=h
  exact⟨a,xs,e,s.seq h1,zc7 s ds xs h2⟩
 | .non,x,h=>by simpa only [Has] using h
 | .bl _,x,h=>by simpa only [Has] using h
 | .int _,x,h=>by simpa only [Has] using h
 | .str _,x,h=>by simpa only [Has] using h
theorem zc7 {H H':Hp} (s:ah H H'):∀(ds:List Dt) (xs:List V),ao K H ds xs→ao K H' ds xs
 | [],xs,h=>by simpa only [ao] using h
 | d :: ds,xs,h=>by
  simp only[ao]at h ⊢
  obtain⟨v,r,e,h1,h2⟩:=h
  exact⟨v,r,e,hsm s d v h1,zc7 s ds r h2⟩
end
inductive zhm (K:W.Frag):Sp|m{vs H Q E9} (x:V) (d:Dt):vs=[x]→Has K H d x→Q (.bl (isInt d)) H→zhm K vs H Q E9
theorem zjn:aO ["thing"] ["thing"] (au ze8):=fsc
theorem ok_num (F:Fun K "is_number" "is_number" ze8 f fd) (T:Txt K mg aK C CN CT CP CM) (TP:TxP K mg):aQ P w K mg base CX0 1 f fd ["thing"] (zhm K):=by
 refine F.ok zjn (λvs H Q E h=>?_) (λcdv A outer s H vs Q E hr h=>?_)
 ·obtain⟨x,d,rfl,_⟩:=h
  rfl
 obtain⟨x,d,rfl,hd,q⟩:=h
 refine⟨_,(ag (ay (zba (ap zaw rfl T.isi PyProof.Rows.Boot.isinstance (aa (pv 0) (aa (zbt (v:=.ty "int") rfl TP.int PyProof.Rows.Boot.int rfl) ac))) (zbs (zkS (ap zaw rfl T.isi PyProof.Rows.Boot.isinstance (aa (pv 0) (aa (zbt (v:=.ty "bool") rfl T.bool PyProof.Rows.Boot.bool rfl) ac)))))))),?_⟩
 try dsimp only [Cx.nox,Cx.wish,aX]
 refine⟨_,rfl,x,d,"int",_,rfl,hd,TP.ki d,_,rfl,?_⟩
 cases d with
 | int i=>exact aS ⟨_,rfl,_,_,"bool",_,rfl,hd,TP.kb _,_,rfl,q⟩
 | bl b=>exact aS ⟨_,rfl,_,_,"bool",_,rfl,hd,TP.kb _,_,rfl,q⟩
 | _=>exact aV q
inductive zgX (K:W.Frag) (C:Addr):Sp|m{vs H Q E9} (p tl al rl:Addr) (T:List Tm) (As:List At) (Rs:List (List Int)) (x:V) (d:Dt):vs=[.ref p,x]→zaY K C H p tl al rl T As Rs→Has K H d x→wd d≤1000→(∀ H',ah H H'→Q (.bl (zdU As.length d)) H')→zgX K C vs H Q E9
theorem zeH:aO ["problem","parts","atoms","part"] ["problem","parts"] (au ze9):=fsc
theorem zmg (F:Fun K "are_parts" "are_parts" ze9 f fd) (T:Txt K mg aK C CN CT CP CM) (TP:TxP K mg) (BN:FB P w K mg base CX0 1 "is_number" fN dN ["thing"] (zhm K)):aQ P w K mg base CX0 2 f fd ["problem","parts"] (zgX K C):=by
 refine F.ok zeH (λvs H Q E h=>?_) (λcdv A outer s H vs Q E hr h=>?_)
 ·obtain⟨p,tl,al,rl,T',As,Rs,x,d,rfl,_⟩:=h
  rfl
 obtain⟨p,tl,al,rl,T',As,Rs,x,d,rfl,S,hx,w1,Q0⟩:=h
 have hu:=zgt hr
 refine⟨_,(ae (aL (zaS (zaI (ap zaw rfl T.isi PyProof.Rows.Boot.isinstance (aa (pv 1) (aa (zbt (v:=.ty "tuple") rfl T.tuple PyProof.Rows.Boot.tuple rfl) ac)))))
   (ag (ay zav))
   aA)
  (ae (aE (i:=2) zeH.nd rfl (Or.inl rfl) zg8)
  (ae (zaB PassesOwn.never rfl (zbr (pv 1)) (zaj (i:=3) zeH.nd rfl (Or.inl rfl))
   (ae (aL (PW.pt (zbc (zaS (zaI (aB BN.ok hr rfl BN.m BN.kp BN.b .nil aI (aa (pv 3) ac)))) (zbc (aw zag (pv 3) ad) (zbc (aw zcC (ap zdK rfl T.abs PyProof.Rows.Boot.abs (aa (pv 3) ac)) (ap aj rfl T.len bL (aa (aR (pv 0) rfl) ac))) (za4 (ziH (zkT hu (ap zdK rfl T.abs PyProof.Rows.Boot.abs (aa (pv 3) ac)) (pv 2))))))))
     (ag (ay zav))
     aA)
    (ag (zgw hu (pv 2) (ap zdK rfl T.abs PyProof.Rows.Boot.abs (aa (pv 3) ac)) zav rfl))))
  (ag (ay zav))))),?_⟩
 try dsimp only [Cx.nox,Cx.wish,aX]
 obtain⟨⟨dx,ho⟩,_,⟨ys,ha,hA⟩,_⟩:=id S
 have yl:ys.length=As.length:=by rw[←hA.length,lM]
 refine⟨_,rfl,x,d,"tuple",_,rfl,hx,TP.kt d,_,rfl,?_⟩
 cases d with
 | tup ds =>
  obtain⟨q,xs,rfl,hq,hD⟩:=zbg hx
  have xl:=hD.length
  refine aV λdd hd=>?_
  have s1:=ai hd (.dK [])
  have d1:zcw (upd H dd (.dK [])) dd []:=⟨[],af,λn=>rfl,nRq _⟩
  show(λH1:Hp=>_) (upd H dd (.dK []))
  generalize upd H dd (.dK [])=H1 at s1 d1
  refine⟨_,rfl,q,rfl,⟨_,s1.tup hq⟩,zc1 (xs:=xs) (λi σ H'=>∃(v3:Option V) (seen:List Int),σ=[some (.ref p),some (.ref q),some (.ref dd),v3]∧ah H H'∧zcw H' dd seen∧seen.length≤i∧zcI As.length seen (ds.drop i)=zcI As.length [] ds) ⟨none,[],rfl,s1,d1,nRq _,rfl⟩ (λi σ H' _ ⟨_,_,_,s2,_⟩=>s2.tup hq) ?_ ?_⟩
  ·rintro i x σ H2 hx ⟨v3,seen,rfl,s2,d2,sl,e2⟩
   obtain⟨e,he,hex⟩:=hD.get hx
   have ib:=(gEq he).1
   have wl:=zdg w1
   rw[zgm he]at e2
   have no:zcI As.length seen (e :: ds.drop (i+1))=false→Q (.bl false) H2:=λc=>by
    have:=Q0 H2 s2
    rw[zdU,←e2,c]at this
    exact this
   obtain⟨kvs,hk5,hv5,hn5⟩:=id d2.ex
   refine⟨_,rfl,x,e,rfl,hsm s2 _ _ hex,_,rfl,?_⟩
   cases e with
   | int k =>
    simp only[Has]at hex
    subst hex
    have no':(k=0∨(As.length:Int) < ab k∨ab k∈seen)→Q (.bl false) H2:=λc=>no (by rw[zcI,if_pos c])
    refine aV ⟨_,rfl,rfl,_,rfl,aJ (λc=>aS (no' (.inl ?_))) (λc=>?_)⟩
    ·have:=oDq c
     injection this
    refine⟨_,rfl,k,rfl,_,rfl,p,C,dx,_,_,rfl,s2 _ _ ho,T.cl,T.nA,zad _ _ _,al,_,rfl,.inl (SqL.of (s2 _ _ ha)),_,_,rfl,rfl,_,rfl,aJ (λc2=>aS (no' (.inr (.inl ?_)))) (λc2=>?_)⟩
    ·have:=oDq c2
     rw[yl]at this
     exact this
    refine⟨_,rfl,k,rfl,_,rfl,dd,_,rfl,zdc.k (k:=Sum.inl (ab k)) hk5,_,rfl,?_⟩
    rw[hv5]
    refine aJ (λc3=>no' (.inr (.inr (oDq c3)))) (λc3=>?_)
    refine⟨_,rfl,_,rfl,k,rfl,dd,_,rfl,ze5.k (k:=Sum.inl (ab k)) hk5 (zaJ (by lia)),?_⟩
    refine⟨_,seen++[ab k],rfl,s2.upd hd,zcw.put hv5 hn5,by rw[lAq,lS];lia,?_⟩
    rw[←e2]
    show _=if _ then _ else _
    rw[if_neg]
    rintro (z | z | z)
    ·exact c (dTq (by rw[z]))
    ·exact c2 (dTq (by rw[yl];exact z))
    ·exact c3 (dTq z)
   | _=>exact aS (aS (no rfl))
  ·rintro σ H2 ⟨v3,seen,rfl,s2,d2,sl,e2⟩
   rw[←xl,List.drop_length]at e2
   have:=Q0 H2 s2
   rw[zdU,←e2]at this
   exact this
 | _=>exact aS (Q0 H (ah.refl _))
inductive zec (K:W.Frag):Sp|m{vs H Q E9} (x:V) (d:Dt):vs=[x]→Has K H d x→wd d≤1000→(∀ H',ah H H'→Q (.bl (zck d)) H')→zec K vs H Q E9
theorem zhR:aO ["things"] ["things"] (au zd6):=fsc
theorem zkx (F:Fun K "are_numbers" "are_numbers" zd6 f fd) (T:Txt K mg aK C CN CT CP CM) (TP:TxP K mg) (BN:FB P w K mg base CX0 1 "is_number" fN dN ["thing"] (zhm K)):aQ P w K mg base CX0 2 f fd ["things"] (zec K):=by
 refine F.ok zhR (λvs H Q E h=>?_) (λcdv A outer s H vs Q E hr h=>?_)
 ·obtain⟨x,d,rfl,_⟩:=h
  rfl
 obtain⟨x,d,rfl,hx,w1,Q0⟩:=h
 refine⟨_,(ag (ay (zba (ap zaw rfl T.isi PyProof.Rows.Boot.isinstance (aa (pv 0) (aa (zbt (v:=.ty "tuple") rfl T.tuple PyProof.Rows.Boot.tuple rfl) ac))) (zbs (ap (zc6 rfl) rfl T.all PyProof.Rows.Boot.all (aa (zbQ (N':=["thing"]) (ix:=[]) rfl rfl (by decide +kernel) (by decide +kernel) rfl (λ_=>⟨[],zbd (by decide +kernel) (by decide +kernel)⟩) (by decide +kernel) rfl rfl (λj i h=>by simp at h) (zbr (pv 0)) (λ_ _ _ _=>(zba (aB BN.ok hr rfl BN.m BN.kp BN.b .nil aI (aa (pv 0) ac)) (zbs (zaz zeR (pv 0) ad))))) ac)))))),?_⟩
 try dsimp only [Cx.nox,Cx.wish,aX]
 refine⟨_,rfl,x,d,"tuple",_,rfl,hx,TP.kt d,_,rfl,?_⟩
 cases d with
 | tup ds =>
  obtain⟨q,xs,rfl,hq,hD⟩:=zbg hx
  have xl:=hD.length
  have wl:=zdg w1
  refine aS ⟨_,rfl,q,rfl,⟨_,hq⟩,λD hD'=>zbU zb5 (λi us H'=>ah H H'∧us=((ds.take i).map numD).map V.bl) (λi us H' ⟨s4,_⟩=>s4.tup hq) ⟨ai hD' _,rfl⟩ ?_ ?_⟩
  ·rintro i us H8 z H4 hi hly hDs ⟨s4,rfl⟩ ⟨rfl,hx⟩
   obtain⟨e,he,hex⟩:=hD.get (hx _ (s4.tup hq))
   refine⟨_,rfl,z,e,rfl,hsm s4 _ _ hex,_,rfl,?_⟩
   cases e with
   | int k =>
    simp only[Has]at hex
    subst hex
    refine aS ⟨_,rfl,_,_,rfl,rfl,zaH (sz _ (by rw[←xl];exact wl)) hi hly hDs ⟨s4.upd hD',?_⟩⟩
    rw[zaD he,mAq,mAq]
    rfl
   | _ =>
    refine aV (zaH (sz _ (by rw[←xl];exact wl)) hi hly hDs ⟨s4.upd hD',?_⟩)
    rw[zaD he,mAq,mAq]
    rfl
  rintro us H4 hDs ⟨s4,rfl⟩
  rw[←xl,tO (nRq _)]at hDs
  refine⟨D,_,rfl,SqL.of hDs,?_⟩
  rw[zjk]
  exact Q0 H4 s4
 | _=>exact aV (Q0 H (ah.refl _))
inductive zga (K:W.Frag):Sp|m{vs H Q E9} (x:V) (d:Dt):vs=[x]→Has K H d x→wd d≤1000→(∀ H',ah H H'→Q (.bl (zet d)) H')→zga K vs H Q E9
theorem zjo:aO ["things"] ["things"] (au zfa):=fsc
theorem zmh (F:Fun K "are_links" "are_links" zfa f fd) (T:Txt K mg aK C CN CT CP CM) (TP:TxP K mg) (BA:FB P w K mg base CX0 2 "are_numbers" fA dA' ["things"] (zec K)):aQ P w K mg base CX0 3 f fd ["things"] (zga K):=by
 refine F.ok zjo (λvs H Q E h=>?_) (λcdv A outer s H vs Q E hr h=>?_)
 ·obtain⟨x,d,rfl,_⟩:=h
  rfl
 obtain⟨x,d,rfl,hx,w1,Q0⟩:=h
 refine⟨_,(ag (ay (zba (ap zaw rfl T.isi PyProof.Rows.Boot.isinstance (aa (pv 0) (aa (zbt (v:=.ty "tuple") rfl T.tuple PyProof.Rows.Boot.tuple rfl) ac))) (zbs (ap (zc6 rfl) rfl T.all PyProof.Rows.Boot.all (aa (zbQ (N':=["thing"]) (ix:=[]) rfl rfl (by decide +kernel) (by decide +kernel) rfl (λ_=>⟨[],zbd (by decide +kernel) (by decide +kernel)⟩) (by decide +kernel) rfl rfl (λj i h=>by simp at h) (zbr (pv 0)) (λ_ _ _ _=>(zba (aB BA.ok hr rfl BA.m BA.kp BA.b .nil aI (aa (pv 0) ac)) (zbs (zaz zag (ap (r:=zkk K) aj rfl T.len bL (aa (pv 0) ac)) ad))))) ac)))))),?_⟩
 try dsimp only [Cx.nox,Cx.wish,aX]
 refine⟨_,rfl,x,d,"tuple",_,rfl,hx,TP.kt d,_,rfl,?_⟩
 cases d with
 | tup ds =>
  obtain⟨q,xs,rfl,hq,hD⟩:=zbg hx
  have xl:=hD.length
  have wl:=zdg w1
  refine aS ⟨_,rfl,q,rfl,⟨_,hq⟩,λD hD'=>zbU zb5 (λi us H'=>ah H H'∧us=((ds.take i).map λd=>zck d&&zfR d == 3).map V.bl) (λi us H' ⟨s4,_⟩=>s4.tup hq) ⟨ai hD' _,rfl⟩ ?_ ?_⟩
  ·rintro i us H8 z H4 hi hly hDs ⟨s4,rfl⟩ ⟨rfl,hx⟩
   obtain⟨e,he,hex⟩:=hD.get (hx _ (s4.tup hq))
   refine⟨_,rfl,z,e,rfl,hsm s4 _ _ hex,(wd_at w1 he).1,λH5 s5=>?_⟩
   have us1:(((ds.take (i+1)).map λd=>zck d&&zfR d == 3).map V.bl)=(((ds.take i).map λd=>zck d&&zfR d == 3).map V.bl)++[.bl (zck e&&zfR e == 3)]:=by
    rw[zaD he,mAq,mAq]
    rfl
   cases en:zck e with
   | false=>exact⟨_,rfl,aV (zaH (sz _ (by rw[←xl];exact wl)) hi hly (s5 _ _ hDs) ⟨(s4.trans s5).upd hD',by rw[us1,en];rfl⟩)⟩
   | true =>
    cases e with
    | tup es =>
     obtain⟨b,zs,rfl,hb,hB⟩:=zbg hex
     refine⟨_,rfl,aS ⟨_,rfl,b,_,rfl,.inr ((s4.trans s5).tup hb),rfl,zaH (sz _ (by rw[←xl];exact wl)) hi hly (s5 _ _ hDs) ⟨(s4.trans s5).upd hD',?_⟩⟩⟩
     rw[us1,en,Bool.true_and,zfR,hB.length]
     congr 3
     by_cases c:zs.length=3
     ·rw[c];rfl
     ·rw[dFq (λz=>c (by injection z with z;lia))]
      exact(beq_eq_false_iff_ne.mpr c).symm
    | _=>cases en
  rintro us H4 hDs ⟨s4,rfl⟩
  rw[←xl,tO (nRq _)]at hDs
  refine⟨D,_,rfl,SqL.of hDs,?_⟩
  rw[zjk]
  exact Q0 H4 s4
 | _=>exact aV (Q0 H (ah.refl _))
def ze3:Dt→Int
 | .int k=>k
 | _=>0
def za0:Dt→List Int
 | .tup ds=>ds.map ze3
 | _=>[]
def lkD:Dt→Lk
 | .tup [a,b,c]=>(ze3 a,ze3 b,ze3 c)
 | _=>(0,0,0)
def zfr:Dt→List Lk
 | .tup ds=>ds.map lkD
 | _=>[]
def okD (T:List Tm) (As:List At) (Rs:List (List Int)):Dt→Bool
 | .tup [.str z,a,b]=>zdU As.length a&&(if z="learnt" then zck b&&zcP Rs (za0 a) (za0 b) else if z="equal" then zet b&&eqF mrg (za0 a) T As (zfr b) id else false)
 | _=>false
def psD:Dt→List Int
 | .tup [_,a,_]=>za0 a
 | _=>[]
def zeo (T:List Tm) (As:List At):List (List Int)→Nat→List Dt→Option Nat
 | _,_,[]=>none
 | Rs,i,d :: ds=>if okD T As Rs d=true then zeo T As (Rs++[psD d]) (i+1) ds else some i
def zdO (ds:List Dt):Bool:=match ds.getLast? with
 | some d=>(psD d).isEmpty
 | none=>false
def zew (T:List Tm) (As:List At) (Rs:List (List Int)) (ds:List Dt):Option Nat:=match zeo T As Rs 0 ds with
 | some i=>some i
 | none=>if zdO ds=true then none else some ds.length
def vO:Option Nat→V
 | none=>.non
 | some n=>.int (n:Nat)
def zfh (T:List Tm) (As:List At) (Rs:List (List Int)):Dt→V
 | .lst ds=>vO (zew T As Rs ds)
 | _=>.int 0
theorem ziZ {m:Nat}:∀ {ds:List Dt} {seen:List Int},zcI m seen ds=true→ds=(ds.map ze3).map Dt.int
 | [],_,_=>rfl
 | .int k :: ds,seen,h=>by
  rw[zcI]at h
  split at h
  ·cases h
  ·rw[List.map_cons,List.map_cons,←ziZ h]
   rfl
 | .non :: _,_,h=>by cases h
 | .bl _ :: _,_,h=>by cases h
 | .str _ :: _,_,h=>by cases h
 | .tup _ :: _,_,h=>by cases h
 | .lst _ :: _,_,h=>by cases h
theorem ze0 {m:Nat} {d:Dt} (h:zdU m d=true):d=.tup ((za0 d).map Dt.int):=by
 cases d with
 | tup ds=>rw[za0,←ziZ h]
 | _=>cases h
theorem znd {ds:List Dt} (h:ds.all numD=true):ds=(ds.map ze3).map Dt.int:=by
 induction ds with
 | nil=>rfl
 | cons d ds ih =>
  rw[List.all_cons,Bool.and_eq_true]at h
  rw[List.map_cons,List.map_cons,←ih h.2]
  cases d with
  | int k=>rfl
  | _=>cases h.1
theorem zha {d:Dt} (h:zck d=true):d=.tup ((za0 d).map Dt.int):=by
 cases d with
 | tup ds=>rw[za0,←znd h]
 | _=>cases h
theorem len3 {α:Type} {ds:List α} (h:ds.length=3):∃ a b c,ds=[a,b,c]:=by
 rcases ds with _ | ⟨a,_ | ⟨b,_ | ⟨c,_ | ⟨d,ds⟩⟩⟩⟩
 ·cases h
 ·cases h
 ·cases h
 ·exact⟨a,b,c,rfl⟩
 ·simp only[List.length_cons]at h
  lia
theorem zng {d:Dt} (h:(zck d&&zfR d == 3)=true):d=dL (lkD d):=by
 rw[Bool.and_eq_true]at h
 have e:=zha h.1
 cases d with
 | tup ds =>
  obtain⟨a,b,c,rfl⟩:=len3 (eq_of_beq h.2)
  rw[e]
  rfl
 | _=>cases h.1
theorem zmq {ds:List Dt} (h:(ds.all λd=>zck d&&zfR d == 3)=true):ds=(ds.map lkD).map dL:=by
 induction ds with
 | nil=>rfl
 | cons d ds ih =>
  rw[List.all_cons,Bool.and_eq_true]at h
  rw[List.map_cons,List.map_cons,←ih h.2,←zng h.1]
theorem zh8 {d:Dt} (h:zet d=true):d=.tup ((zfr d).map dL):=by
 cases d with
 | tup ds=>rw[zfr,←zmq h]
 | _=>cases h
theorem znb {T:List Tm} {As:List At} {Rs:List (List Int)} {ds:List Dt} (h:ds.length≠3):okD T As Rs (.tup ds)=false:=by
 rcases ds with _ | ⟨a,_ | ⟨b,_ | ⟨c,_ | ⟨d,ds⟩⟩⟩⟩
 ·rfl
 ·cases a <;> rfl
 ·cases a <;> rfl
 ·exact absurd rfl h
 ·cases a <;> rfl
theorem wd_3 {a b c:Dt} {n:Nat} (h:wd (.tup [a,b,c])≤n):wd a≤n∧wd b≤n∧wd c≤n:=by
 simp only[wd,wds]at h
 lia
theorem zaM (rs:List (List Int)):zbn (rs.map dR)=true:=zaP zdV rs
theorem zkV {T:List Tm} {As:List At} {Rs:List (List Int)} {d:Dt} (h:okD T As Rs d=true):∃ z ps b,d=.tup [.str z,.tup (ps.map Dt.int),b]∧psD d=ps:=by
 unfold okD at h
 split at h
 ·rename_i z a b
  rw[Bool.and_eq_true]at h
  exact⟨z,za0 a,b,by rw[←ze0 h.1],rfl⟩
 ·cases h
theorem zj3 {T:List Tm} {As:List At}:∀ {ds:List Dt} {Rs:List (List Int)} {i:Nat},zeo T As Rs i ds=none→∀ d∈ds,∃ Rs',okD T As Rs' d=true
 | d :: ds,Rs,i,h,e,he=>by
  rw[zeo]at h
  split at h
  ·rename_i c
   rcases List.mem_cons.mp he with rfl | he
   ·exact⟨Rs,c⟩
   ·exact zj3 h e he
  ·cases h
theorem zcQ {H:Hp} {ps:List Int} {x:V} (h:Has K H (.tup (ps.map Dt.int)) x):∃ a,x=.ref a∧SqT K H a (ps.map V.int):=by
 obtain⟨a,xs,e,h1,h2⟩:=zbg h
 rw[zch h2]at h1
 exact⟨a,e,h1⟩
inductive zf6 (K:W.Frag) (C:Addr):Sp|m{vs H Q E9} (p tl al rl r:Addr) (T:List Tm) (As:List At) (Rs Rs':List (List Int)) (xs:List V) (x:V) (d:Dt):vs=[.ref p,.ref r,x]→PrD K C H p tl al rl T As Rs→SqL K H r xs→ao K H (Rs'.map dR) xs→(∀ x∈Rs',x.length≤300)→Has K H d x→wd d≤300→(∀ H',ah H H'→Q (.bl (okD T As Rs' d)) H')→zf6 K C vs H Q E9
theorem zjm:aO ["problem","rows","line"] ["problem","rows","line"] (au zdd):=fsc
theorem zlu (F:Fun K "is_right" "is_right" zdd f fd) (T:Txt K mg aK C CN CT CP CM) (TP:TxP K mg) (BP:FB P w K mg base CX0 2 "are_parts" fA dA' ["problem","parts"] (zgX K C)) (BN:FB P w K mg base CX0 2 "are_numbers" fN dN ["things"] (zec K)) (BK:FB P w K mg base CX0 3 "are_links" fB dB ["things"] (zga K)) (BL:FB P w K mg base CX0 3 "is_learnt" fL dL' ["rows","parts","hints"] (Ls35.sp_is_learnt K)) (BE:FB P w K mg base CX0 5 "is_equal" fE dE ["problem","parts","links"] (zgZ K C)):aQ P w K mg base CX0 6 f fd ["problem","rows","line"] (zf6 K C):=by
 refine F.ok zjm (λvs H Q E h=>?_) (λcdv A outer s H vs Q E hr h=>?_)
 ·obtain⟨p,tl,al,rl,r,T',As,Rs,Rs',xs,x,d,rfl,_⟩:=h
  rfl
 obtain⟨p,tl,al,rl,r,T',As,Rs,Rs',xs,x,d,rfl,S,hR,hL,r300,hx,w1,Q0⟩:=h
 have hr2:ba 2 _:=hr.mono (by decide)
 have hr3:ba 3 _:=hr.mono (by decide)
 refine⟨_,(ae (aL (PW.pt (zbc (zaS (zaI (ap zaw rfl T.isi PyProof.Rows.Boot.isinstance (aa (pv 2) (aa (zbt (v:=.ty "tuple") rfl T.tuple PyProof.Rows.Boot.tuple rfl) ac))))) (za4 (aw zcB (ap aj rfl T.len bL (aa (pv 2) ac)) ad))))
   (ag (ay zav))
   aA)
  (ae (aL (PW.pt (zbc (zaS (zaI (ap zaw rfl T.isi PyProof.Rows.Boot.isinstance (aa (aq az (pv 2) ad) (aa (zbt (v:=.ty "str") rfl TP.str PyProof.Rows.Boot.str rfl) ac))))) (za4 (zaS (zaI (aB BP.ok hr2 rfl BP.m BP.kp BP.b .nil aI (aa (pv 0) (aa (aq az (pv 2) ad) ac))))))))
   (ag (ay zav))
   aA)
  (ae (aL (aw zag (aq az (pv 2) ad) zac)
   (ag (ay (zba (aB BN.ok hr2 rfl BN.m BN.kp BN.b .nil aI (aa (aq az (pv 2) ad) ac)) (zbs (aB BL.ok hr3 rfl BL.m BL.kp BL.b .nil aI (aa (pv 1) (aa (aq az (pv 2) ad) (aa (aq az (pv 2) ad) ac))))))))
   aA)
  (ae (aL (aw zag (aq az (pv 2) ad) zac)
   (ag (ay (zba (aB BK.ok hr3 rfl BK.m BK.kp BK.b .nil aI (aa (aq az (pv 2) ad) ac)) (zbs (aB BE.ok hr rfl BE.m BE.kp BE.b .nil aI (aa (pv 0) (aa (aq az (pv 2) ad) (aa (aq az (pv 2) ad) ac))))))))
   aA)
  (ag (ay zav)))))),?_⟩
 try dsimp only [Cx.nox,Cx.wish,aX]
 refine⟨_,rfl,x,d,"tuple",_,rfl,hx,TP.kt d,_,rfl,?_⟩
 cases d with
 | tup ds =>
  obtain⟨q,ys,rfl,hq,hD⟩:=zbg hx
  refine aV ⟨_,rfl,q,_,rfl,.inr hq,rfl,_,rfl,?_⟩
  by_cases c3:ys.length=3
  ·rw[←hD.length]at c3
   obtain⟨d0,d1,d2,rfl⟩:=len3 c3
   simp only[ao]at hD
   obtain⟨v0,_,rfl,h0,v1,_,rfl,h1,v2,_,rfl,h2,rfl⟩:=hD
   obtain⟨w0,w1',w2⟩:=wd_3 w1
   have a0:atI [v0,v1,v2] 0=some v0:=aH (j:=0) rfl
   have a1:atI [v0,v1,v2] 1=some v1:=aH (j:=1) rfl
   have a2:atI [v0,v1,v2] 2=some v2:=aH (j:=2) rfl
   refine aV ⟨_,rfl,q,_,_,_,rfl,rfl,hq,a0,v0,d0,"str",_,rfl,h0,TP.ks d0,_,rfl,?_⟩
   cases d0 with
   | str z =>
    simp only[Has]at h0
    subst h0
    refine aV ⟨_,rfl,_,rfl,q,_,_,_,rfl,rfl,hq,a1,p,tl,al,rl,T',As,Rs,v1,d1,rfl,S.pr,h1,by lia,λH1 s1=>⟨_,rfl,?_⟩⟩
    cases ep:zdU As.length d1 with
    | false =>
     have:=Q0 H1 s1
     rw[okD,ep,Bool.false_and]at this
     exact aS this
    | true =>
     have Q1:∀ H',ah H H'→Q (.bl (if z="learnt" then zck d2&&zcP Rs' (za0 d1) (za0 d2) else if z="equal" then zet d2&&eqF mrg (za0 d1) T' As (zfr d2) id else false)) H':=λH' s'=>by
      have:=Q0 H' s'
      rw[okD,ep,Bool.true_and]at this
      exact this
     have e1:=ze0 ep
     generalize za0 d1=ps at e1 Q1
     subst e1
     obtain⟨pq,rfl,hp⟩:=zcQ h1
     have p300:ps.length≤300:=by
      have:=zdg w1'
      rw[lM]at this
      exact this
     refine aV ⟨_,rfl,q,_,_,_,rfl,rfl,s1.tup hq,a0,rfl,_,rfl,aJ (λc=>?_) (λc=>?_)⟩
     ·have cz:z="learnt":=by
       have:=oDq c
       injection this
      rw[if_pos cz]at Q1
      refine⟨_,rfl,q,_,_,_,rfl,rfl,s1.tup hq,a2,v2,d2,rfl,hsm s1 _ _ h2,by lia,λH2 s2=>⟨_,rfl,?_⟩⟩
      have s12:=s1.trans s2
      cases en:zck d2 with
      | false =>
       have:=Q1 H2 s12
       rw[en,Bool.false_and]at this
       exact aV this
      | true =>
       rw[en,Bool.true_and]at Q1
       have e2:=zha en
       generalize za0 d2=hs at e2 Q1
       subst e2
       obtain⟨hq2,rfl,hh⟩:=zcQ h2
       have h300:hs.length≤300:=by
        have:=zdg w2
        rw[lM]at this
        exact this
       exact aS ⟨_,rfl,_,rfl,q,_,_,_,rfl,rfl,s12.tup hq,a1,_,rfl,q,_,_,_,rfl,rfl,s12.tup hq,a2,r,pq,hq2,xs,Rs',ps,hs,rfl,s12.seq hR,zc7 s12 _ _ hL,s12.tup hp,s12.tup hh,r300,p300,h300,λH3 s3=>Q1 H3 (s12.trans s3)⟩
     ·have cz:¬z="learnt":=λe=>c (by rw[e];rfl)
      rw[if_neg cz]at Q1
      refine⟨_,rfl,q,_,_,_,rfl,rfl,s1.tup hq,a0,rfl,_,rfl,aJ (λc'=>?_) (λc'=>?_)⟩
      ·have cz':z="equal":=by
        have:=oDq c'
        injection this
       rw[if_pos cz']at Q1
       refine⟨_,rfl,q,_,_,_,rfl,rfl,s1.tup hq,a2,v2,d2,rfl,hsm s1 _ _ h2,by lia,λH2 s2=>⟨_,rfl,?_⟩⟩
       have s12:=s1.trans s2
       cases en:zet d2 with
       | false =>
        have:=Q1 H2 s12
        rw[en,Bool.false_and]at this
        exact aV this
       | true =>
        rw[en,Bool.true_and]at Q1
        have e2:=zh8 en
        generalize zfr d2=ls at e2 Q1
        subst e2
        obtain⟨lq,zs,rfl,hz,hZ⟩:=zbg h2
        have l300:ls.length≤300:=by
         have:=zdg w2
         rw[lM]at this
         exact this
        exact aS ⟨_,rfl,_,rfl,q,_,_,_,rfl,rfl,s12.tup hq,a1,_,rfl,q,_,_,_,rfl,rfl,s12.tup hq,a2,p,tl,al,rl,pq,lq,T',As,Rs,ps,zs,ls,rfl,S.same s12,s12.tup hp,by lia,s12.tup hz,zc7 s12 _ _ hZ,by lia,λH3 s3=>Q1 H3 (s12.trans s3)⟩
      ·have cz':¬z="equal":=λe=>c' (by rw[e];rfl)
       rw[if_neg cz']at Q1
       exact Q1 H1 s1
   | _=>exact aS (Q0 H (ah.refl _))
  ·have e0:=znb (T:=T') (As:=As) (Rs:=Rs') (ds:=ds) (by rw[hD.length];exact c3)
   have:=Q0 H (ah.refl _)
   rw[e0]at this
   rw[dFq (λz=>c3 (by injection z with z;lia))]
   exact aS this
 | _=>exact aS (Q0 H (ah.refl _))
inductive zcM (K:W.Frag) (C:Addr):Sp|m{vs H Q E9} (p tl al rl:Addr) (T:List Tm) (As:List At) (Rs:List (List Int)) (x:V) (dp:Dt):vs=[.ref p,x]→PrD K C H p tl al rl T As Rs→Has K H dp x→(∀ x∈Rs,x.length≤300)→Rs.length≤500→(∀ ds,dp=.lst ds→ds.length≤450∧∀ d∈ds,wd d≤300)→(∀ H',ah H H'→Q (zfh T As Rs dp) H')→zcM K C vs H Q E9
theorem zfB:aO ["problem","paper","rows","place","line"] ["problem","paper"] (au zhI):=fsc
theorem zmj (F:Fun K "fault" "fault" zhI f fd) (T:Txt K mg aK C CN CT CP CM) (TP:TxP K mg) (BR:FB P w K mg base CX0 6 "is_right_papers" fE dE ["problem","rows","line"] (zf6 K C)):aQ P w K mg base CX0 7 f fd ["problem","paper"] (zcM K C):=by
 refine F.ok zfB (λvs H Q E h=>?_) (λcdv A outer s H vs Q E hr h=>?_)
 ·obtain⟨p,tl,al,rl,T',As,Rs,x,dp,rfl,_⟩:=h
  rfl
 obtain⟨p,tl,al,rl,T',As,Rs,x,dp,rfl,S,hx,r300,r500,hb,Q0⟩:=h
 refine⟨_,(ae (aL (zaS (zaI (ap zaw rfl T.isi PyProof.Rows.Boot.isinstance (aa (pv 1) (aa (zbt (v:=.ty "list") rfl TP.list PyProof.Rows.Boot.list rfl) ac)))))
   (ag (ay ad))
   aA)
  (ae (aE (i:=2) zfB.nd rfl (Or.inl rfl) (zai zbB rfl TP.list PyProof.Rows.Boot.list (aa (aR (pv 0) rfl) ac)))
  (ae (zaB PassesOwn.never rfl (zmZ rfl TP.enum (aa (pv 1) ac)) (pg_tup rfl (ziW (zaj (i:=3) zfB.nd rfl (Or.inl rfl)) (ziW (zaj (i:=4) zfB.nd rfl (Or.inl rfl)) zm0)))
   (ae (aL (zaS (zaI (aB BR.ok hr rfl BR.m BR.kp BR.b .nil aI (aa (pv 0) (aa (pv 2) (aa (pv 4) ac))))))
     (ag (ay (pv 3)))
     aA)
    (ag (zap (zcj PySem.F.plainAttrs_list PySem.F.slot_list_append PySem.F.type_list_append za5 (pv 2) (aa (aq az (pv 4) ad) ac))))))
  (ae (aL (PW.pt (zbc (aw zag (ap aj rfl T.len bL (aa (pv 1) ac)) ad) (za4 (aw zcC (ap aj rfl T.len bL (aa (aq az (aq zaa (pv 1) (zbk zaQ ad)) ad) ac)) ad))))
   (ag (ay (ap aj rfl T.len bL (aa (pv 1) ac))))
   aA)
  (ag (ay zbG)))))),?_⟩
 try dsimp only [Cx.nox,Cx.wish,aX]
 refine⟨_,rfl,x,dp,"list",_,rfl,hx,TP.kl dp,_,rfl,?_⟩
 cases dp with
 | lst ds =>
  simp only[Has]at hx
  obtain⟨q,xs,rfl,hq,hD⟩:=hx
  obtain⟨l300,lw⟩:=hb ds rfl
  have xl:=hD.length
  have Q1:∀ o,zew T' As Rs ds=o→∀ H',ah H H'→Q (vO o) H':=λo e H' s'=>e ▸ Q0 H' s'
  obtain⟨⟨dx,ho⟩,_,_,⟨zs,hz,hZ⟩,_⟩:=id S.pr
  have zl:zs.length=Rs.length:=by rw[←hZ.length,lM]
  refine aV ⟨_,rfl,p,C,dx,_,_,rfl,ho,T.cl,T.nR,zbz _ _ _,rl,zs,rfl,.inl (SqL.of hz),λr hr'=>?_⟩
  have s1:=ai hr' (.lst zs)
  have n1:=af (H:=H) (a:=r) (o:=.lst zs)
  have hZ1:=hZ.keep s1.kt (zaM _)
  show(λH1:Hp=>_) (upd H r (.lst zs))
  generalize upd H r (.lst zs)=H1 at s1 n1 hZ1
  refine⟨_,rfl,q,rfl,⟨_,s1.seq hq⟩,zev zmI (λi σ H'=>∃(v3 v4:Option V) (us:List V) (Rs':List (List Int)),σ=[some (.ref p),some (.ref q),some (.ref r),v3,v4]∧ah H H'∧H' r=some (.lst us)∧ao K H' (Rs'.map dR) us∧(∀ x∈Rs',x.length≤300)∧Rs'.length=Rs.length+i∧zeo T' As Rs' i (ds.drop i)=zeo T' As Rs 0 ds) (λi σ H' ⟨_,_,_,_,_,s2,_⟩=>s2.seq hq) ⟨none,none,zs,Rs,rfl,s1,n1,hZ1,r300,rfl,rfl⟩ ?_ ?_⟩
  ·rintro i σ H2 x H3 hi ⟨v3,v4,us,Rs',rfl,s2,n2,hL2,r2,rl2,e2⟩ ⟨pp,y,rfl,hpp,rfl,hy⟩
   obtain⟨d,hd,hdy⟩:=hD.get (hy _ (s2.seq hq))
   have dm:=mOq hd
   have ib:=(gEq hd).1
   have ul:us.length=Rs'.length:=by rw[←hL2.length,lM]
   have s3:=ai (H:=H2) hpp (.tup [.int i,y])
   refine⟨pp,_,rfl,SqT.of af,rfl,_,_,rfl,_,_,rfl,rfl,?_⟩
   show(λH3:Hp=>_) (upd H2 pp (.tup [.int i,y]))
   generalize upd H2 pp (.tup [.int i,y])=H3 at s3
   have s13:=s2.trans s3
   rw[zgm hd]at e2
   refine⟨_,rfl,_,rfl,_,rfl,p,tl,al,rl,r,T',As,Rs,Rs',us,y,d,rfl,S.same s13,SqL.of (s3 _ _ n2),zc7 s3 _ _ hL2,r2,hsm s13 _ _ hdy,lw d dm,λH4 s4=>⟨_,rfl,?_⟩⟩
   cases er:okD T' As Rs' d with
   | false =>
    refine aS ⟨_,rfl,Q1 (some i) ?_ H4 (s13.trans s4)⟩
    unfold zew
    rw[←e2,zeo,if_neg (by rw[er];decide)]
   | true =>
    have s14:=s13.trans s4
    have n4:=s4 _ _ (s3 _ _ n2)
    obtain⟨z,ps,b,rfl,ed⟩:=zkV er
    obtain⟨lq,ws,rfl,hw,hW⟩:=zbg hdy
    simp only[ao]at hW
    obtain⟨v0,_,rfl,h0,v1,_,rfl,h1,v2,_,rfl,h2,rfl⟩:=hW
    obtain⟨pq,rfl,hp⟩:=zcQ h1
    have w3:=(wd_3 (lw _ dm)).2.1
    refine aV ⟨_,rfl,.inl ⟨rfl,_,SqL.of n4⟩,_,rfl,lq,_,_,_,rfl,rfl,s14.tup hw,aH (j:=1) rfl,r,_,_,rfl,rfl,n4,zaJ (by lia),?_⟩
    have kt:=zam.lst (ys:=us++[.ref pq]) n4
    refine⟨_,_,us++[.ref pq],Rs'++[ps],rfl,s14.upd hr',af,?_,λx hx=>?_,by rw[lAq,lS,rl2];lia,?_⟩
    ·rw[mAq]
     exact ao.append ((hL2.keep (s3.trans s4).kt (zaM _)).keep kt (zaM _)) (ao.one (Has.tup' (kt.sq (s14.tup hp)) (ao.ints ps)))
    ·rcases mPq hx with h | h
     ·exact r2 x h
     ·rw[mSq h]
      have:=zdg w3
      rw[lM]at this
      exact this
    ·rw[←e2]
     show _=if _ then _ else _
     rw[if_pos er,ed]
  ·rintro σ H2 ⟨v3,v4,us,Rs',rfl,s2,n2,hL2,r2,rl2,e2⟩
   rw[←xl,List.drop_length]at e2
   have hq2:=s2.seq hq
   have e0:zeo T' As Rs 0 ds=none:=e2.symm
   refine⟨_,rfl,q,_,rfl,.inl hq2,rfl,_,rfl,?_⟩
   rcases List.eq_nil_or_concat ds with e | ⟨ini,d,e⟩
   ·subst e
    have e0':xs.length=0:=xl.symm
    rw[dTq (show V.int ((xs.length:Nat):Int)=V.int 0 by rw[e0'];rfl)]
    refine aS (aS ⟨_,rfl,q,_,rfl,.inl hq2,?_⟩)
    rw[e0']
    exact Q1 (some 0) rfl H2 s2
   ·rw[List.concat_eq_append]at e
    have e3:xs.length=ini.length+1:=by rw[←xl,e,lAq];rfl
    rw[dFq (by intro z;injection z with z;lia)]
    refine aV ?_
    obtain⟨y,hy⟩:∃ y,xs[ini.length]?=some y:=⟨_,gG (by lia)⟩
    obtain⟨d',hd',hdy⟩:=hD.get hy
    have el:d'=d:=by
     rw[e,List.getElem?_append_right (nRq _),Nat.sub_self]at hd'
     cases hd'
     rfl
    subst el
    obtain⟨Rx,er⟩:=zj3 e0 d' (by rw[e];simp)
    obtain⟨z,ps,b,rfl,ed⟩:=zkV er
    obtain⟨lq,ws,rfl,hw,hW⟩:=zbg hdy
    simp only[ao]at hW
    obtain⟨v0,_,rfl,h0,v1,_,rfl,h1,v2,_,rfl,h2,rfl⟩:=hW
    obtain⟨pq,rfl,hp⟩:=zcQ h1
    have ax:atI xs (-1)=some (.ref lq):=by
     have ed:xs=xs.take ini.length++[.ref lq]:=by
      rw[←zaD hy,tO (by lia)]
     rw[ed]
     exact zhg _ _
    have ef:zdO ds=ps.isEmpty:=by
     unfold zdO
     rw[e,List.getLast?_concat]
     show(psD _).isEmpty=_
     rw[ed]
    refine⟨_,rfl,_,rfl,q,_,_,_,rfl,rfl,hq2,ax,lq,_,_,_,rfl,rfl,s2.tup hw,aH (j:=1) rfl,pq,_,rfl,.inr (s2.tup hp),_,_,rfl,rfl,_,rfl,aJ (λc=>?_) (λc=>?_)⟩
    ·refine⟨_,rfl,q,_,rfl,.inl hq2,?_⟩
     rw[←xl]
     refine Q1 (some ds.length) ?_ H2 s2
     unfold zew
     rw[e0]
     show(if zdO ds=true then none else some ds.length)=_
     rw[ef]
     have:=oDq c
     cases ps with
     | nil=>exact absurd this (by decide)
     | cons a b=>rfl
    ·refine Q1 none ?_ H2 s2
     unfold zew
     rw[e0]
     show(if zdO ds=true then none else some ds.length)=_
     rw[ef]
     cases ps with
     | nil=>rfl
     | cons a b =>
      refine absurd (dTq ?_) c
      simp only[List.map_cons,List.length_cons]
      lia
 | _=>exact aS (Q0 H (ah.refl _))
inductive zdr (K:W.Frag) (C:Addr):Sp|m{vs H Q E9} (p tl al rl:Addr) (T:List Tm) (As:List At) (Rs:List (List Int)) (x:V) (dp:Dt):vs=[.ref p,x]→PrD K C H p tl al rl T As Rs→Has K H dp x→(∀ x∈Rs,x.length≤300)→Rs.length≤500→(∀ ds,dp=.lst ds→ds.length≤450∧∀ d∈ds,wd d≤300)→(∀ H',ah H H'→Q (.bl (decide (zfh T As Rs dp=.non))) H')→zdr K C vs H Q E9
theorem zks:aO ["problem","paper"] ["problem","paper"] (au zge):=fsc
theorem zna (F:Fun K "lets_by" "lets_by" zge f fd) (BF:FB P w K mg base CX0 7 "fault" fE dE ["problem","paper"] (zcM K C)):aQ P w K mg base CX0 8 f fd ["problem","paper"] (zdr K C):=by
 refine F.ok zks (λvs H Q E h=>?_) (λcdv A outer s H vs Q E hr h=>?_)
 ·obtain⟨p,tl,al,rl,T',As,Rs,x,dp,rfl,_⟩:=h
  rfl
 obtain⟨p,tl,al,rl,T',As,Rs,x,dp,rfl,S,hx,r300,r500,hb,Q0⟩:=h
 refine⟨_,(ag (ay (zaz zfY (aB BF.ok hr rfl BF.m BF.kp BF.b .nil aI (aa (pv 0) (aa (pv 1) ac))) zbG))),?_⟩
 try dsimp only [Cx.nox,Cx.wish,aX]
 exact⟨_,rfl,_,rfl,p,tl,al,rl,T',As,Rs,x,dp,rfl,S,hx,r300,r500,hb,λH' s'=>⟨rfl,Q0 H' s'⟩⟩
def zb8 (a b:Int):Dt→Bool
 | .int k=>decide (a≤k)&&decide (k < b)
 | _=>false
def zeS (n m:Nat):Dt→Bool
 | .tup [a,b,c]=>zb8 0 n a&&(zb8 0 n b&&zb8 0 (m+1) c)
 | _=>false
theorem zlG {n m:Nat} {ds:List Dt} (h:ds.length≠3):zeS n m (.tup ds)=false:=by
 rcases ds with _ | ⟨a,_ | ⟨b,_ | ⟨c,_ | ⟨d,ds⟩⟩⟩⟩
 ·rfl
 ·rfl
 ·rfl
 ·exact absurd rfl h
 ·rfl
inductive zfi (K:W.Frag):Sp|m{vs H Q E9} (x:V) (d:Dt) (a b:Int):vs=[x,.int a,.int b]→Has K H d x→Q (.bl (zb8 a b d)) H→zfi K vs H Q E9
theorem zhS:aO ["_law_thing","_law_first","_law_behind"] ["_law_thing","_law_first","_law_behind"] (au zd8):=fsc
theorem zm9 (F:Fun K "_law_number" "_law_number" zd8 f fd) (T:Txt K mg aK C CN CT CP CM) (TP:TxP K mg):aQ P w K mg base CX0 1 f fd ["_law_thing","_law_first","_law_behind"] (zfi K):=by
 refine F.ok zhS (λvs H Q E h=>?_) (λcdv A outer s H vs Q E hr h=>?_)
 ·obtain⟨x,d,a,b,rfl,_⟩:=h
  rfl
 obtain⟨x,d,a,b,rfl,hd,q⟩:=h
 refine⟨_,(ag (ay (zba (ap zaw rfl T.isi PyProof.Rows.Boot.isinstance (aa (pv 0) (aa (zbt (v:=.ty "int") rfl TP.int PyProof.Rows.Boot.int rfl) ac))) (zba (zkS (ap zaw rfl T.isi PyProof.Rows.Boot.isinstance (aa (pv 0) (aa (zbt (v:=.ty "bool") rfl T.bool PyProof.Rows.Boot.bool rfl) ac)))) (zbs (zmb op_le zbR (pv 1) (pv 0) (pv 2))))))),?_⟩
 try dsimp only [Cx.nox,Cx.wish,aX]
 refine⟨_,rfl,x,d,"int",_,rfl,hd,TP.ki d,_,rfl,?_⟩
 cases d with
 | int k =>
  refine aS ⟨_,rfl,_,_,"bool",_,rfl,hd,TP.kb _,_,rfl,_,rfl,aS ?_⟩
  simp only[Has]at hd
  subst hd
  refine⟨_,rfl,_,rfl,_,_,rfl,rfl,_,rfl,aJ (λc=>⟨_,rfl,_,_,rfl,rfl,?_⟩) (λc=>?_)⟩
  ·rw[zb8,c,Bool.true_and]at q
   exact q
  ·rw[zb8,Bool.eq_false_iff.mpr c,Bool.false_and]at q
   exact q
 | bl b=>exact aS ⟨_,rfl,_,_,"bool",_,rfl,hd,TP.kb _,_,rfl,_,rfl,aV q⟩
 | _=>exact aV q
inductive ziw (K:W.Frag) (C:Addr):Sp|m{vs H Q E9} (p tl al rl:Addr) (T:List Tm) (As:List At) (Rs:List (List Int)) (x:V) (d:Dt):vs=[.ref p,x]→PrD K C H p tl al rl T As Rs→Has K H d x→Q (.bl (zeS T.length As.length d)) H→ziw K C vs H Q E9
theorem zdD:aO ["_law_problem","_law_link","_law_terms"] ["_law_problem","_law_link"] (au zcV):=fsc
theorem ok_llf (F:Fun K "_law_link_formed" "_law_link_formed" zcV f fd) (T:Txt K mg aK C CN CT CP CM) (TP:TxP K mg) (BN:FB P w K mg base CX0 1 "_law_number" fN dN ["_law_thing","_law_first","_law_behind"] (zfi K)):aQ P w K mg base CX0 2 f fd ["_law_problem","_law_link"] (ziw K C):=by
 refine F.ok zdD (λvs H Q E h=>?_) (λcdv A outer s H vs Q E hr h=>?_)
 ·obtain⟨p,tl,al,rl,T',As,Rs,x,d,rfl,_⟩:=h
  rfl
 obtain⟨p,tl,al,rl,T',As,Rs,x,d,rfl,S,hx,q⟩:=h
 refine⟨_,(ae (aL (PW.pt (zbc (zaS (zaI (ap zaw rfl T.isi PyProof.Rows.Boot.isinstance (aa (pv 1) (aa (zbt (v:=.ty "tuple") rfl T.tuple PyProof.Rows.Boot.tuple rfl) ac))))) (za4 (aw zcB (ap aj rfl T.len bL (aa (pv 1) ac)) ad))))
   (ag (ay zav))
   aA)
  (ae (aE (i:=2) zdD.nd rfl (Or.inl rfl) (ap aj rfl T.len bL (aa (aR (pv 0) rfl) ac)))
  (ae (aL (PW.pt (zbc (zaS (zaI (aB BN.ok hr rfl BN.m BN.kp BN.b .nil aI (aa (aq az (pv 1) ad) (aa ad (aa (pv 2) ac)))))) (za4 (zaS (zaI (aB BN.ok hr rfl BN.m BN.kp BN.b .nil aI (aa (aq az (pv 1) ad) (aa ad (aa (pv 2) ac)))))))))
   (ag (ay zav))
   aA)
  (ag (ay (aB BN.ok hr rfl BN.m BN.kp BN.b .nil aI (aa (aq az (pv 1) ad) (aa ad (aa (ar zah (ap aj rfl T.len bL (aa (aR (pv 0) rfl) ac)) ad) ac))))))))),?_⟩
 try dsimp only [Cx.nox,Cx.wish,aX]
 obtain⟨⟨dx,ho⟩,⟨ts,ht,hT⟩,⟨ys,ha,hA⟩,_⟩:=id S.pr
 have tl':ts.length=T'.length:=by rw[←hT.length,lM]
 have yl:ys.length=As.length:=by rw[←hA.length,lM]
 refine⟨_,rfl,x,d,"tuple",_,rfl,hx,TP.kt d,_,rfl,?_⟩
 cases d with
 | tup ds =>
  obtain⟨a,zs,rfl,hq,hD⟩:=zbg hx
  refine aV ⟨_,rfl,a,_,rfl,.inr hq,rfl,_,rfl,?_⟩
  by_cases c3:zs.length=3
  ·rw[←hD.length]at c3
   obtain⟨d0,d1,d2,rfl⟩:=len3 c3
   simp only[ao]at hD
   obtain⟨v0,_,rfl,h0,v1,_,rfl,h1,v2,_,rfl,h2,rfl⟩:=hD
   have a0:atI [v0,v1,v2] 0=some v0:=aH (j:=0) rfl
   have a1:atI [v0,v1,v2] 1=some v1:=aH (j:=1) rfl
   have a2:atI [v0,v1,v2] 2=some v2:=aH (j:=2) rfl
   refine aV ⟨_,rfl,p,C,dx,_,_,rfl,ho,T.cl,T.nT,zaK _ _ _,tl,ts,rfl,.inl (SqL.of ht),?_⟩
   refine⟨_,rfl,a,_,_,_,rfl,rfl,hq,a0,_,rfl,v0,d0,_,_,rfl,h0,_,rfl,?_⟩
   rw[zeS,←tl',←yl]at q
   cases e0:zb8 0 (ts.length:Nat) d0 with
   | false =>
    rw[e0,Bool.false_and]at q
    exact aS (aS q)
   | true =>
    rw[e0,Bool.true_and]at q
    refine aV ⟨_,rfl,a,_,_,_,rfl,rfl,hq,a1,_,rfl,v1,d1,_,_,rfl,h1,_,rfl,?_⟩
    cases e1:zb8 0 (ts.length:Nat) d1 with
    | false =>
     rw[e1,Bool.false_and]at q
     exact aS q
    | true =>
     rw[e1,Bool.true_and]at q
     exact aV ⟨_,rfl,a,_,_,_,rfl,rfl,hq,a2,_,rfl,p,C,dx,_,_,rfl,ho,T.cl,T.nA,zad _ _ _,al,ys,rfl,.inl (SqL.of ha),_,_,rfl,rfl,v2,d2,_,_,rfl,h2,q⟩
  ·rw[zlG (by rw[hD.length];exact c3)]at q
   rw[dFq (λz=>c3 (by injection z with z;lia))]
   exact aS q
 | _=>exact aS q
def zcA (m:Nat) (ps:List Dt):Dt→Bool
 | .int p=>zb8 (-(m:Int)) ((m:Int)+1) (.int p)&&(!decide (p=0)&&(!decide ((1:Int) < ((ps.countP λe=>peq e (.int p):Nat):Int))&&!(ps.any λe=>peq e (.int (-p)))))
 | _=>false
def zdh (n m:Nat) (many:Int) (k e:Dt):Bool:=(!(peq k (.str "learnt"))||zb8 0 many e)&&(!(peq k (.str "equal"))||zeS n m e)
def zce (n m:Nat) (many:Int):Dt→Bool
 | .tup [k,.tup ps,.tup hs]=>ps.all (zcA m ps)&&(hs.all (zdh n m many k)&&(peq k (.str "learnt")||peq k (.str "equal")))
 | _=>false
theorem zlQ {n m:Nat} {many:Int} {ds:List Dt} (h:ds.length≠3):zce n m many (.tup ds)=false:=by
 rcases ds with _ | ⟨a,_ | ⟨b,_ | ⟨c,_ | ⟨d,ds⟩⟩⟩⟩
 ·rfl
 ·rfl
 ·cases b <;> rfl
 ·exact absurd rfl h
 ·cases b <;> first | rfl | (cases c <;> rfl)
theorem zlf {α:Type} {g:α→Bool} {xs:List α} {x:α} {i:Nat} (e:xs[i]?=some x) (h:g x=false):xs.all g=false:=by
 cases z:xs.all g with
 | false=>rfl
 | true=>rw[List.all_eq_true.mp z x (mOq e)]at h;cases h
inductive zgY (K:W.Frag) (C:Addr):Sp|m{vs H Q E9} (p tl al rl:Addr) (T:List Tm) (As:List At) (Rs:List (List Int)) (many:Int) (x:V) (d:Dt):vs=[.ref p,.int many,x]→PrD K C H p tl al rl T As Rs→Has K H d x→dep d≤50→Q (.bl (zce T.length As.length many d)) H→zgY K C vs H Q E9
theorem zdM:aO ["_law_problem","_law_many","_law_line","_law_part","_law_thing"] ["_law_problem","_law_many","_law_line"] (au zd9):=fsc
theorem zmi (F:Fun K "_law_formed" "_law_formed" zd9 f fd) (T:Txt K mg aK C CN CT CP CM) (TP:TxP K mg) (BN:FB P w K mg base CX0 1 "_law_number" fN dN ["_law_thing","_law_first","_law_behind"] (zfi K)) (BL:FB P w K mg base CX0 2 "_law_link_formed" fL dL' ["_law_problem","_law_link"] (ziw K C)):aQ P w K mg base CX0 3 f fd ["_law_problem","_law_many","_law_line"] (zgY K C):=by
 refine F.ok zdM (λvs H Q E h=>?_) (λcdv A outer s H vs Q E hr h=>?_)
 ·obtain⟨p,tl,al,rl,T',As,Rs,many,x,d,rfl,_⟩:=h
  rfl
 obtain⟨p,tl,al,rl,T',As,Rs,many,x,d,rfl,S,hx,d50,q⟩:=h
 have hu:=zfs hr
 have hr1:ba 1 _:=hr.mono (by decide)
 refine⟨_,(ae (aL (PW.pt (zbc (zaS (zaI (ap zaw rfl T.isi PyProof.Rows.Boot.isinstance (aa (pv 2) (aa (zbt (v:=.ty "tuple") rfl T.tuple PyProof.Rows.Boot.tuple rfl) ac))))) (za4 (aw zcB (ap aj rfl T.len bL (aa (pv 2) ac)) ad))))
   (ag (ay zav))
   aA)
  (ae (aL (PW.pt (zbc (zaS (zaI (ap zaw rfl T.isi PyProof.Rows.Boot.isinstance (aa (aq az (pv 2) ad) (aa (zbt (v:=.ty "tuple") rfl T.tuple PyProof.Rows.Boot.tuple rfl) ac))))) (za4 (zaS (zaI (ap zaw rfl T.isi PyProof.Rows.Boot.isinstance (aa (aq az (pv 2) ad) (aa (zbt (v:=.ty "tuple") rfl T.tuple PyProof.Rows.Boot.tuple rfl) ac))))))))
   (ag (ay zav))
   aA)
  (ae (zaB PassesOwn.never rfl (zbr (aq az (pv 2) ad)) (zaj (i:=3) zdM.nd rfl (Or.inl rfl))
   (ae (aL (PW.pt (zbc (zaS (zaI (aB BN.ok hr1 rfl BN.m BN.kp BN.b .nil aI (aa (pv 3) (aa (zbk zaQ (ap aj rfl T.len bL (aa (aR (pv 0) rfl) ac))) (aa (ar zah (ap aj rfl T.len bL (aa (aR (pv 0) rfl) ac)) ad) ac)))))) (za4 (aw zag (pv 3) ad))))
     (ag (ay zav))
     aA)
    (ag (aL (PW.pt (zbc (aw zcC (zcj PySem.F.plainAttrs_tuple PySem.F.slot_tuple_count PySem.F.type_tuple_count (zlE hu) (aq az (pv 2) ad) (aa (pv 3) ac)) ad) (za4 (aw (ziL hu) (zbk zaQ (pv 3)) (aq az (pv 2) ad) rfl))))
     (ag (ay zav))
     aA))))
  (ae (zaB PassesOwn.never rfl (zbr (aq az (pv 2) ad)) (zaj (i:=4) zdM.nd rfl (Or.inl rfl))
   (ae (aL (PW.pt (zaR (aw (zdj hu) (aq az (pv 2) ad) zac rfl) (zaV (zaS (zaI (aB BN.ok hr1 rfl BN.m BN.kp BN.b .nil aI (aa (pv 4) (aa ad (aa (pv 1) ac)))))))))
     (ag (ay zav))
     aA)
    (ag (aL (PW.pt (zaR (aw (zdj hu) (aq az (pv 2) ad) zac rfl) (zaV (zaS (zaI (aB BL.ok hr rfl BL.m BL.kp BL.b .nil aI (aa (pv 0) (aa (pv 4) ac))))))))
     (ag (ay zav))
     aA))))
  (ag (ay (pe_or (zaz (zdj hu) (aq az (pv 2) ad) zac rfl) (zbs (zaz (zdj hu) (aq az (pv 2) ad) zac rfl))))))))),?_⟩
 try dsimp only [Cx.nox,Cx.wish,aX]
 obtain⟨⟨dx,ho⟩,_,⟨ys,ha,hA⟩,_⟩:=id S.pr
 have yl:ys.length=As.length:=by rw[←hA.length,lM]
 refine⟨_,rfl,x,d,"tuple",_,rfl,hx,TP.kt d,_,rfl,?_⟩
 cases d with
 | tup ds =>
  obtain⟨a,zs,rfl,hq,hD⟩:=zbg hx
  refine aV ⟨_,rfl,a,_,rfl,.inr hq,rfl,_,rfl,?_⟩
  by_cases c3:zs.length=3
  ·rw[←hD.length]at c3
   obtain⟨d0,d1,d2,rfl⟩:=len3 c3
   simp only[ao]at hD
   obtain⟨v0,_,rfl,h0,v1,_,rfl,h1,v2,_,rfl,h2,rfl⟩:=hD
   simp only[dep,zaA]at d50
   have a0:atI [v0,v1,v2] 0=some v0:=aH (j:=0) rfl
   have a1:atI [v0,v1,v2] 1=some v1:=aH (j:=1) rfl
   have a2:atI [v0,v1,v2] 2=some v2:=aH (j:=2) rfl
   refine aV ⟨_,rfl,a,_,_,_,rfl,rfl,hq,a1,v1,d1,"tuple",_,rfl,h1,TP.kt d1,_,rfl,?_⟩
   cases d1 with
   | tup ps =>
    refine aV ⟨_,rfl,a,_,_,_,rfl,rfl,hq,a2,v2,d2,"tuple",_,rfl,h2,TP.kt d2,_,rfl,?_⟩
    cases d2 with
    | tup hs =>
     simp only[dep]at d50
     obtain⟨pa,xs,rfl,hp,hP⟩:=zbg h1
     obtain⟨ha',us,rfl,hh,hHs⟩:=zbg h2
     have xl:=hP.length
     have ul:=hHs.length
     refine aV ⟨_,rfl,a,_,_,_,rfl,rfl,hq,a1,pa,rfl,⟨_,hp⟩,zc1 (xs:=xs) (λi σ H'=>∃ v3:Option V,σ=[some (.ref p),some (.int many),some (.ref a),v3,none]∧H'=H∧(ps.take i).all (zcA As.length ps)=true) ⟨none,rfl,rfl,rfl⟩ (λi σ H' _ ⟨_,_,e,_⟩=>by rw[e];exact hp) ?_ ?_⟩
     ·rintro i x σ H2 hx' ⟨v3,rfl,rfl,eA⟩
      obtain⟨e,he,hex⟩:=hP.get hx'
      have no:zcA As.length ps e=false→Q (.bl false) H2:=λc=>by
       rw[zce,zlf he c,Bool.false_and]at q
       exact q
      refine⟨_,rfl,_,rfl,p,C,dx,_,_,rfl,ho,T.cl,T.nA,zad _ _ _,al,ys,rfl,.inl (SqL.of ha),_,rfl,_,rfl,p,C,dx,_,_,rfl,ho,T.cl,T.nA,zad _ _ _,al,ys,rfl,.inl (SqL.of ha),_,_,rfl,rfl,x,e,_,_,rfl,hex,_,rfl,?_⟩
      rw[yl]
      cases e with
      | int k =>
       have hx2:=hex
       simp only[Has]at hx2
       subst hx2
       cases en:zb8 (-(As.length:Int)) ((As.length:Int)+1) (.int k) with
       | false=>exact aS (aS (no (by rw[zcA,en,Bool.false_and])))
       | true =>
        refine aV ⟨_,rfl,rfl,_,rfl,aJ (λc=>no ?_) (λc=>?_)⟩
        ·have:=oDq c
         injection this with z
         rw[zcA,en,dTq z]
         rfl
        have c1:decide (k=0)=false:=dFq λz=>c (by rw[z];rfl)
        refine⟨_,rfl,a,_,_,_,rfl,rfl,hq,a1,.inr (.inr (.inr (.inr ⟨rfl,_,hp⟩))),_,rfl,pa,xs,ps,.int k,.int k,rfl,rfl,hp,hP,hex,by lia,_,_,rfl,rfl,_,rfl,aJ (λc2=>aS (no ?_)) (λc2=>?_)⟩
        ·rw[zcA,en,c1,c2]
         rfl
        refine⟨_,rfl,_,rfl,_,rfl,a,_,_,_,rfl,rfl,hq,a1,pa,xs,ps,.int (-k),rfl,.inr hp,hP,(by simp only[Has]),by lia,_,rfl,aJ (λc3=>no ?_) (λc3=>?_)⟩
        ·have c3':(ps.any λe=>peq e (.int (-k)))=true:=c3
         rw[zcA,en,c1,Bool.eq_false_iff.mpr c2,c3']
         rfl
        ·refine⟨_,rfl,rfl,?_⟩
         have c3':(ps.any λe=>peq e (.int (-k)))=false:=Bool.eq_false_iff.mpr c3
         rw[zaD he,List.all_append,eA,Bool.true_and,List.all_cons,List.all_nil,Bool.and_true,zcA,en,c1,Bool.eq_false_iff.mpr c2,c3']
         rfl
      | _=>exact aS (aS (no rfl))
     ·rintro σ H2 ⟨v3,rfl,rfl,eA⟩
      rw[←xl,List.take_length]at eA
      rw[zce,eA,Bool.true_and]at q
      refine⟨_,rfl,a,_,_,_,rfl,rfl,hq,a2,ha',rfl,⟨_,hh⟩,zc1 (xs:=us) (λi σ H'=>∃ v4:Option V,σ=[some (.ref p),some (.int many),some (.ref a),v3,v4]∧H'=H2∧(hs.take i).all (zdh T'.length As.length many d0)=true) ⟨none,rfl,rfl,rfl⟩ (λi σ H' _ ⟨_,_,e,_⟩=>by rw[e];exact hh) ?_ ?_⟩
      ·rintro i x σ H3 hx' ⟨v4,rfl,rfl,eB⟩
       obtain⟨e,he,hex⟩:=hHs.get hx'
       have no:zdh T'.length As.length many d0 e=false→Q (.bl false) H3:=λc=>by
        rw[zlf he c,Bool.false_and]at q
        exact q
       cases eL:(!(peq d0 (.str "learnt"))||zb8 0 many e) with
       | false =>
        rw[Bool.or_eq_false_iff,Bool.not_eq_false']at eL
        refine⟨_,rfl,a,_,_,_,rfl,rfl,hq,a0,d0,.str "learnt",h0,(by simp only[Has]),by lia,_,rfl,?_⟩
        rw[eL.1]
        refine aS ⟨_,rfl,_,rfl,x,e,_,_,rfl,hex,_,rfl,?_⟩
        rw[eL.2]
        refine aS (no ?_)
        rw[zdh,eL.1,eL.2]
        rfl
       | true =>
        dsimp only [zcl]
        refine zdE (λn hn=>⟨_,rfl,a,_,_,_,rfl,rfl,hq,a0,d0,.str "learnt",h0,(by simp only[Has]),by lia,_,rfl,aJ (λc=>⟨_,rfl,_,rfl,x,e,_,_,rfl,hex,_,rfl,?_⟩) (λc=>aV hn)⟩) ?_
        ·rw[c,Bool.not_true,Bool.false_or]at eL
         rw[eL]
         exact aV hn
        cases eE:(!(peq d0 (.str "equal"))||zeS T'.length As.length e) with
        | false =>
         rw[Bool.or_eq_false_iff,Bool.not_eq_false']at eE
         refine⟨_,rfl,a,_,_,_,rfl,rfl,hq,a0,d0,.str "equal",h0,(by simp only[Has]),by lia,_,rfl,?_⟩
         rw[eE.1]
         refine aS ⟨_,rfl,_,rfl,p,tl,al,rl,T',As,Rs,x,e,rfl,S,hex,_,rfl,?_⟩
         rw[eE.2]
         refine aS (no ?_)
         rw[zdh,eL,eE.1,eE.2]
         rfl
        | true =>
         have nx:((hs.take (i+1)).all (zdh T'.length As.length many d0))=true:=by
          rw[zaD he,List.all_append,eB,Bool.true_and,List.all_cons,List.all_nil,Bool.and_true,zdh,eL,eE]
          rfl
         refine⟨_,rfl,a,_,_,_,rfl,rfl,hq,a0,d0,.str "equal",h0,(by simp only[Has]),by lia,_,rfl,aJ (λc=>⟨_,rfl,_,rfl,p,tl,al,rl,T',As,Rs,x,e,rfl,S,hex,_,rfl,?_⟩) (λc=>aV ⟨_,rfl,rfl,nx⟩)⟩
         rw[c,Bool.not_true,Bool.false_or]at eE
         rw[eE]
         exact aV ⟨_,rfl,rfl,nx⟩
      ·rintro σ H3 ⟨v4,rfl,rfl,eB⟩
       rw[←ul,List.take_length]at eB
       rw[eB,Bool.true_and]at q
       refine⟨_,rfl,a,_,_,_,rfl,rfl,hq,a0,d0,.str "learnt",h0,(by simp only[Has]),by lia,_,rfl,aJ (λc=>?_) (λc=>?_)⟩
       ·rw[c,Bool.true_or]at q
        exact q
       ·rw[Bool.eq_false_iff.mpr c,Bool.false_or]at q
        exact⟨_,rfl,a,_,_,_,rfl,rfl,hq,a0,d0,.str "equal",h0,(by simp only[Has]),by lia,q⟩
    | _=>exact aS q
   | _=>exact aS (aS q)
  ·rw[zlQ (by rw[hD.length];exact c3)]at q
   rw[dFq (λz=>c3 (by injection z with z;lia))]
   exact aS q
 | _=>exact aS q
def SeqJ (J:It) (xs:List V) (H:Hp):Prop:=∃ Ok:Hp→Prop,Wk J xs.length Ok∧(∀ H',ah H H'→Ok H')∧∀ i H' x H'',ah H H'→J.yld i H' x H''→H''=H'∧xs[i]?=some x
theorem zll {H:Hp} {a:Addr} {xs:List V} (hq:SqL K H a xs):SeqJ (Itl K a) xs H:=by
 refine⟨λH'=>SqL K H' a xs,zcZ,λH' s=>s.seq hq,?_⟩
 rintro i H' x H'' s ⟨rfl,hx⟩
 exact⟨rfl,hx _ (s.seq hq)⟩
theorem zl2 {H:Hp} {a:Addr} {xs:List V} (hq:SqT K H a xs):SeqJ (Itt K a) xs H:=by
 refine⟨λH'=>SqT K H' a xs,zb5,λH' s=>s.tup hq,?_⟩
 rintro i H' x H'' s ⟨rfl,hx⟩
 exact⟨rfl,hx _ (s.tup hq)⟩
def iSeqI (K:W.Frag) (tl:TE):L2.TI:=λσ H R=>tl σ H λx H1=>∃ a xs,x=.ref a∧(SqL K H1 a xs∨SqT K H1 a xs)∧∀ J,SeqJ J xs H1→R J H1
theorem zgx {X:Cx} {tg l:Expr} {tl:TE} (hl:PE X l tl):PI X tg l (iSeqI X.K tl):=by
 intro pins s σ H R I h
 refine thn (hl pins s σ H _ I h) λv s1 ⟨x,H1,I1,r1,q1⟩=>?_
 obtain⟨a,ps,rfl,hq,q⟩:=q1
 cases r1
 have fp:∀ b∈[s1.heap.objs.size],zcv X pins H1 b:=λb hb=>by
  have e:b=s1.heap.objs.size:=by simpa using hb
  subst e
  exact I1.fpOk (nRq _) (I1.hok.fresh (nRq _))
 rcases hq with hq | hq
 ·obtain⟨its,rv,p,hz⟩:=I1.list hq
  refine wpAny_pyIter_list p.isList ?_
  exact⟨s1.heap.objs.size,[s1.heap.objs.size],_,_,H1,rfl,I1.kept (t':=s1.toks) λb o e=>hG _ e,zf4 a _,⟨_,Heap.get?_push_size _ rfl,rfl,rfl⟩,fp,q _ (zll hq)⟩
 ·obtain⟨its,rv,p,hz⟩:=I1.tuple hq
  refine wpAny_pyIter_tuple (show s1.heap.IsTuple a its.toArray from p) ?_
  exact⟨s1.heap.objs.size,[s1.heap.objs.size],_,_,H1,rfl,I1.kept (t':=s1.toks) λb o e=>hG _ e,zfG a _,⟨_,Heap.get?_push_size _ rfl,rfl,rfl⟩,fp,q _ (zl2 hq)⟩
def rf (rs:List Int) (t:Int):Int:=rs.getD t.toNat 0
theorem zdx {rs:List Int} {t:Int} (h:InR rs.length t):atI (rs.map V.int) t=some (.int (rf rs t)):=by
 obtain⟨h0,h1⟩:=h
 have e:t=((t.toNat:Nat):Int):=by lia
 have:rs[t.toNat]?=some (rf rs t):=by
  unfold rf
  rw[List.getD_eq_getElem?_getD,gG (by lia)]
  rfl
 have q:=zjj this
 rw[←e]at q
 exact q
def zfg (rs:List Int) (a b:Int):List Int:=rs.map λh=>if h=rf rs a then rf rs b else h
theorem zhx (rs:List Int) (a b:Int):(zfg rs a b).length=rs.length:=by unfold zfg;rw[lM]
theorem zl6 {rs:List Int} {a b t:Int} (h:InR rs.length t):rf (zfg rs a b) t=rtm (rf rs) a b t:=by
 obtain⟨h0,h1⟩:=h
 have:rs[t.toNat]?=some (rf rs t):=by
  unfold rf
  rw[List.getD_eq_getElem?_getD,gG (by lia)]
  rfl
 show(zfg rs a b).getD t.toNat 0=_
 unfold zfg
 rw[List.getD_eq_getElem?_getD,List.getElem?_map,this]
 rfl
inductive zed (K:W.Frag):Sp|m{vs H Q E9} (r:Addr) (rs:List Int) (a b:Int):vs=[.ref r,.int a,.int b]→SqL K H r (rs.map V.int)→InR rs.length a→InR rs.length b→rs.length≤1000→(∀(H':Hp) (l:Addr),ah H H'→H l=none→H' l=some (.lst ((zfg rs a b).map V.int))→Q (.ref l) H')→zed K vs H Q E9
theorem zhT:aO ["_law_roots","_law_one","_law_other"] ["_law_roots","_law_one","_law_other"] (au zdk):=fsc
theorem zky (F:Fun K "_law_merged" "_law_merged" zdk f fd):aQ P w K mg base CX0 1 f fd ["_law_roots","_law_one","_law_other"] (zed K):=by
 refine F.ok zhT (λvs H Q E h=>?_) (λcdv A outer s H vs Q E hr h=>?_)
 ·obtain⟨r,rs,a,b,rfl,_⟩:=h
  rfl
 obtain⟨r,rs,a,b,rfl,hR,ha,hb,r1000,q⟩:=h
 refine⟨_,(ag (ay (zbQ (N':=["_law_head","_law_roots","_law_other","_law_one"]) (ix:=[0,2,1]) rfl rfl (by decide +kernel) (by decide +kernel) rfl (λok=>zdA (sc:=au zdk) ok rfl (by decide +kernel) (by decide +kernel)) (by decide +kernel) rfl rfl (λj i h=>match j,h with | 0,h=>by cases h;exact⟨_,rfl,rfl,.inl rfl,.inl rfl⟩ | 1,h=>by cases h;exact⟨_,rfl,rfl,.inl rfl,.inl rfl⟩ | 2,h=>by cases h;exact⟨_,rfl,rfl,.inl rfl,.inl rfl⟩ | n+3,h=>by simp at h) (zcr (pv 0)) (λ_ _ _ _=>(zg7 (aw zag (pv 0) (aq (r:=zfQ K) zaa (pv 1) (pv 3))) (aq (r:=zfQ K) zaa (pv 1) (pv 2)) (pv 0)))))),?_⟩
 try dsimp only [Cx.nox,Cx.wish,aX]
 refine⟨_,rfl,r,rfl,⟨_,hR⟩,λD hD=>zbU zcZ (λi us H'=>ah H H'∧us=(((rs.take i).map λh=>if h=rf rs a then rf rs b else h)).map V.int) (λi us H' ⟨s4,_⟩=>s4.seq hR) ⟨ai hD _,rfl⟩ ?_ ?_⟩
 ·rintro i us H8 z H4 hi hly hDs ⟨s4,rfl⟩ ⟨rfl,hx⟩
  obtain⟨k,hk,rfl⟩:=zaW (hx _ (s4.seq hR))
  refine⟨_,rfl,_,rfl,_,rfl,r,_,_,_,rfl,rfl,s4.seq hR,zdx ha,rfl,_,rfl,aJ (λc=>?_) (λc=>?_)⟩
  ·have c':k=rf rs a:=by have:=oDq c;injection this
   refine⟨_,rfl,_,rfl,r,_,_,_,rfl,rfl,s4.seq hR,zdx hb,zaH (sz _ (by rw[lM];exact r1000)) hi hly hDs ⟨s4.upd hD,?_⟩⟩
   rw[zaD hk,mAq,mAq]
   simp only[List.map_cons,List.map_nil,if_pos c']
  ·have c':¬k=rf rs a:=λz=>c (by rw[z];exact dTq rfl)
   refine⟨_,rfl,zaH (sz _ (by rw[lM];exact r1000)) hi hly hDs ⟨s4.upd hD,?_⟩⟩
   rw[zaD hk,mAq,mAq]
   simp only[List.map_cons,List.map_nil,if_neg c']
 rintro us H4 hDs ⟨s4,rfl⟩
 rw[lM,tO (nRq _)]at hDs
 exact q H4 D s4 hD hDs
theorem zh2 (xs ys:List Int):zbJ (xs.map Dt.int) (ys.map Dt.int)=decide (xs=ys):=by
 by_cases h:xs=ys
 ·subst h
  rw[dTq rfl]
  exact zeY _
 ·rw[dFq h,Bool.eq_false_iff]
  intro z
  have:=zgy _ _ (ze2 xs) (ze2 ys) z
  exact h (List.map_inj_right (f:=Dt.int) (λa b e=>by injection e) |>.mp this)
theorem zjG (g:Int→Int):∀(xs ys:List Int),xs.length=ys.length→decide (xs.map g=ys.map g)=(xs.zip ys).all λxy=>decide (g xy.1=g xy.2)
 | [],[],_=>rfl
 | [],_ :: _,h=>by cases h
 | _ :: _,[],h=>by cases h
 | x :: xs,y :: ys,h=>by
  have ih:=zjG g xs ys (by simpa using h)
  rw[List.zip_cons_cons,List.all_cons,←ih]
  by_cases c:g x=g y
  ·by_cases d:xs.map g=ys.map g
   ·simp [c,d]
   ·simp [c,d]
  ·simp [c]
inductive zeW (K:W.Frag):Sp|m{vs H Q E9} (tl r:Addr) (xs:List V) (T:List Tm) (rs:List Int) (a b:Int):vs=[.ref tl,.ref r,.int a,.int b]→SqL K H tl xs→ao K H (T.map dT) xs→(∀ t∈T,∀ q∈t.2,InR T.length q)→(∀ t∈T,t.2.length≤1000)→SqL K H r (rs.map V.int)→rs.length=T.length→InR T.length a→InR T.length b→(∀ H',ah H H'→Q (.bl (zdY (rf rs) T a b)) H')→zeW K vs H Q E9
theorem zd4:aO ["_law_terms","_law_roots","_law_one","_law_other","_law_first","_law_second"] ["_law_terms","_law_roots","_law_one","_law_other"] (au zcU):=fsc
theorem zlA (F:Fun K "_law_alike" "_law_alike" zcU f fd) (T:Txt K mg aK C CN CT CP CM):aQ P w K mg base CX0 1 f fd ["_law_terms","_law_roots","_law_one","_law_other"] (zeW K):=by
 refine F.ok zd4 (λvs H Q E h=>?_) (λcdv A outer s H vs Q E hr h=>?_)
 ·obtain⟨tl,r,xs,T',rs,a,b,rfl,_⟩:=h
  rfl
 obtain⟨tl,r,xs,T',rs,a,b,rfl,ht,hT,dm,t1000,hR,rl,r1,r2,q⟩:=h
 have hu:=zfs hr
 have xl:xs.length=T'.length:=by rw[←hT.length,lM]
 refine⟨_,(ae (aE (i:=4) zd4.nd rfl (Or.inl rfl) (aq zaa (pv 0) (pv 2)))
  (ae (aE (i:=5) zd4.nd rfl (Or.inl rfl) (aq zaa (pv 0) (pv 3)))
  (ae (aL (PW.pt (zbc (aw zcB (aq az (pv 4) ad) (aq az (pv 5) ad)) (za4 (aw zcB (ap aj rfl T.len bL (aa (aq az (pv 4) ad) ac)) (ap aj rfl T.len bL (aa (aq az (pv 5) ad) ac))))))
   (ag (ay zav))
   aA)
  (ag (ay (zaz (zdj hu) (zbQ (N':=["_law_part","_law_roots"]) (ix:=[1]) rfl rfl (by decide +kernel) (by decide +kernel) rfl (λok=>zdA (sc:=au zcU) ok rfl (by decide +kernel) (by decide +kernel)) (by decide +kernel) rfl rfl (λj i h=>match j,h with | 0,h=>by cases h;exact⟨_,rfl,rfl,.inl rfl,.inl rfl⟩ | n+1,h=>by simp at h) (zbr (aq az (pv 4) ad)) (λ_ _ _ _=>(aq (r:=zfQ K) zaa (pv 1) (pv 0)))) (zbQ (N':=["_law_part","_law_roots"]) (ix:=[1]) rfl rfl (by decide +kernel) (by decide +kernel) rfl (λok=>zdA (sc:=au zcU) ok rfl (by decide +kernel) (by decide +kernel)) (by decide +kernel) rfl rfl (λj i h=>match j,h with | 0,h=>by cases h;exact⟨_,rfl,rfl,.inl rfl,.inl rfl⟩ | n+1,h=>by simp at h) (zbr (aq az (pv 5) ad)) (λ_ _ _ _=>(aq (r:=zfQ K) zaa (pv 1) (pv 0)))) rfl)))))),?_⟩
 try dsimp only [Cx.nox,Cx.wish,aX]
 obtain⟨x,x1,x2⟩:=zbe (xs:=xs) (i:=a) r1.1 (by rw[xl];exact r1.2)
 obtain⟨y,y1,y2⟩:=zbe (xs:=xs) (i:=b) r2.1 (by rw[xl];exact r2.2)
 obtain⟨t,qa,ra,ta,rfl,ha,hra⟩:=zgF hT x1
 obtain⟨u,qb,rb,ua,rfl,hb,hrb⟩:=zgF hT y1
 have et:tG T' a=t:=by have:=(zfd r1).1;rw[ta]at this;cases this;rfl
 have eu:tG T' b=u:=by have:=(zfd r2).1;rw[ua]at this;cases this;rfl
 have tm:=mOq ta
 have um:=mOq ua
 unfold zdY at q
 rw[et,eu]at q
 refine⟨_,rfl,_,rfl,tl,_,_,_,rfl,rfl,ht,x2,?_⟩
 refine⟨_,rfl,_,rfl,tl,_,_,_,rfl,rfl,ht,y2,?_⟩
 have a0:∀(z:Str) (r:Addr),atI [V.str z,V.ref r] 0=some (.str z):=λz r=>aH (j:=0) rfl
 have a1:∀(z:Str) (r:Addr),atI [V.str z,V.ref r] 1=some (.ref r):=λz r=>aH (j:=1) rfl
 refine⟨_,rfl,qa,_,_,_,rfl,rfl,ha,a0 _ _,_,rfl,qb,_,_,_,rfl,rfl,hb,a0 _ _,rfl,_,rfl,aJ (λc=>aS ?_) (λc=>⟨_,rfl,qa,_,_,_,rfl,rfl,ha,a1 _ _,ra,_,rfl,.inr hra,_,rfl,qb,_,_,_,rfl,rfl,hb,a1 _ _,rb,_,rfl,.inr hrb,rfl,_,rfl,aJ (λc2=>?_) (λc2=>?_)⟩)⟩
 ·have:=q H (ah.refl H)
  rw[dFq (λz:t.1=u.1=>by rw[z]at c;simp at c)]at this
  exact this
 ·have:=q H (ah.refl H)
  rw[dFq (p:=t.2.length=u.2.length) (λz=>by simp [z]at c2)]at this
  rw[Bool.false_and,Bool.and_false]at this
  exact this
 have n1:t.1=u.1:=by
  apply Classical.byContradiction
  intro z
  exact c (by simp [z])
 have n2:t.2.length=u.2.length:=by
  apply Classical.byContradiction
  intro z
  exact c2 (by simp;lia)
 rw[dTq n1,dTq n2,Bool.true_and,Bool.true_and,←zjG (rf rs) _ _ n2]at q
 refine⟨_,rfl,qa,_,_,_,rfl,rfl,ha,a1 _ _,ra,rfl,⟨_,hra⟩,λD hD=>zbU zb5 (λi us H'=>ah H H'∧us=((t.2.take i).map (rf rs)).map V.int) (λi us H' ⟨s4,_⟩=>s4.tup hra) ⟨ai hD _,rfl⟩ ?_ ?_⟩
 ·rintro i us H8 z H4 hi hly hDs ⟨s4,rfl⟩ ⟨rfl,hx⟩
  obtain⟨k,hk,rfl⟩:=zaW (hx _ (s4.tup hra))
  have kin:=dm t tm k (mOq hk)
  refine⟨_,rfl,_,rfl,r,_,_,_,rfl,rfl,s4.seq hR,zdx (by rw[rl];exact kin),zaH (sz _ (by rw[lM];exact t1000 t tm)) hi hly hDs ⟨s4.upd hD,?_⟩⟩
  rw[zaD hk,mAq,mAq]
  rfl
 rintro us H4 hDs ⟨s4,rfl⟩
 rw[lM,tO (nRq _)]at hDs
 refine⟨_,rfl,qb,_,_,_,rfl,rfl,s4.tup hb,a1 _ _,rb,rfl,⟨_,s4.tup hrb⟩,λD2 hD2=>zbU zb5 (λi us H'=>ah H4 H'∧us=((u.2.take i).map (rf rs)).map V.int) (λi us H' ⟨s5,_⟩=>s5.tup (s4.tup hrb)) ⟨ai hD2 _,rfl⟩ ?_ ?_⟩
 ·rintro i us H8 z H5 hi hly hDs2 ⟨s5,rfl⟩ ⟨rfl,hx⟩
  obtain⟨k,hk,rfl⟩:=zaW (hx _ (s5.tup (s4.tup hrb)))
  have kin:=dm u um k (mOq hk)
  refine⟨_,rfl,_,rfl,r,_,_,_,rfl,rfl,s5.seq (s4.seq hR),zdx (by rw[rl];exact kin),zaH (sz _ (by rw[lM];exact t1000 u um)) hi hly hDs2 ⟨s5.upd hD2,?_⟩⟩
  rw[zaD hk,mAq,mAq]
  rfl
 rintro us H5 hDs2 ⟨s5,rfl⟩
 rw[lM,tO (nRq _)]at hDs2
 refine⟨_,_,Has.lst' (SqL.of (s5 _ _ hDs)) (ao.ints _),Has.lst' (SqL.of hDs2) (ao.ints _),(by simp only[dep,zbA];decide),?_⟩
 show Q (.bl (zbJ ((t.2.map (rf rs)).map Dt.int) ((u.2.map (rf rs)).map Dt.int))) H5
 rw[zh2]
 exact q H5 (s4.trans s5)
theorem perm2 {m n a b:Int} (h:[m,n].Perm [a,b]):(m=a∧n=b)∨(m=b∧n=a):=by
 have hm:m∈[a,b]:=h.mem_iff.mp (by simp)
 simp only[List.mem_cons,List.not_mem_nil,or_false]at hm
 rcases hm with rfl | rfl
 ·have:=(List.perm_cons m).mp h
  exact .inl ⟨rfl,by simpa using this⟩
 ·have:=(List.perm_cons m).mp (h.trans (List.Perm.swap m a []))
  exact .inr ⟨rfl,by simpa using this⟩
theorem sort2 {ms ns:List Int} {a b x y:Int} (h1:ms.Perm [a,b]) (h2:ms.Pairwise (·≤·)) (h3:ns.Perm [x,y]) (h4:ns.Pairwise (·≤·)):decide (ms=ns)=(decide ((x,y)=(a,b))||decide ((x,y)=(b,a))):=by
 have l1:=h1.length_eq
 have l3:=h3.length_eq
 match ms,ns,l1,l3 with
 | [m1,m2],[n1,n2],_,_ =>
  have p1:=perm2 h1
  have p3:=perm2 h3
  have o1:m1≤m2:=by simpa using h2
  have o2:n1≤n2:=by simpa using h4
  rw[Bool.eq_iff_iff,Bool.or_eq_true,decide_eq_true_iff,decide_eq_true_iff,decide_eq_true_iff]
  simp only[List.cons.injEq,and_true,Prod.mk.injEq]
  rcases p1 with ⟨rfl,rfl⟩ | ⟨rfl,rfl⟩ <;> rcases p3 with ⟨rfl,rfl⟩ | ⟨rfl,rfl⟩ <;> lia
inductive zf8 (K:W.Frag) (C:Addr):Sp|m{vs H Q E9} (p tl al rl q r l:Addr) (T:List Tm) (As:List At) (Rs:List (List Int)) (ps rs:List Int) (lk:Lk):vs=[.ref p,.ref q,.ref r,.ref l]→PrD K C H p tl al rl T As Rs→SqI K H q ps→SqL K H r (rs.map V.int)→rs.length=T.length→SqT K H l [.int lk.1,.int lk.2.1,.int lk.2.2]→zcf T.length As.length lk→(∀ H',ah H H'→Q (.bl (zbq (rf rs) ps T As lk)) H')→zf8 K C vs H Q E9
theorem zd2:aO ["_law_problem","_law_parts","_law_roots","_law_link","_law_atom"] ["_law_problem","_law_parts","_law_roots","_law_link"] (au zdf):=fsc
theorem zlw (F:Fun K "_law_link_right" "_law_link_right" zdf f fd) (T:Txt K mg aK C CN CT CP CM) (msort:mg "sorted"=none) (mA:mg "_law_alike"=some (.ref fA)) (BA:aQ P w K mg base CX0 1 fA dA' ["_law_terms","_law_roots","_law_one","_law_other"] (zeW K)) (bA:aF K dA' ["_law_terms","_law_roots","_law_one","_law_other"] []) (kA:W.keepIn K (.ref fA)=true):aQ P w K mg base CX0 2 f fd ["_law_problem","_law_parts","_law_roots","_law_link"] (zf8 K C):=by
 refine F.ok zd2 (λvs H Q E h=>?_) (λcdv A outer s H vs Q E hr h=>?_)
 ·obtain⟨p,tl,al,rl,q,r,l,T',As,Rs,ps,rs,lk,rfl,_⟩:=h
  rfl
 obtain⟨p,tl,al,rl,q,r,l,T',As,Rs,ps,rs,lk,rfl,S,hq,hR,rl',hl,lin,Q0⟩:=h
 have hu:=zfs hr
 refine⟨_,(ae (aL (aw zag (aq az (pv 3) ad) ad)
   (ag (ay (aB BA hr rfl mA kA bA .nil aI (aa (aR (pv 0) rfl) (aa (pv 2) (aa (aq az (pv 3) ad) (aa (aq az (pv 3) ad) ac)))))))
   aA)
  (ae (aE (i:=4) zd2.nd rfl (Or.inl rfl) (aq zaa (aR (pv 0) rfl) (ar zbM (aq az (pv 3) ad) ad)))
  (ae (aL (PW.pt (zbc (aw zbP (zbk zaQ (aq az (pv 3) ad)) (pv 1) rfl) (za4 (aw zcB (aq az (pv 4) ad) zac))))
   (ag (ay zav))
   aA)
  (ag (ay (zaz (zdj hu) (ap zgn rfl msort PyProof.Rows.Boot.sorted (aa (zaq (aa (aq az (pv 3) ad) (aa (aq az (pv 3) ad) ac))) ac)) (ap zgn rfl msort PyProof.Rows.Boot.sorted (aa (zaq (aa (aq az (pv 4) ad) (aa (aq az (pv 4) ad) ac))) ac)) rfl)))))),?_⟩
 try dsimp only [Cx.nox,Cx.wish,aX]
 obtain⟨⟨dx,ho⟩,⟨xs,ht,hT⟩,⟨ys,ha,hA⟩,_⟩:=id S.pr
 have yl:ys.length=As.length:=by rw[←hA.length,lM]
 obtain⟨i1,i2,i3,i4⟩:=id lin
 simp only[zd0 lin.1 lin.2.1]at Q0
 unfold zer at Q0
 refine⟨_,rfl,l,_,_,_,rfl,rfl,hl,l2 lk,rfl,_,rfl,aJ (λc=>?_) (λc=>?_)⟩
 ·have c':lk.2.2=0:=by have:=oDq c;injection this
  rw[if_pos c']at Q0
  exact⟨_,rfl,p,C,dx,_,_,rfl,ho,T.cl,T.nT,zaK _ _ _,_,rfl,_,rfl,l,_,_,_,rfl,rfl,hl,l0 lk,_,rfl,l,_,_,_,rfl,rfl,hl,l1 lk,tl,r,xs,T',rs,lk.1,lk.2.1,rfl,SqL.of ht,hT,S.dm.tm,S.t3,hR,rl',i1,i2,Q0⟩
 have c':¬lk.2.2=0:=λz=>c (by rw[z];exact dTq rfl)
 rw[if_neg c']at Q0
 obtain⟨a,e1,e2,e3⟩:=ziA (As:=As) (k:=lk.2.2) (by lia) i4
 obtain⟨x,x1,x2⟩:=zbe (xs:=ys) (i:=lk.2.2 - 1) (by lia) (by lia)
 obtain⟨a',ea,hax⟩:=zfl hA x1
 rw[e1]at ea
 cases ea
 unfold zeP at Q0
 rw[e3]at Q0
 refine⟨_,rfl,p,C,dx,_,_,rfl,ho,T.cl,T.nA,zad _ _ _,_,rfl,l,_,_,_,rfl,rfl,hl,l2 lk,_,_,rfl,rfl,al,_,_,_,rfl,rfl,SqL.of ha,x2,?_⟩
 refine⟨_,rfl,l,_,_,_,rfl,rfl,hl,l2 lk,_,rfl,_,rfl,q,_,rfl,hq,rfl,zgk _,_,rfl,?_⟩
 show if(!inV (.int (-lk.2.2)) (ps.map V.int))=true then _ else _
 rw[zco]
 by_cases hin:¬-lk.2.2∈ps
 ·rw[dFq hin]
  refine aS (aS ?_)
  have:=Q0 H (ah.refl H)
  rw[dFq hin]at this
  exact this
 replace hin:=Classical.not_not.mp hin
 rw[dTq hin]at Q0 ⊢
 cases a with
 | plain z =>
  obtain⟨qq,rfl,hqq⟩:=zcS hax
  refine aV ⟨_,rfl,qq,_,_,_,rfl,rfl,hqq,aH (j:=0) rfl,rfl,_,rfl,aJ (λc=>?_) (λc=>?_)⟩
  ·exact Q0 H (ah.refl H)
  ·exact absurd (by decide +kernel) c
 | same x y =>
  obtain⟨qq,rfl,hqq⟩:=zdq hax
  refine aV ⟨_,rfl,qq,_,_,_,rfl,rfl,hqq,aH (j:=0) rfl,rfl,_,rfl,aJ (λc=>?_) (λc=>?_)⟩
  ·exact absurd c (by decide +kernel)
  refine⟨_,rfl,l,_,_,_,rfl,rfl,hl,l0 lk,_,rfl,l,_,_,_,rfl,rfl,hl,l1 lk,lS2,λd hd=>?_⟩
  have s1:=ai hd (.lst [.int lk.1,.int lk.2.1])
  have n1:=af (H:=H) (a:=d) (o:=.lst [.int lk.1,.int lk.2.1])
  generalize upd H d (.lst [.int lk.1,.int lk.2.1])=H1 at s1 n1
  refine⟨d,[lk.1,lk.2.1],rfl,SqL.of n1,(by simp),λm ms hm pm so=>?_⟩
  have s2:=s1.trans (ai hm (.lst (ms.map V.int)))
  have n2:=af (H:=H1) (a:=m) (o:=.lst (ms.map V.int))
  generalize upd H1 m (.lst (ms.map V.int))=H2 at s2 n2
  have hqq2:=s2.tup hqq
  refine⟨_,rfl,qq,_,_,_,rfl,rfl,hqq2,aH (j:=1) rfl,_,rfl,qq,_,_,_,rfl,rfl,hqq2,aH (j:=2) rfl,lS2,λe he=>?_⟩
  have s3:=ai he (.lst [.int x,.int y])
  have n3:=af (H:=H2) (a:=e) (o:=.lst [.int x,.int y])
  generalize upd H2 e (.lst [.int x,.int y])=H3 at s3 n3
  refine⟨e,[x,y],rfl,SqL.of n3,(by simp),λn ns hn pn sn=>?_⟩
  have s4:=s3.trans (ai hn (.lst (ns.map V.int)))
  have n4:=af (H:=H3) (a:=n) (o:=.lst (ns.map V.int))
  generalize upd H3 n (.lst (ns.map V.int))=H4 at s4 n4
  refine⟨_,_,Has.lst' (SqL.of (s4 _ _ n2)) (ao.ints _),Has.lst' (SqL.of n4) (ao.ints _),(by simp only[dep,zbA];decide),?_⟩
  show Q (.bl (zbJ (ms.map Dt.int) (ns.map Dt.int))) H4
  rw[zh2,sort2 pm so pn sn]
  exact Q0 H4 (s2.trans s4)
def PIn (m:Nat) (p:Int):Prop:=p≠0∧-(m:Int)≤p∧p≤(m:Int)
inductive zeV (K:W.Frag) (C:Addr):Sp|m{vs H Q E9} (p tl al rl q l:Addr) (T:List Tm) (As:List At) (Rs:List (List Int)) (ps:List Int) (xs:List V) (ls:List Lk):vs=[.ref p,.ref q,.ref l]→PrD K C H p tl al rl T As Rs→SqI K H q ps→(∀ k∈ps,PIn As.length k)→(SqL K H l xs∨SqT K H l xs)→ao K H (ls.map dL) xs→(∀ lk∈ls,zcf T.length As.length lk)→(∀ H',ah H H'→Q (.bl (eqF rtm ps T As ls (λt=>t))) H')→zeV K C vs H Q E9
theorem zbZ:aO ["_law_problem","_law_parts","_law_bonds","_law_roots","_law_link","_law_part","_law_atom"] ["_law_problem","_law_parts","_law_bonds"] (au zeK):=fsc
def zdv (n:Nat):List Int:=(List.range n).map λi:Nat=>(i:Int)
theorem rf_rng {n:Nat} {t:Int} (h:InR n t):rf (zdv n) t=t:=by
 obtain⟨h0,h1⟩:=h
 unfold rf zdv
 rw[List.getD_eq_getElem?_getD,List.getElem?_map,List.getElem?_range (by lia)]
 show((t.toNat:Nat):Int)=t
 lia
theorem zez (n:Nat):(zdv n).length=n:=by simp [zdv]
theorem zlW {g:Int→Int} {ps:List Int} {As:List At} (h:∀ i:Nat,∀ k,ps[i]?=some k→zb1 g As k=false):zfu g ps As=false:=by
 unfold zfu
 rw[List.any_eq_false]
 intro b hb
 obtain⟨k,hk,rfl⟩:=List.mem_map.mp hb
 obtain⟨i,hi⟩:=List.mem_iff_getElem?.mp hk
 rw[h i k hi]
 simp
theorem znt {g:Int→Int} {ps:List Int} {As:List At} {k:Int} (hk:k∈ps) (h:zb1 g As k=true):zfu g ps As=true:=by
 unfold zfu
 rw[List.any_eq_true]
 exact⟨_,List.mem_map.mpr ⟨k,hk,rfl⟩,h⟩
theorem zlz (F:Fun K "_law_equal" "_law_equal" zeK f fd) (T:Txt K mg aK C CN CT CP CM) (mlist:mg "list"=none) (mrange:mg "range"=none) (mabs:mg "abs"=none) (mR:mg "_law_link_right"=some (.ref fR)) (BR:aQ P w K mg base CX0 2 fR dR' ["_law_problem","_law_parts","_law_roots","_law_link"] (zf8 K C)) (bR:aF K dR' ["_law_problem","_law_parts","_law_roots","_law_link"] []) (kR:W.keepIn K (.ref fR)=true)
  (mM:mg "_law_merged"=some (.ref fM)) (BM:aQ P w K mg base CX0 1 fM dM ["_law_roots","_law_one","_law_other"] (zed K)) (bM:aF K dM ["_law_roots","_law_one","_law_other"] []) (kM:W.keepIn K (.ref fM)=true):aQ P w K mg base CX0 3 f fd ["_law_problem","_law_parts","_law_bonds"] (zeV K C):=by
 refine F.ok zbZ (λvs H Q E h=>?_) (λcdv A outer s H vs Q E hr h=>?_)
 ·obtain⟨p,tl,al,rl,q,l,T',As,Rs,ps,xs,ls,rfl,_⟩:=h
  rfl
 obtain⟨p,tl,al,rl,q,l,T',As,Rs,ps,xs,ls,rfl,S,hq,pin,hl,hL,hin,Q0⟩:=h
 have xl:xs.length=ls.length:=by rw[←hL.length,lM]
 have hr1:ba 1 _:=hr.mono (by decide)
 refine⟨_,(ae (aE (i:=3) zbZ.nd rfl (Or.inl rfl) (zai (zfN rfl) rfl mlist PyProof.Rows.Boot.list (aa (zh3 rfl mrange (aa (ap aj rfl T.len bL (aa (aR (pv 0) rfl) ac)) ac)) ac)))
  (ae (zaB PassesOwn.never rfl (zgx (pv 2)) (zaj (i:=4) zbZ.nd rfl (Or.inl rfl))
   (ae (aL (zaS (zaI (aB BR hr rfl mR kR bR .nil aI (aa (pv 0) (aa (pv 1) (aa (pv 3) (aa (pv 4) ac)))))))
     (ag (ay zav))
     aA)
    (ag (aE (i:=3) zbZ.nd rfl (Or.inl rfl) (aB BM hr1 rfl mM kM bM .nil aI (aa (pv 3) (aa (aq az (pv 4) ad) (aa (aq az (pv 4) ad) ac))))))))
  (ae (zaB PassesOwn.never rfl (zgx (pv 1)) (zaj (i:=5) zbZ.nd rfl (Or.inl rfl))
   (ae (aE (i:=6) zbZ.nd rfl (Or.inl rfl) (aq zaa (aR (pv 0) rfl) (ar zbM (ap zdK rfl mabs PyProof.Rows.Boot.abs (aa (pv 5) ac)) ad)))
    (ag (aL (PW.pt (zaR (aw zcC (pv 5) ad) (zaR (aw zag (aq az (pv 6) ad) zac) (zaV (aw zag (aq zaa (pv 3) (aq az (pv 6) ad)) (aq zaa (pv 3) (aq az (pv 6) ad)))))))
     (ag (ay zav))
     aA))))
  (ag (ay zav))))),?_⟩
 try dsimp only [Cx.nox,Cx.wish,aX]
 obtain⟨⟨dx,ho⟩,⟨ts,ht,hT⟩,⟨ys,ha,hA⟩,_⟩:=id S.pr
 have tl':ts.length=T'.length:=by rw[←hT.length,lM]
 have yl:ys.length=As.length:=by rw[←hA.length,lM]
 refine⟨_,rfl,p,C,dx,_,_,rfl,ho,T.cl,T.nT,zaK _ _ _,tl,_,rfl,.inl (SqL.of ht),_,rfl,λr0 hr0=>?_⟩
 have s0:=ai hr0 (.rng 0 ((ts.length:Nat):Int))
 have n0:=af (H:=H) (a:=r0) (o:=.rng 0 ((ts.length:Nat):Int))
 generalize upd H r0 (.rng 0 ((ts.length:Nat):Int))=H0 at s0 n0
 have tN:=S.tN
 refine⟨r0,_,rfl,n0,(by lia),(by lia),λr1 hr1'=>?_⟩
 have e0:(((List.range (((ts.length:Nat):Int)).toNat).map λi:Nat=>(i:Int)).map V.int)=(zdv T'.length).map V.int:=by
  rw[Int.toNat_natCast,tl']
  rfl
 rw[e0]
 have s1:=s0.trans (ai hr1' (.lst ((zdv T'.length).map V.int)))
 have n1:=af (H:=H0) (a:=r1) (o:=.lst ((zdv T'.length).map V.int))
 generalize upd H0 r1 (.lst ((zdv T'.length).map V.int))=H1 at s1 n1
 have z0:eqF rtm ps T' As ls (λt=>t)=eqF rtm ps T' As ls (rf (zdv T'.length)):=zhP S.dm ps ls hin λt ht=>(rf_rng ht).symm
 refine⟨_,rfl,l,xs,rfl,hl.imp s1.seq s1.tup,λJ ⟨Ok,W,ok,yJ⟩=>zev W (λi σ H'=>∃(v4:Option V) (r:Addr) (rs:List Int),σ=[some (.ref p),some (.ref q),some (.ref l),some (.ref r),v4,none,none]∧ah H1 H'∧H' r=some (.lst (rs.map V.int))∧rs.length=T'.length∧eqF rtm ps T' As ls (λt=>t)=eqF rtm ps T' As (ls.drop i) (rf rs)) (λi σ H' ⟨_,_,_,_,s2,_⟩=>ok _ s2) ⟨none,r1,_,rfl,ah.refl _,n1,zez _,z0⟩ ?_ ?_⟩
 ·rintro i σ H9 x H2 hi ⟨v4,r,rs,rfl,t2,hr2,rl',eF⟩ yy
  obtain⟨rfl,hx⟩:=yJ _ _ _ _ t2 yy
  have s2:=s1.trans t2
  obtain⟨lk,pl,hlk,rfl,hp⟩:=zis hL hx
  have hp2:=s2.tup hp
  have lin:=hin lk (mOq hlk)
  rw[zj4 hlk]at eF
  refine⟨_,rfl,_,rfl,_,rfl,_,rfl,p,tl,al,rl,q,r,pl,T',As,Rs,ps,rs,lk,rfl,S.same s2,hq.same s2,SqL.of hr2,rl',hp2,lin,λH3 s3=>⟨_,rfl,?_⟩⟩
  refine aJ (λc=>?_) (λc=>?_)
  ·have c':¬zbq (rf rs) ps T' As lk=true:=λz=>by rw[z]at c;cases c
   have:=Q0 H3 (s2.trans s3)
   rw[eF,zib c']at this
   exact this
  ·have c':zbq (rf rs) ps T' As lk=true:=by
    cases z:zbq (rf rs) ps T' As lk with
    | true=>rfl
    | false=>exact absurd (by rw[z];rfl) c
   rw[zjf c']at eF
   have hp3:=s3.tup hp2
   refine⟨_,rfl,_,rfl,pl,_,_,_,rfl,rfl,hp3,l0 lk,_,rfl,pl,_,_,_,rfl,rfl,hp3,l1 lk,r,rs,lk.1,lk.2.1,rfl,SqL.of (s3 _ _ hr2),by rw[rl'];exact lin.1,by rw[rl'];exact lin.2.1,(by have:=S.tN;lia),λH4 r4 s4 _ hr4=>?_⟩
   refine⟨_,r4,_,rfl,(t2.trans s3).trans s4,hr4,by rw[zhx];exact rl',?_⟩
   rw[eF]
   exact zhP S.dm ps _ (λu hu=>hin u (List.mem_of_mem_drop hu)) λt ht=>(zl6 (by rw[rl'];exact ht)).symm
 ·rintro σ H2 ⟨v4,r,rs,rfl,t2,hr2,rl',eF⟩
  have s2:=s1.trans t2
  rw[xl,List.drop_length]at eF
  have eF':eqF rtm ps T' As ls (λt=>t)=zfu (rf rs) ps As:=eF
  have hq2:=hq.same s2
  refine⟨_,rfl,q,ps.map V.int,rfl,hq2,λJ ⟨Ok,W,ok,yl'⟩=>zev W (λi σ H'=>∃(v5 v6:Option V),σ=[some (.ref p),some (.ref q),some (.ref l),some (.ref r),v4,v5,v6]∧H'=H2∧∀ j,j < i→∀ k,ps[j]?=some k→zb1 (rf rs) As k=false) (λi σ H' ⟨_,_,_,e,_⟩=>e ▸ ok _ (ah.refl _)) ⟨none,none,rfl,rfl,λj hj=>absurd hj (by lia)⟩ ?_ ?_⟩
  ·rintro i σ H9 x H3 hi ⟨v5,v6,rfl,rfl,hf⟩ yy
   obtain⟨rfl,hx⟩:=yl' _ _ _ _ (ah.refl _) yy
   obtain⟨k,hk,rfl⟩:=zaW hx
   have km:=mOq hk
   obtain⟨p0,p1,p2⟩:=pin k km
   have S2:=(S.same s2).pr
   obtain⟨⟨dx2,ho2⟩,_,⟨ys2,ha2,hA2⟩,_⟩:=id S2
   have yl2:ys2.length=As.length:=by rw[←hA2.length,lM]
   have eabs:(if k < 0 then -k else k)=((k.natAbs:Nat):Int):=by split <;> lia
   obtain⟨x,x1,x2⟩:=zbe (xs:=ys2) (i:=((k.natAbs:Nat):Int) - 1) (by lia) (by lia)
   obtain⟨a,ea,hax⟩:=zfl hA2 x1
   have x2':atI ys2 ((if k < 0 then -k else k) - 1)=some x:=by rw[eabs];exact x2
   have more:zb1 (rf rs) As k=false→∀ j,j < i+1→∀ k',ps[j]?=some k'→zb1 (rf rs) As k'=false:=λz j hj k' hk'=>by
    by_cases e:j=i
    ·subst e;rw[hk]at hk';cases hk';exact z
    ·exact hf j (by lia) k' hk'
   refine⟨_,rfl,p,C,dx2,_,_,rfl,ho2,T.cl,T.nA,zad _ _ _,_,rfl,_,rfl,_,_,rfl,rfl,al,_,_,_,rfl,rfl,SqL.of ha2,x2',?_⟩
   refine⟨_,rfl,_,_,rfl,rfl,_,rfl,aJ (λc=>?_) (λc=>aV ?_)⟩
   ·have c':0 < k:=oDq c
    have ek:(((k.natAbs:Nat):Int) - 1).toNat=(k - 1).toNat:=by lia
    obtain⟨a2,e1,e2,e3⟩:=ziA (As:=As) (k:=k) (by lia) p2
    rw[ek,e1]at ea
    cases ea
    cases a with
    | plain z =>
     obtain⟨qq,rfl,hqq⟩:=zcS hax
     refine⟨_,rfl,qq,_,_,_,rfl,rfl,hqq,aH (j:=0) rfl,rfl,_,rfl,aJ (λc=>absurd (oDq c) (by decide +kernel)) (λc=>aV ⟨_,_,rfl,rfl,more ?_⟩)⟩
     unfold zb1
     rw[e3]
    | same x y =>
     obtain⟨qq,rfl,hqq⟩:=zdq hax
     have hrr:SqL K H3 r (rs.map V.int):=SqL.of hr2
     obtain⟨in1,in2⟩:=S.dm.am x y e2
     rw[←rl']at in1 in2
     refine⟨_,rfl,qq,_,_,_,rfl,rfl,hqq,aH (j:=0) rfl,rfl,_,rfl,aJ (λc=>⟨_,rfl,_,rfl,qq,_,_,_,rfl,rfl,hqq,aH (j:=1) rfl,r,_,_,_,rfl,rfl,hrr,zdx in1,_,rfl,_,rfl,qq,_,_,_,rfl,rfl,hqq,aH (j:=2) rfl,r,_,_,_,rfl,rfl,hrr,zdx in2,rfl,_,rfl,aJ (λc3=>?_) (λc3=>?_)⟩) (λc=>absurd (dTq rfl) c)⟩
     ·have c4:rf rs x=rf rs y:=by have:=oDq c3;injection this
      have:=Q0 H3 s2
      rw[eF',znt km (by unfold zb1;rw[e3];exact dTq c4)]at this
      exact this
     ·have c4:¬rf rs x=rf rs y:=λz=>c3 (by rw[z];exact dTq rfl)
      refine⟨_,_,rfl,rfl,more ?_⟩
      unfold zb1
      rw[e3]
      exact dFq c4
   ·have c':¬0 < k:=λz=>c (dTq z)
    refine⟨_,_,rfl,rfl,more ?_⟩
    have:smF As k=none:=by unfold smF;rw[if_neg (by lia)]
    unfold zb1
    rw[this]
  ·rintro σ H3 ⟨v5,v6,rfl,rfl,hf⟩
   have:=Q0 H3 s2
   rw[eF',zlW λi k hk=>hf i (by rw[lM];exact(gEq hk).1) k hk]at this
   exact this
theorem Has.link {H:Hp} {a:Addr} {lk:Lk} (h:SqT K H a [.int lk.1,.int lk.2.1,.int lk.2.2]):Has K H (dL lk) (.ref a):=Has.tup' h (.cons .int (.cons .int (.cons .int .nil)))
theorem zns {H:Hp} {As:List At} {ys:List V} {k:Int} (hA:ao K H (As.map dA) ys) (h:PIn As.length k):∃ x a,atI ys ((if k < 0 then -k else k) - 1)=some x∧a∈As∧Has K H (dA a) x∧As[(((k.natAbs:Nat):Int) - 1).toNat]?=some a:=by
 obtain⟨p0,p1,p2⟩:=h
 have yl:ys.length=As.length:=by rw[←hA.length,lM]
 have eabs:(if k < 0 then -k else k)=((k.natAbs:Nat):Int):=by split <;> lia
 obtain⟨x,x1,x2⟩:=zbe (xs:=ys) (i:=((k.natAbs:Nat):Int) - 1) (by lia) (by lia)
 obtain⟨a,ea,hax⟩:=zfl hA x1
 exact⟨x,a,by rw[eabs];exact x2,mOq ea,hax,ea⟩
inductive zhH (K:W.Frag) (C:Addr):Sp|m{vs H Q E9} (p tl al rl q r:Addr) (T:List Tm) (As:List At) (Rs:List (List Int)) (ps rs:List Int):vs=[.ref p,.ref q,.ref r]→PrD K C H p tl al rl T As Rs→SqI K H q ps→(∀ k∈ps,PIn As.length k)→SqL K H r (rs.map V.int)→rs.length=T.length→(∀ H',ah H H'→Q .non H')→(∀(H':Hp) (l:Addr) (lk:Lk),ah H H'→SqT K H' l [.int lk.1,.int lk.2.1,.int lk.2.2]→zcf T.length As.length lk→Q (.ref l) H')→zhH K C vs H Q E9
theorem zcT:aO ["_law_problem","_law_parts","_law_roots","_law_part","_law_atom","_law_one","_law_other"] ["_law_problem","_law_parts","_law_roots"] (au zfb):=fsc
theorem zm8 (F:Fun K "_law_next" "_law_next" zfb f fd) (T:Txt K mg aK C CN CT CP CM) (mrange:mg "range"=none) (mabs:mg "abs"=none) (BA:FB P w K mg base CX0 1 "_law_alike" fA dA' ["_law_terms","_law_roots","_law_one","_law_other"] (zeW K)):aQ P w K mg base CX0 2 f fd ["_law_problem","_law_parts","_law_roots"] (zhH K C):=by
 refine F.ok zcT (λvs H Q E h=>?_) (λcdv A outer s H vs Q E hr h=>?_)
 ·obtain⟨p,tl,al,rl,q,r,T',As,Rs,ps,rs,rfl,_⟩:=h
  rfl
 obtain⟨p,tl,al,rl,q,r,T',As,Rs,ps,rs,rfl,S,hq,pin,hR,rl',q0,q1⟩:=h
 refine⟨_,(ae (zaB PassesOwn.never rfl (zgx (pv 1)) (zaj (i:=3) zcT.nd rfl (Or.inl rfl))
   (ae (aE (i:=4) zcT.nd rfl (Or.inl rfl) (aq zaa (aR (pv 0) rfl) (ar zbM (ap zdK rfl mabs PyProof.Rows.Boot.abs (aa (pv 3) ac)) ad)))
    (ag (aL (PW.pt (zaR (aw zbR (pv 3) ad) (zaR (aw zag (aq az (pv 4) ad) zac) (zaV (aw zcB (aq zaa (pv 2) (aq az (pv 4) ad)) (aq zaa (pv 2) (aq az (pv 4) ad)))))))
     (ag (ay (zal (aa (aq az (pv 4) ad) (aa (aq az (pv 4) ad) (aa (zbk zaQ (pv 3)) ac))))))
     aA))))
  (ae (zaB PassesOwn.never rfl (zbi rfl mrange (aa (ap aj rfl T.len bL (aa (pv 2) ac)) ac)) (zaj (i:=5) zcT.nd rfl (Or.inl rfl))
   (ag (zaB PassesOwn.never rfl (zbi rfl mrange (aa (pv 5) ac)) (zaj (i:=6) zcT.nd rfl (Or.inl rfl))
     (ag (aL (PW.pt (zaR (aw zcB (aq zaa (pv 2) (pv 5)) (aq zaa (pv 2) (pv 6))) (zaV (zaI (aB BA.ok hr rfl BA.m BA.kp BA.b .nil aI (aa (aR (pv 0) rfl) (aa (pv 2) (aa (pv 5) (aa (pv 6) ac)))))))))
       (ag (ay (zal (aa (pv 5) (aa (pv 6) (aa ad ac))))))
       aA)))))
  (ag (ay zbG)))),?_⟩
 try dsimp only [Cx.nox,Cx.wish,aX]
 obtain⟨⟨dx,ho⟩,⟨ts,ht,hT⟩,⟨ys,ha,hA⟩,_⟩:=id S.pr
 have tN:=S.tN
 refine⟨_,rfl,q,ps.map V.int,rfl,hq,λJ ⟨Ok,W,ok,yl'⟩=>zev W (λi σ H'=>∃(v3 v4:Option V),σ=[some (.ref p),some (.ref q),some (.ref r),v3,v4,none,none]∧H'=H) (λi σ H' ⟨_,_,_,e⟩=>e ▸ ok _ (ah.refl _)) ⟨none,none,rfl,rfl⟩ ?_ ?_⟩
 ·rintro i σ H9 x H3 hi ⟨v3,v4,rfl,rfl⟩ yy
  obtain⟨rfl,hx⟩:=yl' _ _ _ _ (ah.refl _) yy
  obtain⟨k,hk,rfl⟩:=zaW hx
  have pk:=pin k (mOq hk)
  obtain⟨x,a,x2,am,hax,_⟩:=zns hA pk
  refine⟨_,rfl,p,C,dx,_,_,rfl,ho,T.cl,T.nA,zad _ _ _,_,rfl,_,rfl,_,_,rfl,rfl,al,_,_,_,rfl,rfl,SqL.of ha,x2,?_⟩
  refine⟨_,rfl,_,_,rfl,rfl,_,rfl,aJ (λc=>?_) (λc=>aV ⟨_,_,rfl,rfl⟩)⟩
  have c':k < 0:=oDq c
  cases a with
  | plain z =>
   obtain⟨qq,rfl,hqq⟩:=zcS hax
   exact⟨_,rfl,qq,_,_,_,rfl,rfl,hqq,aH (j:=0) rfl,rfl,_,rfl,aJ (λc=>absurd (oDq c) (by decide +kernel)) (λc=>aV ⟨_,_,rfl,rfl⟩)⟩
  | same x y =>
   obtain⟨qq,rfl,hqq⟩:=zdq hax
   obtain⟨in1,in2⟩:=S.dm.am x y am
   have i1:=in1
   have i2:=in2
   rw[←rl']at i1 i2
   refine⟨_,rfl,qq,_,_,_,rfl,rfl,hqq,aH (j:=0) rfl,rfl,_,rfl,aJ (λc=>⟨_,rfl,_,rfl,qq,_,_,_,rfl,rfl,hqq,aH (j:=1) rfl,r,_,_,_,rfl,rfl,hR,zdx i1,_,rfl,_,rfl,qq,_,_,_,rfl,rfl,hqq,aH (j:=2) rfl,r,_,_,_,rfl,rfl,hR,zdx i2,rfl,_,rfl,aJ (λc3=>?_) (λc3=>⟨_,_,rfl,rfl⟩)⟩) (λc=>absurd (dTq rfl) c)⟩
   refine⟨_,rfl,qq,_,_,_,rfl,rfl,hqq,aH (j:=1) rfl,_,rfl,qq,_,_,_,rfl,rfl,hqq,aH (j:=2) rfl,_,rfl,_,rfl,lS3,λl hl=>?_⟩
   obtain⟨p0,p1,p2⟩:=pk
   exact q1 _ l (x,y,-k) (ai hl _) (SqT.of af) ⟨in1,in2,by show 0≤-k;lia,by show -k≤_;lia⟩
 ·rintro σ H2 ⟨v3,v4,rfl,rfl⟩
  refine⟨_,rfl,r,_,rfl,.inl hR,_,rfl,(by lia),(by rw[lM];lia),za6 (lo:=0) (n:=(((rs.map V.int).length:Nat):Int).toNat) (λi σ H'=>∃(v5 v6:Option V),σ=[some (.ref p),some (.ref q),some (.ref r),v3,v4,v5,v6]∧ah H2 H') ⟨none,none,rfl,ah.refl _⟩ ?_ ?_⟩
  ·rintro i σ H3 hi ⟨v5,v6,rfl,s3⟩
   rw[Int.toNat_natCast,lM]at hi
   refine⟨_,rfl,_,rfl,(by show -(2 ^ 62)≤(0:Int)+(i:Nat);lia),(by show(0:Int)+(i:Nat) < 2 ^ 62;lia),za6 (lo:=0) (n:=((0:Int)+((i:Nat):Int)).toNat) (λj σ H'=>∃(v6:Option V),σ=[some (.ref p),some (.ref q),some (.ref r),v3,v4,some (.int ((0:Int)+((i:Nat):Int))),v6]∧ah H2 H') ⟨_,rfl,s3⟩ ?_ ?_⟩
   ·rintro j σ H4 hj ⟨v6,rfl,s4⟩
    have ii:InR rs.length ((0:Int)+((i:Nat):Int)):=⟨by lia,by lia⟩
    have jj:InR rs.length ((0:Int)+((j:Nat):Int)):=⟨by lia,by lia⟩
    have hR4:=s4.seq hR
    refine⟨_,rfl,_,rfl,r,_,_,_,rfl,rfl,hR4,zdx ii,_,rfl,_,rfl,r,_,_,_,rfl,rfl,hR4,zdx jj,rfl,_,rfl,aJ (λc=>?_) (λc=>aV ⟨_,rfl,s4⟩)⟩
    rw[rl']at ii jj
    refine⟨_,rfl,p,C,dx,_,_,rfl,s4 _ _ ho,T.cl,T.nT,zaK _ _ _,_,rfl,_,rfl,_,rfl,tl,r,ts,T',rs,_,_,rfl,SqL.of (s4 _ _ ht),hT.keep s4.kt (zdo _),S.dm.tm,S.t3,hR4,rl',ii,jj,λH5 s5=>⟨_,rfl,aJ (λc2=>?_) (λc2=>⟨_,rfl,s4.trans s5⟩)⟩⟩
    refine⟨_,rfl,_,rfl,lS3,λl hl=>?_⟩
    exact q1 _ l (0+((i:Nat):Int),0+((j:Nat):Int),0) ((s4.trans s5).trans (ai hl _)) (SqT.of af) ⟨ii,jj,by show(0:Int)≤0;lia,by show(0:Int)≤_;lia⟩
   ·rintro σ H4 ⟨v6,rfl,s4⟩
    exact⟨_,_,rfl,s4⟩
  ·rintro σ H3 ⟨v5,v6,rfl,s3⟩
   exact q0 H3 s3
inductive zf9 (K:W.Frag) (C:Addr):Sp|m{vs H Q E9} (p tl al rl q:Addr) (T:List Tm) (As:List At) (Rs:List (List Int)) (ps:List Int):vs=[.ref p,.ref q]→PrD K C H p tl al rl T As Rs→SqI K H q ps→(∀ k∈ps,PIn As.length k)→(∀(H':Hp) (l:Addr) (us:List V) (ls:List Lk),ah H H'→H l=none→H' l=some (.lst us)→ao K H' (ls.map dL) us→(∀ lk∈ls,zcf T.length As.length lk)→ls.length≤T.length→Q (.ref l) H')→zf9 K C vs H Q E9
theorem zbY:aO ["_law_problem","_law_parts","_law_roots","_law_bonds","_law_step","_law_link"] ["_law_problem","_law_parts"] (au zeI):=fsc
theorem zlx (F:Fun K "_law_links" "_law_links" zeI f fd) (T:Txt K mg aK C CN CT CP CM) (mlist:mg "list"=none) (mrange:mg "range"=none) (BN:FB P w K mg base CX0 2 "_law_next" fN dN ["_law_problem","_law_parts","_law_roots"] (zhH K C)) (BM:FB P w K mg base CX0 1 "_law_merged" fM dM ["_law_roots","_law_one","_law_other"] (zed K)):aQ P w K mg base CX0 3 f fd ["_law_problem","_law_parts"] (zf9 K C):=by
 refine F.ok zbY (λvs H Q E h=>?_) (λcdv A outer s H vs Q E hr h=>?_)
 ·obtain⟨p,tl,al,rl,q,T',As,Rs,ps,rfl,_⟩:=h
  rfl
 obtain⟨p,tl,al,rl,q,T',As,Rs,ps,rfl,S,hq,pin,Q0⟩:=h
 have hr1:ba 1 _:=hr.mono (by decide)
 refine⟨_,(ae (aE (i:=2) zbY.nd rfl (Or.inl rfl) (zai (zfN rfl) rfl mlist PyProof.Rows.Boot.list (aa (zh3 rfl mrange (aa (ap aj rfl T.len bL (aa (aR (pv 0) rfl) ac)) ac)) ac)))
  (ae (aE (i:=3) zbY.nd rfl (Or.inl rfl) (zaq ac))
  (ae (zaB PassesOwn.never rfl (zbi rfl mrange (aa (ap aj rfl T.len bL (aa (pv 2) ac)) ac)) (zaj (i:=4) zbY.nd rfl (Or.inl rfl))
   (ae (aE (i:=5) zbY.nd rfl (Or.inl rfl) (aB BN.ok hr rfl BN.m BN.kp BN.b .nil aI (aa (pv 0) (aa (pv 1) (aa (pv 2) ac)))))
    (ae (aL (aw zfY (pv 5) zbG)
     (ag (ay (pv 3)))
     aA)
    (ae (zap (zcj PySem.F.plainAttrs_list PySem.F.slot_list_append PySem.F.type_list_append za5 (pv 3) (aa (pv 5) ac)))
    (ag (aE (i:=2) zbY.nd rfl (Or.inl rfl) (aB BM.ok hr1 rfl BM.m BM.kp BM.b .nil aI (aa (pv 2) (aa (aq az (pv 5) ad) (aa (aq az (pv 5) ad) ac))))))))))
  (ag (ay (pv 3)))))),?_⟩
 try dsimp only [Cx.nox,Cx.wish,aX]
 obtain⟨⟨dx,ho⟩,⟨ts,ht,hT⟩,_⟩:=id S.pr
 have tl':ts.length=T'.length:=by rw[←hT.length,lM]
 have tN:=S.tN
 refine⟨_,rfl,p,C,dx,_,_,rfl,ho,T.cl,T.nT,zaK _ _ _,tl,_,rfl,.inl (SqL.of ht),_,rfl,λr0 hr0=>?_⟩
 have s0:=ai hr0 (.rng 0 ((ts.length:Nat):Int))
 have n0:=af (H:=H) (a:=r0) (o:=.rng 0 ((ts.length:Nat):Int))
 generalize upd H r0 (.rng 0 ((ts.length:Nat):Int))=H0 at s0 n0
 refine⟨r0,_,rfl,n0,(by lia),(by lia),λr1 hr1'=>?_⟩
 have e0:(((List.range (((ts.length:Nat):Int)).toNat).map λi:Nat=>(i:Int)).map V.int)=(zdv T'.length).map V.int:=by
  rw[Int.toNat_natCast,tl']
  rfl
 rw[e0]
 have s1:=s0.trans (ai hr1' (.lst ((zdv T'.length).map V.int)))
 have n1:=af (H:=H0) (a:=r1) (o:=.lst ((zdv T'.length).map V.int))
 generalize upd H0 r1 (.lst ((zdv T'.length).map V.int))=H1 at s1 n1
 refine⟨lS0,λl hl=>?_⟩
 have lH:H l=none:=s1.free hl
 have s2:=s1.trans (ai hl (.lst []))
 have n2:=af (H:=H1) (a:=l) (o:=.lst [])
 have m2:=ai hl (.lst []) _ _ n1
 have nrl:r1≠l:=zae n1 hl
 generalize upd H1 l (.lst [])=H2 at s2 n2 m2
 refine⟨_,rfl,r1,_,rfl,.inl (SqL.of m2),_,rfl,(by lia),(by rw[lM,zez];lia),za6 (lo:=0) (n:=((((zdv T'.length).map V.int).length:Nat):Int).toNat) (λi σ H'=>∃(r:Addr) (rs:List Int) (v4 v5:Option V) (us:List V) (ls:List Lk),σ=[some (.ref p),some (.ref q),some (.ref r),some (.ref l),v4,v5]∧ah H H'∧r≠l∧H' r=some (.lst (rs.map V.int))∧rs.length=T'.length∧H' l=some (.lst us)∧ao K H' (ls.map dL) us∧(∀ lk∈ls,zcf T'.length As.length lk)∧ls.length=i) ⟨r1,_,none,none,[],[],rfl,s2,nrl,m2,zez _,n2,ao.nil,(λ_ h=>nomatch h),rfl⟩ ?_ ?_⟩
 ·rintro i σ H3 hi ⟨r,rs,v4,v5,us,ls,rfl,s3,nrl3,hr3,rl3,hl3,hL3,lin,li⟩
  rw[Int.toNat_natCast,lM,zez]at hi
  have ul:us.length=ls.length:=by rw[←hL3.length,lM]
  refine⟨_,rfl,_,rfl,_,rfl,p,tl,al,rl,q,r,T',As,Rs,ps,rs,rfl,S.same s3,hq.same s3,pin,SqL.of hr3,rl3,λH4 s4=>?_,λH4 b lk s4 hb lkin=>?_⟩
  ·exact⟨_,rfl,rfl,_,rfl,aS ⟨_,rfl,Q0 H4 l us ls (s3.trans s4) lH (s4 _ _ hl3) (hL3.keep s4.kt (za2 _)) lin (by lia)⟩⟩
  ·refine⟨_,rfl,rfl,_,rfl,aJ (λc=>absurd (oDq c) (by intro z;cases z)) (λc=>?_)⟩
   have hl4:=s4 _ _ hl3
   have hL4:=hL3.keep s4.kt (za2 _)
   refine⟨_,rfl,.inl ⟨rfl,_,SqL.of hl4⟩,_,rfl,l,_,_,rfl,rfl,hl4,zaJ (by lia),?_⟩
   have kt:=zam.lst (ys:=us++[.ref b]) hl4
   have s5:=(s3.trans s4).upd (o:=.lst (us++[.ref b])) lH
   have n5:=af (H:=H4) (a:=l) (o:=.lst (us++[.ref b]))
   have r5:upd H4 l (.lst (us++[.ref b])) r=some (.lst (rs.map V.int)):=by rw[aD nrl3];exact s4 _ _ hr3
   have hb5:=kt.sq hb
   have hL5:ao K (upd H4 l (.lst (us++[.ref b]))) ((ls++[lk]).map dL) (us++[.ref b]):=by
    rw[mAq]
    exact ao.append (hL4.keep kt (za2 _)) (ao.one (Has.link hb5))
   generalize upd H4 l (.lst (us++[.ref b]))=H5 at s5 n5 r5 hb5 hL5
   refine⟨_,rfl,_,rfl,b,_,_,_,rfl,rfl,hb5,l0 lk,_,rfl,b,_,_,_,rfl,rfl,hb5,l1 lk,r,rs,lk.1,lk.2.1,rfl,SqL.of r5,by rw[rl3];exact lkin.1,by rw[rl3];exact lkin.2.1,by lia,λH6 r6 s6 f6 hr6=>?_⟩
   refine⟨r6,_,_,_,_,ls++[lk],rfl,s5.trans s6,(zae n5 f6).symm,hr6,by rw[zhx];exact rl3,s6 _ _ n5,hL5.keep s6.kt (za2 _),λu hu=>?_,by simp [li]⟩
   rcases mPq hu with h | h
   ·exact lin u h
   ·rw[mSq h];exact lkin
 ·rintro σ H3 ⟨r,rs,v4,v5,us,ls,rfl,s3,nrl3,hr3,rl3,hl3,hL3,lin,li⟩
  rw[Int.toNat_natCast,lM,zez]at li
  exact⟨_,rfl,Q0 H3 l us ls s3 lH hl3 hL3 lin (by lia)⟩
inductive zix (K:W.Frag) (C:Addr):Sp|m{vs H Q E9} (p tl al rl q:Addr) (T:List Tm) (As:List At) (Rs:List (List Int)) (ps:List Int):vs=[.ref p,.ref q]→PrD K C H p tl al rl T As Rs→SqI K H q ps→(∀ k∈ps,PIn As.length k)→1≤T.length→(∀(H':Hp) (l:Addr) (lk:Lk),ah H H'→SqT K H' l [.int lk.1,.int lk.2.1,.int lk.2.2]→zcf T.length As.length lk→Q (.ref l) H')→zix K C vs H Q E9
theorem zgL:aO ["_law_problem","_law_parts","_law_part"] ["_law_problem","_law_parts"] (au zfK):=fsc
theorem ok_aim (F:Fun K "_law_aim" "_law_aim" zfK f fd) (T:Txt K mg aK C CN CT CP CM):aQ P w K mg base CX0 1 f fd ["_law_problem","_law_parts"] (zix K C):=by
 refine F.ok zgL (λvs H Q E h=>?_) (λcdv A outer s H vs Q E hr h=>?_)
 ·obtain⟨p,tl,al,rl,q,T',As,Rs,ps,rfl,_⟩:=h
  rfl
 obtain⟨p,tl,al,rl,q,T',As,Rs,ps,rfl,S,hq,pin,t1,Q0⟩:=h
 refine⟨_,(ae (zaB PassesOwn.never rfl (zgx (pv 1)) (zaj (i:=2) zgL.nd rfl (Or.inl rfl))
   (ag (aL (PW.pt (zaR (aw zcC (pv 2) ad) (zaV (aw zag (aq az (aq zaa (aR (pv 0) rfl) (ar zbM (pv 2) ad)) ad) zac))))
     (ag (ay (ar zjT (zat zff (aq zaa (aR (pv 0) rfl) (ar zbM (pv 2) ad)) (zaF ad) zaG) (zal (aa (pv 2) ac)))))
     aA)))
  (ag (ay (zal (aa ad (aa ad (aa ad ac))))))),?_⟩
 try dsimp only [Cx.nox,Cx.wish,aX]
 obtain⟨⟨dx,ho⟩,_,⟨ys,ha,hA⟩,_⟩:=id S.pr
 have yl:ys.length=As.length:=by rw[←hA.length,lM]
 refine⟨_,rfl,q,ps.map V.int,rfl,hq,λJ ⟨Ok,W,ok,yl'⟩=>zev W (λi σ H'=>∃(v2:Option V),σ=[some (.ref p),some (.ref q),v2]∧H'=H) (λi σ H' ⟨_,_,e⟩=>e ▸ ok _ (ah.refl _)) ⟨none,rfl,rfl⟩ ?_ ?_⟩
 ·rintro i σ H9 x H3 hi ⟨v2,rfl,rfl⟩ yy
  obtain⟨rfl,hx⟩:=yl' _ _ _ _ (ah.refl _) yy
  obtain⟨k,hk,rfl⟩:=zaW hx
  obtain⟨p0,p1,p2⟩:=pin k (mOq hk)
  refine⟨_,rfl,_,_,rfl,rfl,_,rfl,aJ (λc=>?_) (λc=>aV ⟨_,rfl,rfl⟩)⟩
  have c':0 < k:=oDq c
  obtain⟨x,x1,x2⟩:=zbe (xs:=ys) (i:=k - 1) (by lia) (by lia)
  obtain⟨a,ea,hax⟩:=zfl hA x1
  have am:=mOq ea
  cases a with
  | plain z =>
   obtain⟨qq,rfl,hqq⟩:=zcS hax
   exact⟨_,rfl,p,C,dx,_,_,rfl,ho,T.cl,T.nA,zad _ _ _,_,rfl,_,_,rfl,rfl,al,_,_,_,rfl,rfl,SqL.of ha,x2,qq,_,_,_,rfl,rfl,hqq,aH (j:=0) rfl,rfl,_,rfl,aJ (λc=>absurd (oDq c) (by decide +kernel)) (λc=>⟨_,rfl,rfl⟩)⟩
  | same x y =>
   obtain⟨qq,rfl,hqq⟩:=zdq hax
   obtain⟨in1,in2⟩:=S.dm.am x y am
   refine⟨_,rfl,p,C,dx,_,_,rfl,ho,T.cl,T.nA,zad _ _ _,_,rfl,_,_,rfl,rfl,al,_,_,_,rfl,rfl,SqL.of ha,x2,qq,_,_,_,rfl,rfl,hqq,aH (j:=0) rfl,rfl,_,rfl,aJ (λc=>?_) (λc=>absurd (dTq rfl) c)⟩
   refine⟨_,rfl,p,C,dx,_,_,rfl,ho,T.cl,T.nA,zad _ _ _,_,rfl,_,_,rfl,rfl,al,_,_,_,rfl,rfl,SqL.of ha,x2,_,rfl,qq,_,rfl,hqq,(by show ¬(1=0∧_);rintro ⟨z,_⟩;exact absurd z (by decide)),λb hb=>?_⟩
   have s1:=ai hb (.tup (aU [.str "same",.int x,.int y] (some 1) none))
   have n1:upd H3 b (.tup (aU [.str "same",.int x,.int y] (some 1) none)) b=some (.tup [.int x,.int y]):=af
   generalize upd H3 b (.tup (aU [.str "same",.int x,.int y] (some 1) none))=H4 at s1 n1 ⊢
   refine⟨_,rfl,lS1,λd hd=>?_⟩
   have s2:=ai hd (.tup [.int k])
   have n2:=af (H:=H4) (a:=d) (o:=.tup [.int k])
   generalize upd H4 d (.tup [.int k])=H5 at s2 n2
   refine⟨b,d,_,_,rfl,rfl,SqT.of (s2 _ _ n1),SqT.of n2,(λz=>nomatch z),(by show 3≤sizeLine;decide),(λz=>nomatch z),λ_ m hm=>?_⟩
   exact Q0 _ m (x,y,k) ((s1.trans s2).trans (ai hm _)) (SqT.of af) ⟨in1,in2,by show 0≤k;lia,p2⟩
 ·rintro σ H2 ⟨v2,rfl,rfl⟩
  refine⟨lS3,λl hl=>?_⟩
  exact Q0 _ l (0,0,0) (ai hl _) (SqT.of af) ⟨⟨by decide,by show(0:Int) < _;lia⟩,⟨by decide,by show(0:Int) < _;lia⟩,by decide,by show(0:Int)≤_;lia⟩
theorem ao.takeD {H:Hp}:∀ {ds:List Dt} {vs:List V} (n:Nat),ao K H ds vs→ao K H (ds.take n) (vs.take n)
 | _,_,0,_=>by simp only[List.take_zero];exact .nil
 | [],[],n+1,_=>by simp only[List.take_nil];exact .nil
 | [],_ :: _,_,h=>by simp only[ao]at h;cases h
 | d :: ds,vs,n+1,h=>by
  simp only[ao]at h
  obtain⟨v,r,rfl,h1,h2⟩:=h
  simp only[List.take_succ_cons]
  exact .cons h1 (ao.takeD n h2)
theorem ao.dropD {H:Hp}:∀ {ds:List Dt} {vs:List V} (n:Nat),ao K H ds vs→ao K H (ds.drop n) (vs.drop n)
 | _,_,0,h=>h
 | [],[],n+1,_=>by simp only[List.drop_nil];exact .nil
 | [],_ :: _,_,h=>by simp only[ao]at h;cases h
 | d :: ds,vs,n+1,h=>by
  simp only[ao]at h
  obtain⟨v,r,rfl,h1,h2⟩:=h
  simp only[List.drop_succ_cons]
  exact ao.dropD n h2
theorem cutL {H:Hp} {ls:List Lk} {us:List V} (h:ao K H (ls.map dL) us) (lo hi:Option Int):∃ ls':List Lk,ao K H (ls'.map dL) (aU us lo hi)∧ls'.length≤ls.length∧∀ l∈ls',l∈ls:=by
 unfold aU
 refine⟨_,by have:=ao.takeD (HT.sIx us.length us.length hi - HT.sIx us.length 0 lo) (ao.dropD (HT.sIx us.length 0 lo) h);rw[←List.map_drop,←List.map_take]at this;exact this,?_,λl hl=>List.mem_of_mem_drop (List.mem_of_mem_take hl)⟩
 rw[List.length_take,List.length_drop]
 lia
theorem cutIs (ns:List Int) (lo hi:Option Int):∃ ms:List Int,aU (ns.map V.int) lo hi=ms.map V.int∧ms.length≤ns.length∧∀ k∈ms,k∈ns:=by
 unfold aU
 refine⟨_,by rw[←List.map_drop,←List.map_take],?_,λl hl=>List.mem_of_mem_drop (List.mem_of_mem_take hl)⟩
 rw[List.length_take,List.length_drop]
 lia
inductive sp_spoilt (K:W.Frag) (C:Addr):Sp|m{vs H Q E9} (p tl al rl q l:Addr) (T:List Tm) (As:List At) (Rs:List (List Int)) (ps:List Int) (c:Int) (us:List V) (ls:List Lk):vs=[.ref p,.ref q,.ref l,.int c]→PrD K C H p tl al rl T As Rs→SqI K H q ps→(∀ k∈ps,PIn As.length k)→1≤T.length→As.length≤1000→H l=some (.lst us)→ao K H (ls.map dL) us→(∀ lk∈ls,zcf T.length As.length lk)→ls.length≤300→(∀(H':Hp) (l':Addr) (us':List V) (ls':List Lk),ah H H'→(l'=l∨H l'=none)→H' l'=some (.lst us')→ao K H' (ls'.map dL) us'→(∀ lk∈ls',zcf T.length As.length lk)→ls'.length≤2 * ls.length+1→Q (.ref l') H')→sp_spoilt K C vs H Q E9
theorem za3:aO ["_law_problem","_law_parts","_law_bonds","_law_cell","_law_at","_law_rest","_law_far","_law_many","_law_aim_here"] ["_law_problem","_law_parts","_law_bonds","_law_cell"] (au zcy):=fsc
theorem dL_mem {H:Hp} {ls:List Lk} {us:List V} {i:Int} (h:ao K H (ls.map dL) us) (h0:0≤i) (h1:i < (us.length:Int)):∃ lk b,lk∈ls∧atI us i=some (.ref b)∧SqT K H b [.int lk.1,.int lk.2.1,.int lk.2.2]:=by
 obtain⟨x,x1,x2⟩:=zbe h0 h1
 obtain⟨lk,b,e1,rfl,e3⟩:=zis h x1
 exact⟨lk,b,mOq e1,x2,e3⟩
theorem ok_spoilt (F:Fun K "_law_links_spoilt" "_law_links_spoilt" zcy f fd) (T:Txt K mg aK C CN CT CP CM) (BA:FB P w K mg base CX0 1 "_law_aim" fA dA' ["_law_problem","_law_parts"] (zix K C)):aQ P w K mg base CX0 2 f fd ["_law_problem","_law_parts","_law_bonds","_law_cell"] (sp_spoilt K C):=by
 refine F.ok za3 (λvs H Q E h=>?_) (λcdv A outer s H vs Q E hr h=>?_)
 ·obtain⟨p,tl,al,rl,q,l,T',As,Rs,ps,c,us,ls,rfl,_⟩:=h
  rfl
 obtain⟨p,tl,al,rl,q,l,T',As,Rs,ps,c,us,ls,rfl,S,hq,pin,t1,a1000,hl,hL,lin,l300,Q0⟩:=h
 refine⟨_,(ae (aE (i:=4) za3.nd rfl (Or.inl rfl) (ar zab (ar zak (pv 3) ad) (ar zah (ap aj rfl T.len bL (aa (pv 2) ac)) ad)))
  (ae (aE (i:=5) za3.nd rfl (Or.inl rfl) (ar zak (ar zak (pv 3) ad) (ar zah (ap aj rfl T.len bL (aa (pv 2) ac)) ad)))
  (ae (aE (i:=6) za3.nd rfl (Or.inl rfl) (ar zah (ap aj rfl T.len bL (aa (aR (pv 0) rfl) ac)) ad))
  (ae (aE (i:=7) za3.nd rfl (Or.inl rfl) (ap aj rfl T.len bL (aa (aR (pv 0) rfl) ac)))
  (ae (aE (i:=8) za3.nd rfl (Or.inl rfl) (aB BA.ok hr rfl BA.m BA.kp BA.b .nil aI (aa (pv 0) (aa (pv 1) ac))))
  (ae (aL (aw zag (ar zab (pv 3) ad) ad)
   (ag (ay (ar zaT (zat zbf (pv 2) zaG (zaF (pv 4))) (zat zbf (pv 2) (zaF (ar zah (pv 4) ad)) zaG))))
   aA)
  (ae (aL (aw zag (ar zab (pv 3) ad) ad)
   (ag (ay (ar zaT (zat zbf (pv 2) (zaF (pv 4)) zaG) (zat zbf (pv 2) zaG (zaF (pv 4))))))
   aA)
  (ae (aL (aw zag (ar zab (pv 3) ad) ad)
   (ag (ay (ar zaT (ar zaT (zat zbf (pv 2) zaG (zaF (pv 4))) (zaq (aa (zal (aa (ar zab (pv 5) (pv 7)) (aa (ar zab (ar zak (pv 5) (pv 7)) (pv 7)) (aa (ar zab (ar zak (ar zak (pv 5) (pv 7)) (pv 7)) (pv 6)) ac)))) ac))) (zat zbf (pv 2) (zaF (pv 4)) zaG))))
   aA)
  (ae (aL (aw zag (ar zab (pv 3) ad) ad)
   (ag (ay (zbQ (N':=["_law_bond"]) (ix:=[]) rfl rfl (by decide +kernel) (by decide +kernel) rfl (λ_=>⟨[],zbd (by decide +kernel) (by decide +kernel)⟩) (by decide +kernel) rfl rfl (λj i h=>by simp at h) (zcr (pv 2)) (λ_ _ _ _=>(zal (aa (aq (r:=zel K) az (pv 0) ad) (aa (aq (r:=zel K) az (pv 0) ad) (aa (aq (r:=zel K) az (pv 0) ad) ac))))))))
   aA)
  (ae (aL (PW.pt (zaR (aw zag (ar zab (pv 3) ad) ad) (zaV (aw zbR (pv 4) (ap aj rfl T.len bL (aa (pv 2) ac))))))
   (ag (ay (ar zaT (ar zaT (zat zbf (pv 2) zaG (zaF (pv 4))) (zaq (aa (zal (aa (aq az (aq zaa (pv 2) (pv 4)) ad) (aa (aq az (aq zaa (pv 2) (pv 4)) ad) (aa (ar zab (pv 5) (pv 6)) ac)))) ac))) (zat zbf (pv 2) (zaF (ar zah (pv 4) ad)) zaG))))
   aA)
  (ae (aL (aw zag (ar zab (pv 3) ad) ad)
   (ag (ay (ar zaT (pv 2) (zaq (aa (zal (aa (aq az (pv 8) ad) (aa (aq az (pv 8) ad) (aa (ar ziJ (aq az (pv 8) ad) (ar zab (pv 5) ad)) ac)))) ac)))))
   aA)
  (ag (ay (pv 2)))))))))))))),?_⟩
 try dsimp only [Cx.nox,Cx.wish,aX]
 obtain⟨⟨dx,ho⟩,⟨ts,ht,hT⟩,⟨ys,ha,hA⟩,_⟩:=id S.pr
 have tl':ts.length=T'.length:=by rw[←hT.length,lM]
 have yl:ys.length=As.length:=by rw[←hA.length,lM]
 have ul:us.length=ls.length:=by rw[←hL.length,lM]
 have tN:=S.tN
 refine⟨_,rfl,_,_,rfl,rfl,⟨by decide,by decide⟩,_,rfl,l,_,rfl,.inl (SqL.of hl),_,_,rfl,rfl,_,_,rfl,rfl,(by show(0:Int) < ((us.length:Nat):Int)+1;lia),?_⟩
 have b4:=zby (c / 9) (show(0:Int) < ((us.length:Nat):Int)+1 by lia)
 refine⟨_,rfl,_,_,rfl,rfl,⟨by decide,by decide⟩,_,rfl,l,_,rfl,.inl (SqL.of hl),_,_,rfl,rfl,_,_,rfl,rfl,⟨by show(0:Int) < ((us.length:Nat):Int)+1;lia,by show((us.length:Nat):Int)+1 < 1073741824;lia⟩,?_⟩
 refine⟨_,rfl,p,C,dx,_,_,rfl,ho,T.cl,T.nA,zad _ _ _,al,_,rfl,.inl (SqL.of ha),_,_,rfl,rfl,?_⟩
 refine⟨_,rfl,p,C,dx,_,_,rfl,ho,T.cl,T.nT,zaK _ _ _,tl,_,rfl,.inl (SqL.of ht),?_⟩
 refine⟨_,rfl,_,rfl,p,tl,al,rl,q,T',As,Rs,ps,rfl,S,hq,pin,t1,λH1 m ak s1 hm akin=>?_⟩
 have hl1:=s1 _ _ hl
 have hL1:=hL.keep s1.kt (za2 _)
 have fin:∀(H':Hp) (l':Addr) (us':List V) (ls':List Lk),ah H1 H'→(l'=l∨H1 l'=none)→H' l'=some (.lst us')→ao K H' (ls'.map dL) us'→(∀ lk∈ls',zcf T'.length As.length lk)→ls'.length≤2 * ls.length+1→Q (.ref l') H':=λH' l' us' ls' s' n'=>Q0 H' l' us' ls' (s1.trans s') (n'.imp id s1.free)
 have two:∀(H2:Hp) (lo hi lo' hi':Option Int) (Qq:V→Hp→Prop),ah H1 H2→(∀(H':Hp) (l':Addr) (us':List V) (ls':List Lk),ah H1 H'→H1 l'=none→H' l'=some (.lst us')→ao K H' (ls'.map dL) us'→(∀ lk∈ls',zcf T'.length As.length lk)→ls'.length≤2 * ls.length→Qq (.ref l') H') →
   ∀ d,H2 d=none→∀ e,upd H2 d (.lst (aU us lo hi)) e=none→rCat (.ref d) (.ref e) (upd (upd H2 d (.lst (aU us lo hi))) e (.lst (aU us lo' hi'))) Qq:=by
  intro H2 lo hi lo' hi' Qq s2 out d hd e he
  obtain⟨k1,g1,g2,g3⟩:=cutL hL1 lo hi
  obtain⟨k2,g4,g5,g6⟩:=cutL hL1 lo' hi'
  have u1:=zbK us lo hi
  have u2:=zbK us lo' hi'
  have sD:=ai hd (.lst (aU us lo hi))
  have sE:=ai he (.lst (aU us lo' hi'))
  refine⟨d,e,_,_,rfl,rfl,sE _ _ af,af,sz _ (by lia),λx hx=>?_⟩
  have sX:=ai hx (.lst (aU us lo hi++aU us lo' hi'))
  have all:=((s2.trans sD).trans sE).trans sX
  refine out _ x _ (k1++k2) all (((s2.trans sD).trans sE).free hx) af ?_ (λlk h=>?_) (by rw[lAq];lia)
  ·rw[mAq]
   exact ao.append (g1.keep all.kt (za2 _)) (g4.keep all.kt (za2 _))
  ·rcases mPq h with h | h
   ·exact lin _ (g3 _ h)
   ·exact lin _ (g6 _ h)
 have three:∀(H2:Hp) (lo hi lo' hi':Option Int) (lk:Lk),ah H1 H2→zcf T'.length As.length lk→∀ d,H2 d=some (.lst (aU us lo hi))→∀(H3:Hp) (b e:Addr),ah H2 H3→SqT K H3 b [.int lk.1,.int lk.2.1,.int lk.2.2]→H3 e=none→∃ l0 b0 xs zs,V.ref d=.ref l0∧V.ref e=.ref b0∧(upd H3 e (.lst [.ref b])) l0=some (.lst xs)∧(upd H3 e (.lst [.ref b])) b0=some (.lst zs)∧xs.length+zs.length≤sizeLine∧∀ x,(upd H3 e (.lst [.ref b])) x=none→∃ H4,H4=upd (upd H3 e (.lst [.ref b])) x (.lst (xs++zs))∧SqL K H4 l us∧∀ y,H4 y=none→rCat (.ref x) (.ref y) (upd H4 y (.lst (aU us lo' hi'))) Q:=by
  intro H2 lo hi lo' hi' lk s2 lkin d hd H3 b e s3 hb he
  obtain⟨k1,g1,g2,g3⟩:=cutL hL1 lo hi
  obtain⟨k2,g4,g5,g6⟩:=cutL hL1 lo' hi'
  have u1:=zbK us lo hi
  have u2:=zbK us lo' hi'
  have sE:=ai he (.lst [.ref b])
  refine⟨d,e,_,_,rfl,rfl,sE _ _ (s3 _ _ hd),af,sz _ (by show _+1≤1000;lia),λx hx=>⟨_,rfl,?_,λy hy=>?_⟩⟩
  ·have sX:=ai hx (.lst (aU us lo hi++[.ref b]))
   exact SqL.of (sX _ _ (sE _ _ (s3 _ _ (s2 _ _ hl1))))
  have sX:=ai hx (.lst (aU us lo hi++[.ref b]))
  have nX:=af (H:=upd H3 e (.lst [.ref b])) (a:=x) (o:=.lst (aU us lo hi++[.ref b]))
  have sY:=ai hy (.lst (aU us lo' hi'))
  refine⟨x,y,_,_,rfl,rfl,sY _ _ nX,af,sz _ (by rw[lAq,lS];lia),λz hz=>?_⟩
  have sZ:=ai hz (.lst ((aU us lo hi++[.ref b])++aU us lo' hi'))
  have s4:=((sE.trans sX).trans sY).trans sZ
  have all:=(s2.trans s3).trans s4
  refine fin _ z _ ((k1++[lk])++k2) all (.inr ((s2.trans (s3.trans ((sE.trans sX).trans sY))).free hz)) af ?_ (λlk' h=>?_) (by rw[lAq,lAq,lS];lia)
  ·rw[mAq,mAq]
   exact ao.append (ao.append (g1.keep all.kt (za2 _)) (ao.one (Has.link (s4.tup hb)))) (g4.keep all.kt (za2 _))
  ·rcases mPq h with h | h
   ·rcases mPq h with h | h
    ·exact lin _ (g3 _ h)
    ·rw[mSq h];exact lkin
   ·exact lin _ (g6 _ h)
 have c9:∀ {n:Int} {A B:Prop},(c % 9=n→A)→(B)→if decide (V.int (c % 9)=V.int n)=true then A else B:=λ{n A B} h1 h2=>aJ (λz=>h1 (by have:=oDq z;injection this)) λ_=>h2
 dsimp only [zcl]
 refine zdE (λn hn=>⟨_,rfl,_,_,rfl,rfl,(by show(0:Int) < 9;decide),rfl,_,rfl,c9 (λ_=>?_) hn⟩) ?_
 ·exact⟨_,rfl,_,rfl,_,rfl,l,_,rfl,SqL.of hl1,λd hd=>⟨_,rfl,_,rfl,_,_,rfl,rfl,_,rfl,l,_,rfl,SqL.of (ai hd _ _ _ hl1),λe he=>two H1 _ _ _ _ (λx H'=>Q x H') (ah.refl _) (λH' l' us' ls' a1 a0 a2 a3 a4 a5=>fin H' l' us' ls' a1 (.inr a0) a2 a3 a4 (by lia)) d hd e he⟩⟩
 refine zdE (λn hn=>⟨_,rfl,_,_,rfl,rfl,(by show(0:Int) < 9;decide),rfl,_,rfl,c9 (λ_=>?_) hn⟩) ?_
 ·exact⟨_,rfl,_,rfl,_,rfl,l,_,rfl,SqL.of hl1,λd hd=>⟨_,rfl,_,rfl,_,rfl,l,_,rfl,SqL.of (ai hd _ _ _ hl1),λe he=>two H1 _ _ _ _ (λx H'=>Q x H') (ah.refl _) (λH' l' us' ls' a1 a0 a2 a3 a4 a5=>fin H' l' us' ls' a1 (.inr a0) a2 a3 a4 (by lia)) d hd e he⟩⟩
 have mpos:(0:Int) < ((ts.length:Nat):Int):=by lia
 have fpos:(0:Int) < ((ys.length:Nat):Int)+1:=by lia
 refine zdE (λn hn=>⟨_,rfl,_,_,rfl,rfl,(by show(0:Int) < 9;decide),rfl,_,rfl,c9 (λ_=>?_) hn⟩) ?_
 ·have m1:=zby (c / 9 / (((us.length:Nat):Int)+1)) mpos
  have m2:=zby ((c / 9 / (((us.length:Nat):Int)+1)) / ((ts.length:Nat):Int)) mpos
  have m3:=zby ((c / 9 / (((us.length:Nat):Int)+1)) / ((ts.length:Nat):Int) / ((ts.length:Nat):Int)) fpos
  refine⟨_,rfl,_,rfl,_,rfl,l,_,rfl,SqL.of hl1,λd hd=>⟨_,rfl,_,rfl,_,_,rfl,rfl,mpos,_,rfl,_,rfl,_,_,rfl,rfl,⟨mpos,by show((ts.length:Nat):Int) < 1073741824;lia⟩,_,rfl,_,_,rfl,rfl,mpos,_,rfl,_,rfl,_,_,rfl,rfl,⟨mpos,by show((ts.length:Nat):Int) < 1073741824;lia⟩,_,rfl,_,_,rfl,rfl,⟨mpos,by show((ts.length:Nat):Int) < 1073741824;lia⟩,_,rfl,_,_,rfl,rfl,fpos,lS3,λb hb=>⟨lS1,λe he=>?_⟩⟩⟩
  obtain⟨l0,b0,xs,zs,e1,e2,e3,e4,e5,e6⟩:=three (upd H1 d (.lst (aU us none (some (c / 9 % (((us.length:Nat):Int)+1)))))) none (some (c / 9 % (((us.length:Nat):Int)+1))) (some (c / 9 % (((us.length:Nat):Int)+1))) none ((c / 9 / (((us.length:Nat):Int)+1)) % ((ts.length:Nat):Int),(c / 9 / (((us.length:Nat):Int)+1)) / ((ts.length:Nat):Int) % ((ts.length:Nat):Int),(c / 9 / (((us.length:Nat):Int)+1)) / ((ts.length:Nat):Int) / ((ts.length:Nat):Int) % (((ys.length:Nat):Int)+1)) (ai hd _) ⟨⟨m1.1,by rw[←tl'];exact m1.2⟩,⟨m2.1,by rw[←tl'];exact m2.2⟩,m3.1,by rw[←yl];exact Int.lt_add_one_iff.mp m3.2⟩ d af _ b e (ai hb _) (SqT.of af) he
  refine⟨l0,b0,xs,zs,e1,e2,e3,e4,e5,λx hx=>?_⟩
  obtain⟨H4,e7,e8,e9⟩:=e6 x hx
  rw[←e7]
  exact⟨_,rfl,_,rfl,_,rfl,l,_,rfl,e8,λy hy=>e9 y hy⟩
 refine zdE (λn hn=>⟨_,rfl,_,_,rfl,rfl,(by show(0:Int) < 9;decide),rfl,_,rfl,c9 (λ_=>?_) hn⟩) ?_
 ·refine⟨_,rfl,l,rfl,⟨_,SqL.of hl1⟩,λD hD=>zbU zcZ (λi us' H'=>ah H1 H'∧∃ ls':List Lk,ao K H' (ls'.map dL) us'∧(∀ lk∈ls',zcf T'.length As.length lk)∧ls'.length=i) (λi us' H' ⟨s4,_⟩=>SqL.of (s4 _ _ hl1)) ⟨ai hD _,[],ao.nil,(λ_ h=>nomatch h),rfl⟩ ?_ ?_⟩
  ·rintro i us' H8 z H4 hi hly hDs ⟨s4,ls',g1,g2,g3⟩ ⟨rfl,hx⟩
   obtain⟨lk,b,hlk,rfl,hb⟩:=zis hL1 (hx _ (SqL.of (s4 _ _ hl1)))
   have hb4:=s4.tup hb
   have lk1:=lin lk (mOq hlk)
   refine⟨_,rfl,b,_,_,_,rfl,rfl,hb4,l1 lk,_,rfl,b,_,_,_,rfl,rfl,hb4,l0 lk,_,rfl,b,_,_,_,rfl,rfl,hb4,l2 lk,lS3,λd hd=>?_⟩
   have s5:=ai hd (.tup [.int lk.2.1,.int lk.1,.int lk.2.2])
   have n5:=af (H:=H4) (a:=d) (o:=.tup [.int lk.2.1,.int lk.1,.int lk.2.2])
   generalize upd H4 d (.tup [.int lk.2.1,.int lk.1,.int lk.2.2])=H5 at s5 n5
   have kt:=zam.lst (ys:=us'++[.ref d]) (s5 _ _ hDs)
   refine zaH (sz _ (by lia)) hi hly (s5 _ _ hDs) ⟨(s4.trans s5).upd hD,ls'++[(lk.2.1,lk.1,lk.2.2)],?_,λu hu=>?_,by simp [g3]⟩
   ·rw[mAq]
    exact ao.append ((g1.keep s5.kt (za2 _)).keep kt (za2 _)) (ao.one (Has.link (lk:=(lk.2.1,lk.1,lk.2.2)) (kt.sq (SqT.of n5))))
   ·rcases mPq hu with h | h
    ·exact g2 u h
    ·rw[mSq h];exact⟨lk1.2.1,lk1.1,lk1.2.2⟩
  rintro us' H4 hDs ⟨s4,ls',g1,g2,g3⟩
  exact fin H4 D us' ls' s4 (.inr hD) hDs g1 g2 (by lia)
 refine zdE (λn hn=>⟨_,rfl,_,_,rfl,rfl,(by show(0:Int) < 9;decide),rfl,_,rfl,c9 (λ_=>⟨_,rfl,_,rfl,l,_,rfl,.inl (SqL.of hl1),_,_,rfl,rfl,_,rfl,aJ (λc2=>?_) (λc2=>hn)⟩) (aV hn)⟩) ?_
 ·have c3:(c / 9 % (((us.length:Nat):Int)+1)) < ((us.length:Nat):Int):=oDq c2
  obtain⟨lk,b1,lkm,x2,hb1⟩:=dL_mem hL1 b4.1 c3
  have lk1:=lin lk lkm
  have m3:=zby (c / 9 / (((us.length:Nat):Int)+1)) fpos
  refine⟨_,rfl,_,rfl,_,rfl,l,_,rfl,SqL.of hl1,λd hd=>?_⟩
  have sd:=ai hd (.lst (aU us none (some (c / 9 % (((us.length:Nat):Int)+1)))))
  have nd:=af (H:=H1) (a:=d) (o:=.lst (aU us none (some (c / 9 % (((us.length:Nat):Int)+1)))))
  have hl2:=sd _ _ hl1
  have hb2:=sd.tup hb1
  generalize upd H1 d (.lst (aU us none (some (c / 9 % (((us.length:Nat):Int)+1)))))=H2 at sd nd hl2 hb2
  refine⟨_,rfl,_,rfl,l,_,_,_,rfl,rfl,SqL.of hl2,x2,b1,_,_,_,rfl,rfl,hb2,l0 lk,_,rfl,_,rfl,l,_,_,_,rfl,rfl,SqL.of hl2,x2,b1,_,_,_,rfl,rfl,hb2,l1 lk,_,rfl,_,rfl,_,_,rfl,rfl,fpos,lS3,λb hb=>⟨lS1,λe he=>?_⟩⟩
  obtain⟨l0',b0,xs,zs,e1,e2,e3,e4,e5,e6⟩:=three H2 none (some (c / 9 % (((us.length:Nat):Int)+1))) (some ((c / 9 % (((us.length:Nat):Int)+1))+1)) none (lk.1,lk.2.1,(c / 9 / (((us.length:Nat):Int)+1)) % (((ys.length:Nat):Int)+1)) sd ⟨lk1.1,lk1.2.1,m3.1,by rw[←yl];exact Int.lt_add_one_iff.mp m3.2⟩ d nd _ b e (ai hb _) (SqT.of af) he
  refine⟨l0',b0,xs,zs,e1,e2,e3,e4,e5,λx hx=>?_⟩
  obtain⟨H4,e7,e8,e9⟩:=e6 x hx
  rw[←e7]
  exact⟨_,rfl,_,rfl,_,_,rfl,rfl,_,rfl,l,_,rfl,e8,λy hy=>e9 y hy⟩
 all_goals
  refine⟨_,rfl,_,_,rfl,rfl,(by show(0:Int) < 9;decide),rfl,_,rfl,c9 (λ_=>?_) ⟨_,rfl,fin H1 l us ls (ah.refl _) (.inl rfl) hl1 hL1 lin (by lia)⟩⟩
  have m2:=zby (c / 9 / (((us.length:Nat):Int)+1)) (show(0:Int) < 2 by decide)
  have mm:ak.2.2 * ((c / 9 / (((us.length:Nat):Int)+1)) % 2)=0∨ak.2.2 * ((c / 9 / (((us.length:Nat):Int)+1)) % 2)=ak.2.2:=by
   have:(c / 9 / (((us.length:Nat):Int)+1)) % 2=0∨(c / 9 / (((us.length:Nat):Int)+1)) % 2=1:=by lia
   rcases this with h | h
   ·rw[h];exact .inl (by simp)
   ·rw[h];exact .inr (by simp)
  obtain⟨i1,i2,i3,i4⟩:=id akin
  refine⟨_,rfl,_,rfl,m,_,_,_,rfl,rfl,hm,l0 ak,_,rfl,m,_,_,_,rfl,rfl,hm,l1 ak,_,rfl,m,_,_,_,rfl,rfl,hm,l2 ak,_,rfl,_,_,rfl,rfl,(by show(0:Int) < 2;decide),_,_,rfl,rfl,.inr ⟨by show -(2 ^ 64) < (c / 9 / (((us.length:Nat):Int)+1)) % 2;lia,by show(c / 9 / (((us.length:Nat):Int)+1)) % 2 < 2 ^ 64;lia⟩,lS3,λb hb=>⟨lS1,λe he=>?_⟩⟩
  have s2:=ai hb (.tup [.int ak.1,.int ak.2.1,.int (ak.2.2 * ((c / 9 / (((us.length:Nat):Int)+1)) % 2))])
  have n2:=af (H:=H1) (a:=b) (o:=.tup [.int ak.1,.int ak.2.1,.int (ak.2.2 * ((c / 9 / (((us.length:Nat):Int)+1)) % 2))])
  generalize upd H1 b (.tup [.int ak.1,.int ak.2.1,.int (ak.2.2 * ((c / 9 / (((us.length:Nat):Int)+1)) % 2))])=H2 at s2 n2 he ⊢
  have s3:=ai he (.lst [.ref b])
  have n3:=af (H:=H2) (a:=e) (o:=.lst [.ref b])
  generalize upd H2 e (.lst [.ref b])=H3 at s3 n3
  refine⟨l,e,_,_,rfl,rfl,(s2.trans s3) _ _ hl1,n3,sz _ (by show _+1≤1000;lia),λx hx=>?_⟩
  have s4:=ai hx (.lst (us++[.ref b]))
  have all:=(s2.trans s3).trans s4
  refine fin _ x _ (ls++[(ak.1,ak.2.1,ak.2.2 * ((c / 9 / (((us.length:Nat):Int)+1)) % 2))]) all (.inr ((s2.trans s3).free hx)) af ?_ (λu hu=>?_) (by rw[lAq,lS];lia)
  ·rw[mAq]
   exact ao.append (hL1.keep all.kt (za2 _)) (ao.one (Has.link (lk:=(ak.1,ak.2.1,ak.2.2 * ((c / 9 / (((us.length:Nat):Int)+1)) % 2))) ((s3.trans s4).tup (SqT.of n2))))
  ·rcases mPq hu with h | h
   ·exact lin u h
   ·rw[mSq h]
    exact⟨i1,i2,by show 0≤ak.2.2 * ((c / 9 / (((us.length:Nat):Int)+1)) % 2);lia,by show ak.2.2 * ((c / 9 / (((us.length:Nat):Int)+1)) % 2)≤_;lia⟩
theorem InR.mono {n m:Nat} {x:Int} (h:InR n x) (l:n≤m):InR m x:=⟨h.1,by have:=h.2;lia⟩
theorem Dom.snocT {T:List Tm} {As:List At} (D:Dom T As) {z:Str} {ps:List Int} (h:∀ i∈ps,InR T.length i):Dom (T++[(z,ps)]) As:=by
 have l:T.length≤(T++[(z,ps)]).length:=by rw[lAq];lia
 refine⟨λt ht q hq=>?_,λx y hx=>⟨(D.am x y hx).1.mono l,(D.am x y hx).2.mono l⟩⟩
 rcases mPq ht with h' | h'
 ·exact(D.tm t h' q hq).mono l
 ·rw[mSq h']at hq
  exact(h q hq).mono l
theorem Dom.snocA {T:List Tm} {As:List At} (D:Dom T As) {a:At} (h:∀ x y,a=.same x y→InR T.length x∧InR T.length y):Dom T (As++[a]):=by
 refine⟨D.tm,λx y hx=>?_⟩
 rcases mPq hx with h' | h'
 ·exact D.am x y h'
 ·exact h x y (mSq h').symm
theorem dom0:Dom [] []:=⟨λ_ h=>(nomatch h),λ_ _ h=>(nomatch h)⟩
theorem go_add {H:Hp} {p tl al rl q:Addr} {T:List Tm} {As:List At} {Rs:List (List Int)} {z:Str} {ps:List Int} {Q:VK} {E:XK} (S:PrD K C H p tl al rl T As Rs) (hq:SqI K H q ps) (hz:zbS z=true) (hlow:Low z) (h3:ps.length≤3) (hp:∀ i∈ps,InR T.length i) (hl:T.length < 60)
  (out:∀(H':Hp) (more:List Tm) (k:Nat),PrD K C H' p tl al rl (T++more) As Rs→Fr1 H H' tl→more.length≤1→k < (T++more).length→((z,ps)∉T→more=[(z,ps)])→Q (.int (k:Nat)) H'):zhh K C CN CT CM [.ref p,.str z,.ref q] H Q E:=by
 refine⟨p,tl,al,rl,q,T,As,Rs,z,ps,rfl,⟨S.pr,hq,hlow,by lia,λi hi=>?_,by lia⟩,?_⟩
 ·have:=hp i hi;have h1:=this.1;have h2:=this.2;lia
 have hb:bad T ps=false:=zej h3 λi k hk=>by have:=hp k (mOq hk);have h1:=this.1;have h2:=this.2;lia
 by_cases hm:(z,ps)∈T
 ·have e:zc9 T (zbS z) (z,ps)=(.num (T.idxOf (z,ps)),T):=by
   unfold zc9
   rw[if_neg (by rw[hz];decide),if_neg (by show ¬bad T ps=true;rw[hb];decide),if_pos hm]
  rw[e]
  intro H' pr f
  refine out H' [] _ ⟨by rw[List.append_nil];exact pr,by rw[List.append_nil];exact S.dm,by rw[List.append_nil];exact S.t3,by rw[List.append_nil];exact S.tN⟩ f (Nat.zero_le _) ?_ (λh=>absurd hm h)
  rw[List.append_nil]
  exact List.idxOf_lt_length_of_mem hm
 ·have e:zc9 T (zbS z) (z,ps)=(.num T.length,T++[(z,ps)]):=by
   unfold zc9
   rw[if_neg (by rw[hz];decide),if_neg (by show ¬bad T ps=true;rw[hb];decide),if_neg hm,if_neg (by lia)]
  rw[e]
  intro H' pr f
  refine out H' [(z,ps)] _ ⟨pr,S.dm.snocT hp,λt ht=>?_,by rw[lAq,lS];lia⟩ f (nRq _) (by rw[lAq,lS];lia) (λ_=>rfl)
  rcases mPq ht with h' | h'
  ·exact S.t3 t h'
  ·rw[mSq h']
   show ps.length≤1000
   lia
theorem zmw {H:Hp} {p tl al rl:Addr} {T:List Tm} {As:List At} {Rs:List (List Int)} {z:Str} {Q:VK} {E:XK} (S:PrD K C H p tl al rl T As Rs) (hz:zbS z=true) (hlow:Low z) (hl:As.length < 40)
  (out:∀(H':Hp) (more:List At) (k:Nat),PrD K C H' p tl al rl T (As++more) Rs→Fr2 H H' al rl→more.length≤1→1≤(As++more).length→(∀ y∈more,y=At.plain z)→Q (.int (k:Nat)) H'):zfj K C CN CT CP CM [.ref p,.str z] H Q E:=by
 refine⟨p,tl,al,rl,T,As,Rs,z,rfl,S.pr,hlow,by lia,?_⟩
 by_cases hm:At.plain z∈As
 ·have e:zdH As z=(.num (As.idxOf (.plain z)+1),As):=by
   unfold zdH
   rw[if_neg (by rw[hz];decide),if_pos hm]
  rw[e]
  intro H' pr f
  exact out H' [] _ ⟨by rw[List.append_nil];exact pr,by rw[List.append_nil];exact S.dm,S.t3,S.tN⟩ f (Nat.zero_le _) (by rw[List.append_nil];exact List.length_pos_of_mem hm) (λy hy=>nomatch hy)
 ·have e:zdH As z=(.num (As.length+1),As++[.plain z]):=by
   unfold zdH
   rw[if_neg (by rw[hz];decide),if_neg hm,if_neg (by lia)]
  rw[e]
  intro H' pr f
  exact out H' [.plain z] _ ⟨pr,S.dm.snocA (λx y h=>nomatch h),S.t3,S.tN⟩ f (nRq _) (by rw[lAq,lS];lia) (λy hy=>mSq hy)
theorem zj1 {H:Hp} {p tl al rl:Addr} {T:List Tm} {As:List At} {Rs:List (List Int)} {a b:Int} {Q:VK} {E:XK} (S:PrD K C H p tl al rl T As Rs) (ha:InR T.length a) (hb:InR T.length b) (hl:As.length < 40)
  (out:∀(H':Hp) (more:List At) (k:Nat),PrD K C H' p tl al rl T (As++more) Rs→Fr2 H H' al rl→more.length≤1→1≤(As++more).length→(∀ y∈more,y=At.same a b)→Q (.int (k:Nat)) H'):zfV K C CN CT CP CM [.ref p,.int a,.int b] H Q E:=by
 have tN:=S.tN
 obtain⟨a0,a1⟩:=id ha
 obtain⟨b0,b1⟩:=id hb
 refine⟨p,tl,al,rl,T,As,Rs,a,b,rfl,S.pr,⟨by lia,by lia⟩,⟨by lia,by lia⟩,by lia,?_⟩
 by_cases hm:At.same b a∈As
 ·have e:zct T.length As a b=(.num (As.idxOf (.same b a)+1),As):=by
   unfold zct
   rw[if_neg (by lia),if_pos hm]
  rw[e]
  intro H' pr f
  exact out H' [] _ ⟨by rw[List.append_nil];exact pr,by rw[List.append_nil];exact S.dm,S.t3,S.tN⟩ f (Nat.zero_le _) (by rw[List.append_nil];exact List.length_pos_of_mem hm) (λy hy=>nomatch hy)
 by_cases hm2:At.same a b∈As
 ·have e:zct T.length As a b=(.num (As.idxOf (.same a b)+1),As):=by
   unfold zct
   rw[if_neg (by lia),if_neg hm,if_pos hm2]
  rw[e]
  intro H' pr f
  exact out H' [] _ ⟨by rw[List.append_nil];exact pr,by rw[List.append_nil];exact S.dm,S.t3,S.tN⟩ f (Nat.zero_le _) (by rw[List.append_nil];exact List.length_pos_of_mem hm2) (λy hy=>nomatch hy)
 ·have e:zct T.length As a b=(.num (As.length+1),As++[.same a b]):=by
   unfold zct
   rw[if_neg (by lia),if_neg hm,if_neg hm2,if_neg (by lia)]
  rw[e]
  intro H' pr f
  exact out H' [.same a b] _ ⟨pr,S.dm.snocA (λx y h=>by cases h;exact⟨ha,hb⟩),S.t3,S.tN⟩ f (nRq _) (by rw[lAq,lS];lia) (λy hy=>mSq hy)
theorem Fr1.fresh {H H1 H':Hp} {z:Addr} (f:Fr1 H1 H' z) (s:ah H H1) (h:H z=none):ah H H':=λb o e=>f b o (s b o e) (zae e h)
theorem Fr2.fresh {H H1 H':Hp} {z y:Addr} (f:Fr2 H1 H' z y) (s:ah H H1) (h:H z=none) (h':H y=none):ah H H':=λb o e=>f b o (s b o e) (zae e h) (zae e h')
theorem madeD {H H1:Hp} {x dx tl al rl:Addr} (hx:H x=none) (hdx:H dx=none) (hne:dx≠x) (h1:(upd (upd H dx (.own x)) x (.ins C dx [])) tl=none) (h2:(upd (upd H dx (.own x)) x (.ins C dx [])) al=none)
  (h3:(upd (upd H dx (.own x)) x (.ins C dx [])) rl=none) (na:al≠tl) (nr:rl≠tl) (nx:rl≠al) (k1:H1 x=some (.ins C dx (zcG tl al rl))) (k2:H1 tl=some (.lst [])) (k3:H1 al=some (.lst [])) (k4:H1 rl=some (.lst []))
  (k5:∀ b o,(upd (upd H dx (.own x)) x (.ins C dx [])) b=some o→b≠x→H1 b=some o):PrD K C H1 x tl al rl [] [] []∧ah H H1∧H tl=none∧H al=none∧H rl=none:=by
 obtain⟨pr1,s1,ft,fa,fr⟩:=made (K:=K) hx hdx hne h1 h2 h3 na nr nx k1 k2 k3 k4 k5
 exact⟨⟨pr1,dom0,λ_ h=>(nomatch h),by show 0≤100;decide⟩,s1,ft,fa,fr⟩
inductive zcN (K:W.Frag):Sp|m{vs H Q E9} (a:Addr) (ns:List Int) (k:Int):vs=[.ref a,.int k]→SqL K H a (ns.map V.int)→ns.length≤1000→0≤k→k≤1000→(∀ i:Int,Q (.int i) H)→zcN K vs H Q E9
abbrev zfq:Stmt:=sCell
theorem zhB:aO ["_law_script","_law_k"] ["_law_script","_law_k"] (au zfq):=fsc
theorem zml {f:Addr} {fd:FuncData} (F:Fun K "_law_cell_at" "_law_cell_at" zfq f fd) (T:Txt K mg aK C CN CT CP CM):aQ P w K mg base CX0 1 f fd ["_law_script","_law_k"] (zcN K):=by
 refine F.ok zhB (λvs H Q E h=>?_) (λcdv A outer s H vs Q E hr h=>?_)
 ·obtain⟨a,ns,k,rfl,_⟩:=h
  rfl
 obtain⟨a,ns,k,rfl,hS,n1000,k0,k1,q⟩:=h
 refine⟨_,(ae (aL (aw zag (ap aj rfl T.len bL (aa (pv 0) ac)) ad)
   (ag (ay (pv 1)))
   aA)
  (ag (ay (ar zah (aq zaa (pv 0) (ar zab (pv 1) (ap aj rfl T.len bL (aa (pv 0) ac)))) (ar ziJ ad (ar zak (pv 1) (ap aj rfl T.len bL (aa (pv 0) ac)))))))),?_⟩
 try dsimp only [Cx.nox,Cx.wish,aX]
 refine⟨_,rfl,a,_,rfl,.inl hS,rfl,_,rfl,aJ (λc=>⟨_,rfl,q k⟩) (λc=>?_)⟩
 have c':(0:Int) < (((ns.map V.int).length:Nat):Int):=by
  have:¬(((ns.map V.int).length:Nat):Int)=0:=λz=>c (by rw[z];exact dTq rfl)
  lia
 have m:=zby k c'
 have sm:(((ns.map V.int).length:Nat):Int) < 1073741824:=by rw[lM];lia
 have il:InR ns.length (k % (((ns.map V.int).length:Nat):Int)):=by rw[lM]at m ⊢;exact m
 refine⟨_,rfl,_,rfl,_,rfl,a,_,rfl,.inl hS,_,_,rfl,rfl,c',a,_,_,_,rfl,rfl,hS,zdx il,_,rfl,_,rfl,a,_,rfl,.inl hS,_,_,rfl,rfl,⟨c',sm⟩,_,_,rfl,rfl,.inl ⟨by decide,by decide⟩,_,_,rfl,rfl,q _⟩
def Wf (T:List Tm):Prop:=∀(i:Nat) (t:Tm),T[i]?=some t→∀ q∈t.2,InR i q
def zfP:List Tm→Nat
 | []=>0
 | t :: T=>3 ^ t.2.length+zfP T
theorem zgJ:∀ A B:List Tm,zfP (A++B)=zfP A+zfP B
 | [],B=>by simp [zfP]
 | t :: A,B=>by
  rw[List.cons_append]
  simp only[zfP]
  rw[zgJ A B]
  lia
theorem Wf.nil:Wf []:=λi t h=>by simp at h
theorem Wf.snoc {T:List Tm} (h:Wf T) {z:Str} {ps:List Int} (hp:∀ i∈ps,InR T.length i):Wf (T++[(z,ps)]):=λi t ht q hq=>by
 by_cases hi:i < T.length
 ·rw[List.getElem?_append_left hi]at ht
  exact h i t ht q hq
 ·rw[List.getElem?_append_right (by lia)]at ht
  have e:i - T.length=0:=by
   have:=(gEq ht).1
   simp at this
   lia
  rw[e]at ht
  cases ht
  have:=hp q hq
  exact this.mono (by lia)
structure PrS (K:W.Frag) (C:Addr) (H:Hp) (p tl al rl:Addr) (T:List Tm) (As:List At) (n:Nat):Prop where
 d:PrD K C H p tl al rl T As []
 wf:Wf T
 ws:zfP T≤n
theorem PrS.same {H H':Hp} {p tl al rl:Addr} {T:List Tm} {As:List At} {n:Nat} (h:PrS K C H p tl al rl T As n) (s:ah H H'):PrS K C H' p tl al rl T As n:=⟨h.d.same s,h.wf,h.ws⟩
theorem zj2 {H:Hp} {p tl al rl q:Addr} {T:List Tm} {As:List At} {z:Str} {ps:List Int} {n:Nat} {Q:VK} {E:XK} (S:PrS K C H p tl al rl T As n) (hq:SqI K H q ps) (hz:zbS z=true) (hlow:Low z) (h3:ps.length≤3) (hp:∀ i∈ps,InR T.length i) (hl:T.length < 60)
  (out:∀(H':Hp) (more:List Tm) (k:Nat),PrS K C H' p tl al rl (T++more) As (n+3 ^ ps.length)→Fr1 H H' tl→more.length≤1→1≤(T++more).length→((z,ps)∉T→more=[(z,ps)])→Q (.int (k:Nat)) H'):zhh K C CN CT CM [.ref p,.str z,.ref q] H Q E:=by
 have ws:=S.ws
 by_cases hm:(z,ps)∈T
 ·refine⟨p,tl,al,rl,q,T,As,[],z,ps,rfl,⟨S.d.pr,hq,hlow,by lia,λi hi=>?_,by lia⟩,?_⟩
  ·have:=hp i hi;have h1:=this.1;have h2:=this.2;lia
  have hb:bad T ps=false:=zej h3 λi k hk=>by have:=hp k (mOq hk);have h1:=this.1;have h2:=this.2;lia
  have e:zc9 T (zbS z) (z,ps)=(.num (T.idxOf (z,ps)),T):=by
   unfold zc9
   rw[if_neg (by rw[hz];decide),if_neg (by show ¬bad T ps=true;rw[hb];decide),if_pos hm]
  rw[e]
  intro H' pr f
  have en:T++[]=T:=List.append_nil T
  refine out H' [] _ ⟨⟨by rw[en];exact pr,by rw[en];exact S.d.dm,by rw[en];exact S.d.t3,by rw[en];exact S.d.tN⟩,by rw[en];exact S.wf,by rw[en];exact Nat.le_trans ws (Nat.le_add_right _ _)⟩ f (Nat.zero_le _) ?_ (λh=>absurd hm h)
  rw[en]
  exact List.length_pos_of_mem hm
 ·refine go_add S.d hq hz hlow h3 hp hl λH' more k pr f m1 kl hn=>?_
  have em:=hn hm
  subst em
  exact out H' [(z,ps)] k ⟨pr,S.wf.snoc hp,by rw[zgJ];show zfP T+(3 ^ ps.length+0)≤_;lia⟩ f m1 (by lia) hn
theorem zlP {H:Hp} {p tl al rl:Addr} {T:List Tm} {As:List At} {z:Str} {n:Nat} {Q:VK} {E:XK} (S:PrS K C H p tl al rl T As n) (hz:zbS z=true) (hlow:Low z) (hl:As.length < 40)
  (out:∀(H':Hp) (more:List At) (k:Nat),PrS K C H' p tl al rl T (As++more) n→Fr2 H H' al rl→more.length≤1→1≤(As++more).length→(∀ y∈more,y=At.plain z)→Q (.int (k:Nat)) H'):zfj K C CN CT CP CM [.ref p,.str z] H Q E :=
 zmw S.d hz hlow hl λH' more k pr=>out H' more k ⟨pr,S.wf,S.ws⟩
theorem zhc {H:Hp} {p tl al rl:Addr} {T:List Tm} {As:List At} {a b:Int} {n:Nat} {Q:VK} {E:XK} (S:PrS K C H p tl al rl T As n) (ha:InR T.length a) (hb:InR T.length b) (hl:As.length < 40)
  (out:∀(H':Hp) (more:List At) (k:Nat),PrS K C H' p tl al rl T (As++more) n→Fr2 H H' al rl→more.length≤1→1≤(As++more).length→(∀ y∈more,y=At.same a b)→Q (.int (k:Nat)) H'):zfV K C CN CT CP CM [.ref p,.int a,.int b] H Q E :=
 zj1 S.d ha hb hl λH' more k pr=>out H' more k ⟨pr,S.wf,S.ws⟩
def GoodZ (z:Str):Prop:=zbS z=true∧Low z
theorem abc_at {i:Int} (h0:0≤i) (h1:i < 3):∃ z,atI [V.str "a",V.str "b",V.str "c"] i=some (.str z)∧GoodZ z∧∀ j:Int,0≤j→j < 3→j≠i→atI [V.str "a",V.str "b",V.str "c"] j≠some (.str z):=by
 have:i=0∨i=1∨i=2:=by lia
 rcases this with rfl | rfl | rfl
 all_goals
  refine⟨_,rfl,⟨by decide +kernel,by decide +kernel,by decide +kernel⟩,λj j0 j1 jn=>?_⟩
  have:j=0∨j=1∨j=2:=by lia
  rcases this with rfl | rfl | rfl <;> first | exact absurd rfl jn | exact(by decide +kernel)
def PlN:At→Prop
 | .plain z=>z="p"∨z="a"
 | .same _ _=>True
theorem pa_at {i:Int} (h0:0≤i) (h1:i < 2):∃ z,atI [V.str "p",V.str "a"] i=some (.str z)∧GoodZ z∧PlN (.plain z):=by
 have:i=0∨i=1:=by lia
 rcases this with rfl | rfl
 ·exact⟨_,rfl,⟨by decide +kernel,by decide +kernel,by decide +kernel⟩,.inl rfl⟩
 ·exact⟨_,rfl,⟨by decide +kernel,by decide +kernel,by decide +kernel⟩,.inr rfl⟩
theorem zo_at {i:Int} (h0:0≤i) (h1:i < 2):∃ k:Int,atI [V.int 0,V.int 1] i=some (.int k)∧0≤k∧k < 2:=by
 have:i=0∨i=1:=by lia
 rcases this with rfl | rfl
 ·exact⟨0,rfl,by decide,by decide⟩
 ·exact⟨1,rfl,by decide,by decide⟩
def CstT (T:List Tm) (i:Nat):Prop:=T.length=i∧∀(j:Nat) (t:Tm),T[j]?=some t→t.2=[]∧atI [V.str "a",V.str "b",V.str "c"] (j:Int)=some (.str t.1)
inductive zgW (K:W.Frag) (C:Addr):Sp|m{vs H Q E9} (a:Addr) (ns:List Int) (fs an:Int):vs=[.ref a,.int fs,.int an]→SqL K H a (ns.map V.int)→ns.length≤1000→0≤fs→fs≤100→0≤an→an≤20→(∀(H':Hp) (p tl al rl:Addr) (T:List Tm) (As:List At),ah H H'→H p=none→H tl=none→H al=none→H rl=none→PrS K C H' p tl al rl T As 12→2≤T.length→T.length≤6→As.length≤an.toNat→(1≤an→1≤As.length)→(∀ y∈As,PlN y)→Q (.ref p) H')→zgW K C vs H Q E9
theorem zaZ:aO ["_law_script","_law_first","_law_atoms","_law_problem","_law_cell","_law_k","_law_many"] ["_law_script","_law_first","_law_atoms"] (au zdC):=fsc
theorem zmd (F:Fun K "_law_small_by" "_law_small_by" zdC f fd) (T:Txt K mg aK C CN CT CP CM) (mrange:mg "range"=none) (mmax:mg "max"=none) (G:Own P w K mg base C CN CT CP CM fI fA fQ fS dI dA' dQ dS) (BC:FB P w K mg base CX0 1 "_law_cell_at" fC dC ["_law_script","_law_k"] (zcN K)):aQ P w K mg base CX0 5 f fd ["_law_script","_law_first","_law_atoms"] (zgW K C):=by
 refine F.ok zaZ (λvs H Q E h=>?_) (λcdv A outer s H vs Q E hr h=>?_)
 ·obtain⟨a,ns,fs,an,rfl,_⟩:=h
  rfl
 obtain⟨a,ns,fs,an,rfl,hS,n1000,f0,f1,a0,a1,Q0⟩:=h
 have hr1:ba 1 _:=hr.mono (by decide)
 have hr2:ba 2 _:=hr.mono (by decide)
 refine⟨_,(ae (aE (i:=3) zaZ.nd rfl (Or.inl rfl) (ziY G.mI G.I hr2 rfl G.gI G.bI .nil aI))
  (ae (aE (i:=4) zaZ.nd rfl (Or.inl rfl) (aB BC.ok hr1 rfl BC.m BC.kp BC.b .nil aI (aa (pv 0) (aa (pv 1) ac))))
  (ae (zaB PassesOwn.never rfl (zbi rfl mrange (aa (ar zah ad (ar zab (pv 4) ad)) ac)) (zaj (i:=5) zaZ.nd rfl (Or.inl rfl))
   (ag (zap (zaO (pv 3) T.cl G.mA G.A hr G.bA .nil zeQ (aa (aq zaa (zaq (aa zac (aa zac (aa zac ac)))) (pv 5)) (aa (zal ac) ac))))))
  (ae (zaB PassesOwn.never rfl (zbi rfl mrange (aa (ar zab (aB BC.ok hr1 rfl BC.m BC.kp BC.b .nil aI (aa (pv 0) (aa (ar zah (pv 1) ad) ac))) ad) ac)) (zaj (i:=5) zaZ.nd rfl (Or.inl rfl))
   (ag (zap (zaO (pv 3) T.cl G.mA G.A hr G.bA .nil zeQ (aa zac (aa (zal (aa (ar zab (ar zah (ar zak (aB BC.ok hr1 rfl BC.m BC.kp BC.b .nil aI (aa (pv 0) (aa (ar zah (ar zah (pv 1) ad) (pv 5)) ac))) ad) (pv 5)) (ap aj rfl T.len bL (aa (aR (pv 3) rfl) ac))) ac)) ac))))))
  (ae (zaB PassesOwn.never rfl (zbi rfl mrange (aa (pv 2) ac)) (zaj (i:=5) zaZ.nd rfl (Or.inl rfl))
   (ae (aE (i:=4) zaZ.nd rfl (Or.inl rfl) (aB BC.ok hr1 rfl BC.m BC.kp BC.b .nil aI (aa (pv 0) (aa (ar zah (ar zah (pv 1) ad) (pv 5)) ac))))
    (ae (aE (i:=6) zaZ.nd rfl (Or.inl rfl) (ap aj rfl T.len bL (aa (aR (pv 3) rfl) ac)))
    (ag (aL (aw zag (ar zab (pv 4) ad) ad)
     (ag (zap (zaO (pv 3) T.cl G.mQ G.Q hr G.bQ .nil zeQ (aa (aq zaa (zaq (aa zac (aa zac ac))) (ar zab (ar zak (pv 4) ad) ad)) ac))))
     (ag (aL (aw zbR (ar zab (pv 4) ad) ad)
       (ag (zap (zaO (pv 3) T.cl G.mS G.S hr G.bS .nil zeQ (aa (aq zaa (zaq (aa ad (aa ad ac))) (ar zab (ar zak (pv 4) ad) ad)) (aa (ar zbM ad (ar zab (ar zak (pv 4) ad) ad)) ac)))))
       (ag (aL (aw zbR (ar zab (pv 4) ad) ad)
         (ag (zap (zaO (pv 3) T.cl G.mS G.S hr G.bS .nil zeQ (aa (ar zbM (pv 6) ad) (aa (ap (zig rfl) rfl mmax PyProof.Rows.Boot.max (aa ad (aa (ar zbM (pv 6) ad) ac))) ac)))))
         (ag (zap (zaO (pv 3) T.cl G.mS G.S hr G.bS .nil zeQ (aa (ar zab (ar zak (pv 4) ad) (pv 6)) (aa (ar zab (ar zah (ar zah (ar zak (pv 4) ad) ad) (ar zak (ar zak (pv 4) ad) (pv 6))) (pv 6)) ac))))))))))))))
  (ag (ay (pv 3)))))))),?_⟩
 try dsimp only [Cx.nox,Cx.wish,aX]
 intro p dx np ndx nex
 refine⟨p,dx,rfl,af,λtl al rl H1 ht ha hrr na nr nx k1 k2 k3 k4 k5=>⟨rfl,?_⟩⟩
 obtain⟨S1,s1,ft,fa,fr⟩:=madeD (K:=K) (C:=C) np ndx nex ht ha hrr na nr nx k1 k2 k3 k4 k5
 refine⟨_,rfl,_,rfl,a,ns,fs,rfl,s1.seq hS,n1000,f0,by lia,λc=>?_⟩
 have b2:=zby c (show(0:Int) < 2 by decide)
 refine⟨_,rfl,_,_,rfl,rfl,(by show(0:Int) < 2;decide),_,_,rfl,rfl,_,rfl,(by show -(2 ^ 62)≤2+c % 2;lia),(by show 2+c % 2 < 2 ^ 62;lia),za6 (lo:=0) (n:=(2+c % 2).toNat) (λi σ H'=>∃(v5:Option V) (T':List Tm),σ=[some (.ref a),some (.int fs),some (.int an),some (.ref p),some (.int c),v5,none]∧ah H H'∧PrS K C H' p tl al rl T' [] i∧CstT T' i) ⟨none,[],rfl,s1,⟨S1,Wf.nil,nRq _⟩,rfl,λj t h=>by simp at h⟩ ?_ ?_⟩
 ·rintro i σ H2 hi ⟨v5,T',rfl,s2,S2,cs⟩
  have hi3:i < 3:=by lia
  obtain⟨⟨dx2,ho2⟩,_⟩:=id S2.d.pr
  obtain⟨z,hz,gz,uz⟩:=abc_at (i:=0+((i:Nat):Int)) (by lia) (by lia)
  obtain⟨cl,ct⟩:=cs
  refine⟨_,rfl,p,dx2,_,rfl,ho2,zgO _ _ _,lS3,λl hl=>?_⟩
  have s3:=ai hl (.lst [V.str "a",V.str "b",V.str "c"])
  have n3:=af (H:=H2) (a:=l) (o:=.lst [V.str "a",V.str "b",V.str "c"])
  generalize upd H2 l (.lst [V.str "a",V.str "b",V.str "c"])=H3 at s3 n3
  refine⟨_,rfl,l,_,_,_,rfl,rfl,SqL.of n3,hz,lS0,λe he=>?_⟩
  have s4:=s3.trans (ai he (.tup []))
  dsimp only [tNil]
  refine zj2 (S2.same s4) (.inr (SqT.of af)) gz.1 gz.2 (ps:=[]) (by show 0≤3;decide) (λ_ h=>nomatch h) (by lia) (λH' more k pr f m1 kl hn=>?_)
  have new:(z,([]:List Int))∉T':=λhm=>by
   obtain⟨j,hj⟩:=List.mem_iff_getElem?.mp hm
   have hjl:=(gEq hj).1
   exact uz (j:Int) (by lia) (by lia) (by lia) (ct j _ hj).2
  have em:=hn new
  subst em
  refine⟨_,T'++[(z,[])],rfl,f.fresh (s2.trans s4) ft,pr,by simp [cl],λj t hj=>?_⟩
  by_cases hlt:j < T'.length
  ·rw[List.getElem?_append_left hlt]at hj
   exact ct j t hj
  ·have hjl:=(gEq hj).1
   rw[lAq,lS]at hjl
   have ej:j=T'.length:=by lia
   rw[ej,List.getElem?_append_right (nRq _),Nat.sub_self]at hj
   cases hj
   refine⟨rfl,?_⟩
   rw[ej,cl]
   have:(0:Int)+((i:Nat):Int)=((i:Nat):Int):=by lia
   rw[←this]
   exact hz
 rintro σ H2 ⟨v5,T0,rfl,s2,S2,cl,ct⟩
 have cl2:2≤T0.length∧T0.length≤3:=by lia
 have S2':PrS K C H2 p tl al rl T0 [] 3:=⟨S2.d,S2.wf,by have:=S2.ws;lia⟩
 refine⟨_,rfl,_,rfl,_,_,rfl,rfl,a,ns,_,rfl,s2.seq hS,n1000,(by show 0≤fs+1;lia),(by show fs+1≤1000;lia),λc1=>?_⟩
 have b4:=zby c1 (show(0:Int) < 4 by decide)
 refine⟨_,_,rfl,rfl,(by show(0:Int) < 4;decide),_,rfl,(by show -(2 ^ 62)≤c1 % 4;lia),(by show c1 % 4 < 2 ^ 62;lia),za6 (lo:=0) (n:=(c1 % 4).toNat) (λi σ H'=>∃(v5:Option V) (T':List Tm),σ=[some (.ref a),some (.int fs),some (.int an),some (.ref p),some (.int c),v5,none]∧ah H H'∧PrS K C H' p tl al rl T' [] (3+3 * i)∧2≤T'.length∧T'.length≤3+i) ⟨v5,T0,rfl,s2,S2',by lia,by lia⟩ ?_ ?_⟩
 ·rintro i σ H3 hi ⟨v5',T',rfl,s3,S3,t2,t3⟩
  obtain⟨⟨dx3,ho3⟩,⟨ts,ht3,hT3⟩,_⟩:=id S3.d.pr
  have tl':ts.length=T'.length:=by rw[←hT3.length,lM]
  have mpos:(0:Int) < ((ts.length:Nat):Int):=by lia
  refine⟨_,rfl,p,dx3,_,rfl,ho3,zgO _ _ _,_,rfl,_,rfl,_,_,rfl,rfl,_,rfl,_,_,rfl,rfl,a,ns,_,rfl,s3.seq hS,n1000,(by show 0≤fs+2+(0+((i:Nat):Int));lia),(by show fs+2+(0+((i:Nat):Int))≤1000;lia),λc2=>⟨_,_,rfl,rfl,⟨by decide,by decide⟩,_,rfl,_,_,rfl,rfl,_,rfl,p,C,dx3,_,_,rfl,ho3,T.cl,T.nT,zaK _ _ _,tl,_,rfl,.inl (SqL.of ht3),_,_,rfl,rfl,mpos,lS1,λe he=>?_⟩⟩
  have m1:=zby (c2 / 3+(0+((i:Nat):Int))) mpos
  have i1:InR T'.length ((c2 / 3+(0+((i:Nat):Int))) % ((ts.length:Nat):Int)):=by rw[←tl'];exact m1
  have s4:=ai he (.tup [.int ((c2 / 3+(0+((i:Nat):Int))) % ((ts.length:Nat):Int))])
  dsimp only [tNil]
  refine zj2 (S3.same s4) (.inr (SqT.of af)) (by decide +kernel) (by exact⟨by decide +kernel,by decide +kernel⟩) (ps:=[(c2 / 3+(0+((i:Nat):Int))) % ((ts.length:Nat):Int)]) (by show 1≤3;decide) (λk hk=>by rw[mSq hk];exact i1) (by lia) (λH' more k pr f m1 kl hn=>?_)
  exact⟨_,T'++more,rfl,f.fresh (s3.trans s4) ft,⟨pr.d,pr.wf,by have:=pr.ws;simp only[lS]at this;lia⟩,by rw[lAq];lia,by rw[lAq];lia⟩
 rintro σ H3 ⟨v5',T',rfl,s3,S3,t2,t3⟩
 have S3':PrS K C H3 p tl al rl T' [] 12:=⟨S3.d,S3.wf,by have:=S3.ws;lia⟩
 have t6:T'.length≤6:=by lia
 refine⟨_,rfl,_,rfl,(by show -(2 ^ 62)≤an;lia),(by show an < 2 ^ 62;lia),za6 (lo:=0) (n:=an.toNat) (λi σ H'=>∃(v4 v5 v6:Option V) (As:List At),σ=[some (.ref a),some (.int fs),some (.int an),some (.ref p),v4,v5,v6]∧ah H H'∧PrS K C H' p tl al rl T' As 12∧As.length≤i∧(1≤i→1≤As.length)∧∀ y∈As,PlN y) ⟨_,v5',none,[],rfl,s3,S3',nRq _,(λh=>absurd h (by decide)),λy hy=>nomatch hy⟩ ?_ ?_⟩
 ·rintro i σ H4 hi ⟨v4,v5'',v6,As,rfl,s4,S4,lA,lA1,pA⟩
  refine⟨_,rfl,_,rfl,_,_,rfl,rfl,_,rfl,_,_,rfl,rfl,a,ns,_,rfl,s4.seq hS,n1000,(by show 0≤fs+6+(0+((i:Nat):Int));lia),(by show fs+6+(0+((i:Nat):Int))≤1000;lia),λc3=>?_⟩
  obtain⟨⟨dx4,ho4⟩,⟨ts,ht4,hT4⟩,_⟩:=id S4.d.pr
  have tl':ts.length=T'.length:=by rw[←hT4.length,lM]
  have mpos:(0:Int) < ((ts.length:Nat):Int):=by lia
  have msm:((ts.length:Nat):Int) < 1073741824:=by lia
  have b9:=zby (c3 / 9) (show(0:Int) < 2 by decide)
  have fin:∀(H' H5:Hp) (more:List At) (v6':Option V),ah H4 H5→Fr2 H5 H' al rl→PrS K C H' p tl al rl T' (As++more) 12→more.length≤1→1≤(As++more).length→(∀ y∈more,PlN y)→∃(v4 v5 v6:Option V) (As:List At),[some (.ref a),some (.int fs),some (.int an),some (.ref p),some (.int c3),some (.int (0+((i:Nat):Int))),v6']=[some (.ref a),some (.int fs),some (.int an),some (.ref p),v4,v5,v6]∧ah H H'∧PrS K C H' p tl al rl T' As 12∧As.length≤i+1∧(1≤i+1→1≤As.length)∧∀ y∈As,PlN y:=λH' H5 more v6' s5 f pr m1 o1 pm=>⟨_,_,_,As++more,rfl,f.fresh (s4.trans s5) fa fr,pr,by rw[lAq];lia,λ_=>o1,λy hy=>(mPq hy).elim (pA y) (pm y)⟩
  refine⟨_,rfl,p,C,dx4,_,_,rfl,ho4,T.cl,T.nT,zaK _ _ _,tl,_,rfl,.inl (SqL.of ht4),?_⟩
  refine⟨_,rfl,_,_,rfl,rfl,(by show(0:Int) < 9;decide),rfl,_,rfl,aJ (λ_=>?_) (λ_=>?_)⟩
  ·obtain⟨z,hz,gz,gp⟩:=pa_at b9.1 b9.2
   exact⟨_,rfl,p,dx4,_,rfl,ho4,zjp _ _ _,lS2,λl hl=>⟨_,rfl,_,_,rfl,rfl,⟨by decide,by decide⟩,_,_,rfl,rfl,(by show(0:Int) < 2;decide),l,_,_,_,rfl,rfl,SqL.of af,hz,zlP (S4.same (ai hl _)) gz.1 gz.2 (by lia) (λH' more k pr f m1 o1 em=>fin H' _ more _ (ai hl _) f pr m1 o1 λy hy=>by rw[em y hy];exact gp)⟩⟩
  refine⟨_,rfl,_,_,rfl,rfl,(by show(0:Int) < 9;decide),_,_,rfl,rfl,_,rfl,aJ (λ_=>?_) (λ_=>?_)⟩
  ·obtain⟨k0,hk0,k1,k2⟩:=zo_at b9.1 b9.2
   refine⟨_,rfl,p,dx4,_,rfl,ho4,zdQ _ _ _,lS2,λl hl=>⟨_,rfl,_,_,rfl,rfl,⟨by decide,by decide⟩,_,_,rfl,rfl,(by show(0:Int) < 2;decide),l,_,_,_,rfl,rfl,SqL.of af,hk0,_,rfl,_,_,rfl,rfl,⟨by decide,by decide⟩,_,_,rfl,rfl,(by show(0:Int) < 2;decide),_,_,rfl,rfl,zhc (S4.same (ai hl _)) ⟨k1,by lia⟩ ⟨by lia,by lia⟩ (by lia) (λH' more k pr f m1 o1 em=>fin H' _ more _ (ai hl _) f pr m1 o1 λy hy=>by rw[em y hy];trivial)⟩⟩
  refine⟨_,rfl,_,_,rfl,rfl,(by show(0:Int) < 9;decide),_,_,rfl,rfl,_,rfl,aJ (λ_=>?_) (λ_=>?_)⟩
  ·refine⟨_,rfl,p,dx4,_,rfl,ho4,zdQ _ _ _,_,rfl,_,_,rfl,rfl,_,rfl,_,_,rfl,rfl,_,_,rfl,zhc S4 ⟨by lia,by lia⟩ ?_ (by lia) (λH' more k pr f m1 o1 em=>fin H' _ more _ (ah.refl _) f pr m1 o1 λy hy=>by rw[em y hy];trivial)⟩
   constructor <;> split <;> lia
  ·have m1:=zby (c3 / 9) mpos
   have m2:=zby (c3 / 9+1+c3 / 9 / ((ts.length:Nat):Int)) mpos
   rw[tl']at m1 m2
   refine⟨_,rfl,p,dx4,_,rfl,ho4,zdQ _ _ _,_,rfl,_,_,rfl,rfl,⟨by decide,by decide⟩,_,rfl,_,_,rfl,rfl,mpos,_,rfl,_,_,rfl,rfl,⟨by decide,by decide⟩,_,_,rfl,rfl,_,rfl,_,_,rfl,rfl,⟨by decide,by decide⟩,_,rfl,_,_,rfl,rfl,⟨mpos,msm⟩,_,_,rfl,rfl,_,rfl,_,_,rfl,rfl,mpos,zhc S4 (by rw[tl'];exact m1) (by rw[tl'];exact m2) (by lia) (λH' more k pr f m1 o1 em=>fin H' _ more _ (ah.refl _) f pr m1 o1 λy hy=>by rw[em y hy];trivial)⟩
 rintro σ H4 ⟨v4,v5'',v6,As,rfl,s4,S4,lA,lA1,pA⟩
 exact⟨_,rfl,Q0 H4 p tl al rl T' As s4 np ft fa fr S4 t2 t6 lA (λh=>lA1 (by lia)) pA⟩
end K35
namespace Ls35
open PySem L2
abbrev ziB:Stmt:=K35.s__law_left
abbrev zjL:Stmt:=K35.s__law_hints
abbrev zfC:Stmt:=K35.s__law_spoilt
abbrev zjK:Stmt:=K35.s__law_right
structure TxL (K:W.Frag) (mg:Str→Option Value):Prop where
 len:mg "len"=none
 range:mg "range"=none
 tuple:mg "tuple"=none
 list:mg "list"=none
def leftV (H:Hp):Option (List Int)→V→Prop
 | none,v=>v=.non
 | some l,v=>∃ a,v=.ref a∧H a=some (.lst (l.map V.int))
inductive zgu (K:W.Frag):Sp|m{vs H Q E9} (q a:Addr) (row held:List Int):vs=[.ref q,.ref a]→SqT K H q (row.map V.int)→SqL K H a (held.map V.int)→row.length≤1000→(∀ H' v,ah H H'→leftV H' (zbT row held) v→(∀ b,v=.ref b→H b=none)→Q v H')→zgu K vs H Q E9
def InR (n:Nat) (hs:List Int):Prop:=∀ x∈hs,0≤x∧x < (n:Int)
inductive sp_hints (K:W.Frag):Sp|m{vs H Q E9} (rl pt:Addr) (xs:List V) (Rs:List (List Int)) (ps:List Int):vs=[.ref rl,.ref pt]→SqL K H rl xs→ao K H (Rs.map zfT) xs→SqT K H pt (ps.map V.int)→(∀ r∈Rs,r.length≤100)→Rs.length≤60→ps.length≤100→(∀ H' l hs,ah H H'→H l=none→H' l=some (.lst (hs.map V.int))→InR Rs.length hs→hs.length≤Rs.length→Q (.ref l) H')→sp_hints K vs H Q E9
def InS (_:Nat) (hs:List Int):Prop:=∀ x∈hs,True
inductive sp_spoilt:Sp|m{vs H Q E9} (l:Addr) (hs:List Int) (n:Nat) (c:Int):vs=[.ref l,.int (n:Nat),.int c]→H l=some (.lst (hs.map V.int))→InS n hs→hs.length≤90→(∀ H' l' hs',ah H H'→H' l'=some (.lst (hs'.map V.int))→InS n hs'→hs'.length≤hs.length+1→Q (.ref l') H')→sp_spoilt vs H Q E9
inductive sp_right (K:W.Frag):Sp|m{vs H Q E9} (rl pt hl:Addr) (xs:List V) (Rs:List (List Int)) (ps hs:List Int):vs=[.ref rl,.ref pt,.ref hl]→SqL K H rl xs→ao K H (Rs.map zfT) xs→SqT K H pt (ps.map V.int)→(SqL K H hl (hs.map V.int)∨SqT K H hl (hs.map V.int))→(∀ r∈Rs,r.length≤300)→ps.length≤300→hs.length≤300→InR Rs.length hs→(∀ H',ah H H'→Q (.bl (zbE Rs (ps.map λp=>-p) hs)) H')→sp_right K vs H Q E9
theorem zmC {row:List Int} {i:Nat} {k:Int} (p:Int→Bool) (h:row[i]?=some k):(row.take (i+1)).any p=((row.take i).any p||p k):=by
 rw[zaD h,List.any_append,List.any_cons,List.any_nil,Bool.or_false]
theorem zlV {row:List Int} {i:Nat} {k:Int} {p:Int→Bool} (h:row[i]?=some k) (e:p k=true):row.any p=true:=List.any_eq_true.mpr ⟨k,mOq h,e⟩
section
variable {P:Program} {w:World} {K:W.Frag} {mg:Str→Option Value} {base:Heap} {fL:Addr} {dL:FuncData}
theorem zjJ:aO ["_law_row","_law_held","_law_part"] ["_law_row","_law_held"] (au ziB):=fsc
theorem ok_left {f:Addr} {fd:FuncData} (F:Fun K "_law_left" "_law_left" ziB f fd):aQ P w K mg base CX0 1 f fd ["_law_row","_law_held"] (zgu K):=by
 refine F.ok zjJ (λvs H Q E h=>?_) (λcdv A outer s H vs Q E hr h=>?_)
 ·obtain⟨q,a,row,held,rfl,_⟩:=h
  rfl
 obtain⟨q,a,row,held,rfl,hq,ha,len,h⟩:=h
 refine⟨_,(ae (zaB PassesOwn.never rfl (zbr (pv 0)) (zaj (i:=2) zjJ.nd rfl (Or.inl rfl))
   (ag (aL (aw zh6 (pv 2) (pv 1) rfl)
     (ag (ay zbG))
     aA)))
  (ag (ay (ziI (N':=["_law_part","_law_held"]) (ix:=[1]) rfl rfl (by decide +kernel) (by decide +kernel) rfl (λok=>zdA (sc:=au ziB) ok rfl (by decide +kernel) (by decide +kernel)) (by decide +kernel) rfl rfl (λj i h=>match j,h with | 0,h=>by cases h;exact⟨_,rfl,rfl,.inl rfl,.inl rfl⟩ | n+1,h=>by simp at h) (zbr (pv 0)) (λ_ _ _ _=>(aw (r:=rIn K true) zbP (zbk zaQ (pv 0)) (pv 1) rfl)) (λ_ _ _ _=>(pv 0)))))),?_⟩
 try dsimp only [Cx.nox,Cx.wish,aX]
 refine⟨_,rfl,q,rfl,⟨_,hq⟩,zc1 (xs:=row.map V.int) (λi σ H'=>H'=H∧(row.take i).any (λp=>decide (p∈held))=false∧∃ v,σ=[some (.ref q),some (.ref a),v]) ⟨rfl,rfl,none,rfl⟩ (λi σ H' _ ⟨e,_⟩=>by rw[e];exact hq) ?_ ?_⟩
 ·rintro i x σ H' hx ⟨rfl,hn,v,rfl⟩
  obtain⟨k,hk,rfl⟩:=zaW hx
  refine⟨_,rfl,_,rfl,a,_,rfl,.inl ha,rfl,zdt _,_,rfl,?_⟩
  rw[zco]
  by_cases e:k∈held
  ·rw[dTq e]
   refine aS (h H' .non (ah.refl _) ?_ (λb z=>nomatch z))
   unfold zbT
   rw[if_pos (zlV hk (dTq e))]
   rfl
  ·rw[dFq e]
   refine aV ⟨rfl,?_,_,rfl⟩
   rw[zmC _ hk,hn,dFq e]
   rfl
 ·rintro σ H' ⟨rfl,hn,v,rfl⟩
  rw[lM,tO (nRq _)]at hn
  refine⟨_,rfl,q,rfl,⟨_,hq⟩,λD hD=>ziN zb5 (λi ys H2=>ah H' H2∧ys=((row.take i).filter λp=>decide (-p∉held)).map V.int) (λi ys H2 ⟨s1,_⟩=>s1.tup hq) ⟨ai hD _,rfl⟩ ?_ ?_⟩
  ·rintro i ys H2 x H'' hi hly hDs ⟨s1,rfl⟩ ⟨rfl,hx⟩
   obtain⟨k,hk',rfl⟩:=zaW (hx _ (s1.tup hq))
   have et:=zgR (λp=>decide (-p∉held)) hk'
   refine⟨_,rfl,_,rfl,_,rfl,a,_,rfl,.inl (s1.seq ha),rfl,zdt _,_,rfl,?_⟩
   rw[zco]
   by_cases e:-k∈held
   ·rw[dTq e]
    refine aV (zhN hi hly hDs ⟨s1,?_⟩)
    rw[et,if_neg (by simp [e])]
   ·rw[dFq e]
    refine aS ⟨_,rfl,zaH (by rw[lM];exact bsz _ len) hi hly hDs ⟨s1.upd hD,?_⟩⟩
    rw[et,if_pos (dTq e),mAq]
    rfl
  ·rintro ys H2 hDs ⟨s1,rfl⟩
   rw[lM,tO (nRq _)]at hDs
   refine h H2 _ s1 ?_ (λb z=>by cases z;exact hD)
   unfold zbT
   rw[if_neg (by rw[hn];decide)]
   exact⟨D,rfl,hDs⟩
theorem zid (hs:List Int) (lo hi:Option Int):∃ hs':List Int,aU (hs.map V.int) lo hi=hs'.map V.int∧(∀ x∈hs',x∈hs):=by
 unfold aU
 refine⟨(hs.drop (HT.sIx (hs.map V.int).length 0 lo)).take (HT.sIx (hs.map V.int).length (hs.map V.int).length hi - HT.sIx (hs.map V.int).length 0 lo),by rw[List.map_take,List.map_drop],λx hx=>List.mem_of_mem_drop (List.mem_of_mem_take hx)⟩
theorem ziG {n d:Nat} {i:Int} (h0:0≤i) (h1:i≤(n:Int)):HT.sIx n d (some i)=i.toNat:=by
 have e:i=((i.toNat:Nat):Int):=by lia
 rw[e,HT.sIx_nat]
 lia
theorem zhr {hs:List Int} {i:Int} (h0:0≤i) (h1:i≤(hs.length:Int)):aU (hs.map V.int) none (some i)=(hs.take i.toNat).map V.int:=by
 unfold aU
 rw[HT.sIx_none,ziG h0 (by rw[lM];exact h1),List.drop_zero,Nat.sub_zero,List.map_take]
theorem zhd {hs:List Int} {i:Int} (h0:0≤i) (h1:i≤(hs.length:Int)):aU (hs.map V.int) (some i) none=(hs.drop i.toNat).map V.int:=by
 unfold aU
 rw[HT.sIx_none,ziG h0 (by rw[lM];exact h1),tO (by rw[List.length_drop];lia),List.map_drop]
theorem znp (hs:List V) (lo hi:Option Int):(aU hs lo hi).length≤hs.length:=by
 unfold aU
 rw[List.length_take,List.length_drop]
 lia
theorem zh0:aO ["_law_hints_here","_law_many","_law_cell","_law_at"] ["_law_hints_here","_law_many","_law_cell"] (au zfC):=fsc
abbrev NSp:List Str:=["_law_hints_here","_law_many","_law_cell","_law_at"]
theorem zmQ {f:Addr} {cdv:Value} {A:Around} {outer:List Env} {s:Shared} {H0:Hp} {E:XK} :
  ∃ t,PSs (aX CX0 P w K mg base NSp "_law_spoilt" (au zfC) f cdv A outer s H0 E).nox ((zaX zfC).drop 1) t ∧
   ∀(D:zb9) (H:Hp) (l:Addr) (hs:List Int) (n:Nat) (c at_:Int) (Q:VK),H l=some (.lst (hs.map V.int))→InS n hs→hs.length≤90→0≤at_→at_≤(hs.length:Int)→D.rt=Q →
    (∀ H' l' hs',ah H H'→H' l'=some (.lst (hs'.map V.int))→InS n hs'→hs'.length≤hs.length+1→Q (.ref l') H')→t D [some (.ref l),some (.int (n:Nat)),some (.int c),some (.int at_)] H:=by
 refine⟨_,(ae (aL (PW.pt (zaR (aw zag (ar zab (pv 2) ad) ad) (zaV (aw zcC (pv 1) ad))))
   (ag (ay (ar zaT (ar zaT (zat zbf (pv 0) zaG (zaF (pv 3))) (zaq (aa (ar zab (ar zak (pv 2) ad) (pv 1)) ac))) (zat zbf (pv 0) (zaF (pv 3)) zaG))))
   aA)
  (ae (aL (aw zag (ar zab (pv 2) ad) ad)
   (ag (ay (ar zaT (zat zbf (pv 0) zaG (zaF (pv 3))) (zat zbf (pv 0) (zaF (ar zah (pv 3) ad)) zaG))))
   aA)
  (ae (aL (aw zag (ar zab (pv 2) ad) ad)
   (ag (ay (ar zaT (zat zbf (pv 0) (zaF (pv 3)) zaG) (zat zbf (pv 0) zaG (zaF (pv 3))))))
   aA)
  (ag (ay (pv 0)))))),?_⟩
 try dsimp only [Cx.nox,Cx.wish,aX]
 rintro D H l hs n c at_ Q hl inr len a0 a1 rfl h
 have lm:(hs.map V.int).length=hs.length:=lM _
 have two:∀(H1:Hp) (lo1 hi1 lo2 hi2:Option Int),ah H H1→∀ a b p,H1 a=some (.lst (aU (hs.map V.int) lo1 hi1))→H1 b=some (.lst (aU (hs.map V.int) lo2 hi2))→(aU (hs.map V.int) lo1 hi1).length+(aU (hs.map V.int) lo2 hi2).length≤hs.length+1→H1 p=none→D.rt (.ref p) (upd H1 p (.lst (aU (hs.map V.int) lo1 hi1++aU (hs.map V.int) lo2 hi2))):=λH1 lo1 hi1 lo2 hi2 s1 a b p _ _ hl2 hp=>by
  obtain⟨c1,e1,m1⟩:=zid hs lo1 hi1
  obtain⟨c2,e2,m2⟩:=zid hs lo2 hi2
  rw[e1,e2,←mAq]
  rw[e1,e2,lM,lM]at hl2
  exact h _ p (c1++c2) (s1.trans (ai hp _)) af (λx hx=>(mPq hx).elim (λz=>inr x (m1 x z)) λz=>inr x (m2 x z)) (by rw[lAq];exact hl2)
 have fin:D.rt (.ref l) H:=h H l hs (ah.refl H) hl inr (by lia)
 have tail:∀ c2:Bool,True:=λ_=>trivial
 refine zdE (λn' hn'=>⟨_,rfl,_,_,rfl,rfl,(by show(0:Int) < 8;decide),rfl,_,rfl,aJ (λc1=>⟨_,rfl,_,_,rfl,rfl,_,rfl,aJ (λc2=>?_) (λc2=>hn')⟩) (λc1=>aV hn')⟩) ?_
 ·have hn:(0:Int) < (n:Int):=oDq c2
  have b0:=Int.emod_nonneg (c / 64) (show(n:Int)≠0 by lia)
  have b1:=Int.emod_lt_of_pos (c / 64) hn
  refine⟨_,rfl,_,rfl,_,rfl,l,_,rfl,SqL.of hl,λp1 hp1=>?_⟩
  have t1:ah H (upd H p1 (.lst (aU (hs.map V.int) none (some at_)))):=ai hp1 _
  refine⟨_,rfl,_,_,rfl,rfl,⟨by decide,by decide⟩,_,rfl,_,_,rfl,rfl,hn,lS1,λp2 hp2=>?_⟩
  have t2:=t1.trans (ai hp2 (.lst [.int (c / 64 % (n:Int))]))
  have g1:=ai hp2 (.lst [.int (c / 64 % (n:Int))]) _ _ (af (H:=H) (a:=p1) (o:=.lst (aU (hs.map V.int) none (some at_))))
  have cl:=znp (hs.map V.int) none (some at_)
  refine⟨p1,p2,_,_,rfl,rfl,g1,af,bsz _ (by rw[lm]at cl;simp only[lS];lia),λp3 hp3=>?_⟩
  have t3:=t2.trans (ai hp3 (.lst (aU (hs.map V.int) none (some at_)++[.int (c / 64 % (n:Int))])))
  have g3:=af (H:=upd (upd H p1 (.lst (aU (hs.map V.int) none (some at_)))) p2 (.lst [.int (c / 64 % (n:Int))])) (a:=p3) (o:=.lst (aU (hs.map V.int) none (some at_)++[.int (c / 64 % (n:Int))]))
  generalize upd (upd (upd H p1 (.lst (aU (hs.map V.int) none (some at_)))) p2 (.lst [.int (c / 64 % (n:Int))])) p3 (.lst (aU (hs.map V.int) none (some at_)++[.int (c / 64 % (n:Int))]))=H3 at t3 g3
  refine⟨_,rfl,_,rfl,_,rfl,l,_,rfl,SqL.of (t3 _ _ hl),λp4 hp4=>?_⟩
  have t4:=t3.trans (ai hp4 (.lst (aU (hs.map V.int) (some at_) none)))
  have g4:=ai hp4 (.lst (aU (hs.map V.int) (some at_) none)) _ _ g3
  have el:(hs.take at_.toNat).length+(hs.drop at_.toNat).length=hs.length:=by rw[List.length_take,List.length_drop];lia
  have e5:aU (hs.map V.int) none (some at_)++[V.int (c / 64 % (n:Int))]++aU (hs.map V.int) (some at_) none=(hs.take at_.toNat++[c / 64 % (n:Int)]++hs.drop at_.toNat).map V.int:=by rw[zhr a0 a1,zhd a0 a1];simp
  refine⟨p3,p4,_,_,rfl,rfl,g4,af,bsz _ (by rw[zhr a0 a1,zhd a0 a1];simp only[lAq,lM,lS];lia),λp5 hp5=>?_⟩
  have f5:=h (upd (upd H3 p4 (.lst (aU (hs.map V.int) (some at_) none))) p5 (.lst ((hs.take at_.toNat++[c / 64 % (n:Int)]++hs.drop at_.toNat).map V.int))) p5 (hs.take at_.toNat++[c / 64 % (n:Int)]++hs.drop at_.toNat) (t4.trans (ai hp5 _)) af (λx hx=>?_) (by simp only[lAq,lS];lia)
  ·rw[←e5]at f5
   exact f5
  rcases mPq hx with hx | hx
  ·rcases mPq hx with hx | hx
   ·exact inr x (List.mem_of_mem_take hx)
   ·exact trivial
  ·exact inr x (List.mem_of_mem_drop hx)
 all_goals
  refine⟨_,rfl,_,_,rfl,rfl,(by show(0:Int) < 8;decide),rfl,_,rfl,aJ (λc3=>?_) (λc3=>⟨_,rfl,_,_,rfl,rfl,(by show(0:Int) < 8;decide),rfl,_,rfl,aJ (λc4=>?_) (λc4=>⟨_,rfl,fin⟩)⟩)⟩
  ·refine⟨_,rfl,_,rfl,_,rfl,l,_,rfl,SqL.of hl,λp1 hp1=>?_⟩
   have t1:ah H (upd H p1 (.lst (aU (hs.map V.int) none (some at_)))):=ai hp1 _
   refine⟨_,rfl,_,rfl,_,_,rfl,rfl,_,rfl,l,_,rfl,SqL.of (t1 _ _ hl),λp2 hp2=>?_⟩
   have t2:=t1.trans (ai hp2 (.lst (aU (hs.map V.int) (some (at_+1)) none)))
   have g1:=ai hp2 (.lst (aU (hs.map V.int) (some (at_+1)) none)) _ _ (af (H:=H) (a:=p1) (o:=.lst (aU (hs.map V.int) none (some at_))))
   have l1:(aU (hs.map V.int) none (some at_)).length≤at_.toNat:=by rw[zhr a0 a1,lM,List.length_take];lia
   have l2:(aU (hs.map V.int) (some (at_+1)) none).length+at_.toNat≤hs.length:=by
    unfold aU
    rw[List.length_take,List.length_drop,HT.sIx_none,lm]
    by_cases e:at_+1≤(hs.length:Int)
    ·rw[ziG (by lia) (by lia)]
     lia
    ·have e1:HT.sIx hs.length 0 (some (at_+1))=hs.length:=by
      have e2:at_+1=(((at_+1).toNat:Nat):Int):=by lia
      rw[e2,HT.sIx_nat]
      lia
     rw[e1]
     lia
   exact⟨p1,p2,_,_,rfl,rfl,g1,af,bsz _ (by lia),λp3 hp3=>two _ none (some at_) (some (at_+1)) none t2 p1 p2 p3 g1 af (by lia) hp3⟩
  ·refine⟨_,rfl,_,rfl,_,rfl,l,_,rfl,SqL.of hl,λp1 hp1=>?_⟩
   have t1:ah H (upd H p1 (.lst (aU (hs.map V.int) (some at_) none))):=ai hp1 _
   refine⟨_,rfl,_,rfl,_,rfl,l,_,rfl,SqL.of (t1 _ _ hl),λp2 hp2=>?_⟩
   have t2:=t1.trans (ai hp2 (.lst (aU (hs.map V.int) none (some at_))))
   have g1:=ai hp2 (.lst (aU (hs.map V.int) none (some at_))) _ _ (af (H:=H) (a:=p1) (o:=.lst (aU (hs.map V.int) (some at_) none)))
   have l1:(aU (hs.map V.int) none (some at_)).length≤at_.toNat:=by rw[zhr a0 a1,lM,List.length_take];lia
   have l2:(aU (hs.map V.int) (some at_) none).length+at_.toNat≤hs.length:=by rw[zhd a0 a1,lM,List.length_drop];lia
   exact⟨p1,p2,_,_,rfl,rfl,g1,af,bsz _ (by lia),λp3 hp3=>two _ (some at_) none none (some at_) t2 p1 p2 p3 g1 af (by lia) hp3⟩
theorem ok_spoilt {f:Addr} {fd:FuncData} (F:Fun K "_law_spoilt" "_law_spoilt" zfC f fd) (T:TxL K mg):aQ P w K mg base CX0 1 f fd ["_law_hints_here","_law_many","_law_cell"] sp_spoilt:=by
 refine F.ok zh0 (λvs H Q E h=>?_) (λcdv A outer s H vs Q E hr h=>?_)
 ·obtain⟨l,hs,n,c,rfl,_⟩:=h
  rfl
 obtain⟨l,hs,n,c,rfl,hl,inr,len,h⟩:=h
 obtain⟨t2,h2,q2⟩:=zmQ (P:=P) (w:=w) (K:=K) (mg:=mg) (base:=base) (f:=f) (cdv:=cdv) (A:=A) (outer:=outer) (s:=s) (H0:=H) (E:=E)
 refine⟨_,ae (aE (i:=3) zh0.nd rfl (Or.inl rfl) (ar zab (ar zak (pv 2) ad) (ar zah (ap aj rfl T.len bL (aa (pv 0) ac)) ad))) h2,?_⟩
 have lm:(hs.map V.int).length=hs.length:=lM _
 refine⟨_,rfl,_,_,rfl,rfl,⟨by decide,by decide⟩,_,rfl,l,_,rfl,.inl (SqL.of hl),_,_,rfl,rfl,_,_,rfl,rfl,(by show(0:Int) < ((hs.map V.int).length:Int)+1;lia),?_⟩
 have b:=Int.emod_lt_of_pos (c / 8) (show(0:Int) < ((hs.map V.int).length:Int)+1 by lia)
 exact q2 _ H l hs n c _ Q hl inr len (Int.emod_nonneg _ (by lia)) (by lia) rfl h
end
end Ls35
namespace Ls35
open PySem L2
theorem zmA (ns:List Int):dep (.lst (ns.map Dt.int))≤60:=by
 simp only[dep,zjh]
 lia
section
variable {P:Program} {w:World} {K:W.Frag} {mg:Str→Option Value} {base:Heap} {fL:Addr} {dL:FuncData}
theorem zcm:aO ["_law_rows","_law_parts","_law_held","_law_hints_here","_law_step","_law_found","_law_number_here","_law_left_here"] ["_law_rows","_law_parts"] (au zjL):=fsc
theorem ok_hints {f:Addr} {fd:FuncData} (F:Fun K "_law_hints" "_law_hints" zjL f fd) (T:TxL K mg) (BL:FB P w K mg base CX0 1 "_law_left" fL dL ["_law_row","_law_held"] (zgu K)):aQ P w K mg base CX0 2 f fd ["_law_rows","_law_parts"] (sp_hints K):=by
 refine F.ok zcm (λvs H Q E h=>?_) (λcdv A outer s H vs Q E hr h=>?_)
 ·obtain⟨rl,pt,xs,Rs,ps,rfl,_⟩:=h
  rfl
 obtain⟨rl,pt,xs,Rs,ps,rfl,hS,hL,hP,lr,nR,lp,h⟩:=h
 have hu:=zmK hr
 have hlen:xs.length=Rs.length:=by rw[←hL.length,lM]
 refine⟨_,(ae (zg6 (i:=2) (N':=["_law_part"]) (ix:=[]) zcm.nd rfl (Or.inl rfl) rfl rfl (by decide +kernel) (by decide +kernel) rfl (λ_=>⟨[],zbd (by decide +kernel) (by decide +kernel)⟩) (by decide +kernel) rfl rfl (λj i h=>by simp at h) (zbr (pv 1)) (λ_ _ _ _=>(zbk zaQ (pv 0))))
  (ae (aE (i:=3) zcm.nd rfl (Or.inl rfl) (zaq ac))
  (ae (zaB PassesOwn.never rfl (zbi rfl T.range (aa (ap aj rfl T.len bL (aa (pv 0) ac)) ac)) (zaj (i:=4) zcm.nd rfl (Or.inl rfl))
   (ae (aE (i:=5) zcm.nd rfl (Or.inl rfl) (zbk zaQ ad))
    (ae (zaB PassesOwn.never rfl (zbi rfl T.range (aa (ap aj rfl T.len bL (aa (pv 0) ac)) ac)) (zaj (i:=6) zcm.nd rfl (Or.inl rfl))
     (ae (aE (i:=7) zcm.nd rfl (Or.inl rfl) (aB BL.ok hr rfl BL.m BL.kp BL.b .nil aI (aa (aq zaa (pv 0) (pv 6)) (aa (pv 2) ac))))
      (ag (aL (PW.pt (zaR (aw zhL (pv 7) zbG) (zaR (aw zbR (ap aj rfl T.len bL (aa (pv 7) ac)) ad) (zaV (aw zbR (pv 5) ad)))))
       (ag (aE (i:=5) zcm.nd rfl (Or.inl rfl) (pv 6)))
       aA))))
    (ae (aL (aw zbR (pv 5) ad)
     (ag (ay (pv 3)))
     aA)
    (ae (zap (zcj PySem.F.plainAttrs_list PySem.F.slot_list_append PySem.F.type_list_append za5 (pv 3) (aa (pv 5) ac)))
    (ae (aL (aw (zdj hu) (aB BL.ok hr rfl BL.m BL.kp BL.b .nil aI (aa (aq zaa (pv 0) (pv 5)) (aa (pv 2) ac))) (zaq ac))
     (ag (ay (pv 3)))
     aA)
    (ag (aE (i:=2) zcm.nd rfl (Or.inl rfl) (ar zaT (pv 2) (aB BL.ok hr rfl BL.m BL.kp BL.b .nil aI (aa (aq zaa (pv 0) (pv 5)) (aa (pv 2) ac))))))))))))
  (ag (ay (pv 3)))))),?_⟩
 try dsimp only [Cx.nox,Cx.wish,aX]
 refine⟨_,rfl,pt,rfl,⟨_,hP⟩,λD hD=>zbU zb5 (λi ys H'=>ah H H'∧ys=((ps.take i).map λp=>-p).map V.int) (λi ys H' ⟨s1,_⟩=>s1.tup hP) ⟨ai hD _,rfl⟩ ?_ ?_⟩
 ·rintro i ys H' x H'' hi hly hDs ⟨s1,rfl⟩ ⟨rfl,hx⟩
  obtain⟨k,hk',rfl⟩:=zaW (hx _ (s1.tup hP))
  refine⟨_,rfl,_,rfl,zaH (by rw[lM];exact bsz _ (by lia)) hi hly hDs ⟨s1.upd hD,?_⟩⟩
  rw[neg_snoc hk',mAq]
  rfl
 rintro ys H1 hDs ⟨s1,rfl⟩
 rw[lM,tO (nRq _)]at hDs
 refine⟨Nat.zero_le _,λl hl=>?_⟩
 have s2:ah H (upd H1 l (.lst [])):=s1.trans (ai hl _)
 have hl0:H l=none:=s1.free hl
 have nDl:D≠l:=zae hDs hl
 have bnd:((xs.length:Nat):Int) < 2 ^ 62:=by lia
 refine⟨_,rfl,rl,xs,rfl,.inl (s2.seq hS),_,rfl,by lia,bnd,za6 (lo:=0) (n:=((xs.length:Nat):Int).toNat) (λi σ H'=>∃(ha:Addr) (held hs:List Int) (v4 v5 v6 v7:Option V),σ=[some (.ref rl),some (.ref pt),some (.ref ha),some (.ref l),v4,v5,v6,v7]∧ah H H'∧H' l=some (.lst (hs.map V.int))∧H' ha=some (.lst (held.map V.int))∧ha≠l∧InR Rs.length hs∧hs.length=i∧held.length≤100+i)
  ⟨D,ps.map λp=>-p,[],none,none,none,none,rfl,s2,af,by rw[aD nDl];exact hDs,nDl,(λx hx=>nomatch hx),rfl,by rw[lM];lia⟩ ?_ ?_⟩
 rotate_left
 ·rintro σ H' ⟨ha,held,hs,v4,v5,v6,v7,rfl,s3,hl3,hha,nal,inr,lhs,lhe⟩
  exact⟨_,rfl,h H' l hs s3 hl0 hl3 inr (by lia)⟩
 rintro i σ H' hi ⟨ha,held,hs,v4,v5,v6,v7,rfl,s3,hl3,hha,nal,inr,lhs,lhe⟩
 refine⟨_,rfl,?_⟩
 refine⟨_,rfl,rl,xs,rfl,.inl (s3.seq hS),_,rfl,by lia,bnd,za6 (lo:=0) (n:=((xs.length:Nat):Int).toNat) (λj σ H2=>∃(fnd:Int) (v6 v7:Option V),σ=[some (.ref rl),some (.ref pt),some (.ref ha),some (.ref l),some (.int (0+(i:Nat))),some (.int fnd),v6,v7]∧ah H' H2∧(fnd=-1∨(0≤fnd∧fnd < (Rs.length:Int)∧∃ l',zbT (zas Rs fnd) held=some l'∧l'.length < 2)))
  ⟨-1,_,_,rfl,ah.refl _,.inl rfl⟩ ?_ ?_⟩
 ·rintro j σ H2 hj ⟨fnd,u6,u7,rfl,s4,hf⟩
  have ej:(0:Int)+(j:Nat)=((j:Nat):Int):=by lia
  rw[ej]
  have j0:(0:Int)≤((j:Nat):Int):=by lia
  have j1:((j:Nat):Int) < (Rs.length:Int):=by lia
  obtain⟨r,hr1,hr2⟩:=zeC hL j0 j1
  have s34:=s3.trans s4
  have rl100:(zas Rs ((j:Nat):Int)).length≤1000:=Nat.le_trans (lr _ (mOq (zei j0 j1))) (by decide)
  refine⟨_,rfl,_,rfl,rl,_,_,_,rfl,rfl,s34.seq hS,hr1,_,rfl,r,ha,zas Rs ((j:Nat):Int),held,rfl,s34.tup hr2,SqL.of (s4 _ _ hha),rl100,λH3 v s5 lv fr=>?_⟩
  cases el:zbT (zas Rs ((j:Nat):Int)) held with
  | none =>
   rw[el]at lv
   cases (show v=.non from lv)
   exact⟨_,rfl,rfl,_,rfl,aV (aV ⟨fnd,_,_,rfl,s4.trans s5,hf⟩)⟩
  | some l' =>
   rw[el]at lv
   obtain⟨b,rfl,hb⟩:=lv
   refine⟨_,rfl,rfl,_,rfl,aS ⟨_,rfl,b,_,rfl,.inl (SqL.of hb),_,_,rfl,rfl,_,rfl,aJ (λc1=>⟨_,rfl,_,_,rfl,rfl,_,rfl,aJ (λc2=>?_) (λc2=>?_)⟩) (λc1=>aV ?_)⟩⟩
   ·have c1':(((l'.map V.int).length:Nat):Int) < 2:=oDq c1
    rw[lM]at c1'
    exact⟨_,rfl,((j:Nat):Int),_,_,rfl,s4.trans s5,.inr ⟨j0,j1,l',el,by lia⟩⟩
   ·exact⟨fnd,_,_,rfl,s4.trans s5,hf⟩
   ·exact⟨fnd,_,_,rfl,s4.trans s5,hf⟩
 rintro σ H2 ⟨fnd,u6,u7,rfl,s4,hf⟩
 have s34:=s3.trans s4
 have hl4:=s4 _ _ hl3
 have hha4:=s4 _ _ hha
 refine⟨_,rfl,_,_,rfl,rfl,_,rfl,aJ (λc=>⟨_,rfl,h H2 l hs s34 hl0 hl4 inr (by lia)⟩) (λc=>?_)⟩
 have c':¬fnd < 0:=λz=>c (dTq z)
 obtain⟨f0,f1,l',el,ll⟩:0≤fnd∧fnd < (Rs.length:Int)∧∃ l',zbT (zas Rs fnd) held=some l'∧l'.length < 2:=hf.resolve_left (by lia)
 refine⟨_,rfl,.inl ⟨rfl,_,SqL.of hl4⟩,_,rfl,l,_,_,rfl,rfl,hl4,by rw[lM];exact zaJ (by lia),?_⟩
 have s5:ah H (upd H2 l (.lst (hs.map V.int++[.int fnd]))):=s34.upd hl0
 have hha5:upd H2 l (.lst (hs.map V.int++[.int fnd])) ha=some (.lst (held.map V.int)):=by
  rw[aD nal]
  exact hha4
 have hl5:upd H2 l (.lst (hs.map V.int++[.int fnd])) l=some (.lst ((hs++[fnd]).map V.int)):=by
  rw[mAq]
  exact af
 have inr5:InR Rs.length (hs++[fnd]):=λx hx=>(mPq hx).elim (inr x) λz=>by
  rw[mSq z]
  exact⟨f0,f1⟩
 have len5:(hs++[fnd]).length=i+1:=by rw[lAq,lhs];rfl
 generalize upd H2 l (.lst (hs.map V.int++[.int fnd]))=H5 at s5 hha5 hl5
 obtain⟨r,hr1,hr2⟩:=zeC hL f0 f1
 have rl100:(zas Rs fnd).length≤1000:=Nat.le_trans (lr _ (mOq (zei f0 f1))) (by decide)
 refine⟨_,rfl,_,rfl,rl,_,_,_,rfl,rfl,s5.seq hS,hr1,_,rfl,r,ha,zas Rs fnd,held,rfl,s5.tup hr2,SqL.of hha5,rl100,λH6 v s6 lv fr=>?_⟩
 rw[el]at lv
 obtain⟨b,rfl,hb⟩:=lv
 refine⟨Nat.zero_le _,λe he=>?_⟩
 have s7:ah H5 (upd H6 e (.lst [])):=s6.trans (ai he _)
 have hb7:=ai he (.lst []) _ _ hb
 have he7:=af (H:=H6) (a:=e) (o:=.lst [])
 generalize upd H6 e (.lst [])=H7 at s7 hb7 he7
 refine⟨.lst (l'.map Dt.int),.lst [],Has.lst' (SqL.of hb7) (ao.ints l'),Has.lst' (SqL.of he7) .nil,zmA l',_,rfl,aJ (λc2=>⟨_,rfl,h H7 l _ (s5.trans s7) hl0 (s7 _ _ hl5) inr5 (by lia)⟩) (λc2=>?_)⟩
 have s57:=s5.trans s7
 refine⟨_,rfl,_,rfl,_,rfl,rl,_,_,_,rfl,rfl,s57.seq hS,hr1,_,rfl,r,ha,zas Rs fnd,held,rfl,s57.tup hr2,SqL.of (s7 _ _ hha5),rl100,λH8 v s8 lv fr=>?_⟩
 rw[el]at lv
 obtain⟨b2,rfl,hb2⟩:=lv
 have hha8:=s8 _ _ (s7 _ _ hha5)
 have hl8:=s8 _ _ (s7 _ _ hl5)
 refine⟨ha,b2,_,_,rfl,rfl,hha8,hb2,bsz _ (by rw[lM,lM];lia),λp hp=>?_⟩
 have npl:p≠l:=(zae hl8 hp).symm
 refine⟨p,held++l',hs++[fnd],_,_,_,_,rfl,(s57.trans s8).trans (ai hp _),ai hp _ _ _ hl8,?_,npl,inr5,len5,by rw[lAq];lia⟩
 rw[mAq]
 exact af
theorem zfA:aO ["_law_rows","_law_parts","_law_hints_here","_law_held","_law_k","_law_left_here"] ["_law_rows","_law_parts","_law_hints_here"] (au zjK):=fsc
theorem zjx (Rs:List (List Int)) (held:List Int) (x y:Int) (t:List Int):zbE Rs held (x :: y :: t)=(match zbT (zas Rs x) held with
  | some [a]=>zbE Rs (held++[a]) (y :: t)
  | _=>false):=rfl
theorem rix_or {H:Hp} {q:Addr} {xs:List V} {i:Int} {v:V} {Q:VK} (h:SqL K H q xs∨SqT K H q xs) (e:atI xs i=some v) (k:Q v H):zfQ K (.ref q) (.int i) H Q∨zel K (.ref q) (.int i) H Q :=
 h.imp (λh=>⟨q,xs,i,v,rfl,rfl,h,e,k⟩) λh=>⟨q,xs,i,v,rfl,rfl,h,e,k⟩
theorem ok_right {f:Addr} {fd:FuncData} (F:Fun K "_law_right" "_law_right" zjK f fd) (T:TxL K mg) (BL:FB P w K mg base CX0 1 "_law_left" fL dL ["_law_row","_law_held"] (zgu K)):aQ P w K mg base CX0 2 f fd ["_law_rows","_law_parts","_law_hints_here"] (sp_right K):=by
 refine F.ok zfA (λvs H Q E h=>?_) (λcdv A outer s H vs Q E hr h=>?_)
 ·obtain⟨rl,pt,hl,xs,Rs,ps,hs,rfl,_⟩:=h
  rfl
 obtain⟨rl,pt,hl,xs,Rs,ps,hs,rfl,hS,hL,hP,hH,lr,lp,lh,inr,h⟩:=h
 have hlen:xs.length=Rs.length:=by rw[←hL.length,lM]
 refine⟨_,(ae (zg6 (i:=3) (N':=["_law_part"]) (ix:=[]) zfA.nd rfl (Or.inl rfl) rfl rfl (by decide +kernel) (by decide +kernel) rfl (λ_=>⟨[],zbd (by decide +kernel) (by decide +kernel)⟩) (by decide +kernel) rfl rfl (λj i h=>by simp at h) (zbr (pv 1)) (λ_ _ _ _=>(zbk zaQ (pv 0))))
  (ae (zaB PassesOwn.never rfl (zbi rfl T.range (aa (ap aj rfl T.len bL (aa (pv 2) ac)) ac)) (zaj (i:=4) zfA.nd rfl (Or.inl rfl))
   (ae (aE (i:=5) zfA.nd rfl (Or.inl rfl) (aB BL.ok hr rfl BL.m BL.kp BL.b .nil aI (aa (aq zaa (pv 0) (aq (zaa.or az) (pv 2) (pv 4))) (aa (pv 3) ac))))
    (ae (aL (aw zag (pv 4) (ar zbM (ap aj rfl T.len bL (aa (pv 2) ac)) ad))
     (ag (ay (zba (zaz zhL (pv 5) zbG) (zbs (zaz zag (ap aj rfl T.len bL (aa (pv 5) ac)) ad)))))
     aA)
    (ae (aL (PW.pt (zbc (aw zfY (pv 5) zbG) (za4 (aw zcB (ap aj rfl T.len bL (aa (pv 5) ac)) ad))))
     (ag (ay zav))
     aA)
    (ag (zap (zcj PySem.F.plainAttrs_list PySem.F.slot_list_append PySem.F.type_list_append za5 (pv 3) (aa (aq zaa (pv 5) ad) ac))))))))
  (ag (ay zav)))),?_⟩
 try dsimp only [Cx.nox,Cx.wish,aX]
 refine⟨_,rfl,pt,rfl,⟨_,hP⟩,λD hD=>zbU zb5 (λi ys H'=>ah H H'∧ys=((ps.take i).map λp=>-p).map V.int) (λi ys H' ⟨s1,_⟩=>s1.tup hP) ⟨ai hD _,rfl⟩ ?_ ?_⟩
 ·rintro i ys H' x H'' hi hly hDs ⟨s1,rfl⟩ ⟨rfl,hx⟩
  obtain⟨k,hk',rfl⟩:=zaW (hx _ (s1.tup hP))
  refine⟨_,rfl,_,rfl,zaH (by rw[lM];exact bsz _ (by lia)) hi hly hDs ⟨s1.upd hD,?_⟩⟩
  rw[neg_snoc hk',mAq]
  rfl
 rintro ys H1 hDs ⟨s1,rfl⟩
 rw[lM,tO (nRq _)]at hDs
 have lm:(hs.map V.int).length=hs.length:=lM _
 have bnd:(((hs.map V.int).length:Nat):Int) < 2 ^ 62:=by lia
 refine⟨_,rfl,hl,_,rfl,hH.imp s1.seq s1.tup,_,rfl,by lia,bnd,za6 (lo:=0) (n:=(((hs.map V.int).length:Nat):Int).toNat) (λi σ H'=>∃(held:List Int) (v4 v5:Option V),σ=[some (.ref rl),some (.ref pt),some (.ref hl),some (.ref D),v4,v5]∧ah H H'∧H' D=some (.lst (held.map V.int))∧held.length≤300+i∧zbE Rs held (hs.drop i)=zbE Rs (ps.map λp=>-p) hs)
  ⟨_,none,none,rfl,s1,hDs,by rw[lM];lia,rfl⟩ ?_ ?_⟩
 ·rintro i σ H' hi ⟨held,v4,v5,rfl,s2,hD2,lhe,er⟩
  have hi':i < hs.length:=by lia
  have ei:(0:Int)+(i:Nat)=((i:Nat):Int):=by lia
  rw[ei]
  have hx:hs[i]?=some hs[i]:=gG hi'
  have ed:hs.drop i=hs[i] :: hs.drop (i+1):=List.drop_eq_getElem_cons hi'
  generalize hs[i]=x at hx ed
  rw[ed]at er
  obtain⟨x0,x1⟩:=inr x (mOq hx)
  obtain⟨r,hr1,hr2⟩:=zeC hL x0 x1
  have rl100:(zas Rs x).length≤1000:=Nat.le_trans (lr _ (mOq (zei x0 x1))) (by decide)
  refine⟨_,rfl,_,rfl,_,rfl,rix_or (hH.imp s2.seq s2.tup) (zjj hx) ⟨rl,_,_,_,rfl,rfl,s2.seq hS,hr1,_,rfl,r,D,zas Rs x,held,rfl,s2.tup hr2,SqL.of hD2,rl100,λH3 v s3 lv fr=>?_⟩⟩
  have s23:=s2.trans s3
  refine⟨_,rfl,_,rfl,hl,_,rfl,hH.imp s23.seq s23.tup,_,_,rfl,rfl,rfl,_,rfl,aJ (λc=>?_) (λc=>?_)⟩
  ·have c':=oDq c
   injection c' with c'
   rw[lm]at c'
   have e0:hs.drop (i+1)=[]:=List.drop_eq_nil_of_le (by lia)
   rw[e0]at er
   have q:=h H3 s23
   rw[←er]at q
   cases el:zbT (zas Rs x) held with
   | none =>
    rw[el]at lv
    cases (show v=.non from lv)
    have e2:zbE Rs held [x]=false:=by
     show(match zbT (zas Rs x) held with | some l=>l.isEmpty | none=>false)=false
     rw[el]
    rw[e2]at q
    exact⟨_,rfl,rfl,_,rfl,aV q⟩
   | some l' =>
    rw[el]at lv
    obtain⟨b,rfl,hb⟩:=lv
    have e2:zbE Rs held [x]=l'.isEmpty:=by
     show(match zbT (zas Rs x) held with | some l=>l.isEmpty | none=>false)=l'.isEmpty
     rw[el]
    have e3:decide (V.int (((l'.map V.int).length:Nat):Int)=V.int 0)=l'.isEmpty:=by
     cases l' with
     | nil=>rfl
     | cons a t =>
      refine dFq λz=>?_
      injection z with z
      rw[lM]at z
      simp only[List.length_cons]at z
      lia
    rw[e2,←e3]at q
    exact⟨_,rfl,rfl,_,rfl,aS ⟨_,rfl,b,_,rfl,.inl (SqL.of hb),rfl,q⟩⟩
  ·have c':¬(i+1=hs.length):=λz=>c (dTq (by rw[lm];congr 1;lia))
   have ed2:hs.drop (i+1)=hs[i+1]'(by lia) :: hs.drop (i+1+1):=List.drop_eq_getElem_cons (by lia)
   generalize hs[i+1]'(by lia)=y at ed2
   rw[ed2,zjx,←ed2]at er
   have q:=h H3 s23
   rw[←er]at q
   cases el:zbT (zas Rs x) held with
   | none =>
    rw[el]at lv q
    cases (show v=.non from lv)
    exact⟨_,rfl,rfl,_,rfl,aS (aS q)⟩
   | some l' =>
    rw[el]at lv q er
    obtain⟨b,rfl,hb⟩:=lv
    refine⟨_,rfl,rfl,_,rfl,aV ⟨_,rfl,b,_,rfl,.inl (SqL.of hb),rfl,_,rfl,?_⟩⟩
    match l',hb,q,er with
    | [],hb,q,er=>exact aS q
    | a :: a2 :: t,hb,q,er =>
     have ne:¬(V.int ((((a :: a2 :: t).map V.int).length:Nat):Int)=V.int 1):=λz=>by
      injection z with z
      rw[lM]at z
      simp only[List.length_cons]at z
      lia
     rw[dFq ne]
     exact aS q
    | [a],hb,q,er =>
     refine iteNS rfl ?_
     have hD3:=s3 _ _ hD2
     refine⟨_,rfl,.inl ⟨rfl,_,SqL.of hD3⟩,_,rfl,b,_,_,_,rfl,rfl,SqL.of hb,rfl,D,_,_,rfl,rfl,hD3,by rw[lM];exact zaJ (by lia),?_⟩
     refine⟨held++[a],_,_,rfl,s23.upd hD,?_,by rw[lAq];simp only[lS];lia,er⟩
     rw[mAq]
     exact af
 ·rintro σ H' ⟨held,v4,v5,rfl,s2,hD2,lhe,er⟩
  have e0:hs.drop (((hs.map V.int).length:Nat):Int).toNat=[]:=List.drop_eq_nil_of_le (by lia)
  rw[e0]at er
  have q:=h H' s2
  rw[←er]at q
  exact q
end
end Ls35
namespace K35
open PySem L2
variable {P:Program} {w:World} {K:W.Frag} {mg:Str→Option Value} {base:Heap} {aK C CN CT CP CM f fR fC CG fN fA fB fL fE fH fF fS fO fT fP fU fI fQ fM:Addr} {fd dR' dC dN dA' dB dL' dE dH dF dS dO dT' dP' dP dU dI dQ dM:FuncData} {X:Cx} {av:List Addr} {I:List Addr→St→Hp→Prop} {G G':HG} {e e':Expr} {es:List Expr} {pos p2:Pos} {i k l n m m':Nat}
theorem zgh (q:Int):∀(ps acc:List Int),q∈aZ acc ps→q∈acc∨q∈ps
 | [],acc,h=>.inl (by simpa [aZ] using h)
 | p :: ps,acc,h=>by
  simp only[aZ]at h
  split at h
  ·rcases zgh q ps _ h with h | h
   ·exact .inl h
   ·exact .inr (List.mem_cons_of_mem _ h)
  ·rcases zgh q ps _ h with h | h
   ·rcases mPq h with h | h
    ·exact .inl h
    ·exact .inr (by rw[mSq h];simp)
   ·exact .inr (List.mem_cons_of_mem _ h)
theorem zjU:∀(ps acc:List Int),acc.Nodup→(aZ acc ps).Nodup
 | [],_,h=>h
 | p :: ps,acc,h=>by
  rw[aZ]
  refine zjU ps _ ?_
  split
  ·exact h
  ·rename_i c
   refine List.nodup_append.mpr ⟨h,List.nodup_cons.mpr ⟨List.not_mem_nil,List.nodup_nil⟩,λa ha b hb=>?_⟩
   rw[mSq hb]
   rintro rfl
   exact c ha
def RwIn (m:Nat) (r:List Int):Prop:=(∀ k∈r,PIn m k)∧r.length≤20∧r.Nodup
theorem zl5 {H:Hp} {p tl al rl q:Addr} {T:List Tm} {As:List At} {Rs:List (List Int)} {ps:List Int} {Q:VK} {E:XK} (S:PrD K C H p tl al rl T As Rs) (hq:SqI K H q ps) (pin:∀ k∈ps,PIn As.length k) (p20:ps.length≤20) (aN:As.length≤100) (rN:Rs.length < 200)
  (h:∀(H':Hp) (r:List Int) (v:V),PrD K C H' p tl al rl T As (Rs++[r])→Fr2 H H' al rl→RwIn As.length r→r.length≤ps.length→Q v H'):ziq K C CN CT CP CM [.ref p,.ref q] H Q E:=by
 refine⟨p,tl,al,rl,q,T,As,Rs,ps,rfl,S.pr,hq,by lia,λi hi=>?_,by lia,?_⟩
 ·obtain⟨_,h1,h2⟩:=pin i hi
  lia
 ·unfold zep
  have na:¬ps.any (zb6 As.length)=true:=by
   rw[List.any_eq_true]
   rintro ⟨k,hk,e⟩
   obtain⟨h0,h1,h2⟩:=pin k hk
   simp only[zb6,Bool.or_eq_true,decide_eq_true_eq]at e
   lia
  rw[if_neg na,if_neg (by lia),if_neg (by lia)]
  intro H' pr f'
  have ol:=zdn ps []
  rw[List.length_nil]at ol
  refine h H' (aZ [] ps) _ ⟨pr,S.dm,S.t3,S.tN⟩ f' ⟨λk hk=>?_,by lia,zjU ps [] List.nodup_nil⟩ (by lia)
  rcases zgh k ps [] hk with h | h
  ·exact nomatch h
  ·exact pin k h
def forB (s:Stmt):List Stmt:=match s with
 | .For _ _ b _ _=>b
 | _=>[]
theorem Fr2.seq {H H':Hp} {a z y:Addr} {xs:List V} (f:Fr2 H H' z y) (h:SqL K H a xs) (n1:a≠z) (n2:a≠y):SqL K H' a xs:=by
 rcases h with (h | ⟨o,h⟩) | h
 ·exact .inl (.inl (f _ _ h n1 n2))
 ·exact .inl (.inr ⟨o,f _ _ h n1 n2⟩)
 ·exact .inr h
theorem zaL:aO ["_law_problem","_law_script","_law_first","_law_many","_law_k","_law_cell","_law_row","_law_j","_law_part"] ["_law_problem","_law_script","_law_first","_law_many"] (au zde):=fsc
inductive zb7 (K:W.Frag) (C:Addr):Sp|m{vs H Q E9} (p tl al rl a:Addr) (T:List Tm) (As:List At) (Rs:List (List Int)) (ns:List Int) (fs n:Int):vs=[.ref p,.ref a,.int fs,.int n]→PrD K C H p tl al rl T As Rs→(∀ H',Fr2 H H' al rl→SqL K H' a (ns.map V.int))→ns.length≤1000→0≤fs→fs≤100→0≤n→n≤40→1≤As.length→As.length≤20→Rs.length≤100→(∀(H':Hp) (R':List (List Int)),PrD K C H' p tl al rl T As (Rs++R')→Fr2 H H' al rl→(∀ r∈R',RwIn As.length r)→(R'.length:Int)=n→Q .non H')→zb7 K C vs H Q E9
theorem zkw (F:Fun K "_law_rows_added" "_law_rows_added" zde f fd) (T:Txt K mg aK C CN CT CP CM) (GR:aQ P w K mg base (CX1 P w) 2 fR dR' ["self","parts"] (ziq K C CN CT CP CM)) (bR:aF K dR' ["self","parts"] []) (mR:zdb K C "add_row" fR) (BC:FB P w K mg base CX0 1 "_law_cell_at" fC dC ["_law_script","_law_k"] (zcN K)):aQ P w K mg base CX0 3 f fd ["_law_problem","_law_script","_law_first","_law_many"] (zb7 K C):=by
 refine F.ok zaL (λvs H Q E h=>?_) (λcdv A outer s H vs Q E hr h=>?_)
 ·obtain⟨p,tl,al,rl,a,Tt,As,Rs,ns,fs,n,rfl,_⟩:=h
  rfl
 obtain⟨p,tl,al,rl,a,Tt,As,Rs,ns,fs,n,rfl,S,kS,n1000,fs0,fs1,n0,n1,a1,aN,rN,q⟩:=h
 have hr1:ba 1 _:=hr.mono (by decide)
 refine⟨_,(ag (zaB PassesOwn.never rfl (zbi rfl T.range (aa (pv 3) ac)) (zaj (i:=4) zaL.nd rfl (Or.inl rfl))
   (ae (aE (i:=5) zaL.nd rfl (Or.inl rfl) (aB BC.ok hr1 rfl BC.m BC.kp BC.b .nil aI (aa (pv 1) (aa (ar zah (pv 2) (pv 4)) ac))))
    (ae (aE (i:=6) zaL.nd rfl (Or.inl rfl) (zaq ac))
    (ae (zaB PassesOwn.never rfl (zbi rfl T.range (aa (ar zah ad (ar zab (pv 5) ad)) ac)) (zaj (i:=7) zaL.nd rfl (Or.inl rfl))
     (ae (aE (i:=8) zaL.nd rfl (Or.inl rfl) (ar zah ad (ar zab (ar zak (pv 5) ad) (ap aj rfl T.len bL (aa (aR (pv 0) rfl) ac)))))
      (ae (aL (aw zag (ar zab (ar zak (pv 5) ad) ad) ad)
       (ag (aE (i:=8) zaL.nd rfl (Or.inl rfl) (zbk zaQ (pv 8))))
       aA)
      (ae (zap (zcj PySem.F.plainAttrs_list PySem.F.slot_list_append PySem.F.type_list_append za5 (pv 6) (aa (pv 8) ac)))
      (ag (aE (i:=5) zaL.nd rfl (Or.inl rfl) (ar zak (pv 5) ad)))))))
    (ag (zap (zaO (pv 0) T.cl mR GR hr bR .nil zeQ (aa (pv 6) ac))))))))),?_⟩
 try dsimp only [Cx.nox,Cx.wish,aX]
 refine⟨_,rfl,n,rfl,by lia,by lia,za6 (lo:=0) (n:=n.toNat) (λi σ H'=>Fr2 H H' al rl∧∃(v4 v5 v6 v7 v8:Option V) (R':List (List Int)),σ=[some (.ref p),some (.ref a),some (.int fs),some (.int n),v4,v5,v6,v7,v8]∧PrD K C H' p tl al rl Tt As (Rs++R')∧(∀ r∈R',RwIn As.length r)∧R'.length=i) ⟨Fr2.of_same (ah.refl _),none,none,none,none,none,[],rfl,by rw[List.append_nil];exact S,(λr hr=>nomatch hr),rfl⟩ ?_ ?_⟩
 ·rintro i σ H2 hi ⟨f2,v4,v5,v6,v7,v8,R2,rfl,S2,r2,l2⟩
  have hi':i < n.toNat:=hi
  have hS2:SqL K H2 a (ns.map V.int):=kS H2 f2
  refine⟨_,rfl,_,rfl,_,rfl,_,_,rfl,rfl,a,ns,_,rfl,hS2,n1000,(by show(0:Int)≤fs+(0+(i:Int));lia),(by show fs+(0+(i:Int))≤1000;lia),λc=>?_⟩
  refine⟨lS0,λlw hlw=>?_⟩
  have s3:=ai hlw (.lst [])
  have n3:=af (H:=H2) (a:=lw) (o:=.lst [])
  generalize upd H2 lw (.lst [])=H3 at s3 n3
  have b3:=zby c (show(0:Int) < 3 by decide)
  refine⟨_,rfl,_,_,rfl,rfl,(by show(0:Int) < 3;decide),_,_,rfl,rfl,_,rfl,(by show -(2 ^ 62)≤1+c % 3;lia),(by show 1+c % 3 < 2 ^ 62;lia),za6 (lo:=0) (n:=(1+c % 3).toNat) (λj σ H'=>ah H2 H'∧∃(c':Int) (v7 v8:Option V) (ps:List Int),σ=[some (.ref p),some (.ref a),some (.int fs),some (.int n),some (.int (0+(i:Int))),some (.int c'),some (.ref lw),v7,v8]∧H' lw=some (.lst (ps.map V.int))∧ps.length=j∧∀ k∈ps,PIn As.length k) ⟨s3,c,_,_,[],rfl,n3,rfl,λk hk=>nomatch hk⟩ ?_ ?_⟩
  ·rintro j σ H4 hj ⟨s4,c4,w7,w8,ps,rfl,hw,pl,pin⟩
   have hj':j < (1+c % 3).toNat:=hj
   obtain⟨dx,ys,ho,hl,yl⟩:=(S2.same s4).pr.lenA
   have yp:(0:Int) < ((ys.length:Nat):Int):=by lia
   have bm:=zby (c4 / 6) yp
   have fin:∀ k:Int,PIn As.length k→(ah H2 (upd H4 lw (.lst (ps.map V.int++[V.int k])))∧∃(c':Int) (v7 v8:Option V) (ps':List Int),[some (V.ref p),some (.ref a),some (.int fs),some (.int n),some (.int (0+(i:Int))),some (.int (c4 / 20)),some (.ref lw),some (.int (0+(j:Int))),some (.int k)]=[some (.ref p),some (.ref a),some (.int fs),some (.int n),some (.int (0+(i:Int))),some (.int c'),some (.ref lw),v7,v8]∧(upd H4 lw (.lst (ps.map V.int++[V.int k]))) lw=some (.lst (ps'.map V.int))∧ps'.length=j+1∧∀ k∈ps',PIn As.length k):=λk hk =>
    ⟨s4.upd hlw,_,_,_,ps++[k],rfl,by rw[af,mAq];rfl,by rw[lAq,pl];rfl,λx hx=>by
     rcases mPq hx with hx | hx
     ·exact pin x hx
     ·rw[mSq hx];exact hk⟩
   have sm:(ps.map V.int).length < sizeLine:=zaJ (by rw[lM];lia)
   refine⟨_,rfl,_,_,rfl,rfl,⟨by decide,by decide⟩,_,rfl,p,C,dx,_,_,rfl,ho,T.cl,T.nA,zad _ _ _,al,ys,rfl,.inl (SqL.of hl),_,_,rfl,rfl,yp,_,_,rfl,rfl,?_⟩
   refine⟨_,rfl,_,_,rfl,rfl,⟨by decide,by decide⟩,_,_,rfl,rfl,(by show(0:Int) < 2;decide),rfl,_,rfl,aJ (λ_=>?_) (λ_=>?_)⟩
   ·refine⟨_,rfl,_,rfl,?_⟩
    exact⟨_,rfl,.inl ⟨rfl,_,SqL.of hw⟩,_,rfl,lw,_,_,rfl,rfl,hw,sm,_,rfl,_,_,rfl,rfl,⟨by decide,by decide⟩,fin _ ⟨by lia,by lia,by lia⟩⟩
   ·exact⟨_,rfl,.inl ⟨rfl,_,SqL.of hw⟩,_,rfl,lw,_,_,rfl,rfl,hw,sm,_,rfl,_,_,rfl,rfl,⟨by decide,by decide⟩,fin _ ⟨by lia,by lia,by lia⟩⟩
  ·rintro σ H4 ⟨s4,c4,w7,w8,ps,rfl,hw,pl,pin⟩
   have S4:=S2.same s4
   obtain⟨dx,ho⟩:=S4.pr.ob
   refine⟨_,rfl,p,dx,_,rfl,ho,zkC _ _ _,_,rfl,?_⟩
   refine zl5 (ps:=ps) S4 (.inl (SqL.of hw)) pin (by lia) (by lia) (by rw[lAq];lia) λH5 r v S5 f5 rin _=>?_
   refine⟨f2.trans (λb o e m1 m2=>f5 _ _ (s4 _ _ e) m1 m2),_,_,_,_,_,R2++[r],rfl,by rw[←List.append_assoc];exact S5,λx hx=>?_,by rw[lAq,l2];rfl⟩
   rcases mPq hx with hx | hx
   ·exact r2 x hx
   ·rw[mSq hx]
    exact rin
 ·rintro σ H2 ⟨f2,v4,v5,v6,v7,v8,R2,rfl,S2,r2,l2⟩
  exact q H2 R2 S2 f2 r2 (by lia)
inductive Ln where
 | lrn (ps hs:List Int)
 | eql (ps:List Int) (ls:List Lk)
def Ln.ps:Ln→List Int
 | .lrn ps _=>ps
 | .eql ps _=>ps
def dLn:Ln→Dt
 | .lrn ps hs=>.tup [.str "learnt",.tup (ps.map Dt.int),.tup (hs.map Dt.int)]
 | .eql ps ls=>.tup [.str "equal",.tup (ps.map Dt.int),.tup (ls.map dL)]
theorem zgz:∀ l:Ln,nol (dLn l)=true
 | .lrn ps hs=>by simp only[dLn,nol,zbn,zd1,Bool.and_self]
 | .eql ps ls=>by simp only[dLn,nol,zbn,zd1,za2,Bool.and_self]
theorem zca (ls:List Ln):zbn (ls.map dLn)=true:=zaP zgz ls
def kdL:Ln→Str
 | .lrn _ _=>"learnt"
 | .eql _ _=>"equal"
def RestL (K:W.Frag) (H:Hp) (hq:Addr):Ln→Prop
 | .lrn _ hs=>SqT K H hq (hs.map V.int)
 | .eql _ ls=>∃ xs,SqT K H hq xs∧ao K H (ls.map dL) xs
theorem zhq {H:Hp} {l:Ln} {x:V} (h:Has K H (dLn l) x):∃ q pq hq,x=.ref q∧SqT K H q [.str (kdL l),.ref pq,.ref hq]∧SqT K H pq (l.ps.map V.int)∧RestL K H hq l:=by
 cases l with
 | lrn ps hs =>
  simp only[dLn,Has,ao]at h
  obtain⟨q,ys,rfl,hq,v1,r1,rfl,rfl,v2,r2,rfl,⟨a,as,rfl,ha,hA⟩,v3,r3,rfl,⟨b,bs,rfl,hb,hB⟩,rfl⟩:=h
  rw[zch hA]at ha
  rw[zch hB]at hb
  exact⟨q,a,b,rfl,hq,ha,hb⟩
 | eql ps ls =>
  simp only[dLn,Has,ao]at h
  obtain⟨q,ys,rfl,hq,v1,r1,rfl,rfl,v2,r2,rfl,⟨a,as,rfl,ha,hA⟩,v3,r3,rfl,⟨b,bs,rfl,hb,hB⟩,rfl⟩:=h
  rw[zch hA]at ha
  exact⟨q,a,b,rfl,hq,ha,bs,hb,hB⟩
theorem zhb {H:Hp} {ls:List Ln} {xs:List V} {i:Nat} {x:V} (h:ao K H (ls.map dLn) xs) (e:xs[i]?=some x):∃ l q pq hq,ls[i]?=some l∧x=.ref q∧SqT K H q [.str (kdL l),.ref pq,.ref hq]∧SqT K H pq (l.ps.map V.int)∧RestL K H hq l:=by
 obtain⟨d,e1,e2⟩:=h.get e
 rw[List.getElem?_map]at e1
 obtain⟨l,e3,rfl⟩:=Option.map_eq_some_iff.mp e1
 obtain⟨q,pq,hq,a⟩:=zhq e2
 exact⟨l,q,pq,hq,e3,a⟩
theorem ok_no {P:Program} {w:World} {K:W.Frag} {mg:Str→Option Value} {base:Heap} {CX:CXT} {k:Nat} {f:Addr} {fd:FuncData} {ps:List Str} {sp:Sp} (h:∀ vs H Q E,¬sp vs H Q E):aQ P w K mg base CX k f fd ps sp :=
 ⟨λvs H Q E q=>absurd q (h _ _ _ _),λA outer s H args us vs Q E _ _ _ _ hs=>absurd hs (h _ _ _ _)⟩
def RfL:Ln→Prop
 | .lrn ps hs=>ps.length≤20∧hs.length≤60
 | .eql _ _=>False
def zbH (ls:List Ln):List (List Int):=ls.map Ln.ps
theorem zek {H:Hp} {q pq hq:Addr} {ps hs:List Int} (h:SqT K H q [.str "learnt",.ref pq,.ref hq]) (h1:SqT K H pq (ps.map V.int)) (h2:SqT K H hq (hs.map V.int)):Has K H (dLn (.lrn ps hs)) (.ref q) :=
 Has.tup' h (.cons .str' (.cons (Has.tup' h1 (ao.ints _)) (.cons (Has.tup' h2 (ao.ints _)) .nil)))
theorem zgE {H:Hp} {q pq hq:Addr} {ps:List Int} {ls:List Lk} {xs:List V} (h:SqT K H q [.str "equal",.ref pq,.ref hq]) (h1:SqT K H pq (ps.map V.int)) (h2:SqT K H hq xs) (h3:ao K H (ls.map dL) xs):Has K H (dLn (.eql ps ls)) (.ref q) :=
 Has.tup' h (.cons .str' (.cons (Has.tup' h1 (ao.ints _)) (.cons (Has.tup' h2 h3) .nil)))
theorem zkm {H:Hp} {ls:List Ln} {i:Nat} {l:Ln} {us:List V} {D pq:Addr} (hD:H D=some (.lst us)) (g:ao K H ((zbH (ls.take i)).map dR) us) (hl:ls[i]?=some l) (hp:SqT K H pq (l.ps.map V.int)):ao K (upd H D (.lst (us++[.ref pq]))) ((zbH (ls.take (i+1))).map dR) (us++[.ref pq]):=by
 have kt:=zam.lst (ys:=us++[.ref pq]) hD
 unfold zbH at g ⊢
 rw[zaD hl,mAq,mAq]
 exact ao.append (g.keep kt (zaM _)) (ao.one (Has.tup' (kt.sq hp) (ao.ints l.ps)))
inductive zit (K:W.Frag) (D:Nat):Sp|m{vs H Q E9} (d:Nat) (r a:Addr) (n:Int) (xs:List V) (Rs:List (List Int)) (pk:List Int):D=d+1→vs=[.ref r,.ref a,.int n]→H r=some (.lst xs)→ao K H (Rs.map dR) xs→H a=some (.lst (pk.map V.int))→n=((pk.length+d:Nat):Int)→(∀ r∈Rs,r.length≤100)→Rs.length+2 ^ D≤60→pk.length+d≤20→(∀(H':Hp) (l:Addr) (us:List V) (ls:List Ln),ah H H'→H l=none→H' l=some (.lst us)→ao K H' (ls.map dLn) us→(∀ y∈ls,RfL y)→ls.length+1≤2 ^ D→Q (.ref l) H')→zit K D vs H Q E9
abbrev NRf:List Str:=["_law_rows","_law_picked","_law_atoms","_law_parts","_law_hints_here","_law_first","_law_lines"]
theorem za7:aO NRf ["_law_rows","_law_picked","_law_atoms"] (au zbv):=fsc
theorem zmW (T:Txt K mg aK C CN CT CP CM) {k:Nat} (BH:FB P w K mg base CX0 2 "_law_hints" fH dH ["_law_rows","_law_parts"] (Ls35.sp_hints K))
  {cdv:Value} {A:Around} {outer:List Env} {s:Shared} {H0:Hp} {E:XK} (hr:ba 2 (A.deeper (PyProof.Rows.envOfC "_law_refuted" (au zbv) s.heap.objs.size f cdv))) :
  ∃ t,PSs (aX CX0 P w K mg base NRf "_law_refuted" (au zbv) f cdv A outer s H0 E).nox ((zaX zbv).drop 7) t ∧
   ∀(En:zb9) (H:Hp) (r a q fa la:Addr) (n:Int) (v4:Option V) (xs us1 us2:List V) (Rs:List (List Int)) (ps:List Int) (ls1 ls2:List Ln),H r=some (.lst xs)→ao K H (Rs.map dR) xs→SqT K H q (ps.map V.int)→H fa=some (.lst us1)→H la=some (.lst (us1++us2))→ao K H (ls1.map dLn) us1→ao K H (ls2.map dLn) us2→(∀ r∈Rs,r.length≤100)→(∀ y∈ls2,RfL y)→Rs.length+ls2.length≤60→ls1.length≤100→ps.length≤20 →
    (∀(H':Hp) (l:Addr) (us:List V) (hs:List Int),ah H H'→H l=none→H' l=some (.lst us)→ao K H' ((ls1++ls2++[Ln.lrn ps hs]).map dLn) us→hs.length≤60→En.rt (.ref l) H') →
    t En [some (.ref r),some (.ref a),some (.int n),some (.ref q),v4,some (.ref fa),some (.ref la)] H:=by
 refine⟨_,(ae (aE (i:=0) za7.nd rfl (Or.inl rfl) (ar zaT (pv 0) (zbQ (N':=["_law_line"]) (ix:=[]) rfl rfl (by decide +kernel) (by decide +kernel) rfl (λ_=>⟨[],zbd (by decide +kernel) (by decide +kernel)⟩) (by decide +kernel) rfl rfl (λj i h=>by simp at h) (zcr (zat zbf (pv 6) (zaF (ap aj rfl T.len bL (aa (pv 5) ac))) zaG)) (λ_ _ _ _=>(aq (r:=zel K) az (pv 0) ad)))))
  (ae (aE (i:=4) za7.nd rfl (Or.inl rfl) (aB BH.ok hr rfl BH.m BH.kp BH.b .nil aI (aa (pv 0) (aa (pv 3) ac))))
  (ag (ay (ar zaT (pv 6) (zaq (aa (zal (aa zac (aa (pv 3) (aa (zai zaC rfl T.tuple PyProof.Rows.Boot.tuple (aa (pv 4) ac)) ac)))) ac))))))),?_⟩
 try dsimp only [Cx.nox,Cx.wish,aX]
 intro En H r a q fa la n v4 xs us1 us2 Rs ps ls1 ls2 hR hL hq hf hla g1 g2 r100 rf2 bnd l100 p20 Q0
 have ul1:us1.length=ls1.length:=by rw[←g1.length,lM]
 have ul2:us2.length=ls2.length:=by rw[←g2.length,lM]
 have xl:xs.length=Rs.length:=by rw[←hL.length,lM]
 refine⟨_,rfl,_,rfl,_,rfl,fa,_,rfl,.inl (SqL.of hf),_,rfl,la,_,rfl,SqL.of hla,λc hc=>?_⟩
 have ec:aU (us1++us2) (some ((us1.length:Nat):Int)) none=us2:=by
  unfold aU
  rw[HT.sIx_nat,HT.sIx_none,lAq,Nat.min_eq_left (by lia),List.drop_left,tO (by lia)]
 rw[ec]
 have s1:=ai hc (.lst us2)
 have n1:=af (H:=H) (a:=c) (o:=.lst us2)
 have g21:=g2.keep s1.kt (zca _)
 have hR1:=s1 _ _ hR
 have hL1:=hL.keep s1.kt (zaM _)
 generalize upd H c (.lst us2)=H1 at s1 n1 g21 hR1 hL1
 refine⟨c,rfl,⟨_,SqL.of n1⟩,λD hD=>zbU zcZ (λi ys H'=>ah H1 H'∧ao K H' ((zbH (ls2.take i)).map dR) ys) (λi ys H' ⟨s4,_⟩=>SqL.of (s4 _ _ n1)) ⟨ai hD _,ao.nil⟩ ?_ ?_⟩
 ·rintro i ys H8 z H4 hi hly hDs ⟨s4,g⟩ ⟨rfl,hx⟩
  obtain⟨l,lq,pq,hq2,hl,rfl,h1,h2,h3⟩:=zhb g21 (hx _ (SqL.of (s4 _ _ n1)))
  exact⟨_,rfl,lq,_,_,_,rfl,rfl,s4.tup h1,aH (j:=1) rfl,zaH (sz _ (by lia)) hi hly hDs ⟨s4.upd hD,zkm hDs g hl (s4.tup h2)⟩⟩
 rintro ys H2 hDs ⟨s4,g⟩
 rw[ul2,List.take_length]at g
 have yl:ys.length=ls2.length:=by rw[←g.length,lM,zbH,lM]
 refine⟨r,D,_,_,rfl,rfl,s4 _ _ hR1,hDs,sz _ (by lia),λr2 hr2=>?_⟩
 have s5:=ai hr2 (.lst (xs++ys))
 have n5:=af (H:=H2) (a:=r2) (o:=.lst (xs++ys))
 have g5:=g.keep s5.kt (zaM _)
 have s15:=s4.trans s5
 generalize upd H2 r2 (.lst (xs++ys))=H3 at s5 n5 g5 s15
 have s03:=s1.trans s15
 have hRs:ao K H3 ((Rs++zbH ls2).map dR) (xs++ys):=by
  rw[mAq]
  exact ao.append (hL1.keep s15.kt (zaM _)) g5
 have r100':∀ x∈Rs++zbH ls2,x.length≤100:=λx hx=>by
  rcases mPq hx with hx | hx
  ·exact r100 x hx
  ·obtain⟨y,hy,rfl⟩:=List.mem_map.mp hx
   have:=rf2 y hy
   cases y with
   | lrn ps hs=>exact Nat.le_trans this.1 (by decide)
   | eql ps ls=>exact this.elim
 refine⟨_,rfl,_,rfl,r2,q,_,Rs++zbH ls2,ps,rfl,SqL.of n5,hRs,s03.tup hq,r100',(by rw[lAq,zbH,lM];exact bnd),by lia,λH4 h4 hs s6 n6 hh4 _ hl4=>?_⟩
 have hl60:hs.length≤60:=by
  rw[lAq,zbH,lM]at hl4
  lia
 have s04:=s03.trans s6
 refine⟨_,rfl,_,rfl,_,rfl,h4,_,rfl,.inl ⟨SqL.of hh4,λt1 ht1=>⟨lS3,λt2 ht2=>⟨lS1,λt3 ht3=>?_⟩⟩⟩⟩
 have s7:=ai ht1 (.tup (hs.map V.int))
 have n7:=af (H:=H4) (a:=t1) (o:=.tup (hs.map V.int))
 have s8:=ai ht2 (.tup [.str "learnt",.ref q,.ref t1])
 have n8:=af (H:=upd H4 t1 (.tup (hs.map V.int))) (a:=t2) (o:=.tup [.str "learnt",.ref q,.ref t1])
 have s9:=ai ht3 (.lst [.ref t2])
 have n9:=af (H:=upd (upd H4 t1 (.tup (hs.map V.int))) t2 (.tup [.str "learnt",.ref q,.ref t1])) (a:=t3) (o:=.lst [.ref t2])
 have n7':=s9 _ _ (s8 _ _ n7)
 have n8':=s9 _ _ n8
 have s49:=(s7.trans s8).trans s9
 generalize upd (upd (upd H4 t1 (.tup (hs.map V.int))) t2 (.tup [.str "learnt",.ref q,.ref t1])) t3 (.lst [.ref t2])=H5 at s49 n7' n8' n9
 have s05:=s04.trans s49
 refine⟨la,t3,_,_,rfl,rfl,s05 _ _ hla,n9,sz _ (by rw[lAq,lS];lia),λo ho=>?_⟩
 have s10:=ai ho (.lst (us1++us2++[.ref t2]))
 have s06:=s05.trans s10
 refine Q0 _ o _ hs s06 (s05.free ho) af ?_ hl60
 rw[mAq,mAq]
 exact ao.append (ao.append (g1.keep s06.kt (zca _)) (g2.keep s06.kt (zca _))) (ao.one (zek (SqT.of (s10 _ _ n8')) (s06.tup hq) (SqT.of (s10 _ _ n7'))))
theorem ziM (F:Fun K "_law_refuted" "_law_refuted" zbv f fd) (T:Txt K mg aK C CN CT CP CM) (BH:FB P w K mg base CX0 2 "_law_hints" fH dH ["_law_rows","_law_parts"] (Ls35.sp_hints K)) (BR:FB P w K mg base CX0 2 "_law_right" fR dR' ["_law_rows","_law_parts","_law_hints_here"] (Ls35.sp_right K)) (b:aF K fd ["_law_rows","_law_picked","_law_atoms"] []) (kp:W.keepIn K (.ref f)=true) (m:mg "_law_refuted"=some (.ref f)):∀ D,aQ P w K mg base CX0 (D+2) f fd ["_law_rows","_law_picked","_law_atoms"] (zit K D)
 | 0=>ok_no λ_ _ _ _ h=>by
  obtain⟨_,_,_,_,_,_,_,h,_⟩:=h
  lia
 | D+1=>by
  have IH:=ziM F T BH BR b kp m D
  refine F.ok (k:=D+2) za7 (λvs H Q E h=>?_) (λcdv A outer s H vs Q E hr h=>?_)
  ·obtain⟨d,r,a,n,xs,Rs,pk,_,rfl,_⟩:=h
   rfl
  obtain⟨d,r,a,n,xs,Rs,pk,eD,rfl,hR,hL,hA,en,r100,bnd,pd,Q0⟩:=h
  have eD:D=d:=by lia
  subst eD
  have hr2:ba 2 _:=hr.mono (by lia)
  have xl:xs.length=Rs.length:=by rw[←hL.length,lM]
  obtain⟨tE,hE,gE⟩:=zmW (P:=P) (w:=w) (base:=base) (f:=f) (k:=D) (cdv:=cdv) (A:=A) (outer:=outer) (s:=s) (H0:=H) (E:=E) T BH hr2
  refine⟨_,(ae (aE (i:=3) za7.nd rfl (Or.inl rfl) (zai zaC rfl T.tuple PyProof.Rows.Boot.tuple (aa (zbQ (N':=["_law_part"]) (ix:=[]) rfl rfl (by decide +kernel) (by decide +kernel) rfl (λ_=>⟨[],zbd (by decide +kernel) (by decide +kernel)⟩) (by decide +kernel) rfl rfl (λj i h=>by simp at h) (zcr (pv 1)) (λ_ _ _ _=>(zbk zaQ (pv 0)))) ac)))
  (ae (aE (i:=4) za7.nd rfl (Or.inl rfl) (aB BH.ok hr2 rfl BH.m BH.kp BH.b .nil aI (aa (pv 0) (aa (pv 3) ac))))
  (ae (aL (zaI (aB BR.ok hr2 rfl BR.m BR.kp BR.b .nil aI (aa (pv 0) (aa (pv 3) (aa (pv 4) ac)))))
   (ag (ay (zaq (aa (zal (aa zac (aa (pv 3) (aa (zai zaC rfl T.tuple PyProof.Rows.Boot.tuple (aa (pv 4) ac)) ac)))) ac))))
   aA)
  (ae (aL (aw zag (ap aj rfl T.len bL (aa (pv 1) ac)) (pv 2))
   (ag (ay (zaq ac)))
   aA)
  (ae (aE (i:=5) za7.nd rfl (Or.inl rfl) (aB IH hr rfl m kp b .nil aI (aa (pv 0) (aa (ar zaT (pv 1) (zaq (aa (ar zah (ap aj rfl T.len bL (aa (pv 1) ac)) ad) ac))) (aa (pv 2) ac)))))
  (ae (aE (i:=0) za7.nd rfl (Or.inl rfl) (ar zaT (pv 0) (zbQ (N':=["_law_line"]) (ix:=[]) rfl rfl (by decide +kernel) (by decide +kernel) rfl (λ_=>⟨[],zbd (by decide +kernel) (by decide +kernel)⟩) (by decide +kernel) rfl rfl (λj i h=>by simp at h) (zcr (pv 5)) (λ_ _ _ _=>(aq (r:=zel K) az (pv 0) ad)))))
  (ae (aE (i:=6) za7.nd rfl (Or.inl rfl) (ar zaT (pv 5) (aB IH hr rfl m kp b .nil aI (aa (pv 0) (aa (ar zaT (pv 1) (zaq (aa (ar zbM (zbk zaQ (ap aj rfl T.len bL (aa (pv 1) ac))) ad) ac))) (aa (pv 2) ac))))))
  hE))))))),?_⟩
  try dsimp only [Cx.nox,Cx.wish,aX]
  refine⟨_,rfl,a,rfl,⟨_,SqL.of hA⟩,λN hN=>zbU zcZ (λi ys H'=>ah H H'∧ys=((pk.take i).map λp=>-p).map V.int) (λi ys H' ⟨s1,_⟩=>s1.seq (SqL.of hA)) ⟨ai hN _,rfl⟩ ?_ ?_⟩
  ·rintro i ys H' x H'' hi hly hDs ⟨s1,rfl⟩ ⟨rfl,hx⟩
   obtain⟨k,hk',rfl⟩:=zaW (hx _ (s1.seq (SqL.of hA)))
   refine⟨_,rfl,_,rfl,zaH (by rw[lM];exact bsz _ (by lia)) hi hly hDs ⟨s1.upd hN,?_⟩⟩
   rw[Ls35.neg_snoc hk',mAq]
   rfl
  rintro ys H1 hDs ⟨s1,rfl⟩
  rw[lM,List.take_length]at hDs
  refine⟨N,_,rfl,.inl ⟨SqL.of hDs,λq hq=>?_⟩⟩
  generalize eps:(pk.map λp=>-p)=ps at hDs
  have pl:ps.length=pk.length:=by rw[←eps,lM]
  have s2:=ai hq (.tup (ps.map V.int))
  have n2:=af (H:=H1) (a:=q) (o:=.tup (ps.map V.int))
  have s02:=s1.trans s2
  generalize upd H1 q (.tup (ps.map V.int))=H2 at s2 n2 s02
  have bnd':Rs.length+2 ^ D+2 ^ D≤60:=by rw[Nat.pow_succ]at bnd;lia
  have one:1≤2 ^ D:=Nat.one_le_two_pow
  refine⟨_,rfl,_,rfl,r,q,_,Rs,ps,rfl,SqL.of (s02 _ _ hR),hL.keep s02.kt (zaM _),SqT.of n2,r100,by lia,by lia,λH3 hh hs s3 n3 hh3 inr hsl=>?_⟩
  have s03:=s02.trans s3
  have hsl':hs.length≤60:=by lia
  refine⟨_,rfl,_,rfl,_,rfl,r,q,hh,_,Rs,ps,hs,rfl,SqL.of (s03 _ _ hR),hL.keep s03.kt (zaM _),SqT.of (s3 _ _ n2),.inl (SqL.of hh3),(λz hz=>Nat.le_trans (r100 z hz) (by decide)),by lia,by lia,inr,λH4 s4=>⟨_,rfl,?_⟩⟩
  have s04:=s03.trans s4
  have n2':=s4 _ _ (s3 _ _ n2)
  have hh4:=s4 _ _ hh3
  cases er:zbE Rs (ps.map λp=>-p) hs with
  | true =>
   refine aS ⟨_,rfl,_,rfl,hh,_,rfl,.inl ⟨SqL.of hh4,λt1 ht1=>⟨lS3,λt2 ht2=>⟨lS1,λt3 ht3=>?_⟩⟩⟩⟩
   have s7:=ai ht1 (.tup (hs.map V.int))
   have n7:=af (H:=H4) (a:=t1) (o:=.tup (hs.map V.int))
   have s8:=ai ht2 (.tup [.str "learnt",.ref q,.ref t1])
   have n8:=af (H:=upd H4 t1 (.tup (hs.map V.int))) (a:=t2) (o:=.tup [.str "learnt",.ref q,.ref t1])
   have s9:=ai ht3 (.lst [.ref t2])
   have s49:=(s7.trans s8).trans s9
   refine Q0 _ t3 [.ref t2] [.lrn ps hs] (s04.trans s49) ((s04.trans (s7.trans s8)).free ht3) af (ao.one (zek (SqT.of (s9 _ _ n8)) (SqT.of (s49 _ _ n2')) (SqT.of (s9 _ _ (s8 _ _ n7))))) (λy hy=>?_) ?_
   ·rw[mSq hy]
    exact⟨by lia,hsl'⟩
   ·rw[Nat.pow_succ]
    show 2≤_
    lia
  | false =>
   refine aV ⟨_,rfl,a,_,rfl,.inl (SqL.of (s04 _ _ hA)),_,rfl,rfl,_,rfl,aJ (λc=>?_) (λc=>?_)⟩
   ·refine⟨lS0,λo ho=>Q0 _ o [] [] (s04.trans (ai ho _)) (s04.free ho) af .nil (λy hy=>nomatch hy) ?_⟩
    rw[Nat.pow_succ]
    show 1≤_
    lia
   have D1:D≠0:=λe=>c (dTq (by rw[en,e,lM,Nat.add_zero]))
   obtain⟨e,rfl⟩:∃ e,D=e+1:=⟨D - 1,by lia⟩
   have hA4:=s04 _ _ hA
   refine⟨_,rfl,_,rfl,_,rfl,a,_,rfl,.inl (SqL.of hA4),_,_,rfl,rfl,lS1,λb1 hb1=>?_⟩
   have s5:=ai hb1 (.lst [V.int (((pk.map V.int).length:Nat)+1)])
   have n5:=af (H:=H4) (a:=b1) (o:=.lst [V.int (((pk.map V.int).length:Nat)+1)])
   refine⟨a,b1,_,_,rfl,rfl,s5 _ _ hA4,n5,sz _ (by rw[lM];show pk.length+1≤1000;lia),λb2 hb2=>?_⟩
   have s6:=ai hb2 (.lst (pk.map V.int++[V.int (((pk.map V.int).length:Nat)+1)]))
   have n6:=af (H:=upd H4 b1 (.lst [V.int (((pk.map V.int).length:Nat)+1)])) (a:=b2) (o:=.lst (pk.map V.int++[V.int (((pk.map V.int).length:Nat)+1)]))
   have s06:=s04.trans (s5.trans s6)
   have n2'':=s6 _ _ (s5 _ _ n2')
   generalize upd (upd H4 b1 (.lst [V.int (((pk.map V.int).length:Nat)+1)])) b2 (.lst (pk.map V.int++[V.int (((pk.map V.int).length:Nat)+1)]))=H6 at n6 s06 n2''
   refine⟨_,rfl,e,r,b2,n,xs,Rs,pk++[(((pk.map V.int).length:Nat):Int)+1],rfl,rfl,s06 _ _ hR,hL.keep s06.kt (zaM _),(by rw[mAq];exact n6),(by rw[en,lAq,lS];congr 1;lia),r100,by lia,(by rw[lAq,lS];lia),λH7 fa us1 ls1 s7 nfa hfa g1 rf1 ln1=>?_⟩
   have s07:=s06.trans s7
   have ul1:us1.length=ls1.length:=by rw[←g1.length,lM]
   refine⟨_,rfl,_,rfl,fa,rfl,⟨_,SqL.of hfa⟩,λM hM=>zbU zcZ (λi ys H'=>ah H7 H'∧ao K H' ((zbH (ls1.take i)).map dR) ys) (λi ys H' ⟨s8,_⟩=>SqL.of (s8 _ _ hfa)) ⟨ai hM _,ao.nil⟩ ?_ ?_⟩
   ·rintro i ys H8 z H9 hi hly hDs ⟨s8,g⟩ ⟨rfl,hx⟩
    obtain⟨l,lq,pq,hq2,hl,rfl,h1,h2,h3⟩:=zhb g1 (hx _ (SqL.of (s8 _ _ hfa)))
    exact⟨_,rfl,lq,_,_,_,rfl,rfl,s8.tup h1,aH (j:=1) rfl,zaH (sz _ (by lia)) hi hly hDs ⟨s8.upd hM,zkm hDs g hl (s8.tup h2)⟩⟩
   rintro ys1 H8 hMs ⟨s8,gy⟩
   rw[ul1,List.take_length]at gy
   have yl:ys1.length=ls1.length:=by rw[←gy.length,lM,zbH,lM]
   have s08:=s07.trans s8
   refine⟨r,M,_,_,rfl,rfl,s08 _ _ hR,hMs,sz _ (by lia),λr1 hr1=>?_⟩
   have s9:=ai hr1 (.lst (xs++ys1))
   have n9:=af (H:=H8) (a:=r1) (o:=.lst (xs++ys1))
   have g9:=gy.keep s9.kt (zaM _)
   have s09:=s08.trans s9
   have s79:=s8.trans s9
   generalize upd H8 r1 (.lst (xs++ys1))=H9 at s9 n9 g9 s09 s79
   have hRs:ao K H9 ((Rs++zbH ls1).map dR) (xs++ys1):=by
    rw[mAq]
    exact ao.append (hL.keep s09.kt (zaM _)) g9
   have r100':∀ x∈Rs++zbH ls1,x.length≤100:=λx hx=>by
    rcases mPq hx with hx | hx
    ·exact r100 x hx
    ·obtain⟨y,hy,rfl⟩:=List.mem_map.mp hx
     have:=rf1 y hy
     cases y with
     | lrn ps hs=>exact Nat.le_trans this.1 (by decide)
     | eql ps ls=>exact this.elim
   have rl1:(Rs++zbH ls1).length=Rs.length+ls1.length:=by rw[lAq,zbH,lM]
   have hA9:=s09 _ _ hA
   refine⟨_,rfl,_,rfl,_,rfl,_,rfl,a,_,rfl,.inl (SqL.of hA9),_,rfl,_,_,rfl,rfl,lS1,λc1 hc1=>?_⟩
   have s10:=ai hc1 (.lst [V.int (-(((pk.map V.int).length:Nat):Int) - 1)])
   have n10:=af (H:=H9) (a:=c1) (o:=.lst [V.int (-(((pk.map V.int).length:Nat):Int) - 1)])
   refine⟨a,c1,_,_,rfl,rfl,s10 _ _ hA9,n10,sz _ (by rw[lM];show pk.length+1≤1000;lia),λc2 hc2=>?_⟩
   have s11:=ai hc2 (.lst (pk.map V.int++[V.int (-(((pk.map V.int).length:Nat):Int) - 1)]))
   have n11:=af (H:=upd H9 c1 (.lst [V.int (-(((pk.map V.int).length:Nat):Int) - 1)])) (a:=c2) (o:=.lst (pk.map V.int++[V.int (-(((pk.map V.int).length:Nat):Int) - 1)]))
   have s9b:=s10.trans s11
   generalize upd (upd H9 c1 (.lst [V.int (-(((pk.map V.int).length:Nat):Int) - 1)])) c2 (.lst (pk.map V.int++[V.int (-(((pk.map V.int).length:Nat):Int) - 1)]))=Hb at n11 s9b
   generalize (-(((pk.map V.int).length:Nat):Int) - 1)=z at n11
   have s0b:=s09.trans s9b
   refine⟨_,rfl,e,r1,c2,n,xs++ys1,Rs++zbH ls1,pk++[z],rfl,rfl,s9b _ _ n9,hRs.keep s9b.kt (zaM _),(by rw[mAq];exact n11),(by rw[en,lAq,lS];congr 1;lia),r100',by lia,(by rw[lAq,lS];lia),λHc l2 us2 ls2 s12 nl2 hl2 g2 rf2 ln2=>?_⟩
   have s0c:=s0b.trans s12
   have s7c:=(s79.trans s9b).trans s12
   have ul2:us2.length=ls2.length:=by rw[←g2.length,lM]
   refine⟨fa,l2,_,_,rfl,rfl,s7c _ _ hfa,hl2,sz _ (by lia),λla hla=>?_⟩
   have s13:=ai hla (.lst (us1++us2))
   have n13:=af (H:=Hc) (a:=la) (o:=.lst (us1++us2))
   have g2':=g2.keep s13.kt (zca _)
   have s9d:=(s9b.trans s12).trans s13
   have s7d:=s7c.trans s13
   have s0d:=s0c.trans s13
   have n2d:=(s7.trans s7d) _ _ n2''
   generalize upd Hc la (.lst (us1++us2))=Hd at n13 g2' s9d s7d s0d n2d
   refine gE _ Hd r1 a q fa la n _ (xs++ys1) us1 us2 (Rs++zbH ls1) ps ls1 ls2 (s9d _ _ n9) (hRs.keep s9d.kt (zaM _)) (SqT.of n2d) (s7d _ _ hfa) n13 (g1.keep s7d.kt (zca _)) g2' r100' rf2 (by lia) (by lia) (by lia) λH' l us hs' s14 nl hl g hsl2=>?_
   refine Q0 H' l us _ (s0d.trans s14) (s0d.free nl) hl g (λy hy=>?_) ?_
   ·rcases mPq hy with hy | hy
    ·rcases mPq hy with hy | hy
     ·exact rf1 y hy
     ·exact rf2 y hy
    ·rw[mSq hy]
     exact⟨by lia,hsl2⟩
   ·rw[lAq,lAq,lS,Nat.pow_succ]
    lia
inductive zhG (K:W.Frag):Sp|m{vs H Q E} D:D≤4→zit K D vs H Q E→zhG K vs H Q E
theorem zm6 (F:Fun K "_law_refuted" "_law_refuted" zbv f fd) (T:Txt K mg aK C CN CT CP CM) (BH:FB P w K mg base CX0 2 "_law_hints" fH dH ["_law_rows","_law_parts"] (Ls35.sp_hints K)) (BR:FB P w K mg base CX0 2 "_law_right" fR dR' ["_law_rows","_law_parts","_law_hints_here"] (Ls35.sp_right K)) (b:aF K fd ["_law_rows","_law_picked","_law_atoms"] []) (kp:W.keepIn K (.ref f)=true) (m:mg "_law_refuted"=some (.ref f)):aQ P w K mg base CX0 6 f fd ["_law_rows","_law_picked","_law_atoms"] (zhG K) :=
 ⟨λvs H Q E ⟨D,hD,q⟩=>(ziM F T BH BR b kp m D).len vs H Q E q,λA outer s H args us vs Q E hr he hb hv ⟨D,hD,q⟩=>((ziM F T BH BR b kp m D).mono (by lia)).run A outer s H args us vs Q E hr he hb hv q⟩
def LnV (k n m:Nat):Ln→Prop
 | .lrn ps hs=>ps.length≤20+k∧hs.length≤60+k
 | .eql ps ls=>ps.length≤20∧(∀ x∈ps,PIn m x)∧ls.length+1≤8 * 2 ^ k∧∀ l∈ls,zcf n m l
theorem atom0 {H:Hp} {As:List At} {ys:List V} {j:Int} (hA:ao K H (As.map dA) ys) (h0:0≤j) (h1:j < (ys.length:Int)):∃(b:Addr) (z:Str) (r:List V),atI ys j=some (.ref b)∧SqT K H b (.str z :: r):=by
 obtain⟨x,x1,x2⟩:=zbe h0 h1
 obtain⟨d,e1,e2⟩:=hA.get x1
 rw[List.getElem?_map]at e1
 obtain⟨a,e3,rfl⟩:=Option.map_eq_some_iff.mp e1
 cases a with
 | plain z =>
  obtain⟨q,rfl,hq⟩:=zcS e2
  exact⟨q,_,_,x2,hq⟩
 | same u v =>
  obtain⟨q,rfl,hq⟩:=zdq e2
  exact⟨q,_,_,x2,hq⟩
inductive zdS (K:W.Frag) (C:Addr):Sp|m{vs H Q E9} (p tl al rl:Addr) (T:List Tm) (As:List At) (Rs:List (List Int)):vs=[.ref p]→PrD K C H p tl al rl T As Rs→As.length≤3→T.length≤6→Rs.length≤40→(∀ r∈Rs,r.length≤100)→(∀(H':Hp) (l:Addr) (us:List V) (ls:List Ln),ah H H'→H l=none→H' l=some (.lst us)→ao K H' (ls.map dLn) us→(∀ y∈ls,LnV 0 T.length As.length y)→ls.length+1≤20→Q (.ref l) H')→zdS K C vs H Q E9
theorem zbw:aO ["_law_problem","_law_lines","_law_part","_law_parts","_law_bonds","_law_rows"] ["_law_problem"] (au zcF):=fsc
theorem ok_pby (F:Fun K "_law_paper_by" "_law_paper_by" zcF f fd) (T:Txt K mg aK C CN CT CP CM) (BL:FB P w K mg base CX0 3 "_law_links" fL dL' ["_law_problem","_law_parts"] (zf9 K C)) (BE:FB P w K mg base CX0 3 "_law_equal" fE dE ["_law_problem","_law_parts","_law_bonds"] (zeV K C)) (BR:FB P w K mg base CX0 6 "_law_refuted" fR dR' ["_law_rows","_law_picked","_law_atoms"] (zhG K)):aQ P w K mg base CX0 7 f fd ["_law_problem"] (zdS K C):=by
 refine F.ok zbw (λvs H Q E h=>?_) (λcdv A outer s H vs Q E hr h=>?_)
 ·obtain⟨p,tl,al,rl,T',As,Rs,rfl,_⟩:=h
  rfl
 obtain⟨p,tl,al,rl,T',As,Rs,rfl,S,a3,t6,r40,r100,Q0⟩:=h
 have hr3:ba 3 _:=hr.mono (by decide)
 refine⟨_,(ae (aE (i:=1) zbw.nd rfl (Or.inl rfl) (zaq ac))
  (ae (zaB PassesOwn.never rfl (zh1 rfl T.range (aa ad (aa (ar zah (ap aj rfl T.len bL (aa (aR (pv 0) rfl) ac)) ad) ac))) (zaj (i:=2) zbw.nd rfl (Or.inr rfl))
   (ae (aE (i:=3) zbw.nd rfl (Or.inl rfl) (zai zaC rfl T.tuple PyProof.Rows.Boot.tuple (aa (ar zaT (zaq (aa (pv 2) ac)) (ziI (N':=["_law_atom","_law_part"]) (ix:=[2]) rfl rfl (by decide +kernel) (by decide +kernel) rfl (λok=>zdA (sc:=au zcF) ok rfl (by decide +kernel) (by decide +kernel)) (by decide +kernel) rfl rfl (λj i h=>match j,h with | 0,h=>by cases h;exact⟨_,rfl,rfl,.inl rfl,.inl rfl⟩ | n+1,h=>by simp at h) (zh1 rfl T.range (aa ad (aa (ar zah (ap aj rfl T.len bL (aa (aR (pv 0) rfl) ac)) ad) ac))) (λ_ _ _ _=>(aw zcB (pv 0) (pv 1))) (λ_ _ _ _=>(zbk zaQ (pv 0))))) ac)))
    (ae (aE (i:=4) zbw.nd rfl (Or.inl rfl) (aB BL.ok hr3 rfl BL.m BL.kp BL.b .nil aI (aa (pv 0) (aa (pv 3) ac))))
    (ag (aL (PW.pt (zaR (aw zag (aq az (aq zaa (aR (pv 0) rfl) (ar zbM (pv 2) ad)) ad) zac) (zaV (zaI (aB BE.ok hr3 rfl BE.m BE.kp BE.b .nil aI (aa (pv 0) (aa (pv 3) (aa (pv 4) ac))))))))
     (ag (zap (zcj PySem.F.plainAttrs_list PySem.F.slot_list_append PySem.F.type_list_append za5 (pv 1) (aa (zal (aa zac (aa (pv 3) (aa (zai zaC rfl T.tuple PyProof.Rows.Boot.tuple (aa (pv 4) ac)) ac)))) ac))))
     aA)))))
  (ae (aE (i:=5) zbw.nd rfl (Or.inl rfl) (ar zaT (aR (pv 0) rfl) (zbQ (N':=["_law_line"]) (ix:=[]) rfl rfl (by decide +kernel) (by decide +kernel) rfl (λ_=>⟨[],zbd (by decide +kernel) (by decide +kernel)⟩) (by decide +kernel) rfl rfl (λj i h=>by simp at h) (zcr (pv 1)) (λ_ _ _ _=>(aq (r:=zel K) az (pv 0) ad)))))
  (ag (ay (ar zaT (pv 1) (aB BR.ok hr rfl BR.m BR.kp BR.b .nil aI (aa (pv 5) (aa (zaq ac) (aa (ap aj rfl T.len bL (aa (aR (pv 0) rfl) ac)) ac)))))))))),?_⟩
 try dsimp only [Cx.nox,Cx.wish,aX]
 obtain⟨⟨dx,ho⟩,_,⟨ys,ha,hA⟩,⟨zs,hz,hZ⟩,_⟩:=id S.pr
 have yl:ys.length=As.length:=by rw[←hA.length,lM]
 have zl:zs.length=Rs.length:=by rw[←hZ.length,lM]
 refine⟨lS0,λL hL=>?_⟩
 have s1:=ai hL (.lst [])
 have n1:=af (H:=H) (a:=L) (o:=.lst [])
 generalize upd H L (.lst [])=H1 at s1 n1
 refine⟨_,rfl,p,C,dx,_,_,rfl,s1 _ _ ho,T.cl,T.nA,zad _ _ _,al,ys,rfl,.inl (SqL.of (s1 _ _ ha)),_,_,rfl,rfl,_,_,rfl,(by refine⟨?_,?_,?_,?_⟩ <;> lia),za6 (lo:=1) (n:=((ys.length:Int)+1 - 1).toNat) (λi σ H'=>ah H H'∧∃(v2 v3 v4:Option V) (us:List V) (ls:List Ln),σ=[some (.ref p),some (.ref L),v2,v3,v4,none]∧H' L=some (.lst us)∧ao K H' (ls.map dLn) us∧(∀ y∈ls,LnV 0 T'.length As.length y∧y.ps.length≤100)∧ls.length≤i) ⟨s1,none,none,none,[],[],rfl,n1,.nil,(λy hy=>nomatch hy),nRq _⟩ ?_ ?_⟩
 ·rintro i σ H2 hi ⟨s2,v2,v3,v4,us,ls,rfl,hL2,g2,lv,ll⟩
  have hi':i < As.length:=by lia
  have ul:us.length=ls.length:=by rw[←g2.length,lM]
  generalize ek:(1:Int)+(i:Int)=k
  have pk:PIn As.length k:=⟨by lia,by lia,by lia⟩
  refine⟨_,rfl,lS1,λl1 hl1=>?_⟩
  have s3:=ai hl1 (.lst [V.int k])
  have n3:=af (H:=H2) (a:=l1) (o:=.lst [V.int k])
  have s03:=s2.trans s3
  show(λH3:Hp=>_) (upd H2 l1 (.lst [V.int k]))
  generalize upd H2 l1 (.lst [V.int k])=H3 at s3 n3 s03
  refine⟨_,rfl,p,C,dx,_,_,rfl,s03 _ _ ho,T.cl,T.nA,zad _ _ _,al,ys,rfl,.inl (SqL.of (s03 _ _ ha)),_,_,rfl,rfl,_,_,rfl,(by refine⟨?_,?_,?_,?_⟩ <;> lia),λD hD=>ziN zlZ (λj vs H'=>ah H3 H'∧∃ ns:List Int,vs=ns.map V.int∧ns.length≤j∧∀ x∈ns,PIn As.length x) (λ_ _ _ _=>trivial) ⟨ai hD _,[],rfl,nRq _,λx hx=>nomatch hx⟩ ?_ ?_⟩
  ·rintro j vs H8 x H4 hj hly hDs ⟨s4,ns,rfl,nl,np⟩ ⟨rfl,rfl⟩
   have hj':j < As.length:=by
    have:j < ((ys.length:Int)+1 - 1).toNat:=hj
    lia
   refine⟨_,rfl,_,rfl,rfl,_,rfl,aJ (λc=>?_) (λc=>zhN hj hly hDs ⟨s4,ns,rfl,by lia,np⟩)⟩
   refine⟨_,rfl,_,rfl,zaH (sz _ (by lia)) hj hly hDs ⟨s4.upd hD,ns++[-(1+(j:Int))],by rw[mAq];rfl,by rw[lAq,lS];lia,λx hx=>?_⟩⟩
   rcases mPq hx with hx | hx
   ·exact np x hx
   ·rw[mSq hx]
    exact⟨by lia,by lia,by lia⟩
  rintro vs H4 hDs ⟨s4,ns,rfl,nl,np⟩
  have nl':ns.length≤3:=by lia
  have s04:=s03.trans s4
  refine⟨l1,D,_,_,rfl,rfl,s4 _ _ n3,hDs,sz _ (by rw[lM];show 1+ns.length≤1000;lia),λl2 hl2=>?_⟩
  have ec:[V.int k]++ns.map V.int=(k :: ns).map V.int:=rfl
  rw[ec]
  have pin:∀ x∈k :: ns,PIn As.length x:=λx hx=>by
   rcases List.mem_cons.mp hx with rfl | hx
   ·exact pk
   ·exact np x hx
  have pl:(k :: ns).length≤20:=by rw[List.length_cons];lia
  generalize k :: ns=ps at pin pl
  have s5:=ai hl2 (.lst (ps.map V.int))
  refine⟨l2,_,rfl,.inl ⟨SqL.of af,λq hq=>?_⟩⟩
  have s6:=ai hq (.tup (ps.map V.int))
  have n6:=af (H:=upd H4 l2 (.lst (ps.map V.int))) (a:=q) (o:=.tup (ps.map V.int))
  have s46:=s5.trans s6
  generalize upd (upd H4 l2 (.lst (ps.map V.int))) q (.tup (ps.map V.int))=H6 at n6 s46
  have s06:=s04.trans s46
  have s26:=(s3.trans s4).trans s46
  refine⟨_,rfl,_,rfl,p,tl,al,rl,q,T',As,Rs,ps,rfl,S.same s06,.inr (SqT.of n6),pin,λH7 bl bus bls s7 nbl hbl gb lin blen=>?_⟩
  have s07:=s06.trans s7
  have s27:=s26.trans s7
  have hq7:SqT K H7 q (ps.map V.int):=SqT.of (s7 _ _ n6)
  obtain⟨b,z,rr,x2,hb⟩:=atom0 (hA.keep s07.kt (zaP zdW _)) (show 0≤k - 1 by lia) (show k - 1 < (ys.length:Int) by lia)
  have skip:∀ H':Hp,ah H2 H'→∀ v3 v4:Option V,(ah H H'∧∃(v2 v3' v4':Option V) (us:List V) (ls:List Ln),[some (V.ref p),some (.ref L),some (.int k),v3,v4,none]=[some (.ref p),some (.ref L),v2,v3',v4',none]∧H' L=some (.lst us)∧ao K H' (ls.map dLn) us∧(∀ y∈ls,LnV 0 T'.length As.length y∧y.ps.length≤100)∧ls.length≤i+1):=λH' s' v3 v4=>⟨s2.trans s',_,_,_,us,ls,rfl,s' _ _ hL2,g2.keep s'.kt (zca _),lv,by lia⟩
  refine⟨_,rfl,p,C,dx,_,_,rfl,s07 _ _ ho,T.cl,T.nA,zad _ _ _,_,rfl,_,_,rfl,rfl,al,_,_,_,rfl,rfl,SqL.of (s07 _ _ ha),x2,b,_,_,_,rfl,rfl,hb,aH (j:=0) rfl,rfl,_,rfl,aJ (λ_=>?_) (λ_=>aV (skip H7 s27 _ _))⟩
  refine⟨_,rfl,_,rfl,_,rfl,p,tl,al,rl,q,bl,T',As,Rs,ps,bus,bls,rfl,S.same s07,.inr hq7,pin,.inl (SqL.of hbl),gb,lin,λH8 s8=>⟨_,rfl,?_⟩⟩
  have s28:=s27.trans s8
  have s08:=s07.trans s8
  cases eqF rtm ps T' As bls (λt=>t) with
  | false=>exact aV (skip H8 s28 _ _)
  | true =>
   have hL8:=s28 _ _ hL2
   refine aS ⟨_,rfl,.inl ⟨rfl,_,SqL.of hL8⟩,_,rfl,_,rfl,bl,_,rfl,.inl ⟨SqL.of (s8 _ _ hbl),λt1 ht1=>⟨lS3,λt2 ht2=>?_⟩⟩⟩
   have s9:=ai ht1 (.tup bus)
   have n9:=af (H:=H8) (a:=t1) (o:=.tup bus)
   have s10:=ai ht2 (.tup [.str "equal",.ref q,.ref t1])
   have n10:=af (H:=upd H8 t1 (.tup bus)) (a:=t2) (o:=.tup [.str "equal",.ref q,.ref t1])
   have n9':=s10 _ _ n9
   have s8x:=s9.trans s10
   generalize upd (upd H8 t1 (.tup bus)) t2 (.tup [.str "equal",.ref q,.ref t1])=H9 at n10 n9' s8x
   have hL9:=s8x _ _ hL8
   have s29:=s28.trans s8x
   refine⟨L,_,_,rfl,rfl,hL9,zaJ (by lia),?_⟩
   have kt:=zam.lst (ys:=us++[.ref t2]) hL9
   refine⟨(s2.trans s29).upd hL,_,_,_,us++[.ref t2],ls++[.eql ps bls],rfl,af,?_,λy hy=>?_,by rw[lAq,lS];lia⟩
   ·rw[mAq]
    exact ao.append ((g2.keep s29.kt (zca _)).keep kt (zca _)) (ao.one (zgE (kt.sq (SqT.of n10)) (kt.sq ((s8.trans s8x).tup hq7)) (kt.sq (SqT.of n9')) ((gb.keep (s8.trans s8x).kt (za2 _)).keep kt (za2 _))))
   ·rcases mPq hy with hy | hy
    ·exact lv y hy
    ·rw[mSq hy]
     exact⟨⟨pl,pin,by lia,lin⟩,Nat.le_trans pl (by decide)⟩
 ·rintro σ H2 ⟨s2,v2,v3,v4,us,ls,rfl,hL2,g2,lv,ll⟩
  have ll':ls.length≤3:=by lia
  have ul:us.length=ls.length:=by rw[←g2.length,lM]
  refine⟨_,rfl,p,C,dx,_,_,rfl,s2 _ _ ho,T.cl,T.nR,zbz _ _ _,_,rfl,L,rfl,⟨_,SqL.of hL2⟩,λM hM=>zbU zcZ (λi vs H'=>ah H2 H'∧ao K H' ((zbH (ls.take i)).map dR) vs) (λi vs H' ⟨s8,_⟩=>SqL.of (s8 _ _ hL2)) ⟨ai hM _,ao.nil⟩ ?_ ?_⟩
  ·rintro i vs H8 z H9 hi hly hDs ⟨s8,g⟩ ⟨rfl,hx⟩
   obtain⟨l,lq,pq,hq2,hl,rfl,h1,h2,h3⟩:=zhb g2 (hx _ (SqL.of (s8 _ _ hL2)))
   exact⟨_,rfl,lq,_,_,_,rfl,rfl,s8.tup h1,aH (j:=1) rfl,zaH (sz _ (by lia)) hi hly hDs ⟨s8.upd hM,zkm hDs g hl (s8.tup h2)⟩⟩
  rintro vs H3 hMs ⟨s3,gy⟩
  rw[ul,List.take_length]at gy
  have vl:vs.length=ls.length:=by rw[←gy.length,lM,zbH,lM]
  have s03:=s2.trans s3
  refine⟨rl,M,_,_,rfl,rfl,s03 _ _ hz,hMs,sz _ (by lia),λr1 hr1=>?_⟩
  have s4:=ai hr1 (.lst (zs++vs))
  have n4:=af (H:=H3) (a:=r1) (o:=.lst (zs++vs))
  have g4:=gy.keep s4.kt (zaM _)
  have s34:=s3.trans s4
  generalize upd H3 r1 (.lst (zs++vs))=H4 at s4 n4 g4 s34
  have s04:=s2.trans s34
  have hRs:ao K H4 ((Rs++zbH ls).map dR) (zs++vs):=by
   rw[mAq]
   exact ao.append (hZ.keep s04.kt (zaM _)) g4
  have r100':∀ x∈Rs++zbH ls,x.length≤100:=λx hx=>by
   rcases mPq hx with hx | hx
   ·exact r100 x hx
   ·obtain⟨y,hy,rfl⟩:=List.mem_map.mp hx
    exact(lv y hy).2
  have p2:2 ^ (As.length+1)≤2 ^ 4:=Nat.pow_le_pow_right (by decide) (by lia)
  refine⟨_,rfl,_,rfl,lS0,λe he=>?_⟩
  have s5:=ai he (.lst [])
  have n5:=af (H:=H4) (a:=e) (o:=.lst [])
  have s05:=s04.trans s5
  have s25:=s34.trans s5
  show(λH5:Hp=>_) (upd H4 e (.lst []))
  generalize upd H4 e (.lst [])=H5 at s5 n5 s05 s25
  refine⟨_,rfl,p,C,dx,_,_,rfl,s05 _ _ ho,T.cl,T.nA,zad _ _ _,al,ys,rfl,.inl (SqL.of (s05 _ _ ha)),As.length+1,by lia,As.length,r1,e,_,zs++vs,Rs++zbH ls,[],rfl,rfl,s5 _ _ n4,hRs.keep s5.kt (zaM _),n5,(by rw[yl,List.length_nil,Nat.zero_add]),r100',(by rw[lAq,zbH,lM];lia),(by rw[List.length_nil];lia),λH6 l2 us2 ls2 s6 nl2 hl2 g6 rf6 ln6=>?_⟩
  have ul2:us2.length=ls2.length:=by rw[←g6.length,lM]
  have s26:=s25.trans s6
  refine⟨L,l2,_,_,rfl,rfl,s26 _ _ hL2,hl2,sz _ (by lia),λo ho'=>?_⟩
  have s7:=ai ho' (.lst (us++us2))
  have s27:=s26.trans s7
  refine Q0 _ o _ (ls++ls2) (s2.trans s27) ((s2.trans s26).free ho') af ?_ (λy hy=>?_) (by rw[lAq];lia)
  ·rw[mAq]
   exact ao.append (g2.keep s27.kt (zca _)) (g6.keep s7.kt (zca _))
  ·rcases mPq hy with hy | hy
   ·exact(lv y hy).1
   ·have:=rf6 y hy
    cases y with
    | lrn ps hs=>exact⟨this.1,this.2⟩
    | eql ps ls=>exact this.elim
theorem zjM {H:Hp} {q:Addr} {xs:List V} {lo hi:Option Int} {Q:VK} (h:SqT K H q xs) (k:∀(H':Hp) (r:Addr),ah H H'→SqT K H' r (aU xs lo hi)→Q (.ref r) H'):rSlTA K (.ref q) lo hi H Q:=by
 by_cases c:HT.sIx xs.length 0 lo=0∧HT.sIx xs.length xs.length hi=xs.length
 ·refine .inr ⟨q,xs,rfl,h,c,k H q (ah.refl _) ?_⟩
  unfold aU
  rw[c.1,c.2,Nat.sub_zero,List.drop_zero,List.take_length]
  exact h
 ·exact .inl ⟨q,xs,rfl,h,c,λp hp=>k _ p (ai hp _) (SqT.of af)⟩
inductive ziv (K:W.Frag) (C:Addr):Sp|m{vs H Q E9} (p tl al rl:Addr) (T:List Tm) (As:List At) (Rs:List (List Int)) (x:V) (y:Ln) (mn c:Int) (k:Nat):vs=[.ref p,x,.int mn,.int c]→PrD K C H p tl al rl T As Rs→1≤T.length→1≤As.length→As.length≤20→0≤mn→Has K H (dLn y) x→LnV k T.length As.length y→k≤2→(∀(H':Hp) (o:Addr) (y':Ln),ah H H'→Has K H' (dLn y') (.ref o)→LnV (k+1) T.length As.length y'→Q (.ref o) H')→ziv K C vs H Q E9
theorem zcx:aO ["_law_problem","_law_line","_law_many","_law_cell","_law_part","_law_bonds"] ["_law_problem","_law_line","_law_many","_law_cell"] (au zcW):=fsc
theorem ok_lsp (F:Fun K "_law_line_spoilt" "_law_line_spoilt" zcW f fd) (T:Txt K mg aK C CN CT CP CM) (TP:TxP K mg) (BH:FB P w K mg base CX0 1 "_law_spoilt" fH dH ["_law_hints_here","_law_many","_law_cell"] Ls35.sp_spoilt) (BL:FB P w K mg base CX0 2 "_law_links_spoilt" fL dL' ["_law_problem","_law_parts","_law_bonds","_law_cell"] (sp_spoilt K C)):aQ P w K mg base CX0 3 f fd ["_law_problem","_law_line","_law_many","_law_cell"] (ziv K C):=by
 refine F.ok zcx (λvs H Q E h=>?_) (λcdv A outer s H vs Q E hr h=>?_)
 ·obtain⟨p,tl,al,rl,T',As,Rs,x,y,mn,c,k,rfl,_⟩:=h
  rfl
 obtain⟨p,tl,al,rl,T',As,Rs,x,y,mn,c,k,rfl,S,t1,a1,a20,mn0,hx,yv,k2,Q0⟩:=h
 have hr1:ba 1 _:=hr.mono (by decide)
 refine⟨_,(ae (aL (aw zag (aq az (pv 1) ad) zac)
   (ae (aL (aw zag (ar zab (pv 3) ad) ad)
     (ag (ay (zal (aa zac (aa (aq az (pv 1) ad) (aa (zai zaC rfl T.tuple PyProof.Rows.Boot.tuple (aa (aB BH.ok hr1 rfl BH.m BH.kp BH.b .nil aI (aa (zai zbB rfl TP.list PyProof.Rows.Boot.list (aa (aq az (pv 1) ad) ac)) (aa (pv 2) (aa (ar zak (pv 3) ad) ac)))) ac)) ac))))))
     aA)
    (ae (aE (i:=4) zcx.nd rfl (Or.inl rfl) (ar zah ad (ar zab (ar zak (pv 3) ad) (ap aj rfl T.len bL (aa (aR (pv 0) rfl) ac)))))
    (ae (aL (PW.pt (zaR (aw zag (ar zab (pv 3) ad) ad) (zaR (aw zbP (pv 4) (aq az (pv 1) ad) rfl) (zaV (aw zbP (zbk zaQ (pv 4)) (aq az (pv 1) ad) rfl)))))
     (ag (ay (zal (aa zac (aa (ar zm2 (aq az (pv 1) ad) (zal (aa (pv 4) ac))) (aa (aq az (pv 1) ad) ac))))))
     aA)
    (ag (ay (zal (aa zac (aa (zat zjI (aq az (pv 1) ad) (zaF ad) zaG) (aa (aq az (pv 1) ad) ac)))))))))
   aA)
  (ae (aL (aw zag (ar zab (pv 3) ad) ad)
   (ag (ay (zal (aa zac (aa (zat zjI (aq az (pv 1) ad) zaG (zaF (zbk zaQ ad))) (aa (aq az (pv 1) ad) ac))))))
   aA)
  (ae (aE (i:=5) zcx.nd rfl (Or.inl rfl) (aB BL.ok hr rfl BL.m BL.kp BL.b .nil aI (aa (pv 0) (aa (aq az (pv 1) ad) (aa (zai zbB rfl TP.list PyProof.Rows.Boot.list (aa (aq az (pv 1) ad) ac)) (aa (ar zak (pv 3) ad) ac))))))
  (ag (ay (zal (aa zac (aa (aq az (pv 1) ad) (aa (zai zaC rfl T.tuple PyProof.Rows.Boot.tuple (aa (pv 5) ac)) ac))))))))),?_⟩
 try dsimp only [Cx.nox,Cx.wish,aX]
 obtain⟨⟨dx,ho⟩,_,⟨ys,ha,hA⟩,_⟩:=id S.pr
 have yl:ys.length=As.length:=by rw[←hA.length,lM]
 have yp:(0:Int) < ((ys.length:Nat):Int):=by lia
 obtain⟨q,pq,hq,rfl,h1,h2,h3⟩:=zhq hx
 have b1:atI [V.str (kdL y),.ref pq,.ref hq] 1=some (.ref pq):=aH (j:=1) rfl
 have b2:atI [V.str (kdL y),.ref pq,.ref hq] 2=some (.ref hq):=aH (j:=2) rfl
 cases y with
 | lrn ps hs =>
  have h3':SqT K H hq (hs.map V.int):=h3
  have h2':SqT K H pq (ps.map V.int):=h2
  have hp:=yv.1
  have hh:=yv.2
  refine⟨_,rfl,q,_,_,_,rfl,rfl,h1,aH (j:=0) rfl,rfl,_,rfl,aJ (λ_=>?_) (λc=>absurd (dTq rfl) c)⟩
  refine⟨_,rfl,_,_,rfl,rfl,(by show(0:Int) < 3;decide),rfl,_,rfl,aJ (λ_=>?_) (λ_=>?_)⟩
  ·refine⟨_,rfl,q,_,_,_,rfl,rfl,h1,b1,_,rfl,q,_,_,_,rfl,rfl,h1,b2,hq,_,rfl,.inr h3',λl hl=>?_⟩
   have s1:=ai hl (.lst (hs.map V.int))
   have n1:=af (H:=H) (a:=l) (o:=.lst (hs.map V.int))
   obtain⟨N,rfl⟩:=Int.eq_ofNat_of_zero_le mn0
   refine⟨_,rfl,_,rfl,_,_,rfl,rfl,⟨by decide,by decide⟩,l,hs,N,_,rfl,n1,(λ_ _=>trivial),by lia,λH2 l' hs' s2 hl' _ len'=>?_⟩
   refine⟨l',_,rfl,.inl ⟨SqL.of hl',λu1 hu1=>⟨lS3,λu2 hu2=>?_⟩⟩⟩
   have s3:=ai hu1 (.tup (hs'.map V.int))
   have n3:=af (H:=H2) (a:=u1) (o:=.tup (hs'.map V.int))
   have s4:=ai hu2 (.tup [.str "learnt",.ref pq,.ref u1])
   have s04:=((s1.trans s2).trans s3).trans s4
   exact Q0 _ u2 (.lrn ps hs') s04 (zek (SqT.of af) (s04.tup h2') (SqT.of (s4 _ _ n3))) ⟨by lia,by lia⟩
  have bm:=zby (c / 3) yp
  refine⟨_,rfl,_,_,rfl,rfl,⟨by decide,by decide⟩,_,rfl,p,C,dx,_,_,rfl,ho,T.cl,T.nA,zad _ _ _,al,ys,rfl,.inl (SqL.of ha),_,_,rfl,rfl,yp,_,_,rfl,rfl,?_⟩
  dsimp only [zcl]
  refine zdE (λn hn=>⟨_,rfl,_,_,rfl,rfl,(by show(0:Int) < 3;decide),rfl,_,rfl,aJ (λ_=>⟨_,rfl,_,rfl,q,_,_,_,rfl,rfl,h1,b1,pq,_,rfl,.inr h2',rfl,zdt _,_,rfl,aJ (λ_=>⟨_,rfl,_,rfl,_,rfl,q,_,_,_,rfl,rfl,h1,b1,pq,_,rfl,.inr h2',rfl,zdt _,_,rfl,aJ (λ_=>?_) (λ_=>hn)⟩) (λ_=>aV hn)⟩) (λ_=>aV hn)⟩) ?_
  ·refine⟨_,rfl,q,_,_,_,rfl,rfl,h1,b1,_,rfl,lS1,λu hu=>?_⟩
   have s1:=ai hu (.tup [.int (1+c / 3 % ((ys.length:Nat):Int))])
   have n1:=af (H:=H) (a:=u) (o:=.tup [.int (1+c / 3 % ((ys.length:Nat):Int))])
   refine⟨pq,u,_,_,rfl,rfl,s1.tup h2',SqT.of n1,sz _ (by rw[lM];show ps.length+1≤1000;lia),λH2 r s2 hr'=>?_⟩
   have s02:=s1.trans s2
   refine⟨_,rfl,q,_,_,_,rfl,rfl,s02.tup h1,b2,lS3,λo ho'=>?_⟩
   have s3:=ai ho' (.tup [.str "learnt",.ref r,.ref hq])
   have s03:=s02.trans s3
   have er:ps.map V.int++[V.int (1+c / 3 % ((ys.length:Nat):Int))]=(ps++[(1+c / 3 % ((ys.length:Nat):Int))]).map V.int:=by rw[mAq];rfl
   rw[er]at hr'
   exact Q0 _ o (.lrn (ps++[(1+c / 3 % ((ys.length:Nat):Int))]) hs) s03 (zek (SqT.of af) (s3.tup hr') (s03.tup h3')) ⟨by rw[lAq,lS];lia,by lia⟩
  all_goals
   refine⟨_,rfl,q,_,_,_,rfl,rfl,h1,b1,_,rfl,zjM h2' λH2 r s2 hr'=>?_⟩
   obtain⟨ms,em,ml,_⟩:=cutIs ps (some 1) none
   rw[em]at hr'
   refine⟨_,rfl,q,_,_,_,rfl,rfl,s2.tup h1,b2,lS3,λo ho'=>?_⟩
   have s3:=ai ho' (.tup [.str "learnt",.ref r,.ref hq])
   have s03:=s2.trans s3
   exact Q0 _ o (.lrn ms hs) s03 (zek (SqT.of af) (s3.tup hr') (s03.tup h3')) ⟨by lia,by lia⟩
 | eql ps ls =>
  obtain⟨xs,h3',hX⟩:∃ xs,SqT K H hq xs∧ao K H (ls.map dL) xs:=h3
  have h2':SqT K H pq (ps.map V.int):=h2
  obtain⟨p20,pin,l8,lin⟩:=yv
  have pw2:2 ^ k≤2 ^ 2:=Nat.pow_le_pow_right (by decide) k2
  refine⟨_,rfl,q,_,_,_,rfl,rfl,h1,aH (j:=0) rfl,rfl,_,rfl,aJ (λc=>absurd (oDq c) (show ¬V.str "equal"=V.str "learnt" by decide +kernel)) (λ_=>?_)⟩
  refine⟨_,rfl,_,_,rfl,rfl,(by show(0:Int) < 3;decide),rfl,_,rfl,aJ (λ_=>?_) (λ_=>?_)⟩
  ·refine⟨_,rfl,q,_,_,_,rfl,rfl,h1,b1,_,rfl,_,rfl,zjM h2' λH2 r s2 hr'=>?_⟩
   obtain⟨ms,em,ml,mm⟩:=cutIs ps none (some (-1))
   rw[em]at hr'
   refine⟨_,rfl,q,_,_,_,rfl,rfl,s2.tup h1,b2,lS3,λo ho'=>?_⟩
   have s3:=ai ho' (.tup [.str "equal",.ref r,.ref hq])
   have s03:=s2.trans s3
   exact Q0 _ o (.eql ms ls) s03 (zgE (SqT.of af) (s3.tup hr') (s03.tup h3') (hX.keep s03.kt (za2 _))) ⟨by lia,λz hz=>pin z (mm z hz),by rw[Nat.pow_succ];lia,lin⟩
  ·refine⟨_,rfl,_,rfl,q,_,_,_,rfl,rfl,h1,b1,_,rfl,q,_,_,_,rfl,rfl,h1,b2,hq,_,rfl,.inr h3',λl hl=>?_⟩
   have s1:=ai hl (.lst xs)
   have n1:=af (H:=H) (a:=l) (o:=.lst xs)
   have g1:=hX.keep s1.kt (za2 _)
   have S1:=S.same s1
   show(λH1:Hp=>_) (upd H l (.lst xs))
   generalize upd H l (.lst xs)=H1 at s1 n1 g1 S1
   refine⟨_,rfl,_,_,rfl,rfl,⟨by decide,by decide⟩,p,tl,al,rl,pq,l,T',As,Rs,ps,_,xs,ls,rfl,S1,.inr (s1.tup h2'),pin,t1,by lia,n1,g1,lin,by lia,λH2 l' us' ls' s2 _ hl' g' lin' len'=>?_⟩
   have s02:=s1.trans s2
   refine⟨_,rfl,q,_,_,_,rfl,rfl,s02.tup h1,b1,_,rfl,l',_,rfl,.inl ⟨SqL.of hl',λu1 hu1=>⟨lS3,λu2 hu2=>?_⟩⟩⟩
   have s3:=ai hu1 (.tup us')
   have n3:=af (H:=H2) (a:=u1) (o:=.tup us')
   have s4:=ai hu2 (.tup [.str "equal",.ref pq,.ref u1])
   have s04:=(s02.trans s3).trans s4
   exact Q0 _ u2 (.eql ps ls') s04 (zgE (SqT.of af) (s04.tup h2') (SqT.of (s4 _ _ n3)) (g'.keep (s3.trans s4).kt (za2 _))) ⟨p20,pin,by rw[Nat.pow_succ];lia,lin'⟩
theorem zjS {k:Dt} {z:Str} (h:peq k (.str z)=true):k=.str z:=by
 cases k with
 | str y =>
  rw[peq]at h
  rw[eq_of_beq h]
 | _=>simp [peq]at h
theorem zfk {a b:Int} {d:Dt} (h:zb8 a b d=true):∃ k,d=.int k∧a≤k∧k < b:=by
 cases d with
 | int k =>
  rw[zb8,Bool.and_eq_true]at h
  exact⟨k,rfl,oDq h.1,oDq h.2⟩
 | _=>cases h
theorem zmc {m:Nat} {ps:List Dt} {d:Dt} (h:zcA m ps d=true):∃ k,d=.int k∧PIn m k:=by
 cases d with
 | int k =>
  rw[zcA,Bool.and_eq_true,Bool.and_eq_true]at h
  obtain⟨k',e,h1,h2⟩:=zfk h.1
  injection e with e
  subst e
  have h3:k≠0:=λz=>by
   have:=h.2.1
   rw[dTq z]at this
   cases this
  refine⟨k,rfl,?_⟩
  unfold PIn
  lia
 | _=>cases h
theorem zmr {n m:Nat} {d:Dt} (h:zeS n m d=true):∃ l,d=dL l∧zcf n m l:=by
 unfold zeS at h
 split at h
 ·rename_i a b c
  rw[Bool.and_eq_true,Bool.and_eq_true]at h
  obtain⟨a,rfl,a0,a1⟩:=zfk h.1
  obtain⟨b,rfl,b0,b1⟩:=zfk h.2.1
  obtain⟨c,rfl,c0,c1⟩:=zfk h.2.2
  exact⟨(a,b,c),rfl,⟨a0,a1⟩,⟨b0,b1⟩,c0,by show c≤(m:Int);lia⟩
 ·cases h
theorem zfF {α:Type} {code:α→Dt} {g:Dt→Bool} {R:α→Prop} (hg:∀ d,g d=true→∃ a,d=code a∧R a):∀ {ds:List Dt},ds.all g=true→∃ as:List α,ds=as.map code∧∀ a∈as,R a
 | [],_=>⟨[],rfl,λ_ h=>nomatch h⟩
 | d :: ds,h=>by
  rw[List.all_cons,Bool.and_eq_true]at h
  obtain⟨a,rfl,ra⟩:=hg d h.1
  obtain⟨as,rfl,rs⟩:=zfF hg h.2
  refine⟨a :: as,rfl,λb hb=>?_⟩
  rcases List.mem_cons.mp hb with rfl | hb
  ·exact ra
  ·exact rs b hb
theorem zhO {n m:Nat} {many:Int} {d:Dt} (h:zce n m many d=true):∃ ps:List Int,(∀ p∈ps,PIn m p) ∧
  ((∃ hs:List Int,d=.tup [.str "learnt",.tup (ps.map Dt.int),.tup (hs.map Dt.int)]∧∀ x∈hs,0≤x∧x < many)∨∃ ls:List Lk,d=.tup [.str "equal",.tup (ps.map Dt.int),.tup (ls.map dL)]∧∀ l∈ls,zcf n m l):=by
 unfold zce at h
 split at h
 ·rename_i k ps hs
  rw[Bool.and_eq_true,Bool.and_eq_true,Bool.or_eq_true]at h
  obtain⟨h1,h2,h3⟩:=h
  obtain⟨qs,rfl,hq⟩:=zfF (λd=>zmc) h1
  refine⟨qs,hq,?_⟩
  rcases h3 with h3 | h3
  ·obtain rfl:=zjS h3
   obtain⟨is,rfl,hi⟩:=zfF (code:=Dt.int) (R:=λx=>0≤x∧x < many) (λd hd=>by
    rw[zdh,h3,Bool.and_eq_true]at hd
    exact zfk hd.1) h2
   exact .inl ⟨is,rfl,hi⟩
  ·obtain rfl:=zjS h3
   obtain⟨ls,rfl,hl⟩:=zfF (code:=dL) (R:=zcf n m) (λd hd=>by
    rw[zdh,h3,Bool.and_eq_true]at hd
    exact zmr hd.2) h2
   exact .inr ⟨ls,rfl,hl⟩
 ·cases h
def zem (T:List Tm) (As:List At) (Rs:List (List Int)) (d:Dt):Bool:=zce T.length As.length ((Rs.length:Nat):Int) d&&(match d with
 | .tup [.str z,a,b]=>if z="learnt" then zbE Rs ((za0 a).map λp=>-p) (za0 b) else eqF rtm (za0 a) T As (zfr b) λt=>t
 | _=>false)
def zcd (T:List Tm) (As:List At):List (List Int)→Nat→List Dt→Option Nat
 | _,_,[]=>none
 | Rs,i,d :: ds=>if zem T As Rs d=true then zcd T As (Rs++[psD d]) (i+1) ds else some i
def zbX (T:List Tm) (As:List At) (Rs:List (List Int)) (ds:List Dt):Option Nat:=match zcd T As Rs 0 ds with
 | some i=>some i
 | none=>if zdO ds=true then none else some ds.length
theorem zcn (ps:List Int):(ps.map Dt.int).map ze3=ps:=by
 induction ps with
 | nil=>rfl
 | cons a ps ih=>rw[List.map_cons,List.map_cons,ih];rfl
theorem zjW (ls:List Lk):(ls.map dL).map lkD=ls:=by
 induction ls with
 | nil=>rfl
 | cons a ls ih=>rw[List.map_cons,List.map_cons,ih];rfl
theorem zfL {T:List Tm} {As:List At} {Rs:List (List Int)} {ps hs:List Int} (h:zce T.length As.length ((Rs.length:Nat):Int) (.tup [.str "learnt",.tup (ps.map Dt.int),.tup (hs.map Dt.int)])=true):zem T As Rs (.tup [.str "learnt",.tup (ps.map Dt.int),.tup (hs.map Dt.int)])=zbE Rs (ps.map λp=>-p) hs:=by
 unfold zem
 rw[h,Bool.true_and]
 show(if _ then _ else _)=_
 rw[if_pos rfl,za0,za0,zcn,zcn]
theorem zgi {T:List Tm} {As:List At} {Rs:List (List Int)} {ps:List Int} {ls:List Lk} (h:zce T.length As.length ((Rs.length:Nat):Int) (.tup [.str "equal",.tup (ps.map Dt.int),.tup (ls.map dL)])=true):zem T As Rs (.tup [.str "equal",.tup (ps.map Dt.int),.tup (ls.map dL)])=eqF rtm ps T As ls λt=>t:=by
 unfold zem
 rw[h,Bool.true_and]
 show(if _ then _ else _)=_
 rw[if_neg (by decide +kernel),za0,zfr,zcn,zjW]
theorem zi6 {T:List Tm} {As:List At}:∀ {ds:List Dt} {Rs:List (List Int)} {i:Nat},zcd T As Rs i ds=none→∀ d∈ds,∃ n,zce T.length As.length n d=true
 | d :: ds,Rs,i,h,e,he=>by
  rw[zcd]at h
  split at h
  ·rename_i c
   rcases List.mem_cons.mp he with rfl | he
   ·unfold zem at c
    rw[Bool.and_eq_true]at c
    exact⟨_,c.1⟩
   ·exact zi6 h e he
  ·cases h
inductive zgb (K:W.Frag) (C:Addr):Sp|m{vs H Q E9} (p tl al rl q:Addr) (T:List Tm) (As:List At) (Rs:List (List Int)) (xs:List V) (ds:List Dt):vs=[.ref p,.ref q]→PrD K C H p tl al rl T As Rs→SqL K H q xs→ao K H ds xs→(∀ x∈Rs,x.length≤300)→Rs.length≤500→ds.length≤450→(∀ d∈ds,wd d≤300∧dep d≤50)→(∀ H',ah H H'→Q (vO (zbX T As Rs ds)) H')→zgb K C vs H Q E9
theorem zd3:aO ["_law_problem","_law_paper","_law_rows","_law_k"] ["_law_problem","_law_paper"] (au zeJ):=fsc
theorem zly (F:Fun K "_law_fault" "_law_fault" zeJ f fd) (T:Txt K mg aK C CN CT CP CM) (TP:TxP K mg) (mrange:mg "range"=none) (BF:FB P w K mg base CX0 3 "_law_formed" fF dF ["_law_problem","_law_many","_law_line"] (zgY K C)) (BR:FB P w K mg base CX0 2 "_law_right" fR dR' ["_law_rows","_law_parts","_law_hints_here"] (Ls35.sp_right K)) (BE:FB P w K mg base CX0 3 "_law_equal" fE dE ["_law_problem","_law_parts","_law_bonds"] (zeV K C)):aQ P w K mg base CX0 4 f fd ["_law_problem","_law_paper"] (zgb K C):=by
 refine F.ok zd3 (λvs H Q E h=>?_) (λcdv A outer s H vs Q E hr h=>?_)
 ·obtain⟨p,tl,al,rl,q,T',As,Rs,xs,ds,rfl,_⟩:=h
  rfl
 obtain⟨p,tl,al,rl,q,T',As,Rs,xs,ds,rfl,S,hq,hD,r300,r500,l300,lw,Q0⟩:=h
 have hr2:ba 2 _:=hr.mono (by decide)
 have hr3:ba 3 _:=hr
 refine⟨_,(ae (aE (i:=2) zd3.nd rfl (Or.inl rfl) (zai zbB rfl TP.list PyProof.Rows.Boot.list (aa (aR (pv 0) rfl) ac)))
  (ae (zaB PassesOwn.never rfl (zbi rfl mrange (aa (ap aj rfl T.len bL (aa (pv 1) ac)) ac)) (zaj (i:=3) zd3.nd rfl (Or.inl rfl))
   (ae (aL (zaS (zaI (aB BF.ok hr3 rfl BF.m BF.kp BF.b .nil aI (aa (pv 0) (aa (ap aj rfl T.len bL (aa (pv 2) ac)) (aa (aq zaa (pv 1) (pv 3)) ac))))))
     (ag (ay (pv 3)))
     aA)
    (ae (aL (PW.pt (zaR (aw zag (aq az (aq zaa (pv 1) (pv 3)) ad) zac) (zaV (zaS (zaI (aB BR.ok hr2 rfl BR.m BR.kp BR.b .nil aI (aa (pv 2) (aa (aq az (aq zaa (pv 1) (pv 3)) ad) (aa (aq az (aq zaa (pv 1) (pv 3)) ad) ac)))))))))
     (ag (ay (pv 3)))
     aA)
    (ae (aL (PW.pt (zaR (aw zag (aq az (aq zaa (pv 1) (pv 3)) ad) zac) (zaV (zaS (zaI (aB BE.ok hr3 rfl BE.m BE.kp BE.b .nil aI (aa (pv 0) (aa (aq az (aq zaa (pv 1) (pv 3)) ad) (aa (aq az (aq zaa (pv 1) (pv 3)) ad) ac)))))))))
     (ag (ay (pv 3)))
     aA)
    (ag (zap (zcj PySem.F.plainAttrs_list PySem.F.slot_list_append PySem.F.type_list_append za5 (pv 2) (aa (aq az (aq zaa (pv 1) (pv 3)) ad) ac))))))))
  (ae (aL (PW.pt (zbc (aw zag (ap aj rfl T.len bL (aa (pv 1) ac)) ad) (za4 (aw zcC (ap aj rfl T.len bL (aa (aq az (aq zaa (pv 1) (zbk zaQ ad)) ad) ac)) ad))))
   (ag (ay (ap aj rfl T.len bL (aa (pv 1) ac))))
   aA)
  (ag (ay zbG))))),?_⟩
 try dsimp only [Cx.nox,Cx.wish,aX]
 have xl:=hD.length
 have Q1:∀ o,zbX T' As Rs ds=o→∀ H',ah H H'→Q (vO o) H':=λo e H' s'=>e ▸ Q0 H' s'
 obtain⟨⟨dx,ho⟩,_,_,⟨zs,hz,hZ⟩,_⟩:=id S.pr
 have zl:zs.length=Rs.length:=by rw[←hZ.length,lM]
 refine⟨_,rfl,p,C,dx,_,_,rfl,ho,T.cl,T.nR,zbz _ _ _,rl,zs,rfl,.inl (SqL.of hz),λr hr'=>?_⟩
 have s1:=ai hr' (.lst zs)
 have n1:=af (H:=H) (a:=r) (o:=.lst zs)
 have hZ1:=hZ.keep s1.kt (zaM _)
 show(λH1:Hp=>_) (upd H r (.lst zs))
 generalize upd H r (.lst zs)=H1 at s1 n1 hZ1
 refine⟨_,rfl,q,_,rfl,.inl (s1.seq hq),_,rfl,by lia,by lia,za6 (lo:=0) (n:=((xs.length:Nat):Int).toNat) (λi σ H'=>∃(v3:Option V) (us:List V) (Rs':List (List Int)),σ=[some (.ref p),some (.ref q),some (.ref r),v3]∧ah H H'∧H' r=some (.lst us)∧ao K H' (Rs'.map dR) us∧(∀ x∈Rs',x.length≤300)∧Rs'.length=Rs.length+i∧zcd T' As Rs' i (ds.drop i)=zcd T' As Rs 0 ds) ⟨none,zs,Rs,rfl,s1,n1,hZ1,r300,rfl,rfl⟩ ?_ ?_⟩
 ·rintro i σ H2 hi ⟨v3,us,Rs',rfl,s2,n2,hL2,r2,rl2,e2⟩
  have hi':i < xs.length:=by lia
  rw[show(0:Int)+(i:Nat)=((i:Nat):Int) by lia]
  have hx:xs[i]?=some xs[i]:=gG hi'
  generalize xs[i]=y at hx
  obtain⟨d,hd,hdy⟩:=hD.get hx
  have dm:=mOq hd
  have ul:us.length=Rs'.length:=by rw[←hL2.length,lM]
  have ax:=aH hx
  rw[zgm hd]at e2
  have no:zem T' As Rs' d=false→∀ H',ah H H'→Q (.int ((i:Nat):Int)) H':=λc H' s'=>Q1 (some i) (by unfold zbX;rw[←e2,zcd,if_neg (by rw[c];decide)]) H' s'
  refine⟨_,rfl,_,rfl,r,_,rfl,.inl (SqL.of n2),_,rfl,_,rfl,q,_,_,_,rfl,rfl,s2.seq hq,ax,p,tl,al,rl,T',As,Rs,_,y,d,rfl,S.same s2,hsm s2 _ _ hdy,(lw d dm).2,_,rfl,?_⟩
  rw[ul]
  cases ef:zce T'.length As.length ((Rs'.length:Nat):Int) d with
  | false=>exact aS ⟨_,rfl,no (by unfold zem;rw[ef,Bool.false_and]) H2 s2⟩
  | true =>
   refine aV ?_
   obtain⟨ps,pin,fi⟩:=zhO ef
   rcases fi with ⟨hs,rfl,inr⟩ | ⟨ls,rfl,lin⟩
   ·obtain⟨lq,ws,rfl,hw,hW⟩:=zbg hdy
    simp only[ao]at hW
    obtain⟨v0,_,rfl,h0,v1,_,rfl,h1,v2,_,rfl,h2,rfl⟩:=hW
    simp only[Has]at h0
    subst h0
    obtain⟨pq,rfl,hp⟩:=zcQ h1
    have w3:=wd_3 (lw _ dm).1
    have p300:ps.length≤300:=by
     have:=zdg w3.2.1
     rw[lM]at this
     exact this
    have a0:atI [V.str "learnt",.ref pq,v2] 0=some (.str "learnt"):=aH (j:=0) rfl
    have a1:atI [V.str "learnt",.ref pq,v2] 1=some (.ref pq):=aH (j:=1) rfl
    have a2:atI [V.str "learnt",.ref pq,v2] 2=some v2:=aH (j:=2) rfl
    obtain⟨hq2,rfl,hh⟩:=zcQ h2
    have h300:hs.length≤300:=by
     have:=zdg w3.2.2
     rw[lM]at this
     exact this
    refine⟨_,rfl,_,rfl,q,_,_,_,rfl,rfl,s2.seq hq,ax,lq,_,_,_,rfl,rfl,s2.tup hw,a0,rfl,_,rfl,aJ (λ_=>?_) (λc=>absurd (dTq rfl) c)⟩
    refine⟨_,rfl,_,rfl,_,rfl,q,_,_,_,rfl,rfl,s2.seq hq,ax,lq,_,_,_,rfl,rfl,s2.tup hw,a1,_,rfl,_,rfl,q,_,_,_,rfl,rfl,s2.seq hq,ax,lq,_,_,_,rfl,rfl,s2.tup hw,a2,r,pq,hq2,us,Rs',ps,hs,rfl,SqL.of n2,hL2,s2.tup hp,.inr (s2.tup hh),r2,p300,h300,inr,λH3 s3=>⟨_,rfl,?_⟩⟩
    have s03:=s2.trans s3
    cases er:zbE Rs' (ps.map λp=>-p) hs with
    | false=>exact aS ⟨_,rfl,no (by rw[zfL ef,er]) H3 s03⟩
    | true =>
     have ok:=(zfL ef).trans er
     refine aV ⟨_,rfl,_,rfl,q,_,_,_,rfl,rfl,s03.seq hq,ax,lq,_,_,_,rfl,rfl,s03.tup hw,a0,rfl,_,rfl,aJ (λc=>absurd (oDq c) (show ¬V.str "learnt"=V.str "equal" by decide +kernel)) (λ_=>aV ?_)⟩
     have n4:=s3 _ _ n2
     refine⟨_,rfl,.inl ⟨rfl,_,SqL.of n4⟩,_,rfl,_,rfl,q,_,_,_,rfl,rfl,s03.seq hq,ax,lq,_,_,_,rfl,rfl,s03.tup hw,a1,r,_,_,rfl,rfl,n4,zaJ (by lia),?_⟩
     have kt:=zam.lst (ys:=us++[.ref pq]) n4
     refine⟨_,us++[.ref pq],Rs'++[ps],rfl,s03.upd hr',af,?_,λx hx=>?_,by rw[lAq,lS,rl2];lia,?_⟩
     ·rw[mAq]
      exact ao.append ((hL2.keep s3.kt (zaM _)).keep kt (zaM _)) (ao.one (Has.tup' (kt.sq (s03.tup hp)) (ao.ints ps)))
     ·rcases mPq hx with h | h
      ·exact r2 x h
      ·rw[mSq h]
       exact p300
     ·rw[←e2]
      show _=if _ then _ else _
      rw[if_pos ok]
      show _=zcd T' As (Rs'++[(ps.map Dt.int).map ze3]) _ _
      rw[zcn]
   ·obtain⟨lq,ws,rfl,hw,hW⟩:=zbg hdy
    simp only[ao]at hW
    obtain⟨v0,_,rfl,h0,v1,_,rfl,h1,v2,_,rfl,h2,rfl⟩:=hW
    simp only[Has]at h0
    subst h0
    obtain⟨pq,rfl,hp⟩:=zcQ h1
    have w3:=wd_3 (lw _ dm).1
    have p300:ps.length≤300:=by
     have:=zdg w3.2.1
     rw[lM]at this
     exact this
    have a0:atI [V.str "equal",.ref pq,v2] 0=some (.str "equal"):=aH (j:=0) rfl
    have a1:atI [V.str "equal",.ref pq,v2] 1=some (.ref pq):=aH (j:=1) rfl
    have a2:atI [V.str "equal",.ref pq,v2] 2=some v2:=aH (j:=2) rfl
    obtain⟨hq2,zs2,rfl,hh,hZ2⟩:=zbg h2
    refine⟨_,rfl,_,rfl,q,_,_,_,rfl,rfl,s2.seq hq,ax,lq,_,_,_,rfl,rfl,s2.tup hw,a0,rfl,_,rfl,aJ (λc=>absurd (oDq c) (show ¬V.str "equal"=V.str "learnt" by decide +kernel)) (λ_=>aV ?_)⟩
    refine⟨_,rfl,_,rfl,q,_,_,_,rfl,rfl,s2.seq hq,ax,lq,_,_,_,rfl,rfl,s2.tup hw,a0,rfl,_,rfl,aJ (λ_=>?_) (λc=>absurd (dTq rfl) c)⟩
    refine⟨_,rfl,_,rfl,_,rfl,q,_,_,_,rfl,rfl,s2.seq hq,ax,lq,_,_,_,rfl,rfl,s2.tup hw,a1,_,rfl,_,rfl,q,_,_,_,rfl,rfl,s2.seq hq,ax,lq,_,_,_,rfl,rfl,s2.tup hw,a2,p,tl,al,rl,pq,hq2,T',As,Rs,ps,zs2,ls,rfl,S.same s2,.inr (s2.tup hp),pin,.inr (s2.tup hh),zc7 s2 _ _ hZ2,lin,λH3 s3=>⟨_,rfl,?_⟩⟩
    have s03:=s2.trans s3
    cases er:eqF rtm ps T' As ls (λt=>t) with
    | false=>exact aS ⟨_,rfl,no (by rw[zgi ef,er]) H3 s03⟩
    | true =>
     have ok:=(zgi ef).trans er
     refine aV ?_
     have n4:=s3 _ _ n2
     refine⟨_,rfl,.inl ⟨rfl,_,SqL.of n4⟩,_,rfl,_,rfl,q,_,_,_,rfl,rfl,s03.seq hq,ax,lq,_,_,_,rfl,rfl,s03.tup hw,a1,r,_,_,rfl,rfl,n4,zaJ (by lia),?_⟩
     have kt:=zam.lst (ys:=us++[.ref pq]) n4
     refine⟨_,us++[.ref pq],Rs'++[ps],rfl,s03.upd hr',af,?_,λx hx=>?_,by rw[lAq,lS,rl2];lia,?_⟩
     ·rw[mAq]
      exact ao.append ((hL2.keep s3.kt (zaM _)).keep kt (zaM _)) (ao.one (Has.tup' (kt.sq (s03.tup hp)) (ao.ints ps)))
     ·rcases mPq hx with h | h
      ·exact r2 x h
      ·rw[mSq h]
       exact p300
     ·rw[←e2]
      show _=if _ then _ else _
      rw[if_pos ok]
      show _=zcd T' As (Rs'++[(ps.map Dt.int).map ze3]) _ _
      rw[zcn]
 ·rintro σ H2 ⟨v3,us,Rs',rfl,s2,n2,hL2,r2,rl2,e2⟩
  rw[show((xs.length:Nat):Int).toNat=ds.length by lia,List.drop_length]at e2
  have hq2:=s2.seq hq
  have e0:zcd T' As Rs 0 ds=none:=e2.symm
  refine⟨_,rfl,q,_,rfl,.inl hq2,rfl,_,rfl,?_⟩
  rcases List.eq_nil_or_concat ds with e | ⟨ini,d,e⟩
  ·subst e
   have e0':xs.length=0:=xl.symm
   rw[dTq (show V.int ((xs.length:Nat):Int)=V.int 0 by rw[e0'];rfl)]
   refine aS (aS ⟨_,rfl,q,_,rfl,.inl hq2,?_⟩)
   rw[e0']
   exact Q1 (some 0) rfl H2 s2
  ·rw[List.concat_eq_append]at e
   have e3:xs.length=ini.length+1:=by rw[←xl,e,lAq];rfl
   rw[dFq (by intro z;injection z with z;lia)]
   refine aV ?_
   obtain⟨y,hy⟩:∃ y,xs[ini.length]?=some y:=⟨_,gG (by lia)⟩
   obtain⟨d',hd',hdy⟩:=hD.get hy
   have el:d'=d:=by
    rw[e,List.getElem?_append_right (nRq _),Nat.sub_self]at hd'
    cases hd'
    rfl
   subst el
   obtain⟨m,er⟩:=zi6 e0 d' (by rw[e];simp)
   obtain⟨ps,_,fi⟩:=zhO er
   obtain⟨z,b,rfl⟩:∃ z b,d'=.tup [.str z,.tup (ps.map Dt.int),b]:=by
    rcases fi with ⟨hs,e,_⟩ | ⟨ls,e,_⟩
    ·exact⟨_,_,e⟩
    ·exact⟨_,_,e⟩
   obtain⟨lq,ws,rfl,hw,hW⟩:=zbg hdy
   simp only[ao]at hW
   obtain⟨v0,_,rfl,h0,v1,_,rfl,h1,v2,_,rfl,h2,rfl⟩:=hW
   obtain⟨pq,rfl,hp⟩:=zcQ h1
   have ax:atI xs (-1)=some (.ref lq):=by
    have ed:xs=xs.take ini.length++[.ref lq]:=by
     rw[←zaD hy,tO (by lia)]
    rw[ed]
    exact zhg _ _
   have ef:zdO ds=ps.isEmpty:=by
    unfold zdO
    rw[e,List.getLast?_concat]
    show((ps.map Dt.int).map ze3).isEmpty=_
    rw[zcn]
   refine⟨_,rfl,_,rfl,q,_,_,_,rfl,rfl,hq2,ax,lq,_,_,_,rfl,rfl,s2.tup hw,aH (j:=1) rfl,pq,_,rfl,.inr (s2.tup hp),_,_,rfl,rfl,_,rfl,aJ (λc=>?_) (λc=>?_)⟩
   ·refine⟨_,rfl,q,_,rfl,.inl hq2,?_⟩
    rw[←xl]
    refine Q1 (some ds.length) ?_ H2 s2
    unfold zbX
    rw[e0]
    show(if zdO ds=true then none else some ds.length)=_
    rw[ef]
    have:=oDq c
    cases ps with
    | nil=>exact absurd this (by decide)
    | cons a b=>rfl
   ·refine Q1 none ?_ H2 s2
    unfold zbX
    rw[e0]
    show(if zdO ds=true then none else some ds.length)=_
    rw[ef]
    cases ps with
    | nil=>rfl
    | cons a b =>
     refine absurd (dTq ?_) c
     simp only[List.map_cons,List.length_cons]
     lia
theorem zh4 {m:Nat}:∀(ps seen:List Int),zcI m seen (ps.map Dt.int)=true↔(∀ p∈ps,PIn m p∧ab p∉seen)∧ps.Pairwise λx y=>ab x≠ab y
 | [],seen=>by simp [zcI]
 | p :: ps,seen=>by
  rw[List.map_cons,zcI,List.pairwise_cons]
  have e:(p=0∨(m:Int) < ab p∨ab p∈seen)↔¬(PIn m p∧ab p∉seen):=by
   unfold PIn ab
   by_cases c:(if p < 0 then -p else p)∈seen
   ·simp only[c,or_true,not_true,and_false,not_false_eq_true]
   ·simp only[c,or_false,not_false_eq_true,and_true]
    split <;> lia
  by_cases c:PIn m p∧ab p∉seen
  ·rw[if_neg (λz=>e.mp z c),zh4 ps]
   constructor
   ·rintro ⟨h1,h2⟩
    refine⟨λq hq=>?_,λq hq z=>?_,h2⟩
    ·rcases List.mem_cons.mp hq with rfl | hq
     ·exact c
     ·exact⟨(h1 q hq).1,λz=>(h1 q hq).2 (List.mem_append_left _ z)⟩
    ·exact(h1 q hq).2 (List.mem_append_right _ (by rw[z];exact List.mem_cons_self))
   ·rintro ⟨h1,h2,h3⟩
    refine⟨λq hq=>⟨(h1 q (List.mem_cons_of_mem _ hq)).1,λz=>?_⟩,h3⟩
    rcases mPq z with z | z
    ·exact(h1 q (List.mem_cons_of_mem _ hq)).2 z
    ·exact h2 q hq (mSq z).symm
  ·rw[if_pos (e.mpr c)]
   exact⟨λz=>(nomatch z),λz=>absurd (z.1 p List.mem_cons_self) c⟩
theorem zi0 {m:Nat} {ps:List Int} (h:∀ p∈ps,PIn m p):(ps.Pairwise λx y=>ab x≠ab y)↔∀ p∈ps,ps.count p≤1∧-p∉ps:=by
 constructor
 ·intro w p hp
  refine⟨List.nodup_iff_count.mp (w.imp λz e=>z (by rw[e])) p,?_⟩
  induction ps with
  | nil=>cases hp
  | cons a l ih =>
   obtain⟨w1,w2⟩:=List.pairwise_cons.mp w
   have p0:=(h p hp).1
   intro z
   have e:ab p=ab (-p):=by
    unfold ab
    split <;> split <;> lia
   rcases List.mem_cons.mp hp with rfl | hp' <;> rcases List.mem_cons.mp z with z | z
   ·lia
   ·exact w1 _ z e
   ·exact w1 _ hp' (by rw[←z,e])
   ·exact ih (λq hq=>h q (List.mem_cons_of_mem _ hq)) w2 hp' z
 ·intro w
  refine List.Pairwise.imp_of_mem (R:=λx y=>x≠y) (λ{a b} ha hb ne z=>?_) (List.nodup_iff_count.mpr λa=>?_)
  ·have:a=-b:=by
    unfold ab at z
    split at z <;> split at z <;> lia
   exact(w b hb).2 (this ▸ ha)
  ·by_cases c:a∈ps
   ·exact(w a c).1
   ·rw[List.count_eq_zero.mpr c]
    lia
theorem zgg {m:Nat} {ps:List Int}:(ps.map Dt.int).all (zcA m (ps.map Dt.int))=true↔∀ p∈ps,PIn m p∧ps.count p≤1∧-p∉ps:=by
 rw[List.all_map,List.all_eq_true]
 refine forall_congr' λp=>forall_congr' λhp=>?_
 show zcA m (ps.map Dt.int) (.int p)=true↔_
 have e1:((ps.map Dt.int).countP λe=>peq e (.int p))=ps.count p:=by
  rw[List.countP_map]
  rfl
 have e2:((ps.map Dt.int).any λe=>peq e (.int (-p)))=decide (-p∈ps):=by
  rw[List.any_map,Bool.eq_iff_iff,List.any_eq_true,decide_eq_true_eq]
  constructor
  ·rintro ⟨x,hx,e⟩
   rw[←eq_of_beq (show(x == -p)=true from e)]
   exact hx
  ·exact λhx=>⟨_,hx,by show((-p) == -p)=true;exact beq_self_eq_true _⟩
 rw[zcA,zb8,e1,e2]
 simp only[Bool.and_eq_true,decide_eq_true_eq,Bool.not_eq_true',decide_eq_false_iff_not]
 unfold PIn
 constructor
 ·rintro ⟨⟨h1,h2⟩,h3,h4,h5⟩
  exact⟨⟨h3,h1,by lia⟩,by lia,h5⟩
 ·rintro ⟨⟨h1,h2,h3⟩,h4,h5⟩
  exact⟨⟨h2,by lia⟩,h1,by lia,h5⟩
theorem zeZ {m:Nat} {ps:List Int}:zdU m (.tup (ps.map Dt.int))=true↔(ps.map Dt.int).all (zcA m (ps.map Dt.int))=true:=by
 rw[zgg,zdU,zh4]
 constructor
 ·rintro ⟨h1,h2⟩ p hp
  exact⟨(h1 p hp).1,(zi0 λq hq=>(h1 q hq).1).mp h2 p hp⟩
 ·intro h
  exact⟨λp hp=>⟨(h p hp).1,List.not_mem_nil⟩,(zi0 λq hq=>(h q hq).1).mpr λp hp=>(h p hp).2⟩
def RN (r:List Int):Prop:=r.Nodup∧∀ x∈r,x≠0
theorem zkd {n:Nat} {hs:List Int}:zcb n hs=true↔hs=[]∨∃ x∈hs,¬(0≤x∧x < (n:Int)):=by
 unfold zcb
 simp only[Bool.or_eq_true,List.any_eq_true,decide_eq_true_eq,List.isEmpty_iff]
 constructor
 ·rintro ((h | ⟨x,hx,h⟩) | ⟨x,hx,h⟩)
  ·exact .inl h
  ·exact .inr ⟨x,hx,by lia⟩
  ·exact .inr ⟨x,hx,by lia⟩
 ·rintro (h | ⟨x,hx,h⟩)
  ·exact .inl (.inl h)
  ·by_cases c:x < 0
   ·exact .inl (.inr ⟨x,hx,c⟩)
   ·exact .inr ⟨x,hx,by lia⟩
theorem zjq {m:Nat} {Rs:List (List Int)} {ps hs:List Int} (hR:∀ r∈Rs,RN r) (hp:∀ p∈ps,PIn m p∧ps.count p≤1∧-p∉ps) (hi:∀ x∈hs,0≤x∧x < (Rs.length:Int)):zcP Rs ps hs=zbE Rs (ps.map λp=>-p) hs:=by
 have c:Cons (ps.map λp=>-p):=λx hx z=>by
  obtain⟨p,h1,rfl⟩:=List.mem_map.mp hx
  obtain⟨q,h2,e⟩:=List.mem_map.mp z
  exact(hp p h1).2.2 ((show q=-p by lia) ▸ h2)
 rw[←zmv hR hs _ c]
 unfold zcP
 split
 ·rename_i e
  rcases zkd.mp e with rfl | ⟨x,hx,z⟩
  ·rfl
  ·exact absurd (hi x hx) z
 ·rfl
theorem zk7 {st:(Int→Int)→Int→Int→Int→Int} {ps:List Int} {T:List Tm} {As:List At}:∀ {ls:List Lk} {f:Int→Int},(∀ l∈ls,0≤l.2.2)→eqF st ps T As ls f=true→∀ l∈ls,zcf T.length As.length l
 | l :: ls,f,h0,h,k,hk=>by
  rw[eqF]at h
  split at h
  ·rename_i c
   rcases List.mem_cons.mp hk with rfl | hk
   ·obtain⟨h1,h2⟩:=zhv c
    refine⟨h1,h2,h0 _ hk,?_⟩
    rw[zd0 h1 h2]at c
    unfold zer at c
    split at c
    ·lia
    ·unfold zeP smF at c
     split at c
     ·rename_i e
      split at e
      ·rename_i z
       exact z.2
      ·cases e
     ·rw[Bool.and_false]at c
      cases c
   ·exact zk7 (λx hx=>h0 x (List.mem_cons_of_mem _ hx)) h k hk
  ·cases h
theorem zeA {a b k:Int} (h:a≤k∧k < b):zb8 a b (.int k)=true:=by
 rw[zb8,dTq h.1,dTq h.2]
 rfl
theorem ok_lok {T:List Tm} {As:List At} {Rs:List (List Int)} (D:Dom T As) (hR:∀ r∈Rs,RN r) (d:Dt):okD T As Rs d=zem T As Rs d:=by
 cases e:zce T.length As.length ((Rs.length:Nat):Int) d with
 | true =>
  obtain⟨ps,_,⟨hs,rfl,hh⟩ | ⟨ls,rfl,hl⟩⟩:=zhO e
  ·rw[zfL e,okD]
   rw[zce,Bool.and_eq_true]at e
   rw[zeZ.mpr e.1,if_pos rfl,za0,za0,zcn,zcn,zjq hR (zgg.mp e.1) hh,Bool.true_and]
   have:zck (.tup (hs.map Dt.int))=true:=by
    rw[zck,List.all_map,List.all_eq_true]
    exact λx hx=>dTq (hh x hx).1
   rw[this,Bool.true_and]
  ·rw[zgi e,okD]
   rw[zce,Bool.and_eq_true]at e
   rw[zeZ.mpr e.1,if_neg (by decide +kernel),if_pos rfl,za0,zfr,zcn,zjW,Bool.true_and]
   have:zet (.tup (ls.map dL))=true:=by
    rw[zet,List.all_map,List.all_eq_true]
    rintro ⟨a,b,c⟩ hx
    obtain⟨⟨a0,_⟩,⟨b0,_⟩,c0,_⟩:=hl _ hx
    show(([Dt.int a,.int b,.int c].all numD)&&true)=true
    simp only[List.all_cons,List.all_nil,numD,Bool.and_true,Bool.and_eq_true,decide_eq_true_eq]
    exact⟨a0,b0,c0⟩
   rw[this,Bool.true_and]
   exact zje D ps ls hl λt u _ _=>Iff.rfl
 | false =>
  rw[show zem T As Rs d=false by unfold zem;rw[e];rfl]
  refine Bool.eq_false_iff.mpr λh=>?_
  rw[←Bool.not_eq_true]at e
  refine e ?_
  unfold okD at h
  split at h
  ·rename_i z a b
   rw[Bool.and_eq_true]at h
   obtain⟨h1,h2⟩:=h
   have ea:=ze0 h1
   generalize za0 a=ps at ea h2
   subst ea
   have h3:=zeZ.mp h1
   split at h2
   ·rename_i ez
    subst ez
    rw[Bool.and_eq_true]at h2
    have eb:=zha h2.1
    generalize za0 b=hs at eb h2
    subst eb
    rw[zce,h3,Bool.true_and,show peq (.str "learnt") (.str "learnt")=true from zbD _,Bool.true_or,Bool.and_true,List.all_map,List.all_eq_true]
    intro x hx
    have h4:=h2.2
    unfold zcP at h4
    split at h4
    ·cases h4
    ·rename_i nb
     show((_||zb8 0 _ (.int x))&&(!(peq (.str "learnt") (.str "equal"))||_))=true
     rw[zeA (Classical.byContradiction λz=>nb (zkd.mpr (.inr ⟨x,hx,z⟩))),Bool.or_true,Bool.true_and,show peq (.str "learnt") (.str "equal")=false by decide +kernel]
     rfl
   ·split at h2
    ·rename_i ez
     subst ez
     rw[Bool.and_eq_true]at h2
     have eb:=zh8 h2.1
     generalize zfr b=ls at eb h2
     subst eb
     have l0:∀ l∈ls,(0:Int)≤l.2.2:=λl hl=>by
      have:=List.all_eq_true.mp h2.1 (dL l) (List.mem_map_of_mem hl)
      rw[Bool.and_eq_true]at this
      exact oDq (List.all_eq_true.mp this.1 (.int l.2.2) (by simp [dL]))
     have hl:=zk7 l0 h2.2
     rw[zce,h3,Bool.true_and,show peq (.str "equal") (.str "equal")=true from zbD _,Bool.or_true,Bool.and_true,List.all_map,List.all_eq_true]
     intro l hx
     obtain⟨i1,i2,i3,i4⟩:=hl l hx
     have:zeS T.length As.length (dL l)=true:=by
      show(zb8 0 _ (.int l.1)&&(zb8 0 _ (.int l.2.1)&&zb8 0 _ (.int l.2.2)))=true
      rw[zeA i1,zeA i2,zeA ⟨i3,by lia⟩]
      rfl
     rw[Function.comp,zdh,this,Bool.or_true,Bool.and_true,show peq (.str "equal") (.str "learnt")=false by decide +kernel]
     rfl
    ·cases h2
  ·cases h
theorem ok_rn {T:List Tm} {As:List At} {Rs:List (List Int)} {d:Dt} (h:okD T As Rs d=true):RN (psD d):=by
 unfold okD at h
 split at h
 ·rename_i z a b
  rw[Bool.and_eq_true]at h
  show RN (za0 a)
  have h1:=h.1
  have ea:=ze0 h1
  generalize za0 a=ps at ea
  subst ea
  have:=zgg.mp (zeZ.mp h1)
  refine⟨List.nodup_iff_count.mpr λx=>?_,λx hx=>(this x hx).1.1⟩
  by_cases c:x∈ps
  ·exact(this x c).2.1
  ·rw[List.count_eq_zero.mpr c]
   lia
 ·cases h
theorem zk5 {T:List Tm} {As:List At} (D:Dom T As):∀(ds:List Dt) (Rs:List (List Int)) (i:Nat),(∀ r∈Rs,RN r)→zeo T As Rs i ds=zcd T As Rs i ds
 | [],_,_,_=>rfl
 | d :: ds,Rs,i,hR=>by
  rw[zeo,zcd,←ok_lok D hR d]
  split
  ·rename_i c
   refine zk5 D ds _ _ λr hr=>?_
   rcases mPq hr with hr | hr
   ·exact hR r hr
   ·rw[mSq hr]
    exact ok_rn c
  ·rfl
theorem zjd {T:List Tm} {As:List At} {Rs:List (List Int)} (D:Dom T As) (hR:∀ r∈Rs,RN r) (ds:List Dt):zew T As Rs ds=zbX T As Rs ds:=by
 unfold zew zbX
 have e:=zk5 D ds Rs 0 hR
 revert e
 generalize zeo T As Rs 0 ds=a
 generalize zcd T As Rs 0 ds=b
 rintro rfl
 cases a <;> rfl
def mn (H:Hp) (av:List Addr):Hp:=λb=>if b∈av then none else H b
theorem zb3 {H:Hp} {av:List Addr} {p:Addr} (h:p∉av):mn H av p=H p:=by
 unfold mn
 rw[if_neg h]
theorem zhi {H H':Hp} {av av':List Addr} (f:∀ b o,b∉av→H b=some o→b∉av'∧H' b=some o):ah (mn H av) (mn H' av'):=λb o h=>by
 unfold mn at h
 split at h
 ·cases h
 ·rename_i c
  rw[zb3 (f b o c h).1]
  exact(f b o c h).2
theorem zbo {H:Hp} {av:List Addr}:ah (mn H av) H:=λb o h=>by
 unfold mn at h
 split at h
 ·cases h
 ·exact h
theorem zar {H H':Hp} {av:List Addr} (s:ah H H'):ah (mn H av) (mn H' av):=zhi λb o c h=>⟨c,s b o h⟩
def nk:Nat→Nat
 | 0=>0
 | k+1=>4 * nk k+4
abbrev HG:=Hp→V→Prop
def GdX (K:W.Frag) (k:Nat):HG:=λH x=>∃ d,Has K H d x∧wd d≤nk k∧dep d≤k
def GdT (K:W.Frag) (k:Nat):HG:=λH x=>∃ ds,Has K H (.tup ds) x∧wd (.tup ds)≤nk k∧dep (.tup ds)≤k
def GdW (K:W.Frag):HG:=λH x=>∃ d,Has K H d x∧wd d≤300∧dep d≤50
def GI:HG:=λ_ x=>∃ i,x=.int i
def GdL (G:HG) (m l:Nat):HG:=λH x=>∃ a us,x=.ref a∧H a=some (.lst us)∧(m≤us.length∧us.length≤l)∧∀ u∈us,G H u
def Stb (G:HG):Prop:=∀ H H' x,ah H H'→G H x→G H' x
theorem zaf {K:W.Frag} {k:Nat}:Stb (GdX K k):=λ_ _ _ s ⟨d,h,q⟩=>⟨d,hsm s _ _ h,q⟩
theorem zay {K:W.Frag}:Stb (GdW K):=λ_ _ _ s ⟨d,h,q⟩=>⟨d,hsm s _ _ h,q⟩
theorem zfw:Stb GI:=λ_ _ _ _ h=>h
theorem zdN {G:HG} {m l:Nat} (g:Stb G):Stb (GdL G m l):=λ_ _ _ s ⟨a,us,e,h,n,q⟩=>⟨a,us,e,s _ _ h,n,λu hu=>g _ _ _ s (q u hu)⟩
theorem zne {j k:Nat} (h:j≤k):nk j≤nk k:=by
 induction h with
 | refl=>exact nRq _
 | step _ ih =>
  rw[nk]
  lia
theorem GdX.up {K:W.Frag} {j k:Nat} {H:Hp} {x:V} (h:j≤k) (g:GdX K j H x):GdX K k H x:=by
 obtain⟨d,h1,h2,h3⟩:=g
 exact⟨d,h1,Nat.le_trans h2 (zne h),Nat.le_trans h3 h⟩
theorem GdX.tw {K:W.Frag} {H:Hp} {x:V} (g:GdX K 3 H x):GdW K H x:=by
 obtain⟨d,h1,h2,h3⟩:=g
 exact⟨d,h1,Nat.le_trans h2 (by decide),by lia⟩
theorem gds {K:W.Frag} {n m:Nat} {H:Hp}:∀ {xs:List V},(∀ x∈xs,∃ d,Has K H d x∧wd d≤n∧dep d≤m)→∃ ds,ao K H ds xs∧wds ds≤xs.length * n∧zaA ds≤m∧∀ d∈ds,wd d≤n∧dep d≤m
 | [],_=>⟨[],.nil,Nat.zero_le _,Nat.zero_le _,λd hd=>nomatch hd⟩
 | x :: xs,h=>by
  obtain⟨d,h1,h2,h3⟩:=h x List.mem_cons_self
  obtain⟨ds,g1,g2,g3,g4⟩:=gds λy hy=>h y (List.mem_cons_of_mem _ hy)
  refine⟨d :: ds,?_,?_,?_,λe he=>?_⟩
  ·simp only[ao]
   exact⟨x,xs,rfl,h1,g1⟩
  ·rw[wds,List.length_cons,Nat.succ_mul]
   lia
  ·rw[zaA]
   lia
  ·rcases List.mem_cons.mp he with rfl | he
   ·exact⟨h2,h3⟩
   ·exact g4 e he
structure PEw (X:Cx) (e:Expr) (t:TE):Prop where
 pe:PE X e t
structure PAw (X:Cx) (es:List Expr) (t:TA):Prop where
 pa:PA X es t
theorem zbF {t t':TE} (h:PE X e t) (hi:∀ σ H Q,t' σ H Q→t σ H Q):PEw X e t':=⟨λpins s σ H Q J q=>h pins s σ H Q J (hi σ H Q q)⟩
def Bse (av:List Addr) (I:List Addr→St→Hp→Prop) (σ:St) (H:Hp):Prop:=∃ H0,I av σ H0∧ah H0 H∧∀ b∈av,H0 b≠none
theorem Bse.to {σ:St} {H H':Hp} (b:Bse av I σ H) (s:ah H H'):Bse av I σ H':=by
 obtain⟨H0,h1,h2,h3⟩:=b
 exact⟨H0,h1,h2.trans s,h3⟩
theorem Bse.ne {σ:St} {H:Hp} {p:Addr} (b:Bse av I σ H) (h:H p=none):p∉av:=by
 obtain⟨H0,_,s,h3⟩:=b
 exact λz=>h3 p z (s.free h)
theorem Bse.new {σ:St} {H:Hp} {p:Addr} (b:Bse av I σ H) (h:H p=none) (o:HO):mn (upd H p o) av p=some o:=by
 rw[zb3 (b.ne h)]
 exact af
inductive tW (I:List Addr→St→Hp→Prop) (G:HG):TE|m{σ H Q} av:Bse av I σ H→(∀ H' x,ah H H'→G (mn H' av) x→Q x H')→tW I G σ H Q
def tAW (I:List Addr→St→Hp→Prop) (G:HG) (n:Nat):TA:=λσ H Q=>∃ av,Bse av I σ H∧∀ H' xs,ah H H'→xs.length=n→(∀ x∈xs,G (mn H' av) x)→Q xs H'
def tOW (I:List Addr→St→Hp→Prop):TO:=λσ H Q=>∃ av,Bse av I σ H∧∀ H' o,ah H H'→Q o H'
theorem g_up (h:PEw X e (tW I G)) (u:∀ H x,G H x→G' H x):PEw X e (tW I G'):=zbF h.pe λ_ _ _ ⟨av,b,q⟩=>⟨av,b,λH' x s g=>q H' x s (u _ _ g)⟩
theorem g_c {v:V} (h:PE X e (tC v)) (g:∀ H,G H v):PEw X e (tW I G):=zbF h λ_ H _ ⟨_,_,q⟩=>q H v (ah.refl _) (g _)
theorem zc8 (h:PE X e (tVar i)) (hv:∀ av σ H,I av σ H→∃ v,σ[i]?=some (some v)∧G (mn H av) v) (st:Stb G):PEw X e (tW I G):=zbF h λσ H _ ⟨av,⟨H0,i0,s0,_⟩,q⟩=>by
 obtain⟨v,e,g⟩:=hv av σ H0 i0
 exact⟨v,e,q H v (ah.refl _) (st _ _ _ (zar s0) g)⟩
theorem zcX:PAw X [] (tAW I G 0):=⟨λpos pins s σ H Q J ⟨_,_,q⟩=>ac pos pins s σ H Q J (q H [] (ah.refl _) rfl λx hx=>nomatch hx)⟩
theorem zao (st:Stb G) (he:PEw X e (tW I G)) (hr:PAw X es (tAW I G n)) (hs:starEach (e :: es) X.env=(false,eval e X.env) :: starEach es X.env:=by rfl):PAw X (e :: es) (tAW I G (n+1)):=⟨λpos pins s σ H Q J ⟨av,b,q⟩=>aa he.pe hr.pa hs pos pins s σ H Q J ⟨av,b,λH1 x s1 g1=>⟨av,b.to s1,λH2 xs s2 l2 g2=>q H2 (x :: xs) (s1.trans s2) (by rw[List.length_cons,l2]) λy hy=>by
 rcases List.mem_cons.mp hy with rfl | hy
 ·exact st _ _ _ (zar s2) g1
 ·exact g2 y hy⟩⟩⟩
theorem nk_4 (h:n≤4) {w:Nat} (hw:w≤n * nk k):n+w≤nk (k+1):=by
 rw[nk]
 have:=Nat.mul_le_mul_right (nk k) h
 lia
theorem ziP {x1:Nat} (h:PAw X es (tAW I (GdX X.K k) n)) (hn:n≤4):PEw X (.Tuple es x1 pos) (tW I (GdT X.K (k+1))):=zbF (zal h.pa) λσ H _ ⟨av,b,q⟩=>⟨av,b,λH1 xs s1 l1 g1=>⟨sz _ (by lia),λp hp=>by
 obtain⟨ds,h1,h2,h3,_⟩:=gds g1
 have s2:=ai hp (.tup xs)
 have hl:=h1.length
 refine q _ _ (s1.trans s2) ⟨ds,Has.tup' (SqT.of ((b.to s1).new hp _)) (zc7 (zar s2) _ _ h1),?_,?_⟩
 ·rw[wd,hl,l1]
  rw[l1]at h2
  exact nk_4 hn h2
 ·rw[dep]
  lia⟩⟩
theorem zkn {x1:Nat} (h:PAw X es (tAW I (GdX X.K k) n)) (hn:n≤4):PEw X (.Tuple es x1 pos) (tW I (GdX X.K (k+1))):=g_up (ziP h hn) λ_ _ ⟨ds,q⟩=>⟨.tup ds,q⟩
theorem g_lst (h:PAw X es (tAW I (GdX X.K k) n)) (hn:n≤4):PEw X (.List es pos) (tW I (GdX X.K (k+1))):=zbF (zaq h.pa) λσ H _ ⟨av,b,q⟩=>⟨av,b,λH1 xs s1 l1 g1=>⟨sz _ (by lia),λp hp=>by
 obtain⟨ds,h1,h2,h3,_⟩:=gds g1
 have s2:=ai hp (.lst xs)
 have hl:=h1.length
 refine q _ _ (s1.trans s2) ⟨.lst ds,?_,?_,?_⟩
 ·simp only[Has]
  exact⟨p,xs,rfl,SqL.of ((b.to s1).new hp _),zc7 (zar s2) _ _ h1⟩
 ·rw[wd,hl,l1]
  rw[l1]at h2
  exact nk_4 hn h2
 ·rw[dep]
  lia⟩⟩
theorem zeu (st:Stb G) (h:PAw X es (tAW I G n)) (hn:n≤500):PEw X (.List es pos) (tW I (GdL G n n)):=zbF (zaq h.pa) λσ H _ ⟨av,b,q⟩=>⟨av,b,λH1 xs s1 l1 g1=>⟨sz _ (by lia),λp hp=>q _ _ (s1.trans (ai hp _)) ⟨p,xs,rfl,(b.to s1).new hp _,by lia,λu hu=>st _ _ _ (zar (ai hp _)) (g1 u hu)⟩⟩⟩
theorem zb4 {l':Nat} (st:Stb G) (h:PEw X e (tW I (GdL G m l))) (h':PEw X e' (tW I (GdL G m' l'))) (hl:l+l'≤1000):PEw X (.BinOp e .Add e' pos) (tW I (GdL G (m+m') (l+l'))):=zbF (ar zaT h.pe h'.pe) λσ H _ ⟨av,b,q⟩=>⟨av,b,λH1 x s1 g1=>⟨av,b.to s1,λH2 y s2 g2=>by
 obtain⟨p1,us,rfl,h1,n1,q1⟩:=g1
 obtain⟨p2,vs,rfl,h2,n2,q2⟩:=g2
 refine⟨p1,p2,us,vs,rfl,rfl,s2 _ _ (zbo _ _ h1),zbo _ _ h2,sz _ (by lia),λp hp=>?_⟩
 have s3:=ai hp (.lst (us++vs))
 refine q _ _ ((s1.trans s2).trans s3) ⟨p,us++vs,rfl,((b.to s1).to s2).new hp _,by rw[lAq];lia,λu hu=>?_⟩
 rcases mPq hu with hu | hu
 ·exact st _ _ _ (zar (s2.trans s3)) (q1 u hu)
 ·exact st _ _ _ (zar s3) (q2 u hu)⟩⟩
theorem zcK:PO X none (tOW I):=λpins s σ H Q J ⟨_,_,q⟩=>zaG pins s σ H Q J (q H none (ah.refl _))
theorem zcJ (h:PEw X e (tW I GI)):PO X (some e) (tOW I):=λpins s σ H Q J ⟨av,b,q⟩=>zaF h.pe pins s σ H Q J ⟨av,b,λH1 x s1 ⟨j,e⟩=>⟨j,e,q H1 (some j) s1⟩⟩
theorem zen {lo hi:Option Expr} (st:Stb G) (h:PEw X e (tW I (GdL G m l))) (hl:PO X lo (tOW I)) (hu:PO X hi (tOW I)):PEw X (.Subscript e (.Slice lo hi none p2) pos) (tW I (GdL G 0 l)):=zbF (zat zbf h.pe hl hu) λσ H _ ⟨av,b,q⟩=>⟨av,b,λH1 x s1 g1=>⟨av,b.to s1,λH2 o s2=>⟨av,(b.to s1).to s2,λH3 o' s3=>by
 obtain⟨p1,us,rfl,h1,n1,q1⟩:=g1
 have s13:=s2.trans s3
 refine⟨p1,us,rfl,SqL.of (s13 _ _ (zbo _ _ h1)),λp hp=>?_⟩
 have s4:=ai hp (.lst (aU us o o'))
 refine q _ _ ((s1.trans s13).trans s4) ⟨p,aU us o o',rfl,((b.to s1).to s13).new hp _,⟨Nat.zero_le _,Nat.le_trans (zbK ..) n1.2⟩,λu hu=>?_⟩
 exact st _ _ _ (zar (s13.trans s4)) (q1 u (List.mem_of_mem_drop (List.mem_of_mem_take hu)))⟩⟩⟩
theorem zf0 (h:PEw X e (tW I GI)) (h':PEw X e' (tW I GI)):PEw X (.BinOp e .Add e' pos) (tW I GI):=zbF (ar zah h.pe h'.pe) λσ H _ ⟨av,b,q⟩=>⟨av,b,λH1 x s1 ⟨i,ei⟩=>⟨av,b.to s1,λH2 y s2 ⟨j,ej⟩=>⟨i,j,ei,ej,q H2 _ (s1.trans s2) ⟨_,rfl⟩⟩⟩⟩
theorem zk2 (h:PEw X e (tW I GI)):PEw X (.UnaryOp .USub e pos) (tW I GI):=zbF (zbk zaQ h.pe) λσ H _ ⟨av,b,q⟩=>⟨av,b,λH1 x s1 ⟨i,ei⟩=>⟨i,ei,q H1 _ s1 ⟨_,rfl⟩⟩⟩
theorem zdz {z:Int} {j:Nat}:PEw X (.Constant (.int z) j pos) (tW I GI):=g_c ad λ_=>⟨_,rfl⟩
theorem ze4 (h:PEw X e (tW I GI)):PEw X e (tW I (GdX X.K k)):=g_up h λ_ _ ⟨i,z⟩=>⟨.int i,by simp only[Has];exact z,Nat.zero_le _,Nat.zero_le _⟩
structure PSw (X:Cx) (ss:List Stmt) (t:TS):Prop where
 pss:PSs X ss t
theorem zmP {st:Stmt} {ss:List Stmt} {t u:TS} (h:PS X st t) (hr:PSw X ss u):PSw X (st :: ss) (tSeq t u):=⟨ae h hr.pss⟩
theorem zdi (i:Nat) {x:Str} {pos':Pos} {te:TE} {ss:List Stmt} {u:TS} (hN:X.N.Nodup) (hi:X.N[i]?=some x) (hx:Loc X.env.scope x) (he:PEw X e te) (hr:PSw X ss u) (hs:swapsWith e (some (.Name x pos')) pos.line X.env=pure false:=by rfl) (hf:X.fn x=true∨X.env.scope.names.lookup x=some .local:=by first | exact .inl rfl | exact .inr rfl | assumption):PSw X (.Assign [.Name x pos'] e pos :: ss) (tSeq (tAsg te (zcl i)) u):=⟨ae (aE hN hi hx he.pe hs hf) hr.pss⟩
def litC:PySem.Const→Bool
 | .int _=>true
 | .str _=>true
 | .bool _=>true
 | .none=>true
 | _=>false
def intC:PySem.Const→Bool
 | .int _=>true
 | _=>false
def negU:UnaryOp→Bool
 | .USub=>true
 | _=>false
def negE (b:Bool) (ns:List Str):Expr→Bool
 | .Constant c _ _=>intC c
 | .Name x _=>b&&ns.contains x
 | _=>false
def zkl (b z:Bool) (ns:List Str):Expr→Bool
 | .Constant c _ _=>litC c
 | .UnaryOp op e _=>negU op&&negE z ns e
 | .Name x _=>b&&ns.contains x
 | _=>false
def nodeE (f:Expr→Bool):Expr→Bool
 | .Tuple es _ _=>decide (es.length≤4)&&es.all f
 | .List es _=>decide (es.length≤4)&&es.all f
 | _=>false
def zfS (ns:List Str) (k0:Nat):Nat→Expr→Bool
 | 0,e=>zkl (k0 == 0) (k0 == 0) ns e
 | k+1,e=>zkl (decide (k0≤k+1)) (k0 == 0) ns e||nodeE (zfS ns k0 k) e
def stE:Expr→Bool
 | .Starred _ _=>true
 | _=>false
theorem zkP (h:stE e=false) (es:List Expr) (env:Env):starEach (e :: es) env=(false,eval e env) :: starEach es env:=by
 cases e with
 | Starred=>cases h
 | _=>rfl
theorem zic {ns:List Str} {k0:Nat} (h:zfS ns k0 k e=true):stE e=false:=by
 cases e with
 | Starred=>cases k <;> cases h
 | _=>rfl
theorem zjY {b z:Bool} {ns:List Str} (hN:b=true→∀ x∈ns,∀ pos,PEw X (.Name x pos) (tW I (GdX X.K k))) (hM:z=true→∀ x∈ns,∀ pos,PEw X (.Name x pos) (tW I GI)) (h:zkl b z ns e=true):PEw X e (tW I (GdX X.K k)):=by
 cases e with
 | Constant c =>
  cases c with
  | int=>exact ze4 zdz
  | str=>exact g_c zac λ_=>⟨.str _,by simp only[Has];rfl,Nat.zero_le _,Nat.zero_le _⟩
  | bool=>exact g_c zav λ_=>⟨.bl _,by simp only[Has];rfl,Nat.zero_le _,Nat.zero_le _⟩
  | none=>exact g_c zbG λ_=>⟨.non,by simp only[Has],Nat.zero_le _,Nat.zero_le _⟩
  | _=>cases h
 | UnaryOp op e =>
  obtain⟨h1,h2⟩:=Bool.and_eq_true_iff.mp h
  cases op with
  | USub =>
   cases e with
   | Constant c =>
    cases c with
    | int=>exact ze4 (zk2 zdz)
    | _=>cases h2
   | Name x =>
    obtain⟨h2,h3⟩:=Bool.and_eq_true_iff.mp h2
    exact ze4 (zk2 (hM h2 _ (List.contains_iff_mem.mp h3) _))
   | _=>cases h2
  | _=>cases h1
 | Name x =>
  obtain⟨h1,h2⟩:=Bool.and_eq_true_iff.mp h
  exact hN h1 _ (List.contains_iff_mem.mp h2) _
 | _=>cases h
theorem g_d (ns:List Str) (k0:Nat) (hN:∀ x∈ns,∀ pos,PEw X (.Name x pos) (tW I (GdX X.K k0))) (hM:k0=0→∀ x∈ns,∀ pos,PEw X (.Name x pos) (tW I GI)):∀(k:Nat) {e:Expr},zfS ns k0 k e=true→PEw X e (tW I (GdX X.K k)):=by
 intro k
 induction k with
 | zero=>exact λh=>zjY (λb x hx pos=>g_up (hN x hx pos) λ_ _=>GdX.up (Nat.le_of_eq (eq_of_beq b))) (λb=>hM (eq_of_beq b)) h
 | succ k ih =>
  intro e h
  have all:∀ {es:List Expr},es.all (zfS ns k0 k)=true→PAw X es (tAW I (GdX X.K k) es.length):=λ{es}=>by
   induction es with
   | nil=>exact λ_=>zcX
   | cons e es ih2 =>
    intro h
    obtain⟨h1,h2⟩:=Bool.and_eq_true_iff.mp h
    exact zao zaf (ih h1) (ih2 h2) (zkP (zic h1) es X.env)
  rcases Bool.or_eq_true_iff.mp h with h | h
  ·exact zjY (λb x hx pos=>g_up (hN x hx pos) λ_ _=>GdX.up (oDq b)) (λb=>hM (eq_of_beq b)) h
  ·cases e with
   | Tuple es =>
    obtain⟨h1,h2⟩:=Bool.and_eq_true_iff.mp h
    exact zkn (all h2) (oDq h1)
   | List es =>
    obtain⟨h1,h2⟩:=Bool.and_eq_true_iff.mp h
    exact g_lst (all h2) (oDq h1)
   | _=>cases h
theorem g_ds (k:Nat) {ns:List Str} {k0:Nat} (hN:∀ x∈ns,∀ pos,PEw X (.Name x pos) (tW I (GdX X.K k0))) (hM:k0=0→∀ x∈ns,∀ pos,PEw X (.Name x pos) (tW I GI)) (h:es.all (zfS ns k0 k)=true) (n:Nat) (hl:es.length=n) (hn:n≤500):PEw X (.List es pos) (tW I (GdL (GdX X.K k) n n)):=by
 subst hl
 refine zeu zaf ?_ hn
 clear hn
 induction es with
 | nil=>exact zcX
 | cons e es ih2 =>
  obtain⟨h1,h2⟩:=Bool.and_eq_true_iff.mp h
  exact zao zaf (g_d ns k0 hN hM k h1) (ih2 h2) (zkP (zic h1) es X.env)
inductive Ix1 (G:HG):List Addr→St→Hp→Prop|m{av σ H} x:σ=[some x]→G (mn H av) x→Ix1 G av σ H
theorem g_lc (st:Stb G) (st':Stb G') (h:PE X e (tLC (iList X.K (tW I (GdL G m n))) [] (tW (Ix1 G) G'))) (hn:n≤500):PEw X e (tW I (GdL G' m n)):=zbF h λσ H _ ⟨av,b,q⟩=>⟨av,b,λH1 x s1 ⟨l,us,el,hl,nl,ql⟩=>by
 subst el
 have hl1:=zbo _ _ hl
 obtain⟨H0,_,s0,a0⟩:=id b
 refine⟨l,rfl,⟨us,SqL.of hl1⟩,λD hD=>zbU zcZ (λi ys H'=>ah H1 H'∧ys.length=i∧∀ y∈ys,G' (mn H' (D :: av)) y) (λi ys H' ⟨s4,_⟩=>SqL.of (s4 _ _ hl1)) ⟨ai hD _,rfl,λy hy=>nomatch hy⟩ ?_ ?_⟩
 ·rintro i ys H8 z H4 hi hly hDs ⟨s4,ly,qy⟩ ⟨rfl,hx⟩
  have hz:=mOq (hx _ (SqL.of (s4 _ _ hl1)))
  refine⟨D :: av,⟨H4,⟨z,rfl,st _ _ _ (zhi λb o c hb=>⟨λm=>?_,s4 _ _ hb⟩) (ql z hz)⟩,ah.refl _,λb hb=>?_⟩,λH5 y s5 g5=>zaH (sz _ (by lia)) hi hly (s5 _ _ hDs) ?_⟩
  ·rcases List.mem_cons.mp m with rfl | m
   ·rw[hD]at hb
    cases hb
   ·exact c m
  ·rcases List.mem_cons.mp hb with rfl | hb
   ·rw[hDs]
    exact λc=>nomatch c
   ·exact λc=>a0 b hb (((s0.trans s1).trans s4).free c)
  have k6:∀ o,ah (mn H5 (D :: av)) (mn (upd H5 D o) (D :: av)):=λo=>zhi λb o c hb=>⟨c,by rw[aD (λz:b=D=>c (z ▸ List.mem_cons_self))];exact hb⟩
  refine⟨(s4.trans s5).upd hD,by rw[lAq,lS];lia,λu hu=>?_⟩
  rcases mPq hu with hu | hu
  ·exact st' _ _ _ (k6 _) (st' _ _ _ (zar s5) (qy u hu))
  ·rw[mSq hu]
   exact st' _ _ _ (k6 _) g5
 ·rintro ys H8 hDs ⟨s4,ly,qy⟩
  refine q H8 (.ref D) (s1.trans s4) ⟨D,ys,rfl,?_,by lia,λu hu=>st' _ _ _ (zhi λb o c hb=>⟨λm=>c (List.mem_cons_of_mem _ m),hb⟩) (qy u hu)⟩
  rw[zb3 ((b.to s1).ne hD)]
  exact hDs⟩
theorem zdG {X:Cx} {I:List Addr→St→Hp→Prop} {ns:List Str} (h:∀ x∈ns,∀ pos,PEw X (.Name x pos) (tW I GI)) {k:Nat} {e:Expr} (hd:zfS ns 0 k e=true):PEw X e (tW I (GdX X.K k)):=g_d ns 0 (λx hx pos=>ze4 (h x hx pos)) (λ_=>h) k hd
theorem zeT (k n:Nat) {X:Cx} {I:List Addr→St→Hp→Prop} {ns:List Str} (h:∀ x∈ns,∀ pos,PEw X (.Name x pos) (tW I GI)) {es:List Expr} {pos:Pos} (hd:es.all (zfS ns 0 k)=true) (hl:es.length=n) (hn:n≤500):PEw X (.List es pos) (tW I (GdL (GdX X.K k) n n)):=g_ds k (λx hx pos=>ze4 (h x hx pos)) (λ_=>h) hd n hl hn
theorem zk3 (k:Nat) {X:Cx} {I:List Addr→St→Hp→Prop} {es:List Expr} {n:Nat} {pos:Pos} (h:PAw X es (tAW I (GdX X.K k) n)) (hn:n≤500):PEw X (.List es pos) (tW I (GdL (GdX X.K k) n n)):=zeu zaf h hn
def Sl (G:HG) (n:Nat) (H:Hp) (v:Option V):Prop:=n=0∨∃ x,v=some x∧GdL G n n H x
theorem Sl.at {G:HG} {n:Nat} {H:Hp} {v:Option V} (h:Sl G (n+1) H v):∃ x,v=some x∧GdL G (n+1) (n+1) H x:=h.resolve_left (λz=>nomatch z)
theorem Sl.to {G:HG} {n:Nat} {H H':Hp} {x:V} (g:Stb G) (s:ah H H') (av:List Addr) (h:GdL G n n (mn H av) x):Sl G n (mn H' av) (some x):=.inr ⟨x,rfl,zdN g _ _ _ (zar s) h⟩
inductive IOd (K:W.Frag) (C:Addr) (n3 n4 n5:Nat):List Addr→St→Hp→Prop|m{av σ H} (p tl al rl:Addr) (T:List Tm) (As:List At) (Rs:List (List Int)) (c far:Int) (v3 v4 v5:Option V):σ=[some (.ref p),some (.int c),some (.int far),v3,v4,v5]→zaY K C H p tl al rl T As Rs→Sl (GdX K 3) n3 (mn H av) v3→Sl (GdX K 2) n4 (mn H av) v4→Sl (GdX K 1) n5 (mn H av) v5→IOd K C n3 n4 n5 av σ H
inductive ziu (K:W.Frag) (C:Addr):Sp|m{vs H Q E9} (p tl al rl:Addr) (T:List Tm) (As:List At) (Rs:List (List Int)) (c:Int):vs=[.ref p,.int c]→PrD K C H p tl al rl T As Rs→(∀(H':Hp) (x:V),ah H H'→GdX K 3 (mn H' [al,rl]) x→Q x H')→ziu K C vs H Q E9
abbrev NOd:List Str:=["_law_problem","_law_cell","_law_far","_law_odd","_law_sorts","_law_steps"]
theorem zax:aO NOd ["_law_problem","_law_cell"] (au zbm):=fsc
theorem ok_odd (F:Fun K "_law_odd_line" "_law_odd_line" zbm f fd) (T:Txt K mg aK C CN CT CP CM):aQ P w K mg base CX0 1 f fd ["_law_problem","_law_cell"] (ziu K C):=by
 refine F.ok zax (λvs H Q E h=>?_) (λcdv A outer s H vs Q E hr h=>?_)
 ·obtain⟨p,tl,al,rl,T',As,Rs,c,rfl,_⟩:=h
  rfl
 obtain⟨p,tl,al,rl,T',As,Rs,c,rfl,S,Q0⟩:=h
 have far:∀ {n3 n4 n5:Nat},∀ x∈(["_law_far"]:List Str),∀ pos,PEw (aX CX0 P w K mg base NOd "_law_odd_line" (au zbm) f cdv A outer s H E).nox (.Name x pos) (tW (IOd K C n3 n4 n5) GI):=λ{n3 n4 n5} x hx pos=>by
  rw[mSq hx]
  refine zc8 (pv 2) (λav σ H' h'=>?_) zfw
  obtain⟨_,_,_,_,_,_,_,_,k,_,_,_,rfl,_⟩:=h'
  exact⟨_,rfl,k,rfl⟩
 have a3:∀ {n n4 n5:Nat} {pos:Pos},PEw (aX CX0 P w K mg base NOd "_law_odd_line" (au zbm) f cdv A outer s H E).nox (.Name "_law_odd" pos) (tW (IOd K C (n+1) n4 n5) (GdL (GdX K 3) (n+1) (n+1))):=λ{n n4 n5 pos}=>by
  refine zc8 (pv 3) (λav σ H' h'=>?_) (zdN zaf)
  obtain⟨_,_,_,_,_,_,_,_,_,_,_,_,rfl,_,h3,_⟩:=h'
  obtain⟨x,rfl,g⟩:=h3.at
  exact⟨x,rfl,g⟩
 have a4:∀ {n3 n n5:Nat} {pos:Pos},PEw (aX CX0 P w K mg base NOd "_law_odd_line" (au zbm) f cdv A outer s H E).nox (.Name "_law_sorts" pos) (tW (IOd K C n3 (n+1) n5) (GdL (GdX K 2) (n+1) (n+1))):=λ{n3 n n5 pos}=>by
  refine zc8 (pv 4) (λav σ H' h'=>?_) (zdN zaf)
  obtain⟨_,_,_,_,_,_,_,_,_,_,_,_,rfl,_,_,h3,_⟩:=h'
  obtain⟨x,rfl,g⟩:=h3.at
  exact⟨x,rfl,g⟩
 have a5:∀ {n3 n4 n:Nat} {pos:Pos},PEw (aX CX0 P w K mg base NOd "_law_odd_line" (au zbm) f cdv A outer s H E).nox (.Name "_law_steps" pos) (tW (IOd K C n3 n4 (n+1)) (GdL (GdX K 1) (n+1) (n+1))):=λ{n3 n4 n pos}=>by
  refine zc8 (pv 5) (λav σ H' h'=>?_) (zdN zaf)
  obtain⟨_,_,_,_,_,_,_,_,_,_,_,_,rfl,_,_,_,h3⟩:=h'
  obtain⟨x,rfl,g⟩:=h3.at
  exact⟨x,rfl,g⟩
 refine⟨_,PSw.pss (zmP (aE (i:=2) zax.nd rfl (Or.inl rfl) (ar zah (ap aj rfl T.len bL (aa (aR (pv 0) rfl) ac)) ad))
  (zdi 3 zax.nd rfl (Or.inl rfl) (zeT 3 8 (far (n3:=0) (n4:=0) (n5:=0)) (by decide +kernel) rfl (by decide))
  (zdi 4 zax.nd rfl (Or.inl rfl) (zeT 2 8 (far (n3:=8) (n4:=0) (n5:=0)) (by decide +kernel) rfl (by decide))
  (zdi 3 zax.nd rfl (Or.inl rfl) (zb4 zaf (a3 (n:=7) (n4:=8) (n5:=0)) (g_lc zaf zaf (zbQ (N':=["_law_parts"]) (ix:=[]) rfl rfl (by decide +kernel) (by decide +kernel) rfl (λ_=>⟨[],zbd (by decide +kernel) (by decide +kernel)⟩) (by decide +kernel) rfl rfl (λj i h=>by simp at h) (zcr a4.pe) (λ_ _ _ _=>(g_d ["_law_parts"] 2 (λx hx pos=>by rw[mSq hx];exact zc8 (pv 0) (λav σ H' ⟨x,e,g⟩=>by subst e;exact⟨x,rfl,g⟩) zaf) (λz=>nomatch z) 3 (by decide +kernel)).pe)) (by decide)) (by decide))
  (zdi 4 zax.nd rfl (Or.inl rfl) (zk3 2 (zao zaf (zdG (far (n3:=16) (n4:=8) (n5:=0)) (by decide +kernel)) (zao zaf (zdG far (by decide +kernel)) (zao zaf (zkn (zao zaf (ze4 (zf0 (zbF (ap aj rfl T.len bL (aa (aR (pv 0) rfl) ac)) λσ H Q h=>by
     obtain⟨av,⟨H0,⟨p,tl,al,rl,T',As,Rs,c,far,v3,v4,v5,rfl,S,_⟩,s0,_⟩,q⟩:=h
     obtain⟨⟨dx,ho⟩,_,_,⟨ys,ha,hA⟩,_⟩:=id S
     exact⟨_,rfl,p,C,dx,_,_,rfl,s0 _ _ ho,T.cl,T.nR,zbz _ _ _,rl,ys,rfl,.inl (SqL.of (s0 _ _ ha)),q H _ (ah.refl _) ⟨_,rfl⟩⟩) zdz)) zcX) (by decide)) (zao zaf (zdG far (by decide +kernel)) (zao zaf (zdG far (by decide +kernel)) (zao zaf (zdG far (by decide +kernel)) (zao zaf (zdG far (by decide +kernel)) (zao zaf (zdG far (by decide +kernel)) zcX)))))))) (by decide))
  (zdi 3 zax.nd rfl (Or.inl rfl) (zb4 zaf (a3 (n:=15) (n4:=8) (n5:=0)) (g_lc zaf zaf (zbQ (N':=["_law_hints_here"]) (ix:=[]) rfl rfl (by decide +kernel) (by decide +kernel) rfl (λ_=>⟨[],zbd (by decide +kernel) (by decide +kernel)⟩) (by decide +kernel) rfl rfl (λj i h=>by simp at h) (zcr a4.pe) (λ_ _ _ _=>(g_d ["_law_hints_here"] 2 (λx hx pos=>by rw[mSq hx];exact zc8 (pv 0) (λav σ H' ⟨x,e,g⟩=>by subst e;exact⟨x,rfl,g⟩) zaf) (λz=>nomatch z) 3 (by decide +kernel)).pe)) (by decide)) (by decide))
  (zdi 3 zax.nd rfl (Or.inl rfl) (zb4 zaf (a3 (n:=23) (n4:=8) (n5:=0)) (zeT 3 4 far (by decide +kernel) rfl (by decide)) (by decide))
  (zdi 5 zax.nd rfl (Or.inl rfl) (zk3 1 (zao zaf (zdG (far (n3:=28) (n4:=8) (n5:=0)) (by decide +kernel)) (zao zaf (zkn (zao zaf (ze4 zdz) (zao zaf (ze4 (zbF (ap aj rfl T.len bL (aa (aR (pv 0) rfl) ac)) λσ H Q h=>by
     obtain⟨av,⟨H0,⟨p,tl,al,rl,T',As,Rs,c,far,v3,v4,v5,rfl,S,_⟩,s0,_⟩,q⟩:=h
     obtain⟨⟨dx,ho⟩,⟨ys,ha,hA⟩,_⟩:=id S
     exact⟨_,rfl,p,C,dx,_,_,rfl,s0 _ _ ho,T.cl,T.nT,zaK _ _ _,tl,ys,rfl,.inl (SqL.of (s0 _ _ ha)),q H _ (ah.refl _) ⟨_,rfl⟩⟩)) (zao zaf (ze4 zdz) zcX))) (by decide)) (zao zaf (zdG far (by decide +kernel)) (zao zaf (zdG far (by decide +kernel)) (zao zaf (zdG far (by decide +kernel)) (zao zaf (zdG far (by decide +kernel)) (zao zaf (zdG far (by decide +kernel)) zcX))))))) (by decide))
  (zdi 3 zax.nd rfl (Or.inl rfl) (zb4 zaf (a3 (n:=27) (n4:=8) (n5:=7)) (g_lc zaf zaf (zbQ (N':=["_law_step"]) (ix:=[]) rfl rfl (by decide +kernel) (by decide +kernel) rfl (λ_=>⟨[],zbd (by decide +kernel) (by decide +kernel)⟩) (by decide +kernel) rfl rfl (λj i h=>by simp at h) (zcr (zb4 zaf a5 (zeT 1 3 far (by decide +kernel) rfl (by decide)) (by decide)).pe) (λ_ _ _ _=>(g_d ["_law_step"] 1 (λx hx pos=>by rw[mSq hx];exact zc8 (pv 0) (λav σ H' ⟨x,e,g⟩=>by subst e;exact⟨x,rfl,g⟩) zaf) (λz=>nomatch z) 3 (by decide +kernel)).pe)) (by decide)) (by decide))
  (zdi 3 zax.nd rfl (Or.inl rfl) (zb4 zaf (a3 (n:=37) (n4:=8) (n5:=7)) (zeT 3 1 far (by decide +kernel) rfl (by decide)) (by decide))
  ⟨ag (ay (aq zaa (pv 3) (ar zab (pv 1) (ap aj rfl T.len bL (aa (pv 3) ac)))))⟩)))))))))),?_⟩
 obtain⟨⟨dx,ho⟩,_,⟨ys,ha,hA⟩,⟨zs,hz,hZ⟩,_⟩:=id S.pr
 have B:∀ {n3 n4 n5:Nat} {v3 v4 v5:Option V} {far:Int} {H':Hp},ah H H'→Sl (GdX K 3) n3 (mn H' [al,rl]) v3→Sl (GdX K 2) n4 (mn H' [al,rl]) v4→Sl (GdX K 1) n5 (mn H' [al,rl]) v5→Bse [al,rl] (IOd K C n3 n4 n5) [some (.ref p),some (.int c),some (.int far),v3,v4,v5] H':=λ{n3 n4 n5 v3 v4 v5 far H'} s' h3 h4 h5=>⟨H',⟨p,tl,al,rl,T',As,Rs,c,far,v3,v4,v5,rfl,(S.same s').pr,h3,h4,h5⟩,ah.refl _,λb hb z=>by
  simp only[List.mem_cons,List.not_mem_nil,or_false]at hb
  rcases hb with rfl | rfl
  ·rw[s' _ _ ha]at z
   cases z
  ·rw[s' _ _ hz]at z
   cases z⟩
 refine⟨_,rfl,p,C,dx,_,_,rfl,ho,T.cl,T.nA,zad _ _ _,al,ys,rfl,.inl (SqL.of ha),_,_,rfl,rfl,?_⟩
 refine⟨_,B (ah.refl _) (.inl rfl) (.inl rfl) (.inl rfl),λH1 x1 s1 g1=>?_⟩
 refine⟨_,B s1 (.inr ⟨_,rfl,g1⟩) (.inl rfl) (.inl rfl),λH2 x2 s2 g2=>?_⟩
 have s02:=s1.trans s2
 refine⟨_,B s02 (.to zaf s2 _ g1) (.inr ⟨_,rfl,g2⟩) (.inl rfl),λH3 x3 s3 g3=>?_⟩
 have s03:=s02.trans s3
 refine⟨_,B s03 (.inr ⟨_,rfl,g3⟩) (.to zaf s3 _ g2) (.inl rfl),λH4 x4 s4 g4=>?_⟩
 have s04:=s03.trans s4
 refine⟨_,B s04 (.to zaf s4 _ g3) (.inr ⟨_,rfl,g4⟩) (.inl rfl),λH5 x5 s5 g5=>?_⟩
 have s05:=s04.trans s5
 refine⟨_,B s05 (.inr ⟨_,rfl,g5⟩) (.to zaf s5 _ g4) (.inl rfl),λH6 x6 s6 g6=>?_⟩
 have s06:=s05.trans s6
 refine⟨_,B s06 (.inr ⟨_,rfl,g6⟩) (.to zaf (s5.trans s6) _ g4) (.inl rfl),λH7 x7 s7 g7=>?_⟩
 have s07:=s06.trans s7
 refine⟨_,B s07 (.to zaf s7 _ g6) (.to zaf ((s5.trans s6).trans s7) _ g4) (.inr ⟨_,rfl,g7⟩),λH8 x8 s8 g8=>?_⟩
 have s08:=s07.trans s8
 refine⟨_,B s08 (.inr ⟨_,rfl,g8⟩) (.to zaf (((s5.trans s6).trans s7).trans s8) _ g4) (.to zaf s8 _ g7),λH9 x9 s9 g9=>?_⟩
 obtain⟨l,us,rfl,hl,⟨n1,n2⟩,q⟩:=g9
 have hl':=zbo _ _ hl
 have pos:(0:Int) < ((us.length:Nat):Int):=by lia
 have bm:=zby c pos
 obtain⟨v,x1,x2⟩:=zbe (xs:=us) bm.1 bm.2
 exact⟨_,rfl,_,rfl,_,rfl,l,us,rfl,.inl (SqL.of hl'),_,_,rfl,rfl,pos,l,us,_,v,rfl,rfl,SqL.of hl',x2,Q0 H9 v (s08.trans s9) (q v (mOq x1))⟩
inductive zf7 (K:W.Frag) (C:Addr):Sp|m{vs H Q E9} (p tl al rl:Addr) (T:List Tm) (As:List At) (Rs:List (List Int)) (c:Int):vs=[.ref p,.int c]→PrD K C H p tl al rl T As Rs→1≤As.length→(∀(H':Hp) (x:V),ah H H'→GdX K 3 (mn H' [al,rl]) x→Q x H')→zf7 K C vs H Q E9
abbrev NNe:List Str:=["_law_problem","_law_cell","_law_atom","_law_same","_law_one","_law_other","_law_nearly_here"]
inductive INe (K:W.Frag) (n:Nat):List Addr→St→Hp→Prop|m{av σ H} (v0 v1 v3 v6:Option V) (k x y:Int):σ=[v0,v1,some (.int k),v3,some (.int x),some (.int y),v6]→Sl (GdX K 3) n (mn H av) v6→INe K n av σ H
inductive INo:List Addr→St→Hp→Prop|m{e0_ σ e2_} (v0 v1:Option V) (k:Int) (r:St):σ=v0 :: v1 :: some (.int k) :: r→INo e0_ σ e2_
theorem zbj:aO NNe ["_law_problem","_law_cell"] (au zcq):=fsc
theorem zlv (F:Fun K "_law_nearly" "_law_nearly" zcq f fd) (T:Txt K mg aK C CN CT CP CM):aQ P w K mg base CX0 1 f fd ["_law_problem","_law_cell"] (zf7 K C):=by
 refine F.ok zbj (λvs H Q E h=>?_) (λcdv A outer s H vs Q E hr h=>?_)
 ·obtain⟨p,tl,al,rl,T',As,Rs,c,rfl,_⟩:=h
  rfl
 obtain⟨p,tl,al,rl,T',As,Rs,c,rfl,S,a1,Q0⟩:=h
 have nm:∀ {n:Nat},∀ x∈(["_law_atom","_law_one","_law_other"]:List Str),∀ pos,PEw (aX CX0 P w K mg base NNe "_law_nearly" (au zcq) f cdv A outer s H E).nox (.Name x pos) (tW (INe K n) GI):=λ{n} x hx pos=>by
  simp only[List.mem_cons,List.not_mem_nil,or_false]at hx
  rcases hx with rfl | rfl | rfl
  ·exact zc8 (pv 2) (λav σ H' ⟨_,_,_,_,k,_,_,e,_⟩=>by subst e;exact⟨_,rfl,k,rfl⟩) zfw
  ·exact zc8 (pv 4) (λav σ H' ⟨_,_,_,_,_,k,_,e,_⟩=>by subst e;exact⟨_,rfl,k,rfl⟩) zfw
  ·exact zc8 (pv 5) (λav σ H' ⟨_,_,_,_,_,_,k,e,_⟩=>by subst e;exact⟨_,rfl,k,rfl⟩) zfw
 have a6:∀ {n:Nat} {pos:Pos},PEw (aX CX0 P w K mg base NNe "_law_nearly" (au zcq) f cdv A outer s H E).nox (.Name "_law_nearly_here" pos) (tW (INe K (n+1)) (GdL (GdX K 3) (n+1) (n+1))):=λ{n pos}=>zc8 (pv 6) (λav σ H' ⟨_,_,_,_,_,_,_,e,h6⟩=>by
  subst e
  obtain⟨x,rfl,g⟩:=h6.at
  exact⟨x,rfl,g⟩) (zdN zaf)
 refine⟨_,(ae (aE (i:=2) zbj.nd rfl (Or.inl rfl) (ar zah ad (ar zab (ar zak (pv 1) ad) (ap aj rfl T.len bL (aa (aR (pv 0) rfl) ac)))))
  (ae (aE (i:=3) zbj.nd rfl (Or.inl rfl) (aq zaa (aR (pv 0) rfl) (ar zbM (pv 2) ad)))
  (ae (aL (aw zcB (aq az (pv 3) ad) zac)
   (ag (ay (g_d (I:=INo) ["_law_atom"] 0 (λx hx pos=>by rw[mSq hx];exact ze4 (zc8 (pv 2) (λav σ H' ⟨_,_,k,_,e⟩=>by subst e;exact⟨_,rfl,k,rfl⟩) zfw)) (λ_ x hx pos=>by rw[mSq hx];exact zc8 (pv 2) (λav σ H' ⟨_,_,k,_,e⟩=>by subst e;exact⟨_,rfl,k,rfl⟩) zfw) 3 (by decide +kernel)).pe))
   aA)
  (ae (aE (i:=4) zbj.nd rfl (Or.inl rfl) (aq az (pv 3) ad))
  (ae (aE (i:=5) zbj.nd rfl (Or.inl rfl) (aq az (pv 3) ad))
  (ae (aE (i:=6) zbj.nd rfl (Or.inl rfl) (zeT 3 2 (nm (n:=0)) (by decide +kernel) rfl (by decide)).pe)
  (ae (aE (i:=6) zbj.nd rfl (Or.inl rfl) (zb4 zaf (a6 (n:=1)) (zeT 3 2 nm (by decide +kernel) rfl (by decide)) (by decide)).pe)
  (ae (aE (i:=6) zbj.nd rfl (Or.inl rfl) (zb4 zaf (a6 (n:=3)) (zeT 3 2 nm (by decide +kernel) rfl (by decide)) (by decide)).pe)
  (ag (ay (aq zaa (pv 6) (ar zab (pv 1) ad)))))))))))),?_⟩
 try dsimp only [Cx.nox,Cx.wish,aX]
 obtain⟨⟨dx,ho⟩,_,⟨ys,ha,hA⟩,⟨zs,hz,hZ⟩,_⟩:=id S.pr
 have yl:ys.length=As.length:=by rw[←hA.length,lM]
 have yp:(0:Int) < ((ys.length:Nat):Int):=by lia
 have bm:=zby (c / 6) yp
 have av:∀ {H':Hp},ah H H'→∀ b∈[al,rl],H' b≠none:=λs' b hb z=>by
  simp only[List.mem_cons,List.not_mem_nil,or_false]at hb
  rcases hb with rfl | rfl
  ·rw[s' _ _ ha]at z
   cases z
  ·rw[s' _ _ hz]at z
   cases z
 refine⟨_,rfl,_,_,rfl,rfl,⟨by decide,by decide⟩,_,rfl,p,C,dx,_,_,rfl,ho,T.cl,T.nA,zad _ _ _,al,ys,rfl,.inl (SqL.of ha),_,_,rfl,rfl,yp,_,_,rfl,rfl,?_⟩
 show zcl 2 (V.int (1+c / 6 % ((ys.length:Nat):Int))) _ _ _
 generalize ek:1+c / 6 % ((ys.length:Nat):Int)=k
 obtain⟨v,x1,x2⟩:=zbe (xs:=ys) (i:=k - 1) (by lia) (by lia)
 obtain⟨d,e1,e2⟩:=hA.get x1
 rw[List.getElem?_map]at e1
 obtain⟨at_,e3,rfl⟩:=Option.map_eq_some_iff.mp e1
 refine⟨_,rfl,p,C,dx,_,_,rfl,ho,T.cl,T.nA,zad _ _ _,_,rfl,_,_,rfl,rfl,al,_,_,_,rfl,rfl,SqL.of ha,x2,?_⟩
 cases at_ with
 | plain z =>
  obtain⟨q,rfl,hq⟩:=zcS e2
  exact⟨_,rfl,q,_,_,_,rfl,rfl,hq,aH (j:=0) rfl,rfl,_,rfl,aJ (λ_=>⟨[al,rl],⟨H,⟨_,_,_,_,rfl⟩,ah.refl _,av (ah.refl _)⟩,Q0⟩) (λcc=>absurd (by decide +kernel) cc)⟩
 | same x y =>
  obtain⟨q,rfl,hq⟩:=zdq e2
  refine⟨_,rfl,q,_,_,_,rfl,rfl,hq,aH (j:=0) rfl,rfl,_,rfl,aJ (λcc=>absurd cc (by decide +kernel)) (λ_=>?_)⟩
  refine⟨_,rfl,q,_,_,_,rfl,rfl,hq,aH (j:=1) rfl,?_⟩
  refine⟨_,rfl,q,_,_,_,rfl,rfl,hq,aH (j:=2) rfl,?_⟩
  refine⟨[al,rl],⟨H,⟨_,_,_,_,_,_,_,rfl,.inl rfl⟩,ah.refl _,av (ah.refl _)⟩,λH1 y1 s1 g1=>?_⟩
  refine⟨[al,rl],⟨H1,⟨_,_,_,_,_,_,_,rfl,.inr ⟨_,rfl,g1⟩⟩,ah.refl _,av s1⟩,λH2 y2 s2 g2=>?_⟩
  refine⟨[al,rl],⟨H2,⟨_,_,_,_,_,_,_,rfl,.inr ⟨_,rfl,g2⟩⟩,ah.refl _,av (s1.trans s2)⟩,λH3 y3 s3 g3=>?_⟩
  obtain⟨l,us,rfl,hl,⟨n1,n2⟩,qq⟩:=g3
  have n1':6≤us.length:=n1
  have b6:=zby c (show(0:Int) < 6 by decide)
  obtain⟨v,w1,w2⟩:=zbe (xs:=us) (i:=c % 6) b6.1 (by lia)
  exact⟨_,rfl,_,rfl,_,_,rfl,rfl,(by show(0:Int) < 6;decide),l,us,_,v,rfl,rfl,SqL.of (zbo _ _ hl),w2,Q0 H3 v ((s1.trans s2).trans s3) (qq v (mOq w1))⟩
theorem mn_upd {H:Hp} {av:List Addr} {L:Addr} {o:HO} (h:L∉av):mn (upd H L o) av=upd (mn H av) L o:=by
 funext b
 unfold mn upd
 by_cases c:b=L
 ·subst c
  rw[if_neg h,if_pos rfl,if_pos rfl]
 ·rw[if_neg c,if_neg c]
def GLn (K:W.Frag) (k n m:Nat):HG:=λH x=>∃ y,Has K H (dLn y) x∧LnV k n m y
theorem zdy {K:W.Frag} {k n m:Nat}:Stb (GLn K k n m):=λ_ _ _ s ⟨y,h,q⟩=>⟨y,hsm s _ _ h,q⟩
theorem GLn.keep {K:W.Frag} {k n m:Nat} {H H':Hp} {x:V} (g:GLn K k n m H x) (kt:zam H H'):GLn K k n m H' x:=by
 obtain⟨y,h,q⟩:=g
 exact⟨y,h.keep kt (zgz _),q⟩
theorem zgV (ps:List Int):wds (ps.map Dt.int)=0:=by
 induction ps with
 | nil=>rfl
 | cons p ps ih=>rw[List.map_cons,wds,ih];rfl
theorem zli (ls:List Lk):wds (ls.map dL)=3 * ls.length∧zaA (ls.map dL)≤1:=by
 induction ls with
 | nil=>exact⟨rfl,Nat.zero_le _⟩
 | cons p ps ih =>
  rw[List.map_cons,wds,zaA,ih.1,List.length_cons]
  have:wd (dL p)=3∧dep (dL p)=1:=⟨rfl,rfl⟩
  lia
theorem LnV.wd {k n m:Nat} {y:Ln} (hk:k≤1) (q:LnV k n m y):wd (dLn y)≤300∧dep (dLn y)≤50:=by
 cases y with
 | lrn ps hs =>
  obtain⟨q1,q2⟩:=q
  simp only[dLn,K35.wd,wds,dep,zaA,zgV,zbA,lM,List.length_cons,List.length_nil]
  lia
 | eql ps ls =>
  obtain⟨q1,_,q2,_⟩:=q
  have:2 ^ k≤2 ^ 1:=Nat.pow_le_pow_right (by decide) hk
  have:=zli ls
  simp only[dLn,K35.wd,wds,dep,zaA,zgV,zbA,lM,List.length_cons,List.length_nil,this.1]
  lia
theorem GLn.tw {K:W.Frag} {k n m:Nat} {H:Hp} {x:V} (hk:k≤1) (g:GLn K k n m H x):GdW K H x:=by
 obtain⟨y,h1,q⟩:=g
 exact⟨_,h1,q.wd hk⟩
abbrev NPt:List Str:=["_law_problem","_law_paper","_law_at","_law_again","_law_times","_law_lines","_law_k","_law_line","_law_behind"]
theorem zbu:aO NPt ["_law_problem","_law_paper","_law_at","_law_again","_law_times"] (au zb0):=fsc
abbrev ptB:List Stmt:=forB ((zaX zb0).getD 1 (.Pass ⟨0,0,0,0⟩))
theorem put1 (T:Txt K mg aK C CN CT CP CM) (TP:TxP K mg)
  {cdv:Value} {A:Around} {outer:List Env} {s:Shared} {H0:Hp} {E:XK} :
  ∃ t,PSs (aX CX0 P w K mg base NPt "_law_put_in" (au zb0) f cdv A outer s H0 E).nox (ptB.drop 1) t ∧
   ∀(D:zb9) (H Ho:Hp) (p tl al rl a L:Addr) (Tt:List Tm) (As:List At) (Rs:List (List Int)) (at_ tm:Int) (v3:V) (v7 v8:Option V) (us vs:List V) (av:List Addr) (k b n m:Nat),PrD K C H p tl al rl Tt As Rs→H a=some (.lst us)→(∀ u∈us,GLn K k n m (mn H av) u)→k≤100→0≤tm→tm≤1000→b < us.length→ah Ho H→Ho L=none→(∀ b∈av,Ho b≠none)→H L=some (.lst vs)→(∀ u∈vs,GLn K k n m (mn H av) u)→vs.length≤900 →
    (∀(H':Hp) (v7 v8:Option V) (x:V),ah Ho H'→H' L=some (.lst (vs++[x]))→(∀ u∈vs++[x],GLn K k n m (mn H' av) u)→D.nx [some (.ref p),some (.ref a),some (.int at_),some v3,some (.int tm),some (.ref L),some (.int ((0:Int)+(b:Int))),v7,v8] H') →
    t D [some (.ref p),some (.ref a),some (.int at_),some v3,some (.int tm),some (.ref L),some (.int ((0:Int)+(b:Int))),v7,v8] H:=by
 refine⟨_,(ae (aE (i:=7) zbu.nd rfl (Or.inl rfl) (aq zaa (pv 1) (pv 6)))
    (ae (aL (PW.pt (zaR (aw zeR (pv 6) (pv 2)) (zaV (aw zag (aq az (pv 7) ad) zac))))
     (ae (aE (i:=8) zbu.nd rfl (Or.inr rfl) (ar zah (ap aj rfl T.len bL (aa (aR (pv 0) rfl) ac)) (pv 2)))
      (ag (aE (i:=7) zbu.nd rfl (Or.inl rfl) (zal (aa zac (aa (aq az (pv 7) ad) (aa (zai zaC rfl T.tuple PyProof.Rows.Boot.tuple (aa (zbQ (N':=["_law_hint","_law_times","_law_behind"]) (ix:=[4,8]) rfl rfl (by decide +kernel) (by decide +kernel) rfl (λok=>zdA (sc:=au zb0) ok rfl (by decide +kernel) (by decide +kernel)) (by decide +kernel) rfl rfl (λj i h=>match j,h with | 0,h=>by cases h;exact⟨_,rfl,rfl,.inl rfl,.inl rfl⟩ | 1,h=>by cases h;exact⟨_,rfl,rfl,.inl rfl,.inl rfl⟩ | n+2,h=>by simp at h) (zbr (aq az (pv 7) ad)) (λ_ _ _ _=>(ar zah (pv 0) (ar ziJ (pv 1) (zai zlU rfl TP.int PyProof.Rows.Boot.int (aa (zaz zeR (pv 0) (pv 2)) ac)))))) ac)) ac)))))))
     aA)
    (ag (zap (zcj PySem.F.plainAttrs_list PySem.F.slot_list_append PySem.F.type_list_append za5 (pv 5) (aa (pv 7) ac)))))),?_⟩
 try dsimp only [Cx.nox,Cx.wish,aX]
 intro D H Ho p tl al rl a L Tt As Rs at_ tm v3 v7 v8 us vs av k b n m S ha lv k100 tm0 tm1 hb so nL hav hLs mv ml nx
 have nav:L∉av:=λz=>hav L z nL
 obtain⟨x,x1,x2⟩:=zbe (xs:=us) (i:=(0:Int)+(b:Int)) (by lia) (by lia)
 obtain⟨l,hxl,lm⟩:=lv x (mOq x1)
 obtain⟨lq,pq,hq,rfl,h1,h2,h3⟩:=zhq hxl
 have h1':=zbo.tup h1
 refine⟨_,rfl,_,rfl,a,_,_,_,rfl,rfl,SqL.of ha,x2,?_⟩
 have fin:∀(H':Hp) (x:V) (v7 v8:Option V),ah H H'→GLn K k n m (mn H' av) x→D.nx [some (.ref p),some (.ref a),some (.int at_),some v3,some (.int tm),some (.ref L),some (.int ((0:Int)+(b:Int))),v7,v8] (upd H' L (.lst (vs++[x]))):=λH' x v7 v8 s' hx=>by
  refine nx _ v7 v8 x ((so.trans s').upd nL) af λu hu=>?_
  have kt:zam (mn H' av) (mn (upd H' L (.lst (vs++[x]))) av):=by
   rw[mn_upd nav]
   exact zam.lst (xs:=vs) (by rw[zb3 nav];exact s' _ _ hLs)
  rcases mPq hu with hu | hu
  ·exact(zdy _ _ _ (zar s') (mv u hu)).keep kt
  ·rw[mSq hu]
   exact hx.keep kt
 refine⟨_,rfl,_,rfl,_,_,rfl,rfl,_,rfl,aJ (λc1=>⟨_,rfl,lq,_,_,_,rfl,rfl,h1',aH (j:=0) rfl,rfl,_,rfl,aJ (λc2=>?_) (λc2=>?_)⟩) (λc1=>aV ?_)⟩
 ·cases l with
  | eql ps ls=>exact absurd (oDq c2) (show ¬V.str "equal"=V.str "learnt" by decide +kernel)
  | lrn ps hs =>
   obtain⟨⟨dx,ho⟩,_,_,⟨zs,hz,hZ⟩,_⟩:=id S.pr
   have h3':SqT K H hq (hs.map V.int):=zbo.tup h3
   have hl2:hs.length≤160:=by have:=lm.2;lia
   refine⟨_,rfl,p,C,dx,_,_,rfl,ho,T.cl,T.nR,zbz _ _ _,rl,zs,rfl,.inl (SqL.of hz),_,rfl,_,_,rfl,rfl,?_⟩
   refine⟨_,rfl,lq,_,_,_,rfl,rfl,h1',aH (j:=1) rfl,_,rfl,lq,_,_,_,rfl,rfl,h1',aH (j:=2) rfl,hq,rfl,⟨_,h3'⟩,λM hM=>zbU zb5 (λi ys H'=>ah H H'∧∃ ns:List Int,ys=ns.map V.int∧ns.length=i) (λi ys H' ⟨s1,_⟩=>s1.tup h3') ⟨ai hM _,[],rfl,rfl⟩ ?_ ?_⟩
   ·rintro i ys H8 z H4 hi hly hDs ⟨s4,ns,rfl,nl⟩ ⟨rfl,hx⟩
    obtain⟨h,hh,rfl⟩:=zaW (hx _ (s4.tup h3'))
    exact⟨_,rfl,_,rfl,_,rfl,_,rfl,_,_,rfl,rfl,.inr ⟨_,rfl,_,_,rfl,rfl,.inl (by lia),_,_,rfl,rfl,zaH (sz _ (by rw[lM];lia)) hi hly hDs ⟨s4.upd hM,ns++[_],by rw[mAq];rfl,by rw[lAq,lS,nl]⟩⟩⟩
   rintro ys H4 hDs ⟨s4,ns,rfl,nl⟩
   rw[lM]at nl
   refine⟨M,_,rfl,.inl ⟨SqL.of hDs,λt1 ht1=>⟨lS3,λt2 ht2=>?_⟩⟩⟩
   have s5:=ai ht1 (.tup (ns.map V.int))
   have s6:=ai ht2 (.tup [.str "learnt",.ref pq,.ref t1])
   have n1:t1∉av:=λz=>hav t1 z ((so.trans s4).free ht1)
   have n2:t2∉av:=λz=>hav t2 z ((so.trans (s4.trans s5)).free ht2)
   have s06:=(s4.trans s5).trans s6
   have m5:mn (upd (upd H4 t1 (.tup (ns.map V.int))) t2 (.tup [.str "learnt",.ref pq,.ref t1])) av t1=some (.tup (ns.map V.int)):=by
    rw[zb3 n1]
    exact s6 _ _ af
   have m6:mn (upd (upd H4 t1 (.tup (ns.map V.int))) t2 (.tup [.str "learnt",.ref pq,.ref t1])) av t2=some (.tup [.str "learnt",.ref pq,.ref t1]):=by
    rw[zb3 n2]
    exact af
   show(λH6:Hp=>_) (upd (upd H4 t1 (.tup (ns.map V.int))) t2 (.tup [.str "learnt",.ref pq,.ref t1]))
   generalize upd (upd H4 t1 (.tup (ns.map V.int))) t2 (.tup [.str "learnt",.ref pq,.ref t1])=H6 at m5 m6 s06
   have hL6:=s06 _ _ hLs
   exact⟨_,rfl,.inl ⟨rfl,_,SqL.of hL6⟩,_,rfl,L,_,_,rfl,rfl,hL6,zaJ (by lia),fin H6 _ _ _ s06 ⟨.lrn ps ns,zek (SqT.of m6) ((zar s06).tup h2) (SqT.of m5),lm.1,by rw[nl];exact lm.2⟩⟩
 all_goals
  exact⟨_,rfl,.inl ⟨rfl,_,SqL.of hLs⟩,_,rfl,L,_,_,rfl,rfl,hLs,zaJ (by lia),fin H _ _ _ (ah.refl _) ⟨l,hxl,lm⟩⟩
inductive zfe (K:W.Frag) (C:Addr):Sp|m{vs H Q E9} (p tl al rl a:Addr) (T:List Tm) (As:List At) (Rs:List (List Int)) (at_ tm:Int) (x:V) (us:List V) (av:List Addr) (k n m:Nat):vs=[.ref p,.ref a,.int at_,x,.int tm]→PrD K C H p tl al rl T As Rs→H a=some (.lst us)→(∀ u∈us,GLn K k n m (mn H av) u)→us.length≤300→k≤100→GLn K k n m (mn H av) x→0≤tm→tm≤300→(∀ b∈av,H b≠none)→(∀(H':Hp) (l:Addr) (us':List V),ah H H'→mn H' av l=some (.lst us')→(∀ u∈us',GLn K k n m (mn H' av) u)→us'.length≤us.length+tm.toNat→Q (.ref l) H')→zfe K C vs H Q E9
theorem ok_put (F:Fun K "_law_put_in" "_law_put_in" zb0 f fd) (T:Txt K mg aK C CN CT CP CM) (TP:TxP K mg):aQ P w K mg base CX0 1 f fd ["_law_problem","_law_paper","_law_at","_law_again","_law_times"] (zfe K C):=by
 refine F.ok zbu (λvs H Q E h=>?_) (λcdv A outer s H vs Q E hr h=>?_)
 ·obtain⟨p,tl,al,rl,a,T',As,Rs,at_,tm,x,us,av,k,n,m,rfl,_⟩:=h
  rfl
 obtain⟨p,tl,al,rl,a,T',As,Rs,at_,tm,x,us,av,k,n,m,rfl,S,ha,lv,l300,k100,hx,tm0,tm1,hav,Q0⟩:=h
 obtain⟨t1,h1,g1⟩:=put1 (P:=P) (w:=w) (base:=base) (f:=f) (cdv:=cdv) (A:=A) (outer:=outer) (s:=s) (H0:=H) (E:=E) T TP
 refine⟨_,(ae (aE (i:=5) zbu.nd rfl (Or.inl rfl) (zaq ac))
  (ae (zaB PassesOwn.never rfl (zbi rfl T.range (aa (ap aj rfl T.len bL (aa (pv 1) ac)) ac)) (zaj (i:=6) zbu.nd rfl (Or.inl rfl))
   (ae (aL (aw zag (pv 6) (pv 2))
     (ag (aE (i:=5) zbu.nd rfl (Or.inl rfl) (ar zaT (pv 5) (ar op_rep (zaq (aa (pv 3) ac)) (pv 4)))))
     aA) h1))
  (ag (ay (pv 5))))),?_⟩
 try dsimp only [Cx.nox,Cx.wish,aX]
 refine⟨lS0,λL nL=>?_⟩
 have s1:=ai nL (.lst [])
 have n1:=af (H:=H) (a:=L) (o:=.lst [])
 generalize upd H L (.lst [])=H1 at s1 n1
 refine⟨_,rfl,a,_,rfl,.inl (SqL.of (s1 _ _ ha)),_,rfl,by lia,by lia,za6 (lo:=0) (n:=(((us.length:Nat):Int)).toNat) (λi σ H'=>ah H H'∧∃(v6 v7 v8:Option V) (l:Addr) (vs:List V),σ=[some (.ref p),some (.ref a),some (.int at_),some x,some (.int tm),some (.ref l),v6,v7,v8]∧H l=none∧H' l=some (.lst vs)∧(∀ u∈vs,GLn K k n m (mn H' av) u)∧vs.length≤i+(if at_ < (i:Int) then tm.toNat else 0)) ⟨s1,none,none,none,L,[],rfl,nL,n1,(λy hy=>nomatch hy),Nat.zero_le _⟩ ?_ ?_⟩
 ·rintro i σ H2 hi ⟨s2,v6,v7,v8,l,vs,rfl,nl,hl2,mv,ml⟩
  have hi':i < us.length:=by lia
  refine⟨_,rfl,_,rfl,rfl,_,rfl,aJ (λc=>?_) (λc=>?_)⟩
  ·have ce:(0:Int)+(i:Int)=at_:=by
    have:=oDq c
    injection this
   rw[if_neg (by lia)]at ml
   refine⟨_,rfl,_,rfl,lS1,λe he=>?_⟩
   have s3:=ai he (.lst [x])
   have n3:=af (H:=H2) (a:=e) (o:=.lst [x])
   show(λH3:Hp=>_) (upd H2 e (.lst [x]))
   generalize upd H2 e (.lst [x])=H3 at s3 n3
   refine⟨_,rfl,e,tm,[x],rfl,rfl,n3,by lia,by lia,sz _ (by rw[lS];lia),λe2 he2=>?_⟩
   have rm:∀ u∈(List.replicate tm.toNat [x]).flatten,u=x:=λu hu=>by
    obtain⟨y,hy,hu⟩:=List.mem_flatten.mp hu
    rw[(List.mem_replicate.mp hy).2]at hu
    exact mSq hu
   have rl':(List.replicate tm.toNat [x]).flatten.length=tm.toNat:=by
    rw[List.length_flatten,List.map_replicate,List.sum_replicate_nat]
    exact Nat.mul_one _
   generalize (List.replicate tm.toNat [x]).flatten=rs at rm rl' ⊢
   have s4:=ai he2 (.lst rs)
   have n4:=af (H:=H3) (a:=e2) (o:=.lst rs)
   show(λH4:Hp=>_) (upd H3 e2 (.lst rs))
   generalize upd H3 e2 (.lst rs)=H4 at s4 n4
   refine⟨l,e2,vs,rs,rfl,rfl,s4 _ _ (s3 _ _ hl2),n4,sz _ (by lia),λl2 hl=>?_⟩
   have s5:=ai hl (.lst (vs++rs))
   have s25:=s3.trans (s4.trans s5)
   have s05:=s2.trans s25
   refine g1 _ _ H p tl al rl a l2 T' As Rs at_ tm x v7 v8 us (vs++rs) av k i n m (S.same s05) (s05 _ _ ha) (λu hu=>zdy _ _ _ (zar s05) (lv u hu)) k100 tm0 (by lia) hi' s05 ((s2.trans (s3.trans s4)).free hl) hav af (λu hu=>?_) (by rw[lAq];lia) λH' v7 v8 y s' h' q'=>⟨s',_,_,_,l2,_,rfl,(s2.trans (s3.trans s4)).free hl,h',q',?_⟩
   ·rcases mPq hu with hu | hu
    ·exact zdy _ _ _ (zar s25) (mv u hu)
    ·rw[rm u hu]
     exact zdy _ _ _ (zar s05) hx
   ·rw[lAq,lAq,lS,if_pos (by lia)]
    lia
  ·have cn:¬(0:Int)+(i:Int)=at_:=λz=>c (dTq (by rw[z]))
   have ml2:vs.length≤i+tm.toNat:=by
    split at ml <;> lia
   refine g1 _ _ H p tl al rl a l T' As Rs at_ tm x v7 v8 us vs av k i n m (S.same s2) (s2 _ _ ha) (λu hu=>zdy _ _ _ (zar s2) (lv u hu)) k100 tm0 (by lia) hi' s2 nl hav hl2 mv (by lia) λH' v7 v8 y s' h' q'=>⟨s',_,_,_,l,_,rfl,nl,h',q',?_⟩
   rw[lAq,lS]
   split at ml
   ·rw[if_pos (by lia)]
    lia
   ·lia
 ·rintro σ H2 ⟨s2,v6,v7,v8,l,vs,rfl,nl,hl2,mv,ml⟩
  refine⟨_,rfl,Q0 H2 l vs s2 (by rw[zb3 λz=>hav l z nl];exact hl2) mv ?_⟩
  split at ml <;> lia
inductive zf5 (K:W.Frag):Sp|m{vs H Q E9} (x:V) (av:List Addr) (n m:Nat):vs=[x]→GLn K 0 n m (mn H av) x→(∀ b∈av,H b≠none)→(∀(H':Hp) (y:V),ah H H'→GdW K (mn H' av) y→Q y H')→zf5 K vs H Q E9
theorem zfp:aO ["_law_line","_law_things"] ["_law_line"] (au zd7):=fsc
theorem zlt (F:Fun K "_law_truths" "_law_truths" zd7 f fd) (T:Txt K mg aK C CN CT CP CM) (TP:TxP K mg):aQ P w K mg base CX0 1 f fd ["_law_line"] (zf5 K):=by
 refine F.ok zfp (λvs H Q E h=>?_) (λcdv A outer s H vs Q E hr h=>?_)
 ·obtain⟨x,av,n,m,rfl,_⟩:=h
  rfl
 obtain⟨x,av,n,m,rfl,⟨y,hx,yv⟩,hav,Q0⟩:=h
 obtain⟨q,pq,hq,rfl,h1,h2,h3⟩:=zhq hx
 have h1':=zbo.tup h1
 obtain⟨zs,hz,z60,zp,zd⟩:∃ zs,SqT K (mn H av) hq zs∧zs.length≤60∧y.ps.length≤20∧∀ z∈zs,∃ d,Has K (mn H av) d z∧wd d≤3∧dep d≤1∧((∃ i,d=.int i)∨isIB d=false):=by
  cases y with
  | lrn ps hs =>
   refine⟨_,h3,by rw[lM];exact yv.2,yv.1,λz hz=>?_⟩
   obtain⟨h,_,rfl⟩:=List.mem_map.mp hz
   exact⟨.int h,by simp only[Has],Nat.zero_le _,Nat.zero_le _,.inl ⟨h,rfl⟩⟩
  | eql ps ls =>
   obtain⟨xs,h4,h5⟩:=h3
   have hl:=h5.length
   rw[lM]at hl
   have:=yv.2.2.1
   refine⟨xs,h4,by lia,yv.1,λz hz=>?_⟩
   obtain⟨i,hi⟩:=List.getElem?_of_mem hz
   obtain⟨d,e1,e2⟩:=h5.get hi
   rw[List.getElem?_map]at e1
   obtain⟨l,_,rfl⟩:=Option.map_eq_some_iff.mp e1
   exact⟨_,e2,nRq _,nRq _,.inr rfl⟩
 have hz':=zbo.tup hz
 refine⟨_,(ae (zg6 (i:=1) (N':=["_law_thing"]) (ix:=[]) zfp.nd rfl (Or.inl rfl) rfl rfl (by decide +kernel) (by decide +kernel) rfl (λ_=>⟨[],zbd (by decide +kernel) (by decide +kernel)⟩) (by decide +kernel) rfl rfl (λj i h=>by simp at h) (zbr (aq az (pv 0) ad)) (λ_ _ _ _=>(zg7 (PW.pt (zaR (zaI (ap (r:=rIsD K) zaw rfl T.isi PyProof.Rows.Boot.isinstance (aa (pv 0) (aa (zbt (v:=.ty "int") rfl TP.int PyProof.Rows.Boot.int rfl) ac)))) (zaV (aw zbR (pv 0) ad)))) (zai zkK rfl T.bool PyProof.Rows.Boot.bool (aa (pv 0) ac)) (pv 0))))
  (ag (ay (zal (aa (aq az (pv 0) ad) (aa (aq az (pv 0) ad) (aa (zai zaC rfl T.tuple PyProof.Rows.Boot.tuple (aa (pv 1) ac)) ac))))))),?_⟩
 try dsimp only [Cx.nox,Cx.wish,aX]
 refine⟨_,rfl,q,_,_,_,rfl,rfl,h1',aH (j:=2) rfl,hq,rfl,⟨_,hz'⟩,λM hM=>zbU zb5 (λi ys H'=>ah H H'∧ys.length=i∧∀ y∈ys,∃ d,Has K (mn H av) d y∧wd d≤3∧dep d≤1) (λi ys H' ⟨s1,_⟩=>s1.tup hz') ⟨ai hM _,rfl,λy hy=>nomatch hy⟩ ?_ ?_⟩
 ·rintro i ys H8 z H4 hi hly hDs ⟨s4,yl,yq⟩ ⟨rfl,hx⟩
  obtain⟨d,d1,d2,d3,d4⟩:=zd z (mOq (hx _ (s4.tup hz')))
  have fin:∀ v:V,(∃ d,Has K (mn H av) d v∧wd d≤3∧dep d≤1)→zhs zs.length M (λi ys H'=>ah H H'∧ys.length=i∧∀ y∈ys,∃ d,Has K (mn H av) d y∧wd d≤3∧dep d≤1) i ys v H4:=λv hv=>zaH (sz _ (by lia)) hi hly hDs ⟨s4.upd hM,by rw[lAq,lS,yl],λu hu=>by
   rcases mPq hu with hu | hu
   ·exact yq u hu
   ·rw[mSq hu]
    exact hv⟩
  refine⟨_,rfl,z,d,"int",_,rfl,hsm s4 _ _ (hsm zbo _ _ d1),TP.ki d,_,rfl,?_⟩
  rcases d4 with ⟨h,rfl⟩ | d4
  ·simp only[Has]at d1
   subst d1
   refine aS ⟨_,rfl,_,_,rfl,rfl,_,rfl,aJ (λ_=>⟨_,rfl,.inl ⟨_,rfl,fin _ ⟨.bl _,by simp only[Has];rfl,Nat.zero_le _,Nat.zero_le _⟩⟩⟩) (λ_=>⟨_,rfl,fin _ ⟨.int h,by simp only[Has],Nat.zero_le _,Nat.zero_le _⟩⟩)⟩
  ·rw[d4]
   exact aV (aV ⟨_,rfl,fin z ⟨d,d1,d2,d3⟩⟩)
 rintro ys H4 hDs ⟨s4,yl,yq⟩
 have q4:=s4.tup h1'
 refine⟨_,rfl,q,_,_,_,rfl,rfl,q4,aH (j:=0) rfl,_,rfl,q,_,_,_,rfl,rfl,q4,aH (j:=1) rfl,_,rfl,M,_,rfl,.inl ⟨SqL.of hDs,λt1 ht1=>⟨lS3,λt2 ht2=>?_⟩⟩⟩
 have s5:=ai ht1 (.tup ys)
 have s6:=ai ht2 (.tup [.str (kdL y),.ref pq,.ref t1])
 have n1:t1∉av:=λz=>hav t1 z (s4.free ht1)
 have n2:t2∉av:=λz=>hav t2 z ((s4.trans s5).free ht2)
 have s06:=(s4.trans s5).trans s6
 obtain⟨ds,g1,g2,g3,_⟩:=gds yq
 have gl:=g1.length
 refine Q0 _ _ s06 ⟨.tup [.str (kdL y),.tup (y.ps.map Dt.int),.tup ds],Has.tup' (SqT.of (by rw[zb3 n2];exact af)) ?_,?_,?_⟩
 ·simp only[ao]
  exact⟨_,_,rfl,by simp only[Has],_,_,rfl,Has.tup' ((zar s06).tup h2) (ao.ints _),_,_,rfl,Has.tup' (SqT.of (by rw[zb3 n1];exact s6 _ _ af)) (zc7 (zar s06) _ _ g1),rfl⟩
 ·simp only[wd,wds,zgV,lM,List.length_cons,List.length_nil]
  lia
 ·simp only[dep,zaA,zbA]
  lia
theorem GdL.up {G:HG} {m l l':Nat} {H:Hp} {x:V} (g:GdL G m l H x) (h:l≤l'):GdL G 0 l' H x:=by
 obtain⟨a,us,e,h1,h2,q⟩:=g
 exact⟨a,us,e,h1,⟨Nat.zero_le _,by lia⟩,q⟩
theorem kt_mn {H:Hp} {av:List Addr} (h:∀ b∈av,∃ xs,H b=some (.lst xs)):zam H (mn H av):=λb xs r=>by
 have n:b∉av:=λz=>by
  obtain⟨ys,e⟩:=h b z
  rcases r with r | ⟨o,r⟩ <;> (rw[e]at r;cases r)
 rcases r with r | ⟨o,r⟩
 ·exact .inl (by rw[zb3 n];exact r)
 ·exact .inr ⟨o,by rw[zb3 n];exact r⟩
theorem znm {H:Hp} {y:Ln} {x:V} (h:Has K H (dLn y) x):∃ q pq hq d1 d2,x=.ref q∧SqT K H q [.str (kdL y),.ref pq,.ref hq]∧dLn y=.tup [.str (kdL y),d1,d2]∧Has K H d1 (.ref pq)∧Has K H d2 (.ref hq):=by
 cases y with
 | lrn ps hs =>
  simp only[dLn,Has,ao]at h
  obtain⟨q,ys,rfl,hq,v1,r1,rfl,rfl,v2,r2,rfl,⟨a,as,rfl,ha,hA⟩,v3,r3,rfl,⟨b,bs,rfl,hb,hB⟩,rfl⟩:=h
  exact⟨q,a,b,_,_,rfl,hq,rfl,Has.tup' ha hA,Has.tup' hb hB⟩
 | eql ps ls =>
  simp only[dLn,Has,ao]at h
  obtain⟨q,ys,rfl,hq,v1,r1,rfl,rfl,v2,r2,rfl,⟨a,as,rfl,ha,hA⟩,v3,r3,rfl,⟨b,bs,rfl,hb,hB⟩,rfl⟩:=h
  exact⟨q,a,b,_,_,rfl,hq,rfl,Has.tup' ha hA,Has.tup' hb hB⟩
theorem zmG {i:Int} (h0:0≤i) (h1:i < 7):∃ z:Str,atI [V.str "learn",.str "learnts",.str "l",.str "equals",.str "e",.str "Equal",.str ""] i=some (.str z):=by
 obtain⟨x,x1,x2⟩:=zbe (xs:=[V.str "learn",.str "learnts",.str "l",.str "equals",.str "e",.str "Equal",.str ""]) h0 h1
 have m:=mOq x1
 simp only[List.mem_cons,List.not_mem_nil,or_false]at m
 rcases m with rfl | rfl | rfl | rfl | rfl | rfl | rfl <;> exact⟨_,x2⟩
theorem zni {xs:List V} (h:1≤xs.length):∃ x∈xs,atI xs (-1)=some x:=by
 have hl:((-1:Int)+(xs.length:Int)).toNat < xs.length:=by lia
 refine⟨xs[((-1:Int)+(xs.length:Int)).toNat],List.getElem_mem hl,?_⟩
 unfold atI ixN
 rw[if_neg (by decide),if_pos (by lia)]
 exact gG hl
inductive zfU (K:W.Frag) (C:Addr):Sp|m{vs H Q E9} (p tl al rl a:Addr) (T:List Tm) (As:List At) (Rs:List (List Int)) (c:Int) (us:List V):vs=[.ref p,.ref a,.int c]→PrD K C H p tl al rl T As Rs→1≤T.length→1≤As.length→As.length≤20→mn H [al,rl] a=some (.lst us)→(∀ u∈us,GLn K 0 T.length As.length (mn H [al,rl]) u)→us.length≤220→(∀(H':Hp) (x:V),ah H H'→GdL (GdW K) 0 450 (mn H' [al,rl]) x→Q x H')→zfU K C vs H Q E9
inductive IPs (K:W.Frag) (C:Addr) (b:Bool):List Addr→St→Hp→Prop|m{av σ H} (p tl al rl a:Addr) (T:List Tm) (As:List At) (Rs:List (List Int)) (c at_ rs:Int) (v5 v6 v7:Option V):σ=[some (.ref p),some (.ref a),some (.int c),some (.int at_),some (.int rs),v5,v6,v7]→PrD K C H p tl al rl T As Rs→1≤As.length→av=[al,rl]→GdL (GdW K) 0 220 (mn H av) (.ref a)→(b=true→∃ x,v5=some x∧GdW K (mn H av) x)→IPs K C b av σ H
abbrev NPs:List Str:=["_law_problem","_law_paper","_law_cell","_law_at","_law_rest","_law_line","_law_word","_law_again"]
theorem zau:aO NPs ["_law_problem","_law_paper","_law_cell"] (au za9):=fsc
theorem ok_psp (F:Fun K "_law_paper_spoilt" "_law_paper_spoilt" za9 f fd) (T:Txt K mg aK C CN CT CP CM) (BS:FB P w K mg base CX0 3 "_law_line_spoilt" fS dS ["_law_problem","_law_line","_law_many","_law_cell"] (ziv K C)) (BO:FB P w K mg base CX0 1 "_law_odd_line" fO dO ["_law_problem","_law_cell"] (ziu K C)) (BN:FB P w K mg base CX0 1 "_law_nearly" fN dN ["_law_problem","_law_cell"] (zf7 K C)) (BT:FB P w K mg base CX0 1 "_law_truths" fT dT' ["_law_line"] (zf5 K)) (BP:FB P w K mg base CX0 1 "_law_put_in" fP dP' ["_law_problem","_law_paper","_law_at","_law_again","_law_times"] (zfe K C)):aQ P w K mg base CX0 4 f fd ["_law_problem","_law_paper","_law_cell"] (zfU K C):=by
 refine F.ok zau (λvs H Q E h=>?_) (λcdv A outer s H vs Q E hr h=>?_)
 ·obtain⟨p,tl,al,rl,a,T',As,Rs,c,us,rfl,_⟩:=h
  rfl
 obtain⟨p,tl,al,rl,a,T',As,Rs,c,us,rfl,S,t1,a1,a20,ha',lv,ll,Q0⟩:=h
 have hr1:ba 1 _:=hr.mono (by decide)
 have hu:=zfs hr
 have Pp:∀ {b:Bool} {pos:Pos},PEw (aX CX0 P w K mg base NPs "_law_paper_spoilt" (au za9) f cdv A outer s H E).nox (.Name "_law_paper" pos) (tW (IPs K C b) (GdL (GdW K) 0 220)):=λ{b pos}=>zc8 (pv 1) (λav σ H' h'=>by
  obtain⟨_,_,_,_,a,_,_,_,_,_,_,_,_,_,rfl,_,_,_,g,_⟩:=h'
  exact⟨_,rfl,g⟩) (zdN zay)
 have Pa:∀ {b:Bool} {pos:Pos},PEw (aX CX0 P w K mg base NPs "_law_paper_spoilt" (au za9) f cdv A outer s H E).nox (.Name "_law_at" pos) (tW (IPs K C b) GI):=λ{b pos}=>zc8 (pv 3) (λav σ H' h'=>by
  obtain⟨_,_,_,_,_,_,_,_,_,k,_,_,_,_,rfl,_⟩:=h'
  exact⟨_,rfl,k,rfl⟩) zfw
 have Pl:∀ {pos:Pos},PEw (aX CX0 P w K mg base NPs "_law_paper_spoilt" (au za9) f cdv A outer s H E).nox (.Name "_law_line" pos) (tW (IPs K C true) (GdW K)):=λ{pos}=>zc8 (pv 5) (λav σ H' h'=>by
  obtain⟨_,_,_,_,_,_,_,_,_,_,_,_,_,_,rfl,_,_,_,_,g⟩:=h'
  obtain⟨x,rfl,g'⟩:=g rfl
  exact⟨x,rfl,g'⟩) zay
 refine⟨_,(ae (aE (i:=3) zau.nd rfl (Or.inl rfl) (ar zab (ar zak (pv 2) ad) (ar zah (ap aj rfl T.len bL (aa (pv 1) ac)) ad)))
  (ae (aE (i:=4) zau.nd rfl (Or.inl rfl) (ar zak (ar zak (pv 2) ad) (ar zah (ap aj rfl T.len bL (aa (pv 1) ac)) ad)))
  (ae (aL (PW.pt (zaR (aw zag (ar zab (pv 2) ad) ad) (zaV (aw zbR (pv 3) (ap aj rfl T.len bL (aa (pv 1) ac))))))
   (ae (aE (i:=5) zau.nd rfl (Or.inl rfl) (aB BS.ok hr rfl BS.m BS.kp BS.b .nil aI (aa (pv 0) (aa (aq zaa (pv 1) (pv 3)) (aa (ar zah (ap aj rfl T.len bL (aa (aR (pv 0) rfl) ac)) (pv 3)) (aa (pv 4) ac))))))
    (ag (ay (zb4 zay (zb4 zay (zen zay Pp zcK (zcJ Pa)) (zeu zay (zao zay Pl zcX) (by decide)) (by decide)) (zen zay Pp (zcJ (zf0 Pa zdz)) zcK) (by decide)).pe)))
   aA)
  (ae (aL (aw zag (ar zab (pv 2) ad) ad)
   (ag (ay (zb4 zay (zen zay (Pp (b:=false)) zcK (zcJ Pa)) (zen zay Pp (zcJ (zf0 Pa zdz)) zcK) (by decide)).pe))
   aA)
  (ae (aL (aw zag (ar zab (pv 2) ad) ad)
   (ag (ay (zen zay (Pp (b:=false)) zcK (zcJ Pa)).pe))
   aA)
  (ae (aL (aw zag (ar zab (pv 2) ad) ad)
   (ag (ay (zb4 zay (zb4 zay (zen zay (Pp (b:=false)) zcK (zcJ Pa)) (zeu zay (zao zay (zbF (aB (x:="_law_odd_line") BO.ok hr1 rfl BO.m BO.kp BO.b .nil aI (aa (pv 0) (aa (pv 4) ac))) λσ H Q h=>by
     obtain⟨av,⟨H0,⟨p,tl,al,rl,a,T',As,Rs,c,at_,rs,v5,v6,v7,rfl,S,a1,rfl,_⟩,s0,_⟩,q⟩:=h
     exact⟨_,rfl,_,rfl,p,tl,al,rl,T',As,Rs,rs,rfl,S.same s0,λH' x s' g'=>q H' x s' g'.tw⟩) zcX) (by decide)) (by decide)) (zen zay Pp (zcJ (zf0 Pa zdz)) zcK) (by decide)).pe))
   aA)
  (ae (aL (aw zh6 (ar zab (pv 2) ad) (zal (aa ad (aa ad ac))) rfl)
   (ag (ay (zb4 zay (zb4 zay (zen zay (Pp (b:=false)) zcK (zcJ Pa)) (zeu zay (zao zay (zbF (aB (x:="_law_nearly") BN.ok hr1 rfl BN.m BN.kp BN.b .nil aI (aa (pv 0) (aa (pv 4) ac))) λσ H Q h=>by
     obtain⟨av,⟨H0,⟨p,tl,al,rl,a,T',As,Rs,c,at_,rs,v5,v6,v7,rfl,S,a1,rfl,_⟩,s0,_⟩,q⟩:=h
     exact⟨_,rfl,_,rfl,p,tl,al,rl,T',As,Rs,rs,rfl,S.same s0,a1,λH' x s' g'=>q H' x s' g'.tw⟩) zcX) (by decide)) (by decide)) (zen zay Pp (zcJ Pa) zcK) (by decide)).pe))
   aA)
  (ae (aL (PW.pt (zaR (aw zag (ar zab (pv 2) ad) ad) (zaV (aw zbR (pv 3) (ap aj rfl T.len bL (aa (pv 1) ac))))))
   (ae (aE (i:=5) zau.nd rfl (Or.inl rfl) (aB BT.ok hr1 rfl BT.m BT.kp BT.b .nil aI (aa (aq zaa (pv 1) (pv 3)) ac)))
    (ae (aL (aw zag (ar zab (pv 4) ad) ad)
     (ae (aE (i:=6) zau.nd rfl (Or.inl rfl) (aq zaa (zaq (aa zac (aa zac (aa zac (aa zac (aa zac (aa zac (aa zac ac)))))))) (ar zab (ar zak (pv 4) ad) ad)))
      (ag (aE (i:=5) zau.nd rfl (Or.inl rfl) (zal (aa (pv 6) (aa (aq az (aq zaa (pv 1) (pv 3)) ad) (aa (aq az (aq zaa (pv 1) (pv 3)) ad) ac)))))))
     aA)
    (ag (ay (zb4 zay (zb4 zay (zen zay Pp zcK (zcJ Pa)) (zeu zay (zao zay Pl zcX) (by decide)) (by decide)) (zen zay Pp (zcJ (zf0 Pa zdz)) zcK) (by decide)).pe))))
   aA)
  (ae (aL (PW.pt (zaR (aw zcC (ar zab (pv 2) ad) ad) (zaV (zl8 zbR zbR ad (pv 3) (ap aj rfl T.len bL (aa (pv 1) ac))))))
   (ae (aE (i:=7) zau.nd rfl (Or.inl rfl) (aq zaa (pv 1) (ar zab (ar zak (pv 4) ad) (pv 3))))
    (ae (aL (PW.pt (zaR (aw zag (ar zab (pv 4) ad) ad) (zaV (aw (zdj hu) (aq zaa (aR (pv 0) rfl) (zbk zaQ ad)) (zal (aa zac (aa ad (aa ad ac)))) rfl))))
     (ag (aE (i:=7) zau.nd rfl (Or.inl rfl) (zal (aa zac (aa (zal (aa (ap aj rfl T.len bL (aa (aR (pv 0) rfl) ac)) ac)) (aa (zal ac) ac))))))
     aA)
    (ag (ay (aB BP.ok hr1 rfl BP.m BP.kp BP.b .nil aI (aa (pv 0) (aa (pv 1) (aa (pv 3) (aa (pv 7) (aa ad ac))))))))))
   aA)
  (ag (ay (pv 1)))))))))))),?_⟩
 try dsimp only [Cx.nox,Cx.wish,aX]
 have ha:=zbo _ _ ha'
 obtain⟨⟨dx,ho⟩,_,⟨ys,hy,hY⟩,⟨zs,hz,hZ⟩,_⟩:=id S.pr
 have avl:∀ {H':Hp},ah H H'→∀ b∈[al,rl],∃ xs,H' b=some (.lst xs):=λs' b hb=>by
  simp only[List.mem_cons,List.not_mem_nil,or_false]at hb
  rcases hb with rfl | rfl
  ·exact⟨_,s' _ _ hy⟩
  ·exact⟨_,s' _ _ hz⟩
 have avn:∀ {H':Hp},ah H H'→∀ b∈[al,rl],H' b≠none:=λs' b hb z=>by
  obtain⟨xs,e⟩:=avl s' b hb
  rw[e]at z
  cases z
 have pg:∀ {H':Hp},ah H H'→GdL (GdW K) 0 220 (mn H' [al,rl]) (.ref a):=λs'=>⟨a,us,rfl,zar s' _ _ ha',⟨Nat.zero_le _,ll⟩,λu hu=>zay _ _ _ (zar s') ((lv u hu).tw (by decide))⟩
 refine⟨_,rfl,_,_,rfl,rfl,⟨by decide,by decide⟩,_,rfl,a,_,rfl,.inl (SqL.of ha),_,_,rfl,rfl,_,_,rfl,rfl,(by show(0:Int) < ((us.length:Nat):Int)+1;lia),?_⟩
 have b4:=zby (c / 9) (show(0:Int) < ((us.length:Nat):Int)+1 by lia)
 show zcl 3 (V.int (c / 9 % (((us.length:Nat):Int)+1))) _ _ _
 generalize c / 9 % (((us.length:Nat):Int)+1)=at_ at b4 ⊢
 refine⟨_,rfl,_,_,rfl,rfl,⟨by decide,by decide⟩,_,rfl,a,_,rfl,.inl (SqL.of ha),_,_,rfl,rfl,_,_,rfl,rfl,⟨by show(0:Int) < ((us.length:Nat):Int)+1;lia,by show((us.length:Nat):Int)+1 < 1073741824;lia⟩,?_⟩
 show zcl 4 (V.int (c / 9 / (((us.length:Nat):Int)+1))) _ _ _
 generalize c / 9 / (((us.length:Nat):Int)+1)=rs
 have B:∀ {b:Bool} {v5 v6 v7:Option V} {H':Hp},ah H H'→(b=true→∃ x,v5=some x∧GdW K (mn H' [al,rl]) x)→Bse [al,rl] (IPs K C b) [some (.ref p),some (.ref a),some (.int c),some (.int at_),some (.int rs),v5,v6,v7] H':=λs' h5=>⟨_,⟨p,tl,al,rl,a,T',As,Rs,c,at_,rs,_,_,_,rfl,S.same s',a1,rfl,pg s',h5⟩,ah.refl _,avn s'⟩
 have fin:∀ {b:Bool} {v5 v6 v7:Option V} {H':Hp} {m n:Nat},ah H H'→(b=true→∃ x,v5=some x∧GdW K (mn H' [al,rl]) x)→n≤450→tW (IPs K C b) (GdL (GdW K) m n) [some (.ref p),some (.ref a),some (.int c),some (.int at_),some (.int rs),v5,v6,v7] H' Q:=λs' h5 hn=>⟨_,B s' h5,λH1 x s1 g1=>Q0 H1 x (s'.trans s1) (g1.up hn)⟩
 have lineAt:at_ < ((us.length:Nat):Int)→∃ x,x∈us∧atI us at_=some x:=λh=>by
  obtain⟨x,x1,x2⟩:=zbe b4.1 h
  exact⟨x,mOq x1,x2⟩
 dsimp only [zcl]
 refine zdE (λn hn=>⟨_,rfl,_,_,rfl,rfl,(by show(0:Int) < 9;decide),rfl,_,rfl,aJ (λ_=>⟨_,rfl,_,rfl,a,_,rfl,.inl (SqL.of ha),_,_,rfl,rfl,_,rfl,aJ (λc2=>?_) (λ_=>hn)⟩) (λ_=>aV hn)⟩) ?_
 ·obtain⟨x,xm,x2⟩:=lineAt (oDq c2)
  obtain⟨l,hx,lw⟩:=lv x xm
  refine⟨_,rfl,_,rfl,_,rfl,a,_,_,_,rfl,rfl,SqL.of ha,x2,_,rfl,p,C,dx,_,_,rfl,ho,T.cl,T.nR,zbz _ _ _,rl,zs,rfl,.inl (SqL.of hz),_,rfl,_,_,rfl,rfl,_,rfl,p,tl,al,rl,T',As,Rs,x,l,_,rs,0,rfl,S,t1,a1,a20,(by show(0:Int)≤((zs.length:Nat):Int)+at_;lia),hsm zbo _ _ hx,lw,by decide,λH1 o1 y1 s1 hy1 yv1=>?_⟩
  exact fin s1 (λ_=>⟨_,rfl,GLn.tw (nRq 1) ⟨y1,hy1.keep (kt_mn (avl s1)) (zgz _),yv1⟩⟩) (by decide)
 refine zdE (λn hn=>⟨_,rfl,_,_,rfl,rfl,(by show(0:Int) < 9;decide),rfl,_,rfl,aJ (λ_=>fin (ah.refl _) (λz=>nomatch z) (by decide)) (λ_=>hn)⟩) ?_
 refine zdE (λn hn=>⟨_,rfl,_,_,rfl,rfl,(by show(0:Int) < 9;decide),rfl,_,rfl,aJ (λ_=>fin (ah.refl _) (λz=>nomatch z) (by decide)) (λ_=>hn)⟩) ?_
 refine zdE (λn hn=>⟨_,rfl,_,_,rfl,rfl,(by show(0:Int) < 9;decide),rfl,_,rfl,aJ (λ_=>fin (ah.refl _) (λz=>nomatch z) (by decide)) (λ_=>hn)⟩) ?_
 refine⟨_,rfl,_,_,rfl,rfl,(by show(0:Int) < 9;decide),lS2,λu hu'=>?_⟩
 have sU:=ai hu' (.tup [.int 4,.int 5])
 have nU:=af (H:=H) (a:=u) (o:=.tup [.int 4,.int 5])
 show(λHU:Hp=>_) (upd H u (.tup [.int 4,.int 5]))
 generalize upd H u (.tup [.int 4,.int 5])=HU at sU nU
 have haU:=sU _ _ ha
 refine⟨u,_,rfl,.inr (SqT.of nU),rfl,rfl,_,rfl,aJ (λ_=>fin sU (λz=>nomatch z) (by decide)) (λ_=>?_)⟩
 dsimp only [tNext]
 refine zdE (λn hn=>⟨_,rfl,_,_,rfl,rfl,(by show(0:Int) < 9;decide),rfl,_,rfl,aJ (λ_=>⟨_,rfl,_,rfl,a,_,rfl,.inl (SqL.of haU),_,_,rfl,rfl,_,rfl,aJ (λc2=>?_) (λ_=>hn)⟩) (λ_=>aV hn)⟩) ?_
 ·obtain⟨x,xm,x2⟩:=lineAt (oDq c2)
  refine⟨_,rfl,_,rfl,a,_,_,_,rfl,rfl,SqL.of haU,x2,x,[al,rl],T'.length,As.length,rfl,zdy _ _ _ (zar sU) (lv x xm),avn sU,λH1 x1 s1' g1=>?_⟩
  have s1:=sU.trans s1'
  refine⟨_,rfl,_,_,rfl,rfl,(by show(0:Int) < 2;decide),rfl,_,rfl,aJ (λ_=>?_) (λ_=>fin s1 (λ_=>⟨_,rfl,g1⟩) (by decide))⟩
  have m7:=zby (rs / 2) (show(0:Int) < 7 by decide)
  obtain⟨z,z1⟩:=zmG m7.1 m7.2
  obtain⟨l,hx,lw⟩:=lv x xm
  obtain⟨lq,pq,hq,d1,d2,rfl,h1,hd,h2,h3⟩:=znm hx
  refine⟨(by show 7≤sizeLine;decide),λwl hwl=>?_⟩
  have s2:=ai hwl (.lst [V.str "learn",.str "learnts",.str "l",.str "equals",.str "e",.str "Equal",.str ""])
  have n2:=af (H:=H1) (a:=wl) (o:=.lst [V.str "learn",.str "learnts",.str "l",.str "equals",.str "e",.str "Equal",.str ""])
  have s02:=s1.trans s2
  show(λH2:Hp=>_) (upd H1 wl (.lst [V.str "learn",.str "learnts",.str "l",.str "equals",.str "e",.str "Equal",.str ""]))
  generalize upd H1 wl (.lst [V.str "learn",.str "learnts",.str "l",.str "equals",.str "e",.str "Equal",.str ""])=H2 at s2 n2 s02
  have h1':=s02.tup (zbo.tup h1)
  refine⟨_,rfl,_,_,rfl,rfl,⟨by decide,by decide⟩,_,_,rfl,rfl,(by show(0:Int) < 7;decide),wl,_,_,_,rfl,rfl,SqL.of n2,z1,?_⟩
  refine⟨_,rfl,_,rfl,_,rfl,a,_,_,_,rfl,rfl,SqL.of (s02 _ _ ha),x2,lq,_,_,_,rfl,rfl,h1',aH (j:=1) rfl,_,rfl,_,rfl,a,_,_,_,rfl,rfl,SqL.of (s02 _ _ ha),x2,lq,_,_,_,rfl,rfl,h1',aH (j:=2) rfl,lS3,λt ht=>?_⟩
  have s3:=ai ht (.tup [.str z,.ref pq,.ref hq])
  have s03:=s02.trans s3
  refine fin s03 (λ_=>⟨_,rfl,?_⟩) (by decide)
  have nt:t∉[al,rl]:=λm=>avn s02 t m ht
  have gw:=lw.wd (Nat.zero_le 1)
  rw[hd]at gw
  refine⟨.tup [.str z,d1,d2],Has.tup' (SqT.of (by rw[zb3 nt];exact af)) ?_,gw.1,gw.2⟩
  simp only[ao]
  exact⟨_,_,rfl,by simp only[Has],_,_,rfl,hsm (zar s03) _ _ h2,_,_,rfl,hsm (zar s03) _ _ h3,rfl⟩
 have last:Q (.ref a) HU:=Q0 HU _ sU ((pg sU).up (by decide))
 refine⟨_,rfl,_,_,rfl,rfl,(by show(0:Int) < 9;decide),_,_,rfl,rfl,_,rfl,aJ (λ_=>⟨_,rfl,_,_,rfl,rfl,_,rfl,aJ (λg0=>⟨_,rfl,a,_,rfl,.inl (SqL.of haU),_,_,rfl,rfl,_,rfl,aJ (λg1=>?_) (λ_=>⟨_,rfl,last⟩)⟩) (λ_=>⟨_,rfl,aV ⟨_,rfl,last⟩⟩)⟩) (λ_=>aV ⟨_,rfl,last⟩)⟩
 have g0':(0:Int) < at_:=oDq g0
 have g1':at_ < ((us.length:Nat):Int):=oDq g1
 have mm:=zby (rs / 2) g0'
 obtain⟨x,x1,x2⟩:=zbe (xs:=us) (i:=rs / 2 % at_) mm.1 (by lia)
 have fp:∀ {E':XK} (H':Hp) (x:V),ah H H'→GLn K 0 T'.length As.length (mn H' [al,rl]) x→zfe K C [.ref p,.ref a,.int at_,x,.int 1] H' Q E':=λH' x s' g=>⟨p,tl,al,rl,a,T',As,Rs,at_,1,x,us,[al,rl],0,T'.length,As.length,rfl,S.same s',s' _ _ ha,(λu hu=>zdy _ _ _ (zar s') (lv u hu)),by lia,by decide,g,by decide,by decide,avn s',λH2 l us' s2 hl q2 l2=>Q0 H2 _ (s'.trans s2) ⟨l,us',rfl,hl,⟨Nat.zero_le _,Nat.le_trans l2 (by show us.length+1≤450;lia)⟩,λu hu=>(q2 u hu).tw (by decide)⟩⟩
 have gx:=lv x (mOq x1)
 refine⟨_,rfl,_,rfl,_,_,rfl,rfl,⟨by decide,by decide⟩,_,rfl,_,_,rfl,rfl,g0',a,_,_,_,rfl,rfl,SqL.of haU,x2,?_⟩
 have hyU:=sU _ _ hy
 have hoU:=sU _ _ ho
 refine⟨_,rfl,_,_,rfl,rfl,(by show(0:Int) < 2;decide),rfl,_,rfl,aJ (λ_=>?_) (λ_=>aV ⟨_,rfl,_,rfl,_,rfl,_,rfl,fp HU x sU (zdy _ _ _ (zar sU) gx)⟩)⟩
 have yl:ys.length=As.length:=by rw[←hY.length,lM]
 obtain⟨v,vm,v1⟩:=zni (xs:=ys) (by lia)
 obtain⟨i,hi⟩:=List.getElem?_of_mem vm
 obtain⟨d,e1,e2⟩:=hY.get hi
 rw[List.getElem?_map]at e1
 obtain⟨at',_,rfl⟩:=Option.map_eq_some_iff.mp e1
 refine⟨_,rfl,p,C,dx,_,_,rfl,hoU,T.cl,T.nA,zad _ _ _,_,rfl,al,_,_,_,rfl,rfl,SqL.of hyU,v1,lS3,λt ht=>?_⟩
 have s3:=ai ht (.tup [.str "same",.int 0,.int 0])
 have n3:=af (H:=HU) (a:=t) (o:=.tup [.str "same",.int 0,.int 0])
 have s03:=sU.trans s3
 show(λH3:Hp=>_) (upd HU t (.tup [.str "same",.int 0,.int 0]))
 generalize upd HU t (.tup [.str "same",.int 0,.int 0])=H3 at s3 n3 s03
 refine⟨_,.tup [.str "same",.int 0,.int 0],hsm s03 _ _ e2,Has.tup' (SqT.of n3) (by simp only[ao,Has];exact⟨_,_,rfl,rfl,_,_,rfl,rfl,_,_,rfl,rfl,rfl⟩),(by cases at' <;> (show 1≤60;decide)),_,rfl,aJ (λ_=>?_) (λ_=>⟨_,rfl,_,rfl,_,rfl,_,rfl,fp H3 x s03 (zdy _ _ _ (zar s03) gx)⟩)⟩
 refine⟨_,rfl,p,C,dx,_,_,rfl,s03 _ _ ho,T.cl,T.nA,zad _ _ _,al,ys,rfl,.inl (SqL.of (s03 _ _ hy)),lS1,λq1 hq1=>⟨lS0,λq2 hq2=>⟨lS3,λq3 hq3=>?_⟩⟩⟩
 have s4:=ai hq1 (.tup [.int ((ys.length:Nat):Int)])
 have s5:=ai hq2 (.tup [])
 have s6:=ai hq3 (.tup [.str "equal",.ref q1,.ref q2])
 have s34:=s03.trans s4
 have s35:=s34.trans s5
 have s36:=s35.trans s6
 refine⟨_,rfl,_,rfl,_,rfl,_,rfl,fp _ _ s36 ⟨.eql [((ys.length:Nat):Int)] [],zgE (xs:=[]) (SqT.of (by rw[zb3 λz=>avn s35 q3 z hq3];exact af)) (SqT.of (by rw[zb3 λz=>avn s03 q1 z hq1];exact s6 _ _ (s5 _ _ af))) (SqT.of (by rw[zb3 λz=>avn s34 q2 z hq2];exact s6 _ _ af)) .nil,(by show 1≤20;decide),λk hk=>?_,(by show 1≤8;decide),λl hl=>nomatch hl⟩⟩
 rw[mSq hk]
 unfold PIn
 lia
theorem zjX {T:List Tm} {As:List At}:∀ {ds:List Dt} {Rs:List (List Int)} {i j:Nat},zcd T As Rs i ds=some j→j < i+ds.length
 | d :: ds,Rs,i,j,h=>by
  rw[zcd]at h
  rw[List.length_cons]
  split at h
  ·have:=zjX h
   lia
  ·cases h
   lia
theorem zlH {T:List Tm} {As:List At} {ds:List Dt} {Rs:List (List Int)} {j:Nat} (h:zbX T As Rs ds=some j):j≤ds.length:=by
 unfold zbX at h
 cases e:zcd T As Rs 0 ds with
 | some i =>
  rw[e]at h
  cases h
  have:=zjX e
  lia
 | none =>
  rw[e]at h
  dsimp only at h
  split at h
  ·cases h
  ·cases h
   exact nRq _
inductive zcO (K:W.Frag) (C:Addr):Sp|m{vs H Q E9} (p tl al rl:Addr) (T:List Tm) (As:List At) (Rs:List (List Int)) (x:V):vs=[.ref p,x]→PrD K C H p tl al rl T As Rs→(∀ r∈Rs,RN r∧r.length≤300)→Rs.length≤500→GdL (GdW K) 0 450 H x→(∀ H',ah H H'→Q (.bl true) H')→zcO K C vs H Q E9
theorem zcp:aO ["_law_problem","_law_paper","_law_kept","_law_handed","_law_found","_law_due"] ["_law_problem","_law_paper"] (au zeL):=fsc
theorem zmm (F:Fun K "_law_asked" "_law_asked" zeL f fd) (T:Txt K mg aK C CN CT CP CM) (TP:TxP K mg) (BF:FB P w K mg base CX0 7 "fault" fF dF ["problem","paper"] (zcM K C)) (BL:FB P w K mg base CX0 4 "_law_fault" fL dL' ["_law_problem","_law_paper"] (zgb K C)) (BB:FB P w K mg base CX0 8 "lets_by" fB dB ["problem","paper"] (zdr K C)) (BN:FB P w K mg base CX0 1 "_law_number" fN dN ["_law_thing","_law_first","_law_behind"] (zfi K)):aQ P w K mg base CX0 9 f fd ["_law_problem","_law_paper"] (zcO K C):=by
 refine F.ok zcp (λvs H Q E h=>?_) (λcdv A outer s H vs Q E hr h=>?_)
 ·obtain⟨p,tl,al,rl,T',As,Rs,x,rfl,_⟩:=h
  rfl
 obtain⟨p,tl,al,rl,T',As,Rs,x,rfl,S,rn,r500,⟨a,us,rfl,ha,⟨_,l450⟩,gu⟩,Q0⟩:=h
 have hu:=zfs hr
 have hr1:ba 1 _:=hr.mono (by decide)
 have hr4:ba 4 _:=hr.mono (by decide)
 have hr7:ba 7 _:=hr.mono (by decide)
 refine⟨_,(ae (aE (i:=2) zcp.nd rfl (Or.inl rfl) (zal (aa (zai zbB rfl TP.list PyProof.Rows.Boot.list (aa (aR (pv 0) rfl) ac)) (aa (zai zbB rfl TP.list PyProof.Rows.Boot.list (aa (aR (pv 0) rfl) ac)) (aa (zai zbB rfl TP.list PyProof.Rows.Boot.list (aa (aR (pv 0) rfl) ac)) ac)))))
  (ae (aE (i:=3) zcp.nd rfl (Or.inl rfl) (zai zbB rfl TP.list PyProof.Rows.Boot.list (aa (pv 1) ac)))
  (ae (aE (i:=4) zcp.nd rfl (Or.inl rfl) (aB BF.ok hr7 rfl BF.m BF.kp BF.b .nil aI (aa (pv 0) (aa (pv 3) ac))))
  (ae (aE (i:=5) zcp.nd rfl (Or.inl rfl) (aB BL.ok hr4 rfl BL.m BL.kp BL.b .nil aI (aa (pv 0) (aa (pv 1) ac))))
  (ae (aL (PW.pt (zbc (aw (zkU hu) (pv 3) (pv 1) rfl) (za4 (aw (zkU hu) (pv 2) (zal (aa (aR (pv 0) rfl) (aa (aR (pv 0) rfl) (aa (aR (pv 0) rfl) ac)))) rfl))))
   (ag (ay zav))
   aA)
  (ae (aL (aw zfY (pv 5) zbG)
   (ag (ay (zba (zaz zfY (pv 4) zbG) (zbs (zaz ziK (aB BB.ok hr rfl BB.m BB.kp BB.b .nil aI (aa (pv 0) (aa (pv 1) ac))) zav)))))
   aA)
  (ag (ay (zba (aB BN.ok hr1 rfl BN.m BN.kp BN.b .nil aI (aa (pv 4) (aa ad (aa (ar zah (ap aj rfl T.len bL (aa (pv 1) ac)) ad) ac)))) (zba (zaz zag (pv 4) (pv 5)) (zbs (zaz ziK (aB BB.ok hr rfl BB.m BB.kp BB.b .nil aI (aa (pv 0) (aa (pv 1) ac))) zav)))))))))))),?_⟩
 try dsimp only [Cx.nox,Cx.wish,aX]
 obtain⟨⟨dx,ho⟩,⟨ts,ht,hT⟩,⟨ys,hy,hY⟩,⟨zs,hz,hZ⟩,_⟩:=id S.pr
 obtain⟨ds,hD,_,dd,db⟩:=gds gu
 have dl:=hD.length
 have r300:∀ x∈Rs,x.length≤300:=λx hx=>(rn x hx).2
 have bd:∀ ds',Dt.lst ds=.lst ds'→ds'.length≤450∧∀ d∈ds',wd d≤300:=λds' e=>by
  cases e
  exact⟨by lia,λd hd=>(db d hd).1⟩
 refine⟨_,rfl,p,C,dx,_,_,rfl,ho,T.cl,T.nT,zaK _ _ _,tl,_,rfl,.inl (SqL.of ht),λl1 h1=>?_⟩
 have s1:=ai h1 (.lst ts)
 have n1:=af (H:=H) (a:=l1) (o:=.lst ts)
 show(λH1:Hp=>_) (upd H l1 (.lst ts))
 generalize upd H l1 (.lst ts)=H1 at s1 n1
 refine⟨_,rfl,p,C,dx,_,_,rfl,s1 _ _ ho,T.cl,T.nA,zad _ _ _,al,_,rfl,.inl (SqL.of (s1 _ _ hy)),λl2 h2=>?_⟩
 have s2:=ai h2 (.lst ys)
 have n2:=af (H:=H1) (a:=l2) (o:=.lst ys)
 have s02:=s1.trans s2
 show(λH2:Hp=>_) (upd H1 l2 (.lst ys))
 generalize upd H1 l2 (.lst ys)=H2 at s2 n2 s02
 refine⟨_,rfl,p,C,dx,_,_,rfl,s02 _ _ ho,T.cl,T.nR,zbz _ _ _,rl,_,rfl,.inl (SqL.of (s02 _ _ hz)),λl3 h3=>⟨lS3,λkp h4=>?_⟩⟩
 have s3:=ai h3 (.lst zs)
 have n3:=af (H:=H2) (a:=l3) (o:=.lst zs)
 have s4:=ai h4 (.tup [.ref l1,.ref l2,.ref l3])
 have n4:=af (H:=upd H2 l3 (.lst zs)) (a:=kp) (o:=.tup [.ref l1,.ref l2,.ref l3])
 have m1:=s4 _ _ (s3 _ _ (s2 _ _ n1))
 have m2:=s4 _ _ (s3 _ _ n2)
 have m3:=s4 _ _ n3
 have s04:=(s02.trans s3).trans s4
 show(λH4:Hp=>_) (upd (upd H2 l3 (.lst zs)) kp (.tup [.ref l1,.ref l2,.ref l3]))
 generalize upd (upd H2 l3 (.lst zs)) kp (.tup [.ref l1,.ref l2,.ref l3])=H4 at n4 m1 m2 m3 s04
 refine⟨_,rfl,a,_,rfl,.inl (SqL.of (s04 _ _ ha)),λhd h5=>?_⟩
 have s5:=ai h5 (.lst us)
 have n5:=af (H:=H4) (a:=hd) (o:=.lst us)
 have s05:=s04.trans s5
 show(λH5:Hp=>_) (upd H4 hd (.lst us))
 generalize upd H4 hd (.lst us)=H5 at s5 n5 s05
 have lst:∀ {H':Hp} {q:Addr},ah H H'→H' q=some (.lst us)→Has K H' (.lst ds) (.ref q):=λs' e=>by
  simp only[Has]
  exact⟨_,_,rfl,SqL.of e,zc7 s' _ _ hD⟩
 refine⟨_,rfl,_,rfl,p,tl,al,rl,T',As,Rs,_,.lst ds,rfl,S.same s05,lst s05 n5,r300,r500,bd,λH6 s6=>?_⟩
 have s06:=s05.trans s6
 refine⟨_,rfl,_,rfl,p,tl,al,rl,a,T',As,Rs,us,ds,rfl,S.same s06,SqL.of (s06 _ _ ha),zc7 s06 _ _ hD,r300,r500,by lia,db,λH7 s7=>?_⟩
 have s07:=s06.trans s7
 have s57:=s6.trans s7
 rw[show zfh T' As Rs (.lst ds)=vO (zbX T' As Rs ds) by rw[zfh,zjd S.dm (λr hr=>(rn r hr).1)]]
 refine⟨_,rfl,_,rfl,.lst ds,.lst ds,lst s07 (s57 _ _ n5),lst s07 (s07 _ _ ha),(by rw[dep];lia),_,rfl,?_⟩
 rw[zbD]
 refine aV ⟨_,rfl,_,rfl,p,C,dx,_,_,rfl,s07 _ _ ho,T.cl,T.nT,zaK _ _ _,_,rfl,p,C,dx,_,_,rfl,s07 _ _ ho,T.cl,T.nA,zad _ _ _,_,rfl,p,C,dx,_,_,rfl,s07 _ _ ho,T.cl,T.nR,zbz _ _ _,lS3,λk2 h8=>?_⟩
 have s8:=ai h8 (.tup [.ref tl,.ref al,.ref rl])
 have n8:=af (H:=H7) (a:=k2) (o:=.tup [.ref tl,.ref al,.ref rl])
 have s08:=s07.trans s8
 have s48:=s5.trans (s57.trans s8)
 show(λH8:Hp=>_) (upd H7 k2 (.tup [.ref tl,.ref al,.ref rl]))
 generalize upd H7 k2 (.tup [.ref tl,.ref al,.ref rl])=H8 at s8 n8 s08 s48
 have three:∀ {q b1 b2 b3:Addr},H8 q=some (.tup [.ref b1,.ref b2,.ref b3])→H8 b1=some (.lst ts)→H8 b2=some (.lst ys)→H8 b3=some (.lst zs)→Has K H8 (.tup [.lst (T'.map dT),.lst (As.map dA),.lst (Rs.map dR)]) (.ref q):=λe e1 e2 e3=>by
  refine Has.tup' (SqT.of e) ?_
  simp only[ao,Has]
  exact⟨_,_,rfl,⟨_,_,rfl,SqL.of e1,zc7 s08 _ _ hT⟩,_,_,rfl,⟨_,_,rfl,SqL.of e2,zc7 s08 _ _ hY⟩,_,_,rfl,⟨_,_,rfl,SqL.of e3,zc7 s08 _ _ hZ⟩,rfl⟩
 refine⟨_,_,three (s48 _ _ n4) (s48 _ _ m1) (s48 _ _ m2) (s48 _ _ m3),three n8 (s08 _ _ ht) (s08 _ _ hy) (s08 _ _ hz),?_,_,rfl,?_⟩
 ·have e1:=zdu (code:=dT) (n:=2) (λt=>by simp only[dT,dep,zaA,zbA];decide) T'
  have e2:=zdu (code:=dA) (n:=1) (λt=>by cases t <;> (show 1≤1;decide)) As
  have e3:=zdu (code:=dR) (n:=1) (λt=>by simp only[dR,dep,zbA];decide) Rs
  simp only[dep,zaA]
  lia
 rw[zbD]
 refine aV ?_
 have zdl:∀ {E':XK} (Q':VK),(∀ H',ah H H'→Q' (.bl (decide (vO (zbX T' As Rs ds)=.non))) H')→zdr K C [.ref p,.ref a] H8 Q' E':=λQ' q=>⟨p,tl,al,rl,T',As,Rs,_,.lst ds,rfl,S.same s08,lst s08 (s08 _ _ ha),r300,r500,bd,λH' s'=>by
  rw[zfh,zjd S.dm (λr hr=>(rn r hr).1)]
  exact q H' (s08.trans s')⟩
 cases e:zbX T' As Rs ds with
 | none =>
  rw[e]at zdl
  exact⟨_,rfl,rfl,_,rfl,aS ⟨_,rfl,rfl,_,rfl,aS ⟨_,rfl,_,rfl,zdl _ λH' s'=>⟨_,_,rfl,rfl,Q0 H' s'⟩⟩⟩⟩
 | some i =>
  rw[e]at zdl
  have il:=zlH e
  refine⟨_,rfl,rfl,_,rfl,aV ⟨_,rfl,_,rfl,a,_,rfl,.inl (SqL.of (s08 _ _ ha)),_,_,rfl,rfl,_,.int ((i:Nat):Int),0,_,rfl,(by simp only[Has];rfl),_,rfl,?_⟩⟩
  rw[zeA ⟨by lia,by lia⟩]
  refine aS ⟨_,rfl,_,rfl,rfl,_,rfl,?_⟩
  rw[dTq rfl]
  exact aS ⟨_,rfl,_,rfl,zdl _ λH' s'=>⟨_,_,rfl,rfl,Q0 H' s'⟩⟩
theorem zkv {X:Cx}:OpR X (compareOp .IsNot) (λx y H Q=>∃ i b,x=.int i∧y=.bl b∧Q (.bl true) H):=by
 intro pins s σ H x y v u Q I rx ry h
 obtain⟨i,b,rfl,rfl,q⟩:=h
 obtain⟨t,rfl⟩:=rx
 cases ry
 exact wpAny_pure (zan I q rfl)
theorem mn_fr {H H':Hp} {al rl:Addr} (h:Fr2 H H' al rl):ah (mn H [al,rl]) (mn H' [al,rl]):=zhi λb o c hb=>⟨c,h b o hb (λz=>c (by rw[z];exact List.mem_cons_self)) (λz=>c (by rw[z];exact List.mem_cons_of_mem _ List.mem_cons_self))⟩
abbrev NL:List Str:=["_law_script","_law_problem","_law_paper","_law_cell","_law_odd"]
inductive zex (K:W.Frag):Sp|m{vs H Q E9} (a:Addr) (ns:List Int):vs=[.ref a]→SqL K H a (ns.map V.int)→ns.length≤63→(∀ H',Q (.bl true) H')→zex K vs H Q E9
theorem zdT:aO NL ["_law_script"] (au zci):=fsc
structure PrL (K:W.Frag) (C:Addr) (H:Hp) (p tl al rl:Addr) (T:List Tm) (As:List At) (Rs:List (List Int)) (r:Nat):Prop where
 d:PrD K C H p tl al rl T As Rs
 t2:2≤T.length
 t6:T.length≤6
 a1:1≤As.length
 a3:As.length≤3
 ri:∀ x∈Rs,RwIn As.length x
 rn:Rs.length≤r
theorem PrL.same {H H':Hp} {p tl al rl:Addr} {T:List Tm} {As:List At} {Rs:List (List Int)} {r:Nat} (h:PrL K C H p tl al rl T As Rs r) (s:ah H H'):PrL K C H' p tl al rl T As Rs r:=⟨h.d.same s,h.t2,h.t6,h.a1,h.a3,h.ri,h.rn⟩
theorem PrL.rows {H H':Hp} {p tl al rl:Addr} {T:List Tm} {As:List At} {Rs R:List (List Int)} {r q:Nat} (h:PrL K C H p tl al rl T As Rs r) (d:PrD K C H' p tl al rl T As (Rs++R)) (ri:∀ x∈R,RwIn As.length x) (rn:R.length≤q):PrL K C H' p tl al rl T As (Rs++R) (r+q):=⟨d,h.t2,h.t6,h.a1,h.a3,λx hx=>(mPq hx).elim (h.ri x) (ri x),by rw[lAq];have:=h.rn;lia⟩
theorem PrL.asked {H:Hp} {p tl al rl:Addr} {T:List Tm} {As:List At} {Rs:List (List Int)} {r:Nat} {x:V} {Q:VK} {E:XK} (h:PrL K C H p tl al rl T As Rs r) (hr:r≤40) (g:GdL (GdW K) 0 450 H x) (q:∀ H',ah H H'→Q (.bl true) H'):zcO K C [.ref p,x] H Q E :=
 ⟨p,tl,al,rl,T,As,Rs,x,rfl,h.d,(λr hr=>⟨⟨(h.ri r hr).2.2,λy hy=>((h.ri r hr).1 y hy).1⟩,Nat.le_trans (h.ri r hr).2.1 (by decide)⟩),Nat.le_trans h.rn (by lia),g,q⟩
theorem PrL.rowsadd {Hs H:Hp} {a p tl al rl:Addr} {ns:List Int} {T:List Tm} {As:List At} {Rs:List (List Int)} {r:Nat} {fs n:Int} {Q:VK} {E:XK} (h:PrL K C H p tl al rl T As Rs r) (hr:r≤40) (hS:SqL K Hs a (ns.map V.int)) (n63:ns.length≤63) (s0:ah Hs H) (na:Hs al=none) (nr:Hs rl=none) (f0:0≤fs) (f1:fs≤100) (n0:0≤n) (n1:n≤8)
  (q:∀(H':Hp) (Rs':List (List Int)),PrL K C H' p tl al rl T As Rs' (r+8)→Fr2 H H' al rl→Q .non H'):zb7 K C [.ref p,.ref a,.int fs,.int n] H Q E:=by
 have:=h.rn
 have:=h.a3
 exact⟨p,tl,al,rl,a,T,As,Rs,ns,fs,n,rfl,h.d,(λH' f'=>(f'.fresh s0 na nr).seq hS),by lia,f0,f1,n0,by lia,h.a1,by lia,by lia,λH' R' S' f' r' l'=>q H' _ (h.rows S' r' (by lia)) f'⟩
theorem PrL.pby {H:Hp} {p tl al rl:Addr} {T:List Tm} {As:List At} {Rs:List (List Int)} {r:Nat} {Q:VK} {E:XK} (h:PrL K C H p tl al rl T As Rs r) (hr:r≤40)
  (q:∀(H':Hp) (l:Addr) (us:List V),ah H H'→mn H' [al,rl] l=some (.lst us)→us.length≤19→(∀ u∈us,GLn K 0 T.length As.length (mn H' [al,rl]) u)→Q (.ref l) H'):zdS K C [.ref p] H Q E:=by
 obtain⟨_,_,⟨ys,hy,hY⟩,⟨zs,hz,hZ⟩,_⟩:=id h.d.pr
 refine⟨p,tl,al,rl,T,As,Rs,rfl,h.d,h.a3,h.t6,Nat.le_trans h.rn hr,(λx hx=>Nat.le_trans (h.ri x hx).2.1 (by decide)),λH' l us ls s' nl hl g lv ll=>q H' l us s' ?_ ?_ λu hu=>?_⟩
 ·rw[zb3]
  ·exact hl
  ·intro z
   simp only[List.mem_cons,List.not_mem_nil,or_false]at z
   rcases z with rfl | rfl
   ·rw[hy]at nl
    cases nl
   ·rw[hz]at nl
    cases nl
 ·have:=g.length
  rw[lM]at this
  lia
 ·obtain⟨i,hi⟩:=List.getElem?_of_mem hu
  obtain⟨d,e1,e2⟩:=g.get hi
  rw[List.getElem?_map]at e1
  obtain⟨y,e3,rfl⟩:=Option.map_eq_some_iff.mp e1
  refine⟨y,e2.keep (kt_mn λb hb=>?_) (zgz _),lv y (mOq e3)⟩
  simp only[List.mem_cons,List.not_mem_nil,or_false]at hb
  rcases hb with rfl | rfl
  ·exact⟨_,s' _ _ hy⟩
  ·exact⟨_,s' _ _ hz⟩
theorem law8 (BR:FB P w K mg base CX0 3 "_law_rows_added" fR dR' ["_law_problem","_law_script","_law_first","_law_many"] (zb7 K C)) (BB:FB P w K mg base CX0 7 "_law_paper_by" fB dB ["_law_problem"] (zdS K C)) (BA:FB P w K mg base CX0 9 "_law_asked" fA dA' ["_law_problem","_law_paper"] (zcO K C))
  {cdv:Value} {A:Around} {outer:List Env} {s:Shared} {H0:Hp} {E:XK} (hr:ba 9 (A.deeper (PyProof.Rows.envOfC "law" (au zci) s.heap.objs.size f cdv))) :
  ∃ t',PSs (aX CX0 P w K mg base NL "law" (au zci) f cdv A outer s H0 E).nox ((zaX zci).drop 8) t' ∧
   ∀(D:zb9) (Hs H:Hp) (x:V) (v3 v4:Option V) (a p tl al rl:Addr) (ns:List Int) (T':List Tm) (As:List At) (Rs:List (List Int)),SqL K Hs a (ns.map V.int)→ns.length≤63→ah Hs H→Hs al=none→Hs rl=none→PrL K C H p tl al rl T' As Rs 8→GdL (GdW K) 0 450 (mn H [al,rl]) x→(∀ H',D.rt (.bl true) H')→t' D [some (.ref a),some (.ref p),some x,v3,v4] H:=by
 have hr3:=hr.mono (show 3≤9 by decide)
 have hr7:=hr.mono (show 7≤9 by decide)
 refine⟨_,(ae (aL (zaS (zaI (aB BA.ok hr rfl BA.m BA.kp BA.b .nil aI (aa (pv 1) (aa (pv 2) ac)))))
   (ag (ay zav))
   aA)
  (ae (zap (aB BR.ok hr3 rfl BR.m BR.kp BR.b .nil aI (aa (pv 1) (aa (pv 0) (aa ad (aa ad ac))))))
  (ae (aL (zaS (zaI (aB BA.ok hr rfl BA.m BA.kp BA.b .nil aI (aa (pv 1) (aa (pv 2) ac)))))
   (ag (ay zav))
   aA)
  (ae (aE (i:=2) zdT.nd rfl (Or.inl rfl) (aB BB.ok hr7 rfl BB.m BB.kp BB.b .nil aI (aa (pv 1) ac)))
  (ag (ay (zba (aB BA.ok hr rfl BA.m BA.kp BA.b .nil aI (aa (pv 1) (aa (pv 2) ac))) (zba (aB BA.ok hr rfl BA.m BA.kp BA.b .nil aI (aa (pv 1) (aa (zat zbf (pv 2) zaG (zaF (zbk zaQ ad))) ac))) (zbs (aB BA.ok hr rfl BA.m BA.kp BA.b .nil aI (aa (pv 1) (aa (pv 2) ac)))))))))))),?_⟩
 try dsimp only [Cx.nox,Cx.wish,aX]
 intro D Hs H x v3 v4 a p tl al rl ns T' As Rs hS n63 s0 na nr S g Q0
 refine⟨_,rfl,_,rfl,S.asked (by decide) (zdN zay _ _ _ zbo g) λH1 s1=>⟨_,rfl,aV ?_⟩⟩
 refine⟨_,rfl,_,rfl,(S.same s1).rowsadd (by decide) hS n63 (s0.trans s1) na nr (by decide) (by decide) (by decide) (by decide) λH2 R2 S2 f2=>?_⟩
 have s2:ah Hs H2:=f2.fresh (s0.trans s1) na nr
 refine⟨_,rfl,_,rfl,S2.asked (by decide) (zdN zay _ _ _ zbo (zdN zay _ _ _ (mn_fr f2) (zdN zay _ _ _ (zar s1) g))) λH3 s3=>⟨_,rfl,aV ?_⟩⟩
 have S3:=S2.same s3
 refine⟨_,rfl,S3.pby (by decide) λH4 l us s4 hl ll gl=>?_⟩
 have hl':=zbo _ _ hl
 have S4:=S3.same s4
 have gl':∀ {H':Hp},ah H4 H'→∀ u∈us,GdW K H' u:=λs' u hu=>zay _ _ _ s' (zay _ _ _ zbo ((gl u hu).tw (by decide)))
 refine⟨_,rfl,_,rfl,S4.asked (by decide) ⟨l,us,rfl,hl',⟨Nat.zero_le _,by lia⟩,gl' (ah.refl _)⟩ λH5 s5=>⟨_,rfl,aS ⟨_,rfl,_,rfl,_,rfl,_,rfl,l,us,rfl,SqL.of (s5 _ _ hl'),λq hq=>?_⟩⟩⟩
 have s6:=ai hq (.lst (aU us none (some (-1))))
 have s46:=s5.trans s6
 refine(S4.same s46).asked (by decide) ⟨q,_,rfl,af,⟨Nat.zero_le _,by have:=zbK us none (some (-1));lia⟩,λu hu=>gl' s46 u (List.mem_of_mem_drop (List.mem_of_mem_take hu))⟩ λH7 s7=>⟨_,rfl,aS ⟨_,rfl,_,rfl,?_⟩⟩
 have s47:=s46.trans s7
 exact(S4.same s47).asked (by decide) ⟨l,us,rfl,s47 _ _ hl',⟨Nat.zero_le _,by lia⟩,gl' s47⟩ λH8 s8=>Q0 H8
def GdO (K:W.Frag):HG:=λH x=>∃ d,Has K H d x∧isLs d=false
theorem zfv:Stb (GdO K):=λ_ _ _ s ⟨d,h,q⟩=>⟨d,hsm s _ _ h,q⟩
theorem g_ix {X:Cx} {I:List Addr→St→Hp→Prop} {G:HG} {n m:Nat} {e b:Expr} {pos:Pos} {tb:TE} (h:PEw X e (tW I (GdL G n m))) (hb:PE X b tb) (hs:zkf b):PEw X (.Subscript e b pos) (tOp (zfQ X.K) (tW I (GdL G n m)) tb):=⟨aq zaa h.pe hb hs⟩
theorem ps_ifw {X:Cx} {c:Expr} {a b:List Stmt} {tc:TT} {ta tb:TS} {pos:Pos} (hc:PT X c tc) (ha:PSw X a ta) (hb:PSw X b tb):PS X (.If c a b pos) (tIfS tc ta tb):=aL hc ha.pss hb.pss
theorem g_k {X:Cx} {I:List Addr→St→Hp→Prop} {k:Nat} {e:Expr} (h:zfS [] 0 k e=true):PEw X e (tW I (GdX X.K k)):=g_d [] 0 (λx hx=>nomatch hx) (λ_ x hx=>nomatch hx) k h
inductive IOl (K:W.Frag):List Addr→St→Hp→Prop|m{av σ H} (v0 v1 v3 v4:Option V) (x:V):σ=[v0,v1,some x,v3,v4]→GdL (GdW K) 0 450 (mn H av) x→IOl K av σ H
theorem zgl {T:List Tm} {As:List At} {Rs:List (List Int)} {d:Dt} (h:isLs d=false):zfh T As Rs d=.int 0:=by
 cases d with
 | lst=>cases h
 | _=>rfl
theorem law7 (T:Txt K mg aK C CN CT CP CM) (BC:FB P w K mg base CX0 1 "_law_cell_at" fC dC ["_law_script","_law_k"] (zcN K)) (BF:FB P w K mg base CX0 7 "fault" fF dF ["problem","paper"] (zcM K C)) (BL:FB P w K mg base CX0 8 "lets_by" fL dL' ["problem","paper"] (zdr K C)) (BR:FB P w K mg base CX0 3 "_law_rows_added" fR dR' ["_law_problem","_law_script","_law_first","_law_many"] (zb7 K C)) (BB:FB P w K mg base CX0 7 "_law_paper_by" fB dB ["_law_problem"] (zdS K C)) (BA:FB P w K mg base CX0 9 "_law_asked" fA dA' ["_law_problem","_law_paper"] (zcO K C))
  {cdv:Value} {A:Around} {outer:List Env} {s:Shared} {H0:Hp} {E:XK} (hr:ba 9 (A.deeper (PyProof.Rows.envOfC "law" (au zci) s.heap.objs.size f cdv))) :
  ∃ t',PSs (aX CX0 P w K mg base NL "law" (au zci) f cdv A outer s H0 E).nox ((zaX zci).drop 7) t' ∧
   ∀(D:zb9) (Hs H:Hp) (x:V) (v3 v4:Option V) (a p tl al rl:Addr) (ns:List Int) (T':List Tm) (As:List At) (Rs:List (List Int)),SqL K Hs a (ns.map V.int)→ns.length≤63→ah Hs H→Hs al=none→Hs rl=none→PrL K C H p tl al rl T' As Rs 8→GdL (GdW K) 0 450 (mn H [al,rl]) x→(∀ H',D.rt (.bl true) H')→t' D [some (.ref a),some (.ref p),some x,v3,v4] H:=by
 have hr1:=hr.mono (show 1≤9 by decide)
 have hr7:=hr.mono (show 7≤9 by decide)
 have hr8:=hr.mono (show 8≤9 by decide)
 obtain⟨t8,h8,q8⟩:=law8 (f:=f) (outer:=outer) (H0:=H0) (E:=E) BR BB BA hr
 refine⟨_,(ae (ps_ifw (aw zag (ar zab (aB BC.ok hr1 rfl BC.m BC.kp BC.b .nil aI (aa (pv 0) (aa ad ac))) ad) ad)
   (zdi 4 zdT.nd rfl (Or.inl rfl) (g_ix (zeu (G:=GdO K) (I:=IOl K) zfv (zao zfv (g_c zbG λ_=>⟨.non,by simp only[Has],rfl⟩) (zao zfv (g_up (ziP (k:=0) zcX (by decide)) λ_ _ ⟨ds,q,_⟩=>⟨.tup ds,q,rfl⟩) (zao zfv (g_up (ziP (k:=1) (zao zaf (g_k (by decide +kernel)) (zao zaf (g_k (by decide +kernel)) (zao zaf (g_k (by decide +kernel)) zcX))) (by decide)) λ_ _ ⟨ds,q,_⟩=>⟨.tup ds,q,rfl⟩) (zao zfv (g_c zac λ_=>⟨.str _,by simp only[Has];rfl,rfl⟩) (zao zfv (g_c ad λ_=>⟨.int _,by simp only[Has];rfl,rfl⟩) (zao zfv (zbF (zai zaC rfl T.tuple PyProof.Rows.Boot.tuple (aa (pv 2) ac)) λσ H Q h=>by
     obtain⟨av,⟨H1,⟨v0,v1,v3,v4,x,rfl,l,us,rfl,hl,_,gu⟩,s0,hav⟩,q⟩:=h
     refine⟨_,rfl,l,us,rfl,.inl ⟨SqL.of (s0 _ _ (zbo _ _ hl)),λt ht=>?_⟩⟩
     obtain⟨ds,hD,_⟩:=gds gu
     have s1:=ai ht (.tup us)
     exact q _ _ s1 ⟨.tup ds,Has.tup' (SqT.of (by rw[zb3 λz=>hav t z (s0.free ht)];exact af)) (zc7 (zar (s0.trans s1)) _ _ hD),rfl⟩) zcX)))))) (by decide)) (ar zab (ar zak (aB BC.ok hr1 rfl BC.m BC.kp BC.b .nil aI (aa (pv 0) (aa ad ac))) ad) ad) (λ_ _=>rfl))
    ⟨ag (ay (zba (zaz zag (aB BF.ok hr7 rfl BF.m BF.kp BF.b .nil aI (aa (pv 1) (aa (pv 4) ac))) ad) (zba (zaz zkv (aB BF.ok hr7 rfl BF.m BF.kp BF.b .nil aI (aa (pv 1) (aa (pv 4) ac))) zav) (zbs (zaz ziK (aB BL.ok hr8 rfl BL.m BL.kp BL.b .nil aI (aa (pv 1) (aa (pv 4) ac))) zav)))))⟩)
   ⟨aA⟩) h8),?_⟩
 try dsimp only [Cx.nox,Cx.wish,aX]
 intro D Hs H x v3 v4 a p tl al rl ns T' As Rs hS n63 s0 na nr S g Q0
 refine⟨_,rfl,a,ns,3,rfl,s0.seq hS,by lia,by decide,by decide,λc3=>⟨_,_,rfl,rfl,(by show(0:Int) < 9;decide),rfl,_,rfl,aJ (λ_=>?_) (λ_=>q8 D Hs H x v3 v4 a p tl al rl ns T' As Rs hS n63 s0 na nr S g Q0)⟩⟩
 obtain⟨_,_,⟨ys,hy,hY⟩,⟨zs,hz,hZ⟩,_⟩:=id S.d.pr
 refine⟨[al,rl],⟨H,⟨_,_,_,_,x,rfl,g⟩,ah.refl _,λb hb z=>?_⟩,λH1 xl s1 gl=>?_⟩
 ·simp only[List.mem_cons,List.not_mem_nil,or_false]at hb
  rcases hb with rfl | rfl
  ·rw[hy]at z
   cases z
  ·rw[hz]at z
   cases z
 obtain⟨l,us,rfl,hl,⟨n1,n2⟩,qu⟩:=gl
 have n1':6≤us.length:=n1
 have s01:=s0.trans s1
 refine⟨_,rfl,a,ns,3,rfl,s01.seq hS,by lia,by decide,by decide,λc4=>⟨_,_,rfl,rfl,⟨by decide,by decide⟩,_,_,rfl,rfl,(by show(0:Int) < 6;decide),?_⟩⟩
 have b6:=zby (c4 / 9) (show(0:Int) < 6 by decide)
 obtain⟨v,w1,w2⟩:=zbe (xs:=us) (i:=c4 / 9 % 6) b6.1 (by lia)
 obtain⟨d,hd,nd⟩:=qu v (mOq w1)
 have hd':=hsm zbo _ _ hd
 have S1:=S.same s1
 have r300:∀ y∈Rs,y.length≤300:=λy hy=>Nat.le_trans (S.ri y hy).2.1 (by decide)
 have r500:Rs.length≤500:=Nat.le_trans S.rn (by decide)
 have no:∀ ds,d=.lst ds→ds.length≤450∧∀ e∈ds,wd e≤300:=λds e=>by
  rw[e]at nd
  cases nd
 refine⟨l,us,_,v,rfl,rfl,SqL.of (zbo _ _ hl),w2,?_⟩
 refine⟨_,rfl,_,rfl,p,tl,al,rl,T',As,Rs,v,d,rfl,S1.d,hd',r300,r500,no,λH2 s2=>?_⟩
 rw[zgl nd]
 refine⟨rfl,_,rfl,aS ⟨_,rfl,_,rfl,p,tl,al,rl,T',As,Rs,v,d,rfl,S1.d.same s2,hsm s2 _ _ hd',r300,r500,no,λH3 s3=>?_⟩⟩
 rw[zgl nd]
 have s13:=s2.trans s3
 refine⟨_,_,rfl,rfl,_,rfl,aS ⟨_,rfl,_,rfl,p,tl,al,rl,T',As,Rs,v,d,rfl,S1.d.same s13,hsm s13 _ _ hd',r300,r500,no,λH4 s4=>?_⟩⟩
 rw[zgl nd]
 exact⟨_,_,rfl,rfl,Q0 H4⟩
theorem law6 (T:Txt K mg aK C CN CT CP CM) (BC:FB P w K mg base CX0 1 "_law_cell_at" fC dC ["_law_script","_law_k"] (zcN K)) (BS:FB P w K mg base CX0 4 "_law_paper_spoilt" fS dS ["_law_problem","_law_paper","_law_cell"] (zfU K C)) (BF:FB P w K mg base CX0 7 "fault" fF dF ["problem","paper"] (zcM K C)) (BL:FB P w K mg base CX0 8 "lets_by" fL dL' ["problem","paper"] (zdr K C)) (BR:FB P w K mg base CX0 3 "_law_rows_added" fR dR' ["_law_problem","_law_script","_law_first","_law_many"] (zb7 K C)) (BB:FB P w K mg base CX0 7 "_law_paper_by" fB dB ["_law_problem"] (zdS K C)) (BA:FB P w K mg base CX0 9 "_law_asked" fA dA' ["_law_problem","_law_paper"] (zcO K C))
  {cdv:Value} {A:Around} {outer:List Env} {s:Shared} {H0:Hp} {E:XK} (hr:ba 9 (A.deeper (PyProof.Rows.envOfC "law" (au zci) s.heap.objs.size f cdv))) :
  ∃ t',PSs (aX CX0 P w K mg base NL "law" (au zci) f cdv A outer s H0 E).nox ((zaX zci).drop 6) t' ∧
   ∀(D:zb9) (Hs H:Hp) (v3:Option V) (a p tl al rl l:Addr) (ns:List Int) (us:List V) (T':List Tm) (As:List At) (Rs:List (List Int)),SqL K Hs a (ns.map V.int)→ns.length≤63→ah Hs H→Hs al=none→Hs rl=none→PrL K C H p tl al rl T' As Rs 8→mn H [al,rl] l=some (.lst us)→(∀ u∈us,GLn K 0 T'.length As.length (mn H [al,rl]) u)→us.length≤220→(∀ H',D.rt (.bl true) H')→t' D [some (.ref a),some (.ref p),some (.ref l),v3,none] H:=by
 have hr1:=hr.mono (show 1≤9 by decide)
 have hr4:=hr.mono (show 4≤9 by decide)
 obtain⟨t7,h7,q7⟩:=law7 (f:=f) (outer:=outer) (H0:=H0) (E:=E) T BC BF BL BR BB BA hr
 refine⟨_,(ae (aE (i:=2) zdT.nd rfl (Or.inl rfl) (aB BS.ok hr4 rfl BS.m BS.kp BS.b .nil aI (aa (pv 1) (aa (pv 2) (aa (aB BC.ok hr1 rfl BC.m BC.kp BC.b .nil aI (aa (pv 0) (aa ad ac))) ac))))) h7),?_⟩
 try dsimp only [Cx.nox,Cx.wish,aX]
 intro D Hs H v3 a p tl al rl l ns us T' As Rs hS n63 s0 na nr S hl gl ll Q0
 have t2:=S.t2
 have a3:=S.a3
 exact⟨_,rfl,_,rfl,_,rfl,a,ns,2,rfl,s0.seq hS,by lia,by decide,by decide,λc=>⟨p,tl,al,rl,l,T',As,Rs,c,us,rfl,S.d,by lia,S.a1,by lia,hl,gl,ll,λH1 x s1 g1=>q7 D Hs H1 x v3 none a p tl al rl ns T' As Rs hS n63 (s0.trans s1) na nr (S.same s1) g1 Q0⟩⟩
theorem law2 (T:Txt K mg aK C CN CT CP CM) (BC:FB P w K mg base CX0 1 "_law_cell_at" fC dC ["_law_script","_law_k"] (zcN K)) (BU:FB P w K mg base CX0 1 "_law_put_in" fU dU ["_law_problem","_law_paper","_law_at","_law_again","_law_times"] (zfe K C)) (BS:FB P w K mg base CX0 4 "_law_paper_spoilt" fS dS ["_law_problem","_law_paper","_law_cell"] (zfU K C)) (BF:FB P w K mg base CX0 7 "fault" fF dF ["problem","paper"] (zcM K C)) (BL:FB P w K mg base CX0 8 "lets_by" fL dL' ["problem","paper"] (zdr K C)) (BR:FB P w K mg base CX0 3 "_law_rows_added" fR dR' ["_law_problem","_law_script","_law_first","_law_many"] (zb7 K C)) (BB:FB P w K mg base CX0 7 "_law_paper_by" fB dB ["_law_problem"] (zdS K C)) (BA:FB P w K mg base CX0 9 "_law_asked" fA dA' ["_law_problem","_law_paper"] (zcO K C))
  {cdv:Value} {A:Around} {outer:List Env} {s:Shared} {H0:Hp} {E:XK} (hr:ba 9 (A.deeper (PyProof.Rows.envOfC "law" (au zci) s.heap.objs.size f cdv))) :
  ∃ t',PSs (aX CX0 P w K mg base NL "law" (au zci) f cdv A outer s H0 E).nox ((zaX zci).drop 2) t' ∧
   ∀(D:zb9) (Hs H:Hp) (a p tl al rl:Addr) (ns:List Int) (T':List Tm) (As:List At),SqL K Hs a (ns.map V.int)→ns.length≤63→ah Hs H→Hs al=none→Hs rl=none→PrL K C H p tl al rl T' As [] 0→(∀ H',D.rt (.bl true) H')→t' D [some (.ref a),some (.ref p),none,none,none] H:=by
 have hr1:=hr.mono (show 1≤9 by decide)
 have hr3:=hr.mono (show 3≤9 by decide)
 have hr7:=hr.mono (show 7≤9 by decide)
 obtain⟨t6,h6,q6⟩:=law6 (f:=f) (outer:=outer) (H0:=H0) (E:=E) T BC BS BF BL BR BB BA hr
 refine⟨_,(ae (zap (aB BR.ok hr3 rfl BR.m BR.kp BR.b .nil aI (aa (pv 1) (aa (pv 0) (aa ad (aa (ar zah ad (ar zab (aB BC.ok hr1 rfl BC.m BC.kp BC.b .nil aI (aa (pv 0) (aa ad ac))) ad)) ac))))))
  (ae (aE (i:=2) zdT.nd rfl (Or.inl rfl) (aB BB.ok hr7 rfl BB.m BB.kp BB.b .nil aI (aa (pv 1) ac)))
  (ae (aE (i:=3) zdT.nd rfl (Or.inl rfl) (ar zak (aB BC.ok hr1 rfl BC.m BC.kp BC.b .nil aI (aa (pv 0) (aa ad ac))) ad))
  (ae (aL (PW.pt (zaR (aw zag (ar zab (pv 3) ad) ad) (zaV (aw zcC (ap aj rfl T.len bL (aa (pv 2) ac)) ad))))
   (ag (aE (i:=2) zdT.nd rfl (Or.inl rfl) (aB BU.ok hr1 rfl BU.m BU.kp BU.b .nil aI (aa (pv 1) (aa (pv 2) (aa (ar zab (ar zak (pv 3) ad) (ap aj rfl T.len bL (aa (pv 2) ac))) (aa (aq zaa (pv 2) ad) (aa (ar zah ad (ar zab (ar zak (pv 3) ad) ad)) ac))))))))
   aA)
  h6)))),?_⟩
 try dsimp only [Cx.nox,Cx.wish,aX]
 intro D Hs H a p tl al rl ns T' As hS n63 s0 na nr S Q0
 refine⟨_,rfl,_,rfl,_,rfl,a,ns,1,rfl,s0.seq hS,by lia,by decide,by decide,λc1=>⟨_,_,rfl,rfl,(by show(0:Int) < 8;decide),_,_,rfl,rfl,?_⟩⟩
 have b1:=zby c1 (show(0:Int) < 8 by decide)
 refine S.rowsadd (by decide) hS n63 s0 na nr (by decide) (by decide) (by lia) (by lia) λH1 Rs S1 f1=>?_
 have s1:ah Hs H1:=f1.fresh s0 na nr
 refine⟨_,rfl,S1.pby (by decide) λH2 l us s2 hl ll gl=>?_⟩
 have s02:=s1.trans s2
 have S2:=S1.same s2
 have hl':=zbo _ _ hl
 refine⟨_,rfl,a,ns,1,rfl,s02.seq hS,by lia,by decide,by decide,λc2=>⟨_,_,rfl,rfl,⟨by decide,by decide⟩,?_⟩⟩
 show zcl 3 (V.int (c2 / 8)) _ _ _
 generalize c2 / 8=c
 have zbV:∀ {D':zb9},(∀ H',D'.rt (.bl true) H')→t6 D' [some (.ref a),some (.ref p),some (.ref l),some (.int c),none] H2:=λq=>q6 _ Hs H2 _ a p tl al rl l ns us T' As Rs hS n63 s02 na nr S2 hl gl (by lia) q
 refine⟨_,rfl,_,_,rfl,rfl,(by show(0:Int) < 16;decide),rfl,_,rfl,aJ (λ_=>⟨_,rfl,l,_,rfl,.inl (SqL.of hl'),_,_,rfl,rfl,_,rfl,aJ (λg=>?_) (λ_=>zbV Q0)⟩) (λ_=>aV (zbV Q0))⟩
 have up:(0:Int) < ((us.length:Nat):Int):=oDq g
 have bm:=zby (c / 16) (show(0:Int) < 161 by decide)
 obtain⟨x,x1,x2⟩:=zbe (xs:=us) (i:=0) (by decide) up
 obtain⟨_,_,⟨ys,hy,hY⟩,⟨zs,hz,hZ⟩,_⟩:=id S2.d.pr
 refine⟨_,rfl,_,rfl,_,rfl,_,_,rfl,rfl,⟨by decide,by decide⟩,_,rfl,l,_,rfl,.inl (SqL.of hl'),_,_,rfl,rfl,up,_,rfl,l,us,_,x,rfl,rfl,SqL.of hl',x2,_,rfl,_,_,rfl,rfl,⟨by decide,by decide⟩,_,_,rfl,rfl,(by show(0:Int) < 161;decide),_,_,rfl,rfl,p,tl,al,rl,l,T',As,Rs,_,_,x,us,[al,rl],0,T'.length,As.length,rfl,S2.d,hl',gl,by lia,by decide,gl x (mOq x1),(by show(0:Int)≤40+c / 16 % 161;lia),(by show 40+c / 16 % 161≤300;lia),λb hb z=>?_,λH3 l3 us3 s3 hl3 gl3 ll3=>q6 _ Hs H3 _ a p tl al rl l3 ns us3 T' As Rs hS n63 (s02.trans s3) na nr (S2.same s3) hl3 gl3 (by lia) Q0⟩
 simp only[List.mem_cons,List.not_mem_nil,or_false]at hb
 rcases hb with rfl | rfl
 ·rw[hy]at z
  cases z
 ·rw[hz]at z
  cases z
theorem ok_law (F:Fun K "law" "law" zci f fd) (T:Txt K mg aK C CN CT CP CM) (G:Own P w K mg base C CN CT CP CM fI fT fQ fM dI dT' dQ dM) (BC:FB P w K mg base CX0 1 "_law_cell_at" fC dC ["_law_script","_law_k"] (zcN K)) (BP:FB P w K mg base CX0 5 "_law_small_by" fP dP ["_law_script","_law_first","_law_atoms"] (zgW K C)) (BU:FB P w K mg base CX0 1 "_law_put_in" fU dU ["_law_problem","_law_paper","_law_at","_law_again","_law_times"] (zfe K C)) (BS:FB P w K mg base CX0 4 "_law_paper_spoilt" fS dS ["_law_problem","_law_paper","_law_cell"] (zfU K C)) (BF:FB P w K mg base CX0 7 "fault" fF dF ["problem","paper"] (zcM K C)) (BL:FB P w K mg base CX0 8 "lets_by" fL dL' ["problem","paper"] (zdr K C)) (BR:FB P w K mg base CX0 3 "_law_rows_added" fR dR' ["_law_problem","_law_script","_law_first","_law_many"] (zb7 K C)) (BB:FB P w K mg base CX0 7 "_law_paper_by" fB dB ["_law_problem"] (zdS K C)) (BA:FB P w K mg base CX0 9 "_law_asked" fA dA' ["_law_problem","_law_paper"] (zcO K C)):aQ P w K mg base CX0 10 f fd ["_law_script"] (zex K):=by
 refine F.ok zdT (λvs H Q E h=>?_) (λcdv A outer s H vs Q E hr h=>?_)
 ·obtain⟨a,ns,rfl,_⟩:=h
  rfl
 obtain⟨a,ns,rfl,hS,n63,Q0⟩:=h
 have hr1:ba 1 _:=hr.mono (by decide)
 have hr4:ba 4 _:=hr.mono (by decide)
 have hr5:ba 5 _:=hr.mono (by decide)
 obtain⟨t2,h2,q2⟩:=law2 (f:=f) (outer:=outer) (H0:=H) (E:=E) T BC BU BS BF BL BR BB BA hr
 refine⟨_,(ae (aE (i:=1) zdT.nd rfl (Or.inl rfl) (aB BP.ok hr5 rfl BP.m BP.kp BP.b .nil aI (aa (pv 0) (aa ad (aa (ar zah ad (ar zab (aB BC.ok hr1 rfl BC.m BC.kp BC.b .nil aI (aa (pv 0) (aa ad ac))) ad)) ac)))))
  (ae (aL (aw zbR (ap aj rfl T.len bL (aa (aR (pv 1) rfl) ac)) ad)
   (ag (zap (zaO (pv 1) T.cl G.mS G.S hr4 G.bS .nil zeQ (aa ad (aa ad ac)))))
   aA)
  h2)),?_⟩
 try dsimp only [Cx.nox,Cx.wish,aX]
 refine⟨_,rfl,_,rfl,a,ns,0,rfl,hS,by lia,by decide,by decide,λc1=>⟨_,_,rfl,rfl,(by show(0:Int) < 3;decide),_,_,rfl,rfl,?_⟩⟩
 have b1:=zby c1 (show(0:Int) < 3 by decide)
 refine⟨a,ns,4,1+c1 % 3,rfl,hS,by lia,by decide,by decide,by lia,by lia,λH1 p tl al rl T' As s1 np ft fa fr S1 t2 t6 aN a1 pl=>?_⟩
 obtain⟨⟨dx,ho⟩,_,⟨ys,hy,hY⟩,_⟩:=id S1.d.pr
 have yl:ys.length=As.length:=by rw[←hY.length,lM]
 refine⟨_,rfl,p,C,dx,_,_,rfl,ho,T.cl,T.nA,zad _ _ _,al,ys,rfl,.inl (SqL.of hy),_,_,rfl,rfl,_,rfl,aJ (λc=>?_) (λc=>q2 _ H H1 a p tl al rl ns T' As hS n63 s1 fa fr ⟨S1.d,t2,t6,a1 (by lia),by lia,(λx hx=>nomatch hx),nRq _⟩ Q0)⟩
 have l3:((ys.length:Nat):Int) < 3:=oDq c
 refine⟨_,rfl,p,dx,_,rfl,ho,zdQ _ _ _,zj1 S1.d ⟨by decide,by lia⟩ ⟨by decide,by lia⟩ (by lia) λH2 more k pr f2 m1 o1 em=>?_⟩
 exact q2 _ H H2 a p tl al rl ns T' (As++more) hS n63 (f2.fresh s1 fa fr) fa fr ⟨pr,t2,t6,o1,by rw[lAq];lia,(λx hx=>nomatch hx),nRq _⟩ Q0
theorem all_mk {l:W.OpenLaw} {w:World} {K:W.Frag} {h:Heap} {mg:Str→Option Value} {fa aK C CN CT CP CM CG f1 f2 f3 f4 f5 f6 f7 f8 f9 f10 f11 f12 f13 f14 f15 f16 f17 f18 f19 f20 f21 f22 f23 f24 f25 f26 f27 f28 f29 f30 f31 f32 f33 f34 f35 f36 f37 f38 f39 f40 f41 f42 f43 f44 f45 f46 f47 f48 f49 f50 f51 f52 f53 f54 f55 f56 f57 f58 f59 f60:Addr} (X:K.In h) (G:h.Ns mainGlobals mg) (hfa:mg "law"=some (.ref fa))
  {d1 d2 d3 d4 d5 d6 d7 d8 d9 d10 d11 d12 d13 d14 d15 d16 d17 d18 d19 d20 d21 d22 d23 d24 d25 d26 d27 d28 d29 d30 d31 d32 d33 d34 d35 d36 d37 d38 d39 d40 d41 d42 d43 d44 d45 d46 d47 d48 d49 d50 d51 d52 d53 d54 d55 d56 d57 d58 d59 d60:FuncData} {slK:Array (Option Value)} {t1 t2 t3 t4 t5 t6 t7 u1 u2 u3 u4 u5 u6 u7 u8:Tok} {nK:Nat}
  (aC:W.nsIn K mainGlobals "Problem"=some (some (.ref C)))
  (aN:W.nsIn K mainGlobals "BadName"=some (some (.ref CN)))
  (aT:W.nsIn K mainGlobals "BadTerm"=some (some (.ref CT)))
  (aP:W.nsIn K mainGlobals "BadPart"=some (some (.ref CP)))
  (aM:W.nsIn K mainGlobals "TooMany"=some (some (.ref CM)))
  (aG:W.nsIn K mainGlobals "Groups"=some (some (.ref CG)))
  (y1:FT K "is_word" "is_word" zhJ f1 d1)
  (y2:FT K "is_name" "is_name" zhK f2 d2)
  (y3:FT K "ask_name" "ask_name" zg5 f3 d3)
  (y4:FT K "once_each" "once_each" sOnce f4 d4)
  (y5:FT K "place_of" "place_of" ziF f5 d5)
  (y6:FT K "not_failing" "not_failing" s_not_failing f6 d6)
  (y7:FT K "is_learnt" "is_learnt" s_is_learnt f7 d7)
  (y8:FT K "sameness" "sameness" zfI f8 d8)
  (y9:FT K "is_told" "is_told" zgf f9 d9)
  (y10:FT K "is_alike" "is_alike" zef f10 d10)
  (y11:FT K "is_right_lines" "is_right" zfJ f11 d11)
  (y12:FT K "says_joined" "says_joined" zd5 f12 d12)
  (y13:FT K "is_equal" "is_equal" zee f13 d13)
  (y14:FT K "is_number" "is_number" ze8 f14 d14)
  (y15:FT K "are_parts" "are_parts" ze9 f15 d15)
  (y16:FT K "are_numbers" "are_numbers" zd6 f16 d16)
  (y17:FT K "are_links" "are_links" zfa f17 d17)
  (y18:FT K "is_right_papers" "is_right" zdd f18 d18)
  (y19:FT K "fault" "fault" zhI f19 d19)
  (y20:FT K "lets_by" "lets_by" zge f20 d20)
  (y21:FT K "_law_cell_at" "_law_cell_at" sCell f21 d21)
  (y22:FT K "_law_small_by" "_law_small_by" zdC f22 d22)
  (y23:FT K "_law_rows_added" "_law_rows_added" zde f23 d23)
  (y24:FT K "_law_merged" "_law_merged" zdk f24 d24)
  (y25:FT K "_law_alike" "_law_alike" zcU f25 d25)
  (y26:FT K "_law_next" "_law_next" zfb f26 d26)
  (y27:FT K "_law_links" "_law_links" zeI f27 d27)
  (y28:FT K "_law_aim" "_law_aim" zfK f28 d28)
  (y29:FT K "_law_links_spoilt" "_law_links_spoilt" zcy f29 d29)
  (y30:FT K "_law_link_right" "_law_link_right" zdf f30 d30)
  (y31:FT K "_law_equal" "_law_equal" zeK f31 d31)
  (y32:FT K "_law_left" "_law_left" s__law_left f32 d32)
  (y33:FT K "_law_hints" "_law_hints" s__law_hints f33 d33)
  (y34:FT K "_law_right" "_law_right" s__law_right f34 d34)
  (y35:FT K "_law_spoilt" "_law_spoilt" s__law_spoilt f35 d35)
  (y36:FT K "_law_refuted" "_law_refuted" zbv f36 d36)
  (y37:FT K "_law_paper_by" "_law_paper_by" zcF f37 d37)
  (y38:FT K "_law_number" "_law_number" zd8 f38 d38)
  (y39:FT K "_law_formed" "_law_formed" zd9 f39 d39)
  (y40:FT K "_law_link_formed" "_law_link_formed" zcV f40 d40)
  (y41:FT K "_law_fault" "_law_fault" zeJ f41 d41)
  (y42:FT K "_law_odd_line" "_law_odd_line" zbm f42 d42)
  (y43:FT K "_law_nearly" "_law_nearly" zcq f43 d43)
  (y44:FT K "_law_put_in" "_law_put_in" zb0 f44 d44)
  (y45:FT K "_law_truths" "_law_truths" zd7 f45 d45)
  (y46:FT K "_law_line_spoilt" "_law_line_spoilt" zcW f46 d46)
  (y47:FT K "_law_paper_spoilt" "_law_paper_spoilt" za9 f47 d47)
  (y48:FT K "_law_asked" "_law_asked" zeL f48 d48)
  (y49:FT K "law" "law" zci f49 d49)
  (y50:FM K C "__init__" "Problem.__init__" zki f50 d50)
  (y51:FM K C "ask_term" "Problem.ask_term" zg3 f51 d51)
  (y52:FM K C "ask_part" "Problem.ask_part" zg4 f52 d52)
  (y53:FM K C "add_term" "Problem.add_term" sAdd f53 d53)
  (y54:FM K C "add_plain" "Problem.add_plain" ziE f54 d54)
  (y55:FM K C "add_same" "Problem.add_same" zkh f55 d55)
  (y56:FM K C "add_row" "Problem.add_row" sRow f56 d56)
  (y57:FM K CG "__init__" "Groups.__init__" ziC f57 d57)
  (y58:FM K CG "head" "Groups.head" ziD f58 d58)
  (y59:FM K CG "together" "Groups.together" zfH f59 d59)
  (y60:FM K CG "merge" "Groups.merge" zeh f60 d60)
  (s1:W.nsIn K mainGlobals "SMALL_LETTERS"=some (some (.str abc t1)))
  (s2:W.nsIn K mainGlobals "LONGEST_NAME"=some (some (.int 8 t2)))
  (s3:W.nsIn K mainGlobals "MOST_TERM_PARTS"=some (some (.int 3 t3)))
  (s4:W.nsIn K mainGlobals "MOST_TERMS"=some (some (.int 60 t4)))
  (s5:W.nsIn K mainGlobals "MOST_ATOMS"=some (some (.int 40 t5)))
  (s6:W.nsIn K mainGlobals "MOST_ROW_PARTS"=some (some (.int 20 t6)))
  (s7:W.nsIn K mainGlobals "MOST_ROWS"=some (some (.int 200 t7)))
  (s8:W.nsIn K mainGlobals "KEPT_WORDS"=some (some (.ref aK)))
  (s9:K.lookup aK=some ⟨.type "tuple",none,.seq #[.str "or" u1,.str "and" u2,.str "not" u3,.str "never" u4,.str "always" u5,.str "then" u6,.str "as" u7,.str "unlike" u8] nK,slK⟩)
  (z_len:W.nsIn K mainGlobals "len"=some none)
  (z_all:W.nsIn K mainGlobals "all"=some none)
  (z_range:W.nsIn K mainGlobals "range"=some none)
  (z_isinstance:W.nsIn K mainGlobals "isinstance"=some none)
  (z_bool:W.nsIn K mainGlobals "bool"=some none)
  (z_tuple:W.nsIn K mainGlobals "tuple"=some none)
  (z_abs:W.nsIn K mainGlobals "abs"=some none)
  (z_min:W.nsIn K mainGlobals "min"=some none)
  (z_max:W.nsIn K mainGlobals "max"=some none)
  (z_zip:W.nsIn K mainGlobals "zip"=some none)
  (z_any:W.nsIn K mainGlobals "any"=some none)
  (z_list:W.nsIn K mainGlobals "list"=some none)
  (z_dict:W.nsIn K mainGlobals "dict"=some none)
  (z_sorted:W.nsIn K mainGlobals "sorted"=some none)
  (z_enumerate:W.nsIn K mainGlobals "enumerate"=some none)
  (z_int:W.nsIn K mainGlobals "int"=some none)
  (z_str:W.nsIn K mainGlobals "str"=some none)
  (pg:W.plainGet K C Str.empty=true)
  (hd:W.hasDictIn K C=true)
  (po:W.plainOver K C=true)
  (sa:W.findIn K (.ref C) "__setattr__"=some (some (.builtin "object.__setattr__")))
  (mk:W.makesIn K C=true)
  (kc:W.keepIn K (.ref C)=true)
  (nT:W.findIn K (.ref C) "terms"=some none)
  (nA:W.findIn K (.ref C) "atoms"=some none)
  (nR:W.findIn K (.ref C) "rows"=some none)
  (xN:W.excIn K CN bmV "ValueError.__new__"=true)
  (xT:W.excIn K CT bmV "ValueError.__new__"=true)
  (xP:W.excIn K CP bmV "ValueError.__new__"=true)
  (xM:W.excIn K CM bmV "ValueError.__new__"=true)
  (pgG:W.plainGet K CG Str.empty=true)
  (hdG:W.hasDictIn K CG=true)
  (poG:W.plainOver K CG=true)
  (saG:W.findIn K (.ref CG) "__setattr__"=some (some (.builtin "object.__setattr__")))
  (mkG:W.makesIn K CG=true)
  (kcG:W.keepIn K (.ref CG)=true)
  (nL:W.findIn K (.ref CG) "least"=some none)
  (nG:W.findIn K (.ref CG) "gathered"=some none)
  (z_ki:∀ d,W.kitOne K (.type (tyD d)) (.type "int")=some (isIB d))
  (z_kb:∀ d,W.kitOne K (.type (tyD d)) (.type "bool")=some (isBl d))
  (z_ks:∀ d,W.kitOne K (.type (tyD d)) (.type "str")=some (isSt d))
  (z_kt:∀ d,W.kitOne K (.type (tyD d)) (.type "tuple")=some (isTp d))
  (z_kl:∀ d,W.kitOne K (.type (tyD d)) (.type "list")=some (isLs d))
  : ∃ fd:FuncData,(∀(s:Shared) (v:Value),BindsTo s fd ⟨[v],[]⟩ [("_law_script",v)])∧∀ base:Heap,K.In base→base.Ns mainGlobals mg→aQ l.prog w K mg base CX0 10 fa fd ["_law_script"] (zex K):=by
 have e:=hfa.symm.trans (y49.m X G)
 cases e
 have T:Txt K mg aK C CN CT CP CM:=⟨⟨_,W.mg_of X G s1⟩,⟨_,W.mg_of X G s2⟩,⟨_,W.mg_of X G s3⟩,⟨_,W.mg_of X G s4⟩,⟨_,W.mg_of X G s5⟩,⟨_,W.mg_of X G s6⟩,⟨_,W.mg_of X G s7⟩,W.mg_of X G s8,λH=>.inr ⟨_,_,_,s9,rfl,rfl,(by show 8≤sizeLine;decide),.cons ⟨_,rfl⟩ (.cons ⟨_,rfl⟩ (.cons ⟨_,rfl⟩ (.cons ⟨_,rfl⟩ (.cons ⟨_,rfl⟩ (.cons ⟨_,rfl⟩ (.cons ⟨_,rfl⟩ (.cons ⟨_,rfl⟩ .nil)))))))⟩,W.mg_none_of X G z_len,W.mg_none_of X G z_all,W.mg_none_of X G z_range,W.mg_none_of X G z_isinstance,W.mg_none_of X G z_bool,W.mg_none_of X G z_tuple,W.mg_none_of X G z_abs,W.mg_of X G aN,W.mg_of X G aT,W.mg_of X G aP,W.mg_of X G aM,xN,xT,xP,xM,⟨pg,hd,po,sa⟩,nT,nA,nR⟩
 have TG:TxG K mg CG:=⟨⟨pgG,hdG,poG,saG⟩,nL,nG,W.mg_none_of X G z_min,W.mg_none_of X G z_max,W.mg_none_of X G z_range⟩
 have TL:Ls35.Txt K mg:=⟨W.mg_none_of X G z_len,W.mg_none_of X G z_min,W.mg_none_of X G z_max,W.mg_none_of X G z_dict⟩
 have TX:Ls35.TxL K mg:=⟨W.mg_none_of X G z_len,W.mg_none_of X G z_range,W.mg_none_of X G z_tuple,W.mg_none_of X G z_list⟩
 have TP:TxP K mg:=⟨W.mg_none_of X G z_int,W.mg_none_of X G z_str,W.mg_none_of X G z_list,W.mg_none_of X G z_enumerate,z_ki,z_kb,z_ks,z_kt,z_kl⟩
 have b1:aF K d1 ["text"] []:=y1.F.b1 λ_ _ _ _ _ _ _=>rfl
 have b2:aF K d2 ["word"] []:=y2.F.b1 λ_ _ _ _ _ _ _=>rfl
 have b3:aF K d3 ["word"] []:=y3.F.b1 λ_ _ _ _ _ _ _=>rfl
 have b4:aF K d4 ["parts"] []:=y4.F.b1 λ_ _ _ _ _ _ _=>rfl
 have b5:aF K d5 ["thing","things","most"] []:=y5.F.b3 λ_ _ _ _ _ _ _ _ _=>rfl
 have b6:aF K d6 ["row","held"] []:=y6.F.b2 λ_ _ _ _ _ _ _ _=>rfl
 have b7:aF K d7 ["rows","parts","hints"] []:=y7.F.b3 λ_ _ _ _ _ _ _ _ _=>rfl
 have b8:aF K d8 ["problem","number"] []:=y8.F.b2 λ_ _ _ _ _ _ _ _=>rfl
 have b9:aF K d9 ["problem","parts","link"] []:=y9.F.b3 λ_ _ _ _ _ _ _ _ _=>rfl
 have b10:aF K d10 ["terms","link","groups"] []:=y10.F.b3 λ_ _ _ _ _ _ _ _ _=>rfl
 have b11:aF K d11 ["problem","parts","link","groups"] []:=y11.F.b4 λ_ _ _ _ _ _ _ _ _ _=>rfl
 have b12:aF K d12 ["problem","part","groups"] []:=y12.F.b3 λ_ _ _ _ _ _ _ _ _=>rfl
 have b13:aF K d13 ["problem","parts","links"] []:=y13.F.b3 λ_ _ _ _ _ _ _ _ _=>rfl
 have b14:aF K d14 ["thing"] []:=y14.F.b1 λ_ _ _ _ _ _ _=>rfl
 have b15:aF K d15 ["problem","parts"] []:=y15.F.b2 λ_ _ _ _ _ _ _ _=>rfl
 have b16:aF K d16 ["things"] []:=y16.F.b1 λ_ _ _ _ _ _ _=>rfl
 have b17:aF K d17 ["things"] []:=y17.F.b1 λ_ _ _ _ _ _ _=>rfl
 have b18:aF K d18 ["problem","rows","line"] []:=y18.F.b3 λ_ _ _ _ _ _ _ _ _=>rfl
 have b19:aF K d19 ["problem","paper"] []:=y19.F.b2 λ_ _ _ _ _ _ _ _=>rfl
 have b20:aF K d20 ["problem","paper"] []:=y20.F.b2 λ_ _ _ _ _ _ _ _=>rfl
 have b21:aF K d21 ["_law_script","_law_k"] []:=y21.F.b2 λ_ _ _ _ _ _ _ _=>rfl
 have b22:aF K d22 ["_law_script","_law_first","_law_atoms"] []:=y22.F.b3 λ_ _ _ _ _ _ _ _ _=>rfl
 have b23:aF K d23 ["_law_problem","_law_script","_law_first","_law_many"] []:=y23.F.b4 λ_ _ _ _ _ _ _ _ _ _=>rfl
 have b24:aF K d24 ["_law_roots","_law_one","_law_other"] []:=y24.F.b3 λ_ _ _ _ _ _ _ _ _=>rfl
 have b25:aF K d25 ["_law_terms","_law_roots","_law_one","_law_other"] []:=y25.F.b4 λ_ _ _ _ _ _ _ _ _ _=>rfl
 have b26:aF K d26 ["_law_problem","_law_parts","_law_roots"] []:=y26.F.b3 λ_ _ _ _ _ _ _ _ _=>rfl
 have b27:aF K d27 ["_law_problem","_law_parts"] []:=y27.F.b2 λ_ _ _ _ _ _ _ _=>rfl
 have b28:aF K d28 ["_law_problem","_law_parts"] []:=y28.F.b2 λ_ _ _ _ _ _ _ _=>rfl
 have b29:aF K d29 ["_law_problem","_law_parts","_law_bonds","_law_cell"] []:=y29.F.b4 λ_ _ _ _ _ _ _ _ _ _=>rfl
 have b30:aF K d30 ["_law_problem","_law_parts","_law_roots","_law_link"] []:=y30.F.b4 λ_ _ _ _ _ _ _ _ _ _=>rfl
 have b31:aF K d31 ["_law_problem","_law_parts","_law_bonds"] []:=y31.F.b3 λ_ _ _ _ _ _ _ _ _=>rfl
 have b32:aF K d32 ["_law_row","_law_held"] []:=y32.F.b2 λ_ _ _ _ _ _ _ _=>rfl
 have b33:aF K d33 ["_law_rows","_law_parts"] []:=y33.F.b2 λ_ _ _ _ _ _ _ _=>rfl
 have b34:aF K d34 ["_law_rows","_law_parts","_law_hints_here"] []:=y34.F.b3 λ_ _ _ _ _ _ _ _ _=>rfl
 have b35:aF K d35 ["_law_hints_here","_law_many","_law_cell"] []:=y35.F.b3 λ_ _ _ _ _ _ _ _ _=>rfl
 have b36:aF K d36 ["_law_rows","_law_picked","_law_atoms"] []:=y36.F.b3 λ_ _ _ _ _ _ _ _ _=>rfl
 have b37:aF K d37 ["_law_problem"] []:=y37.F.b1 λ_ _ _ _ _ _ _=>rfl
 have b38:aF K d38 ["_law_thing","_law_first","_law_behind"] []:=y38.F.b3 λ_ _ _ _ _ _ _ _ _=>rfl
 have b39:aF K d39 ["_law_problem","_law_many","_law_line"] []:=y39.F.b3 λ_ _ _ _ _ _ _ _ _=>rfl
 have b40:aF K d40 ["_law_problem","_law_link"] []:=y40.F.b2 λ_ _ _ _ _ _ _ _=>rfl
 have b41:aF K d41 ["_law_problem","_law_paper"] []:=y41.F.b2 λ_ _ _ _ _ _ _ _=>rfl
 have b42:aF K d42 ["_law_problem","_law_cell"] []:=y42.F.b2 λ_ _ _ _ _ _ _ _=>rfl
 have b43:aF K d43 ["_law_problem","_law_cell"] []:=y43.F.b2 λ_ _ _ _ _ _ _ _=>rfl
 have b44:aF K d44 ["_law_problem","_law_paper","_law_at","_law_again","_law_times"] []:=y44.F.b5 λ_ _ _ _ _ _ _ _ _ _ _=>rfl
 have b45:aF K d45 ["_law_line"] []:=y45.F.b1 λ_ _ _ _ _ _ _=>rfl
 have b46:aF K d46 ["_law_problem","_law_line","_law_many","_law_cell"] []:=y46.F.b4 λ_ _ _ _ _ _ _ _ _ _=>rfl
 have b47:aF K d47 ["_law_problem","_law_paper","_law_cell"] []:=y47.F.b3 λ_ _ _ _ _ _ _ _ _=>rfl
 have b48:aF K d48 ["_law_problem","_law_paper"] []:=y48.F.b2 λ_ _ _ _ _ _ _ _=>rfl
 have b50:aF K d50 ["self"] []:=y50.F.b1 λ_ _ _ _ _ _ _=>rfl
 have b51:aF K d51 ["self","number"] []:=y51.F.b2 λ_ _ _ _ _ _ _ _=>rfl
 have b52:aF K d52 ["self","part"] []:=y52.F.b2 λ_ _ _ _ _ _ _ _=>rfl
 have b53:aF K d53 ["self","name","parts"] []:=y53.F.b3 λ_ _ _ _ _ _ _ _ _=>rfl
 have b54:aF K d54 ["self","name"] []:=y54.F.b2 λ_ _ _ _ _ _ _ _=>rfl
 have b55:aF K d55 ["self","one","other"] []:=y55.F.b3 λ_ _ _ _ _ _ _ _ _=>rfl
 have b56:aF K d56 ["self","parts"] []:=y56.F.b2 λ_ _ _ _ _ _ _ _=>rfl
 have b57:aF K d57 ["self"] []:=y57.F.b1 λ_ _ _ _ _ _ _=>rfl
 have b58:aF K d58 ["self","term"] []:=y58.F.b2 λ_ _ _ _ _ _ _ _=>rfl
 have b59:aF K d59 ["self","one","other"] []:=y59.F.b3 λ_ _ _ _ _ _ _ _ _=>rfl
 have b60:aF K d60 ["self","one","other"] []:=y60.F.b3 λ_ _ _ _ _ _ _ _ _=>rfl
 refine⟨_,y49.F.top λ_ _ _ _ _ _ _=>rfl,λbase _ _=>?_⟩
 have G1:=zlB (P:=l.prog) (w:=w) (base:=base) y1.F T
 have G2:=zlC y2.F T G1 b1 y1.k (y1.m X G)
 have G3:=zkB y3.F T G2 b2 y2.k (y2.m X G)
 have G4:=zm7 (P:=l.prog) (w:=w) (base:=base) y4.F T
 have G5:=zmf (P:=l.prog) (w:=w) (base:=base) y5.F T
 have G50:=ok_init (P:=l.prog) (w:=w) (base:=base) y50.F T
 have G51:=zkz (P:=l.prog) (w:=w) (base:=base) y51.F T
 have G52:=zkA (P:=l.prog) (w:=w) (base:=base) y52.F T
 have G53:=ok_add y53.F T G3 b3 y3.k (y3.m X G) G51 b51 y51.M G5 b5 y5.k (y5.m X G)
 have G54:=zme y54.F T G3 b3 y3.k (y3.m X G) G5 b5 y5.k (y5.m X G)
 have G55:=zm5 y55.F T G51 b51 y51.M G5 b5 y5.k (y5.m X G)
 have G56:=ok_row y56.F T G52 b52 y52.M G4 b4 y4.k (y4.m X G)
 have GR4:=G56.mono (k:=4) (by decide)
 have GS4:=G55.mono (k:=4) (by decide)
 have MKI:Mk K C f50:=⟨mk,y50.a,y50.i,kc⟩
 have OW:Own l.prog w K mg base C CN CT CP CM f50 f53 f54 f55 _ _ _ _:=⟨G50,b50,MKI,W.mg_of X G aC,G53,b53,y53.M,G54,b54,y54.M,GS4,b55,y55.M⟩
 have MKG:Mk K CG f57:=⟨mkG,y57.a,y57.i,kcG⟩
 have G57:=Gp.ok_init (P:=l.prog) (w:=w) (base:=base) y57.F TG
 have G58:=Gp.ok_head (P:=l.prog) (w:=w) (base:=base) y58.F TG
 have G59:=Gp.ok_together y59.F TG y58.M G58 b58
 have G60:=Gp.ok_merge y60.F TG y58.M G58 b58
 have OE:=Ls35.ok_once_each (P:=l.prog) (w:=w) (base:=base) y4.F (W.mg_none_of X G z_tuple)
 have G6:=Ls35.ok_not_failing y6.F ⟨OE,b4,y4.k,(y4.m X G)⟩
 have G7:=Ls35.ok_is_learnt y7.F TL ⟨G6,b6,y6.k,(y6.m X G)⟩
 have G8:=zjz (P:=l.prog) (w:=w) (base:=base) y8.F T
 have G9:=zm3 y9.F T (y8.m X G) G8 b8 y8.k
 have G10:=zmn y10.F T TG (W.mg_none_of X G z_zip) (W.mg_none_of X G z_all) y59.M G59 b59
 have G11:=ok_right y11.F T TG (y9.m X G) G9 b9 y9.k (y10.m X G) G10 b10 y10.k
 have G12:=zm4 y12.F TG (y8.m X G) G8 b8 y8.k y59.M G59 b59
 have G13:=zmk y13.F T TG (W.mg_none_of X G z_any) MKG (W.mg_of X G aG) G57 b57 y60.M G60 b60 (y11.m X G) G11 b11 y11.k (y12.m X G) G12 b12 y12.k
 have G14:=ok_num (P:=l.prog) (w:=w) (base:=base) y14.F T TP
 have G15:=zmg y15.F T TP ⟨G14,b14,y14.k,(y14.m X G)⟩
 have G16:=zkx y16.F T TP ⟨G14,b14,y14.k,(y14.m X G)⟩
 have G17:=zmh y17.F T TP ⟨G16,b16,y16.k,(y16.m X G)⟩
 have G18:=zlu y18.F T TP ⟨G15,b15,y15.k,(y15.m X G)⟩ ⟨G16,b16,y16.k,(y16.m X G)⟩ ⟨G17,b17,y17.k,(y17.m X G)⟩ ⟨G7,b7,y7.k,(y7.m X G)⟩ ⟨G13,b13,y13.k,(y13.m X G)⟩
 have G19:=zmj y19.F T TP ⟨G18,b18,y18.k,(y18.m X G)⟩
 have G20:=zna y20.F ⟨G19,b19,y19.k,(y19.m X G)⟩
 have G21:=zml (P:=l.prog) (w:=w) (base:=base) y21.F T
 have G22:=zmd y22.F T (W.mg_none_of X G z_range) (W.mg_none_of X G z_max) OW ⟨G21,b21,y21.k,(y21.m X G)⟩
 have G23:=zkw y23.F T G56 b56 y56.M ⟨G21,b21,y21.k,(y21.m X G)⟩
 have G24:=zky (P:=l.prog) (w:=w) (base:=base) (mg:=mg) y24.F
 have G25:=zlA (P:=l.prog) (w:=w) (base:=base) y25.F T
 have G26:=zm8 y26.F T (W.mg_none_of X G z_range) (W.mg_none_of X G z_abs) ⟨G25,b25,y25.k,(y25.m X G)⟩
 have G27:=zlx y27.F T (W.mg_none_of X G z_list) (W.mg_none_of X G z_range) ⟨G26,b26,y26.k,(y26.m X G)⟩ ⟨G24,b24,y24.k,(y24.m X G)⟩
 have G28:=ok_aim (P:=l.prog) (w:=w) (base:=base) y28.F T
 have G29:=ok_spoilt y29.F T ⟨G28,b28,y28.k,(y28.m X G)⟩
 have G30:=zlw y30.F T (W.mg_none_of X G z_sorted) (y25.m X G) G25 b25 y25.k
 have G31:=zlz y31.F T (W.mg_none_of X G z_list) (W.mg_none_of X G z_range) (W.mg_none_of X G z_abs) (y30.m X G) G30 b30 y30.k (y24.m X G) G24 b24 y24.k
 have G32:=Ls35.ok_left (mg:=mg) (P:=l.prog) (w:=w) (base:=base) y32.F
 have G33:=Ls35.ok_hints y33.F TX ⟨G32,b32,y32.k,(y32.m X G)⟩
 have G34:=Ls35.ok_right y34.F TX ⟨G32,b32,y32.k,(y32.m X G)⟩
 have G35:=Ls35.ok_spoilt (P:=l.prog) (w:=w) (base:=base) y35.F TX
 have G36:=zm6 y36.F T ⟨G33,b33,y33.k,(y33.m X G)⟩ ⟨G34,b34,y34.k,(y34.m X G)⟩ b36 y36.k (y36.m X G)
 have G37:=ok_pby y37.F T ⟨G27,b27,y27.k,(y27.m X G)⟩ ⟨G31,b31,y31.k,(y31.m X G)⟩ ⟨G36,b36,y36.k,(y36.m X G)⟩
 have G38:=zm9 (P:=l.prog) (w:=w) (base:=base) y38.F T TP
 have G40:=ok_llf y40.F T TP ⟨G38,b38,y38.k,(y38.m X G)⟩
 have G39:=zmi y39.F T TP ⟨G38,b38,y38.k,(y38.m X G)⟩ ⟨G40,b40,y40.k,(y40.m X G)⟩
 have G41:=zly y41.F T TP (W.mg_none_of X G z_range) ⟨G39,b39,y39.k,(y39.m X G)⟩ ⟨G34,b34,y34.k,(y34.m X G)⟩ ⟨G31,b31,y31.k,(y31.m X G)⟩
 have G42:=ok_odd (P:=l.prog) (w:=w) (base:=base) y42.F T
 have G43:=zlv (P:=l.prog) (w:=w) (base:=base) y43.F T
 have G44:=ok_put (P:=l.prog) (w:=w) (base:=base) y44.F T TP
 have G45:=zlt (P:=l.prog) (w:=w) (base:=base) y45.F T TP
 have G46:=ok_lsp y46.F T TP ⟨G35,b35,y35.k,(y35.m X G)⟩ ⟨G29,b29,y29.k,(y29.m X G)⟩
 have G47:=ok_psp y47.F T ⟨G46,b46,y46.k,(y46.m X G)⟩ ⟨G42,b42,y42.k,(y42.m X G)⟩ ⟨G43,b43,y43.k,(y43.m X G)⟩ ⟨G45,b45,y45.k,(y45.m X G)⟩ ⟨G44,b44,y44.k,(y44.m X G)⟩
 have G48:=zmm y48.F T TP ⟨G19,b19,y19.k,(y19.m X G)⟩ ⟨G41,b41,y41.k,(y41.m X G)⟩ ⟨G20,b20,y20.k,(y20.m X G)⟩ ⟨G38,b38,y38.k,(y38.m X G)⟩
 exact ok_law y49.F T OW ⟨G21,b21,y21.k,(y21.m X G)⟩ ⟨G22,b22,y22.k,(y22.m X G)⟩ ⟨G44,b44,y44.k,(y44.m X G)⟩ ⟨G47,b47,y47.k,(y47.m X G)⟩ ⟨G19,b19,y19.k,(y19.m X G)⟩ ⟨G20,b20,y20.k,(y20.m X G)⟩ ⟨G23,b23,y23.k,(y23.m X G)⟩ ⟨G37,b37,y37.k,(y37.m X G)⟩ ⟨G48,b48,y48.k,(y48.m X G)⟩
theorem walk {l:W.OpenLaw} {q:Program} {loose:List Str} {XP:(Str→Option Value)→Heap→Prop} {YP:World→Heap→Prop} {d:DefRec} {K:Params→W.Frag} (hn:l.most=some 63) (hdf:d.params.defaults=[])
  (hY:∀(w:World) (h:Heap),YP w h→(K w.params).In h)
  (F:∀(w:World) (mg:Str→Option Value) (fa:Addr) (h:Heap),(K w.params).In h→h.Ns mainGlobals mg→mg d.name=some (.ref fa) →
   ∃ fd:FuncData,(∀(s:Shared) (u:Value),BindsTo s fd ⟨[u],[]⟩ [("_law_script",u)])∧∀ base:Heap,(K w.params).In base→base.Ns mainGlobals mg→aQ l.prog w (K w.params) mg base CX0 10 fa fd ["_law_script"] (zex (K w.params))) :
  W.WalkO q loose XP YP l.row.toRowW d [] (λf vs=>PySem.call f vs) :=
 L2.walk_of (n:=63) (k:=10) (x:="_law_script") (CX:=λ_=>CX0) (sp:=λw=>zex (K w.params)) hn (by decide) hdf ⟨rfl,by decide,by decide,rfl⟩ hY F (λ_ _ a ns hl _ hS=>⟨a,ns,rfl,hS,hl,λ_=>rfl⟩) λ_ _ _ _ _ z=>z
end K35
inductive PySem.W.Fast:Prop|tw11209431424070272321|tw11907940919344856022|tw11955601697225153621|tw8838249936465650649|tw17652185021107544986|tw6503908874300027627|tw7980379840721837132|tw2688550462431355115|tw12318911564942824490|tw6806099512705154265|tw6189431358523919991|tw13876904696550658092|tw16866723135199144927|tw5234667795455805311|tw8634251136667622455|tw5092126260255686082|tw18168984004907871020|tw14834576207243116221|tw5659300860377749137|tw3900159236334481885|tw16152999445407144343|tw4553785937071099170|tw15185513758272841474|tw1481640542702792357|tw15004770625227901876|tw10500473373101579105|tw8554186492113345108|tw8245283680504533|tw1034343471758615114|tw7190841406475450514|tw6356430007286923667|tw5944085157910309980|tw18110843668746842865|tw7070479451068099655|tw13091700535723848699|tw2620574761757006298|tw11313252563902598513|tw10867865165155026276|tw17304682255273284437|tw8879348295183668065|tw16149332810040391532|tw4747265297697053563|tw13027457521856595289|tw11267213135234365268|tw4401336388989943750|tw13523724188296774907|tw5607733596828789508|tw3724163781097541002|tw14870362006491591973|tw9251602150519827272|tw9240485206827798944|tw15238243523875370804|tw3527931243910209233|tw2109490314188729266|tw8377893561229586521|tw7319506479821465463|tw14317493270980331788|tw6830380744013715231|tw9740461873227987491|tw11539814974888759742
namespace PySem.W.Fast
def tw16500091774125533994:=0
def tw11587296870901208810:=0
def tw13235449737359590497:=0
def tw5757418855364255369:=0
def tw3816590804118606859:=0
def tw732635468796087300:=0
def tw10631590984616875353:=0
def tw7602917122731695600:=0
def tw16054814021893174785:=0
def tw6173895103620720102:=0
def tw5431622801003899721:=0
def tw11346443458222017726:=0
def tw17146761880353529013:=0
def tw15038874637447176032:=0
def tw8386351705580664858:=0
def tw6443238297728637494:=0
def tw9731162919053885577:=0
def tw17930575910439837950:=0
def tw437698210250965514:=0
def tw17567883092757137696:=0
def tw14025795324149306198:=0
def tw18390354515648321365:=0
def tw2323420537673472244:=0
def tw6364230854507791307:=0
def tw12607817460436089340:=0
def tw7153332774615825849:=0
def tw8481265571322203523:=0
def tw16250037615213603897:=0
def tw10485633833653047234:=0
def tw283022765574040630:=0
def tw15981526718040875994:=0
def tw14216706190904142048:=0
def tw1383642910825683441:=0
def tw2281214549216621667:=0
def tw1193013245274340192:=0
def tw17383244997240599073:=0
def tw7452742338319262365:=0
def tw13913991765043926626:=0
def tw3403027545163546039:=0
def tw13678057426183621666:=0
def tw17944195827414638737:=0
def tw16648377299977450388:=0
def tw7745977097996948219:=0
def tw510504353642192643:=0
def tw6429431024942559092:=0
def tw17675450802517241020:=0
def tw2992037388367783411:=0
def tw872730011064191082:=0
def tw1446072883155286743:=0
def tw14957962518094056412:=0
def tw9978512181107431680:=0
def tw7047013240930633893:=0
def tw14952514267589028247:=0
def tw12196339575196287997:=0
def tw14065251475215412642:=0
def tw16207397020611442047:=0
def tw16774625326482296:=0
def tw4960710717090039901:=0
def tw2634533133905958900:=0
def tw6857584563308565620:=0
def tw7110392568158590144:=0
def tw14196232015628917400:=0
def tw13785615456265994068:=0
def tw8163560807346438721:=0
def tw8785355949849772361:=0
def tw1004630356452227444:=0
def tw6304417348127471368:=0
def tw17041384597323957568:=0
def tw11291786019288184482:=0
def tw16438115007738558982:=0
def tw932502661627853001:=0
def tw2331990533715658244:=0
def tw9372065751675344487:=0
def tw5175120992922759433:=0
def tw14670352832110193985:=0
def tw4341246729162175930:=0
def tw8612549404040145591:=0
def tw3826889638385091642:=0
def tw8122902653805025818:=0
def tw11347950622497335000:=0
def tw15131690598997745229:=0
def tw5938202781739406092:=0
def tw5208291838611848591:=0
def tw1414028548002941897:=0
def tw3663401353172281087:=0
def tw10397723570879979410:=0
def tw75895642689739456:=0
def tw2143849849978350752:=0
def tw4155242697278066947:=0
def tw15966588921573667982:=0
def tw5514949188597645402:=0
def tw15213589966785881690:=0
def tw13898390239300982706:=0
def tw14275276926430658085:=0
def tw9261619098111702005:=0
def tw3804672668968787752:=0
def tw13675818738524346155:=0
def tw6314626173116403938:=0
def tw6669757025765521079:=0
def tw12499173131210794765:=0
def tw567476206393464011:=0
def tw3578163009974490559:=0
def tw17963365882784944664:=0
def tw5010218887799633494:=0
def tw2049189612108743331:=0
def tw84924768912367549:=0
def tw4890481198094939802:=0
def tw7084357604477847694:=0
def tw12652520083299430388:=0
def tw5758603827142320372:=0
def tw17333722089296841614:=0
def tw583712448211458043:=0
def tw2113138220510368540:=0
def tw4717646692728338171:=0
def tw4828651691888576460:=0
def tw14872890750790299221:=0
def tw15595009963689149016:=0
def tw17135475879327970886:=0
def tw80275826504602461:=0
def tw11505951175793957023:=0
def tw12463157840416670546:=0
def tw3289141357947715740:=0
def tw2519645150630079590:=0
def tw11260950983307105027:=0
def tw14081728695326403023:=0
def tw17002667945877278406:=0
def tw9546216038249362471:=0
def tw10839881928242019220:=0
def tw6259989778535883999:=0
def tw4786427092834204418:=0
def tw10516002130307644128:=0
def tw1784741661848775511:=0
def tw18101608554316964387:=0
def tw16093958424268593365:=0
def tw1788766325886177322:=0
def tw715987385941693558:=0
def tw17644315445636701444:=0
def tw1407854918901666429:=0
def tw3917969843872858949:=0
def tw16563514559517914281:=0
def tw12751916274994570677:=0
def tw15771129639913681987:=0
def tw9053872580413357206:=0
def tw15273194664039758270:=0
def tw9966609753219154143:=0
def tw10972192796570173797:=0
def tw3666015916826824377:=0
def tw14099022384698954343:=0
def tw1172281559163399145:=0
def tw4602745015434442404:=0
def tw12784719548432202561:=0
def tw13781453006513117600:=0
def tw9612150345715391559:=0
def tw11018798012773952794:=0
def tw11478302744776885008:=0
def tw10420305214315183234:=0
def tw16176339064988343100:=0
def tw17083530852797545120:=0
def tw14584192084816122434:=0
def tw15387562858820553276:=0
def tw5857352617795195660:=0
def tw17435521031244038090:=0
def tw4928275068117131850:=0
def tw12292250249910636292:=0
def tw4886180645512786886:=0
def tw12447348242582036075:=0
def tw9301233876867790601:=0
def tw12162165582725163788:=0
def tw197644054224390793:=0
def tw2077345709701736660:=0
def tw2438446813540499716:=0
def tw6405882862642419986:=0
def tw18105388878899446302:=0
def tw12744926656187061915:=0
def tw10624304900762871955:=0
def tw6108809965643486783:=0
def tw8166283346098519030:=0
def tw14376926366943008067:=0
def tw10312973366789867517:=0
def tw1597114080974872812:=0
def tw2642009182784475338:=0
def tw8389712177752429812:=0
def tw8076637488737090573:=0
def tw17781500971852063324:=0
def tw17803939992345301850:=0
def tw5764810412475038068:=0
def tw2551573844472959979:=0
def tw15853176784577658482:=0
def tw2198842665069391186:=0
def tw6260131265434650442:=0
def tw12177001215118322187:=0
def tw6191396312659278857:=0
def tw8562429189277148698:=0
def tw3014187246383134253:=0
def tw4442834551429250095:=0
def tw17905202514627980738:=0
def tw10122522621173458145:=0
def tw17631584005013981204:=0
def tw3198892722159207911:=0
def tw9977735435978167402:=0
def tw7289843184382534192:=0
def tw17313634446093047920:=0
def tw16036897980157624650:=0
def tw12923965734532713311:=0
def tw2538156738653861088:=0
def tw8852418361158071576:=0
def tw16708736117170563259:=0
def tw199524396602348701:=0
def tw14709853171810309185:=0
def tw13071460247337750795:=0
def tw6206516049409951047:=0
def tw18111389395732235317:=0
def tw12608578601690338086:=0
def tw6178434224574792721:=0
def tw6101678092123902901:=0
def tw7924847510725796285:=0
def tw15733639079347593623:=0
def tw6164874523390060452:=0
def tw6374013346917108961:=0
def tw4645682588170132526:=0
def tw9256978049997208475:=0
def tw13404190101645619267:=0
def tw4862441193911714315:=0
def tw10173022605921257720:=0
def tw8929697385711610476:=0
def tw2975674259177829271:=0
def tw6890962106782225663:=0
def tw10841692425512356121:=0
def tw10535256553164710302:=0
def tw17769886167517179359:=0
def tw9788230731937051260:=0
def tw2390179046751067425:=0
def tw13088176505448217413:=0
def tw10562467274796575342:=0
def tw16131584489816836205:=0
def tw10045350562634087368:=0
def tw17441529448978126495:=0
def tw3421581123461385657:=0
def tw18056758474422516740:=0
def tw8838053320891114792:=0
def tw8605279885323851940:=0
def tw9534257240475748728:=0
def tw3297496750931192878:=0
def tw15319173565599976840:=0
def tw1082231088008370527:=0
def tw3989481085940934646:=0
def tw8963581715837968617:=0
def tw17389163598562123452:=0
def tw7209453724196645667:=0
def tw13233782430008020165:=0
def tw2928509773154707982:=0
def tw17615346504668669605:=0
def tw10887330592857370315:=0
def tw1301082312754547885:=0
def tw11874546475831511970:=0
def tw6445759821748546463:=0
def tw6067764737390059533:=0
def tw12721560227998149843:=0
def tw16622204309677751141:=0
def tw15873620510274491639:=0
def tw13644708693308637365:=0
def tw12259461058537832256:=0
def tw14525992770822729075:=0
def tw13483863934553700052:=0
def tw11222962828260656918:=0
def tw8037403633908662417:=0
def tw1956650657337270186:=0
def tw13251534177936436724:=0
def tw7520835187159721026:=0
def tw289820757020905105:=0
def tw12380011752478766933:=0
def tw12600785797866474752:=0
def tw12767496504755983099:=0
def tw11144660689871033984:=0
def tw17148313306360986133:=0
def tw12193155862416445571:=0
def tw993223932271419879:=0
def tw4275069893074875950:=0
def tw12650263819248877578:=0
def tw13941754711182331035:=0
def tw8645338015885655868:=0
def tw13012719040703935652:=0
def tw2313922578080057310:=0
def tw17671039394050334825:=0
def tw3705837002201139641:=0
def tw2337662143567286860:=0
def tw8292217491640715:=0
def tw3665698717138426168:=0
def tw18429878328558206671:=0
def tw12859633416423055483:=0
def tw3354138201436155962:=0
def tw14954928644261374566:=0
def tw6655678824229450709:=0
def tw3053691741337614097:=0
def tw2501955739226266308:=0
def tw3952807122960239976:=0
def tw10761606745444616856:=0
def tw7052013870143172811:=0
def tw16990413801429574478:=0
def tw9130659958381830343:=0
def tw13424375676389307841:=0
def tw4983920860335662678:=0
def tw6538403795788697621:=0
def tw8155249099658128493:=0
def tw11976797737529924332:=0
def tw3984629517786166256:=0
def tw7871599005931002090:=0
def tw16548799579976680059:=0
def tw13090931313328479755:=0
def tw5206625695115474796:=0
def tw12591126742093403701:=0
def tw16284046234829988265:=0
def tw12036974438914261711:=0
def tw13653752472487438936:=0
def tw6485142712641409477:=0
def tw12118666410578437031:=0
def tw10007490166519484598:=0
def tw12025697971774639670:=0
def tw252336686785726034:=0
def tw16114337306245309185:=0
def tw17978116231866385948:=0
def tw5921662847706214490:=0
def tw2003308033684913870:=0
def tw5652051188459410878:=0
def tw5822328740230947152:=0
def tw5347306777126994924:=0
def tw6808691645106384213:=0
def tw5259178227283524592:=0
def tw12240038574054999402:=0
def tw11860145425758174733:=0
def tw6382931736886657782:=0
def tw7572048429849605145:=0
def tw1214167746593318100:=0
def tw13738891950605044182:=0
def tw7973065112574754733:=0
def tw17005607202881245923:=0
def tw298034951542282885:=0
def tw11873620847015375679:=0
def tw18302214155477090315:=0
def tw6831462278621374741:=0
def tw6731643254663014444:=0
def tw14621741239209626604:=0
def tw15645098166035762811:=0
def tw2805785009296105729:=0
def tw17336975220111216880:=0
def tw3991538097166387567:=0
def tw5951548644790783290:=0
def tw11707358783968011436:=0
def tw15741809818216721293:=0
def tw13099786475674028295:=0
def tw6204227004034354316:=0
def tw7164032871465810661:=0
def tw2168099558269792185:=0
def tw4247162322266734859:=0
def tw8404504819264450345:=0
def tw11539980300832591759:=0
def tw6915073893209131915:=0
def tw10757802762514162038:=0
def tw11181944076369195501:=0
def tw10230659071469836784:=0
def tw3843560710948186247:=0
def tw8157162296497530197:=0
def tw11846261067516616361:=0
def tw14704420862900487675:=0
def tw2659406612510599161:=0
def tw11402728612423292740:=0
def tw10472109096111719949:=0
def tw5388374492309548117:=0
def tw3374519643590749325:=0
def tw11370444487818515736:=0
def tw3872344918266619252:=0
def tw5666978430322574989:=0
def tw16595789278516584349:=0
def tw2595048006744510213:=0
def tw2331455822124134083:=0
def tw14300613074280008636:=0
def tw1506229203148858373:=0
def tw13233703526584202537:=0
def tw8694556096264224840:=0
def tw10788146827535087072:=0
def tw11601864744582583583:=0
def tw16479094689779096547:=0
def tw17292031555103278996:=0
def tw1372861212866967470:=0
def tw638976194418789394:=0
def tw3030651681250701018:=0
def tw3992331284410533161:=0
def tw8191103372033185020:=0
def tw10210258943913313033:=0
def tw8850513100083665632:=0
def tw17674559604668683403:=0
def tw10950893320593367902:=0
def tw3162508298554449393:=0
def tw6289702954920355311:=0
end PySem.W.Fast
open PySem PySem.W PyProof.Rows
set_option maxRecDepth 100000 in
set_option maxHeartbeats 0 in
theorem PySem.Challenge.cw_yesorno_k35_faults_holds : PySem.Challenge.rw_yesorno_k35_faults.Holds := by
 w_on;o_law;k_head;(case hw=>w_witness2)
 k_fill
 refine K35.walk (l:=PySem.Challenge.rw_yesorno_k35_faults) rfl rfl (λw h Y=>W.kIn_of Y) ?F
 case F =>
  intro w mg fa h KX G hmg
  refine' K35.all_mk KX G hmg ?aC ?aN ?aT ?aP ?aM ?aG ?y1 ?y2 ?y3 ?y4 ?y5 ?y6 ?y7 ?y8 ?y9 ?y10 ?y11 ?y12 ?y13 ?y14 ?y15 ?y16 ?y17 ?y18 ?y19 ?y20 ?y21 ?y22 ?y23 ?y24 ?y25 ?y26 ?y27 ?y28 ?y29 ?y30 ?y31 ?y32 ?y33 ?y34 ?y35 ?y36 ?y37 ?y38 ?y39 ?y40 ?y41 ?y42 ?y43 ?y44 ?y45 ?y46 ?y47 ?y48 ?y49 ?y50 ?y51 ?y52 ?y53 ?y54 ?y55 ?y56 ?y57 ?y58 ?y59 ?y60 ?s1 ?s2 ?s3 ?s4 ?s5 ?s6 ?s7 ?s8 ?s9 ?z_len ?z_all ?z_range ?z_isinstance ?z_bool ?z_tuple ?z_abs ?z_min ?z_max ?z_zip ?z_any ?z_list ?z_dict ?z_sorted ?z_enumerate ?z_int ?z_str ?pg ?hd ?po ?sa ?mk ?kc ?nT ?nA ?nR ?xN ?xT ?xP ?xM ?pgG ?hdG ?poG ?saG ?mkG ?kcG ?nL ?nG ?z_ki ?z_kb ?z_ks ?z_kt ?z_kl
  (case aC=>k_is)
  (case aN=>k_is)
  (case aT=>k_is)
  (case aP=>k_is)
  (case aM=>k_is)
  (case aG=>k_is)
  (case y1=>exact L2.ft_in (by k_is) (by k_is) (by k_is) (by k_is))
  (case y2=>exact L2.ft_in (by k_is) (by k_is) (by k_is) (by k_is))
  (case y3=>exact L2.ft_in (by k_is) (by k_is) (by k_is) (by k_is))
  (case y4=>exact L2.ft_in (by k_is) (by k_is) (by k_is) (by k_is))
  (case y5=>exact L2.ft_in (by k_is) (by k_is) (by k_is) (by k_is))
  (case y6=>exact L2.ft_in (by k_is) (by k_is) (by k_is) (by k_is))
  (case y7=>exact L2.ft_in (by k_is) (by k_is) (by k_is) (by k_is))
  (case y8=>exact L2.ft_in (by k_is) (by k_is) (by k_is) (by k_is))
  (case y9=>exact L2.ft_in (by k_is) (by k_is) (by k_is) (by k_is))
  (case y10=>exact L2.ft_in (by k_is) (by k_is) (by k_is) (by k_is))
  (case y11=>exact L2.ft_in (by k_is) (by k_is) (by k_is) (by k_is))
  (case y12=>exact L2.ft_in (by k_is) (by k_is) (by k_is) (by k_is))
  (case y13=>exact L2.ft_in (by k_is) (by k_is) (by k_is) (by k_is))
  (case y14=>exact L2.ft_in (by k_is) (by k_is) (by k_is) (by k_is))
  (case y15=>exact L2.ft_in (by k_is) (by k_is) (by k_is) (by k_is))
  (case y16=>exact L2.ft_in (by k_is) (by k_is) (by k_is) (by k_is))
  (case y17=>exact L2.ft_in (by k_is) (by k_is) (by k_is) (by k_is))
  (case y18=>exact L2.ft_in (by k_is) (by k_is) (by k_is) (by k_is))
  (case y19=>exact L2.ft_in (by k_is) (by k_is) (by k_is) (by k_is))
  (case y20=>exact L2.ft_in (by k_is) (by k_is) (by k_is) (by k_is))
  (case y21=>exact L2.ft_in (by k_is) (by k_is) (by k_is) (by k_is))
  (case y22=>exact L2.ft_in (by k_is) (by k_is) (by k_is) (by k_is))
  (case y23=>exact L2.ft_in (by k_is) (by k_is) (by k_is) (by k_is))
  (case y24=>exact L2.ft_in (by k_is) (by k_is) (by k_is) (by k_is))
  (case y25=>exact L2.ft_in (by k_is) (by k_is) (by k_is) (by k_is))
  (case y26=>exact L2.ft_in (by k_is) (by k_is) (by k_is) (by k_is))
  (case y27=>exact L2.ft_in (by k_is) (by k_is) (by k_is) (by k_is))
  (case y28=>exact L2.ft_in (by k_is) (by k_is) (by k_is) (by k_is))
  (case y29=>exact L2.ft_in (by k_is) (by k_is) (by k_is) (by k_is))
  (case y30=>exact L2.ft_in (by k_is) (by k_is) (by k_is) (by k_is))
  (case y31=>exact L2.ft_in (by k_is) (by k_is) (by k_is) (by k_is))
  (case y32=>exact L2.ft_in (by k_is) (by k_is) (by k_is) (by k_is))
  (case y33=>exact L2.ft_in (by k_is) (by k_is) (by k_is) (by k_is))
  (case y34=>exact L2.ft_in (by k_is) (by k_is) (by k_is) (by k_is))
  (case y35=>exact L2.ft_in (by k_is) (by k_is) (by k_is) (by k_is))
  (case y36=>exact L2.ft_in (by k_is) (by k_is) (by k_is) (by k_is))
  (case y37=>exact L2.ft_in (by k_is) (by k_is) (by k_is) (by k_is))
  (case y38=>exact L2.ft_in (by k_is) (by k_is) (by k_is) (by k_is))
  (case y39=>exact L2.ft_in (by k_is) (by k_is) (by k_is) (by k_is))
  (case y40=>exact L2.ft_in (by k_is) (by k_is) (by k_is) (by k_is))
  (case y41=>exact L2.ft_in (by k_is) (by k_is) (by k_is) (by k_is))
  (case y42=>exact L2.ft_in (by k_is) (by k_is) (by k_is) (by k_is))
  (case y43=>exact L2.ft_in (by k_is) (by k_is) (by k_is) (by k_is))
  (case y44=>exact L2.ft_in (by k_is) (by k_is) (by k_is) (by k_is))
  (case y45=>exact L2.ft_in (by k_is) (by k_is) (by k_is) (by k_is))
  (case y46=>exact L2.ft_in (by k_is) (by k_is) (by k_is) (by k_is))
  (case y47=>exact L2.ft_in (by k_is) (by k_is) (by k_is) (by k_is))
  (case y48=>exact L2.ft_in (by k_is) (by k_is) (by k_is) (by k_is))
  (case y49=>exact L2.ft_in (by k_is) (by k_is) (by k_is) (by k_is))
  (case y50=>exact L2.fm_in (by k_is) (by k_is) (by k_is) (by k_is) (by k_is))
  (case y51=>exact L2.fm_in (by k_is) (by k_is) (by k_is) (by k_is) (by k_is))
  (case y52=>exact L2.fm_in (by k_is) (by k_is) (by k_is) (by k_is) (by k_is))
  (case y53=>exact L2.fm_in (by k_is) (by k_is) (by k_is) (by k_is) (by k_is))
  (case y54=>exact L2.fm_in (by k_is) (by k_is) (by k_is) (by k_is) (by k_is))
  (case y55=>exact L2.fm_in (by k_is) (by k_is) (by k_is) (by k_is) (by k_is))
  (case y56=>exact L2.fm_in (by k_is) (by k_is) (by k_is) (by k_is) (by k_is))
  (case y57=>exact L2.fm_in (by k_is) (by k_is) (by k_is) (by k_is) (by k_is))
  (case y58=>exact L2.fm_in (by k_is) (by k_is) (by k_is) (by k_is) (by k_is))
  (case y59=>exact L2.fm_in (by k_is) (by k_is) (by k_is) (by k_is) (by k_is))
  (case y60=>exact L2.fm_in (by k_is) (by k_is) (by k_is) (by k_is) (by k_is))
  (case s1=>k_is)
  (case s2=>k_is)
  (case s3=>k_is)
  (case s4=>k_is)
  (case s5=>k_is)
  (case s6=>k_is)
  (case s7=>k_is)
  (case s8=>k_is)
  (case s9=>k_is)
  (case z_len=>k_is)
  (case z_all=>k_is)
  (case z_range=>k_is)
  (case z_isinstance=>k_is)
  (case z_bool=>k_is)
  (case z_tuple=>k_is)
  (case z_abs=>k_is)
  (case z_min=>k_is)
  (case z_max=>k_is)
  (case z_zip=>k_is)
  (case z_any=>k_is)
  (case z_list=>k_is)
  (case z_dict=>k_is)
  (case z_sorted=>k_is)
  (case z_enumerate=>k_is)
  (case z_int=>k_is)
  (case z_str=>k_is)
  (case pg=>k_is)
  (case hd=>k_is)
  (case po=>k_is)
  (case sa=>k_is)
  (case mk=>k_is)
  (case kc=>k_is)
  (case nT=>k_is)
  (case nA=>k_is)
  (case nR=>k_is)
  (case xN=>k_exc)
  (case xT=>k_exc)
  (case xP=>k_exc)
  (case xM=>k_exc)
  (case pgG=>k_is)
  (case hdG=>k_is)
  (case poG=>k_is)
  (case saG=>k_is)
  (case mkG=>k_is)
  (case kcG=>k_is)
  (case nL=>k_is)
  (case nG=>k_is)
  (case z_ki=>exact λd=>by cases d <;> dsimp only [K35.tyD,K35.isIB,K35.isBl,K35.isSt,K35.isTp,K35.isLs] <;> kit_is)
  (case z_kb=>exact λd=>by cases d <;> dsimp only [K35.tyD,K35.isIB,K35.isBl,K35.isSt,K35.isTp,K35.isLs] <;> kit_is)
  (case z_ks=>exact λd=>by cases d <;> dsimp only [K35.tyD,K35.isIB,K35.isBl,K35.isSt,K35.isTp,K35.isLs] <;> kit_is)
  (case z_kt=>exact λd=>by cases d <;> dsimp only [K35.tyD,K35.isIB,K35.isBl,K35.isSt,K35.isTp,K35.isLs] <;> kit_is)
  (case z_kl=>exact λd=>by cases d <;> dsimp only [K35.tyD,K35.isIB,K35.isBl,K35.isSt,K35.isTp,K35.isLs] <;> kit_is)
