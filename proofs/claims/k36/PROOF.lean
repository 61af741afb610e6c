import PyProof.Rows.All
import Wide.All
import OpenK.AllK
import Wide.FinOn
import Lean
import PyProof.EqAt
import PyProof.EqKinds
import PyProof.TupleCall
import PySem.Challenge.RW_yesorno_k36_whole_let_by
set_option Elab.async false
set_option linter.all false
set_option compiler.extract_closed false
set_option genSizeOf false
set_option maxRecDepth 100000
set_option maxHeartbeats 8000000
theorem lM{α β}{l:List α}(f:α→β):(l.map f).length=l.length:=List.length_map f
theorem lAq{α}{a b:List α}:(a++b).length=a.length+b.length:=List.length_append
theorem mAq{α β}{f:α→β}{a b:List α}:(a++b).map f=a.map f++b.map f:=List.map_append
theorem lS{α}{a:α}:[a].length=1:=rfl
theorem mOq{α}{l:List α}{i:Nat}{a:α}(h:l[i]?=some a):a∈l:=List.mem_of_getElem? h
theorem mPq{α}{a:α}{s t:List α}(h:a∈s++t):a∈s∨a∈t:=List.mem_append.mp h
theorem mSq{α}{a b:α}(h:a∈[b]):a=b:=List.mem_singleton.mp h
theorem gEq{α}{i:Nat}{a:α}{l:List α}(h:l[i]?=some a):∃h,l[i]=a:=List.getElem?_eq_some_iff.mp h
theorem gG{α}{l:List α}{i:Nat}(h:i<l.length):l[i]?=some l[i]:=List.getElem?_eq_getElem h
theorem sAq{α}{l:List α}:l.toArray.size=l.length:=List.size_toArray
theorem nRq(n:Nat):n≤n:=Nat.le_refl n
theorem tO{α}{i:Nat}{l:List α}(h:l.length≤i):l.take i=l:=List.take_of_length_le h
namespace L2
open PySem PySem.Spec PyProof.Rows
abbrev Key:=Sum Int Str
def zgk:Key→Value→Bool
  | .inl k,v=>Value.isInt k v
  | .inr x,v=>Value.isStrOf x v
def keyH (w:World):Key→Int
  | .inl k=>hashInt k
  | .inr x=>hashStr w x
theorem zbw:∀ {k:Key} {v:Value},zgk k v=true→(∃ i t,k=Sum.inl i∧v=Value.int i t)∨(∃ x t,k=Sum.inr x∧v=Value.str x t)
  | .inl i,v,h=>by
    obtain⟨t,e⟩:=Value.isInt_shape (k:=i) (v:=v) h
    exact .inl ⟨i,t,rfl,e⟩
  | .inr x,v,h=>by
    obtain⟨t,e⟩:=Value.isStrOf_shape (x:=x) (v:=v) h
    exact .inr ⟨x,t,rfl,e⟩
theorem zk7 (i:Int) (t:Tok):zgk (.inl i) (.int i t)=true:=by simp [zgk,Value.isInt]
theorem zk6 (x:Str) (t:Tok):zgk (.inr x) (.str x t)=true:=by simp [zgk,Value.isStrOf]
theorem key_ll (a b:Int):decide ((Sum.inl a:Key)=Sum.inl b)=(a == b):=by
  by_cases e:a=b
  · subst e;simp
  · have h:¬(Sum.inl a:Key)=Sum.inl b:=λq=>e (Sum.inl.inj q)
    rw[decide_eq_false h]
    exact(beq_eq_false_iff_ne.mpr e).symm
theorem key_rr (a b:Str):decide ((Sum.inr a:Key)=Sum.inr b)=decide (a=b):=by
  by_cases e:a=b
  · subst e;simp
  · have h:¬(Sum.inr a:Key)=Sum.inr b:=λq=>e (Sum.inr.inj q)
    rw[decide_eq_false h,decide_eq_false e]
theorem key_lr (a:Int) (b:Str):decide ((Sum.inl a:Key)=Sum.inr b)=false:=decide_eq_false (λq=>nomatch q)
theorem key_rl (a:Str) (b:Int):decide ((Sum.inr a:Key)=Sum.inl b)=false:=decide_eq_false (λq=>nomatch q)
def za8 (prog:Program) (w:World):PySem.KeyKind prog w Key where
  is:=zgk
  hash:=keyH w
  inj:=λv a b ha hb=>by
    rcases zbw ha with ⟨i,t,rfl,rfl⟩ | ⟨x,t,rfl,rfl⟩
    · rcases zbw hb with ⟨j,u,rfl,e⟩ | ⟨y,u,rfl,e⟩
      · injection e with e1 _;rw[e1]
      · exact nomatch e
    · rcases zbw hb with ⟨j,u,rfl,e⟩ | ⟨y,u,rfl,e⟩
      · exact nomatch e
      · injection e with e1 _;rw[e1]
  byValue:=λk v h=>by
    rcases zbw h with ⟨i,t,rfl,rfl⟩ | ⟨x,t,rfl,rfl⟩ <;> rfl
  pyHash:=λhv h=>by
    rcases zbw hv with ⟨i,t,rfl,rfl⟩ | ⟨x,t,rfl,rfl⟩
    · exact wpAny_pyHash_int h
    · exact wpAny_pyHash_str h
  eqBool:=λhu hv h=>by
    rcases zbw hu with ⟨i,t,rfl,rfl⟩ | ⟨x,t,rfl,rfl⟩
    · rcases zbw hv with ⟨j,u,rfl,rfl⟩ | ⟨y,u,rfl,rfl⟩
      · rw[key_ll]at h;exact wpAny_eqBool_int h
      · rw[key_lr]at h;exact SeqAt.EqAt.int_str i t y u _ _ _ _ h
    · rcases zbw hv with ⟨j,u,rfl,rfl⟩ | ⟨y,u,rfl,rfl⟩
      · rw[key_rl]at h;exact SeqAt.EqAt.str_int x t j u _ _ _ _ h
      · rw[key_rr]at h;exact wpAny_eqBool_str h
  «strs»:=λk x t v h=>by
    rcases zbw h with ⟨i,u,rfl,e⟩ | ⟨y,u,rfl,e⟩
    · exact nomatch e
    · injection e with e1 _
      subst e1
      cases v <;> rfl
theorem zja (prog:Program) (w:World) (i:Int) (t:Tok):(za8 prog w).is (.inl i) (.int i t)=true:=zk7 i t
theorem zi9 (prog:Program) (w:World) (x:Str) (t:Tok):(za8 prog w).is (.inr x) (.str x t)=true:=zk6 x t
end L2
namespace L2
open PySem PySem.Spec PyProof.Rows
inductive V where
  | non | bl (b:Bool) | int (i:Int) | str (x:Str) | byt (b:Array UInt8) | flt (b:UInt64) | ref (a:Addr) | ty (n:String)
  deriving DecidableEq
def aX:V→Value→Prop
  | .non,u=>u=Value.none
  | .bl b,u=>u=Value.bool b
  | .int i,u=>∃ t,u=Value.int i t
  | .str x,u=>∃ t,u=Value.str x t
  | .byt b,u=>∃ t,u=Value.bytes b t
  | .flt b,u=>∃ t,u=Value.float b t
  | .ref a,u=>u=Value.ref a
  | .ty n,u=>u=Value.type n
abbrev aW:List V→List Value→Prop:=Paired aX
theorem aW.length {xs:List V} {us:List Value} (r:aW xs us):xs.length=us.length:=Paired.length r
theorem aW.get:∀ {xs:List V} {us:List Value} {i:Nat} {x:V},aW xs us→xs[i]?=some x→∃ u,us[i]?=some u∧aX x u
  | _,_,_,_,.nil,e=>by simp at e
  | _,_,0,_,.cons r _,e=>by simp at e;subst e;exact⟨_,rfl,r⟩
  | _,_,i+1,x,.cons _ t,e=>by
    obtain⟨u,h1,h2⟩:=aW.get (i:=i) (x:=x) t (by simpa using e)
    exact⟨u,by simpa using h1,h2⟩
theorem aW.append:∀ {xs ys:List V} {us ws:List Value},aW xs us→aW ys ws→aW (xs++ys) (us++ws)
  | _,_,_,_,.nil,s=>s
  | _,_,_,_,.cons r t,s=>.cons r (aW.append t s)
theorem aW.take:∀ {xs:List V} {us:List Value} (n:Nat),aW xs us→aW (xs.take n) (us.take n)
  | _,_,0,_=>.nil
  | _,_,_+1,.nil=>.nil
  | _,_,n+1,.cons r t=>.cons r (aW.take n t)
theorem aW.drop:∀ {xs:List V} {us:List Value} (n:Nat),aW xs us→aW (xs.drop n) (us.drop n)
  | _,_,0,r=>r
  | _,_,_+1,.nil=>.nil
  | _,_,n+1,.cons _ t=>aW.drop n t
def zcZ:Option V→Option Value→Prop
  | some v,some u=>aX v u
  | none,none=>True
  | _,_=>False
def KV {κ:Type}:List (κ × V)→List (κ × Value)→Prop:=Paired λ(p:κ × V) (q:κ × Value)=>p.1=q.1∧aX p.2 q.2
def kV:Key→V
  | .inl i=>.int i
  | .inr x=>.str x
inductive HO where
    | lst (xs:List V)
    | tup (xs:List V)
    | dK (kvs:List (Key × V)) | dT (kvs:List (List Key × V))
    | set (S:Int→Bool) (n:Nat)
    | ins (C dx:Addr) (fs:List (Str × V))
    | own (x:Addr)
    | xd (fs:List (Str × V))
    | met (f x:Addr)
    | rng (lo hi:Int)
    | frz (o:Obj) (u:HO)
    | tbl (ps:Array Value)
    | ext (φ:Heap→Prop)
abbrev Hp:=Addr→Option HO
def upd (H:Hp) (a:Addr) (o:HO):Hp:=λb=>if b=a then some o else H b
theorem ae {H:Hp} {a:Addr} {o:HO}:upd H a o a=some o:=by unfold upd;rw[if_pos rfl]
theorem aD {H:Hp} {a b:Addr} {o:HO} (h:b≠a):upd H a o b=H b:=by unfold upd;rw[if_neg h]
theorem zl9 {H:Hp} {a:Addr} {o u:HO}:upd (upd H a o) a u=upd H a u:=by
  funext b;unfold upd;split <;> rfl
theorem zbY {H:Hp} {a b:Addr} {o u:HO} (h:H a=some o) (h':H b=some u) (d:o≠u):a≠b:=by
  intro e;subst e;rw[h]at h';exact d (Option.some.inj h')
theorem zaa {H:Hp} {a b:Addr} {o:HO} (h:H a=some o) (h':H b=none):a≠b:=by
  intro e;subst e;rw[h]at h';cases h'
section
variable (P:Program) (w:World)
def zaF (H:Hp) (h:Heap) (a:Addr):HO→Prop
  | .lst xs=>xs.length≤sizeLine∧∃(its:List Value) (n:Nat),aW xs its∧h.get? a=some { cls:=.type "list",data:=.seq its.toArray n }
  | .tup xs=>xs.length≤sizeLine∧∃ its:List Value,aW xs its∧IsTup h a its.toArray
  | .dK kvs=>kvs.length≤sizeLine∧(a == sysModules)=false∧∃ vs,KV kvs vs∧h.DictOf (za8 P w) a vs
  | .dT kvs=>kvs.length≤sizeLine∧(a == sysModules)=false∧∃ xs:List (List Key × Addr × Value),
      Paired (λ(p:List Key × V) (q:List Key × Addr × Value)=>p.1=q.1∧H q.2.1=some (.tup (p.1.map kV))∧aX p.2 q.2.2) kvs xs ∧
      ∃ o es ep,h.get? a=some o∧o.ExactDict∧o.data=.dict es ep∧es.toList=xs.map (entryOfKey (tupleKind (za8 P w)))∧(xs.map (·.1)).Nodup
  | .set S n=>h.SetOf (intKind P w) a S n
  | .ins C dx fs=>H dx=some (.own a)∧fs.length≤1000∧dx≠a∧h.get? a=some (PySem.W.instObj C dx) ∧
      ∃ mA,h.Ns1 dx mA∧(∀ f,zcZ (fs.lookup f) (mA f))∧PySem.Within mA (fs.map (·.1))
  | .own _=>∃ o,h.get? a=some o
  | .xd fs=>∃ mA,h.Ns1 a mA∧∀ f,zcZ (fs.lookup f) (mA f)
  | .rng lo hi=>∃ t u v,h.get? a=some { cls:=.type "range",data:=.fields #[.int lo t,.int hi u,.int 1 v] }
  | .frz o u=>h.get? a=some o∧zaF H h a u
  | .tbl ps=>h.get? a=some { cls:=.none,data:=.fields ps }
  | .met f x=>h.get? a=some (PySem.W.methodObj (.ref f) (.ref x))
  | .ext φ=>φ h∧(∃ o,h.get? a=some o)∧∀ h1 h2:Heap,φ h1→(∀ o,h1.get? a=some o→h2.get? a=some o)→φ h2
def HOk (H:Hp) (h:Heap):Prop:=∀ a o,H a=some o→zaF P w H h a o
end
section
variable {P:Program} {w:World} {H H':Hp} {h h':Heap} {a:Addr} {o:HO}
theorem zaF.lt (x:zaF P w H h a o):a < h.objs.size:=by
  cases o with
  | lst xs=>obtain⟨_,_,_,_,e⟩:=x;exact Heap.lt_size e
  | tup xs=>obtain⟨_,_,_,p⟩:=x;exact p.lt
  | dK kvs=>obtain⟨_,_,_,_,o,_,_,e,_⟩:=x;exact Heap.lt_size e
  | dT kvs=>obtain⟨_,_,_,_,o,_,_,e,_⟩:=x;exact Heap.lt_size e
  | set S n=>obtain⟨o,_,_,_,e,_⟩:=x;exact Heap.lt_size e
  | ins C dx fs=>obtain⟨_,_,_,e,_⟩:=x;exact Heap.lt_size e
  | own y=>obtain⟨_,e⟩:=x;exact Heap.lt_size e
  | xd fs=>obtain⟨_,⟨_,_,_,e,_⟩,_⟩:=x;exact Heap.lt_size e
  | rng lo hi=>obtain⟨_,_,_,e⟩:=x;exact Heap.lt_size e
  | frz ob u=>obtain⟨e,_⟩:=x;exact Heap.lt_size e
  | tbl ps=>exact Heap.lt_size (show h.get? a=some _ from x)
  | met f y=>exact Heap.lt_size (show h.get? a=some _ from x)
  | ext φ=>obtain⟨_,⟨_,e⟩,_⟩:=x;exact Heap.lt_size e
theorem Paired.mapP {α β:Type} {F G:α→β→Prop}:∀ {l₁:List α} {l₂:List β},Paired F l₁ l₂→(∀ a b,F a b→G a b)→Paired G l₁ l₂
  | _,_,.nil,_=>.nil
  | _,_,.cons r t,f=>.cons (f _ _ r) (Paired.mapP t f)
theorem zaF.stay (x:zaF P w H h a o) (k:∀ b u,(b=a∨H b=some (.own a))→h.get? b=some u→h'.get? b=some u)
    (ho:∀ b,H b=some (.own a)→H' b=some (.own a)) (ht:∀ b xs,H b=some (.tup xs)→H' b=some (.tup xs)):zaF P w H' h' a o:=by
  induction o with
  | lst xs=>obtain⟨z,its,n,r,e⟩:=x;exact⟨z,its,n,r,k _ _ (.inl rfl) e⟩
  | tup xs=>obtain⟨z,its,r,ob,e,c⟩:=x;exact⟨z,its,r,ob,k _ _ (.inl rfl) e,c⟩
  | dK kvs=>obtain⟨z,y,vs,r,ob,es,ep,e,c⟩:=x;exact⟨z,y,vs,r,ob,es,ep,k _ _ (.inl rfl) e,c⟩
  | dT kvs =>
    obtain⟨z,y,xs,r,ob,es,ep,e,c⟩:=x
    exact⟨z,y,xs,Paired.mapP r λp q z=>⟨z.1,ht _ _ z.2.1,z.2.2⟩,ob,es,ep,k _ _ (.inl rfl) e,c⟩
  | set S n=>obtain⟨ob,es,ep,t,e,c⟩:=x;exact⟨ob,es,ep,t,k _ _ (.inl rfl) e,c⟩
  | ins C dx fs =>
    obtain⟨d,z,ne,e,mA,⟨od,es,ep,e2,c⟩,r⟩:=x
    exact⟨ho _ d,z,ne,k _ _ (.inl rfl) e,mA,⟨od,es,ep,k _ _ (.inr d) e2,c⟩,r⟩
  | own y=>obtain⟨ob,e⟩:=x;exact⟨ob,k _ _ (.inl rfl) e⟩
  | xd fs=>obtain⟨mA,⟨od,es,ep,e,c⟩,r⟩:=x;exact⟨mA,⟨od,es,ep,k _ _ (.inl rfl) e,c⟩,r⟩
  | rng lo hi=>obtain⟨t,u,v,e⟩:=x;exact⟨t,u,v,k _ _ (.inl rfl) e⟩
  | frz ob u ih=>obtain⟨e,q⟩:=x;exact⟨k _ _ (.inl rfl) e,ih q⟩
  | tbl ps =>
    have e:h.get? a=some { cls:=.none,data:=.fields ps }:=x
    show h'.get? a=some { cls:=.none,data:=.fields ps }
    exact k a _ (.inl rfl) e
  | met f y =>
    have e:h.get? a=some (PySem.W.methodObj (.ref f) (.ref y)):=x
    show h'.get? a=some (PySem.W.methodObj (.ref f) (.ref y))
    exact k a _ (.inl rfl) e
  | ext φ=>obtain⟨p,⟨o,e⟩,st⟩:=x;exact⟨st _ _ p λo q=>k _ _ (.inl rfl) q,⟨o,k _ _ (.inl rfl) e⟩,st⟩
theorem HOk.lt (x:HOk P w H h) (e:H a=some o):a < h.objs.size:=(x a o e).lt
theorem HOk.fresh (x:HOk P w H h) (e:h.objs.size≤a):H a=none:=by
  cases q:H a with
  | none=>rfl
  | some u=>exact absurd (Nat.lt_of_lt_of_le (x.lt q) e) (Nat.lt_irrefl _)
theorem HOk.kept (x:HOk P w H h) (k:∀ b u,h.get? b=some u→h'.get? b=some u):HOk P w H h':=λa o e =>
  (x a o e).stay (λb u _ q=>k b u q) (λ_ q=>q) λ_ _ q=>q
theorem HOk.laid (x:HOk P w H h) (k:∀ b u,h.get? b=some u→h'.get? b=some u) (hp:h.objs.size≤a) (new:zaF P w (upd H a o) h' a o):HOk P w (upd H a o) h':=λb u e=>by
  have hn:=x.fresh hp
  by_cases hb:b=a
  · subst hb;rw[ae]at e;cases e;exact new
  · rw[aD hb]at e
    exact(x b u e).stay (λc v _ q=>k c v q) (λc q=>by rw[aD (zaa q hn)];exact q) λc xs q=>by rw[aD (zaa q hn)];exact q
end
def Rd (H:Hp) (a:Addr) (u:HO):Prop:=H a=some u∨∃ o,H a=some (.frz o u)
theorem Rd.ok {P:Program} {w:World} {H:Hp} {h:Heap} {a:Addr} {u:HO} (r:Rd H a u) (x:HOk P w H h):zaF P w H h a u:=by
  rcases r with r | ⟨o,r⟩
  · exact x a u r
  · obtain⟨_,q⟩:=x a _ r
    exact q
def Mut:Option HO→Prop
  | some (.lst _)=>True
  | some (.dK _)=>True
  | some (.dT _)=>True
  | some (.set _ _)=>True
  | some (.ins _ _ _)=>True
  | some (.ext _)=>True
  | _=>False
section
variable {P:Program} {w:World} {H:Hp} {h h':Heap} {x e:Addr} {o':HO}
theorem HOk.write (ok:HOk P w H h) (mu:Mut (H x)) (he:e=x∨H e=some (.own x)) (k:∀ b u,b≠e→h.get? b=some u→h'.get? b=some u) (heo:∃ u,h'.get? e=some u)
    (new:zaF P w (upd H x o') h' x o'):HOk P w (upd H x o') h':=λb u q=>by
  have nown:∀ c y,H c=some (.own y)→c≠x:=λc y r z=>by subst z;rw[r]at mu;exact mu
  have ntup:∀ c xs,H c=some (.tup xs)→c≠x:=λc xs r z=>by subst z;rw[r]at mu;exact mu
  by_cases hb:b=x
  · subst hb;rw[ae]at q;cases q;exact new
  · rw[aD hb]at q
    by_cases hbe:b=e
    · have q':H b=some (.own x):=by
        rcases he with z | z
        · exact absurd (hbe.trans z) hb
        · rw[hbe];exact z
      rw[q]at q';cases q'
      obtain⟨v,hv⟩:=heo
      exact⟨v,by rw[hbe];exact hv⟩
    · refine(ok b u q).stay (λc v hc r=>k c v ?_ r) (λc r=>by rw[aD (nown c b r)];exact r) λc xs r=>by rw[aD (ntup c xs r)];exact r
      rcases hc with rfl | hc
      · exact hbe
      · rintro rfl
        rcases he with z | z
        · exact nown c b hc z
        · rw[hc]at z;cases z;exact hb rfl
end
structure Un (fs ex:List Addr) (H H':Hp) (h h':Heap):Prop where
  keep:∀ b o,h.get? b=some o→H b=none→b∉fs→b∉ex→h'.get? b=some o
  slot:∀ b o,h.get? b=some o→H b=none→b∈fs→b∉ex→∃ sl,h'.get? b=some { o with slots:=sl }
  free:∀ b o,h.get? b=some o→H b=none→b∉ex→H' b=none
  there:∀ b o,h.get? b=some o→b∉ex→∃ o',h'.get? b=some o'
  tups:∀ b xs,H b=some (.tup xs)→H' b=some (.tup xs)
  frzs:∀ b o u,H b=some (.frz o u)→H' b=some (.frz o u)
  tbls:∀ b ps,H b=some (.tbl ps)→∃ more,H' b=some (.tbl (ps++more))
section
variable {fs fs' ex ex':List Addr} {H H1 H2:Hp} {h h1 h2 h':Heap} {a x e:Addr} {o:HO}
theorem Un.any (u:Un fs ex H H1 h h1) {b:Addr} {ob:Obj} (q:h.get? b=some ob) (n:H b=none) (hx:b∉ex):∃ sl,h1.get? b=some { ob with slots:=sl }:=by
  by_cases hb:b∈fs
  · exact u.slot b ob q n hb hx
  · exact⟨ob.slots,u.keep b ob q n hb hx⟩
theorem Un.trans (a:Un fs ex H H1 h h1) (b:Un fs ex H1 H2 h1 h2):Un fs ex H H2 h h2 where
  keep:=λc ob q n hc hx=>b.keep c ob (a.keep c ob q n hc hx) (a.free c ob q n hx) hc hx
  slot:=λc ob q n hc hx=>by
    obtain⟨sl,e1⟩:=a.slot c ob q n hc hx
    obtain⟨sl',e2⟩:=b.slot c _ e1 (a.free c ob q n hx) hc hx
    exact⟨sl',e2⟩
  free:=λc ob q n hx=>by
    obtain⟨o',e1⟩:=a.there c ob q hx
    exact b.free c o' e1 (a.free c ob q n hx) hx
  there:=λc ob q hx=>by
    obtain⟨o',e1⟩:=a.there c ob q hx
    exact b.there c o' e1 hx
  tups:=λc xs q=>b.tups c xs (a.tups c xs q)
  frzs:=λc ob xs q=>b.frzs c ob xs (a.frzs c ob xs q)
  tbls:=λc ps q=>by
    obtain⟨m1,e1⟩:=a.tbls c ps q
    obtain⟨m2,e2⟩:=b.tbls c _ e1
    exact⟨m1++m2,by rw[e2,Array.append_assoc]⟩
theorem Un.kept (k:∀ b u,h.get? b=some u→h'.get? b=some u):Un fs ex H H h h' :=
  ⟨λb ob q _ _ _=>k b ob q,λb ob q _ _ _=>⟨ob.slots,k b ob q⟩,λ_ _ _ n _=>n,λb ob q _=>⟨ob,k b ob q⟩,λ_ _ q=>q,λ_ _ _ q=>q,λ_ ps q=>⟨#[],by rw[q];simp⟩⟩
theorem Un.refl:Un fs ex H H h h:=Un.kept λ_ _ q=>q
theorem Un.laid (k:∀ b u,h.get? b=some u→h'.get? b=some u) (hp:h.objs.size≤a) (hn:H a=none):Un fs ex H (upd H a o) h h' where
  keep:=λb u q _ _ _=>k b u q
  slot:=λb u q _ _ _=>⟨u.slots,k b u q⟩
  free:=λb u q n _=>by rw[aD (Nat.ne_of_lt (Nat.lt_of_lt_of_le (Heap.lt_size q) hp))];exact n
  there:=λb u q _=>⟨u,k b u q⟩
  tups:=λb xs q=>by rw[aD (zaa q hn)];exact q
  frzs:=λb u xs q=>by rw[aD (zaa q hn)];exact q
  tbls:=λb ps q=>⟨#[],by rw[aD (zaa q hn),q];simp⟩
theorem Un.write (mu:Mut (H x)) (he:e=x∨H e=some (.own x)) (k:∀ b u,b≠e→h.get? b=some u→h'.get? b=some u) (heo:∃ u,h'.get? e=some u):Un fs ex H (upd H x o) h h':=by
  have hx:∀ b,H b=none→b≠x:=λb n z=>by subst z;rw[n]at mu;exact mu
  have hb:∀ b,H b=none→b≠e:=λb n z=>by
    subst z
    rcases he with r | r
    · exact hx b n r
    · rw[n]at r;cases r
  have hm:∀ b u,H b=some u→¬Mut (some u)→b≠x:=λb u q nm z=>by subst z;rw[q]at mu;exact nm mu
  refine⟨λb u q n _ _=>k b u (hb b n) q,λb u q n _ _=>⟨u.slots,k b u (hb b n) q⟩,λb u q n _=>by rw[aD (hx b n)];exact n,λb u q _=>?_,
    λb xs q=>by rw[aD (hm b _ q λz=>z)];exact q,λb u xs q=>by rw[aD (hm b _ q λz=>z)];exact q,λb ps q=>⟨#[],by rw[aD (hm b _ q λz=>z),q];simp⟩⟩
  by_cases hbe:b=e
  · subst hbe;exact heo
  · exact⟨u,k b u hbe q⟩
end
def trk (h:Heap) (H:Hp):List Addr:=(List.range h.objs.size).filter λa=>(H a).isSome
def ze8 (h:Heap) (H:Hp):Heap:=PySem.W.hideAll h (trk h H)
theorem zlb (h:Heap) (H:Hp):(ze8 h H).objs.size=h.objs.size:=PySem.W.hideAll_size _ _
theorem zlV {h:Heap} {H:Hp} {b:Addr} {o:Obj} (e:h.get? b=some o) (n:H b=none):(ze8 h H).get? b=some o :=
  PySem.W.hideAll_get _ e λhm=>by
    have q:(H b).isSome=true:=(List.mem_filter.mp hm).2
    rw[n]at q;simp at q
theorem zmw {h:Heap} {H:Hp} {b:Addr} {o:Obj} (e:(ze8 h H).get? b=some o):h.get? b=some o∧H b=none:=by
  have e':h.get? b=some o:=PySem.W.of_hideAll (trk h H) e
  refine⟨e',?_⟩
  cases q:H b with
  | none=>rfl
  | some x =>
    have hm:b∈trk h H:=List.mem_filter.mpr ⟨List.mem_range.mpr (Heap.lt_size e'),by simp [q]⟩
    have z:(ze8 h H).get? b=none:=PySem.W.hideAll_none (trk h H) hm
    rw[z]at e;cases e
def zmK (g h:Heap) (L:Addr):List (Addr × Obj):=(List.range h.objs.size).filterMap λa=>if a=L∨(g.get? a).isSome=true then none else(h.get? a).map λo=>(a,o)
def zb1 (g h:Heap) (L d:Addr):List (Addr × Obj):=(zmK g h L).filter λp=>decide (p.1≠d)
end L2
namespace L2
open PySem PySem.Spec PyProof.Rows
structure Mod (K:PySem.W.Frag) (mg:Str→Option Value) (base:Heap):Prop where
  kin:K.In base
  glob:base.Ns mainGlobals mg
  blt:∃ mb,base.Ns builtinsNs mb∧∀ x:Str,x≠"__name__"→mb x=bootBuiltins x
  nolimit:base.NoLimit
structure Cx where
  prog:Program
  w:World
  K:PySem.W.Frag
  mg:Str→Option Value
  base:Heap
  A:Around
  N:List Str
  s₀:Shared
  H₀:Hp
  env:Env
  outer:List Env
  stack:List Env
  ex:List Addr
  fn:Str→Bool
  calm:Bool
  pn:List (Addr × Obj)
  xe:Value→Shared→Prop
def frs (l:List Env):List Addr:=l.filterMap (·.frame)
abbrev Cx.fs (X:Cx):List Addr:=frs X.outer
def Vis (sc:Scope) (x:Str):Prop:=sc.names.lookup x=some .local∨sc.names.lookup x=some .cell∨sc.names.lookup x=some .free
def Loc (sc:Scope) (x:Str):Prop:=sc.names.lookup x=some .local∨sc.names.lookup x=some .cell
def Look (env:Env) (h:Heap) (m:Str→Option Value) (x:Str) (u:Value):Prop :=
  (env.kindOf x=some .local∧m x=some u)∨((env.kindOf x=some .cell∨env.kindOf x=some .free)∧∃ c,env.cells.lookup x=some c∧h.IsCell c (some u))
structure Cx.Ok (X:Cx):Prop where
  mod:Mod X.K X.mg X.base
  kind:X.env.scope.kind=.function
  glob:X.env.globals=mainGlobals
  blt:X.env.builtins=builtinsNs
  above:X.s₀.heap.objs.size≤X.env.locals
  inj:∀ x y c,X.env.cells.lookup x=some c→X.env.cells.lookup y=some c→x=y
  has:∀ x,(X.env.kindOf x=some .cell∨X.env.kindOf x=some .free)→∃ c,X.env.cells.lookup x=some c
  cab:∀ x c,X.fn x=true→X.env.cells.lookup x=some c→X.s₀.heap.objs.size≤c
  hd:X.calm=true→X.A.handled=none
  frames:X.A.frames=some X.stack
  stk:X.stack=X.outer∨(X.stack=X.env :: X.outer∧X.env.frame=some X.env.locals)
  exf:∀ b∈X.ex,b≠X.env.locals∧∀ x c,X.env.cells.lookup x=some c→c≠b
  bs:∀ b o,X.base.get? b=some o→X.s₀.heap.get? b=some o∧X.H₀ b=none
  bsz:X.base.objs.size≤X.s₀.heap.objs.size
  noex:∀ b o,X.base.get? b=some o→b∉X.ex
  exfs:∀ b∈X.ex,b∉X.fs
  funs:X.s₀.heap.FunFrames X.base X.outer
  frf:∀ b∈X.fs,X.H₀ b=none
structure Inv (X:Cx) (pins:List (Addr × Obj)) (σ:List (Option V)) (H:Hp) (s:Shared):Prop where
  ok:X.Ok
  os:s.os=X.s₀.os
  bare:AllBare s.gens
  base:Un X.fs X.ex X.H₀ H X.s₀.heap s.heap
  loc:∃ m,s.heap.Ns X.env.locals m∧∀(i:Nat) (x:Str) (v:V),X.N[i]?=some x→σ[i]?=some (some v)→Vis X.env.scope x→∃ u,aX v u∧Look X.env s.heap m x u
  cell:∀ x c,X.env.cells.lookup x=some c→∃ v,s.heap.IsCell c v
  free:H X.env.locals=none
  freeC:∀ x c,X.env.cells.lookup x=some c→H c=none
  pin:∀ p∈X.pn++pins,s.heap.get? p.1=some p.2∧H p.1=none∧p.1≠X.env.locals∧p.1∉X.fs∧∀ v,p.2.data≠.cell v
  hok:HOk X.prog X.w H s.heap
  len:σ.length=X.N.length
section
variable {X:Cx} {pins:List (Addr × Obj)} {σ:List (Option V)} {H H':Hp} {s:Shared} {h':Heap}
theorem Cx.Ok.nofr (ok:X.Ok) {b:Addr} {o:Obj} (e:X.base.get? b=some o):b∉X.fs:=λhb=>by
  have:=(ok.funs.mem hb).1
  rw[e]at this;cases this
theorem Inv.bs (I:Inv X pins σ H s):∀ b o,X.base.get? b=some o→s.heap.get? b=some o∧H b=none:=λb o e =>
  ⟨I.base.keep b o (I.ok.bs b o e).1 (I.ok.bs b o e).2 (I.ok.nofr e) (I.ok.noex b o e),I.base.free b o (I.ok.bs b o e).1 (I.ok.bs b o e).2 (I.ok.noex b o e)⟩
theorem Inv.bk (I:Inv X pins σ H s):∀ b o,X.base.get? b=some o→s.heap.get? b=some o:=λb o e=>(I.bs b o e).1
theorem Inv.mod (I:Inv X pins σ H s):Mod X.K X.mg X.base:=I.ok.mod
theorem Inv.kIn (I:Inv X pins σ H s):X.K.In s.heap:=I.ok.mod.kin.keeps I.bk
theorem Inv.fr (I:Inv X pins σ H s):∃ m,Fr X.base X.env.locals s.heap m :=
  let ⟨m,hn,_⟩:=I.loc
  ⟨m,hn,I.bk,Nat.le_trans I.ok.bsz I.ok.above⟩
theorem Inv.lt (I:Inv X pins σ H s):X.env.locals < s.heap.objs.size:=let ⟨_,hn,_⟩:=I.loc;hn.lt
theorem Inv.sz (I:Inv X pins σ H s):X.s₀.heap.objs.size≤s.heap.objs.size:=Nat.le_trans I.ok.above (Nat.le_of_lt I.lt)
theorem Inv.nofs (I:Inv X pins σ H s) {a:Addr} (h:s.heap.objs.size≤a):a∉X.fs:=λhb=>by
  obtain⟨_,o,ho,_⟩:=I.ok.funs.mem hb
  exact absurd (Nat.lt_of_lt_of_le (Heap.lt_size ho) (Nat.le_trans I.sz h)) (Nat.lt_irrefl _)
theorem Inv.cne (I:Inv X pins σ H s):∀ x c,X.env.cells.lookup x=some c→c≠X.env.locals:=λx c e z=>by
  obtain⟨v,o,ho,hd⟩:=I.cell x c e
  obtain⟨m,⟨o',es,ep,ho',hd',_⟩,_⟩:=I.loc
  rw[z,ho']at ho;cases ho;rw[hd']at hd;cases hd
theorem Inv.funs (I:Inv X pins σ H s):s.heap.FunFrames X.base X.outer:=by
  have all:∀(l:List Env),(∀ b∈frs l,b∈X.fs)→X.s₀.heap.FunFrames X.base l→s.heap.FunFrames X.base l:=by
    intro l
    induction l with
    | nil=>intro _ _;trivial
    | cons env r ih =>
      intro hs hl
      obtain⟨hk,⟨L,o,hf,hn,ho,hd⟩,hr⟩:=hl
      have hL:L∈X.fs:=hs L (by unfold frs;rw[List.filterMap_cons,hf];exact List.mem_cons_self)
      obtain⟨sl,e⟩:=I.base.slot L o ho (I.ok.frf L hL) hL λz=>I.ok.exfs L z hL
      exact⟨hk,⟨L,_,hf,hn,e,hd⟩,ih (λb hb=>hs b (by unfold frs;rw[List.filterMap_cons,hf];exact List.mem_cons_of_mem _ hb)) hr⟩
  exact all X.outer (λ_ hb=>hb) I.ok.funs
theorem Inv.stack (I:Inv X pins σ H s):s.heap.FunFrames X.base X.stack:=by
  rcases I.ok.stk with e | ⟨e,hf⟩
  · rw[e];exact I.funs
  · rw[e]
    obtain⟨m,hn,_⟩:=I.loc
    refine .cons (by rw[I.ok.kind];decide) hf hn ?_ I.funs
    exact Heap.get?_none_of_le (Nat.le_trans I.ok.bsz I.ok.above)
theorem Inv.stkSub (I:Inv X pins σ H s):∀ b∈frs X.stack,b∈X.env.locals :: X.fs:=λb hb=>by
  rcases I.ok.stk with e | ⟨e,hf⟩
  · rw[e]at hb;exact List.mem_cons_of_mem _ hb
  · rw[e]at hb
    unfold frs at hb
    rw[List.filterMap_cons,hf]at hb
    exact hb
theorem Inv.stkFree (I:Inv X pins σ H s):∀ b∈frs X.stack,H b=none:=λb hb=>by
  rcases List.mem_cons.mp (I.stkSub b hb) with e | hb
  · rw[e];exact I.free
  · obtain⟨_,o,ho,_⟩:=I.ok.funs.mem hb
    exact I.base.free b o ho (I.ok.frf b hb) λz=>I.ok.exfs b z hb
theorem Inv.step {g':Array GenState} {t':Nat} {d':Drawn} {ch:List Addr} (I:Inv X pins σ H s)
    (hch:∀ b∈ch,(b∈X.ex∨X.s₀.heap.objs.size≤b)∧b≠X.env.locals∧(∀ x c,X.env.cells.lookup x=some c→c≠b)∧∀ p∈X.pn++pins,p.1≠b)
    (keep:∀ b o,b≠X.env.locals→b∉X.fs→b∉ch→s.heap.get? b=some o→H b=none→h'.get? b=some o)
    (slot:∀ b o,b≠X.env.locals→b∈X.fs→b∉ch→s.heap.get? b=some o→H b=none→∃ sl,h'.get? b=some { o with slots:=sl }) (free:∀ b o,b∉ch→s.heap.get? b=some o→H b=none→H' b=none)
    (there:∀ b o,b∉ch→s.heap.get? b=some o→∃ o',h'.get? b=some o')
    (tups:∀ b xs,H b=some (.tup xs)→H' b=some (.tup xs)) (frzs:∀ b o u,H b=some (.frz o u)→H' b=some (.frz o u)) (tbls:∀ b ps,H b=some (.tbl ps)→∃ more,H' b=some (.tbl (ps++more)))
    (ns:∀ m,s.heap.Ns X.env.locals m→h'.Ns X.env.locals m) (hok:HOk X.prog X.w H' h') (hg:AllBare g') :
    Inv X pins σ H' { s with heap:=h',gens:=g',drawn:=d',toks:=t' }:=by
  have neL:∀ b o,X.s₀.heap.get? b=some o→b≠X.env.locals:=λb o e=>Nat.ne_of_lt (Nat.lt_of_lt_of_le (Heap.lt_size e) I.ok.above)
  have neC:∀ b o,X.s₀.heap.get? b=some o→b∉X.ex→b∉ch:=λb o e hx hb=>by
    rcases(hch b hb).1 with z | z
    · exact hx z
    · exact absurd (Nat.lt_of_lt_of_le (Heap.lt_size e) z) (Nat.lt_irrefl _)
  have cellK:∀ x c,X.env.cells.lookup x=some c→∀ v,s.heap.IsCell c v→h'.IsCell c v:=λx c e v ⟨o,ho,hd⟩=>by
    have nch:c∉ch:=λz=>(hch c z).2.2.1 x c e rfl
    by_cases hc:c∈X.fs
    · obtain⟨sl,q⟩:=slot c o (I.cne x c e) hc nch ho (I.freeC x c e)
      exact⟨_,q,hd⟩
    · exact⟨o,keep c o (I.cne x c e) hc nch ho (I.freeC x c e),hd⟩
  refine⟨I.ok,I.os,hg,⟨λb o e n hb hx=>?_,λb o e n hb hx=>?_,λb o e n hx=>?_,λb o e hx=>?_,λb xs e=>tups b xs (I.base.tups b xs e),λb o xs e=>frzs b o xs (I.base.frzs b o xs e),λb ps e=>?_⟩,?_,λx c e=>?_,?_,λx c e=>?_,λp hp=>?_,hok,I.len⟩
  · exact keep b o (neL b o e) hb (neC b o e hx) (I.base.keep b o e n hb hx) (I.base.free b o e n hx)
  · obtain⟨sl,e1⟩:=I.base.slot b o e n hb hx
    obtain⟨sl',e2⟩:=slot b _ (neL b o e) hb (neC b o e hx) e1 (I.base.free b o e n hx)
    exact⟨sl',e2⟩
  · obtain⟨o',e1⟩:=I.base.there b o e hx
    exact free b o' (neC b o e hx) e1 (I.base.free b o e n hx)
  · obtain⟨o',e1⟩:=I.base.there b o e hx
    exact there b o' (neC b o e hx) e1
  · obtain⟨m1,e1⟩:=I.base.tbls b ps e
    obtain⟨m2,e2⟩:=tbls b _ e1
    exact⟨m1++m2,by rw[e2,Array.append_assoc]⟩
  · obtain⟨m,hn,hl⟩:=I.loc
    refine⟨m,ns m hn,λi x v e1 e2 e3=>?_⟩
    obtain⟨u,r,l⟩:=hl i x v e1 e2 e3
    refine⟨u,r,?_⟩
    rcases l with l | ⟨k,c,e,z⟩
    · exact .inl l
    · exact .inr ⟨k,c,e,cellK x c e _ z⟩
  · obtain⟨v,z⟩:=I.cell x c e
    exact⟨v,cellK x c e v z⟩
  · obtain⟨m,⟨o,_,_,ho,_⟩,_⟩:=I.loc
    exact free _ o (λz=>(hch _ z).2.1 rfl) ho I.free
  · obtain⟨v,o,ho,hd⟩:=I.cell x c e
    exact free c o (λz=>(hch c z).2.2.1 x c e rfl) ho (I.freeC x c e)
  · obtain⟨e,n,ne,nf,d⟩:=I.pin p hp
    have nch:p.1∉ch:=λz=>(hch p.1 z).2.2.2 p hp rfl
    exact⟨keep p.1 p.2 ne nf nch e n,free p.1 p.2 nch e n,ne,nf,d⟩
theorem Inv.un {t':Nat} (I:Inv X pins σ H s) (u:Un X.fs [] H H' s.heap h') (hok:HOk X.prog X.w H' h'):Inv X pins σ H' { s with heap:=h',toks:=t' }:=by
  obtain⟨m,⟨o,es,ep,ho,r⟩,_⟩:=id I.loc
  obtain⟨sl,hL⟩:=u.any ho I.free (by simp)
  exact I.step (g':=s.gens) (d':=s.drawn) (ch:=[]) (λ_ z=>nomatch z) (λb o _ hb _ e n=>u.keep b o e n hb (by simp)) (λb o _ hb _ e n=>u.slot b o e n hb (by simp)) (λb o _ e n=>u.free b o e n (by simp)) (λb o _ e=>u.there b o e (by simp)) u.tups u.frzs u.tbls (λm' hm=>by
    obtain⟨o',es',ep',ho',r'⟩:=hm
    rw[ho]at ho';cases ho'
    exact⟨_,es',ep',hL,r'⟩) hok I.bare
theorem Inv.call {g':Array GenState} {t':Nat} {d':Drawn} {ch:List Addr} (I:Inv X pins σ H s) (u:Un (frs X.stack) ch H H' s.heap h') (hok:HOk X.prog X.w H' h') (hg:AllBare g')
    (hch:∀ b∈ch,(b∈X.ex∨X.s₀.heap.objs.size≤b)∧b≠X.env.locals∧(∀ x c,X.env.cells.lookup x=some c→c≠b)∧∀ p∈X.pn++pins,p.1≠b) :
    Inv X pins σ H' { s with heap:=h',gens:=g',drawn:=d',toks:=t' }:=by
  obtain⟨m,⟨o,es,ep,ho,r⟩,_⟩:=id I.loc
  obtain⟨sl,hL⟩:=u.any ho I.free λz=>(hch _ z).2.1 rfl
  exact I.step (ch:=ch) hch (λb o hL hb hc e n=>u.keep b o e n (λz=>(List.mem_cons.mp (I.stkSub b z)).elim hL hb) hc) (λb o _ _ hc e n=>u.any e n hc) (λb o hc e n=>u.free b o e n hc) (λb o hc e=>u.there b o e hc) u.tups u.frzs u.tbls (λm' hm=>by
    obtain⟨o',es',ep',ho',r'⟩:=hm
    rw[ho]at ho';cases ho'
    exact⟨_,es',ep',hL,r'⟩) hok hg
theorem Inv.turned {t':Nat} {it:Addr} (I:Inv X pins σ H s) (k:∀ b o,b≠it→s.heap.get? b=some o→h'.get? b=some o) (hn:H it=none) (hL:it≠X.env.locals)
    (h1:it∈X.ex∨X.s₀.heap.objs.size≤it) (h2:∀ x c,X.env.cells.lookup x=some c→c≠it) (h3:∀ p∈X.pn++pins,p.1≠it):Inv X pins σ H { s with heap:=h',toks:=t' }:=by
  have nit:∀ b u,H b=some u→b≠it:=λb u e z=>by rw[z,hn]at e;cases e
  refine I.step (g':=s.gens) (d':=s.drawn) (ch:=[it]) (λb hb=>?_) (λb o _ _ hc e _=>k b o (λz=>hc (by simp [z])) e) (λb o _ _ hc e _=>⟨o.slots,k b o (λz=>hc (by simp [z])) e⟩) (λ_ _ _ _ n=>n)
    (λb o hc e=>⟨o,k b o (λz=>hc (by simp [z])) e⟩) (λ_ _ e=>e) (λ_ _ _ e=>e) (λb ps e=>⟨#[],by rw[e];simp⟩) (λm hm=>?_) (λb u e=>?_) I.bare
  · have e:b=it:=by simpa using hb
    subst e
    exact⟨h1,hL,h2,h3⟩
  · obtain⟨o,es,ep,ho,r⟩:=hm
    exact⟨o,es,ep,k _ o (Ne.symm hL) ho,r⟩
  · refine(I.hok b u e).stay (λc v hc q=>k c v ?_ q) (λ_ q=>q) λ_ _ q=>q
    rcases hc with z | z
    · rw[z];exact nit b u e
    · exact nit c _ z
theorem Inv.tok (I:Inv X pins σ H s) (t:Nat):Inv X pins σ H { s with toks:=t }:=I.un (h':=s.heap) (t':=t) Un.refl I.hok
theorem Inv.kept {t':Nat} (I:Inv X pins σ H s) (k:∀ b u,s.heap.get? b=some u→h'.get? b=some u):Inv X pins σ H { s with heap:=h',toks:=t' }:=I.un (Un.kept k) (I.hok.kept k)
theorem Inv.laid {a:Addr} {o:HO} {t':Nat} (I:Inv X pins σ H s) (k:∀ b u,s.heap.get? b=some u→h'.get? b=some u) (hp:s.heap.objs.size≤a) (new:zaF X.prog X.w (upd H a o) h' a o) :
    Inv X pins σ (upd H a o) { s with heap:=h',toks:=t' }:=I.un (Un.laid k hp (I.hok.fresh hp)) (I.hok.laid k hp new)
theorem Inv.write {x e:Addr} {o:HO} {t':Nat} (I:Inv X pins σ H s) (mu:Mut (H x)) (he:e=x∨H e=some (.own x)) (k:∀ b u,b≠e→s.heap.get? b=some u→h'.get? b=some u) (heo:∃ u,h'.get? e=some u)
    (new:zaF X.prog X.w (upd H x o) h' x o):Inv X pins σ (upd H x o) { s with heap:=h',toks:=t' }:=I.un (Un.write mu he k heo) (I.hok.write mu he k heo new)
theorem Inv.pins_of {pins':List (Addr × Obj)} (I:Inv X pins σ H s) (h:∀ p∈pins',s.heap.get? p.1=some p.2∧H p.1=none∧p.1≠X.env.locals∧p.1∉X.fs∧∀ v,p.2.data≠.cell v):Inv X pins' σ H s :=
  ⟨I.ok,I.os,I.bare,I.base,I.loc,I.cell,I.free,I.freeC,λp hp=>(mPq hp).elim (λz=>I.pin p (List.mem_append_left _ z)) (h p),I.hok,I.len⟩
theorem ziH {N:List Str} (hN:N.Nodup) {i j:Nat} {x:Str} (a:N[i]?=some x) (b:N[j]?=some x):i=j:=by
  obtain⟨h1,e1⟩:=gEq a
  obtain⟨h2,e2⟩:=gEq b
  exact(List.getElem_inj hN).mp (e1.trans e2.symm)
theorem zhP {M:Model} {A:Around} {E:Value→Shared→Prop} {i:Nat} {x:Str} {v:V} {u:Value} {Q:Unit→Shared→Prop} (I:Inv X pins σ H s) (hN:X.N.Nodup) (hi:X.N[i]?=some x) (hx:Loc X.env.scope x) (r:aX v u)
    (h:∀ s',Inv X pins (σ.set i (some v)) H s'→(∃ a,Heap.SameBut a s.heap s'.heap∧(a=X.env.locals∨X.env.cells.lookup x=some a))→Q () s') (hf:X.fn x=true∨X.env.scope.names.lookup x=some .local:=by first | exact .inl rfl | exact .inr rfl | assumption):wpAny M A (storeName X.env x u) Q E s:=by
  obtain⟨m,hn,hl⟩:=id I.loc
  have hcls:(X.env.scope.kind == .class||(X.env.scope.kind == .module&&X.env.locals != X.env.globals))=false:=by rw[I.ok.kind];rfl
  have hiσ:i < σ.length:=by rw[I.len];exact(gEq hi).1
  have cne:=I.cne
  have tracked:∀ {a:Addr} {h':Heap},(∃ o,s.heap.get? a=some o∧H a=none)→Heap.SameBut a s.heap h'→HOk X.prog X.w H h':=λ{a h'} ha hs b ob e=>by
    obtain⟨_,_,hfree⟩:=ha
    refine(I.hok b ob e).stay (λc w' hc q=>(hs.2 c ?_).trans q) (λ_ q=>q) λ_ _ q=>q
    rintro rfl
    rcases hc with rfl | hc
    · rw[hfree]at e;cases e
    · rw[hfree]at hc;cases hc
  rcases hx with hk | hk
  · refine wpAny_storeName_local hk hn (λh' hn' hs=>?_) hcls
    obtain⟨oL,_,_,hoL,_⟩:=id hn
    refine h _ ⟨I.ok,I.os,I.bare,⟨λb o e n hb hx=>?_,λb o e n hb hx=>?_,I.base.free,λb o e hx=>?_,I.base.tups,I.base.frzs,I.base.tbls⟩,⟨_,hn',λj y v' e1 e2 e3=>?_⟩,λy c e=>?_,I.free,I.freeC,λp hp=>?_,tracked ⟨oL,hoL,I.free⟩ hs,by simpa using I.len⟩ ⟨_,hs,.inl rfl⟩
    · exact(hs.2 b (Nat.ne_of_lt (Nat.lt_of_lt_of_le (Heap.lt_size e) I.ok.above))).trans (I.base.keep b o e n hb hx)
    · obtain⟨sl,e1⟩:=I.base.slot b o e n hb hx
      exact⟨sl,(hs.2 b (Nat.ne_of_lt (Nat.lt_of_lt_of_le (Heap.lt_size e) I.ok.above))).trans e1⟩
    · obtain⟨o',e1⟩:=I.base.there b o e hx
      exact⟨o',(hs.2 b (Nat.ne_of_lt (Nat.lt_of_lt_of_le (Heap.lt_size e) I.ok.above))).trans e1⟩
    · by_cases hj:j=i
      · subst hj
        rw[hi]at e1;cases e1
        rw[List.getElem?_set_self hiσ]at e2
        cases e2
        exact⟨u,r,.inl ⟨hk,by simp⟩⟩
      · rw[List.getElem?_set_ne (Ne.symm hj)]at e2
        obtain⟨u',r',q⟩:=hl j y v' e1 e2 e3
        refine⟨u',r',?_⟩
        rcases q with ⟨k,e⟩ | ⟨k,c,e,z⟩
        · refine .inl ⟨k,?_⟩
          have:y≠x:=λe=>hj (ziH hN e1 (e ▸ hi))
          simp [this,e]
        · exact .inr ⟨k,c,e,z.sameBut hs (cne y c e)⟩
    · obtain⟨w',z⟩:=I.cell y c e
      exact⟨w',z.sameBut hs (cne y c e)⟩
    · obtain⟨e,n,ne,nf,d⟩:=I.pin p hp
      exact⟨(hs.2 p.1 ne).trans e,n,ne,nf,d⟩
  · have hfn:X.fn x=true:=by
      rcases hf with z | z
      · exact z
      · rw[z]at hk;cases hk
    obtain⟨c,hc⟩:=I.ok.has x (.inl hk)
    obtain⟨w',z⟩:=I.cell x c hc
    refine wpAny_storeName_cell I.ok.kind hk hc z (λh' hc' hs=>?_)
    obtain⟨oc,hoc,hocd⟩:=id z
    refine h { s with heap:=h' } ⟨I.ok,I.os,I.bare,⟨λb o e n hb hx=>?_,λb o e n hb hx=>?_,I.base.free,λb o e hx=>?_,I.base.tups,I.base.frzs,I.base.tbls⟩,⟨m,hn.sameBut hs (Ne.symm (cne x c hc)),λj y v' e1 e2 e3=>?_⟩,λy c' e=>?_,I.free,I.freeC,λp hp=>?_,tracked ⟨oc,hoc,I.freeC x c hc⟩ hs,by simpa using I.len⟩ ⟨c,hs,.inr hc⟩
    · exact(hs.2 b (Nat.ne_of_lt (Nat.lt_of_lt_of_le (Heap.lt_size e) (I.ok.cab x c hfn hc)))).trans (I.base.keep b o e n hb hx)
    · obtain⟨sl,e1⟩:=I.base.slot b o e n hb hx
      exact⟨sl,(hs.2 b (Nat.ne_of_lt (Nat.lt_of_lt_of_le (Heap.lt_size e) (I.ok.cab x c hfn hc)))).trans e1⟩
    · obtain⟨o',e1⟩:=I.base.there b o e hx
      exact⟨o',(hs.2 b (Nat.ne_of_lt (Nat.lt_of_lt_of_le (Heap.lt_size e) (I.ok.cab x c hfn hc)))).trans e1⟩
    · by_cases hj:j=i
      · subst hj
        rw[hi]at e1;cases e1
        rw[List.getElem?_set_self hiσ]at e2
        cases e2
        exact⟨u,r,.inr ⟨.inl hk,c,hc,hc'⟩⟩
      · rw[List.getElem?_set_ne (Ne.symm hj)]at e2
        obtain⟨u',r',q⟩:=hl j y v' e1 e2 e3
        refine⟨u',r',?_⟩
        rcases q with q | ⟨k,c',e,z'⟩
        · exact .inl q
        · refine .inr ⟨k,c',e,z'.sameBut hs ?_⟩
          rintro rfl
          exact hj (ziH hN e1 (I.ok.inj _ _ _ e hc ▸ hi))
    · by_cases hcc:c'=c
      · subst hcc;exact⟨_,hc'⟩
      · obtain⟨w2,z2⟩:=I.cell y c' e
        exact⟨w2,z2.sameBut hs hcc⟩
    · obtain⟨e,n,ne,nf,d⟩:=I.pin p hp
      refine⟨(hs.2 p.1 ?_).trans e,n,ne,nf,d⟩
      intro q
      rw[q,hoc]at e
      have q':oc=p.2:=Option.some.inj e
      exact d w' (by rw[←q'];exact hocd)
theorem ziB {M:Model} {A:Around} {E:Value→Shared→Prop} {i:Nat} {x:Str} {v:V} {u:Value} {Q:Unit→Shared→Prop} (I:Inv X pins σ H s) (hN:X.N.Nodup) (hi:X.N[i]?=some x) (hx:Loc X.env.scope x) (r:aX v u)
    (h:∀ s',Inv X pins (σ.set i (some v)) H s'→Q () s') (hf:X.fn x=true∨X.env.scope.names.lookup x=some .local:=by first | exact .inl rfl | exact .inr rfl | assumption):wpAny M A (storeName X.env x u) Q E s :=
  zhP I hN hi hx r (λs' I' _=>h s' I') hf
theorem Inv.call' {s':Shared} {ch:List Addr} (I:Inv X pins σ H s) (ho:s'.os=s.os) (u:Un (frs X.stack) ch H H' s.heap s'.heap) (hok:HOk X.prog X.w H' s'.heap) (hg:AllBare s'.gens)
    (hch:∀ b∈ch,(b∈X.ex∨X.s₀.heap.objs.size≤b)∧b≠X.env.locals∧(∀ x c,X.env.cells.lookup x=some c→c≠b)∧∀ p∈X.pn++pins,p.1≠b):Inv X pins σ H' s':=by
  obtain⟨h',g',d',t',o'⟩:=s'
  have e:o'=s.os:=ho
  subst e
  exact I.call (g':=g') (t':=t') (d':=d') u hok hg hch
end
abbrev XK:=Value→Option Addr→Hp→Prop
abbrev St:=List (Option V)
abbrev VK:=V→Hp→Prop
abbrev TE:=St→Hp→VK→Prop
abbrev TT:=St→Hp→(Bool→Hp→Prop)→Prop
abbrev TA:=St→Hp→(List V→Hp→Prop)→Prop
structure zbT where
  nx:St→Hp→Prop
  rt:VK
  bk:St→Hp→Prop:=λ_ _=>False
  ct:St→Hp→Prop:=λ_ _=>False
abbrev TS:=zbT→St→Hp→Prop
def EP (X:Cx) (pins:List (Addr × Obj)) (σ:St) (Q:VK) (u:Value) (s':Shared):Prop:=∃ v H',Inv X pins σ H' s'∧aX v u∧Q v H'
def TP (X:Cx) (pins:List (Addr × Obj)) (σ:St) (Q:Bool→Hp→Prop) (b:Bool) (s':Shared):Prop:=∃ H',Inv X pins σ H' s'∧Q b H'
def AP (X:Cx) (pins:List (Addr × Obj)) (σ:St) (Q:List V→Hp→Prop) (us:List Value) (s':Shared):Prop:=∃ vs H',Inv X pins σ H' s'∧aW vs us∧Q vs H'
def SP (X:Cx) (pins:List (Addr × Obj)) (D:zbT) (f:Flow) (s':Shared):Prop :=
  match f with
  | .next=>∃ σ' H',Inv X pins σ' H' s'∧D.nx σ' H'
  | .brk=>∃ σ' H',Inv X pins σ' H' s'∧D.bk σ' H'
  | .cont=>∃ σ' H',Inv X pins σ' H' s'∧D.ct σ' H'
  | .ret u=>∃ v σ' H',Inv X pins σ' H' s'∧aX v u∧D.rt v H'
def PE (X:Cx) (e:Expr) (t:TE):Prop :=
  ∀(pins:List (Addr × Obj)) (s:Shared) (σ:St) (H:Hp) (Q:VK),Inv X pins σ H s→t σ H Q→wpAny (model X.prog X.w) X.A (eval e X.env) (EP X pins σ Q) X.xe s
def PT (X:Cx) (e:Expr) (t:TT):Prop :=
  ∀(pins:List (Addr × Obj)) (s:Shared) (σ:St) (H:Hp) (Q:Bool→Hp→Prop),Inv X pins σ H s→t σ H Q→wpAny (model X.prog X.w) X.A (isTrue e X.env (eval e X.env)) (TP X pins σ Q) X.xe s
def PW (X:Cx) (e:Expr) (t:TT):Prop :=
  ∀(whole:Sem Value) (pins:List (Addr × Obj)) (s:Shared) (σ:St) (H:Hp) (Q:Bool→Hp→Prop),Inv X pins σ H s→t σ H Q→wpAny (model X.prog X.w) X.A (isTrue e X.env whole) (TP X pins σ Q) X.xe s
theorem PW.pt {X:Cx} {e:Expr} {t:TT} (h:PW X e t):PT X e t:=h _
def PA (X:Cx) (es:List Expr) (t:TA):Prop :=
  ∀(pos:Pos) (pins:List (Addr × Obj)) (s:Shared) (σ:St) (H:Hp) (Q:List V→Hp→Prop),Inv X pins σ H s→t σ H Q→wpAny (model X.prog X.w) X.A (spliced (backTo pos (starEach es X.env))) (AP X pins σ Q) X.xe s
def PS (X:Cx) (st:Stmt) (t:TS):Prop :=
  ∀(pins:List (Addr × Obj)) (s:Shared) (σ:St) (H:Hp) (D:zbT),Inv X pins σ H s→t D σ H→wpAny (model X.prog X.w) X.A (exec st X.env) (SP X pins D) X.xe s
def PSs (X:Cx) (st:List Stmt) (t:TS):Prop :=
  ∀(pins:List (Addr × Obj)) (s:Shared) (σ:St) (H:Hp) (D:zbT),Inv X pins σ H s→t D σ H→wpAny (model X.prog X.w) X.A (execs st X.env) (SP X pins D) X.xe s
theorem thn {α:Type} {t:Sem α} {Q Q':α→Shared→Prop} {M:Model} {A:Around} {E:Value→Shared→Prop} {s:Shared} (h:wpAny M A t Q E s) (hQ:∀ a s,Q a s→Q' a s):wpAny M A t Q' E s:=wpAny_mono h hQ λ_ _ x=>x
end L2
namespace L2
open PySem PySem.Spec PyProof.Rows
section
variable {X:Cx}
theorem bin {a b:Expr} {ta tb:TE} (ha:PE X a ta) (hb:PE X b tb) {pins:List (Addr × Obj)} {s:Shared} {σ:St} {H:Hp} {R:V→V→Hp→Prop} (I:Inv X pins σ H s) (h:ta σ H λx H1=>tb σ H1 λy H2=>R x y H2)
    {α:Type} {Q:α→Shared→Prop} {f:Value→Value→Sem α}
    (hf:∀ v u s2 x y H2,Inv X pins σ H2 s2→aX x v→aX y u→R x y H2→wpAny (model X.prog X.w) X.A (f v u) Q X.xe s2) :
    wpAny (model X.prog X.w) X.A (eval a X.env) (λv s₁=>wpAny (model X.prog X.w) X.A (eval b X.env) (λu s₂=>wpAny (model X.prog X.w) X.A (f v u) Q X.xe s₂) X.xe s₁) X.xe s:=by
  refine thn (ha pins s σ H _ I h) λv s1 ⟨x,H1,I1,r1,q1⟩=>?_
  refine thn (hb pins s1 σ H1 _ I1 q1) λu s2 ⟨y,H2,I2,r2,q2⟩=>?_
  exact hf v u s2 x y H2 I2 r1 r2 q2
inductive tVar (i:Nat):TE|m{σ H Q} v:σ[i]?=some (some v)→Q v H→tVar i σ H Q
def tC (v:V):TE:=λ_ H Q=>Q v H
theorem pe_var {i:Nat} {x:Str} {pos:Pos} (hN:X.N[i]?=some x) (hv:Vis X.env.scope x) (hd:(x == ("__debug__":Str))=false:=by decide) (hcd:(x == ("__classdict__":Str))=false:=by decide):PE X (.Name x pos) (tVar i):=by
  intro pins s σ H Q I h
  obtain⟨v,e,h⟩:=h
  obtain⟨m,hn,hl⟩:=I.loc
  obtain⟨u,r,l⟩:=hl i x v hN e hv
  have fin:EP X pins σ Q u s:=⟨v,H,I,r,h⟩
  rcases l with ⟨hk,hm⟩ | ⟨hk,c,hc,hcell⟩
  · exact wpAny_Name (wpAny_loadName_local I.ok.kind hk hn hm fin) hd
  · rcases hk with hk | hk
    · exact wpAny_Name (wpAny_loadName_cell I.ok.kind hk hc hcell fin) hd
    · exact wpAny_Name (wpAny_loadName_free I.ok.kind hk hc hcell fin hcd) hd
theorem ad {i j pos}:PE X (.Constant (.int i) j pos) (tC (.int i)):=λ_ _ _ H _ I h=>wpAny_Constant_int ⟨.int i,H,I.tok _,⟨_,rfl⟩,h⟩
theorem zam {b j pos}:PE X (.Constant (.bool b) j pos) (tC (.bl b)):=λ_ _ _ H _ I h=>Constant_bool ⟨.bl b,H,I,rfl,h⟩
theorem zb8 {j pos}:PE X (.Constant .none j pos) (tC .non):=λ_ _ _ H _ I h=>Constant_none ⟨.non,H,I,rfl,h⟩
theorem aU {x j pos}:PE X (.Constant (.str x) j pos) (tC (.str x)):=λ_ _ _ H _ I h=>Calls.Constant_str ⟨.str x,H,I.tok _,⟨_,rfl⟩,h⟩
def Gl (X:Cx) (x:Str):Prop:=X.env.kindOf x=some .globalImplicit
theorem zgt {E:Value→Shared→Prop} {pins:List (Addr × Obj)} {s:Shared} {σ:St} {H:Hp} {x:Str} {u:Value} {pos:Pos} {Q:Value→Shared→Prop} (I:Inv X pins σ H s) (hg:Gl X x) (hm:X.mg x=some u) (h:Q u s)
    (hd:(x == ("__debug__":Str))=false:=by decide):wpAny (model X.prog X.w) X.A (eval (.Name x pos) X.env) Q E s :=
  Calls.Name_function_global I.ok.kind hg (Calls.loadGlobal_global (by rw[I.ok.glob];exact I.mod.glob.keeps I.bk) hm h) hd
theorem zdM {E:Value→Shared→Prop} {pins:List (Addr × Obj)} {s:Shared} {σ:St} {H:Hp} {x:Str} {u:Value} {pos:Pos} {Q:Value→Shared→Prop} (I:Inv X pins σ H s) (hg:Gl X x) (hm:X.mg x=none) (hv:bootBuiltins x=some u) (h:Q u s)
    (hn:x≠"__name__":=by decide) (hd:(x == ("__debug__":Str))=false:=by decide):wpAny (model X.prog X.w) X.A (eval (.Name x pos) X.env) Q E s:=by
  obtain⟨mb,h1,h2⟩:=I.mod.blt
  exact Calls.Name_function_global I.ok.kind hg (Calls.loadGlobal_builtin (by rw[I.ok.glob];exact I.mod.glob.keeps I.bk) hm (by rw[I.ok.blt];exact h1.keeps I.bk) ((h2 x hn).trans hv) h) hd
theorem zbU {x:Str} {v:V} {u:Value} {pos:Pos} (hg:Gl X x) (hm:X.mg x=some u) (r:aX v u) (hd:(x == ("__debug__":Str))=false:=by decide):PE X (.Name x pos) (tC v) :=
  λ_ _ _ H _ I h=>zgt I hg hm ⟨v,H,I,r,h⟩ hd
theorem za7 {x:Str} {v:V} {u:Value} {pos:Pos} (hg:Gl X x) (hm:X.mg x=none) (hv:bootBuiltins x=some u) (r:aX v u) (hn:x≠"__name__":=by decide) (hd:(x == ("__debug__":Str))=false:=by decide):PE X (.Name x pos) (tC v) :=
  λ_ _ _ H _ I h=>zdM I hg hm hv ⟨v,H,I,r,h⟩ hn hd
variable {a b:Expr} {ta tb:TE} {pos:Pos}
def PC (X:Cx) (op:CmpOp) (a b:Expr) (t:TE):Prop :=
  ∀(pins:List (Addr × Obj)) (s:Shared) (σ:St) (H:Hp) (Q:VK),Inv X pins σ H s→t σ H Q →
    wpAny (model X.prog X.w) X.A (eval a X.env) (λv s₁=>wpAny (model X.prog X.w) X.A (eval b X.env) (λu s₂=>wpAny (model X.prog X.w) X.A (compareOp op v u) (EP X pins σ Q) X.xe s₂) X.xe s₁) X.xe s
inductive isB:V→Hp→(Bool→Hp→Prop)→Prop|m{x H Q} c:x=.bl c→Q c H→isB x H Q
def tB (t:TE):TT:=λσ H Q=>t σ H λx H1=>isB x H1 Q
theorem zhb {op:CmpOp} {t:TE} (h:PC X op a b t) (h1:behindInMarks op b=false:=by first | exact nobehind _ (by decide) (by decide) | rfl):PT X (.Compare a [op] [b] pos) (tB t):=by
  intro pins s σ H Q I hw
  refine wpAny_isTrue_Compare1 (thn (h pins s σ H _ I hw) λv s1 h1=>thn h1 λu s2 h2=>thn h2 λc s3 ⟨x,H1,I1,r1,q1⟩=>?_) h1
  obtain⟨d,rfl,q⟩:=q1
  cases r1
  exact wpAny_truthy_bool ⟨H1,I1,q⟩
theorem zaS {e:Expr} {t:TE} (h:PE X e t) (he:∀ whole,isTrue e X.env whole=(do let v ←whole;standAt e.pos;holding [v] (truthy v)):=by intro _;rfl):PT X e (tB t):=by
  intro pins s σ H Q I hw
  refine isTrue_plain (thn (h pins s σ H _ I hw) λv s1 ⟨x,H1,I1,r1,q1⟩=>?_) (he _)
  obtain⟨d,rfl,q⟩:=q1
  cases r1
  exact wpAny_truthy_bool ⟨H1,I1,q⟩
variable {tA tB':TT} {zb1:List Expr}
def tAnd (t u:TT):TT:=λσ H Q=>t σ H λc H1=>if c=true then u σ H1 Q else Q false H1
def tOr (t u:TT):TT:=λσ H Q=>t σ H λc H1=>if c=true then Q true H1 else u σ H1 Q
def tNot (t:TT):TT:=λσ H Q=>t σ H λc H1=>Q (!c) H1
theorem za5 (ha:PT X a tA):PW X (.BoolOp .And [a] pos) tA:=by
  intro wh pins s σ H Q I h
  refine isTrue_and (thn (ha pins s σ H Q I h) λc s1 e=>?_)
  cases c with
  | true=>exact isTrue_and_nil e
  | false=>exact e
theorem zbn (ha:PT X a tA):PW X (.BoolOp .Or [a] pos) tA:=by
  intro wh pins s σ H Q I h
  refine isTrue_or (thn (ha pins s σ H Q I h) λc s1 e=>?_)
  cases c with
  | false=>exact isTrue_or_nil e
  | true=>exact e
theorem za2 (ha:PT X a tA) (hb:PW X (.BoolOp .And (b :: zb1) pos) tB'):PW X (.BoolOp .And (a :: b :: zb1) pos) (tAnd tA tB'):=by
  intro wh pins s σ H Q I h
  refine isTrue_and (thn (ha pins s σ H _ I h) λc s1 ⟨H1,I1,q1⟩=>?_)
  cases c with
  | true=>exact hb wh pins s1 σ H1 Q I1 q1
  | false=>exact⟨H1,I1,q1⟩
theorem zbd (ha:PT X a tA) (hb:PW X (.BoolOp .Or (b :: zb1) pos) tB'):PW X (.BoolOp .Or (a :: b :: zb1) pos) (tOr tA tB'):=by
  intro wh pins s σ H Q I h
  refine isTrue_or (thn (ha pins s σ H _ I h) λc s1 ⟨H1,I1,q1⟩=>?_)
  cases c with
  | true=>exact⟨H1,I1,q1⟩
  | false=>exact hb wh pins s1 σ H1 Q I1 q1
theorem zbo (ha:PT X a tA):PT X (.UnaryOp .Not a pos) (tNot tA):=by
  intro pins s σ H Q I h
  exact isTrue_not (ha pins s σ H (λc H1=>Q (!c) H1) I h)
def tAndV (ta tb:TE):TE:=λσ H Q=>ta σ H λx H1=>∃ c,x=.bl c∧if c=true then tb σ H1 Q else Q (.bl false) H1
def tOrV (ta tb:TE):TE:=λσ H Q=>ta σ H λx H1=>∃ c,x=.bl c∧if c=true then Q (.bl true) H1 else tb σ H1 Q
def tNotV (ta:TE):TE:=λσ H Q=>ta σ H λx H1=>∃ c,x=.bl c∧Q (.bl (!c)) H1
theorem zbe {op} {t:TE} (h:PE X a t):PE X (.BoolOp op [a] pos) t:=λpins s σ H Q I hw=>BoolOp_one (h pins s σ H Q I hw)
theorem zbf (ha:PE X a ta) (hb:PE X (.BoolOp .And (b :: zb1) pos) tb):PE X (.BoolOp .And (a :: b :: zb1) pos) (tAndV ta tb):=by
  intro pins s σ H Q I h
  refine BoolOp_and (thn (ha pins s σ H _ I h) λv s1 ⟨x,H1,I1,r1,q1⟩=>?_)
  obtain⟨c,rfl,q1⟩:=q1
  cases r1
  refine wpAny_truthy_bool ?_
  cases c with
  | true=>exact hb pins s1 σ H1 Q I1 q1
  | false=>exact⟨.bl false,H1,I1,rfl,q1⟩
theorem pe_or (ha:PE X a ta) (hb:PE X (.BoolOp .Or (b :: zb1) pos) tb):PE X (.BoolOp .Or (a :: b :: zb1) pos) (tOrV ta tb):=by
  intro pins s σ H Q I h
  refine BoolOp_or (thn (ha pins s σ H _ I h) λv s1 ⟨x,H1,I1,r1,q1⟩=>?_)
  obtain⟨c,rfl,q1⟩:=q1
  cases r1
  refine wpAny_truthy_bool ?_
  cases c with
  | false=>exact hb pins s1 σ H1 Q I1 q1
  | true=>exact⟨.bl true,H1,I1,rfl,q1⟩
theorem zkg (ha:PE X a ta):PE X (.UnaryOp .Not a pos) (tNotV ta):=by
  intro pins s σ H Q I h
  refine UnaryOp_ (thn (ha pins s σ H _ I h) λv s1 ⟨x,H1,I1,r1,q1⟩=>?_)
  obtain⟨c,rfl,q1⟩:=q1
  cases r1
  exact not_of (wpAny_truthy_bool ⟨.bl (!c),H1,I1,rfl,q1⟩)
def tIf (t:TT) (ta tb:TE):TE:=λσ H Q=>t σ H λc H1=>if c=true then ta σ H1 Q else tb σ H1 Q
theorem zfo {c:Expr} (hc:PT X c tA) (ha:PE X a ta) (hb:PE X b tb):PE X (.IfExp c a b pos) (tIf tA ta tb):=by
  intro pins s σ H Q I h
  refine wpAny_IfExp (thn (hc pins s σ H _ I h) λd s1 ⟨H1,I1,q1⟩=>?_)
  cases d with
  | true=>exact ha pins s1 σ H1 Q I1 q1
  | false=>exact hb pins s1 σ H1 Q I1 q1
end
end L2
namespace L2
open PySem PySem.Spec PyProof.Rows
def SqL (K:PySem.W.Frag) (H:Hp) (a:Addr) (xs:List V):Prop :=
  Rd H a (.lst xs) ∨
    ∃(o:Obj) (its:Array Value) (n:Nat),K.lookup a=some o∧o.cls=.type "list"∧o.dict=none∧o.data=.seq its n∧its.size≤sizeLine∧aW xs its.toList
def SqT (K:PySem.W.Frag) (H:Hp) (a:Addr) (xs:List V):Prop :=
  Rd H a (.tup xs) ∨
    ∃(o:Obj) (its:Array Value) (n:Nat),K.lookup a=some o∧o.cls=.type "tuple"∧o.data=.seq its n∧its.size≤sizeLine∧aW xs its.toList
def absV:Value→Option V
  | .none=>some .non
  | .bool b=>some (.bl b)
  | .int i _=>some (.int i)
  | .str x _=>some (.str x)
  | .bytes b _=>some (.byt b)
  | .float b _=>some (.flt b)
  | .ref a=>some (.ref a)
  | .type n=>some (.ty n)
  | _=>none
theorem aX.abs {x:V} {u:Value} (r:aX x u):absV u=some x:=by
  cases x with
  | non=>cases r;rfl
  | bl _=>cases r;rfl
  | int _=>obtain⟨t,rfl⟩:=r;rfl
  | str _=>obtain⟨t,rfl⟩:=r;rfl
  | byt _=>obtain⟨t,rfl⟩:=r;rfl
  | flt _=>obtain⟨t,rfl⟩:=r;rfl
  | ref _=>cases r;rfl
  | ty _=>cases r;rfl
theorem aX.inj {x y:V} {u:Value} (r:aX x u) (q:aX y u):x=y:=Option.some.inj (r.abs.symm.trans q.abs)
theorem aW.inj:∀ {xs ys:List V} {us:List Value},aW xs us→aW ys us→xs=ys
  | _,_,_,.nil,.nil=>rfl
  | _,_,_,.cons r t,.cons r' t'=>by rw[r.inj r',aW.inj t t']
section
variable {X:Cx} {pins:List (Addr × Obj)} {σ:St} {H:Hp} {s:Shared} {a:Addr} {xs ys:List V}
theorem SqL.of {K:PySem.W.Frag} (h:H a=some (.lst xs)):SqL K H a xs:=.inl (.inl h)
theorem SqT.of {K:PySem.W.Frag} (h:H a=some (.tup xs)):SqT K H a xs:=.inl (.inl h)
theorem Inv.list (I:Inv X pins σ H s) (h:SqL X.K H a xs):∃ its:List Value,aW xs its∧PlainL s.heap a its.toArray∧xs.length≤sizeLine:=by
  rcases h with h | ⟨o,its,n,hk,hc,hd,hs,hz,r⟩
  · obtain⟨z,its,n,r,e⟩:=h.ok I.hok
    exact⟨its,r,⟨_,n,e,rfl,rfl,rfl⟩,z⟩
  · refine⟨its.toList,r,⟨o,n,I.kIn a o hk,hc,hd,by simpa using hs⟩,?_⟩
    have e:=r.length
    simp only[Array.length_toList]at e
    omega
theorem Inv.tuple (I:Inv X pins σ H s) (h:SqT X.K H a xs):∃ its:List Value,aW xs its∧IsTup s.heap a its.toArray∧xs.length≤sizeLine:=by
  rcases h with h | ⟨o,its,n,hk,hc,hs,hz,r⟩
  · obtain⟨z,its,r,p⟩:=h.ok I.hok
    exact⟨its,r,p,z⟩
  · refine⟨its.toList,r,⟨o,I.kIn a o hk,hc,n,by simpa using hs⟩,?_⟩
    have e:=r.length
    simp only[Array.length_toList]at e
    omega
theorem Inv.list_inj (I:Inv X pins σ H s) (h:SqL X.K H a xs) (h':SqL X.K H a ys):xs=ys:=by
  obtain⟨its,r,⟨o,n,e,_,_,d⟩,_⟩:=I.list h
  obtain⟨its',r',⟨o',n',e',_,_,d'⟩,_⟩:=I.list h'
  rw[e]at e';cases e'
  rw[d]at d'
  injection d' with d1 _
  have:its=its':=by simpa using congrArg Array.toList d1
  subst this
  exact r.inj r'
theorem Inv.tuple_inj (I:Inv X pins σ H s) (h:SqT X.K H a xs) (h':SqT X.K H a ys):xs=ys:=by
  obtain⟨its,r,⟨o,e,_,n,d⟩,_⟩:=I.tuple h
  obtain⟨its',r',⟨o',e',_,n',d'⟩,_⟩:=I.tuple h'
  rw[e]at e';cases e'
  rw[d]at d'
  injection d' with d1 _
  have:its=its':=by simpa using congrArg Array.toList d1
  subst this
  exact r.inj r'
end
abbrev Cx.wish (X:Cx) (E:Value→Shared→Prop):Cx:={ X with xe:=E }
abbrev Cx.nox (X:Cx):Cx:=X.wish λ_ _=>False
theorem Cx.Ok.wish {X:Cx} (ok:X.Ok) (E:Value→Shared→Prop):(X.wish E).Ok :=
  ⟨ok.mod,ok.kind,ok.glob,ok.blt,ok.above,ok.inj,ok.has,ok.cab,ok.hd,ok.frames,ok.stk,ok.exf,ok.bs,ok.bsz,ok.noex,ok.exfs,ok.funs,ok.frf⟩
theorem Cx.Ok.unwish {X:Cx} {E:Value→Shared→Prop} (ok:(X.wish E).Ok):X.Ok :=
  ⟨ok.mod,ok.kind,ok.glob,ok.blt,ok.above,ok.inj,ok.has,ok.cab,ok.hd,ok.frames,ok.stk,ok.exf,ok.bs,ok.bsz,ok.noex,ok.exfs,ok.funs,ok.frf⟩
section
variable {X:Cx} {pins:List (Addr × Obj)} {σ:St} {H:Hp} {s:Shared} {E:Value→Shared→Prop}
theorem Inv.wish (I:Inv X pins σ H s) (E:Value→Shared→Prop):Inv (X.wish E) pins σ H s:=⟨I.ok.wish E,I.os,I.bare,I.base,I.loc,I.cell,I.free,I.freeC,I.pin,I.hok,I.len⟩
theorem Inv.unwish (I:Inv (X.wish E) pins σ H s):Inv X pins σ H s:=⟨I.ok.unwish,I.os,I.bare,I.base,I.loc,I.cell,I.free,I.freeC,I.pin,I.hok,I.len⟩
theorem SP.unwish {D:zbT} {f:Flow} {s':Shared} (h:SP (X.wish E) pins D f s'):SP X pins D f s':=by
  cases f with
  | next=>obtain⟨σ',H',I,q⟩:=h;exact⟨σ',H',I.unwish,q⟩
  | brk=>obtain⟨σ',H',I,q⟩:=h;exact⟨σ',H',I.unwish,q⟩
  | cont=>obtain⟨σ',H',I,q⟩:=h;exact⟨σ',H',I.unwish,q⟩
  | ret u=>obtain⟨v,σ',H',I,r,q⟩:=h;exact⟨v,σ',H',I.unwish,r,q⟩
theorem PE.nox {e:Expr} {t:TE} (h:PE X.nox e t):PE X e t:=λpins s σ H Q I hw =>
  wpAny_mono (h pins s σ H Q (I.wish _) hw) (λ_ _ ⟨v,H',I',r,q⟩=>⟨v,H',I'.unwish,r,q⟩) λ_ _ z=>False.elim z
theorem PT.nox {e:Expr} {t:TT} (h:PT X.nox e t):PT X e t:=λpins s σ H Q I hw =>
  wpAny_mono (h pins s σ H Q (I.wish _) hw) (λ_ _ ⟨H',I',q⟩=>⟨H',I'.unwish,q⟩) λ_ _ z=>False.elim z
theorem PSs.nox {st:List Stmt} {t:TS} (h:PSs X.nox st t):PSs X st t:=λpins s σ H D I hw =>
  wpAny_mono (h pins s σ H D (I.wish _) hw) (λ_ _ q=>q.unwish) λ_ _ z=>False.elim z
end
section
variable {X:Cx} {st:Stmt} {zb1:List Stmt} {t u:TS} {e:Expr} {te:TE} {pos:Pos}
def tNext:TS:=λ⟨n,_,_,_⟩ σ H=>n σ H
def tSeq (t u:TS):TS:=λ⟨n,r,b,c⟩ σ H=>t ⟨u ⟨n,r,b,c⟩,r,b,c⟩ σ H
theorem aA:PSs X [] tNext:=λ_ _ σ H _ I h=>wpAny_execs_nil ⟨σ,H,I,h⟩
theorem af (h1:PS X st t) (h2:PSs X zb1 u):PSs X (st :: zb1) (tSeq t u):=by
  intro pins s σ H D I h
  refine wpAny_execs_cons (thn (h1 pins s σ H { D with nx:=u D } I h) λf s1 q=>?_)
  cases f with
  | next =>
    obtain⟨σ',H',I',q⟩:=q
    exact h2 pins s1 σ' H' D I' q
  | ret v=>exact q
  | brk=>exact q
  | cont=>exact q
theorem ah (h1:PS X st t):PSs X [st] t:=by
  intro pins s σ H D I h
  refine wpAny_execs_cons (thn (h1 pins s σ H D I h) λf s1 q=>?_)
  cases f with
  | next=>exact wpAny_execs_nil q
  | ret v=>exact q
  | brk=>exact q
  | cont=>exact q
def tBreak:TS:=λD σ H=>D.bk σ H
theorem zlx:PS X (.Break pos) tBreak:=λ_ _ σ H _ I h=>wpAny_Break ⟨σ,H,I,h⟩
theorem Inv.quiet {pins:List (Addr × Obj)} {σ:St} {H:Hp} {s:Shared} (I:Inv X pins σ H s):interactive X.env=false:=by simp [interactive,I.ok.kind]
def tDrop (te:TE):TS:=λ⟨n,_,_,_⟩ σ H=>te σ H λ_ H1=>n σ H1
theorem zak (he:PE X e te) (hs:swapsWith e none pos.line X.env=pure false:=by rfl):PS X (.Expr e pos) (tDrop te):=by
  intro pins s σ H D I h
  exact wpAny_Expr_any (thn (he pins s σ H _ I h) λv s1 ⟨x,H1,I1,r1,q1⟩=>⟨σ,H1,I1,q1⟩) I.quiet hs
def tRet (te:TE):TS:=λ⟨_,r,_,_⟩ σ H=>te σ H r
theorem ay (he:PE X e te):PS X (.Return (some e) pos) (tRet te):=by
  intro pins s σ H D I h
  exact wpAny_Return_some (thn (he pins s σ H _ I h) λv s1 ⟨x,H1,I1,r1,q1⟩=>⟨x,σ,H1,I1,r1,q1⟩)
def tRetN:TS:=λD _ H=>D.rt .non H
theorem zml:PS X (.Return none pos) tRetN:=λ_ _ σ H _ I h=>wpAny_Return_none ⟨.non,σ,H,I,rfl,h⟩
def tIfS (c:TT) (t u:TS):TS:=λD σ H=>c σ H λb H1=>if b=true then t D σ H1 else u D σ H1
theorem aL {c:Expr} {a b:List Stmt} {tc:TT} (hc:PT X c tc) (ha:PSs X a t) (hb:PSs X b u):PS X (.If c a b pos) (tIfS tc t u):=by
  intro pins s σ H D I h
  refine wpAny_If (thn (hc pins s σ H _ I h) λd s1 ⟨H1,I1,q1⟩=>?_)
  cases d with
  | true=>exact ha pins s1 σ H1 D I1 q1
  | false=>exact hb pins s1 σ H1 D I1 q1
end
abbrev TG:=V→St→Hp→(St→Hp→Prop)→Prop
abbrev TGs:=List V→St→Hp→(St→Hp→Prop)→Prop
def PG (X:Cx) (target:Expr) (t:TG):Prop :=
  ∀(pins:List (Addr × Obj)) (s:Shared) (σ:St) (H:Hp) (v:V) (u:Value) (Q:St→Hp→Prop),Inv X pins σ H s→aX v u→t v σ H Q →
    wpAny (model X.prog X.w) X.A (assign target X.env u) (λ_ s'=>∃ σ' H',Inv X pins σ' H' s'∧Q σ' H') X.xe s
def PGs (X:Cx) (ts:List Expr) (t:TGs):Prop :=
  ∀(pins:List (Addr × Obj)) (s:Shared) (σ:St) (H:Hp) (vs:List V) (us:List Value) (Q:St→Hp→Prop),Inv X pins σ H s→aW vs us→t vs σ H Q →
    wpAny (model X.prog X.w) X.A (assignInOrder ((assignEach ts X.env).map (·.2)) us) (λ_ s'=>∃ σ' H',Inv X pins σ' H' s'∧Q σ' H') X.xe s
section
variable {X:Cx} {pos:Pos}
def zda (i:Nat):TG:=λv σ H Q=>Q (σ.set i (some v)) H
theorem zac {i:Nat} {x:Str} (hN:X.N.Nodup) (hi:X.N[i]?=some x) (hx:Loc X.env.scope x) (hf:X.fn x=true∨X.env.scope.names.lookup x=some .local:=by first | exact .inl rfl | exact .inr rfl | assumption):PG X (.Name x pos) (zda i):=by
  intro pins s σ H v u Q I r h
  exact wpAny_assign_Name (ziB I hN hi hx r (λs' I'=>⟨_,H,I',h⟩) hf)
def gNil:TGs:=λvs σ H Q=>vs=[]∧Q σ H
def gCons (t:TG) (u:TGs):TGs:=λvs σ H Q=>∃ v r,vs=v :: r∧t v σ H λσ' H'=>u r σ' H' Q
theorem zjr:PGs X [] gNil:=by
  intro pins s σ H vs us Q I r h
  obtain⟨e,h⟩:=h
  subst e
  cases r
  exact assignInOrder_nil ⟨σ,H,I,h⟩
theorem zfn {e:Expr} {es:List Expr} {t:TG} {u:TGs} (h1:PG X e t) (h2:PGs X es u)
    (hs:(assignEach (e :: es) X.env).map (·.2)=assign e X.env :: (assignEach es X.env).map (·.2):=by rfl):PGs X (e :: es) (gCons t u):=by
  intro pins s σ H vs us Q I r h
  obtain⟨v,vr,e1,h⟩:=h
  subst e1
  cases r with
  | cons r rr =>
    rw[hs]
    refine assignInOrder_cons (thn (h1 pins s σ H _ _ _ I r h) λ_ s1 ⟨σ1,H1,I1,q1⟩=>?_)
    exact h2 pins s1 σ1 H1 _ _ Q I1 rr q1
def gTup (K:PySem.W.Frag) (n:Nat) (t:TGs):TG:=λv σ H Q=>∃ a xs,v=.ref a∧SqT K H a xs∧xs.length=n∧t xs σ H Q
theorem zke {es:List Expr} {k:Nat} {t:TGs} {n:Nat} (hc:X.calm=true) (h:PGs X es t)
    (hn:(assignEach es X.env).length=n:=by rfl) (hst:(assignEach es X.env).findIdx? (·.1)=none:=by rfl):PG X (.Tuple es k pos) (gTup X.K n t):=by
  intro pins s σ H v u Q I r hw
  obtain⟨a,xs,e1,hq,hl,hw⟩:=hw
  subst e1
  cases r
  obtain⟨its,rv,ht,hz⟩:=I.tuple hq
  refine assign_Tuple_tuple (I.ok.hd hc) ht (by simp [hn,←hl,rv.length]) hst λh' hx=>?_
  have I1:Inv X pins σ H { s with heap:=h' }:=I.kept (t':=s.toks) λb o e=>hx b o (Nat.ne_of_lt (Heap.lt_size e)) e
  exact h pins _ σ H xs _ Q I1 (by simpa using rv) hw
def tAsg (te:TE) (g:TG):TS:=λ⟨n,_,_,_⟩ σ H=>te σ H λx H1=>g x σ H1 n
theorem aE {i:Nat} {x:Str} {e:Expr} {te:TE} {pos':Pos} (hN:X.N.Nodup) (hi:X.N[i]?=some x) (hx:Loc X.env.scope x) (he:PE X e te) (hs:swapsWith e (some (.Name x pos')) pos.line X.env=pure false:=by rfl) (hf:X.fn x=true∨X.env.scope.names.lookup x=some .local:=by first | exact .inl rfl | exact .inr rfl | assumption) :
    PS X (.Assign [.Name x pos'] e pos) (tAsg te (zda i)):=by
  intro pins s σ H D I h
  refine wpAny_Assign_Name (thn (he pins s σ H _ I h) λv s1 ⟨y,H1,I1,r1,q1⟩=>?_) hs
  exact ziB I1 hN hi hx r1 (λs2 I2=>⟨_,H1,I2,q1⟩) hf
end
section
variable {X:Cx} {pos:Pos}
end
structure It where
  go:Nat→Hp→Prop
  yld:Nat→Hp→V→Hp→Prop
  stop:Nat→Hp→Prop
def zcr (X:Cx) (pins:List (Addr × Obj)) (H:Hp) (b:Addr):Prop :=
  H b=none∧b≠X.env.locals∧b∉X.fs∧(b∈X.ex∨X.s₀.heap.objs.size≤b)∧(∀ x c,X.env.cells.lookup x=some c→c≠b)∧∀ p∈X.pn++pins,p.1≠b
theorem Inv.fpOk {X:Cx} {pins:List (Addr × Obj)} {σ:St} {H H':Hp} {s:Shared} {b:Addr} (I:Inv X pins σ H s) (hb:s.heap.objs.size≤b) (hn:H' b=none):zcr X pins H' b:=by
  refine⟨hn,Nat.ne_of_gt (Nat.lt_of_lt_of_le I.lt hb),I.nofs hb,.inr (Nat.le_trans I.sz hb),λx c e z=>?_,λp hp z=>?_⟩
  · obtain⟨v,q⟩:=I.cell x c e
    exact absurd (Nat.lt_of_lt_of_le q.lt (by rw[z];exact hb)) (Nat.lt_irrefl _)
  · exact absurd (Nat.lt_of_lt_of_le (Heap.lt_size (I.pin p hp).1) (by rw[z];exact hb)) (Nat.lt_irrefl _)
structure zgL (P:Program) (w:World) (K:PySem.W.Frag) (tg:Expr) (J:It) (fp:List Addr) (it:Addr) (tn:Nat→Heap→Prop):Prop where
  mem:it∈fp
  obj:∀ i h,tn i h→∀ b∈fp,∃ o,h.get? b=some o∧∀ v,o.data≠.cell v
  keep:∀ i h h',tn i h→(∀ b∈fp,∀ o,h.get? b=some o→h'.get? b=some o)→tn i h'
  item:∀(X:Cx),X.prog=P→X.w=w→X.K=K→X.calm=true→∀(i:Nat) (pins:List (Addr × Obj)) (s:Shared) (σ:St) (H:Hp) (E:Value→Shared→Prop),Inv X pins σ H s→(∀ b∈fp,zcr X pins H b)→tn i s.heap→J.go i H →
    wpAny (model P w) X.A (pyNext (.ref it)) (λr s1=>∃ u,r=some u ∧
      wpAny (model P w) X.A (letOwnedTupleGo tg (.ref it) u) (λ_ s2=>∃ x H',Inv X pins σ H' s2∧aX x u∧J.yld i H x H'∧tn (i+1) s2.heap∧∀ b∈fp,H' b=none) E s1) E s
  done:∀(X:Cx),X.prog=P→X.w=w→X.K=K→X.calm=true→∀(i:Nat) (pins:List (Addr × Obj)) (s:Shared) (σ:St) (H:Hp) (E:Value→Shared→Prop),Inv X pins σ H s→(∀ b∈fp,zcr X pins H b)→tn i s.heap→J.stop i H →
    wpAny (model P w) X.A (pyNext (.ref it)) (λr s1=>r=none∧Inv X pins σ H s1) E s
  self:∀(A:Around) (i:Nat) (s:Shared) (Q:Value→Shared→Prop) (E:Value→Shared→Prop),tn i s.heap→Q (.ref it) s→wpAny (model P w) A (pyIter (.ref it)) Q E s
abbrev TI:=St→Hp→(It→Hp→Prop)→Prop
def PIE (X:Cx) (pins:List (Addr × Obj)) (σ:St) (tg:Expr) (R:It→Hp→Prop) (itv:Value) (s2:Shared):Prop :=
  ∃(it:Addr) (fp:List Addr) (tn:Nat→Heap→Prop) (J:It) (H':Hp),itv=.ref it∧Inv X pins σ H' s2∧zgL X.prog X.w X.K tg J fp it tn∧tn 0 s2.heap∧(∀ b∈fp,zcr X pins H' b)∧R J H'
def PI (X:Cx) (tg iter:Expr) (wi:TI):Prop :=
  ∀(pins:List (Addr × Obj)) (s:Shared) (σ:St) (H:Hp) (R:It→Hp→Prop),Inv X pins σ H s→wi σ H R →
    wpAny (model X.prog X.w) X.A (eval iter X.env) (λv s1=>wpAny (model X.prog X.w) X.A (pyIter v) (PIE X pins σ tg R) X.xe s1) X.xe s
theorem zg6 {M:Model} {A:Around} {E:Value→Shared→Prop} {s:Shared} {tg:Expr} {it:Addr} {u:Value} {o:Obj} {n:String} {vs:Array Value} {Q:Unit→Shared→Prop} (ho:s.heap.get? it=some o) (hc:o.cls=.type n) (hd:o.data=.fields vs)
    (hn:["enumerate","zip","dict_itemiterator","dict_reverseitemiterator","odict_iterator","itertools.zip_longest","itertools.pairwise"].contains n=false) (hQ:Q () s):wpAny M A (letOwnedTupleGo tg (.ref it) u) Q E s:=by
  unfold letOwnedTupleGo
  cases tg <;> first
    | exact wpAny_pure hQ
    | (cases u <;> first
        | exact wpAny_pure hQ
        | (refine wpAny_bind (wpAny_load ho ?_)
           rw[hc,hd]
           show wpAny M A (if(["enumerate","zip","dict_itemiterator","dict_reverseitemiterator","odict_iterator","itertools.zip_longest","itertools.pairwise"].contains n&&vs[0]? == some (rawInt _))=true then _ else _) Q E s
           rw[if_neg (by intro h;rw[hn,Bool.false_and]at h;cases h)]
           exact wpAny_pure hQ))
def Itl (K:PySem.W.Frag) (a:Addr):It :=
  ⟨λi H=>∃ xs x,SqL K H a xs∧xs[i]?=some x,λi H x H'=>H'=H∧∀ xs,SqL K H a xs→xs[i]?=some x,λi H=>∃ xs,SqL K H a xs∧xs.length≤i⟩
def Itt (K:PySem.W.Frag) (a:Addr):It :=
  ⟨λi H=>∃ xs x,SqT K H a xs∧xs[i]?=some x,λi H x H'=>H'=H∧∀ xs,SqT K H a xs→xs[i]?=some x,λi H=>∃ xs,SqT K H a xs∧xs.length≤i⟩
def Itr (lo:Int) (n:Nat):It:=⟨λi _=>i < n,λi H x H'=>H'=H∧x=.int (lo+i),λi _=>n≤i⟩
theorem zfK {P:Program} {w:World} {K:PySem.W.Frag} {tg:Expr} (a it:Addr):zgL P w K tg (Itl K a) [it] it (λi h=>h.IsListIter it a i) where
  mem:=by simp
  obj:=λi h st b hb=>by
    have e:b=it:=by simpa using hb
    subst e
    obtain⟨o,e,c,d⟩:=st
    exact⟨o,e,λv z=>by rw[d]at z;cases z⟩
  keep:=λi h h' st k=>st.at λo e=>k it (by simp) o e
  item:=by
    intro X hP hw hK hc i pins s σ H E I hf st hg
    subst hP hw hK
    obtain⟨xs,x,hq,hx⟩:=hg
    obtain⟨its,rv,p,hz⟩:=I.list hq
    obtain⟨u,hu,ru⟩:=rv.get hx
    obtain⟨f0,f1,f2,f3,f4,f5⟩:=hf it (by simp)
    refine wpAny_pyNext_list_item st p.isList (x:=u) (by simpa using hu) λh' st' sb=>?_
    have I1:Inv X pins σ H { s with heap:=h' }:=I.turned (t':=s.toks) (λb o hb e=>(sb.2 b hb).trans e) f0 f1 f3 f4 f5
    obtain⟨o,e,c,d⟩:=id st'
    exact⟨u,rfl,zg6 (s:={ s with heap:=h' }) e c d (by decide) ⟨x,H,I1,ru,⟨rfl,λys hy=>by rw[I.list_inj hy hq];exact hx⟩,st',λb hb=>(hf b hb).1⟩⟩
  done:=by
    intro X hP hw hK hc i pins s σ H E I hf st hg
    subst hP hw hK
    obtain⟨xs,hq,hx⟩:=hg
    obtain⟨its,rv,p,hz⟩:=I.list hq
    obtain⟨f0,f1,f2,f3,f4,f5⟩:=hf it (by simp)
    have hl:=rv.length
    exact wpAny_pyNext_list_end (I.ok.hd hc) st p.isList (by simp;omega) λh' eb=>⟨rfl,I.turned (t':=s.toks) (λb o hb e=>eb b o hb e) f0 f1 f3 f4 f5⟩
  self:=λ_ _ _ _ _ st h=>wpAny_pyIter_listiter st h
theorem zfr {P:Program} {w:World} {K:PySem.W.Frag} {tg:Expr} (a it:Addr):zgL P w K tg (Itt K a) [it] it (λi h=>h.IsTupleIter it a i) where
  mem:=by simp
  obj:=λi h st b hb=>by
    have e:b=it:=by simpa using hb
    subst e
    obtain⟨o,e,c,d⟩:=st
    exact⟨o,e,λv z=>by rw[d]at z;cases z⟩
  keep:=λi h h' st k=>st.at λo e=>k it (by simp) o e
  item:=by
    intro X hP hw hK hc i pins s σ H E I hf st hg
    subst hP hw hK
    obtain⟨xs,x,hq,hx⟩:=hg
    obtain⟨its,rv,p,hz⟩:=I.tuple hq
    obtain⟨u,hu,ru⟩:=rv.get hx
    obtain⟨f0,f1,f2,f3,f4,f5⟩:=hf it (by simp)
    refine wpAny_pyNext_tuple_item st (show s.heap.IsTuple a its.toArray from p) (x:=u) (by simpa using hu) λh' st' sb=>?_
    have I1:Inv X pins σ H { s with heap:=h' }:=I.turned (t':=s.toks) (λb o hb e=>(sb.2 b hb).trans e) f0 f1 f3 f4 f5
    obtain⟨o,e,c,d⟩:=id st'
    exact⟨u,rfl,zg6 (s:={ s with heap:=h' }) e c d (by decide) ⟨x,H,I1,ru,⟨rfl,λys hy=>by rw[I.tuple_inj hy hq];exact hx⟩,st',λb hb=>(hf b hb).1⟩⟩
  done:=by
    intro X hP hw hK hc i pins s σ H E I hf st hg
    subst hP hw hK
    obtain⟨xs,hq,hx⟩:=hg
    obtain⟨its,rv,p,hz⟩:=I.tuple hq
    obtain⟨f0,f1,f2,f3,f4,f5⟩:=hf it (by simp)
    have hl:=rv.length
    exact wpAny_pyNext_tuple_end (I.ok.hd hc) st (show s.heap.IsTuple a its.toArray from p) (by simp;omega) λh' eb=>⟨rfl,I.turned (t':=s.toks) (λb o hb e=>eb b o hb e) f0 f1 f3 f4 f5⟩
  self:=λ_ _ _ _ _ st h=>wpAny_pyIter_tupleiter st h
theorem zjP {P:Program} {w:World} {K:PySem.W.Frag} {tg:Expr} (it:Addr) (lo:Int) (n:Nat):zgL P w K tg (Itr lo n) [it] it (λi h=>IsRangeIter h it (lo+(i:Nat) * 1) ((n:Int) - (i:Nat)) 1) where
  mem:=by simp
  obj:=λi h st b hb=>by
    have e:b=it:=by simpa using hb
    subst e
    exact⟨_,st,λv z=>by
      have z':Data.fields _=Data.cell v:=z
      cases z'⟩
  keep:=λi h h' st k=>k it (by simp) _ st
  item:=by
    intro X hP hw hK hc i pins s σ H E I hf st hg
    subst hP hw hK
    obtain⟨f0,f1,f2,f3,f4,f5⟩:=hf it (by simp)
    have W:=Walks.range (prog:=X.prog) (w:=X.w) (I.ok.hd hc) it lo 1 n
    refine W.item i s _ _ hg st λv h' tk hv st' kk=>?_
    obtain⟨t,rfl⟩:=hv
    have I1:Inv X pins σ H { s with heap:=h',toks:=tk }:=I.turned (λb o hb e=>kk b o (by simpa using hb) e) f0 f1 f3 f4 f5
    refine⟨_,rfl,zg6 (s:={ s with heap:=h',toks:=tk }) (n:="range_iterator") st' rfl rfl (by decide) ⟨.int (lo+i),H,I1,⟨t,?_⟩,⟨rfl,rfl⟩,st',λb hb=>(hf b hb).1⟩⟩
    rw[Int.mul_one]
  done:=by
    intro X hP hw hK hc i pins s σ H E I hf st hg
    subst hP hw hK
    obtain⟨f0,f1,f2,f3,f4,f5⟩:=hf it (by simp)
    exact wpAny_pyNext_range_end (I.ok.hd hc) st (by have:n≤i:=hg;omega) λh' eb=>⟨rfl,I.turned (t':=s.toks) (λb o hb e=>eb b o hb e) f0 f1 f3 f4 f5⟩
  self:=λ_ _ _ _ _ st h=>wpAny_pyIter_rangeiter st h
end L2
namespace L2
open PySem PySem.Spec PyProof.Rows
section
variable {X:Cx} {tg:Expr}
inductive rItl (K:PySem.W.Frag):V→Hp→(It→Hp→Prop)→Prop|m{x H R} a:x=.ref a→(∃ xs,SqL K H a xs)→R (Itl K a) H→rItl K x H R
inductive rItt (K:PySem.W.Frag):V→Hp→(It→Hp→Prop)→Prop|m{x H R} a:x=.ref a→(∃ xs,SqT K H a xs)→R (Itt K a) H→rItt K x H R
def iList (K:PySem.W.Frag) (tl:TE):TI:=λσ H R=>tl σ H λx H1=>rItl K x H1 R
def iTup (K:PySem.W.Frag) (tl:TE):TI:=λσ H R=>tl σ H λx H1=>rItt K x H1 R
theorem za6 {l:Expr} {tl:TE} (hl:PE X l tl):PI X tg l (iList X.K tl):=by
  intro pins s σ H R I h
  refine thn (hl pins s σ H _ I h) λv s1 ⟨x,H1,I1,r1,q1⟩=>?_
  obtain⟨a,e,⟨xs,hq⟩,q⟩:=q1
  subst e
  cases r1
  obtain⟨its,rv,p,hz⟩:=I1.list hq
  refine wpAny_pyIter_list p.isList ?_
  refine⟨s1.heap.objs.size,[s1.heap.objs.size],_,_,H1,rfl,I1.kept (t':=s1.toks) λb o e=>Heap.get?_push_of_some _ e,zfK a _,⟨_,Heap.get?_push_size _ rfl,rfl,rfl⟩,λb hb=>?_,q⟩
  have e:b=s1.heap.objs.size:=by simpa using hb
  subst e
  exact I1.fpOk (nRq _) (I1.hok.fresh (nRq _))
theorem zaU {l:Expr} {tl:TE} (hl:PE X l tl):PI X tg l (iTup X.K tl):=by
  intro pins s σ H R I h
  refine thn (hl pins s σ H _ I h) λv s1 ⟨x,H1,I1,r1,q1⟩=>?_
  obtain⟨a,e,⟨xs,hq⟩,q⟩:=q1
  subst e
  cases r1
  obtain⟨its,rv,p,hz⟩:=I1.tuple hq
  refine wpAny_pyIter_tuple (show s1.heap.IsTuple a its.toArray from p) ?_
  refine⟨s1.heap.objs.size,[s1.heap.objs.size],_,_,H1,rfl,I1.kept (t':=s1.toks) λb o e=>Heap.get?_push_of_some _ e,zfr a _,⟨_,Heap.get?_push_size _ rfl,rfl,rfl⟩,λb hb=>?_,q⟩
  have e:b=s1.heap.objs.size:=by simpa using hb
  subst e
  exact I1.fpOk (nRq _) (I1.hok.fresh (nRq _))
theorem ziD {pins:List (Addr × Obj)} {σ:St} {H:Hp} {s:Shared} {R:It→Hp→Prop} {E:Value→Shared→Prop} {lo hi:Int} {t u v:Tok} {tk:Nat} (I:Inv X pins σ H s) (h1:-(2 ^ 62)≤lo) (h2:lo < 2 ^ 62) (h3:-(2 ^ 62)≤hi) (h4:hi < 2 ^ 62)
    (q:R (Itr lo (hi - lo).toNat) H):wpAny (model X.prog X.w) X.A (pyIter (.ref s.heap.objs.size)) (PIE X pins σ tg R) E { s with heap:=s.heap.push { cls:=.type "range",data:=.fields #[.int lo t,.int hi u,.int 1 v] },toks:=tk }:=by
  refine wpAny_pyIter_range (IsRange.new ..) (small_one h1 h2 h3 h4) ?_
  have I1:Inv X pins σ H { s with heap:=s.heap.push { cls:=.type "range",data:=.fields #[.int lo t,.int hi u,.int 1 v] },toks:=tk }:=I.kept λb o e=>Heap.get?_push_of_some _ e
  refine⟨(s.heap.push { cls:=.type "range",data:=.fields #[.int lo t,.int hi u,.int 1 v] }).objs.size,[(s.heap.push { cls:=.type "range",data:=.fields #[.int lo t,.int hi u,.int 1 v] }).objs.size],_,_,H,rfl,
    I1.kept (t':=tk) λb o e=>Heap.get?_push_of_some _ e,zjP _ lo (hi - lo).toNat,?_,λb hb=>?_,q⟩
  · have e1:lo+((0:Nat):Int) * 1=lo:=by simp
    have e2:(((hi - lo).toNat:Nat):Int) - ((0:Nat):Int)=Builtin.Range.rangeSize lo hi 1:=by rw[rangeSize_one];split <;> omega
    show IsRangeIter _ _ (lo+((0:Nat):Int) * 1) ((((hi - lo).toNat:Nat):Int) - ((0:Nat):Int)) 1
    rw[e1,e2]
    exact Heap.get?_push_size _ rfl
  · have e:b=(s.heap.push { cls:=.type "range",data:=.fields #[.int lo t,.int hi u,.int 1 v] }).objs.size:=by simpa using hb
    subst e
    exact I1.fpOk (nRq _) (I1.hok.fresh (nRq _))
def iRng1 (ta:TA):TI:=λσ H R=>ta σ H λvs H1=>∃ j:Int,vs=[.int j]∧-(2 ^ 62)≤j∧j < 2 ^ 62∧R (Itr 0 j.toNat) H1
def iRng2 (ta:TA):TI:=λσ H R=>ta σ H λvs H1=>∃ i j:Int,vs=[.int i,.int j]∧(-(2 ^ 62)≤i∧i < 2 ^ 62∧-(2 ^ 62)≤j∧j < 2 ^ 62)∧R (Itr i (j - i).toNat) H1
theorem zaV {a:Expr} {ta:TA} {p pos:Pos} (hg:Gl X "range") (hm:X.mg "range"=none) (ha:PA X [a] ta) (hs:starEach [a] X.env=[(false,eval a X.env)]:=by rfl):PI X tg (.Call (.Name "range" p) [a] [] pos) (iRng1 ta):=by
  intro pins s σ H R I h
  refine Call_ (zdM I hg hm boot_range (PyProof.Rows.callWith_type1 (thn (ha pos pins s σ H _ I h) λus s1 ⟨vs,H1,I1,r1,q1⟩=>?_) hs rfl))
  obtain⟨j,e,q1,q2,q⟩:=q1
  subst e
  cases r1 with
  | cons r rr =>
    cases rr
    obtain⟨t,rfl⟩:=r
    exact call_range_1 (ziD I1 (by omega) (by omega) q1 q2 (by simpa using q))
theorem zf3 {a b:Expr} {ta:TA} {p pos:Pos} (hg:Gl X "range") (hm:X.mg "range"=none) (ha:PA X [a,b] ta) (hs:starEach [a,b] X.env=[(false,eval a X.env),(false,eval b X.env)]:=by rfl) (hs2:starEach [b] X.env=[(false,eval b X.env)]:=by rfl) :
    PI X tg (.Call (.Name "range" p) [a,b] [] pos) (iRng2 ta):=by
  intro pins s σ H R I h
  refine Call_ (zdM I hg hm boot_range (PyProof.Rows.callWith_type1 (thn (ha pos pins s σ H _ I h) λus s1 ⟨vs,H1,I1,r1,q1⟩=>?_) (by rw[hs,hs2]) (by rw[hs2];rfl)))
  obtain⟨i,j,e,⟨q1,q2,q3,q4⟩,q⟩:=q1
  subst e
  cases r1 with
  | cons r rr =>
    cases rr with
    | cons r' rr =>
      cases rr
      obtain⟨t,rfl⟩:=r
      obtain⟨t',rfl⟩:=r'
      exact call_range_2 (ziD I1 q1 q2 q3 q4 q)
def tFor (wi:TI) (g:TG) (tb:TS):TS:=λD σ H=>wi σ H λJ H1=>∃ W:Nat→Nat→St→Hp→Prop,(∃ m,W 0 m σ H1)∧∀ i m σ H,W i m σ H →
  (J.stop i H∧D.nx σ H)∨(J.go i H∧∃ N:St→Hp→Prop,(∀ σ' H',N σ' H'→∃ m',m' < m∧W (i+1) m' σ' H')∧∀ x H',J.yld i H x H'→g x σ H' λσ2 H2=>tb { D with nx:=N,ct:=N,bk:=D.nx } σ2 H2)
def zfF (fp:List Addr) (h:Heap):List (Addr × Obj):=fp.filterMap λb=>(h.get? b).map λo=>(b,o)
theorem zcU {fp:List Addr} {h:Heap} {b:Addr} {o:Obj} (hb:b∈fp) (e:h.get? b=some o):(b,o)∈zfF fp h:=List.mem_filterMap.mpr ⟨b,hb,by rw[e];rfl⟩
theorem zk4 {fp:List Addr} {h:Heap} {p:Addr × Obj} (hp:p∈zfF fp h):p.1∈fp∧h.get? p.1=some p.2:=by
  obtain⟨b,hb,e⟩:=List.mem_filterMap.mp hp
  cases q:h.get? b with
  | none=>rw[q]at e;cases e
  | some o =>
    rw[q]at e
    have e':(b,o)=p:=Option.some.inj e
    subst e'
    exact⟨hb,q⟩
theorem Inv.pinned {pins:List (Addr × Obj)} {σ:St} {H:Hp} {s:Shared} {fp:List Addr} (I:Inv X pins σ H s) (hf:∀ b∈fp,zcr X pins H b) (ho:∀ b∈fp,∃ o,s.heap.get? b=some o∧∀ v,o.data≠.cell v):Inv X (pins++zfF fp s.heap) σ H s :=
  I.pins_of λp hp=>(mPq hp).elim (λz=>I.pin p (List.mem_append_right _ z)) λz=>by
    obtain⟨hb,e⟩:=zk4 z
    obtain⟨f0,f1,f2,_⟩:=hf p.1 hb
    obtain⟨o,e',d⟩:=ho p.1 hb
    rw[e]at e';cases e'
    exact⟨e,f0,f1,f2,d⟩
theorem Inv.unpinned {pins pl:List (Addr × Obj)} {σ:St} {H:Hp} {s:Shared} (I:Inv X (pins++pl) σ H s):Inv X pins σ H s:=I.pins_of λp hp=>I.pin p (List.mem_append_right _ (List.mem_append_left _ hp))
theorem zah {iter:Expr} {body:List Stmt} {wi:TI} {g:TG} {tb:TS} {pos:Pos} (hp:PassesOwn (model X.prog X.w) X.A X.env X.xe) (hc:X.calm=true) (hi:PI X tg iter wi) (hg:PG X tg g) (hb:PSs X body tb)
    (hs:∀ x,foldedSetIterable iter X.env x=pure x:=by intro _;rfl):PS X (.For tg iter body [] pos) (tFor wi g tb):=by
  intro pins s σ H D I h
  refine wpAny_For (thn (hi pins s σ H _ I h) λv s1 h1=>thn h1 λitv s2 h2=>?_) hs
  obtain⟨it,fp,tn,J,H2,e,I2,T,st2,f2,W,⟨m0,w0⟩,turn⟩:=h2
  subst e
  have stat:∀ {H':Hp},(∀ b∈fp,H' b=none)→∀ b∈fp,zcr X pins H' b:=λhn b hb=>⟨hn b hb,(f2 b hb).2⟩
  refine codeAny_forLoop_any (λn s'=>∃ i σ' H',Inv X pins σ' H' s'∧tn i s'.heap∧(∀ b∈fp,H' b=none)∧W i n σ' H') ?_ m0 ⟨0,σ,H2,I2,st2,λb hb=>(f2 b hb).1,w0⟩
  rintro n s3 ⟨i,σ3,H3,I3,st3,fr3,w3⟩
  rcases turn i n σ3 H3 w3 with ⟨stop,qn⟩ | ⟨go,N,hN,step⟩
  · refine wpAny_passesOwn hp (thn (T.done X rfl rfl rfl hc i pins s3 σ3 H3 X.xe I3 (stat fr3) st3 stop) λr s4 ⟨hr,I4⟩=>?_)
    subst hr
    exact wpAny_execs_nil ⟨σ3,H3,I4,qn⟩
  · refine wpAny_passesOwn hp (thn (T.item X rfl rfl rfl hc i pins s3 σ3 H3 X.xe I3 (stat fr3) st3 go) λr s4 ⟨u,hr,h4⟩=>?_)
    subst hr
    refine wpAny_passesOwn hp (thn h4 λ_ s5 ⟨x,H5,I5,r5,y5,st5,fr5⟩=>?_)
    have I5':=I5.pinned (stat fr5) (T.obj _ _ st5)
    refine wpAny_passesOwn hp (thn (hg _ s5 σ3 H5 x u _ I5' r5 (step x H5 y5)) λ_ s6 ⟨σ6,H6,I6,q6⟩=>?_)
    refine wpAny_passesOwn hp (thn (hb _ s6 σ6 H6 _ I6 q6) λf s7 q7=>?_)
    have again:∀ {σ7:St} {H7:Hp},Inv X (pins++zfF fp s5.heap) σ7 H7 s7→N σ7 H7→∃ m,m < n∧∃ i σ' H',Inv X pins σ' H' s7∧tn i s7.heap∧(∀ b∈fp,H' b=none)∧W i m σ' H':=λ{σ7 H7} I7 n7=>by
      obtain⟨m',hm,w7⟩:=hN σ7 H7 n7
      refine⟨m',hm,i+1,σ7,H7,I7.unpinned,T.keep _ _ _ st5 λb hb o e=>(I7.pin (b,o) (List.mem_append_right _ (List.mem_append_right _ (zcU hb e)))).1,λb hb=>?_,w7⟩
      obtain⟨o,e,d⟩:=T.obj _ _ st5 b hb
      exact(I7.pin (b,o) (List.mem_append_right _ (List.mem_append_right _ (zcU hb e)))).2.1
    cases f with
    | next=>obtain⟨σ7,H7,I7,n7⟩:=q7;exact again I7 n7
    | cont=>obtain⟨σ7,H7,I7,n7⟩:=q7;exact again I7 n7
    | brk=>obtain⟨σ7,H7,I7,q7⟩:=q7;exact⟨σ7,H7,I7.unpinned,q7⟩
    | ret v=>obtain⟨x7,σ7,H7,I7,r7,q7⟩:=q7;exact⟨x7,σ7,H7,I7.unpinned,r7,q7⟩
end
theorem zby {K:PySem.W.Frag} {a:Addr} {xs:List V} {g:TG} {tb:TS} {D:zbT} {σ:St} {H:Hp} (Pv:Nat→St→Hp→Prop) (h0:Pv 0 σ H) (hl:∀ i σ H,i≤xs.length→Pv i σ H→SqL K H a xs)
    (hs:∀ i x σ H,xs[i]?=some x→Pv i σ H→g x σ H λσ2 H2=>tb { D with nx:=Pv (i+1),ct:=Pv (i+1),bk:=D.nx } σ2 H2) (hd:∀ σ H,Pv xs.length σ H→D.nx σ H) :
    ∃ W:Nat→Nat→St→Hp→Prop,(∃ m,W 0 m σ H)∧∀ i m σ H,W i m σ H →
      ((Itl K a).stop i H∧D.nx σ H)∨((Itl K a).go i H∧∃ N:St→Hp→Prop,(∀ σ' H',N σ' H'→∃ m',m' < m∧W (i+1) m' σ' H')∧∀ x H',(Itl K a).yld i H x H'→g x σ H' λσ2 H2=>tb { D with nx:=N,ct:=N,bk:=D.nx } σ2 H2):=by
  refine⟨λi m σ H=>m=xs.length - i∧i≤xs.length∧Pv i σ H,⟨xs.length,by simp,Nat.zero_le _,h0⟩,?_⟩
  rintro i m σ H ⟨rfl,hi,p⟩
  have q:=hl i σ H hi p
  by_cases hlt:i < xs.length
  · refine .inr ⟨⟨xs,xs[i],q,by simp [hlt]⟩,Pv (i+1),λσ' H' p'=>⟨xs.length - (i+1),by omega,rfl,hlt,p'⟩,λx H' y=>?_⟩
    obtain⟨e,y⟩:=y
    subst e
    exact hs i x σ _ (y xs q) p
  · have e:i=xs.length:=by omega
    subst e
    exact .inl ⟨⟨xs,q,nRq _⟩,hd σ H p⟩
theorem zcn {K:PySem.W.Frag} {a:Addr} {xs:List V} {g:TG} {tb:TS} {D:zbT} {σ:St} {H:Hp} (Pv:Nat→St→Hp→Prop) (h0:Pv 0 σ H) (hl:∀ i σ H,i≤xs.length→Pv i σ H→SqT K H a xs)
    (hs:∀ i x σ H,xs[i]?=some x→Pv i σ H→g x σ H λσ2 H2=>tb { D with nx:=Pv (i+1),ct:=Pv (i+1),bk:=D.nx } σ2 H2) (hd:∀ σ H,Pv xs.length σ H→D.nx σ H) :
    ∃ W:Nat→Nat→St→Hp→Prop,(∃ m,W 0 m σ H)∧∀ i m σ H,W i m σ H →
      ((Itt K a).stop i H∧D.nx σ H)∨((Itt K a).go i H∧∃ N:St→Hp→Prop,(∀ σ' H',N σ' H'→∃ m',m' < m∧W (i+1) m' σ' H')∧∀ x H',(Itt K a).yld i H x H'→g x σ H' λσ2 H2=>tb { D with nx:=N,ct:=N,bk:=D.nx } σ2 H2):=by
  refine⟨λi m σ H=>m=xs.length - i∧i≤xs.length∧Pv i σ H,⟨xs.length,by simp,Nat.zero_le _,h0⟩,?_⟩
  rintro i m σ H ⟨rfl,hi,p⟩
  have q:=hl i σ H hi p
  by_cases hlt:i < xs.length
  · refine .inr ⟨⟨xs,xs[i],q,by simp [hlt]⟩,Pv (i+1),λσ' H' p'=>⟨xs.length - (i+1),by omega,rfl,hlt,p'⟩,λx H' y=>?_⟩
    obtain⟨e,y⟩:=y
    subst e
    exact hs i x σ _ (y xs q) p
  · have e:i=xs.length:=by omega
    subst e
    exact .inl ⟨⟨xs,q,nRq _⟩,hd σ H p⟩
theorem zaL {lo:Int} {n:Nat} {g:TG} {tb:TS} {D:zbT} {σ:St} {H:Hp} (Pv:Nat→St→Hp→Prop) (h0:Pv 0 σ H)
    (hs:∀ i σ H,i < n→Pv i σ H→g (.int (lo+i)) σ H λσ2 H2=>tb { D with nx:=Pv (i+1),ct:=Pv (i+1),bk:=D.nx } σ2 H2) (hd:∀ σ H,Pv n σ H→D.nx σ H) :
    ∃ W:Nat→Nat→St→Hp→Prop,(∃ m,W 0 m σ H)∧∀ i m σ H,W i m σ H →
      ((Itr lo n).stop i H∧D.nx σ H)∨((Itr lo n).go i H∧∃ N:St→Hp→Prop,(∀ σ' H',N σ' H'→∃ m',m' < m∧W (i+1) m' σ' H')∧∀ x H',(Itr lo n).yld i H x H'→g x σ H' λσ2 H2=>tb { D with nx:=N,ct:=N,bk:=D.nx } σ2 H2):=by
  refine⟨λi m σ H=>m=n - i∧i≤n∧Pv i σ H,⟨n,by simp,Nat.zero_le _,h0⟩,?_⟩
  rintro i m σ H ⟨rfl,hi,p⟩
  by_cases hlt:i < n
  · refine .inr ⟨hlt,Pv (i+1),λσ' H' p'=>⟨n - (i+1),by omega,rfl,hlt,p'⟩,λx H' y=>?_⟩
    obtain⟨e,y⟩:=y
    subst e y
    exact hs i σ _ hlt p
  · have e:i=n:=by omega
    subst e
    exact .inl ⟨nRq _,hd σ H p⟩
end L2
namespace L2
open PySem PySem.Spec PyProof.Rows
abbrev R2:=V→V→Hp→VK→Prop
def OpR (X:Cx) (f:Value→Value→Sem Value) (r:R2):Prop :=
  ∀(pins:List (Addr × Obj)) (s:Shared) (σ:St) (H:Hp) (x y:V) (v u:Value) (Q:VK),Inv X pins σ H s→aX x v→aX y u→r x y H Q →
    wpAny (model X.prog X.w) X.A (f v u) (EP X pins σ Q) X.xe s
def UnR (X:Cx) (f:Value→Sem Value) (r:V→Hp→VK→Prop):Prop :=
  ∀(pins:List (Addr × Obj)) (s:Shared) (σ:St) (H:Hp) (x:V) (v:Value) (Q:VK),Inv X pins σ H s→aX x v→r x H Q →
    wpAny (model X.prog X.w) X.A (f v) (EP X pins σ Q) X.xe s
def zbv (X:Cx) (f:Value) (r:List V→Hp→VK→Prop):Prop :=
  ∀(pins:List (Addr × Obj)) (s:Shared) (σ:St) (H:Hp) (xs:List V) (us:List Value) (Q:VK),Inv X pins σ H s→aW xs us→r xs H Q →
    wpAny (model X.prog X.w) X.A (call f us) (EP X pins σ Q) X.xe s
def tOp (r:R2) (ta tb:TE):TE:=λσ H Q=>ta σ H λx H1=>tb σ H1 λy H2=>r x y H2 Q
def tUn (r:V→Hp→VK→Prop) (ta:TE):TE:=λσ H Q=>ta σ H λx H1=>r x H1 Q
inductive rI (C:Int→Int→Prop) (g:Int→Int→V):R2|m{x y H Q} i j:x=.int i→y=.int j→C i j→Q (g i j) H→rI C g x y H Q
inductive rI0 (g:Int→Int→V):R2|m{x y H Q} i j:x=.int i→y=.int j→Q (g i j) H→rI0 g x y H Q
inductive rU (g:Int→V):V→Hp→VK→Prop|m{x H Q} i:x=.int i→Q (g i) H→rU g x H Q
section
variable {X:Cx} {a b c:Expr} {ta tb tc:TE} {pos:Pos}
theorem binT (ha:PE X a ta) (hb:PE X b tb) {pins:List (Addr × Obj)} {s:Shared} {σ:St} {H:Hp} {R:V→V→Hp→Prop} (I:Inv X pins σ H s)
    (h:ta σ H λx H1=>tb σ H1 λy H2=>R x y H2) {Q:Value→Shared→Prop} {f:Value→Value→Sem Value}
    (hf:∀ v u s2 x y H2,Inv X pins σ H2 s2→aX x v→aX y u→R x y H2→wpAny (model X.prog X.w) X.A (f v u) Q X.xe s2) :
    wpAny (model X.prog X.w) X.A (eval a X.env) (λv s₁=>wpAny (model X.prog X.w) X.A (eval b X.env) (λu s₂=>wpAny (model X.prog X.w) X.A (f v u) Q X.xe s₂) X.xe s₁) X.xe s:=by
  refine thn (ha pins s σ H _ I h) λv s1 ⟨x,H1,I1,r1,q1⟩=>?_
  refine thn (hb pins s1 σ H1 _ I1 q1) λu s2 ⟨y,H2,I2,r2,q2⟩=>?_
  exact hf v u s2 x y H2 I2 r1 r2 q2
theorem aq {op:Operator} {r:R2} (ho:OpR X (binaryOp op) r) (ha:PE X a ta) (hb:PE X b tb):PE X (.BinOp a op b pos) (tOp r ta tb):=by
  intro pins s σ H Q I h
  exact wpAny_BinOp (binT ha hb I h λv u s2 x y H2 I2 rx ry q=>ho pins s2 σ H2 x y v u Q I2 rx ry q)
theorem zbk {op:UnaryOp} {r:V→Hp→VK→Prop} (ho:UnR X (unaryOp op) r) (ha:PE X a ta):PE X (.UnaryOp op a pos) (tUn r ta):=by
  intro pins s σ H Q I h
  exact UnaryOp_ (thn (ha pins s σ H _ I h) λv s1 ⟨x,H1,I1,r1,q1⟩=>ho pins s1 σ H1 x v Q I1 r1 q1)
theorem opI {f:Value→Value→Sem Value} {C:Int→Int→Prop} {g:Int→Int→Int}
    (rule:∀(i j:Int) (t u:Tok) (s:Shared) (Q:Value→Shared→Prop) (E:Value→Shared→Prop),C i j→Q (.int (g i j) s.toks) { s with toks:=s.toks+1 }→wpAny (model X.prog X.w) X.A (f (.int i t) (.int j u)) Q E s) :
    OpR X f (rI C λi j=>.int (g i j)):=by
  intro pins s σ H x y v u Q I rx ry h
  obtain⟨i,j,rfl,rfl,hc,q⟩:=h
  obtain⟨t,rfl⟩:=rx
  obtain⟨t',rfl⟩:=ry
  exact rule i j t t' s _ _ hc ⟨.int (g i j),H,I.tok _,⟨_,rfl⟩,q⟩
theorem opI0 {f:Value→Value→Sem Value} {g:Int→Int→Int}
    (rule:∀(i j:Int) (t u:Tok) (s:Shared) (Q:Value→Shared→Prop) (E:Value→Shared→Prop),Q (.int (g i j) s.toks) { s with toks:=s.toks+1 }→wpAny (model X.prog X.w) X.A (f (.int i t) (.int j u)) Q E s) :
    OpR X f (rI0 λi j=>.int (g i j)):=by
  intro pins s σ H x y v u Q I rx ry h
  obtain⟨i,j,rfl,rfl,q⟩:=h
  obtain⟨t,rfl⟩:=rx
  obtain⟨t',rfl⟩:=ry
  exact rule i j t t' s _ _ ⟨.int (g i j),H,I.tok _,⟨_,rfl⟩,q⟩
theorem opB0 {f:Value→Value→Sem Value} {g:Int→Int→Bool}
    (rule:∀(i j:Int) (t u:Tok) (s:Shared) (Q:Value→Shared→Prop) (E:Value→Shared→Prop),Q (.bool (g i j)) s→wpAny (model X.prog X.w) X.A (f (.int i t) (.int j u)) Q E s) :
    OpR X f (rI0 λi j=>.bl (g i j)):=by
  intro pins s σ H x y v u Q I rx ry h
  obtain⟨i,j,rfl,rfl,q⟩:=h
  obtain⟨t,rfl⟩:=rx
  obtain⟨t',rfl⟩:=ry
  exact rule i j t t' s _ _ ⟨.bl (g i j),H,I,rfl,q⟩
def CDiv (i j:Int):Prop:=0 < j∧j < 1073741824
def CMul (i j:Int):Prop:=(-(2 ^ 64) < i∧i < 2 ^ 64)∨(-(2 ^ 64) < j∧j < 2 ^ 64)
theorem CMul.ok {i j:Int} (h:CMul i j):IntMulOk i j:=by
  rcases h with ⟨h1,h2⟩ | ⟨h1,h2⟩
  · exact .of_left (intBits_le_64 h1 h2)
  · exact .of_right (intBits_le_64 h1 h2)
theorem zal:OpR X (binaryOp .Add) (rI0 λi j=>.int (i+j)):=opI0 λ_ _ _ _ _ _ _ q=>add_int q
theorem zbA:OpR X (binaryOp .Sub) (rI0 λi j=>.int (i - j)):=opI0 λ_ _ _ _ _ _ _ q=>sub_int q
theorem zkh:OpR X (binaryOp .Mult) (rI CMul λi j=>.int (i * j)):=opI λ_ _ _ _ _ _ _ hc q=>mul_int q hc.ok
theorem zau:OpR X (binaryOp .FloorDiv) (rI CDiv λi j=>.int (i / j)):=opI λi j _ _ _ _ _ hc q=>by
  have h1:(0:Int) < j:=hc.1
  have h2:j < 1073741824:=hc.2
  exact floordiv_int (by omega) (by rw[Int.fdiv_eq_ediv_of_nonneg i (by omega)];exact q) (.inl (PyProof.noPylong_small (by omega)))
theorem zad:OpR X (binaryOp .Mod) (rI (λ_ j=>0 < j) λi j=>.int (i % j)):=opI λi j _ _ _ _ _ hc q=>by
  have h1:(0:Int) < j:=hc
  exact mod_int' (by omega) (by rw[Int.fmod_eq_emod_of_nonneg i (by omega)];exact q)
theorem unI {f:Value→Sem Value} {g:Int→Int}
    (rule:∀(i:Int) (t:Tok) (s:Shared) (Q:Value→Shared→Prop) (E:Value→Shared→Prop),Q (.int (g i) s.toks) { s with toks:=s.toks+1 }→wpAny (model X.prog X.w) X.A (f (.int i t)) Q E s) :
    UnR X f (rU λi=>.int (g i)):=by
  intro pins s σ H x v Q I rx h
  obtain⟨i,rfl,q⟩:=h
  obtain⟨t,rfl⟩:=rx
  exact rule i t s _ _ ⟨.int (g i),H,I.tok _,⟨_,rfl⟩,q⟩
theorem za1:UnR X (unaryOp .USub) (rU λi=>.int (-i)):=unI λ_ _ _ _ _ q=>neg_int q
end
def scal:V→V→Bool
  | .non,.non=>true | .non,.int _=>true | .int _,.non=>true | .non,.bl _=>true | .bl _,.non=>true | .non,.str _=>true | .str _,.non=>true
  | .int _,.int _=>true | .bl _,.bl _=>true | .str _,.str _=>true | .byt _,.byt _=>true
  | .int _,.str _=>true | .str _,.int _=>true | .bl _,.str _=>true | .str _,.bl _=>true
  | _,_=>false
def rEq:R2:=λx y H Q=>scal x y=true∧Q (.bl (decide (x=y))) H
def rNe:R2:=λx y H Q=>scal x y=true∧Q (.bl (!decide (x=y))) H
theorem zjA {i j:Int}:decide (V.int i=V.int j)=(i == j):=by
  rw[Bool.eq_iff_iff]
  simp
theorem zku {i j:Bool}:decide (V.bl i=V.bl j)=(i == j):=by
  rw[Bool.eq_iff_iff]
  simp
theorem zjz {i j:Str}:decide (V.str i=V.str j)=(i == j):=by
  rw[Bool.eq_iff_iff]
  simp
theorem zjB {i j:Array UInt8}:decide (V.byt i=V.byt j)=(i.toList == j.toList):=by
  rw[Bool.eq_iff_iff]
  cases i
  cases j
  simp
section
variable {X:Cx} {a b c:Expr} {ta tb tc:TE} {pos:Pos}
theorem zay {pins:List (Addr × Obj)} {σ:St} {H:Hp} {s:Shared} {Q:VK} {k k':Bool} (I:Inv X pins σ H s) (q:Q (.bl k) H) (e:k=k'):EP X pins σ Q (.bool k') s:=by
  subst e
  exact⟨.bl k,H,I,rfl,q⟩
theorem zaf:OpR X (compareOp .Eq) rEq:=by
  intro pins s σ H x y v u Q I rx ry h
  obtain⟨hs,q⟩:=h
  cases x with
  | non =>
    cases rx
    cases y with
    | non=>cases ry;exact PySem.EqNone.eq_none_none (zay I q (by simp))
    | bl j=>cases ry;exact PySem.EqNone.eq_none_bool (zay I q (by simp))
    | int j=>obtain⟨t',rfl⟩:=ry;exact PySem.EqNone.eq_none_int (zay I q (by simp))
    | str j=>obtain⟨t',rfl⟩:=ry;exact PySem.EqNone.eq_none_str (zay I q (by simp))
    | _=>exact absurd (show false=true from hs) Bool.false_ne_true
  | bl i =>
    cases rx
    cases y with
    | non=>cases ry;exact PySem.EqNone.eq_bool_none (zay I q (by simp))
    | bl j=>cases ry;exact eq_bool (zay I q zku)
    | str j=>obtain⟨t',rfl⟩:=ry;exact PySem.EqMixed.eq_bool_str (zay I q (by simp))
    | _=>exact absurd (show false=true from hs) Bool.false_ne_true
  | int i =>
    obtain⟨t,rfl⟩:=rx
    cases y with
    | non=>cases ry;exact PySem.EqNone.eq_int_none (zay I q (by simp))
    | int j=>obtain⟨t',rfl⟩:=ry;exact eq_int (zay I q zjA)
    | str j=>obtain⟨t',rfl⟩:=ry;exact PySem.EqMixed.eq_int_str (zay I q (by simp))
    | _=>exact absurd (show false=true from hs) Bool.false_ne_true
  | str i =>
    obtain⟨t,rfl⟩:=rx
    cases y with
    | non=>cases ry;exact PySem.EqNone.eq_str_none (zay I q (by simp))
    | bl j=>cases ry;exact PySem.EqMixed.eq_str_bool (zay I q (by simp))
    | int j=>obtain⟨t',rfl⟩:=ry;exact PySem.EqMixed.eq_str_int (zay I q (by simp))
    | str j=>obtain⟨t',rfl⟩:=ry;exact eq_str (zay I q zjz)
    | _=>exact absurd (show false=true from hs) Bool.false_ne_true
  | byt i =>
    obtain⟨t,rfl⟩:=rx
    cases y with
    | byt j=>obtain⟨t',rfl⟩:=ry;exact PySem.W.eq_bytes (zay I q zjB)
    | _=>exact absurd (show false=true from hs) Bool.false_ne_true
  | _=>cases y <;> exact absurd (show false=true from hs) Bool.false_ne_true
theorem zcN:OpR X (compareOp .NotEq) rNe:=by
  intro pins s σ H x y v u Q I rx ry h
  obtain⟨hs,q⟩:=h
  cases x with
  | non =>
    cases rx
    cases y with
    | non=>cases ry;exact PySem.EqNone.ne_none_none (zay I q (by simp))
    | bl j=>cases ry;exact PySem.EqNone.ne_none_bool (zay I q (by simp))
    | int j=>obtain⟨t',rfl⟩:=ry;exact PySem.EqNone.ne_none_int (zay I q (by simp))
    | str j=>obtain⟨t',rfl⟩:=ry;exact PySem.EqNone.ne_none_str (zay I q (by simp))
    | _=>exact absurd (show false=true from hs) Bool.false_ne_true
  | bl i =>
    cases rx
    cases y with
    | non=>cases ry;exact PySem.EqNone.ne_bool_none (zay I q (by simp))
    | bl j=>cases ry;exact ne_bool (zay I q (congrArg not zku))
    | str j=>obtain⟨t',rfl⟩:=ry;exact PySem.EqMixed.ne_bool_str (zay I q (by simp))
    | _=>exact absurd (show false=true from hs) Bool.false_ne_true
  | int i =>
    obtain⟨t,rfl⟩:=rx
    cases y with
    | non=>cases ry;exact PySem.EqNone.ne_int_none (zay I q (by simp))
    | int j=>obtain⟨t',rfl⟩:=ry;exact ne_int (zay I q (congrArg not zjA))
    | str j=>obtain⟨t',rfl⟩:=ry;exact PySem.EqMixed.ne_int_str (zay I q (by simp))
    | _=>exact absurd (show false=true from hs) Bool.false_ne_true
  | str i =>
    obtain⟨t,rfl⟩:=rx
    cases y with
    | non=>cases ry;exact PySem.EqNone.ne_str_none (zay I q (by simp))
    | bl j=>cases ry;exact PySem.EqMixed.ne_str_bool (zay I q (by simp))
    | int j=>obtain⟨t',rfl⟩:=ry;exact PySem.EqMixed.ne_str_int (zay I q (by simp))
    | str j=>obtain⟨t',rfl⟩:=ry;exact ne_str (zay I q (congrArg not zjz))
    | _=>exact absurd (show false=true from hs) Bool.false_ne_true
  | byt i =>
    obtain⟨t,rfl⟩:=rx
    cases y with
    | byt j=>obtain⟨t',rfl⟩:=ry;exact PySem.W.ne_bytes (zay I q (congrArg not zjB))
    | _=>exact absurd (show false=true from hs) Bool.false_ne_true
  | _=>cases y <;> exact absurd (show false=true from hs) Bool.false_ne_true
theorem zbR:OpR X (compareOp .Lt) (rI0 λi j=>.bl (decide (i < j))):=opB0 λ_ _ _ _ _ _ _ q=>lt_int q
theorem op_le:OpR X (compareOp .LtE) (rI0 λi j=>.bl (decide (i≤j))):=opB0 λ_ _ _ _ _ _ _ q=>le_int q
theorem zcf:OpR X (compareOp .Gt) (rI0 λi j=>.bl (decide (j < i))):=opB0 λ_ _ _ _ _ _ _ q=>gt_int q
theorem zd1:OpR X (compareOp .GtE) (rI0 λi j=>.bl (decide (j≤i))):=opB0 λ_ _ _ _ _ _ _ q=>ge_int q
theorem zkJ:OpR X (compareOp .In) (λx y H Q=>∃ i j,x=.str i∧y=.str j∧Q (.bl (!(Builtin.Str.occurrences j i 0 j.length 1).isEmpty)) H):=by
  intro pins s σ H x y v u Q I rx ry h
  obtain⟨i,j,rfl,rfl,q⟩:=h
  obtain⟨t,rfl⟩:=rx
  obtain⟨t',rfl⟩:=ry
  exact in_str (zay I q rfl)
theorem zhf:OpR X (compareOp .Is) (λx y H Q=>y=.non∧Q (.bl (decide (x=.non))) H):=by
  intro pins s σ H x y v u Q I rx ry h
  obtain⟨rfl,q⟩:=h
  cases ry
  refine is_none_gen (zay I q ?_)
  cases x <;> first
    | (cases rx;rfl)
    | (obtain⟨t,rfl⟩:=rx;rfl)
theorem zhE:OpR X (compareOp .IsNot) (λx y H Q=>y=.non∧Q (.bl (!decide (x=.non))) H):=by
  intro pins s σ H x y v u Q I rx ry h
  obtain⟨rfl,q⟩:=h
  cases ry
  refine isnot_none_gen (zay I q ?_)
  cases x <;> first
    | (cases rx;rfl)
    | (obtain⟨t,rfl⟩:=rx;rfl)
theorem zkj (b:Expr) {op:CmpOp} (h:op≠.In:=by decide) (h2:op≠.NotIn:=by decide):behindInMarks op b=false:=by
  have e1:(op == CmpOp.In)=false:=by cases op <;> first | rfl | exact absurd rfl h
  have e2:(op == CmpOp.NotIn)=false:=by cases op <;> first | rfl | exact absurd rfl h2
  cases b <;> simp [behindInMarks,e1,e2]
theorem zaI {op:CmpOp} {r:R2} (ho:OpR X (compareOp op) r) (ha:PE X a ta) (hb:PE X b tb) (hm:behindInMarks op b=false:=by exact zkj _):PE X (.Compare a [op] [b] pos) (tOp r ta tb):=by
  intro pins s σ H Q I h
  exact wpAny_Compare1 (binT ha hb I h λv u s2 x y H2 I2 rx ry q=>ho pins s2 σ H2 x y v u Q I2 rx ry q) hm
def tTest (t:TE):TT:=λσ H Q=>t σ H λx H'=>isB x H' Q
theorem au {op:CmpOp} {r:R2} (ho:OpR X (compareOp op) r) (ha:PE X a ta) (hb:PE X b tb) (hm:behindInMarks op b=false:=by exact zkj _):PT X (.Compare a [op] [b] pos) (tTest (tOp r ta tb)):=by
  intro pins s σ H Q I h
  refine wpAny_isTrue_Compare1 (thn (ha pins s σ H _ I h) λv s1 ⟨x,H1,I1,r1,q1⟩=>thn (hb pins s1 σ H1 _ I1 q1) λu s2 ⟨y,H2,I2,r2,q2⟩ =>
    thn (ho pins s2 σ H2 x y v u _ I2 r1 r2 q2) λc s3 ⟨z,H3,I3,r3,k,e,q3⟩=>?_) hm
  subst e
  cases r3
  exact wpAny_truthy_bool ⟨H3,I3,q3⟩
def tChain (r r':R2) (ta tb tc:TE):TE:=λσ H Q=>ta σ H λx H1=>tb σ H1 λy H2=>r x y H2 λz H3=>∃ k,z=.bl k ∧
  (if k=true then tc σ H3 λw' H4=>r' y w' H4 Q else Q (.bl false) H3)
theorem zlw {op op':CmpOp} {r r':R2} (ho:OpR X (compareOp op) r) (ho':OpR X (compareOp op') r') (ha:PE X a ta) (hb:PE X b tb) (hc:PE X c tc)
    (hm:lastMarks [op,op'] [b,c]=false:=by with_unfolding_all rfl):PT X (.Compare a [op,op'] [b,c] pos) (tTest (tChain r r' ta tb tc)):=by
  intro pins s σ H Q I h
  refine isTrue_chain (thn (ha pins s σ H _ I h) λv s1 ⟨x,H1,I1,r1,q1⟩=>test_link (thn (hb pins s1 σ H1 _ I1 q1) λu s2 ⟨y,H2,I2,r2,q2⟩ =>
    thn (ho pins s2 σ H2 x y v u _ I2 r1 r2 q2) λd s3 ⟨z,H3,I3,r3,k,e,q3⟩=>?_)) hm
  subst e
  cases r3
  refine wpAny_truthy_bool ?_
  cases k with
  | false =>
    obtain⟨k',e',q'⟩:=q3
    cases e'
    exact ite_ff ⟨H3,I3,q'⟩
  | true =>
    refine ite_tt (test_last (thn (hc pins s3 σ H3 _ I3 q3) λw' s4 ⟨z',H4,I4,r4,q4⟩=>thn (ho' pins s4 σ H4 y z' u w' _ I4 r2 r4 q4) λd' s5 ⟨z2,H5,I5,r5,k2,e2,q5⟩=>?_))
    subst e2
    cases r5
    exact wpAny_truthy_bool ⟨H5,I5,q5⟩
theorem zhg:(sizeLine:Nat) < 2 ^ 63:=by rw[sizeLine_eq];decide
theorem zb6 {x:V} {us:List Value} (r:aW [x] us):∃ u,us=[u]∧aX x u:=by
  cases r with
  | cons r1 r2=>cases r2;exact⟨_,rfl,r1⟩
theorem zgi {x y:V} {us:List Value} (r:aW [x,y] us):∃ u w',us=[u,w']∧aX x u∧aX y w':=by
  cases r with
  | cons r1 r2 =>
    cases r2 with
    | cons r3 r4=>cases r4;exact⟨_,_,rfl,r1,r3⟩
theorem zb4:zbv X (.builtin "abs") (λxs H Q=>∃ i,xs=[.int i]∧Q (.int (if i < 0 then -i else i)) H):=by
  intro pins s σ H xs us Q I r h
  obtain⟨i,rfl,q⟩:=h
  obtain⟨u,rfl,t,rfl⟩:=zb6 r
  exact call_abs_int λu tk=>⟨.int (if i < 0 then -i else i),H,I.tok _,⟨_,rfl⟩,q⟩
theorem zh3 (hc:X.calm=true):zbv X (.builtin "max") (λxs H Q=>∃ i j,xs=[.int i,.int j]∧Q (.int (if j > i then j else i)) H):=by
  intro pins s σ H xs us Q I r h
  obtain⟨i,j,rfl,q⟩:=h
  obtain⟨u,w',rfl,⟨t,rfl⟩,⟨t',rfl⟩⟩:=zgi r
  refine max_two_ints (I.ok.hd hc) λh' tk k=>⟨_,H,I.kept k,?_,q⟩
  by_cases hj:j > i
  · rw[if_pos hj,if_pos hj];exact⟨_,rfl⟩
  · rw[if_neg hj,if_neg hj];exact⟨_,rfl⟩
theorem zlg (hc:X.calm=true):zbv X (.builtin "min") (λxs H Q=>∃ i j,xs=[.int i,.int j]∧Q (.int (if j < i then j else i)) H):=by
  intro pins s σ H xs us Q I r h
  obtain⟨i,j,rfl,q⟩:=h
  obtain⟨u,w',rfl,⟨t,rfl⟩,⟨t',rfl⟩⟩:=zgi r
  refine min_two_ints (I.ok.hd hc) λh' tk k=>⟨_,H,I.kept k,?_,q⟩
  by_cases hj:j < i
  · rw[if_pos hj,if_pos hj];exact⟨_,rfl⟩
  · rw[if_neg hj,if_neg hj];exact⟨_,rfl⟩
theorem zlh:zbv X (.type "int") (λxs H Q=>(∃ i,xs=[.int i]∧Q (.int i) H)∨∃ k,xs=[.bl k]∧Q (.int (if k then 1 else 0)) H):=by
  intro pins s σ H xs us Q I r h
  rcases h with ⟨i,rfl,q⟩ | ⟨k,rfl,q⟩
  · obtain⟨u,rfl,t,rfl⟩:=zb6 r
    exact call_int_int ⟨.int i,H,I,⟨_,rfl⟩,q⟩
  · obtain⟨u,rfl,r1⟩:=zb6 r
    cases r1
    exact call_int_bool ⟨.int (if k then 1 else 0),H,I.tok _,⟨_,rfl⟩,q⟩
theorem zhq:zbv X (.type "bool") (λxs H Q=>(∃ i,xs=[.int i]∧Q (.bl (i != 0)) H)∨∃ k,xs=[.bl k]∧Q (.bl k) H):=by
  intro pins s σ H xs us Q I r h
  rcases h with ⟨i,rfl,q⟩ | ⟨k,rfl,q⟩
  · obtain⟨u,rfl,t,rfl⟩:=zb6 r
    exact call_bool_int ⟨.bl (i != 0),H,I,rfl,q⟩
  · obtain⟨u,rfl,r1⟩:=zb6 r
    cases r1
    exact call_bool_bool ⟨.bl k,H,I,rfl,q⟩
end
end L2
namespace L2
open PySem PySem.Spec PyProof.Rows
structure zgM (h:Heap) (x dx C:Addr) (mA:Str→Option Value):Prop where
  obj:h.get? x=some (PySem.W.instObj C dx)
  ns:h.Ns1 dx mA
  ne:dx≠x
theorem zk5 {h:Heap} {dx:Addr} {mA:Str→Option Value} (n:h.Ns1 dx mA):∃ od,h.get? dx=some od∧∀ name,PySem.W.lookIn name od=some (mA name):=by
  obtain⟨o,es,ep,ho,hd,hk,_,hm⟩:=n
  refine⟨o,ho,λname=>?_⟩
  have e:=hm name
  unfold nsFind findBy at e
  rw[←Array.find?_toList]at e
  unfold PySem.W.lookIn
  rw[hd]
  dsimp only
  split
  · rename_i y q
    rw[q]at e
    exact congrArg some e
  · rename_i q
    rw[q]at e
    have a:es.toList.any (·.refKey)=false:=by
      rw[List.any_eq_false]
      intro y hy
      obtain⟨z,t,hkey⟩:=hk y (Array.mem_toList_iff.mp hy)
      simp [DictEntry.refKey,hkey]
    have a':¬es.toList.any (·.refKey)=true:=by rw[a];exact Bool.false_ne_true
    rw[if_neg a']
    exact congrArg some e
theorem zgM.look {h:Heap} {x dx C:Addr} {mA:Str→Option Value} (I:zgM h x dx C mA):∃ od,PySem.W.InstAt h x (PySem.W.instObj C dx) C (some od)∧∀ name,PySem.W.lookIn name od=some (mA name) :=
  let ⟨od,ho,hl⟩:=zk5 I.ns
  ⟨od,⟨I.obj,rfl,rfl,ho⟩,hl⟩
section
variable {prog:Program} {w:World} {A:Around} {E:Value→Shared→Prop} {s:Shared} {K:PySem.W.Frag} {x dx C f:Addr} {mA:Str→Option Value} {name:Str} {v:Value}
theorem zmE {expr:Bool} {Q:Value→Shared→Prop} (X:K.In s.heap) (I:zgM s.heap x dx C mA) (hg:PySem.W.plainGet K C name=true) (hh:PySem.W.hasDictIn K C=true)
    (ha:PySem.W.findIn K (.ref C) name=some none) (hv:mA name=some v) (hv':PySem.W.handedIn v=true) (h:Q v { s with toks:=s.toks+1 }) :
    wpAny (model prog w) A (getAttr (.ref x) name expr) Q E s:=by
  obtain⟨od,J,hl⟩:=I.look
  exact PySem.W.get_value X J (PySem.W.plainGet_of hg).1 (PySem.W.findObj_own hh ha rfl (by rw[hl,hv])) hv' h
theorem zlZ {pl:Sem Bool} {Q:Value × List Value→Shared→Prop} (X:K.In s.heap) (I:zgM s.heap x dx C mA) (hg:PySem.W.plainGet K C name=true)
    (hf:PySem.W.findIn K (.ref C) name=some (some (.ref f))) (ht:PySem.W.isFn K (.ref f)=true) (hv:mA name=none) (h:Q (.ref f,[.ref x]) s) :
    wpAny (model prog w) A (getMethod (.ref x) name pl) Q E s:=by
  obtain⟨od,J,hl⟩:=I.look
  exact PySem.W.method_fn X J (PySem.W.plainGet_of hg).1 (PySem.W.plainGet_of hg).2 hf (beq_iff_eq.mp ht) (by show(PySem.W.lookIn name od).map (·.isSome)=some false;rw[hl,hv];rfl) h
theorem zmh {ns:List Str} {Q:Unit→Shared→Prop} (X:K.In s.heap) (I:zgM s.heap x dx C mA)
    (hs:PySem.W.findIn K (.ref C) "__setattr__"=some (some (.builtin "object.__setattr__"))) (hp:PySem.W.plainOver K C=true) (ht:PySem.W.takerIn K C name=some none) (hh:PySem.W.hasDictIn K C=true)
    (hw:PySem.Within mA ns) (hsz:ns.length≤sizeLine)
    (h:∀ h',zgM h' x dx C (λy=>if y=name then some v else mA y)→Heap.SameBut dx s.heap h'→Q () { s with heap:=h',toks:=s.toks+2 }) :
    wpAny (model prog w) A (setAttr (.ref x) name v) Q E s:=by
  obtain⟨od,J,hl⟩:=I.look
  refine PySem.W.set_plain X J hs (PySem.W.osa_open (s:={ s with toks:=s.toks+1 }) (r:=none) X J hp ht λb=>?_)
  obtain⟨cd,hc,hd'⟩:=PySem.W.any_some hh
  have hx:s.heap.get? x=some ⟨.ref C,some dx,.plain,#[]⟩:=I.obj
  refine wpAny_bind (wpAny_pure (wpAny_bind (wpAny_bind (wpAny_loadPart hx (wpAny_bind (PySem.W.Looks.here (s:={ s with toks:=s.toks+1 }) (PySem.W.looks_clsIn X hc) ?_))))))
  rw[hd']
  refine wpAny_pure (a:=some dx) (wpAny_bind (wpAny_pure (wpAny_bind ?_)))
  refine wpAny_nsSet1 (s:={ s with toks:=s.toks+1 }) I.ns λh' hn2 hs2=>?_
  obtain⟨oD,esD,epD,hoD,hdD,hcD⟩:=hn2.count (PySem.Within.cons name v hw)
  refine wpAny_bind (wpAny_lookBehind hoD (by rw[hdD];exact pastItsLine_dict (Nat.le_trans hcD (by rw[List.length_cons];omega))) ?_)
  exact wpAny_pure (h _ ⟨(hs2.2 _ (Ne.symm I.ne)).trans I.obj,hn2,I.ne⟩ hs2)
theorem zlT {R:Result→Shared→Prop} {vs:List Value} {kw:List (Str × Value)} (X:K.In s.heap) (hm:PySem.W.makesIn K C=true)
    (hi:PySem.W.findIn K (.ref C) "__init__"=some (some (.ref f))) (hf:PySem.W.typeIn K (.ref f)=some (.type "function"))
    (h:codeAny (model prog w) (A.under (.builtin "type.__call__" ⟨.ref C :: vs,kw⟩)) (.call (.ref f) ⟨.ref (s.heap.objs.size+1) :: vs,kw⟩) (PySem.W.InitBack (s.heap.objs.size+1) R)
      { s with heap:=(s.heap.push PySem.W.emptyDict).push (PySem.W.instObj C s.heap.objs.size) }) :
    codeAny (model prog w) A (.call (.ref C) ⟨vs,kw⟩) R s:=by
  obtain⟨hh,g,d,t,os⟩:=s
  exact PySem.W.make_core (PySem.W.makes_of X hm) (PySem.W.looks_findIn X hi) (λself=>PySem.W.bind_fn X self hf) (.inl rfl) h
end
def zbF (f:Str) (v:V):List (Str × V)→List (Str × V)
  | []=>[(f,v)]
  | (g,x) :: r=>if g=f then(g,v) :: r else(g,x) :: zbF f v r
theorem za9 (f g:Str) (v:V):∀ fs:List (Str × V),(zbF f v fs).lookup g=if g=f then some v else fs.lookup g
  | []=>by
    show List.lookup g [(f,v)]=_
    by_cases h:g=f
    · have hb:(g == f)=true:=beq_iff_eq.mpr h
      simp only[List.lookup,hb,if_pos h]
    · have hb:(g == f)=false:=beq_eq_false_iff_ne.mpr h
      simp only[List.lookup,hb,if_neg h]
  | (k,x) :: r=>by
    have ih:=za9 f g v r
    rw[show zbF f v ((k,x) :: r)=(if k=f then(k,v) :: r else(k,x) :: zbF f v r) from rfl]
    by_cases hk:k=f
    · rw[if_pos hk]
      by_cases h:g=k
      · have hb:(g == k)=true:=beq_iff_eq.mpr h
        simp only[List.lookup,hb,if_pos (h.trans hk)]
      · have hb:(g == k)=false:=beq_eq_false_iff_ne.mpr h
        simp only[List.lookup,hb,if_neg (λe:g=f=>h (e.trans hk.symm))]
    · rw[if_neg hk]
      by_cases h:g=k
      · have hb:(g == k)=true:=beq_iff_eq.mpr h
        simp only[List.lookup,hb,if_neg (λe:g=f=>hk (h.symm.trans e))]
      · have hb:(g == k)=false:=beq_eq_false_iff_ne.mpr h
        simp only[List.lookup,hb]
        exact ih
theorem zf7 (f:Str) (v:V):∀ fs:List (Str × V),f∈(zbF f v fs).map (·.1)∧∀ g,g∈fs.map (·.1)→g∈(zbF f v fs).map (·.1)
  | []=>⟨by simp [zbF],λg h=>by simp at h⟩
  | (k,x) :: r=>by
    obtain⟨i1,i2⟩:=zf7 f v r
    rw[show zbF f v ((k,x) :: r)=(if k=f then(k,v) :: r else(k,x) :: zbF f v r) from rfl]
    by_cases hk:k=f
    · rw[if_pos hk]
      subst hk
      exact⟨by simp,λg h=>by simpa using h⟩
    · rw[if_neg hk]
      refine⟨?_,λg h=>?_⟩
      · rw[List.map_cons]
        exact List.mem_cons_of_mem _ i1
      · rw[List.map_cons]at h ⊢
        rcases List.mem_cons.mp h with e | e
        · exact List.mem_cons.mpr (.inl e)
        · exact List.mem_cons_of_mem _ (i2 g e)
theorem zgH (f:Str) (v:V):∀ fs:List (Str × V),(zbF f v fs).length≤fs.length+1
  | []=>by simp [zbF]
  | (k,x) :: r=>by
    have ih:=zgH f v r
    rw[show zbF f v ((k,x) :: r)=(if k=f then(k,v) :: r else(k,x) :: zbF f v r) from rfl]
    by_cases hk:k=f
    · rw[if_pos hk,List.length_cons,List.length_cons];omega
    · rw[if_neg hk,List.length_cons,List.length_cons];omega
theorem zcZ.some_of {v:V} {o:Option Value} (r:zcZ (some v) o):∃ u,o=some u∧aX v u:=by
  cases o with
  | none=>exact(show False from r).elim
  | some u=>exact⟨u,rfl,r⟩
theorem zcZ.none_of {o:Option Value} (r:zcZ none o):o=none:=by
  cases o with
  | none=>rfl
  | some u=>exact(show False from r).elim
theorem zlc {v:V} {u:Value} (r:aX v u):PySem.W.handedIn u=true:=by
  cases v with
  | non=>cases (show u=Value.none from r);rfl
  | bl b=>cases (show u=Value.bool b from r);rfl
  | int i=>obtain⟨t,e⟩:=(show ∃ t,u=Value.int i t from r);cases e;rfl
  | str x=>obtain⟨t,e⟩:=(show ∃ t,u=Value.str x t from r);cases e;rfl
  | byt b=>obtain⟨t,e⟩:=(show ∃ t,u=Value.bytes b t from r);cases e;rfl
  | flt b=>obtain⟨t,e⟩:=(show ∃ t,u=Value.float b t from r);cases e;rfl
  | ref a=>cases (show u=Value.ref a from r);rfl
  | ty n=>cases (show u=Value.type n from r);rfl
section
variable {P:Program} {w:World} {H H':Hp} {h h':Heap} {a C dx:Addr} {fs fs':List (Str × V)}
theorem zgw (hok:HOk P w H h) (e:H a=some (.ins C dx fs)):∃ mA,zgM h a dx C mA∧(∀ f,zcZ (fs.lookup f) (mA f))∧PySem.Within mA (fs.map (·.1))∧fs.length≤1000∧H dx=some (.own a):=by
  obtain⟨d,z,ne,ob,mA,n,r,q⟩:=(show zaF P w H h a (.ins C dx fs) from hok a _ e)
  exact⟨mA,⟨ob,n,ne⟩,r,q,z,d⟩
end
structure Cls (K:PySem.W.Frag) (C:Addr):Prop where
  pg:PySem.W.plainGet K C Str.empty=true
  hd:PySem.W.hasDictIn K C=true
  po:PySem.W.plainOver K C=true
  sa:PySem.W.findIn K (.ref C) "__setattr__"=some (some (.builtin "object.__setattr__"))
theorem Cls.get {K:PySem.W.Frag} {C:Addr} (c:Cls K C) (f:Str):PySem.W.plainGet K C f=true:=c.pg
def zcD (K:PySem.W.Frag) (C:Addr) (f:Str):Prop:=PySem.W.findIn K (.ref C) f=some none
theorem zcD.taker {K:PySem.W.Frag} {C:Addr} {f:Str} (n:zcD K C f):PySem.W.takerIn K C f=some none:=by
  unfold PySem.W.takerIn
  rw[show PySem.W.findIn K (.ref C) f=some none from n]
  rfl
structure zcp (K:PySem.W.Frag) (C:Addr) (m:Str) (f:Addr):Prop where
  at_:PySem.W.findIn K (.ref C) m=some (some (.ref f))
  fn:PySem.W.isFn K (.ref f)=true
  kp:PySem.W.keepIn K (.ref f)=true
section
variable {X:Cx} {pins:List (Addr × Obj)} {σ:St} {H:Hp} {s:Shared} {a C dx:Addr} {fs:List (Str × V)} {f:Str} {v:V} {A:Around} {E:Value→Shared→Prop}
theorem zj8 {b:Bool} {Q:Value→Shared→Prop} (I:Inv X pins σ H s) (e:H a=some (.ins C dx fs)) (c:Cls X.K C) (n:zcD X.K C f) (l:fs.lookup f=some v)
    (h:∀ u s',Inv X pins σ H s'→aX v u→Q u s'):wpAny (model X.prog X.w) A (getAttr (.ref a) f b) Q E s:=by
  obtain⟨mA,O,r,_,_,_⟩:=zgw I.hok e
  obtain⟨u,hu,ru⟩:=zcZ.some_of (v:=v) (o:=mA f) (by rw[←l];exact r f)
  exact zmE I.kIn O (c.get f) c.hd n hu (zlc ru) (h u _ (I.tok _) ru)
theorem zho {m:Str} {g:Addr} {pl:Sem Bool} {Q:Value × List Value→Shared→Prop} (I:Inv X pins σ H s) (e:H a=some (.ins C dx fs)) (c:Cls X.K C) (k:zcp X.K C m g) (l:fs.lookup m=none)
    (h:Q (.ref g,[.ref a]) s):wpAny (model X.prog X.w) A (getMethod (.ref a) m pl) Q E s:=by
  obtain⟨mA,O,r,_,_,_⟩:=zgw I.hok e
  have hn:mA m=none:=zcZ.none_of (by rw[←l];exact r m)
  exact zlZ I.kIn O (c.get m) k.at_ k.fn hn h
theorem zjR {y:V} {u:Value} {Q:Unit→Shared→Prop} (I:Inv X pins σ H s) (e:H a=some (.ins C dx fs)) (c:Cls X.K C) (n:zcD X.K C f) (hl:fs.length < 1000) (ry:aX y u)
    (h:∀ s',Inv X pins σ (upd H a (.ins C dx (zbF f y fs))) s'→Q () s'):wpAny (model X.prog X.w) A (setAttr (.ref a) f u) Q E s:=by
  obtain⟨mA,O,r,wi,_,ho⟩:=zgw I.hok e
  have hz:(fs.map (·.1)).length≤sizeLine:=by rw[lM,sizeLine_eq];omega
  refine zmh I.kIn O c.sa c.po n.taker c.hd wi hz λh' O' sb=>h _ ?_
  have hd:∃ o,h'.get? dx=some o:=let ⟨o,_,_,e',_⟩:=O'.ns;⟨o,e'⟩
  refine I.write (x:=a) (e:=dx) (by rw[e];exact True.intro) (.inr ho) (λb q hb z=>(sb.2 b hb).trans z) hd ?_
  refine⟨by rw[aD O.ne];exact ho,?_,O.ne,O'.obj,_,O'.ns,λg=>?_,λg hg=>?_⟩
  · have:=zgH f y fs;omega
  · show zcZ ((zbF f y fs).lookup g) (if g=f then some u else mA g)
    rw[za9]
    by_cases q:g=f
    · rw[if_pos q,if_pos q];exact ry
    · rw[if_neg q,if_neg q];exact r g
  · by_cases q:g=f
    · rw[q];exact(zf7 f y fs).1
    · refine(zf7 f y fs).2 g (wi g λz=>hg ?_)
      show(if g=f then some u else mA g)=none
      rw[if_neg q];exact z
theorem Inv.made (I:Inv X pins σ H s):Inv X pins σ (upd (upd H s.heap.objs.size (.own (s.heap.objs.size+1))) (s.heap.objs.size+1) (.ins C s.heap.objs.size []))
    { s with heap:=(s.heap.push PySem.W.emptyDict).push (PySem.W.instObj C s.heap.objs.size) }:=by
  have e1:(s.heap.push PySem.W.emptyDict).get? s.heap.objs.size=some PySem.W.emptyDict:=Heap.get?_push_size s.heap rfl
  have e2:((s.heap.push PySem.W.emptyDict).push (PySem.W.instObj C s.heap.objs.size)).get? (s.heap.objs.size+1)=some (PySem.W.instObj C s.heap.objs.size):=by
    have:=Heap.get?_push_size (s.heap.push PySem.W.emptyDict) (o:=PySem.W.instObj C s.heap.objs.size) rfl
    rwa [Heap.size_push]at this
  have e3:(s.heap.push PySem.W.emptyDict).Ns s.heap.objs.size (λ_=>none):=⟨PySem.W.emptyDict,#[],_,e1,rfl,(λe he=>absurd he (by simp)),λ_=>rfl⟩
  have I1:=I.laid (a:=s.heap.objs.size) (o:=.own (s.heap.objs.size+1)) (h':=s.heap.push PySem.W.emptyDict) (t':=s.toks) (λb u q=>Heap.get?_push_of_some _ q) (nRq _) ⟨_,e1⟩
  refine I1.laid (a:=s.heap.objs.size+1) (o:=.ins C s.heap.objs.size []) (t':=s.toks) (λb u q=>Heap.get?_push_of_some _ q) (Nat.le_of_eq (Heap.size_push _ _)) ?_
  have ne:s.heap.objs.size≠s.heap.objs.size+1:=Nat.ne_of_lt (Nat.lt_succ_self _)
  refine⟨by rw[aD ne,ae],Nat.zero_le _,ne,e2,λ_=>none,(Heap.Ns1.of_empty e3).at λo q=>Heap.get?_push_of_some _ q,λ_=>True.intro,λy hy=>absurd rfl hy⟩
theorem zmI {prog:Program} {w:World} {env:Env} {e:Expr} {f:Str} {pos:Pos} {s:Shared} {Q:Value→Shared→Prop} (hb:attributeBase e f env (eval e env)=eval e env)
    (h:wpAny (model prog w) A (eval e env) (λo s₁=>wpAny (model prog w) A (getAttr o f true) Q E s₁) E s):wpAny (model prog w) A (eval (.Attribute e f pos) env) Q E s :=
  Attribute_any_ h (by rw[arm_eval_Attribute,hb])
end
inductive rFld (K:PySem.W.Frag) (f:Str):V→Hp→VK→Prop|m{x H Q} a C dx fs v:x=.ref a→H a=some (.ins C dx fs)→Cls K C→zcD K C f→fs.lookup f=some v→Q v H→rFld K f x H Q
def tFld (K:PySem.W.Frag) (ta:TE) (f:Str):TE:=λσ H Q=>ta σ H λx H1=>rFld K f x H1 Q
def sFld (K:PySem.W.Frag) (ta tv:TE) (f:Str):TS:=λD σ H=>tv σ H λy H1=>ta σ H1 λx H2=>∃ a C dx fs,x=.ref a∧H2 a=some (.ins C dx fs)∧Cls K C∧zcD K C f∧fs.length < 1000 ∧
  D.nx σ (upd H2 a (.ins C dx (zbF f y fs)))
section
variable {X:Cx} {o e value:Expr} {f:Str} {pos pos' tpos:Pos} {ta tv:TE}
theorem zae (he:PE X e ta) (hb:attributeBase e f X.env (eval e X.env)=eval e X.env):PE X (.Attribute e f pos) (tFld X.K ta f):=by
  intro pins s σ H Q I h
  refine zmI hb (thn (he pins s σ H _ I h) λu s1 ⟨x,H1,I1,rx,a,C,dx,fs,v,ex,ea,c,n,l,q⟩=>?_)
  subst ex
  obtain rfl:u=Value.ref a:=rx
  exact zj8 I1 ea c n l λu' s2 I2 ru=>⟨v,H1,I2,ru,q⟩
theorem zfE (ha:PE X o ta) (hv:PE X value tv) (hs:swapsWith value (some (.Attribute o f pos')) pos.line X.env=pure false):PS X (.Assign [.Attribute o f pos'] value pos) (sFld X.K ta tv f):=by
  intro pins s σ H D I h
  refine plainObj_wpAny_Assign_Attribute (thn (hv pins s σ H _ I h) λu s1 ⟨y,H1,I1,ry,q⟩=>thn (ha pins s1 σ H1 _ I1 q) λov s2 ⟨x,H2,I2,rx,a,C,dx,fs,ex,ea,c,n,l,q2⟩=>?_) hs
  subst ex
  obtain rfl:ov=Value.ref a:=rx
  exact zjR I2 ea c n l ry λs3 I3=>⟨σ,_,I3,q2⟩
theorem zmM {pl:Sem Bool} {m:Str} {apos:Pos} {args:List Expr} {pins:List (Addr × Obj)} {s:Shared} {σ:St} {H:Hp} {Q:Value→Shared→Prop} {te:TE} (he:PE X e te) (I:Inv X pins σ H s)
    (h:te σ H λx H1=>∃ a C dx fs g,x=.ref a∧H1 a=some (.ins C dx fs)∧Cls X.K C∧zcp X.K C m g∧fs.lookup m=none ∧
      ∀ s1,Inv X pins σ H1 s1→wpAny (model X.prog X.w) X.A (callWith pos (.ref g) [.ref a] (backTo pos (starEach args X.env)) (backToKw pos (keywordEach [] X.env))) Q X.xe s1)
    (ht:eval (.Call (.Attribute e m apos) args [] pos) X.env=(do
      let ov ←eval e X.env
      standAt apos.atName
      let (f,first) ←holding [ov] (getMethod ov m pl)
      callWith pos f first (backTo pos (starEach args X.env)) (backToKw pos (keywordEach [] X.env)))) :
    wpAny (model X.prog X.w) X.A (eval (.Call (.Attribute e m apos) args [] pos) X.env) Q X.xe s:=by
  refine PySem.W.methodCall_KW (pl:=pl) (thn (he pins s σ H _ I h) λu s1 ⟨x,H1,I1,rx,a,C,dx,fs,g,ex,ea,c,k,l,q⟩=>?_) ht
  subst ex
  obtain rfl:u=Value.ref a:=rx
  exact zho I1 ea c k l (q s1 I1)
end
section
variable {X:Cx} {pins:List (Addr × Obj)} {σ:St} {H:Hp} {s:Shared} {A:Around} {E:Value→Shared→Prop} {Q:Value→Shared→Prop} {c:Value} {b:Bool}
inductive zb7 (K:PySem.W.Frag) (H:Hp):V→Value→Prop where
  | non:zb7 K H .non (.type "NoneType")
  | bl (x:Bool):zb7 K H (.bl x) (.type "bool")
  | int (i:Int):zb7 K H (.int i) (.type "int")
  | str (x:Str):zb7 K H (.str x) (.type "str")
  | flt (x:UInt64):zb7 K H (.flt x) (.type "float")
  | lst {a:Addr} {xs:List V} (e:H a=some (.lst xs)):zb7 K H (.ref a) (.type "list")
  | frz {a:Addr} {o:Obj} {xs:List V} (e:H a=some (.frz o (.lst xs))):zb7 K H (.ref a) (.type "list")
  | tup {a:Addr} {xs:List V} (e:H a=some (.tup xs)):zb7 K H (.ref a) (.type "tuple")
  | dK {a:Addr} {kvs:List (Key × V)} (e:H a=some (.dK kvs)):zb7 K H (.ref a) (.type "dict")
  | dT {a:Addr} {kvs:List (List Key × V)} (e:H a=some (.dT kvs)):zb7 K H (.ref a) (.type "dict")
  | ins {a C dx:Addr} {fs:List (Str × V)} (e:H a=some (.ins C dx fs)) (cl:Cls K C) (ha:PySem.W.findIn K (.ref C) "__class__"=some (some (.builtin "object.__class__")))
      (hn:PySem.W.specialIn K (.builtin "object.__class__") "__get__"=some (some (.builtin "getset_descriptor.__get__"))) (htk:PySem.W.takesIn K (.builtin "object.__class__")=some true)
      (hm:PySem.W.mroIn K C (.type "object")=some true):zb7 K H (.ref a) (.ref C)
theorem zk9 {x:V} {u t:Value} (I:Inv X pins σ H s) (rx:aX x u) (ty:zb7 X.K H x t) (e:PySem.W.kitOne X.K t c=some b) (h:∀ tk,Q (.bool b) { s with toks:=tk }) :
    wpAny (model X.prog X.w) A (call (.builtin "isinstance") [u,c]) Q E s:=by
  cases ty with
  | non=>cases (show u=Value.none from rx);exact PySem.W.kia_one PySem.W.kitx_none I.kIn True.intro e (λz=>nomatch z) h
  | bl y=>cases (show u=Value.bool y from rx);exact PySem.W.kia_one PySem.W.kitx_bool I.kIn True.intro e (λz=>nomatch z) h
  | int i=>obtain⟨t,q⟩:=(show ∃ t,u=Value.int i t from rx);cases q;exact PySem.W.kia_one PySem.W.kitx_int I.kIn True.intro e (λz=>nomatch z) h
  | str y=>obtain⟨t,q⟩:=(show ∃ t,u=Value.str y t from rx);cases q;exact PySem.W.kia_one PySem.W.kitx_str I.kIn True.intro e (λz=>nomatch z) h
  | flt y=>obtain⟨t,q⟩:=(show ∃ t,u=Value.float y t from rx);cases q;exact PySem.W.kia_one PySem.W.kitx_float I.kIn True.intro e (λz=>nomatch z) h
  | @lst a xs ea =>
    cases (show u=Value.ref a from rx)
    obtain⟨_,_,n,_,h1⟩:=(show zaF X.prog X.w H s.heap a (.lst xs) from I.hok a _ ea)
    exact PySem.W.kia_one PySem.W.kitx_list I.kIn ⟨_,h1,rfl⟩ e (λz=>nomatch z) h
  | @frz a ob xs ea =>
    cases (show u=Value.ref a from rx)
    obtain⟨_,_,_,n,_,h1⟩:=(show zaF X.prog X.w H s.heap a (.frz ob (.lst xs)) from I.hok a _ ea)
    exact PySem.W.kia_one PySem.W.kitx_list I.kIn ⟨_,h1,rfl⟩ e (λz=>nomatch z) h
  | @tup a xs ea =>
    cases (show u=Value.ref a from rx)
    obtain⟨_,_,_,p⟩:=(show zaF X.prog X.w H s.heap a (.tup xs) from I.hok a _ ea)
    obtain⟨o,h1,h2,_⟩:=p
    exact PySem.W.kia_one PySem.W.kitx_tuple I.kIn ⟨o,h1,h2⟩ e (λz=>nomatch z) h
  | @dK a kvs ea =>
    cases (show u=Value.ref a from rx)
    obtain⟨_,_,vs,_,p⟩:=(show zaF X.prog X.w H s.heap a (.dK kvs) from I.hok a _ ea)
    obtain⟨o,es,ep,h1,h2,_⟩:=p
    exact PySem.W.kia_one PySem.W.kitx_dict I.kIn ⟨o,h1,h2.1⟩ e (λz=>nomatch z) h
  | @dT a kvs ea =>
    cases (show u=Value.ref a from rx)
    obtain⟨_,_,xs,_,o,es,ep,h1,h2,_⟩:=(show zaF X.prog X.w H s.heap a (.dT kvs) from I.hok a _ ea)
    exact PySem.W.kia_one PySem.W.kitx_dict I.kIn ⟨o,h1,h2.1⟩ e (λz=>nomatch z) h
  | @ins a C dx fs ea cl ha hn htk hm =>
    cases (show u=Value.ref a from rx)
    obtain⟨mA,O,_⟩:=zgw I.hok ea
    obtain⟨od,J,_⟩:=O.look
    exact PySem.W.kia_one (PySem.W.kitx_own (cl.get _) cl.hd ha hn htk hm) I.kIn J e (λz=>nomatch z) h
end
end L2
namespace L2
open PySem PySem.Spec PyProof.Rows
structure zaq (k:Nat) (A:Around):Prop where
  hd:A.handled=none
  dp:A.depth+3 * k+5 < recursionLimit
  un:A.units+16 * k+200 < cLine
  gd:A.guards=some []
theorem zaq.mono {j k:Nat} {A:Around} (r:zaq k A) (h:j≤k):zaq j A:=⟨r.hd,by have:=r.dp;omega,by have:=r.un;omega,r.gd⟩
theorem zaq.deeper {k:Nat} {A:Around} (r:zaq (k+1) A) (env:Env):zaq k (A.deeper env) :=
  ⟨r.hd,by have:=r.dp;show A.depth+1+3 * k+5 < _;omega,by have:=r.un;show A.units+3+16 * k+200 < _;omega,r.gd⟩
theorem zj2 {A:Around} {C:Addr} {us:List Value} {kw:List (Str × Value)}:(A.under (.builtin "type.__call__" ⟨.ref C :: us,kw⟩)).depth=A.depth+1:=by
  first | rfl | simp [Around.under,Code.weight,Code.isCreation,Code.isGuard,Code.isCaller,Code.frames,Code.isFrame,guardIds]
theorem zj1 {A:Around} {C:Addr} {us:List Value} {kw:List (Str × Value)}:(A.under (.builtin "type.__call__" ⟨.ref C :: us,kw⟩)).units=A.units+1:=by
  first | rfl | simp [Around.under,Code.cUnits,Code.frames,Code.isFrame]
theorem zjc {A:Around} {C:Addr} {us:List Value} {kw:List (Str × Value)} (h:A.guards=some []):(A.under (.builtin "type.__call__" ⟨.ref C :: us,kw⟩)).guards=some []:=by
  first | exact h | simp [Around.under,Code.guards,Code.isGuard,guardIds,pushGuards,h]
theorem zaq.make {k:Nat} {A:Around} (r:zaq (k+1) A) (C:Addr) (us:List Value) (kw:List (Str × Value)):zaq k (A.under (.builtin "type.__call__" ⟨.ref C :: us,kw⟩)) :=
  ⟨r.hd,by have:=r.dp;rw[zj2];omega,by have:=r.un;rw[zj1];omega,zjc r.gd⟩
theorem zaq.depth {k:Nat} {A:Around} (r:zaq k A):A.depth < recursionLimit:=by have:=r.dp;omega
theorem zaq.units {k:Nat} {A:Around} (r:zaq k A):A.units+64 < cLine:=by have:=r.un;omega
def tNil:TA:=λ_ H Q=>Q [] H
def tCons (ta:TE) (tr:TA):TA:=λσ H Q=>ta σ H λx H1=>tr σ H1 λxs H2=>Q (x :: xs) H2
section
variable {X:Cx} {e:Expr} {es:List Expr} {te:TE} {t:TA} {pos:Pos}
theorem ac:PA X [] tNil:=λ_ _ _ _ H Q I h=>Calls.spliced_nil ⟨[],H,I,.nil,h⟩
theorem aa (ha:PE X e te) (hr:PA X es t) (hs:starEach (e :: es) X.env=(false,eval e X.env) :: starEach es X.env:=by rfl):PA X (e :: es) (tCons te t):=by
  intro pos pins s σ H Q I h
  rw[hs]
  show wpAny _ _ (spliced ((false,eval e X.env) :: backTo pos (starEach es X.env))) _ _ s
  refine Calls.spliced_cons (thn (ha pins s σ H _ I h) λu s1 ⟨x,H1,I1,r1,q1⟩=>?_)
  exact thn (hr pos pins s1 σ H1 _ I1 q1) λus s2 ⟨xs,H2,I2,r2,q2⟩=>⟨x :: xs,H2,I2,.cons r1 r2,q2⟩
def tTup (t:TA):TE:=λσ H Q=>t σ H λxs H1=>xs.length≤sizeLine∧∀ p,H1 p=none→Q (.ref p) (upd H1 p (.tup xs))
def tLst (t:TA):TE:=λσ H Q=>t σ H λxs H1=>xs.length≤sizeLine∧∀ p,H1 p=none→Q (.ref p) (upd H1 p (.lst xs))
theorem aS {x1} (h:PA X es t):PE X (.Tuple es x1 pos) (tTup t):=by
  intro pins s σ H Q I hq
  refine wpAny_Tuple_spliced (thn (h pos pins s σ H _ I hq) λus s1 ⟨xs,H1,I1,r,z,q⟩=>⟨by rw[←r.length];exact z,?_⟩)
  have hf:H1 s1.heap.objs.size=none:=I1.hok.fresh (nRq _)
  refine⟨.ref s1.heap.objs.size,upd H1 s1.heap.objs.size (.tup xs),I1.laid (t':=s1.toks) (λb u e=>Heap.get?_push_of_some _ e) (nRq _) ?_,rfl,q _ hf⟩
  exact⟨z,us,r,⟨_,Heap.get?_push_size _ rfl,rfl,_,rfl⟩⟩
theorem zag (h:PA X es t):PE X (.List es pos) (tLst t):=by
  intro pins s σ H Q I hq
  refine wpAny_List_spliced (thn (h pos pins s σ H _ I hq) λus s1 ⟨xs,H1,I1,r,z,q⟩=>⟨by rw[←r.length];exact z,?_⟩)
  have hf:H1 s1.heap.objs.size=none:=I1.hok.fresh (nRq _)
  refine⟨.ref s1.heap.objs.size,upd H1 s1.heap.objs.size (.lst xs),I1.laid (t':=s1.toks) (λb u e=>Heap.get?_push_of_some _ e) (nRq _) ?_,rfl,q _ hf⟩
  exact⟨z,us,0,r,Heap.get?_push_size _ rfl⟩
end
abbrev Sp:=List V→Hp→VK→XK→Prop
abbrev CXT:=List Env→Hp→Shared→XK→Value→Shared→Prop
structure zgN (P:Program) (w:World) (K:PySem.W.Frag) (mg:Str→Option Value) (base:Heap) (A:Around) (outer:List Env) (s:Shared) (H:Hp):Prop where
  frames:A.frames=some outer
  mod:Mod K mg base
  bs:∀ b o,base.get? b=some o→s.heap.get? b=some o∧H b=none
  bsz:base.objs.size≤s.heap.objs.size
  funs:s.heap.FunFrames base outer
  frf:∀ b∈frs outer,H b=none
  hok:HOk P w H s.heap
  bare:AllBare s.gens
def CE (outer:List Env) (P:Program) (w:World) (H:Hp) (s:Shared) (Q:VK) (u:Value) (s':Shared):Prop :=
  ∃ v H',s'.os=s.os∧AllBare s'.gens∧Un (frs outer) [] H H' s.heap s'.heap∧HOk P w H' s'.heap∧aX v u∧Q v H'
def CR (CX:CXT) (outer:List Env) (P:Program) (w:World) (H:Hp) (s:Shared) (Q:VK) (E:XK) (r:Result) (s':Shared):Prop :=
  match r with
  | .ok (.ret u)=>CE outer P w H s Q u s'
  | .ok _=>False
  | .error e=>CX outer H s E e s'
structure aI (P:Program) (w:World) (K:PySem.W.Frag) (mg:Str→Option Value) (base:Heap) (CX:CXT) (k:Nat) (f:Addr) (fd:FuncData) (ps:List Str) (sp:Sp):Prop where
  len:∀ vs H Q E,sp vs H Q E→vs.length=ps.length
  run:∀(A:Around) (outer:List Env) (s:Shared) (H:Hp) (args:Args) (us:List Value) (vs:List V) (Q:VK) (E:XK),zaq k A→zgN P w K mg base A outer s H→BindsTo s fd args (ps.zip us)→aW vs us→sp vs H Q E →
    codeAny (model P w) A (.call (.ref f) args) (CR CX outer P w H s Q E) s
theorem aI.mono {P:Program} {w:World} {K:PySem.W.Frag} {mg:Str→Option Value} {base:Heap} {CX:CXT} {j k:Nat} {f:Addr} {fd:FuncData} {ps:List Str} {sp:Sp} (F:aI P w K mg base CX j f fd ps sp) (h:j≤k) :
    aI P w K mg base CX k f fd ps sp:=⟨F.len,λA outer s H args us vs Q E hr=>F.run A outer s H args us vs Q E (hr.mono h)⟩
theorem aI.imp {P:Program} {w:World} {K:PySem.W.Frag} {mg:Str→Option Value} {base:Heap} {CX:CXT} {k:Nat} {f:Addr} {fd:FuncData} {ps:List Str} {sp sp':Sp} (F:aI P w K mg base CX k f fd ps sp)
    (h:∀ vs H Q E,sp' vs H Q E→sp vs H Q E):aI P w K mg base CX k f fd ps sp' :=
  ⟨λvs H Q E q=>F.len vs H Q E (h _ _ _ _ q),λA outer s H args us vs Q E hr he hb hv hs=>F.run A outer s H args us vs Q E hr he hb hv (h _ _ _ _ hs)⟩
theorem zgN.make {P:Program} {w:World} {K:PySem.W.Frag} {mg:Str→Option Value} {base:Heap} {A:Around} {outer:List Env} {s:Shared} {H:Hp} (e:zgN P w K mg base A outer s H) (C:Addr) (us:List Value) (kw:List (Str × Value)) :
    zgN P w K mg base (A.under (.builtin "type.__call__" ⟨.ref C :: us,kw⟩)) outer s H:=⟨by first | exact e.frames | (simpa [Around.under,Code.envs,Code.isFrame,pushEnvs] using e.frames),e.mod,e.bs,e.bsz,e.funs,e.frf,e.hok,e.bare⟩
section
variable {X:Cx} {pins:List (Addr × Obj)} {σ:St} {H:Hp} {s s':Shared}
theorem Inv.env0 (I:Inv X pins σ H s):zgN X.prog X.w X.K X.mg X.base X.A X.stack s H :=
  ⟨I.ok.frames,I.ok.mod,I.bs,Nat.le_trans I.ok.bsz I.sz,I.stack,I.stkFree,I.hok,I.bare⟩
theorem Inv.after {Q:VK} {u:Value} (I:Inv X pins σ H s) (h:CE X.stack X.prog X.w H s Q u s'):EP X pins σ Q u s':=by
  obtain⟨v,H',os,bare,un,hok,r,q⟩:=h
  obtain⟨hh,g,d,t,os'⟩:=s'
  obtain rfl:os'=s.os:=os
  exact⟨v,H',I.call (h':=hh) (g':=g) (d':=d) (t':=t) (ch:=[]) un hok bare (λb z=>absurd z (by simp)),r,q⟩
end
def tCall (sp:Sp) (dvs:List V) (E:XK) (t:TA):TE:=λσ H Q=>t σ H λvs H1=>sp (vs++dvs) H1 Q E
inductive isO (C:Addr) (m:Str):V→Hp→Prop→Prop|m{x H R} a dx fs:x=.ref a→H a=some (.ins C dx fs)→fs.lookup m=none→R→isO C m x H R
def tMeth (C:Addr) (m:Str) (sp:Sp) (dvs:List V) (E:XK) (ta:TE) (t:TA):TE:=λσ H Q=>ta σ H λx H1=>isO C m x H1 <| t σ H1 λvs H2=>sp (x :: (vs++dvs)) H2 Q E
def tMake (C:Addr) (sp:Sp) (dvs:List V) (E:XK) (t:TA):TE:=λσ H Q=>t σ H λvs H1=>∀ x dx,H1 x=none→H1 dx=none→dx≠x →
  sp (.ref x :: (vs++dvs)) (upd (upd H1 dx (.own x)) x (.ins C dx [])) (λv H2=>v=.non∧Q (.ref x) H2) E
def aH (K:PySem.W.Frag) (fd:FuncData) (ps:List Str) (ds:List Value):Prop :=
  ∀(s:Shared) (us:List Value),K.In s.heap→(us++ds).length=ps.length→BindsTo s fd ⟨us,[]⟩ (ps.zip (us++ds))
theorem aH.all {K:PySem.W.Frag} {fd:FuncData} {ps:List Str} (h:∀ us:List Value,us.length=ps.length→bindArgs fd ⟨us,[]⟩=pure (ps.zip us)):aH K fd ps []:=λs us _ hl=>by
  rw[List.append_nil]at hl ⊢
  exact .of_eq (h us hl)
def zdO (CX:CXT) (X:Cx) (E:XK):Prop:=∀(pins:List (Addr × Obj)) (σ:St) (H:Hp) (s:Shared) (e:Value) (s':Shared),Inv X pins σ H s→CX X.stack H s E e s'→X.xe e s'
section
variable {X:Cx} {CX:CXT} {k:Nat} {f C:Addr} {fd:FuncData} {ps:List Str} {sp:Sp} {dvs:List V} {ds:List Value} {E:XK} {x m:Str} {p pos apos:Pos} {e o:Expr} {es:List Expr} {ta:TE} {t:TA}
theorem zkc {pins:List (Addr × Obj)} {σ:St} {H:Hp} {s:Shared} {Q:VK} {us:List Value} {vs:List V} (F:aI X.prog X.w X.K X.mg X.base CX k f fd ps sp) (hr:zaq k X.A) (hb:aH X.K fd ps ds) (hd:aW dvs ds) (hx:zdO CX X E)
    (I:Inv X pins σ H s) (r:aW vs us) (h:sp (vs++dvs) H Q E):wpAny (model X.prog X.w) X.A (call (.ref f) us) (EP X pins σ Q) X.xe s:=by
  have r2:aW (vs++dvs) (us++ds):=r.append hd
  have hl:(us++ds).length=ps.length:=by rw[←r2.length];exact F.len _ _ _ _ h
  refine wpAny_call (codeAny_mono (F.run X.A X.stack s H ⟨us,[]⟩ (us++ds) (vs++dvs) Q E hr I.env0 (hb s us I.kIn hl) r2 h) λr s' hq=>?_)
  cases r with
  | error e=>exact hx pins σ H s e s' I hq
  | ok fl =>
    cases fl with
    | ret u=>exact I.after hq
    | next=>exact False.elim hq
    | brk=>exact False.elim hq
    | cont=>exact False.elim hq
theorem aB (F:aI X.prog X.w X.K X.mg X.base CX k f fd ps sp) (hr:zaq k X.A) (hg:Gl X x) (hm:X.mg x=some (.ref f)) (hk:PySem.W.keepIn X.K (.ref f)=true) (hb:aH X.K fd ps ds) (hd:aW dvs ds) (hx:zdO CX X E)
    (ha:PA X (e :: es) t) (hdb:(x == ("__debug__":Str))=false:=by decide) (he:starEach (e :: es) X.env=(false,eval e X.env) :: starEach es X.env:=by rfl) (hpl:(backTo pos (starEach es X.env)).any (·.1)=false:=by rfl) :
    PE X (.Call (.Name x p) (e :: es) [] pos) (tCall sp dvs E t):=by
  intro pins s σ H Q I h
  refine wpAny_Call_Name_kw (zgt I hg hm ?_ hdb)
  refine PySem.W.callWith_K (h₀:=X.base) I.ok.mod.kin hk (thn (ha pos pins s σ H _ I h) λus s1 ⟨vs,H1,I1,r,q⟩=>⟨I1.kIn,?_⟩) he hpl
  exact zkc F hr hb hd hx I1 r q
theorem zaN {pl:Sem Bool} (he:PE X o ta) (c:Cls X.K C) (hm:zcp X.K C m f) (F:aI X.prog X.w X.K X.mg X.base CX k f fd ps sp) (hr:zaq k X.A) (hb:aH X.K fd ps ds) (hd:aW dvs ds) (hx:zdO CX X E) (ha:PA X (e :: es) t)
    (hst:starEach (e :: es) X.env=(false,eval e X.env) :: starEach es X.env:=by rfl) (hpl:(backTo pos (starEach es X.env)).any (·.1)=false:=by rfl)
    (ht:eval (.Call (.Attribute o m apos) (e :: es) [] pos) X.env=(do
      let ov ←eval o X.env
      standAt apos.atName
      let (f,first) ←holding [ov] (getMethod ov m pl)
      callWith pos f first (backTo pos (starEach (e :: es) X.env)) (backToKw pos (keywordEach [] X.env))):=by rfl) :
    PE X (.Call (.Attribute o m apos) (e :: es) [] pos) (tMeth C m sp dvs E ta t):=by
  intro pins s σ H Q I h
  refine PySem.W.methodCall_KW (pl:=pl) (thn (he pins s σ H _ I h) λu s1 ⟨x,H1,I1,rx,a,dx,fs,ex,ea,l,q⟩=>?_) ht
  subst ex
  obtain rfl:u=Value.ref a:=rx
  refine zho I1 ea c hm l ?_
  refine PySem.W.callWith_K (first:=[.ref a]) (h₀:=X.base) I.ok.mod.kin hm.kp (thn (ha pos pins s1 σ H1 _ I1 q) λus s2 ⟨vs,H2,I2,r,q2⟩=>⟨I2.kIn,?_⟩) hst hpl
  exact zkc (us:=.ref a :: us) (vs:=.ref a :: vs) F hr hb hd hx I2 (.cons rfl r) q2
structure Mk (K:PySem.W.Frag) (C f:Addr):Prop where
  makes:PySem.W.makesIn K C=true
  init:PySem.W.findIn K (.ref C) "__init__"=some (some (.ref f))
  fn:PySem.W.isFn K (.ref f)=true
  kp:PySem.W.keepIn K (.ref C)=true
theorem zlr {pins:List (Addr × Obj)} {σ:St} {H:Hp} {s:Shared} {Q:VK} {us:List Value} {vs:List V} (M:Mk X.K C f) (F:aI X.prog X.w X.K X.mg X.base CX k f fd ps sp) (hr:zaq (k+1) X.A) (hb:aH X.K fd ps ds) (hd:aW dvs ds)
    (hx:zdO CX X E) (I:Inv X pins σ H s) (r:aW vs us)
    (h:∀ x dx,H x=none→H dx=none→dx≠x→sp (.ref x :: (vs++dvs)) (upd (upd H dx (.own x)) x (.ins C dx [])) (λv H2=>v=.non∧Q (.ref x) H2) E) :
    wpAny (model X.prog X.w) X.A (call (.ref C) us) (EP X pins σ Q) X.xe s:=by
  have hq:=h (s.heap.objs.size+1) s.heap.objs.size (I.hok.fresh (Nat.le_succ _)) (I.hok.fresh (nRq _)) (Nat.ne_of_lt (Nat.lt_succ_self _))
  have I2:=Inv.made (C:=C) I
  have r2:aW (V.ref (s.heap.objs.size+1) :: (vs++dvs)) (Value.ref (s.heap.objs.size+1) :: (us++ds)):=.cons rfl (r.append hd)
  have hl:(Value.ref (s.heap.objs.size+1) :: us++ds).length=ps.length:=by
    have e:=r2.length
    rw[F.len _ _ _ _ hq]at e
    exact e.symm
  refine wpAny_call (zlT (f:=f) I.kIn M.makes M.init (beq_iff_eq.mp M.fn) (codeAny_mono (F.run _ X.stack _ _ ⟨Value.ref (s.heap.objs.size+1) :: us,[]⟩ (Value.ref (s.heap.objs.size+1) :: (us++ds)) _ _ E (hr.make C us [])
    (I2.env0.make C us []) (hb _ (Value.ref (s.heap.objs.size+1) :: us) I2.kIn hl) r2 hq) λr s' hq'=>?_))
  cases r with
  | error e=>exact hx pins σ _ _ e s' I2 hq'
  | ok fl =>
    cases fl with
    | ret u =>
      obtain⟨v,H',I3,rv,ev,q3⟩:=I2.after hq'
      subst ev
      exact⟨rv,⟨V.ref (s.heap.objs.size+1),H',I3,rfl,q3⟩⟩
    | next=>exact False.elim hq'
    | brk=>exact False.elim hq'
    | cont=>exact False.elim hq'
theorem ziF (M:Mk X.K C f) (F:aI X.prog X.w X.K X.mg X.base CX k f fd ps sp) (hr:zaq (k+1) X.A) (hg:Gl X x) (hm:X.mg x=some (.ref C)) (hb:aH X.K fd ps ds) (hd:aW dvs ds) (hx:zdO CX X E)
    (hdb:(x == ("__debug__":Str))=false:=by decide):PE X (.Call (.Name x p) [] [] pos) (tMake C sp dvs E tNil):=by
  intro pins s σ H Q I h
  refine wpAny_Call_Name_kw (zgt I hg hm ?_ hdb)
  exact PySem.W.callWith_K0 I.kIn M.kp (zlr (us:=[]) M F hr hb hd hx I .nil h)
end
section
variable {X:Cx} {CX:CXT} {k:Nat} {f C:Addr} {fd:FuncData} {ps ks:List Str} {sp:Sp} {E:XK} {x m:Str} {p pos apos kpos:Pos} {e o:Expr} {es:List Expr} {kws:List Keyword} {te ta:TE} {t tk:TA} {nm:Option Str}
variable {g:List Value→List Value→List Value} {gV:List V→List V→List V}
end
structure aO (N P:List Str) (sc:Scope):Prop where
  kind:sc.kind=.function
  co:sc.isCoroutine=false
  gen:sc.isGenerator=false
  nd:N.Nodup
  pre:N.take P.length=P
  par:∀ x∈P,sc.names.lookup x=some .local∨sc.names.lookup x=some .cell
  nofree:∀ y∈sc.names,y.2≠.free
theorem fsc {N P:List Str} {sc:Scope} (a:sc.kind=.function:=by exact rfl) (b:sc.isCoroutine=false:=by exact rfl) (c:sc.isGenerator=false:=by exact rfl) (d:N.Nodup:=by decide +kernel) (e:N.take P.length=P:=by exact rfl) (f:∀ x∈P,sc.names.lookup x=some .local∨sc.names.lookup x=some .cell:=by decide +kernel) (g:∀ y∈sc.names,y.2≠.free:=by decide +kernel):aO N P sc:=⟨a,b,c,d,e,f,g⟩
theorem zh4 {kindOf:Str→Option NameKind} {x:Str}:∀ {binds:List (Str × Value)} {m:Str→Option Value},(∀ v,(x,v)∉binds)→bindL kindOf binds m x=m x
  | [],_,_=>rfl
  | (n,v) :: r,m,h=>by
    unfold bindL
    rw[zh4 λw hw=>h w (List.mem_cons_of_mem _ hw)]
    split
    · have:x≠n:=by rintro rfl;exact h v List.mem_cons_self
      simp [this]
    · rfl
theorem zh6 {kindOf:Str→Option NameKind} {x:Str}:∀ {binds:List (Str × Value)} {m:Str→Option Value},(∀ v,(x,v)∉binds)→bindC kindOf binds m x=m x
  | [],_,_=>rfl
  | (n,v) :: r,m,h=>by
    unfold bindC
    rw[zh6 λw hw=>h w (List.mem_cons_of_mem _ hw)]
    split
    · rfl
    · have:x≠n:=by rintro rfl;exact h v List.mem_cons_self
      simp [this]
theorem zh5 {kindOf:Str→Option NameKind} {x:Str} {v:Value}:∀ {P:List Str} {vs:List Value} {i:Nat} {m:Str→Option Value},P.Nodup→P[i]?=some x→vs[i]?=some v→kindOf x=some .local →
    bindL kindOf (P.zip vs) m x=some v
  | [],_,_,_,_,h,_,_=>by simp at h
  | _ :: _,[],_,_,_,_,h,_=>by simp at h
  | p :: P,w :: vs,0,m,nd,h1,h2,hk=>by
    simp at h1 h2;subst h1;subst h2
    show bindL kindOf ((p,w) :: P.zip vs) m p=_
    unfold bindL
    rw[zh4 λv hv=>(List.nodup_cons.mp nd).1 (List.of_mem_zip hv).1,if_pos hk]
    simp
  | p :: P,w :: vs,i+1,m,nd,h1,h2,hk=>by
    show bindL kindOf ((p,w) :: P.zip vs) m x=_
    unfold bindL
    exact zh5 (i:=i) (List.nodup_cons.mp nd).2 (by simpa using h1) (by simpa using h2) hk
theorem zh7 {kindOf:Str→Option NameKind} {x:Str} {v:Value}:∀ {P:List Str} {vs:List Value} {i:Nat} {m:Str→Option Value},P.Nodup→P[i]?=some x→vs[i]?=some v→kindOf x≠some .local →
    bindC kindOf (P.zip vs) m x=some v
  | [],_,_,_,_,h,_,_=>by simp at h
  | _ :: _,[],_,_,_,_,h,_=>by simp at h
  | p :: P,w :: vs,0,m,nd,h1,h2,hk=>by
    simp at h1 h2;subst h1;subst h2
    show bindC kindOf ((p,w) :: P.zip vs) m p=_
    unfold bindC
    rw[zh6 λv hv=>(List.nodup_cons.mp nd).1 (List.of_mem_zip hv).1,if_neg hk]
    simp
  | p :: P,w :: vs,i+1,m,nd,h1,h2,hk=>by
    show bindC kindOf ((p,w) :: P.zip vs) m x=_
    unfold bindC
    exact zh7 (i:=i) (List.nodup_cons.mp nd).2 (by simpa using h1) (by simpa using h2) hk
def zdZ (N:List Str) (vs:List V):St:=vs.map some++List.replicate (N.length - vs.length) none
def aV (CX:CXT) (P:Program) (w:World) (K:PySem.W.Frag) (mg:Str→Option Value) (base:Heap) (N:List Str) (qual:Str) (scope:Scope) (f:Addr) (cd:Value) (A:Around) (outer:List Env) (s:Shared) (H:Hp) (E:XK):Cx where
  prog:=P
  w:=w
  K:=K
  mg:=mg
  base:=base
  A:=A.deeper (envOfC qual scope s.heap.objs.size f cd)
  N:=N
  s₀:=s
  H₀:=H
  env:=envOfC qual scope s.heap.objs.size f cd
  outer:=outer
  stack:=envOfC qual scope s.heap.objs.size f cd :: outer
  ex:=[]
  calm:=true
  fn:=λ_=>true
  pn:=[]
  xe:=λe s'=>wpAny (model P w) (A.deeper (envOfC qual scope s.heap.objs.size f cd)) (leaving (envOfC qual scope s.heap.objs.size f cd) e) (λ_ s''=>CX outer H s E e s'') (λe' s''=>CX outer H s E e' s'') s'
theorem ziT {sc:Scope} {n:Nat} {x:Str} (h:sc.names.lookup x=some .cell):∃ c,(cellsFrom n sc.names []).lookup x=some c:=by
  have q:=PySem.W.cellsFrom_some sc.names n [] (.inl h)
  exact Option.isSome_iff_exists.mp q
theorem zla {CX:CXT} {P:Program} {w:World} {K:PySem.W.Frag} {mg:Str→Option Value} {base:Heap} {N ps:List Str} {qual:Str} {scope:Scope} {f:Addr} {cd:Value} {A:Around} {outer:List Env} {s s1:Shared} {H:Hp} {E:XK} {us:List Value} {vs:List V}
    (S:aO N ps scope) (hd:A.handled=none) (e0:zgN P w K mg base A outer s H) (hl:vs.length=ps.length) (r:aW vs us)
    (x:InCallC s s.heap.objs.size (bindL (envOfC qual scope s.heap.objs.size f cd).kindOf (ps.zip us) λ_=>none) (cellsFrom (s.heap.objs.size+1) scope.names []) (bindC (envOfC qual scope s.heap.objs.size f cd).kindOf (ps.zip us) λ_=>none) s1) :
    Inv (aV CX P w K mg base N qual scope f cd A outer s H E) [] (zdZ N vs) H s1:=by
  have hpl:ps.length≤N.length:=by have:=congrArg List.length S.pre;rw[List.length_take]at this;omega
  obtain⟨h1,tk,rfl,hk⟩:=x.done
  have noA:∀ b:Addr,b∉(aV CX P w K mg base N qual scope f cd A outer s H E).ex:=λb z=>absurd (show b∈([]:List Addr) from z) (by simp)
  refine⟨⟨e0.mod,S.kind,rfl,rfl,nRq _,λy z c h1 h2=>?_,λy hy=>?_,λy c _ h=>?_,λ_=>hd,Around.frames_deeper e0.frames,.inr ⟨rfl,rfl⟩,λb z=>absurd z (noA b),e0.bs,e0.bsz,λb _ _=>noA b,λb z=>absurd z (noA b),e0.funs,e0.frf⟩,
    rfl,e0.bare,Un.kept hk,⟨_,x.toInCall.ns,λi y v h1 h2 h3=>?_⟩,λy c h=>⟨_,x.cell y c h⟩,e0.hok.fresh (nRq _),λy c h=>?_,λp hp=>absurd (show p∈([]:List (Addr × Obj)) from hp) (by simp),e0.hok.kept hk,?_⟩
  · exact name_of_addr x.apart (PySem.mem_of_lookup h1) (PySem.mem_of_lookup h2)
  · have hy:scope.names.lookup y=some .cell∨scope.names.lookup y=some .free:=hy
    rcases hy with hy | hy
    · exact ziT hy
    · exact absurd rfl (S.nofree _ (PySem.mem_of_lookup hy))
  · exact Nat.le_of_lt (x.above y c (PySem.mem_of_lookup h))
  · have hi:i < vs.length:=by
      unfold zdZ at h2
      by_cases hi:i < vs.length
      · exact hi
      · rw[List.getElem?_append_right (by simpa using hi)]at h2
        rw[List.getElem?_replicate]at h2
        split at h2 <;> cases h2
    have ha:vs[i]?=some v:=by
      unfold zdZ at h2
      rw[List.getElem?_append_left (by simpa using hi),List.getElem?_map]at h2
      cases e:vs[i]? with
      | none=>rw[e]at h2;cases h2
      | some a=>rw[e]at h2;cases h2;rfl
    obtain⟨u,hu,rv⟩:=r.get ha
    have hp:ps[i]?=some y:=by
      rw[←S.pre,List.getElem?_take_of_lt (by omega)];exact h1
    have ndP:ps.Nodup:=by rw[←S.pre];exact S.nd.sublist (List.take_sublist _ _)
    refine⟨u,rv,?_⟩
    rcases S.par y (mOq hp) with k | k
    · exact .inl ⟨k,zh5 ndP hp hu k⟩
    · obtain⟨c,e⟩:=ziT (n:=s.heap.objs.size+1) k
      refine .inr ⟨.inl k,c,e,?_⟩
      have q:=x.cell y c e
      rw[zh7 ndP hp hu (by show scope.names.lookup y≠_;rw[k];decide)]at q
      exact q
  · exact e0.hok.fresh (Nat.le_of_lt (x.above y c (PySem.mem_of_lookup h)))
  · unfold zdZ
    show _=N.length
    rw[lAq,lM,List.length_replicate]
    omega
theorem fn_of {CX:CXT} {P:Program} {w:World} {K:PySem.W.Frag} {mg:Str→Option Value} {base:Heap} {k:Nat} {f:Addr} {name qual:Str} {params:Arguments} {body:List Stmt} {scope:Scope} {dV kV doc pm cdv ct oc:Value} {an od:Option Addr}
    {osl:Array (Option Value)} {N ps:List Str} {sp:Sp} (lk:K.lookup f=some ⟨oc,od,.func (PySem.W.fnOf name qual params body scope dV kV doc pm an cdv ct),osl⟩) (hcd:PySem.W.codeIn K cdv qual=true) (S:aO N ps scope)
    (len:∀ vs H Q E,sp vs H Q E→vs.length=ps.length)
    (hbody:∀(A:Around) (outer:List Env) (s:Shared) (H:Hp) (vs:List V) (Q:VK) (E:XK),zaq k (A.deeper (envOfC qual scope s.heap.objs.size f cdv))→sp vs H Q E →
      ∃ t,PSs (aV CX P w K mg base N qual scope f cdv A outer s H E) body t∧t { nx:=λ_ H'=>Q .non H',rt:=Q } (zdZ N vs) H) :
    aI P w K mg base CX (k+1) f (PySem.W.fnOf name qual params body scope dV kV doc pm an cdv ct) ps sp:=by
  refine⟨len,λA outer s H args us vs Q E hr e0 hb r hsp=>?_⟩
  have hl:=len _ _ _ _ hsp
  have KX:K.In s.heap:=e0.mod.kin.keeps λb o e=>(e0.bs b o e).1
  have lim:s.heap.NoLimit:=e0.mod.nolimit.keeps λb o e=>(e0.bs b o e).1
  have hkind:∀ y∈ps.zip us,scope.names.lookup y.1=some .local∨(scope.names.lookup y.1=some .cell∧((cellsFrom (s.heap.objs.size+1) scope.names []).lookup y.1).isSome=true):=λ⟨n,v⟩ hy=>by
    rcases S.par n (List.of_mem_zip hy).1 with q | q
    · exact .inl q
    · exact .inr ⟨q,PySem.W.cellsFrom_some _ _ _ (.inl q)⟩
  refine codeAny_call_function hr.depth (KX _ _ lk) rfl S.co S.gen rfl (PySem.W.codeRec_of KX hcd) (hb _ _ _ _ ?_)
  refine wpAny_newFunctionEnv_cells S.kind hkind λenv he s1 x=>?_
  subst he
  refine⟨lim.keeps x.toInCall.keep,codeAny_func ?_⟩
  obtain⟨t,ht,hq⟩:=hbody A outer s H vs Q E (hr.deeper _) hsp
  have I:Inv (aV CX P w K mg base N qual scope f cdv A outer s H E) [] (zdZ N vs) H s1:=zla S hr.hd e0 hl r x
  refine wpAny_mono (ht [] s1 (zdZ N vs) H _ I hq) (λfl s' hs=>?_) λe s' hs=>hs
  have fin:∀ {σ':St} {H':Hp} {v:V} {u:Value},Inv (aV CX P w K mg base N qual scope f cdv A outer s H E) [] σ' H' s'→aX v u→Q v H'→CE outer P w H s Q u s' :=
    λ{σ' H' v u} J rv q=>⟨v,H',J.os,J.bare,J.base,J.hok,rv,q⟩
  cases fl with
  | ret u =>
    obtain⟨v,σ',H',J,rv,q⟩:=hs
    exact fin J rv q
  | next =>
    obtain⟨σ',H',J,q⟩:=hs
    exact fin (v:=V.non) (u:=Value.none) J rfl q
  | brk =>
    obtain⟨_,_,_,q⟩:=hs
    exact False.elim q
  | cont =>
    obtain⟨_,_,_,q⟩:=hs
    exact False.elim q
end L2
namespace L2
open PySem PySem.Spec PyProof.Rows
section
variable {X:Cx} {x:Str} {p pos:Pos} {e:Expr} {es:List Expr} {t:TA} {id T:String} {r:List V→Hp→VK→Prop}
def tCB (r:List V→Hp→VK→Prop) (t:TA):TE:=λσ H Q=>t σ H λvs H1=>r vs H1 Q
theorem ao (hc:zbv X (.builtin id) r) (hg:Gl X x) (hm:X.mg x=none) (hv:bootBuiltins x=some (.builtin id)) (ha:PA X (e :: es) t) (hn:x≠"__name__":=by decide) (hdb:(x == ("__debug__":Str))=false:=by decide)
    (he:starEach (e :: es) X.env=(false,eval e X.env) :: starEach es X.env:=by rfl) (hpl:(backTo pos (starEach es X.env)).any (·.1)=false:=by rfl):PE X (.Call (.Name x p) (e :: es) [] pos) (tCB r t):=by
  intro pins s σ H Q I h
  refine wpAny_Call_Name_kw (zdM I hg hm hv ?_ hn hdb)
  exact PyProof.Rows.callWith_builtin1 (thn (ha pos pins s σ H _ I h) λus s1 ⟨vs,H1,I1,r1,q1⟩=>hc pins s1 σ H1 vs us Q I1 r1 q1) he hpl
theorem zar (hc:zbv X (.type T) r) (hg:Gl X x) (hm:X.mg x=none) (hv:bootBuiltins x=some (.type T)) (ha:PA X (e :: es) t) (hn:x≠"__name__":=by decide) (hdb:(x == ("__debug__":Str))=false:=by decide)
    (he:starEach (e :: es) X.env=(false,eval e X.env) :: starEach es X.env:=by rfl) (hpl:(backTo pos (starEach es X.env)).any (·.1)=false:=by rfl):PE X (.Call (.Name x p) (e :: es) [] pos) (tCB r t):=by
  intro pins s σ H Q I h
  refine wpAny_Call_Name_kw (zdM I hg hm hv ?_ hn hdb)
  exact PyProof.Rows.callWith_type1 (thn (ha pos pins s σ H _ I h) λus s1 ⟨vs,H1,I1,r1,q1⟩=>hc pins s1 σ H1 vs us Q I1 r1 q1) he hpl
end
end L2
namespace HT
open PySem PyProof.Rows
section
open PySem.SeqAt
open PySem.AutoSeq1 (wpAny_loadPart')
open PySem.MeetsSeq PySem.MeetsSeq2 PySem.MeetsSeq3
end
section
variable {prog:Program} {w:World} {A:Around} {E:Value→Shared→Prop} {s:Shared}
theorem cat_tup {t b:Addr} {vs ws:List Value} {Q:Value→Shared→Prop} (ht:IsTup s.heap t vs.toArray) (hb:IsTup s.heap b ws.toArray) (hv:vs≠[])
    (h1:ws=[]→Q (.ref t) s) (h2:ws≠[]→Q (.ref s.heap.objs.size) { s with heap:=s.heap.push { cls:=.type "tuple",data:=.seq (vs++ws).toArray } })
    (hsz:vs.length+ws.length≤sizeLine):wpAny (model prog w) A (binaryOp .Add (.ref t) (.ref b)) Q E s:=by
  obtain⟨⟨cls,dd,data,sl⟩,ho,hc,n,hd⟩:=id ht
  obtain⟨⟨cls2,dd2,data2,sl2⟩,ho2,hc2,n2,hd2⟩:=id hb
  simp only at hc hd hc2 hd2
  subst hc hd hc2 hd2
  have e:vs.toArray++ws.toArray=(vs++ws).toArray:=by simp
  by_cases hw:ws=[]
  · exact concat_meets ⟨_,ho,rfl⟩ ⟨_,ho2,rfl⟩ noFill_tuple_add seq_tuple_add PySem.F.slot_tuple_add PySem.F.entry_tuple_add (PySem.F.args_tuple_add_2 _ _)
      (tuple_addW1 t b vs.toArray ws.toArray n n2 dd dd2 sl sl2 (by simpa using hv) (by simp [hw])) ⟨ho,ho2,h1 hw⟩
  · refine concat_meets ⟨_,ho,rfl⟩ ⟨_,ho2,rfl⟩ noFill_tuple_add seq_tuple_add PySem.F.slot_tuple_add PySem.F.entry_tuple_add (PySem.F.args_tuple_add_2 _ _)
      (tuple_addW2 t b vs.toArray ws.toArray n n2 dd dd2 sl sl2 (by simpa using hv) (by simpa using hw) (by rw[sAq,sAq];exact hsz)) ⟨ho,ho2,?_⟩
    rw[e]
    exact h2 hw
def sIx (n d:Nat):Option Int→Nat
  | none=>d
  | some v=>if v < 0 then(v+(n:Int)).toNat else min v.toNat n
theorem sIx_none (n d:Nat):sIx n d none=d:=rfl
theorem sIx_nat (n d k:Nat):sIx n d (some (k:Int))=min k n:=by
  show(if(k:Int) < 0 then((k:Int)+(n:Int)).toNat else min (k:Int).toNat n)=min k n
  rw[if_neg (by omega),Int.toNat_natCast]
theorem sIx_le (n d:Nat) (hd:d≤n) (o:Option Int):sIx n d o≤n:=by
  cases o with
  | none=>exact hd
  | some v =>
    show(if v < 0 then(v+(n:Int)).toNat else min v.toNat n)≤n
    by_cases hv:v < 0
    · rw[if_pos hv];omega
    · rw[if_neg hv];exact Nat.min_le_right _ _
theorem zjE (v:Int) (n d:Nat):(if v < 0 then max (v+(n:Int)) 0 else min v (n:Int))=((sIx n d (some v):Nat):Int):=by
  show(if v < 0 then max (v+(n:Int)) 0 else min v (n:Int))=(((if v < 0 then(v+(n:Int)).toNat else min v.toNat n):Nat):Int)
  by_cases hv:v < 0
  · simp only[if_pos hv];omega
  · simp only[if_neg hv];omega
theorem zka (lo hi:Option Int) (n:Nat):Builtin.Slice.sliceAdjust lo hi 1 (n:Int)=(((sIx n 0 lo:Nat):Int),((sIx n n hi:Nat):Int)):=by
  have h1:¬((1:Int) < 0):=by omega
  unfold Builtin.Slice.sliceAdjust
  simp only[h1,if_false]
  refine Prod.ext ?_ ?_
  · cases lo with
    | none=>rfl
    | some v=>exact zjE v n 0
  · cases hi with
    | none=>rfl
    | some v=>exact zjE v n n
theorem zjT (i j:Nat):Builtin.Slice.slicePlaces (i:Int) (j:Int) 1=j - i:=by
  unfold Builtin.Slice.slicePlaces
  have h1:(1:Int) > 0:=by omega
  simp only[h1,if_true,Int.ediv_one]
  split <;> omega
theorem zhk {v:Value} {o:Option Int} {Q:Option Int→Shared→Prop} (p:IsPart v o) (h:Q o s):wpAny (model prog w) A (Builtin.Slice.slicePartIndex v) Q E s:=by
  cases p with
  | none=>exact slicePart_none h
  | int i t=>exact slicePart_int h
theorem zew {sl:Addr} {vl vu:Value} {lo hi:Option Int} {n:Nat} {Q:Int × Int × Nat→Shared→Prop} (hs:s.heap.IsSliceOf sl vl vu .none) (pl:IsPart vl lo) (pu:IsPart vu hi)
    (h:Q (((sIx n 0 lo:Nat):Int),1,sIx n n hi - sIx n 0 lo) s):wpAny (model prog w) A (Builtin.Slice.sliceApplied (.ref sl) (pure (n:Int))) Q E s:=by
  obtain⟨os,hos,hcs,hds⟩:=id hs
  unfold Builtin.Slice.sliceApplied Builtin.Slice.sliceFields
  refine wpAny_bind (wpAny_bind (wpAny_field hos hds (x:=vl) rfl (wpAny_bind (wpAny_field hos hds (x:=vu) rfl (wpAny_bind (wpAny_field hos hds (x:=.none) rfl (wpAny_pure ?_)))))))
  refine wpAny_bind (slicePart_none ?_)
  show wpAny _ _ (if((1:Int) == 0)=true then _ else _) _ _ s
  rw[if_neg (by decide)]
  refine wpAny_bind (zhk pl (wpAny_bind (zhk pu (wpAny_bind (wpAny_pure ?_)))))
  show wpAny _ _ (match Builtin.Slice.sliceAdjust lo hi 1 (n:Int) with | (lo,hi)=>pure (lo,(1:Int),Builtin.Slice.slicePlaces lo hi 1)) _ _ s
  rw[zka lo hi n]
  show wpAny _ _ (pure (((sIx n 0 lo:Nat):Int),(1:Int),Builtin.Slice.slicePlaces ((sIx n 0 lo:Nat):Int) ((sIx n n hi:Nat):Int) 1)) _ _ s
  rw[zjT]
  exact wpAny_pure h
theorem zly (xs:Array Value) (i k:Nat):((List.range k).filterMap λ(m:Nat)=>xs[((i:Int)+(m:Int) * 1).toNat]?).toArray=((xs.toList.drop i).take k).toArray:=by
  have e:(λ(m:Nat)=>xs[((i:Int)+(m:Int) * 1).toNat]?)=λm=>xs[i+m]?:=by
    funext m
    have:((i:Int)+(m:Int) * 1).toNat=i+m:=by omega
    rw[this]
  rw[e]
  have:=pick_run xs i k
  rw[List.filterMap_map]at this
  have e2:((λx=>xs[x]?) ∘ λx=>i+x)=λm=>xs[i+m]?:=rfl
  rw[e2]at this
  rw[this]
theorem getItem_tuple_cut {t sl:Addr} {items:Array Value} {vl vu:Value} {lo hi:Option Int} {Q:Value→Shared→Prop} (ht:IsTup s.heap t items) (hs:s.heap.IsSliceOf sl vl vu .none) (pl:IsPart vl lo) (pu:IsPart vu hi)
    (hw:¬(sIx items.size 0 lo=0∧sIx items.size items.size hi=items.size))
    (h:Q (.ref s.heap.objs.size) { s with heap:=s.heap.push { cls:=.type "tuple",data:=.seq ((items.toList.drop (sIx items.size 0 lo)).take (sIx items.size items.size hi - sIx items.size 0 lo)).toArray } })
    (hsz:items.size≤sizeLine):wpAny (model prog w) A (getItem (.ref t) (.ref sl)) Q E s:=by
  have htake:sizeOk (.seq ((items.toList.drop (sIx items.size 0 lo)).take (sIx items.size items.size hi - sIx items.size 0 lo)).toArray):=by
    show((items.toList.drop (sIx items.size 0 lo)).take (sIx items.size items.size hi - sIx items.size 0 lo)).toArray.size≤sizeLine
    rw[sAq,List.length_take,List.length_drop,Array.length_toList]
    omega
  have hj:sIx items.size items.size hi≤items.size:=sIx_le _ _ (nRq _) hi
  obtain⟨os,hos,hcs,hds⟩:=id hs
  have hTs:s.TypeIs (.ref sl) "slice":=⟨os,hos,hcs⟩
  unfold getItem
  try with_reducible refine wpAny_holding ?_
  first | refine wpAny_bind (wpAny_pure ?_) | skip
  refine wpAny_bind (wpAny_sequenceKey ht.typeIs (by decide) ?_)
  refine wpAny_bind (wpAny_callSpecial?_slot (name:=Str.ofString "__getitem__") ht.typeIs PyProof.Rows.slot_tuple_getitem
    (wpAny_call_entry PyProof.Rows.slot_tuple_getitem ht.typeIs entry_tuple_getitem ?_ (args_tuple_getitem _ _)))
  show wpAny _ _ (Builtin.Tuple.tupleItemsOf (.ref t) >>= _) _ _ s
  refine wpAny_bind (tupleItemsOf_ ht ?_)
  refine wpAny_bind (wpAny_typeOf hTs ?_)
  rw[if_pos (by decide)]
  refine wpAny_bind (zew hs pl pu ?_)
  have hno:¬((((sIx items.size 0 lo:Nat):Int) == 0&&(1:Int) == 1&&(sIx items.size items.size hi - sIx items.size 0 lo) == items.size)=true):=by
    intro q
    rw[Bool.and_eq_true,Bool.and_eq_true]at q
    have q1:((sIx items.size 0 lo:Nat):Int)=0:=eq_of_beq q.1.1
    have q2:sIx items.size items.size hi - sIx items.size 0 lo=items.size:=eq_of_beq q.2
    exact hw ⟨by omega,by omega⟩
  show wpAny _ _ (if(((sIx items.size 0 lo:Nat):Int) == 0&&(1:Int) == 1&&(sIx items.size items.size hi - sIx items.size 0 lo) == items.size)=true then _ else _) _ _ s
  rw[if_neg hno,zly]
  first
    | exact wpAny_bind (m:=Builtin.Tuple.tupleExact _) (wpAny_newObj_type (wpAny_pure ⟨_,rfl,wpAny_pure h⟩) htake)
    | exact wpAny_bind (m:=Builtin.Tuple.tupleExact _) (wpAny_newObj_type (wpAny_bind (wpAny_pure (wpAny_pure ⟨_,rfl,wpAny_pure h⟩))) htake)
    | exact wpAny_bind (wpAny_bind (m:=Builtin.Tuple.tupleExact _) (wpAny_newObj_type (wpAny_pure (wpAny_pure ⟨_,rfl,wpAny_pure h⟩)) htake))
    | exact wpAny_bind (wpAny_bind (m:=Builtin.Tuple.tupleExact _) (wpAny_newObj_type (wpAny_pure ⟨_,rfl,wpAny_pure h⟩) htake))
end
end HT
namespace L2
open PySem PySem.Spec PyProof.Rows
abbrev TO:=St→Hp→(Option Int→Hp→Prop)→Prop
def PO (X:Cx) (e:Option Expr) (t:TO):Prop :=
  ∀(pins:List (Addr × Obj)) (s:Shared) (σ:St) (H:Hp) (Q:Option Int→Hp→Prop),Inv X pins σ H s→t σ H Q →
    wpAny (model X.prog X.w) X.A (evalPart e X.env) (λu s'=>∃ o H',Inv X pins σ H' s'∧IsPart u o∧Q o H') X.xe s
def zmc:TO:=λ_ H Q=>Q none H
def tPart (t:TE):TO:=λσ H Q=>t σ H λx H1=>∃ i,x=.int i∧Q (some i) H1
theorem zj7 {ns:List Int}:∀ {us:List Value},aW (ns.map V.int) us→IntsAre us ns:=by
  induction ns with
  | nil=>intro us r;rw[List.map_nil]at r;cases r;exact .nil
  | cons n ns ih =>
    intro us r
    rw[List.map_cons]at r
    cases r with
    | cons r1 r2 =>
      obtain⟨t,e⟩:=r1
      subst e
      exact .cons n t (ih r2)
section
variable {X:Cx} {e:Expr} {te:TE} {lo hi:Option Expr} {tl th:TO} {pos p2:Pos}
theorem zat:PO X none zmc:=by
  intro pins s σ H Q I h
  rw[evalPart_none]
  exact wpAny_pure ⟨none,H,I,.none,h⟩
theorem zas (h:PE X e te):PO X (some e) (tPart te):=by
  intro pins s σ H Q I hw
  rw[evalPart_some]
  refine thn (h pins s σ H _ I hw) λu s1 ⟨x,H1,I1,r1,q1⟩=>?_
  obtain⟨i,rfl,q⟩:=q1
  obtain⟨t,rfl⟩:=r1
  exact⟨some i,H1,I1,.int i t,q⟩
def SlR (X:Cx) (r:V→Option Int→Option Int→Hp→VK→Prop):Prop :=
  ∀(pins:List (Addr × Obj)) (s:Shared) (σ:St) (H:Hp) (x:V) (v vl vu:Value) (lo hi:Option Int) (sl:Addr) (Q:VK),Inv X pins σ H s→aX x v→s.heap.IsSliceOf sl vl vu .none→IsPart vl lo→IsPart vu hi→r x lo hi H Q →
    ∃ T id,typeLookup (.type T) "__getitem__"=pure (some (.builtin id))∧s.TypeIs v T∧wpAny (model X.prog X.w) X.A (getItem v (.ref sl)) (EP X pins σ Q) X.xe s
theorem SlR.or {r r':V→Option Int→Option Int→Hp→VK→Prop} (h:SlR X r) (h':SlR X r'):SlR X (λx lo hi H Q=>r x lo hi H Q∨r' x lo hi H Q):=by
  intro pins s σ H x v vl vu lo hi sl Q I rx hs pl pu q
  rcases q with q | q
  · exact h pins s σ H x v vl vu lo hi sl Q I rx hs pl pu q
  · exact h' pins s σ H x v vl vu lo hi sl Q I rx hs pl pu q
def tSl (r:V→Option Int→Option Int→Hp→VK→Prop) (te:TE) (tl th:TO):TE:=λσ H Q=>te σ H λx H1=>tl σ H1 λl H2=>th σ H2 λu H3=>r x l u H3 Q
theorem zaj {r:V→Option Int→Option Int→Hp→VK→Prop} (hr:SlR X r) (he:PE X e te) (hl:PO X lo tl) (hu:PO X hi th):PE X (.Subscript e (.Slice lo hi none p2) pos) (tSl r te tl th):=by
  intro pins s σ H Q I h
  refine Subscript_ (thn (he pins s σ H _ I h) λv s1 ⟨x,H1,I1,r1,q1⟩=>?_)
  refine wpAny_Slice (thn (hl pins s1 σ H1 _ I1 q1) λvl s2 ⟨l,H2,I2,pl,q2⟩=>thn (hu pins s2 σ H2 _ I2 q2) λvu s3 ⟨u,H3,I3,pu,q3⟩=>?_)
  rw[evalPart_none]
  refine wpAny_pure ?_
  have I4:Inv X pins σ H3 { s3 with heap:=s3.heap.push { cls:=.type "slice",data:=.fields #[vl,vu,.none] } }:=I3.kept (t':=s3.toks) λb ob q=>Heap.get?_push_of_some _ q
  obtain⟨T,id,hT,ht,hg⟩:=hr pins { s3 with heap:=s3.heap.push { cls:=.type "slice",data:=.fields #[vl,vu,.none] } } σ H3 x v vl vu l u s3.heap.objs.size Q I4 r1 (Heap.IsSliceOf.new ..) pl pu q3
  show wpAny (model X.prog X.w) X.A (subscriptTail e (.Slice lo hi none p2) v (.ref s3.heap.objs.size)) (EP X pins σ Q) X.xe { s3 with heap:=s3.heap.push { cls:=.type "slice",data:=.fields #[vl,vu,.none] } }
  exact tail_any (ops:=[.ref s3.heap.objs.size,v]) ht hT hg (by with_unfolding_all rfl)
def aQ (xs:List V) (lo hi:Option Int):List V:=(xs.drop (HT.sIx xs.length 0 lo)).take (HT.sIx xs.length xs.length hi - HT.sIx xs.length 0 lo)
theorem zap (xs:List V) (lo hi:Option Int):(aQ xs lo hi).length≤xs.length:=by
  unfold aQ
  rw[List.length_take,List.length_drop]
  omega
inductive rSlT (K:PySem.W.Frag):V→Option Int→Option Int→Hp→VK→Prop|m{x lo hi H Q} a xs:x=.ref a→SqT K H a xs→¬(HT.sIx xs.length 0 lo=0∧HT.sIx xs.length xs.length hi=xs.length)→(∀ p,H p=none→Q (.ref p) (upd H p (.tup (aQ xs lo hi))))→rSlT K x lo hi H Q
theorem zeU:SlR X (rSlT X.K):=by
  intro pins s σ H x v vl vu lo hi sl Q I rx hs pl pu h
  obtain⟨a,xs,rfl,hx,hw,q⟩:=h
  cases rx
  obtain⟨its,r,ht,hz⟩:=I.tuple hx
  have hlen:its.toArray.size=xs.length:=by rw[sAq];exact r.length.symm
  refine⟨"tuple",_,PyProof.Rows.slot_tuple_getitem.lookup,ht.typeIs,?_⟩
  refine HT.getItem_tuple_cut ht hs pl pu (by rw[hlen];exact hw) ?_ (by rw[hlen];exact hz)
  rw[hlen]
  refine⟨.ref s.heap.objs.size,_,I.laid (t':=s.toks) (o:=.tup (aQ xs lo hi)) (λb ob q=>Heap.get?_push_of_some _ q) (nRq _) ?_,rfl,q _ (I.hok.fresh (nRq _))⟩
  exact⟨Nat.le_trans (zap xs lo hi) hz,_,(r.drop (HT.sIx xs.length 0 lo)).take (HT.sIx xs.length xs.length hi - HT.sIx xs.length 0 lo),IsTup.new _ _⟩
inductive rCatT (K:PySem.W.Frag):R2|m{x y H Q} a b xs ys:x=.ref a→y=.ref b→SqT K H a xs→SqT K H b ys→xs≠[]→xs.length+ys.length≤sizeLine→(ys=[]→Q (.ref a) H)→(ys≠[]→∀ p,H p=none→Q (.ref p) (upd H p (.tup (xs++ys))))→rCatT K x y H Q
theorem aW.nil_iff {xs:List V} {us:List Value} (r:aW xs us):us=[]↔xs=[]:=by
  cases r with
  | nil=>simp
  | cons _ _=>simp
theorem zjs:OpR X (binaryOp .Add) (rCatT X.K):=by
  intro pins s σ H x y v u Q I rx ry h
  obtain⟨a,b,xs,ys,rfl,rfl,ha,hb,hx,hz,q1,q2⟩:=h
  cases rx
  cases ry
  obtain⟨its,r1,p1,_⟩:=I.tuple ha
  obtain⟨its2,r2,p2,_⟩:=I.tuple hb
  refine HT.cat_tup p1 p2 (λz=>hx (r1.nil_iff.mp z)) (λz=>⟨.ref a,H,I,rfl,q1 (r2.nil_iff.mp z)⟩) (λz=>?_) (by rw[←r1.length,←r2.length];exact hz)
  refine⟨.ref s.heap.objs.size,_,I.laid (t':=s.toks) (o:=.tup (xs++ys)) (λb ob q=>Heap.get?_push_of_some _ q) (nRq _) ?_,rfl,q2 (λw=>z (r2.nil_iff.mpr w)) _ (I.hok.fresh (nRq _))⟩
  exact⟨by rw[lAq];exact hz,_,r1.append r2,IsTup.new _ _⟩
end
end L2
namespace L2
open PySem PySem.Spec PyProof.Rows
def ixN (n:Nat) (i:Int):Option Nat:=if 0≤i then(if i < n then some i.toNat else none) else if -(n:Int)≤i then some (i+n).toNat else none
def atI {α:Type} (xs:List α) (i:Int):Option α:=(ixN xs.length i).bind λj=>xs[j]?
theorem zmz {n:Nat} {i:Int} {j:Nat} (h:ixN n i=some j):seqIndex? i n=some j∧j < n∧-(n:Int)≤i∧i < n:=by
  unfold ixN at h
  by_cases h0:0≤i
  · rw[if_pos h0]at h
    by_cases h1:i < n
    · rw[if_pos h1]at h
      have e:i.toNat=j:=Option.some.inj h
      exact⟨by rw[seqIndex_of h0 h1,e],by omega,by omega,h1⟩
    · rw[if_neg h1]at h;cases h
  · rw[if_neg h0]at h
    by_cases h1:-(n:Int)≤i
    · rw[if_pos h1]at h
      have e:(i+n).toNat=j:=Option.some.inj h
      exact⟨by rw[seqIndex_neg (by omega) h1,e],by omega,h1,by omega⟩
    · rw[if_neg h1]at h;cases h
theorem zjI {α:Type} {xs:List α} {i:Int} {v:α} (h:atI xs i=some v):∃ j,seqIndex? i xs.length=some j∧xs[j]?=some v∧j < xs.length∧-(xs.length:Int)≤i∧i < xs.length:=by
  unfold atI at h
  cases e:ixN xs.length i with
  | none=>rw[e]at h;cases h
  | some j =>
    rw[e]at h
    obtain⟨h1,h2,h3,h4⟩:=zmz e
    exact⟨j,h1,h,h2,h3,h4⟩
theorem aF {α:Type} {xs:List α} {j:Nat} {v:α} (h:xs[j]?=some v):atI xs (j:Int)=some v:=by
  have hj:j < xs.length:=(gEq h).1
  have e:ixN xs.length (j:Int)=some j:=by
    unfold ixN
    rw[if_pos (by omega),if_pos (by omega)];simp
  unfold atI;rw[e];exact h
theorem ziU {α:Type} (xs:List α) (v:α):atI (xs++[v]) (-1)=some v:=by
  have hl:(xs++[v]).length=xs.length+1:=by simp
  have e:ixN (xs++[v]).length (-1)=some xs.length:=by
    unfold ixN
    rw[hl,if_neg (by decide),if_pos (by omega)]
    congr 1
    omega
  unfold atI
  rw[e]
  show(xs++[v])[xs.length]?=some v
  simp
def zmL (b:Expr):Prop:=∀ o i,subscripted b false o i=operate [o,i] (getItem o i)
def IxR (X:Cx) (r:R2):Prop :=
  ∀(value slice:Expr) (pins:List (Addr × Obj)) (s:Shared) (σ:St) (H:Hp) (x y:V) (v u:Value) (Q:VK),Inv X pins σ H s→aX x v→aX y u→r x y H Q →
    subscripted slice false v u=operate [v,u] (getItem v u)→wpAny (model X.prog X.w) X.A (subscriptTail value slice v u) (EP X pins σ Q) X.xe s
def MtR (X:Cx) (id:String) (r:V→List V→Hp→VK→Prop):Prop :=
  ∀(pins:List (Addr × Obj)) (s:Shared) (σ:St) (H:Hp) (x:V) (xs:List V) (v:Value) (us:List Value) (Q:VK),Inv X pins σ H s→aX x v→aW xs us→r x xs H Q →
    wpAny (model X.prog X.w) X.A (call (.builtin id) (v :: us)) (EP X pins σ Q) X.xe s
section
variable {X:Cx} {a b:Expr} {ta tb:TE} {pos:Pos}
theorem ap {r:R2} (hr:IxR X r) (ha:PE X a ta) (hb:PE X b tb) (hs:zmL b:=by exact λ_ _=>rfl):PE X (.Subscript a b pos) (tOp r ta tb):=by
  intro pins s σ H Q I h
  exact Subscript_ (binT ha hb I h λv u s2 x y H2 I2 rx ry q=>hr a b pins s2 σ H2 x y v u Q I2 rx ry q (hs _ _))
inductive zgJ (K:PySem.W.Frag):R2|m{x y H Q} p xs i v:x=.ref p→y=.int i→SqL K H p xs→atI xs i=some v→Q v H→zgJ K x y H Q
inductive zee (K:PySem.W.Frag):R2|m{x y H Q} p xs i v:x=.ref p→y=.int i→SqT K H p xs→atI xs i=some v→Q v H→zee K x y H Q
theorem zab:IxR X (zgJ X.K):=by
  intro value slice pins s σ H x y v u Q I rx ry h hs
  obtain⟨p,xs,i,z,rfl,rfl,hq,he,q⟩:=h
  cases rx
  obtain⟨t,rfl⟩:=ry
  obtain⟨its,r,pl,hz⟩:=I.list hq
  obtain⟨j,h1,h2,h3,h4,h5⟩:=zjI he
  obtain⟨w,ew,rw'⟩:=r.get h2
  have hl:=r.length
  have hn:=zhg
  have fin:EP X pins σ Q w s:=⟨z,H,I,rw',q⟩
  by_cases h0:0≤i
  · have hj:i.toNat=j:=by
      rw[seqIndex_of h0 h5]at h1
      exact Option.some.inj h1
    exact item_listR pl.isList h0 (by omega) (by rw[hj];simpa using ew) fin hs
  · have hj:(i+(its.toArray.size:Int)).toNat=j:=by
      rw[seqIndex_neg (by omega) h4]at h1
      rw[sAq,←hl]
      exact Option.some.inj h1
    exact subscriptTail_builtinR (x:=w) pl.isList.typeIs slot_list_getitem.lookup
      (wpAny_getItem_list_neg (Q:=λr s'=>r=w∧EP X pins σ Q r s') pl.isList (by omega) (by rw[sAq] <;> omega) (by omega) (by rw[hj];simpa using ew) ⟨rfl,fin⟩) hs
theorem az:IxR X (zee X.K):=by
  intro value slice pins s σ H x y v u Q I rx ry h hs
  obtain⟨p,xs,i,z,rfl,rfl,hq,he,q⟩:=h
  cases rx
  obtain⟨t,rfl⟩:=ry
  obtain⟨its,r,pl,hz⟩:=I.tuple hq
  obtain⟨j,h1,h2,h3,h4,h5⟩:=zjI he
  obtain⟨w,ew,rw'⟩:=r.get h2
  have hl:=r.length
  have hn:=zhg
  have fin:EP X pins σ Q w s:=⟨z,H,I,rw',q⟩
  exact subscriptTail_builtinR (x:=w) pl.typeIs slot_tuple_getitem.lookup
    (getItem_tuple (j:=j) (Q:=λr s'=>r=w∧EP X pins σ Q r s') pl (by omega) (by omega) (by rw[sAq,←hl];exact h1) (by simpa using ew) ⟨rfl,fin⟩) hs
theorem Inv.lst {pins:List (Addr × Obj)} {σ:St} {H:Hp} {s:Shared} {p:Addr} {xs:List V} (I:Inv X pins σ H s) (h:H p=some (.lst xs)) :
    ∃(its:List Value) (n:Nat),aW xs its∧s.heap.get? p=some { cls:=.type "list",data:=.seq its.toArray n }∧xs.length≤sizeLine:=by
  obtain⟨z,its,n,r,e⟩:=I.hok p _ h
  exact⟨its,n,r,e,z⟩
theorem ziX (lo hi:Option Int) (n:Nat):(sliceBounds lo hi none n).1=((HT.sIx n 0 lo:Nat):Int)∧(sliceBounds lo hi none n).2.1=((HT.sIx n n hi:Nat):Int)∧(sliceBounds lo hi none n).2.2=1:=by
  refine⟨?_,?_,rfl⟩
  · cases lo with
    | none=>simp [sliceBounds,HT.sIx]
    | some i =>
      simp only[sliceBounds,HT.sIx,Option.getD_none,show(1:Int) > 0 by decide,if_true]
      by_cases h:i < 0
      · simp only[h,if_true] <;> omega
      · simp only[h,if_false] <;> omega
  · cases hi with
    | none=>simp [sliceBounds,HT.sIx]
    | some i =>
      simp only[sliceBounds,HT.sIx,Option.getD_none,show(1:Int) > 0 by decide,if_true]
      by_cases h:i < 0
      · simp only[h,if_true] <;> omega
      · simp only[h,if_false] <;> omega
theorem zh8 (its:List Value) (lo hi:Option Int):slicePick its.toArray lo hi none=((its.drop (HT.sIx its.length 0 lo)).take (HT.sIx its.length its.length hi - HT.sIx its.length 0 lo)).toArray:=by
  obtain⟨h1,h2,h3⟩:=ziX lo hi its.toArray.size
  unfold slicePick
  rw[h1,h2,h3]
  simp only[sliceRange_one,pick_run,sAq] <;> rfl
inductive rSlL (K:PySem.W.Frag):V→Option Int→Option Int→Hp→VK→Prop|m{x lo hi H Q} a xs:x=.ref a→SqL K H a xs→(∀ p,H p=none→Q (.ref p) (upd H p (.lst (aQ xs lo hi))))→rSlL K x lo hi H Q
theorem zaG:SlR X (rSlL X.K):=by
  intro pins s σ H x v vl vu lo hi sl Q I rx hs pl pu h
  obtain⟨a,xs,rfl,hx,q⟩:=h
  cases rx
  obtain⟨its,r,ht,hz⟩:=I.list hx
  have hlen:=r.length
  refine⟨"list",_,slot_list_getitem.lookup,ht.isList.typeIs,?_⟩
  refine wpAny_getItem_list_slice ht.isList hs pl pu .none (by simp) ?_ (by rw[sAq] <;> omega)
  rw[zh8,←hlen]
  refine⟨.ref s.heap.objs.size,_,I.laid (t':=s.toks) (o:=.lst (aQ xs lo hi)) (λb ob q=>Heap.get?_push_of_some _ q) (nRq _) ?_,rfl,q _ (I.hok.fresh (nRq _))⟩
  exact⟨Nat.le_trans (zap xs lo hi) hz,_,0,(r.drop (HT.sIx xs.length 0 lo)).take (HT.sIx xs.length xs.length hi - HT.sIx xs.length 0 lo),Heap.get?_push_size _ rfl⟩
def zdj:V→Bool
  | .non=>true
  | .bl _=>true
  | .int _=>true
  | .str _=>true
  | _=>false
def eqV:V→V→Bool
  | .non,.non=>true
  | .bl a,.bl b=>a == b
  | .bl a,.int b=>(if a then 1 else 0) == b
  | .int a,.bl b=>a == (if b then 1 else 0)
  | .int a,.int b=>a == b
  | .str a,.str b=>a == b
  | _,_=>false
theorem zfH {A:Around} {s:Shared} {y x:V} {u v:Value} (ry:aX y u) (rx:aX x v) (fy:zdj y=true) (fx:zdj x=true):SeqAt.EqAt A s u v (eqV y x):=by
  cases y with
  | non =>
    cases ry
    cases x with
    | non=>cases rx;exact SeqAt.EqAt.same _
    | bl b=>cases rx;exact SeqAt.EqAt.none_bool b
    | int b=>obtain⟨t,rfl⟩:=rx;exact SeqAt.EqAt.none_int b t
    | str b=>obtain⟨t,rfl⟩:=rx;exact SeqAt.EqAt.none_str b t
    | _=>exact absurd (show false=true from fx) Bool.false_ne_true
  | bl a =>
    cases ry
    cases x with
    | non=>cases rx;exact SeqAt.EqAt.bool_none a
    | bl b=>cases rx;exact SeqAt.EqAt.bool_bool a b
    | int b=>obtain⟨t,rfl⟩:=rx;exact SeqAt.EqAt.bool_int a b t
    | str b=>obtain⟨t,rfl⟩:=rx;exact SeqAt.EqAt.bool_str a b t
    | _=>exact absurd (show false=true from fx) Bool.false_ne_true
  | int a =>
    obtain⟨t',rfl⟩:=ry
    cases x with
    | non=>cases rx;exact SeqAt.EqAt.int_none a t'
    | bl b=>cases rx;exact SeqAt.EqAt.int_bool a t' b
    | int b=>obtain⟨t,rfl⟩:=rx;exact SeqAt.EqAt.int_int a t' b t
    | str b=>obtain⟨t,rfl⟩:=rx;exact SeqAt.EqAt.int_str a t' b t
    | _=>exact absurd (show false=true from fx) Bool.false_ne_true
  | str a =>
    obtain⟨t',rfl⟩:=ry
    cases x with
    | non=>cases rx;exact SeqAt.EqAt.str_none a t'
    | bl b=>cases rx;exact SeqAt.EqAt.str_bool a t' b
    | int b=>obtain⟨t,rfl⟩:=rx;exact SeqAt.EqAt.str_int a t' b t
    | str b=>obtain⟨t,rfl⟩:=rx;exact SeqAt.EqAt.str_str a t' b t
    | _=>exact absurd (show false=true from fx) Bool.false_ne_true
  | _=>exact absurd (show false=true from fy) Bool.false_ne_true
def eqU (x:V) (u:Value):Bool:=match u with
  | .none=>eqV .non x
  | .bool b=>eqV (.bl b) x
  | .int i _=>eqV (.int i) x
  | .str z _=>eqV (.str z) x
  | _=>false
theorem zkq {x y:V} {u:Value} (r:aX y u) (f:zdj y=true):eqU x u=eqV y x:=by
  cases y with
  | non=>cases r;rfl
  | bl b=>cases r;rfl
  | int i=>obtain⟨t,rfl⟩:=r;rfl
  | str z=>obtain⟨t,rfl⟩:=r;rfl
  | _=>exact absurd (show false=true from f) Bool.false_ne_true
theorem ze3 {x:V}:∀ {xs:List V} {us:List Value},aW xs us→xs.all zdj=true→us.any (eqU x)=xs.any λy=>eqV y x
  | _,_,.nil,_=>rfl
  | y :: xs,u :: us,.cons r t,f=>by
    rw[List.all_cons,Bool.and_eq_true]at f
    rw[List.any_cons,List.any_cons,zkq r f.1,ze3 t f.2]
theorem zek {A:Around} {s:Shared} {x:V} {v:Value} (rx:aX x v) (fx:zdj x=true):∀ {xs:List V} {us:List Value},aW xs us→xs.all zdj=true→∀ u∈us,SeqAt.EqAt A s u v (eqU x u)
  | _,_,.nil,_=>λu hu=>by cases hu
  | y :: xs,u :: us,.cons r t,f=>λu' hu=>by
    rw[List.all_cons,Bool.and_eq_true]at f
    rcases List.mem_cons.mp hu with rfl | hu
    · rw[zkq r f.1];exact zfH r rx f.1 fx
    · exact zek rx fx t f.2 u' hu
def inV (x:V) (xs:List V):Bool:=xs.any λy=>eqV y x
inductive rIn (K:PySem.W.Frag) (neg:Bool):R2|m{x y H Q} p xs:y=.ref p→(SqL K H p xs∨SqT K H p xs)→zdj x=true→xs.all zdj=true→Q (.bl (if neg then !inV x xs else inV x xs)) H→rIn K neg x y H Q
theorem zf5:OpR X (compareOp .In) (rIn X.K false):=by
  intro pins s σ H x y v u Q I rx ry h
  obtain⟨p,xs,rfl,hq,fx,fs,q⟩:=h
  cases ry
  rcases hq with hq | hq
  · obtain⟨its,r,pl,hz⟩:=I.list hq
    refine SeqAt.in_listAt (eqU x) pl.isList (λw hw=>zek rx fx r fs w (by simpa using hw)) ⟨.bl _,H,I,rfl,?_⟩
    rw[show its.toArray.any (eqU x)=its.any (eqU x) by simp,ze3 r fs]
    exact q
  · obtain⟨its,r,pl,hz⟩:=I.tuple hq
    refine SeqAt.in_tupleAt (eqU x) pl (λw hw=>zek rx fx r fs w (by simpa using hw)) ⟨.bl _,H,I,rfl,?_⟩
    rw[show its.toArray.any (eqU x)=its.any (eqU x) by simp,ze3 r fs]
    exact q
theorem zbO:OpR X (compareOp .NotIn) (rIn X.K true):=by
  intro pins s σ H x y v u Q I rx ry h
  obtain⟨p,xs,rfl,hq,fx,fs,q⟩:=h
  cases ry
  rcases hq with hq | hq
  · obtain⟨its,r,pl,hz⟩:=I.list hq
    refine SeqAt.notIn_listAt (eqU x) pl.isList (λw hw=>zek rx fx r fs w (by simpa using hw)) ⟨.bl _,H,I,rfl,?_⟩
    rw[show its.toArray.any (eqU x)=its.any (eqU x) by simp,ze3 r fs]
    exact q
  · obtain⟨its,r,pl,hz⟩:=I.tuple hq
    refine SeqAt.notIn_tupleAt (eqU x) pl (λw hw=>zek rx fx r fs w (by simpa using hw)) ⟨.bl _,H,I,rfl,?_⟩
    rw[show its.toArray.any (eqU x)=its.any (eqU x) by simp,ze3 r fs]
    exact q
inductive zib (K:PySem.W.Frag):List V→Hp→VK→Prop|m{xs H Q} p ys:xs=[.ref p]→(SqL K H p ys∨SqT K H p ys)→Q (.int ys.length) H→zib K xs H Q
theorem ar:zbv X (.builtin "len") (zib X.K):=by
  intro pins s σ H xs us Q I r h
  obtain⟨p,ys,rfl,hq,q⟩:=h
  obtain⟨u,rfl,rx⟩:=zb6 r
  cases rx
  have hn:=zhg
  rcases hq with hq | hq
  · obtain⟨its,r',pl,hz⟩:=I.list hq
    have hlen:=r'.length
    exact Calls.call_len_list pl.isList (by simp only[sAq] <;> omega) ⟨.int ys.length,H,I.tok _,⟨s.toks+1,by rw[sAq,hlen]⟩,q⟩
  · obtain⟨its,r',pl,hz⟩:=I.tuple hq
    have hlen:=r'.length
    exact len_tuple pl (by simp only[sAq] <;> omega) ⟨.int ys.length,H,I.tok _,⟨s.toks+1,by rw[sAq,hlen]⟩,q⟩
theorem zgf:zbv X (.builtin "len") (λxs H Q=>∃ z,xs=[.str z]∧z.length≤sizeLine∧Q (.int z.length) H):=by
  intro pins s σ H xs us Q I r h
  obtain⟨z,rfl,hz,q⟩:=h
  obtain⟨u,rfl,t,rfl⟩:=zb6 r
  have hn:=zhg
  exact len_str (by omega) ⟨.int z.length,H,I.tok _,⟨_,rfl⟩,q⟩
inductive rLsO (K:PySem.W.Frag):List V→Hp→VK→Prop|m{xs H Q} p ys:xs=[.ref p]→(SqL K H p ys∨SqT K H p ys)→(∀ l,H l=none→Q (.ref l) (upd H l (.lst ys)))→rLsO K xs H Q
theorem zdq:zbv X (.type "list") (rLsO X.K):=by
  intro pins s σ H xs us Q I r h
  obtain⟨p,ys,rfl,hq,q⟩:=h
  obtain⟨u,rfl,rx⟩:=zb6 r
  cases rx
  have fin:∀(its:List Value),aW ys its→ys.length≤sizeLine→∀(h':Heap) (c':Nat),(∀ b o',s.heap.get? b=some o'→h'.get? b=some o') →
      h'.get? s.heap.objs.size=some { cls:=.type "list",dict:=none,data:=.seq its.toArray c',slots:=#[] }→EP X pins σ Q (.ref s.heap.objs.size) { s with heap:=h' }:=λits r' hz h' c' kp e =>
    ⟨.ref s.heap.objs.size,_,I.laid (t':=s.toks) kp (nRq _) (show zaF X.prog X.w _ h' _ (.lst ys) from⟨hz,its,c',r',e⟩),rfl,q _ (I.hok.fresh (nRq _))⟩
  rcases hq with hq | hq
  · obtain⟨its,r',pl,hz⟩:=I.list hq
    have hlen:=r'.length
    obtain⟨o,ho,hc,n,hd⟩:=pl.isList
    exact call_list_seq p (.inl rfl) ho hc hd (λh' c' kp e=>fin its r' hz h' c' kp e) (by simp only[sAq] <;> omega)
  · obtain⟨its,r',pl,hz⟩:=I.tuple hq
    have hlen:=r'.length
    obtain⟨o,ho,hc,n,hd⟩:=pl
    exact call_list_seq p (.inr rfl) ho hc hd (λh' c' kp e=>fin its r' hz h' c' kp e) (by simp only[sAq] <;> omega)
inductive rTpO (K:PySem.W.Frag):List V→Hp→VK→Prop|m{xs H Q} p ys:xs=[.ref p]→((SqL K H p ys∧∀ l,H l=none→Q (.ref l) (upd H l (.tup ys)))∨(SqT K H p ys∧Q (.ref p) H))→rTpO K xs H Q
theorem zaD:zbv X (.type "tuple") (rTpO X.K):=by
  intro pins s σ H xs us Q I r h
  obtain⟨p,ys,rfl,h⟩:=h
  obtain⟨u,rfl,rx⟩:=zb6 r
  cases rx
  rcases h with ⟨hq,q⟩ | ⟨hq,q⟩
  · obtain⟨its,r',pl,hz⟩:=I.list hq
    have hlen:=r'.length
    refine call_tuple_list pl.isList (λh' kp=>?_) (by simp only[sAq] <;> omega)
    have I1:Inv X pins σ H { s with heap:=h' }:=I.kept (t':=s.toks) kp
    have I2:Inv X pins σ (upd H h'.objs.size (.tup ys)) { s with heap:=h'.push { cls:=.type "tuple",data:=.seq its.toArray } } :=
      I1.laid (t':=s.toks) (λb o e=>Heap.get?_push_of_some _ e) (nRq _) (show zaF X.prog X.w _ _ _ (.tup ys) from⟨hz,its,r',IsTup.new _ _⟩)
    exact⟨.ref h'.objs.size,_,I2,rfl,q _ (I1.hok.fresh (nRq _))⟩
  · obtain⟨its,r',pl,hz⟩:=I.tuple hq
    exact call_tuple_same pl ⟨.ref p,H,I,rfl,q⟩
def tyV (K:PySem.W.Frag) (T:String) (x:V) (H:Hp):Prop:=match x with
  | .str _=>T="str"
  | .int _=>T="int"
  | .ref p=>(T="list"∧∃ xs,SqL K H p xs)∨(T="tuple"∧∃ o,K.lookup p=some o∧o.cls=.type "tuple"∧o.dict=none) ∨
      (T="dict"∧((∃ kvs,H p=some (.dK kvs))∨∃ kvs,H p=some (.dT kvs)))∨(T="set"∧∃ S n,H p=some (.set S n))
  | _=>False
theorem tyV_is {pins:List (Addr × Obj)} {σ:St} {H:Hp} {s:Shared} {T:String} {x:V} {v:Value} (I:Inv X pins σ H s) (r:aX x v) (ty:tyV X.K T x H) :
    s.TypeIs v T∧∀ a,v=.ref a→∃ ob,s.heap.get? a=some ob∧ob.dict=none:=by
  cases x with
  | str z =>
    obtain⟨t,rfl⟩:=r
    cases (show T="str" from ty)
    exact⟨typeIs_str s z t,λ_ e=>nomatch e⟩
  | int i =>
    obtain⟨t,rfl⟩:=r
    cases (show T="int" from ty)
    exact⟨typeIs_int s i t,λ_ e=>nomatch e⟩
  | ref p =>
    cases r
    rcases ty with ⟨rfl,xs,hq⟩ | ⟨rfl,o,hk,hc,hd⟩ | ⟨rfl,hk⟩ | ⟨rfl,S,n,hk⟩
    · obtain⟨its,_,pl,_⟩:=I.list hq
      refine⟨pl.isList.typeIs,λa e=>?_⟩
      cases e
      obtain⟨o,n,e,c,hd,_⟩:=pl
      exact⟨o,e,hd⟩
    · refine⟨⟨o,I.kIn p o hk,hc⟩,λa e=>?_⟩
      cases e
      exact⟨o,I.kIn _ o hk,hd⟩
    · have z:∃ o,s.heap.get? p=some o∧o.ExactDict:=by
        rcases hk with ⟨kvs,hk⟩ | ⟨kvs,hk⟩
        · obtain⟨_,_,_,_,o,_,_,e,ex,_⟩:=I.hok p _ hk
          exact⟨o,e,ex⟩
        · obtain⟨_,_,_,_,o,_,_,e,ex,_⟩:=I.hok p _ hk
          exact⟨o,e,ex⟩
      obtain⟨o,e,ex⟩:=z
      refine⟨⟨o,e,ex.1⟩,λa e2=>?_⟩
      cases e2
      exact⟨o,e,ex.2.1⟩
    · obtain⟨o,_,_,_,e,ex,_⟩:=I.hok p _ hk
      refine⟨⟨o,e,ex.1⟩,λa e2=>?_⟩
      cases e2
      exact⟨o,e,ex.2.1⟩
  | _=>exact False.elim ty
def tBM (K:PySem.W.Frag) (T:String) (r:V→List V→Hp→VK→Prop) (to:TE) (t:TA):TE:=λσ H Q=>to σ H λx H1=>tyV K T x H1∧t σ H1 λxs H2=>r x xs H2 Q
variable {o e:Expr} {es:List Expr} {to:TE} {t:TA} {name:Str} {apos cpos:Pos} {T id:String} {r:V→List V→Hp→VK→Prop}
theorem zbt (pa:PlainAttrs T) (slot:Slot T name id) (hty:typeOf (.builtin id)=pure (.type "method_descriptor")) (hm:MtR X id r) (ho:PE X o to) (ha:PA X (e :: es) t)
    (hbase:attributeBase o name X.env (eval o X.env)=eval o X.env:=by rfl)
    (hfew:((backTo cpos (starEach (e :: es) X.env)).all (λx=>!x.1)&&(backToKw cpos (keywordEach [] X.env)).all (λx=>x.1.isSome)
      && decide ((e :: es).length+([]:List Keyword).length+(if([]:List Keyword).isEmpty then 0 else 1) < 30))=true:=by rfl)
    (hline:(apos.endLine == cpos.line)=true:=by rfl) (hs:starEach (e :: es) X.env=(false,eval e X.env) :: starEach es X.env:=by rfl) (hplain:(backTo cpos (starEach es X.env)).any (·.1)=false:=by rfl) :
    PE X (.Call (.Attribute o name apos) (e :: es) [] cpos) (tBM X.K T r to t):=by
  intro pins s σ H Q I h
  refine wpAny_Call_method_late hbase hfew hline rfl (thn (ho pins s σ H _ I h) λv s1 ⟨x,H1,I1,r1,ty,q1⟩=>?_)
  obtain⟨h1,h2⟩:=tyV_is I1 r1 ty
  refine⟨T,id,pa,slot,hty,h1,h2,?_⟩
  have hA:=ha cpos pins s1 σ H1 _ I1 q1
  rw[hs]at hA ⊢
  refine Calls.callWith_builtin (by show(false||(backTo cpos (starEach es X.env)).any (·.1))=false;rw[hplain] <;> rfl) (Calls.evalArgs_plain ?_)
  exact thn hA λus s2 ⟨vs,H2,I2,r2,q2⟩=>hm pins s2 σ H2 x vs v us Q I2 r1 r2 q2
end
end L2
namespace L2
open PySem PySem.Spec PyProof.Rows
def MtM (X:Cx) (id:String) (r:V→List V→Hp→VK→Prop):Prop :=
  ∀(pins:List (Addr × Obj)) (s:Shared) (σ:St) (H:Hp) (x:V) (xs:List V) (v:Value) (us:List Value) (Q:VK),Inv X pins σ H s→aX x v→aW xs us→r x xs H Q →
    wpAny (model X.prog X.w) X.A (call (.builtin id) (v :: us)) (EP X pins σ Q) X.xe s
theorem aW.one {x:V} {us:List Value} (h:aW [x] us):∃ u,us=[u]∧aX x u:=by
  cases h with
  | cons r h=>cases h;exact⟨_,rfl,r⟩
theorem aW.two {x y:V} {us:List Value} (h:aW [x,y] us):∃ u v,us=[u,v]∧aX x u∧aX y v:=by
  cases h with
  | cons r h=>cases h with
    | cons q h=>cases h;exact⟨_,_,rfl,r,q⟩
section
variable {X:Cx} {pins:List (Addr × Obj)} {σ:St} {H:Hp} {s:Shared} {l b:Addr} {xs ys zs:List V}
theorem Inv.lset {its its':List Value} {n:Nat} {f:Array Value→Array Value} {t':Nat} (I:Inv X pins σ H s) (hH:H l=some (.lst xs))
    (e:s.heap.get? l=some { cls:=.type "list",data:=.seq its.toArray n }) (hf:f its.toArray=its'.toArray) (hv:aW ys its') (hz:ys.length≤sizeLine) :
    Inv X pins σ (upd H l (.lst ys)) { s with heap:=s.heap.update l (Obj.mapSeq f),toks:=t' }:=by
  have q:=PySem.IsL.update e f
  rw[hf]at q
  refine I.write (x:=l) (e:=l) (by rw[hH];exact trivial) (.inl rfl) (λb' u hb hu=>(Heap.get?_update_other s.heap (Obj.mapSeq f) (Ne.symm hb)).trans hu) ⟨_,q⟩ ?_
  exact⟨hz,its',_,hv,q⟩
theorem Inv.lnew {its:List Value} {t':Nat} (I:Inv X pins σ H s) (hv:aW ys its) (hz:ys.length≤sizeLine) :
    Inv X pins σ (upd H s.heap.objs.size (.lst ys)) { s with heap:=s.heap.push { cls:=.type "list",data:=.seq its.toArray },toks:=t' } :=
  I.laid (λ_ _ q=>Heap.get?_push_of_some _ q) (nRq _) ⟨hz,its,0,hv,Heap.get?_push_size _ rfl⟩
theorem Inv.fresh (I:Inv X pins σ H s):H s.heap.objs.size=none:=I.hok.fresh (nRq _)
theorem Inv.lstM (I:Inv X pins σ H s) (hH:H l=some (.lst xs)):xs.length≤sizeLine∧∃(its:List Value) (n:Nat),aW xs its∧xs.length=its.length∧s.heap.get? l=some { cls:=.type "list",data:=.seq its.toArray n }:=by
  obtain⟨z,its,n,r,e⟩:=I.hok l _ hH
  exact⟨z,its,n,r,r.length,e⟩
theorem zlR {n:Nat} (h:n≤sizeLine):Builtin.List.listTooLong n=false:=by
  unfold Builtin.List.listTooLong
  exact decide_eq_false (by omega)
end
section
variable {X:Cx}
inductive zjo:V→List V→Hp→VK→Prop|m{x vs H Q} l xs y:x=.ref l→vs=[y]→H l=some (.lst xs)→xs.length < sizeLine→Q .non (upd H l (.lst (xs++[y])))→zjo x vs H Q
theorem zaE:MtM X "list.append" zjo:=by
  intro pins s σ H x vs v us Q I rx rv h
  obtain⟨l,xs,y,rfl,rfl,hH,hz,q⟩:=h
  cases rx
  obtain⟨u,rfl,ru⟩:=rv.one
  obtain⟨z,its,n,r,hl,e⟩:=I.lstM hH
  refine call_meets F.slot_list_append ⟨_,e,rfl⟩ F.entry_list_append (F.args_list_append_2 _ _) (PySem.list_append l its.toArray n u (by rw[sAq];omega)) ⟨e,?_⟩
  refine⟨.non,_,I.lset (its':=its++[u]) hH e (by simp) (r.append (.cons ru .nil)) ?_,rfl,q⟩
  rw[lAq,lS]
  omega
inductive zjn:V→List V→Hp→VK→Prop|m{x vs H Q} l b xs zs:x=.ref l→vs=[.ref b]→H l=some (.lst xs)→H b=some (.lst zs)→xs.length+zs.length≤sizeLine→Q .non (upd H l (.lst (xs++zs)))→zjn x vs H Q
theorem mt_extend:MtM X "list.extend" zjn:=by
  intro pins s σ H x vs v us Q I rx rv h
  obtain⟨l,b,xs,zs,rfl,rfl,hH,hB,hz,q⟩:=h
  cases rx
  obtain⟨u,rfl,ru⟩:=rv.one
  cases ru
  obtain⟨z,its,n,r,hl,e⟩:=I.lstM hH
  obtain⟨z2,its2,n2,r2,hl2,e2⟩:=I.lstM hB
  have hsz:its.toArray.size+its2.toArray.size≤sizeLine:=by rw[sAq,sAq];omega
  have hlong:¬(!its.toArray.isEmpty&&Builtin.List.listTooLong (its.toArray.size+its2.toArray.size))=true:=by
    rw[zlR hsz,Bool.and_false]
    exact Bool.false_ne_true
  refine call_meets F.slot_list_extend ⟨_,e,rfl⟩ F.entry_list_extend (F.args_list_extend_2 _ _)
    (AutoSeq1.list_extend_list_list_0 l its.toArray n b its2.toArray n2 hlong (by rw[sAq];omega) (by omega)) ⟨e,e2,?_⟩
  refine⟨.non,_,I.lset (its':=its++its2) hH e (by simp) (r.append r2) ?_,rfl,q⟩
  rw[lAq]
  omega
inductive rCat:R2|m{x y H Q} l b xs zs:x=.ref l→y=.ref b→H l=some (.lst xs)→H b=some (.lst zs)→xs.length+zs.length≤sizeLine→(∀ p,H p=none→Q (.ref p) (upd H p (.lst (xs++zs))))→rCat x y H Q
theorem zaB:OpR X (binaryOp .Add) rCat:=by
  intro pins s σ H x y v u Q I rx ry h
  obtain⟨l,b,xs,zs,rfl,rfl,hH,hB,hz,q⟩:=h
  cases rx
  cases ry
  obtain⟨z,its,n,r,hl,e⟩:=I.lstM hH
  obtain⟨z2,its2,n2,r2,hl2,e2⟩:=I.lstM hB
  refine PySem.P.add_list e e2 ?_ (by rw[sAq,sAq];omega)
  have ea:its.toArray++its2.toArray=(its++its2).toArray:=by simp
  rw[ea]
  exact⟨.ref _,_,I.lnew (t':=s.toks) (r.append r2) (by rw[lAq];omega),rfl,q _ I.fresh⟩
end
section
variable {prog:Program} {w:World} {A:Around} {E:Value→Shared→Prop} {s:Shared}
end
section
variable {X:Cx}
end
end L2
namespace Att
open PySem PySem.W PySem.Calls PyProof.Rows
theorem zht {P:Params} {h:Heap}:∀(ns:List Int) (vs:List Value),WellAll P h vs (ns.map WData.int)→IntsAre vs ns:=by
  intro ns
  induction ns with
  | nil =>
    intro vs w
    rw[List.map_nil]at w
    cases w
    exact .nil
  | cons n ns ih =>
    intro vs w
    rw[List.map_cons]at w
    cases w with
    | cons a b =>
      cases a
      exact .cons _ _ (ih _ b)
theorem zkE {l:OpenLaw} {n:Nat} (hn:l.most=some n) {P:Params} {h:Heap} {args:List WData} {vals:List Value}
    (hpre:l.row.toRowW.claim.pre args=true) (hwl:WellAll P h vals args) :
    ∃ a vs ns,vals=[Value.ref a]∧args=[WData.list (ns.map WData.int)]∧h.get? a=some { cls:=.type "list",data:=.seq vs.toArray }∧IntsAre vs ns∧ns.length≤n:=by
  have hsh:WShape.hasAll [] args [.list .int]=true:=(pre_splitW hpre).1
  have hc:l.pre.holds [] { args:=args }=true:=(pre_splitW hpre).2
  obtain⟨d,r,rfl,h1,h2⟩:=hasAllW_cons hsh
  obtain rfl:=hasAllW_nil h2
  obtain⟨xs,rfl,h3⟩:=hasW_list h1
  obtain⟨ns,rfl⟩:=items_int h3
  have hlen:ns.length≤n:=by
    unfold OpenLaw.pre at hc
    have h4:(WTm.not (.lt (.lit (.int (n:Int))) (.len (.arg 0)))).holds [] { args:=[.list (ns.map .int)] }=true:=by
      have h4:=(holds_andW hc).1
      rw[hn]at h4
      exact h4
    have h5:=condW_of h4 (w_not (w_lt w_lit (w_len_list (w_arg rfl))))
    rw[lM]at h5
    refine Nat.le_of_not_lt λq=>?_
    have q':(n:Int) < ((ns.length:Nat):Int):=by omega
    first
      | (rw[decide_eq_true q']at h5;exact absurd h5 (by decide))
      | (simp at h5;omega)
  cases hwl with
  | cons w1 w2 =>
    cases w2
    cases w1 with
    | list ho hall=>exact⟨_,_,ns,rfl,rfl,ho,zht ns _ hall,hlen⟩
theorem zkF (l:OpenLaw) (args:List WData):l.row.toRowW.claim.post args (.bool true) args=true :=
  postW_of (r:=l.row.toRowW) (X:=(true == true))
    (show WShape.has [] (.bool true) .bool=true by first | rfl | decide | simp [WShape.has,WShape.arms,WShape.armsAll])
    (show(WTm.eq .res (.lit (.bool true))).value [] { args:=args,res:=some (.bool true),after:=args }=some (.bool (true == true)) from w_eq_bool (w_res rfl) w_lit) rfl
theorem attach_call {l:OpenLaw} {n:Nat} {q:Program} {loose:List Str} {XP:(Str→Option Value)→Heap→Prop} {YP:World→Heap→Prop} {d:DefRec}
    (hn:l.most=some n) (hdf:d.params.defaults=[])
    (call:∀(w:World) (s₀ s₁:Shared) (mg mb:Str→Option Value) (fa:Addr) (o:Obj) (pm cd doc:Value) (a:Addr) (vs:List Value) (ns:List Int),
      Ground q loose [] XP w s₀ mg mb s₁.heap→YP w s₁.heap →
      s₁.heap.get? fa=some o→o.data=.func (docDef d.name d.params d.body d.scope pm cd doc)→s₁.heap.CodeRec cd d.name→mg d.name=some (.ref fa) →
      s₁.heap.get? a=some { cls:=.type "list",data:=.seq vs.toArray }→IntsAre vs ns→ns.length≤n→s₁.gens=#[] →
      codeAny (model l.prog w) callerA (.call (.ref fa) ⟨[.ref a],[]⟩) (λr s'=>r=.ok (.ret (.bool true))∧OldK s₁.heap s'.heap∧s'.os=s₁.os∧AllBare s'.gens) s₁) :
    WalkO q loose XP YP l.row.toRowW d [] (λf vs=>PySem.call f vs):=by
  intro w s₀ s₁ mg mb G Y fa o pm cd doc dV kV ho hd hcd hD hmg hg args vals as hpre hlay hrd hwl hlo
  obtain rfl:dV=.none:=Dflts.none hD hdf
  obtain rfl:kV=.none:=Dflts.noKw hD
  obtain⟨a,vs,ns,rfl,rfl,hobj,hints,hlen⟩:=zkE hn hpre hwl
  refine enter_call (codeAny_mono (call w s₀ s₁ mg mb fa o pm cd doc a vs ns G Y ho (fd_plain hd) hcd hmg hobj hints hlen hg) λr s' hq=>?_)
  obtain⟨rfl,h2,h3,h4⟩:=hq
  exact⟨.inl ⟨.bool true,.bool true,[],rfl,λ_=>rfl,.bool true,zkF l _,λ_=>⟨List.Pairwise.nil,λ_ hm=>(nomatch hm)⟩⟩,h2,h3,h4⟩
section
variable {prog:Program} {w:World} {A:Around} {E:Value→Shared→Prop} {s:Shared} {K:Frag}
def ledger (h:Heap) (L d:Addr):List (Addr × Obj):=(List.range h.objs.size).filterMap λa=>if a=L∨a=d then none else(h.get? a).map λo=>(a,o)
end
end Att
namespace L2
open PySem PySem.Spec PyProof.Rows
theorem zfJ:∀ {vs:List Value} {ns:List Int},IntsAre vs ns→aW (ns.map V.int) vs
  | _,_,.nil=>.nil
  | _,_,.cons n t h=>.cons ⟨t,rfl⟩ (zfJ h)
def Only (H:Hp):Prop:=∀ b,H b=none∨∃ o xs,H b=some (.frz o (.lst xs))
theorem zlU {P:Program} {w:World} {K:PySem.W.Frag} {mg mb:Str→Option Value} {CX:CXT} {k:Nat} {fa a:Addr} {fd:FuncData} {x:Str} {sp:Sp} {s₁:Shared} {vs:List Value} {ns:List Int}
    (KX:K.In s₁.heap) (hns:s₁.heap.Ns mainGlobals mg) (hb:s₁.heap.Ns builtinsNs mb) (hbb:∀ x:Str,x≠"__name__"→mb x=bootBuiltins x) (hlim:s₁.heap.NoLimit) (hg:s₁.gens=#[])
    (ha:s₁.heap.get? a=some { cls:=.type "list",data:=.seq vs.toArray }) (hi:IntsAre vs ns) (hl:ns.length≤sizeLine) (hr:zaq k callerA)
    (F:∀ base:Heap,K.In base→base.Ns mainGlobals mg→aI P w K mg base CX k fa fd [x] sp) (hbind:∀(s:Shared) (u:Value),BindsTo s fd ⟨[u],[]⟩ [(x,u)])
    (hsp:∀ H:Hp,Only H→SqL K H a (ns.map V.int)→sp [.ref a] H (λv _=>v=.bl true) λ_ _ _=>False)
    (hCX:∀ H e s',CX [] H s₁ (λ_ _ _=>False) e s'→False) :
    codeAny (model P w) callerA (.call (.ref fa) ⟨[.ref a],[]⟩) (λr s'=>r=.ok (.ret (.bool true))∧OldK s₁.heap s'.heap∧s'.os=s₁.os∧AllBare s'.gens) s₁:=by
  have rv:=zfJ hi
  have lenV:=hi.length
  have core:∀ H:Hp,Only H→SqL K H a (ns.map V.int)→HOk P w H s₁.heap→(∀ b,H b≠none→b=a)→(H a≠none→K.lookup a=none) →
      codeAny (model P w) callerA (.call (.ref fa) ⟨[.ref a],[]⟩) (λr s'=>r=.ok (.ret (.bool true))∧OldK s₁.heap s'.heap∧s'.os=s₁.os∧AllBare s'.gens) s₁:=by
    intro H hO hS hok hA hK
    have base_of:∀ {b:Addr} {o:Obj},s₁.heap.get? b=some o→H b=none→(ze8 s₁.heap H).get? b=some o:=λe n=>zlV e n
    have noA:∀ {b:Addr} {o:Obj} {es:Array DictEntry} {ep:Nat},s₁.heap.get? b=some o→o.data=.dict es ep→H b=none:=λ{b o es ep} e d=>by
      cases q:H b with
      | none=>rfl
      | some u =>
        have e':b=a:=hA b (by rw[q];simp)
        subst e'
        rw[ha]at e;cases e
        have d':Data.seq vs.toArray _=Data.dict es ep:=d
        cases d'
    have nsK:∀ {b:Addr} {m:Str→Option Value},s₁.heap.Ns b m→(ze8 s₁.heap H).Ns b m:=λ{b m} ⟨o,es,ep,e,d,r⟩=>⟨o,es,ep,base_of e (noA e d),d,r⟩
    have hKb:K.In (ze8 s₁.heap H):=λb o e=>base_of (KX b o e) (by
      cases q:H b with
      | none=>rfl
      | some u =>
        have e':b=a:=hA b (by rw[q];simp)
        subst e'
        rw[hK (by rw[q];simp)]at e;cases e)
    have hM:Mod K mg (ze8 s₁.heap H):=⟨hKb,nsK hns,⟨mb,nsK hb,hbb⟩,let ⟨mc,h1,h2⟩:=hlim;⟨mc,nsK h1,h2⟩⟩
    have e0:zgN P w K mg (ze8 s₁.heap H) callerA [] s₁ H:=⟨rfl,hM,λb o e=>zmw e,Nat.le_of_eq (zlb _ _),trivial,λb hb=>absurd (show b∈([]:List Addr) from hb) (by simp),hok,.of_eq hg⟩
    refine codeAny_mono ((F _ hKb (nsK hns)).run callerA [] s₁ H ⟨[.ref a],[]⟩ [.ref a] [.ref a] _ _ hr e0 (hbind s₁ (.ref a)) (.cons rfl .nil) (hsp H hO hS)) λr s' h=>?_
    cases r with
    | error e=>exact(hCX H e s' h).elim
    | ok fl =>
      cases fl with
      | next=>exact False.elim h
      | brk=>exact False.elim h
      | cont=>exact False.elim h
      | ret u =>
        obtain⟨v,H',os,bare,un,hok',r',q⟩:=h
        have q':v=.bl true:=q
        subst q'
        obtain rfl:u=Value.bool true:=r'
        refine⟨rfl,OldK.of_keep λb o e=>?_,os,bare⟩
        cases q:H b with
        | none=>exact un.keep b o e q (by intro z;exact absurd (show b∈([]:List Addr) from z) (by simp)) (by simp)
        | some u =>
          rcases hO b with z | ⟨ob,xs,z⟩
          · rw[q]at z;cases z
          · have z2:=un.frzs b ob _ z
            obtain⟨e1,_⟩:=hok b _ z
            obtain⟨e2,_⟩:=hok' b _ z2
            rw[e]at e1;cases e1
            exact e2
  cases hk:K.lookup a with
  | some o =>
    have e:=KX a o hk
    rw[ha]at e
    cases e
    refine core (λ_=>none) (λ_=>.inl rfl) (.inr ⟨_,vs.toArray,_,hk,rfl,rfl,rfl,by rw[sAq,lenV];exact hl,by simpa using rv⟩) (λb u z=>by have z':(none:Option HO)=some u:=z;cases z') (λb z=>absurd rfl z) λz=>absurd rfl z
  | none =>
    refine core (λb=>if b=a then some (.frz { cls:=.type "list",data:=.seq vs.toArray } (.lst (ns.map V.int))) else none) (λb=>?_) (.inl (.inr ⟨{ cls:=.type "list",data:=.seq vs.toArray },if_pos rfl⟩)) (λb u z=>?_) (λb z=>?_) λ_=>hk
    · by_cases hb:b=a
      · exact .inr ⟨_,_,if_pos hb⟩
      · exact .inl (if_neg hb)
    · by_cases hb:b=a
      · have z':=(if_pos hb).symm.trans z
        cases z'
        subst hb
        exact⟨ha,by rw[lM];exact hl,vs,_,rv,ha⟩
      · have z':=(if_neg hb).symm.trans z
        cases z'
    · by_cases hb:b=a
      · exact hb
      · exact absurd (if_neg hb) z
end L2
namespace L2
open PySem PySem.Spec PyProof.Rows
abbrev KOf {K:PySem.W.Frag} {h:Heap} (_:K.In h):PySem.W.Frag:=K
theorem walk_of {l:PySem.W.OpenLaw} {n k:Nat} {q:Program} {loose:List Str} {XP:(Str→Option Value)→Heap→Prop} {YP:World→Heap→Prop} {d:DefRec} {K:Params→PySem.W.Frag} {CX:World→CXT} {sp:World→Sp} {x:Str}
    (hn:l.most=some n) (hn2:n≤sizeLine) (hdf:d.params.defaults=[]) (hr:zaq k callerA)
    (hY:∀(w:World) (h:Heap),YP w h→(K w.params).In h)
    (F:∀(w:World) (mg:Str→Option Value) (fa:Addr) (h:Heap),(K w.params).In h→h.Ns mainGlobals mg→mg d.name=some (.ref fa) →
      ∃ fd:FuncData,(∀(s:Shared) (u:Value),BindsTo s fd ⟨[u],[]⟩ [(x,u)]) ∧
        ∀ base:Heap,(K w.params).In base→base.Ns mainGlobals mg→aI l.prog w (K w.params) mg base (CX w) k fa fd [x] (sp w))
    (hsp:∀(w:World) (H:Hp) (a:Addr) (ns:List Int),ns.length≤n→Only H→SqL (K w.params) H a (ns.map V.int)→sp w [.ref a] H (λv _=>v=.bl true) λ_ _ _=>False)
    (hCX:∀(w:World) (H:Hp) (s:Shared) (e:Value) (s':Shared),CX w [] H s (λ_ _ _=>False) e s'→False) :
    PySem.W.WalkO q loose XP YP l.row.toRowW d [] (λf vs=>PySem.call f vs):=by
  refine Att.attach_call hn hdf λw s₀ s₁ mg mb fa o pm cd doc a vs ns G Y ho hd hcd hmg hobj hints hlen hg=>?_
  have KX:=hY w _ Y
  obtain⟨fd,hb,hF⟩:=F w mg fa _ KX G.T.g hmg
  exact zlU KX G.T.g G.T.b G.T.builtins G.T.nolimit hg hobj hints (Nat.le_trans hlen hn2) hr hF hb (λH hO hS=>hsp w H a ns hlen hO hS) λH e s'=>hCX w H s₁ e s'
end L2
namespace L2
open PySem PySem.Spec PyProof.Rows
def zcb (s:Stmt) (j:Nat):Stmt:=match s with
  | .ClassDef _ _ _ body _ _ _ _ _ _ _=>body.getD j (.Pass ⟨0,0,0,0⟩)
  | _=>.Pass ⟨0,0,0,0⟩
def zcS (s:Stmt):Arguments:=match s with
  | .FunctionDef _ a _ _ _ _ _ _ _ _=>a
  | _=>{ posonlyargs:=[],args:=[],vararg:=none,kwonlyargs:=[],kw_defaults:=[],kwarg:=none,defaults:=[] }
def zaR (s:Stmt):List Stmt:=match s with
  | .FunctionDef _ _ b _ _ _ _ _ _ _=>b
  | _=>[]
def aw (s:Stmt):Scope:=match s with
  | .FunctionDef _ _ _ _ _ _ sc _ _ _=>sc
  | _=>{ kind:=.function,names:=[],isGenerator:=false,isCoroutine:=false }
abbrev CX0:CXT:=λ_ _ _ _ _ _=>False
abbrev E0:XK:=λ_ _ _=>False
theorem aR {X:Cx}:zdO CX0 X E0:=λ_ _ _ _ _ _ _ h=>h.elim
structure Fun (K:PySem.W.Frag) (x qual:Str) (st:Stmt) (f:Addr) (fd:FuncData):Prop where
  ex:∃(oc:Value) (od:Option Addr) (kV doc pm:Value) (an:Option Addr) (cdv ct:Value) (osl:Array (Option Value)),
    fd=PySem.W.fnOf x qual (zcS st) (zaR st) (aw st) .none kV doc pm an cdv ct∧K.lookup f=some ⟨oc,od,.func fd,osl⟩∧PySem.W.codeIn K cdv qual=true
  kp:PySem.W.keepIn K (.ref f)=true
section
variable {P:Program} {w:World} {K:PySem.W.Frag} {mg:Str→Option Value} {base:Heap}
theorem Fun.ok {x qual:Str} {st:Stmt} {f:Addr} {fd:FuncData} {N ps:List Str} {k:Nat} {sp:Sp} (F:Fun K x qual st f fd) (S:aO N ps (aw st)) (len:∀ vs H Q E,sp vs H Q E→vs.length=ps.length)
    (hbody:∀(cdv:Value) (A:Around) (outer:List Env) (s:Shared) (H:Hp) (vs:List V) (Q:VK) (E:XK),zaq k (A.deeper (envOfC qual (aw st) s.heap.objs.size f cdv))→sp vs H Q E →
      ∃ t,PSs (aV CX0 P w K mg base N qual (aw st) f cdv A outer s H E).nox (zaR st) t∧t { nx:=λ_ H'=>Q .non H',rt:=Q } (zdZ N vs) H):aI P w K mg base CX0 (k+1) f fd ps sp:=by
  obtain⟨oc,od,kV,doc,pm,an,cdv,ct,osl,rfl,lk,hcd⟩:=F.ex
  refine fn_of lk hcd S len λA outer s H vs Q E hr hsp=>?_
  obtain⟨t,h,q⟩:=hbody cdv A outer s H vs Q E hr hsp
  exact⟨t,h.nox,q⟩
theorem Fun.binds {x qual:Str} {st:Stmt} {f:Addr} {fd:FuncData} {ps:List Str} (F:Fun K x qual st f fd)
    (h:∀(kV doc pm:Value) (an:Option Addr) (cdv ct:Value) (us:List Value),us.length=ps.length→bindArgs (PySem.W.fnOf x qual (zcS st) (zaR st) (aw st) .none kV doc pm an cdv ct) ⟨us,[]⟩=pure (ps.zip us)):aH K fd ps []:=by
  obtain⟨oc,od,kV,doc,pm,an,cdv,ct,osl,rfl,lk,hcd⟩:=F.ex
  exact .all (h kV doc pm an cdv ct)
theorem zkp {x qual:Str} {st:Stmt} {f:Addr} {oc:Value} {od an:Option Addr} {osl:Array (Option Value)} {kV doc pm cdv ct:Value} (l:K.lookup f=some ⟨oc,od,.func (PySem.W.fnOf x qual (zcS st) (zaR st) (aw st) .none kV doc pm an cdv ct),osl⟩)
    (c:PySem.W.codeIn K cdv qual=true) (k:PySem.W.keepIn K (.ref f)=true):Fun K x qual st f (PySem.W.fnOf x qual (zcS st) (zaR st) (aw st) .none kV doc pm an cdv ct):=⟨⟨oc,od,kV,doc,pm,an,cdv,ct,osl,rfl,l,c⟩,k⟩
end
theorem zfd {A:Around} {k:Nat} (hr:zaq k A):A.units+1 < cLine:=Nat.lt_of_le_of_lt (Nat.add_le_add_left (by decide:1≤64) _) hr.units
theorem zaC {n:Nat} (h:n≤1000):n < sizeLine:=Nat.lt_of_le_of_lt h (by decide)
section
variable {X:Cx}
theorem pv (i:Nat) {x:Str} {pos:Pos} (hN:X.N[i]?=some x:=by rfl) (hv:Vis X.env.scope x:=by first | exact Or.inl rfl | exact Or.inr (Or.inl rfl) | exact Or.inr (Or.inr rfl)) (hd:(x == ("__debug__":Str))=false:=by decide)
    (hcd:(x == ("__classdict__":Str))=false:=by decide):PE X (.Name x pos) (tVar i):=pe_var hN hv hd hcd
end
theorem aY {A B:Prop} (h:B):if false=true then A else B:=by
  rw[if_neg Bool.false_ne_true]
  exact h
theorem zao {A B:Prop} (h:A):if true=true then A else B:=by
  rw[if_pos rfl]
  exact h
theorem aJ {c A B:Prop} [Decidable c] (h1:c→A) (h2:¬c→B):if c then A else B:=by
  by_cases h:c
  · rw[if_pos h]
    exact h1 h
  · rw[if_neg h]
    exact h2 h
theorem iteNS {c A B:Prop} [Decidable c] (hc:c) (h:B):if(!decide c)=true then A else B:=by
  rw[decide_eq_true hc]
  exact aY h
def ai (H H':Hp):Prop:=∀ b o,H b=some o→H' b=some o
theorem ai.refl (H:Hp):ai H H:=λ_ _ h=>h
theorem ai.trans {H H1 H2:Hp} (a:ai H H1) (b:ai H1 H2):ai H H2:=λc o h=>b c o (a c o h)
theorem ai.free {H H':Hp} (e:ai H H') {l:Addr} (h:H' l=Option.none):H l=Option.none:=by
  cases q:H l with
  | none=>rfl
  | some o =>
    rw[e l o q]at h
    cases h
theorem ai.seq {K:PySem.W.Frag} {H H':Hp} {a:Addr} {xs:List V} (e:ai H H') (h:SqL K H a xs):SqL K H' a xs:=by
  rcases h with (h | ⟨o,h⟩) | h
  · exact .inl (.inl (e _ _ h))
  · exact .inl (.inr ⟨o,e _ _ h⟩)
  · exact .inr h
end L2
theorem lS0:0≤PySem.sizeLine:=by decide
theorem lS1:1≤PySem.sizeLine:=by decide
theorem lS2:2≤PySem.sizeLine:=by decide
theorem lS3:3≤PySem.sizeLine:=by decide
theorem lS4:4≤PySem.sizeLine:=by decide
namespace L2
open PySem PySem.Spec PyProof.Rows
section
variable {X:Cx} {e l:Expr} {te tl:TE} {pos:Pos} {tg:Expr}
def Its (z:Str):It:=⟨λi _=>i < z.length,λi H x H'=>H'=H∧∃ c,z.cps[i]?=some c∧x=.str ⟨#[c]⟩,λi _=>z.length≤i⟩
theorem ziA {P:Program} {w:World} {K:W.Frag} {ty:String} (hty:ty="str_ascii_iterator"∨ty="str_iterator") (it:Addr) (z:Str) (t:Tok):zgL P w K tg (Its z) [it] it (λi h=>h.IsStrIter it ty z t i) where
 mem:=by simp
 obj:=λi h st b hb=>by
  have e:b=it:=by simpa using hb
  subst e
  obtain⟨o,e,c,d⟩:=st
  exact⟨o,e,λv z=>by rw[d]at z;cases z⟩
 keep:=λi h h' st k=>by
  obtain⟨o,e,r⟩:=st
  exact⟨o,k it (by simp) o e,r⟩
 item:=by
  intro X hP hw hK hc i pins s σ H E I hf st hg
  subst hP hw hK
  have hi:i < z.cps.size:=hg
  have hx:z.cps[i]?=some z.cps[i]:=by simp [hi]
  obtain⟨f0,f1,f2,f3,f4,f5⟩:=hf it (by simp)
  rcases hty with rfl | rfl
  ·refine wpAny_pyNext_ascii_item st hx λh' st' sb=>?_
   have I1:Inv X pins σ H { s with heap:=h',toks:=s.toks+1 }:=I.turned (t':=s.toks+1) (λb o hb e=>(sb.2 b hb).trans e) f0 f1 f3 f4 f5
   obtain⟨o,e,c,d⟩:=id st'
   exact⟨_,rfl,zg6 (s:={ s with heap:=h',toks:=s.toks+1 }) e c d (by decide) ⟨.str ⟨#[z.cps[i]]⟩,H,I1,⟨_,rfl⟩,⟨rfl,_,hx,rfl⟩,st',λb hb=>(hf b hb).1⟩⟩
  ·refine wpAny_pyNext_wide_item st hx λh' st' sb=>?_
   have I1:Inv X pins σ H { s with heap:=h',toks:=s.toks+1 }:=I.turned (t':=s.toks+1) (λb o hb e=>(sb.2 b hb).trans e) f0 f1 f3 f4 f5
   obtain⟨o,e,c,d⟩:=id st'
   exact⟨_,rfl,zg6 (s:={ s with heap:=h',toks:=s.toks+1 }) e c d (by decide) ⟨.str ⟨#[z.cps[i]]⟩,H,I1,⟨_,rfl⟩,⟨rfl,_,hx,rfl⟩,st',λb hb=>(hf b hb).1⟩⟩
 done:=by
  intro X hP hw hK hc i pins s σ H E I hf st hg
  subst hP hw hK
  have hi:z.cps.size≤i:=hg
  have hx:z.cps[i]?=none:=by simp [hi]
  obtain⟨f0,f1,f2,f3,f4,f5⟩:=hf it (by simp)
  rcases hty with rfl | rfl
  ·exact wpAny_pyNext_ascii_end (I.ok.hd hc) st hx λh' eb=>⟨rfl,I.turned (t':=s.toks) (λb o hb e=>eb b o hb e) f0 f1 f3 f4 f5⟩
  ·exact wpAny_pyNext_wide_end (I.ok.hd hc) st hx λh' eb=>⟨rfl,I.turned (t':=s.toks) (λb o hb e=>eb b o hb e) f0 f1 f3 f4 f5⟩
 self:=λ_ _ _ _ _ st h=>by
  rcases hty with rfl | rfl
  ·exact wpAny_pyIter_striter_ascii st h
  ·exact wpAny_pyIter_striter_wide st h
def iStr (tl:TE):TI:=λσ H R=>tl σ H λx H1=>∃ z,x=.str z∧R (Its z) H1
theorem pi_str (hl:PE X l tl):PI X tg l (iStr tl):=by
 intro pins s σ H R I h
 refine thn (hl pins s σ H _ I h) λv s1 ⟨x,H1,I1,r1,q1⟩=>?_
 obtain⟨z,e,q⟩:=q1
 subst e
 obtain⟨t,rfl⟩:=r1
 have fp:∀ b∈[s1.heap.objs.size],zcr X pins H1 b:=λb hb=>by
  have e:b=s1.heap.objs.size:=by simpa using hb
  subst e
  exact I1.fpOk (nRq _) (I1.hok.fresh (nRq _))
 cases ha:z.cps.all (· < 128) with
 | true =>
  refine wpAny_pyIter_ascii ha ?_
  exact⟨s1.heap.objs.size,[s1.heap.objs.size],_,_,H1,rfl,I1.kept (t':=s1.toks) λb o e=>Heap.get?_push_of_some _ e,ziA (.inl rfl) _ z t,⟨_,Heap.get?_push_size _ rfl,rfl,rfl⟩,fp,q⟩
 | false =>
  refine wpAny_pyIter_wide ha ?_
  exact⟨s1.heap.objs.size,[s1.heap.objs.size],_,_,H1,rfl,I1.kept (t':=s1.toks) λb o e=>Heap.get?_push_of_some _ e,ziA (.inr rfl) _ z t,⟨_,Heap.get?_push_size _ rfl,rfl,rfl⟩,fp,q⟩
theorem zbJ (hc:X.calm=true):zbv X (.builtin "all") (λxs H Q=>∃(p:Addr) (bs:List Bool),xs=[.ref p]∧SqL X.K H p (bs.map V.bl)∧Q (.bl (bs.all id)) H):=by
 intro pins s σ H xs us Q I r h
 obtain⟨p,bs,rfl,hq,q⟩:=h
 obtain⟨u,rfl,rx⟩:=zb6 r
 cases rx
 obtain⟨its,rv,pl,hz⟩:=I.list hq
 have hl:=rv.length
 rw[lM]at hl
 have hp:p < s.heap.objs.size:=by
  obtain⟨o,ho,_⟩:=pl.isList
  exact Heap.lt_size ho
 have hne:p≠s.heap.objs.size:=Nat.ne_of_lt hp
 refine call_all_walk (wpAny_pyIter_list pl.isList ?_)
 refine⟨s.heap.objs.size,[s.heap.objs.size,p],[s.heap.objs.size],its.toArray.size,_,_,λi=>bs.getD i true,rfl,Walks.list (show X.A.in1.handled=none from I.ok.hd hc) _ p hne its.toArray,⟨⟨_,Heap.get?_push_size _ rfl,rfl,rfl⟩,pl.isList.push _⟩,?_,λh' tk hk=>?_⟩
 ·intro i v s' Q' E' hv hQ
  have hv':its[i]?=some v:=by simpa using hv
  have hi:i < its.length:=(gEq hv').1
  have hb:bs[i]?=some (bs.getD i true):=by
   rw[List.getD_eq_getElem?_getD,gG (by omega)]
   rfl
  obtain⟨w',e1,e2⟩:=rv.get (i:=i) (x:=.bl (bs.getD i true)) (by rw[List.getElem?_map,hb];rfl)
  rw[hv']at e1
  cases e1
  cases (show v=Value.bool _ from e2)
  exact wpAny_truthy_bool hQ
 ·have e:(List.range its.toArray.size).all (λi=>bs.getD i true)=bs.all id:=by
   rw[Bool.eq_iff_iff,List.all_eq_true,List.all_eq_true]
   constructor
   ·intro h x hx
    obtain⟨i,hi,rfl⟩:=List.mem_iff_getElem.mp hx
    have:=h i (List.mem_range.mpr (by simp only[sAq];omega))
    rw[List.getD_eq_getElem?_getD,gG hi]at this
    exact this
   ·intro h i hi
    have hi':i < bs.length:=by have:=List.mem_range.mp hi;simp only[sAq]at this;omega
    rw[List.getD_eq_getElem?_getD,gG hi']
    exact h _ (List.getElem_mem hi')
  refine⟨.bl (bs.all id),H,I.kept (t':=tk) λb o eb=>hk b o ?_ (Heap.get?_push_of_some _ eb),congrArg Value.bool e,q⟩
  intro hm
  have:b=s.heap.objs.size:=by simpa using hm
  exact absurd (Heap.lt_size eb) (by rw[this];exact Nat.lt_irrefl _)
inductive rIs (K:W.Frag):List V→Hp→VK→Prop|m{xs H Q} x t n b:xs=[x,.ty n]→zb7 K H x t→W.kitOne K t (.type n)=some b→Q (.bl b) H→rIs K xs H Q
theorem zb5:zbv X (.builtin "isinstance") (rIs X.K):=by
 intro pins s σ H xs us Q I r h
 obtain⟨x,t,n,b,rfl,ty,hk,q⟩:=h
 obtain⟨u,w',rfl,rx,ry⟩:=zgi r
 cases (show w'=Value.type n from ry)
 exact zk9 I rx ty hk λtk=>⟨.bl b,H,I.tok _,rfl,q⟩
end
structure Clo (X:Cx) (scope:Scope) (cl:List (Str × Addr)):Prop where
 eq:closureFor scope X.env=pure cl
 sub:∀ y c,cl.lookup y=some c→X.env.cells.lookup y=some c
 has:∀ y,((relabel scope X.env).names.lookup y=some .cell∨(relabel scope X.env).names.lookup y=some .free)→∃ c,cl.lookup y=some c
theorem za3 {X:Cx} {scope:Scope} (hfree:∀ x∈scope.names,x.2≠.free) (hcell:∀ x∈scope.names,x.2≠.cell):Clo X scope []:=by
 refine⟨closureFor_none hfree,λy c h=>by simp at h,λy h=>?_⟩
 have e:(relabel scope X.env).names=scope.names:=by
  unfold relabel
  refine map_eq_self (λx hx=>?_)
  obtain⟨n,k⟩:=x
  have:(k == NameKind.free)=false:=by simpa using hfree _ hx
  simp [this]
 rw[e]at h
 rcases h with h | h
 ·exact absurd rfl (hcell _ (PySem.mem_of_lookup h))
 ·exact absurd rfl (hfree _ (PySem.mem_of_lookup h))
def zaQ (X:Cx) (N':List Str) (scope:Scope) (cl:List (Str × Addr)) (fp:List Addr) (s₃:Shared) (H₃:Hp):Cx where
 prog:=X.prog
 w:=X.w
 K:=X.K
 mg:=X.mg
 base:=X.base
 A:=X.A
 N:=N'
 s₀:=s₃
 H₀:=H₃
 env:=compEnvC scope cl s₃.heap.objs.size X.env
 outer:=X.stack
 stack:=X.stack
 ex:=fp
 calm:=X.calm
 fn:=λ_=>false
 pn:=[]
 xe:=λ_ _=>False
def fvs (σ:St) (ix:List Nat):St:=ix.map λi=>(σ[i]?).join
def tLC (wi:TI) (ix:List Nat) (te:TE):TE:=λσ H Q=>wi σ H λJ H1=>∀ D,H1 D=none →
 ∃ W:Nat→Nat→List V→Hp→Prop,(∃ m,W 0 m [] (upd H1 D (.lst []))) ∧
  ∀ i m ys H',W i m ys H'→H' D=some (.lst ys) ∧
   ((J.stop i H'∧Q (.ref D) H')∨(J.go i H'∧∀ x H'',J.yld i H' x H''→te (some x :: fvs σ ix) H'' λy H3 =>
    H3 D=some (.lst ys)∧ys.length < sizeLine∧∃ m',m' < m∧W (i+1) m' (ys++[y]) (upd H3 D (.lst (ys++[y])))))
theorem zjd {prog:Program} {w:World} {A:Around} {R:Result→Shared→Prop} {s:Shared} {elt target iter:Expr} {scope:Scope} {pos:Pos} {it acc:Value} {env:Env} (I:Nat→Shared→Prop)
  (turn:∀ n s,I n s→wpAny (model prog w) A (pyNext it) (λr s₁=>match r with
   | none=>R (.ok .next) s₁
   | some v=>wpAny (model prog w) A (letOwnedTupleGo target it v) (λ_ s₁'=>wpAny (model prog w) A (assign target env v) (λ_ s₂=>wpAny (model prog w) A (eval elt env) (λx s₃ =>
     wpAny (model prog w) A (call (.builtin "list.append") [acc,x]) (λ_ s₄=>∃ m,m < n∧I m s₄) (notedBy (model prog w) A env λe s'=>R (.error e) s') s₃)
     (notedBy (model prog w) A env λe s'=>R (.error e) s') s₂) (notedBy (model prog w) A env λe s'=>R (.error e) s') s₁') (notedBy (model prog w) A env λe s'=>R (.error e) s') s₁) (notedBy (model prog w) A env λe s'=>R (.error e) s') s)
  (n:Nat) (h:I n s) :
  codeAny (model prog w) A (.compLoop (.ListComp elt [⟨target,iter,[],0⟩] scope pos) 0 it acc env) R s:=by
 refine codeAny_loop rfl I (λn s hI=>?_) n h
 show wpAny _ _ ((compTurn (.ListComp elt [⟨target,iter,[],0⟩] scope pos) 0 it acc env).onRaise (λx=>do noteFrame x env;theTreesLotGoes x)) _ _ s
 refine wpAny_noted ?_
 rw[compTurn_list1]
 refine wpAny_bind (wpAny_standAt (wpAny_bind (wpAny_mono (turn n s hI) (λr s₁ h₁=>?_) λ_ _ h'=>h')))
 cases r with
 | none=>exact wpAny_pure h₁
 | some v =>
  refine wpAny_bind (wpAny_mono h₁ (λ_ s₁' h₁'=>?_) λ_ _ h'=>h')
  exact wpAny_bind (wpAny_mono h₁' (λ_ s₂ h₂=>wpAny_bind (wpAny_bind (wpAny_mono h₂ (λx s₃ h₃=>wpAny_bind (wpAny_mono h₃
   (λ_ s₄ h₄=>wpAny_pure (wpAny_pure ⟨rfl,h₄⟩)) λ_ _ h'=>h')) λ_ _ h'=>h'))) λ_ _ h'=>h')
section
variable {X:Cx} {N':List Str} {scope:Scope} {cl:List (Str × Addr)} {fp:List Addr} {pins:List (Addr × Obj)} {σ:St} {H:Hp} {s:Shared}
theorem ze2 (I:Inv X pins σ H s) (C:Clo X scope cl) (hkind:scope.kind=.function) (hf:∀ b∈fp,zcr X pins H b) (hlt:∀ b∈fp,b < s.heap.objs.size):(zaQ X N' scope cl fp s H).Ok where
 mod:=I.ok.mod
 kind:=hkind
 glob:=I.ok.glob
 blt:=I.ok.blt
 above:=nRq _
 inj:=λx y c h1 h2=>I.ok.inj x y c (C.sub x c h1) (C.sub y c h2)
 has:=λx h=>C.has x h
 cab:=λx c h=>by cases (show false=true from h)
 hd:=I.ok.hd
 frames:=I.ok.frames
 stk:=.inl rfl
 exf:=λb hb=>⟨Nat.ne_of_lt (hlt b hb),λx c h=>(hf b hb).2.2.2.2.1 x c (C.sub x c h)⟩
 bs:=λb o h=>I.bs b o h
 bsz:=Nat.le_trans I.ok.bsz I.sz
 noex:=λb o h hb=>by
  rcases(hf b hb).2.2.2.1 with z | z
  ·exact I.ok.noex b o h z
  ·exact absurd (Nat.lt_of_lt_of_le (Heap.lt_size h) (Nat.le_trans I.ok.bsz z)) (Nat.lt_irrefl _)
 exfs:=λb hb hs=>by
  rcases List.mem_cons.mp (I.stkSub b hs) with z | z
  ·exact(hf b hb).2.1 z
  ·exact(hf b hb).2.2.1 z
 funs:=I.stack
 frf:=I.stkFree
theorem zhp {ix:List Nat} {h₁:Heap} {t':Nat} {m:Str→Option Value} (I:Inv X pins σ H s) (C:Clo X scope cl) (hkind:scope.kind=.function) (hf:∀ b∈fp,zcr X pins H b) (hlt:∀ b∈fp,b < s.heap.objs.size)
  (hlen:N'.length=ix.length+1) (hix:∀(j i:Nat),ix[j]?=some i→∃ y,X.N[i]?=some y∧N'[j+1]?=some y∧(X.env.kindOf y=some .cell∨X.env.kindOf y=some .free)∧((relabel scope X.env).names.lookup y=some .cell∨(relabel scope X.env).names.lookup y=some .free))
  (hn:h₁.Ns s.heap.objs.size m) (hk:∀ b o,s.heap.get? b=some o→h₁.get? b=some o):Inv (zaQ X N' scope cl fp s H) [] (none :: fvs σ ix) H { s with heap:=h₁,toks:=t' }:=by
 have cellK:∀ x c,cl.lookup x=some c→∃ v,h₁.IsCell c v:=λx c h=>by
  obtain⟨v,o,ho,hd⟩:=I.cell x c (C.sub x c h)
  exact⟨v,o,hk c o ho,hd⟩
 refine⟨ze2 I C hkind hf hlt,rfl,I.bare,Un.kept hk,⟨m,hn,λi y v h1 h2 h3=>?_⟩,cellK,I.hok.fresh (nRq _),λx c h=>I.freeC x c (C.sub x c h),λp hp=>absurd (show p∈([]:List (Addr × Obj)) from hp) (by simp),I.hok.kept hk,?_⟩
 ·cases i with
  | zero=>cases (show some (none:Option V)=some (some v) from h2)
  | succ j =>
   have h2':(fvs σ ix)[j]?=some (some v):=h2
   unfold fvs at h2'
   rw[List.getElem?_map]at h2'
   cases e:ix[j]? with
   | none=>rw[e]at h2';cases h2'
   | some i =>
    rw[e]at h2'
    have h4:(σ[i]?).join=some v:=Option.some.inj h2'
    have h5:σ[i]?=some (some v):=by
     cases e':σ[i]? with
     | none=>rw[e']at h4;cases h4
     | some q =>
      rw[e']at h4
      have h6:q=some v:=h4
      rw[h6]
    obtain⟨y',n1,n2,k1,k2⟩:=hix j i e
    have ey:y'=y:=Option.some.inj (n2.symm.trans h1)
    subst ey
    obtain⟨m0,hn0,hl0⟩:=I.loc
    have hv0:Vis X.env.scope y':=k1.elim (λz=>.inr (.inl z)) λz=>.inr (.inr z)
    obtain⟨u,ru,l⟩:=hl0 i y' v n1 h5 hv0
    refine⟨u,ru,.inr ⟨k2,?_⟩⟩
    rcases l with ⟨k,_⟩ | ⟨_,c,ec,o,ho,hd⟩
    ·rcases k1 with z | z
     ·rw[z]at k;cases k
     ·rw[z]at k;cases k
    ·obtain⟨c',ec'⟩:=C.has y' k2
     have:c'=c:=Option.some.inj ((C.sub _ _ ec').symm.trans ec)
     subst this
     exact⟨c',ec',o,hk c' o ho,hd⟩
 ·show(none :: fvs σ ix:St).length=N'.length
  rw[hlen]
  simp [fvs]
theorem zg3 {σ':St} {H':Hp} {s':Shared} {h':Heap} (I:Inv X pins σ H s) (J:Inv (zaQ X N' scope cl fp s H) [] σ' H' s') (hf:∀ b∈fp,zcr X pins H b) (hs:Heap.SameBut s.heap.objs.size s'.heap h'):Inv X pins σ H' { s' with heap:=h' }:=by
 have ne:∀ b o,s.heap.get? b=some o→b≠s.heap.objs.size:=λb o e=>Nat.ne_of_lt (Heap.lt_size e)
 have eq:∀ b,b≠s.heap.objs.size→h'.get? b=s'.heap.get? b:=λb hb=>hs.2 b hb
 have B:=J.base
 have u:Un (frs X.stack) fp H H' s.heap h' :=
  ⟨λb o e n h1 h2=>(eq b (ne b o e)).trans (B.keep b o e n h1 h2),λb o e n h1 h2=>by
   obtain⟨sl,q⟩:=B.slot b o e n h1 h2
   exact⟨sl,(eq b (ne b o e)).trans q⟩,λb o e n h1=>B.free b o e n h1,λb o e h1=>by
   obtain⟨o',q⟩:=B.there b o e h1
   exact⟨o',(eq b (ne b o e)).trans q⟩,B.tups,B.frzs,B.tbls⟩
 have hfree:H' s.heap.objs.size=none:=J.free
 have hok:HOk X.prog X.w H' h':=λb ob e=>by
  refine(J.hok b ob e).stay (λc w' hc q=>(eq c ?_).trans q) (λ_ q=>q) λ_ _ q=>q
  rintro rfl
  rcases hc with z | z
  ·rw[←z,hfree]at e;cases e
  ·rw[hfree]at z;cases z
 exact I.call' (s':={ s' with heap:=h' }) (ch:=fp) J.os u hok J.bare λb hb=>⟨(hf b hb).2.2.2.1,(hf b hb).2.1,(hf b hb).2.2.2.2.1,(hf b hb).2.2.2.2.2⟩
end
section
variable {X:Cx} {N':List Str} {scope:Scope} {elt iter:Expr} {x:Str} {px pos:Pos} {wi:TI} {te:TE} {ix:List Nat}
theorem zjv (hc:X.calm=true) (hkind:scope.kind=.function) (hcell:∀ y∈scope.names,y.2≠.cell) (hnames:∀ y∈scope.names,y.2=.local→scope.names.lookup y.1=some .local) (hx:scope.names.lookup x=some .local)
  (hclo:X.Ok→∃ cl,Clo X scope cl) (hN:N'.Nodup) (hN0:N'[0]?=some x) (hlen:N'.length=ix.length+1)
  (hix:∀(j i:Nat),ix[j]?=some i→∃ y,X.N[i]?=some y∧N'[j+1]?=some y∧(X.env.kindOf y=some .cell∨X.env.kindOf y=some .free)∧((relabel scope X.env).names.lookup y=some .cell∨(relabel scope X.env).names.lookup y=some .free))
  (hi:PI X (.Name x px) iter wi) (he:∀ cl fp s₃ H₃,PE (zaQ X N' scope cl fp s₃ H₃) elt te) (hs:∀ v,foldedSetIterable iter X.env v=pure v) {use:Option (Value→Sem Unit)} {Qf:Value→Shared→Prop} {pins:List (Addr × Obj)} {s:Shared} {σ:St} {H:Hp} {Q:VK} {cp:Pos} (I:Inv X pins σ H s) (h:tLC wi ix te σ H Q)
  (fin:∀(cl:List (Str × Addr)) (fp:List Addr) (s3 s6:Shared) (H3 H5:Hp) (σ6:St) (D:Addr),Inv X pins σ H3 s3→Inv (zaQ X N' scope cl fp s3 H3) [] σ6 H5 s6→(∀ b∈fp,zcr X pins H3 b)→Q (.ref D) H5→compPost (model X.prog X.w) X.A X.xe use Qf (.ref D) s3.heap.objs.size (.ok .next) s6) :
  wpAny (model X.prog X.w) X.A (comprehension (.ListComp elt [⟨.Name x px,iter,[],0⟩] scope pos) scope X.env cp (newList []) false (eval iter X.env) use) Qf X.xe s:=by
 obtain⟨cl,C⟩:=hclo I.ok
 refine wpAny_comprehension_free rfl hs C.eq hkind hnames (thn (hi pins s σ H _ I h) λv s1 h1=>thn h1 λitv s2 h2=>?_)
 obtain⟨it,fp,tn,J,H2,e,I2,T,st2,f2,q2⟩:=h2
 subst e
 have hD:H2 s2.heap.objs.size=none:=I2.fresh
 obtain⟨W,⟨m0,w0⟩,turn⟩:=q2 s2.heap.objs.size hD
 refine wpAny_newObj_type (wpAny_newFunctionEnv hcell (by intro y hy;simp at hy) (λh₁ hns₁ hsb₁=>?_) hkind)
 dsimp only at hns₁ hsb₁ ⊢
 have I3:Inv X pins σ (upd H2 s2.heap.objs.size (.lst [])) { s2 with heap:=s2.heap.push { cls:=.type "list",data:=.seq ([]:List Value).toArray },toks:=s2.toks }:=I2.lnew .nil (Nat.zero_le _)
 generalize hs3:({ s2 with heap:=s2.heap.push { cls:=.type "list",data:=.seq ([]:List Value).toArray },toks:=s2.toks }:Shared)=s3 at I3
 have e3:s3.heap=s2.heap.push { cls:=.type "list",data:=.seq ([]:List Value).toArray }:=by rw[←hs3]
 generalize hDD:s2.heap.objs.size=D at *
 generalize hH3:upd H2 D (.lst [])=H3 at *
 have lt2:∀ b∈fp,b < s2.heap.objs.size:=λb hb=>by
  obtain⟨o,ho,_⟩:=T.obj 0 _ st2 b hb
  exact Heap.lt_size ho
 have neD:∀ b∈fp,b≠D:=λb hb=>by rw[←hDD];exact Nat.ne_of_lt (lt2 b hb)
 have f3:∀ b∈fp,zcr X pins H3 b:=λb hb=>⟨by rw[←hH3,aD (neD b hb)];exact(f2 b hb).1,(f2 b hb).2⟩
 have sz3:s3.heap.objs.size=D+1:=by rw[e3,Heap.size_push,hDD]
 have lt3:∀ b∈fp,b < s3.heap.objs.size:=λb hb=>by have q:=lt2 b hb;rw[sz3];rw[hDD]at q;exact Nat.lt_succ_of_lt q
 have old:∀ b o,s3.heap.get? b=some o→h₁.get? b=some o:=λb o eb=>by
  have hb:b < D+1:=by rw[←sz3];exact Heap.lt_size eb
  refine hsb₁.extBut b o ?_ (Heap.get?_push_of_some _ (by rw[←e3];exact eb))
  rw[Heap.size_push,hDD]
  exact Nat.ne_of_lt hb
 have szC:(s2.heap.push { cls:=.type "list",data:=.seq ([]:List Value).toArray }).objs.size=s3.heap.objs.size:=by rw[e3]
 have os3:s3.os=s2.os:=by rw[←hs3]
 rw[szC]at hns₁ hsb₁
 have I4:Inv (zaQ X N' scope cl fp s3 H3) [] (none :: fvs σ ix) H3 { s3 with heap:=h₁,toks:=s2.toks+([]:List (Str × Value)).length }:=zhp I3 C hkind f3 lt3 hlen hix hns₁ old
 have st4:tn 0 h₁:=T.keep 0 _ _ st2 λb hb o eb=>old b o (by rw[e3];exact Heap.get?_push_of_some _ eb)
 have stat:∀ {H':Hp},(∀ b∈fp,H' b=none)→∀ b∈fp,zcr (zaQ X N' scope cl fp s3 H3) [] H' b:=λhn b hb =>
  ⟨hn b hb,Nat.ne_of_lt (lt3 b hb),λhs'=>(ze2 (N':=N') I3 C hkind f3 lt3).exfs b hb hs',.inl hb,λy c hy=>((ze2 (N':=N') I3 C hkind f3 lt3).exf b hb).2 y c hy,λp hp=>absurd (show p∈([]:List (Addr × Obj)) from hp) (by simp)⟩
 have loop:∀ s4:Shared,s4={ s3 with heap:=h₁,toks:=s2.toks+([]:List (Str × Value)).length } →
   codeAny (model X.prog X.w) X.A (.compLoop (.ListComp elt [⟨.Name x px,iter,[],0⟩] scope pos) 0 (.ref it) (.ref D) (compEnvC scope cl s3.heap.objs.size X.env))
    (compPost (model X.prog X.w) X.A X.xe use Qf (.ref D) s3.heap.objs.size) s4:=by
  rintro s4 rfl
  refine zjd (λn s'=>∃ i σ0 H' ys,Inv (zaQ X N' scope cl fp s3 H3) [] (σ0 :: fvs σ ix) H' s'∧tn i s'.heap∧(∀ b∈fp,H' b=none)∧W i n ys H') ?_ m0 ⟨0,none,H3,[],I4,st4,λb hb=>(f3 b hb).1,w0⟩
  rintro n s5 ⟨i,σ0,H5,ys,I5,st5,fr5,w5⟩
  obtain⟨hD5,alt⟩:=turn i n ys H5 w5
  rcases alt with ⟨stop,q⟩ | ⟨go,step⟩
  ·refine thn (T.done (zaQ X N' scope cl fp s3 H3) rfl rfl rfl hc i [] s5 _ H5 _ I5 (stat fr5) st5 stop) λr s6 ⟨hr,I6⟩=>?_
   subst hr
   exact fin cl fp s3 s6 H3 H5 _ D I3 I6 f3 q
  ·refine thn (T.item (zaQ X N' scope cl fp s3 H3) rfl rfl rfl hc i [] s5 _ H5 _ I5 (stat fr5) st5 go) λr s6 ⟨u,hr,h6⟩=>?_
   subst hr
   refine thn h6 λ_ s7 ⟨y7,H7,I7,r7,yl7,st7,fr7⟩=>?_
   have I7':=I7.pinned (stat fr7) (T.obj _ _ st7)
   have G:PG (zaQ X N' scope cl fp s3 H3) (.Name x px) (zda 0):=zac hN hN0 (.inl (lookup_relabel_local hx)) (.inr (lookup_relabel_local hx))
   refine wpAny_mono (G _ s7 _ H7 y7 u (λσ' H'=>σ'=some y7 :: fvs σ ix∧H'=H7) I7' r7 ⟨rfl,rfl⟩) (λ_ s8 h8=>?_) λ_ _ f=>False.elim f
   obtain⟨σ8,H8,I8,rfl,rfl⟩:=h8
   refine wpAny_mono (he cl fp s3 H3 _ s8 _ H8 _ I8 (step y7 H8 yl7)) (λyv s9 h9=>?_) λ_ _ f=>False.elim f
   obtain⟨y9,H9,I9,r9,hD9,hl9,m',hm',w9⟩:=h9
   refine wpAny_mono (zaE (X:=zaQ X N' scope cl fp s3 H3) _ s9 _ H9 (.ref D) [y9] (.ref D) [yv] (λ_ H'=>H'=upd H9 D (.lst (ys++[y9]))) I9 rfl (.cons r9 .nil) ⟨D,ys,y9,rfl,rfl,hD9,hl9,rfl⟩) (λ_ s10 h10=>?_) λ_ _ f=>False.elim f
   obtain⟨_,H10,I10,_,rfl⟩:=h10
   refine⟨m',hm',i+1,some y7,_,ys++[y9],I10.unpinned,T.keep _ _ _ st7 λb hb o eb=>(I10.pin (b,o) (List.mem_append_right _ (List.mem_append_right _ (zcU hb eb)))).1,λb hb=>?_,w9⟩
   obtain⟨o,eb,d⟩:=T.obj _ _ st7 b hb
   exact(I10.pin (b,o) (List.mem_append_right _ (List.mem_append_right _ (zcU hb eb)))).2.1
 subst hs3
 have fin':=codeAny_compStart_list (loop _ rfl) (T.self X.A 0 _ _ _ st4 (loop _ rfl))
 exact fin'
theorem zbQ (hc:X.calm=true) (hkind:scope.kind=.function) (hcell:∀ y∈scope.names,y.2≠.cell) (hnames:∀ y∈scope.names,y.2=.local→scope.names.lookup y.1=some .local) (hx:scope.names.lookup x=some .local)
  (hclo:X.Ok→∃ cl,Clo X scope cl) (hN:N'.Nodup) (hN0:N'[0]?=some x) (hlen:N'.length=ix.length+1)
  (hix:∀(j i:Nat),ix[j]?=some i→∃ y,X.N[i]?=some y∧N'[j+1]?=some y∧(X.env.kindOf y=some .cell∨X.env.kindOf y=some .free)∧((relabel scope X.env).names.lookup y=some .cell∨(relabel scope X.env).names.lookup y=some .free))
  (hi:PI X (.Name x px) iter wi) (he:∀ cl fp s₃ H₃,PE (zaQ X N' scope cl fp s₃ H₃) elt te) (hs:∀ v,foldedSetIterable iter X.env v=pure v:=by intro _;rfl) :
  PE X (.ListComp elt [⟨.Name x px,iter,[],0⟩] scope pos) (tLC wi ix te):=by
 intro pins s σ H Q I h
 rw[eval_ListComp]
 refine zjv hc hkind hcell hnames hx hclo hN hN0 hlen hix hi he hs I h λcl fp s3 s6 H3 H5 σ6 D I3 I6 f3 q=>?_
 obtain⟨m,hn,_⟩:=I6.loc
 exact⟨m,hn,λh' hsb=>⟨.ref D,H5,zg3 I3 I6 f3 hsb,rfl,q⟩⟩
end
end L2
namespace L2
open PySem PySem.Spec PyProof.Rows
section
variable {X:Cx} {e l:Expr} {es:List Expr} {te tl:TE} {pos:Pos} {tg:Expr}
def tFmt (te:TE):TE:=λσ H Q=>te σ H λx H1=>(∃ z,x=.str z∧z.length≤sizeLine∧Q (.str z) H1)∨∃ i:Int,x=.int i∧i.natAbs.log2 < 1920∧Q (.str (toString i)) H1
theorem zfb (he:PE X e te):PE X (.FormattedValue e (-1) none pos) (tFmt te):=by
 intro pins s σ H Q I h
 refine FormattedValue_plain (thn (he pins s σ H _ I h) λv s1 ⟨x,H1,I1,r1,q1⟩=>?_)
 rcases q1 with ⟨z,rfl,hz,q⟩ | ⟨i,rfl,hi,q⟩
 ·obtain⟨t,rfl⟩:=r1
  exact formatField_str (λt' tk=>⟨.str z,H1,I1.tok _,⟨_,rfl⟩,q⟩) hz
 ·obtain⟨t,rfl⟩:=r1
  exact formatField_int_small hi ⟨.str _,H1,I1.tok _,⟨_,rfl⟩,q⟩
def tRepr (te:TE):TE:=λσ H Q=>te σ H λx H1=>∃ z,x=.str z∧(reprText z).length≤sizeLine∧Q (.str (reprText z)) H1
theorem pe_fvr (he:PE X e te):PE X (.FormattedValue e 114 none pos) (tRepr te):=by
 intro pins s σ H Q I h
 refine wpAny_FormattedValue_repr (thn (he pins s σ H _ I h) λv s1 ⟨x,H1,I1,r1,q1⟩=>?_)
 obtain⟨z,rfl,hz,q⟩:=q1
 obtain⟨t,rfl⟩:=r1
 refine wpAny_pyReprObj_str ?_ hz
 exact formatField_str (λt' tk=>⟨.str (reprText z),H1,I1.tok _,⟨_,rfl⟩,q⟩) hz
abbrev TJ:=St→Hp→Str→(Str→Hp→Prop)→Prop
def PJ (X:Cx) (es:List Expr) (t:TJ):Prop :=
 ∀(pins:List (Addr × Obj)) (s:Shared) (σ:St) (H:Hp) (acc:Str) (Q:Str→Hp→Prop) (R:Str→Shared→Prop),Inv X pins σ H s→t σ H acc Q→(∀ out s1 H1,Inv X pins σ H1 s1→Q out H1→R out s1)→Joins (model X.prog X.w) X.A X.xe (evalEach es X.env) acc R s
def jNil:TJ:=λ_ H acc Q=>Q acc H
def jCons (te:TE) (t:TJ):TJ:=λσ H acc Q=>te σ H λx H1=>∃ y,x=.str y∧(acc++y).length≤sizeLine∧t σ H1 (acc++y) Q
theorem zeg:PJ X [] jNil:=λ_ _ _ _ _ _ _ I h k=>k _ _ _ I h
theorem zaZ {t:TJ} (he:PE X e te) (hr:PJ X es t):PJ X (e :: es) (jCons te t):=by
 intro pins s σ H acc Q R I h k
 refine thn (he pins s σ H _ I h) λv s1 ⟨x,H1,I1,r1,q1⟩=>?_
 obtain⟨y,rfl,hz,q⟩:=q1
 obtain⟨t,rfl⟩:=r1
 exact⟨y,_,rfl,hz,hr pins s1 σ H1 _ Q R I1 q k⟩
def zmd (t:TJ):TE:=λσ H Q=>t σ H Str.empty λout H1=>out.length≤sizeLine∧Q (.str out) H1
theorem zcI {v1 v2:Expr} {t:TJ} (h:PJ X (v1 :: v2 :: es) t):PE X (.JoinedStr (v1 :: v2 :: es) pos) (zmd t):=by
 intro pins s σ H Q I hw
 exact wpAny_JoinedStr (h pins s σ H _ _ _ I hw λout s1 H1 I1 q=>⟨q.1,.str out,H1,I1.tok _,⟨_,rfl⟩,q.2⟩)
def iSeq (K:W.Frag) (tl:TE):TI:=λσ H R=>tl σ H λx H1=>∃ a,x=.ref a∧(((∃ xs,SqL K H1 a xs)∧R (Itl K a) H1)∨((∃ xs,SqT K H1 a xs)∧R (Itt K a) H1))
theorem zhc (hl:PE X l tl):PI X tg l (iSeq X.K tl):=by
 intro pins s σ H R I h
 refine thn (hl pins s σ H _ I h) λv s1 ⟨x,H1,I1,r1,q1⟩=>?_
 obtain⟨a,rfl,q⟩:=q1
 cases r1
 have fp:∀ b∈[s1.heap.objs.size],zcr X pins H1 b:=λb hb=>by
  have e:b=s1.heap.objs.size:=by simpa using hb
  subst e
  exact I1.fpOk (nRq _) (I1.hok.fresh (nRq _))
 rcases q with ⟨⟨xs,hq⟩,q⟩ | ⟨⟨xs,hq⟩,q⟩
 ·obtain⟨its,rv,p,hz⟩:=I1.list hq
  refine wpAny_pyIter_list p.isList ?_
  exact⟨s1.heap.objs.size,[s1.heap.objs.size],_,_,H1,rfl,I1.kept (t':=s1.toks) λb o e=>Heap.get?_push_of_some _ e,zfK a _,⟨_,Heap.get?_push_size _ rfl,rfl,rfl⟩,fp,q⟩
 ·obtain⟨its,rv,p,hz⟩:=I1.tuple hq
  refine wpAny_pyIter_tuple (show s1.heap.IsTuple a its.toArray from p) ?_
  exact⟨s1.heap.objs.size,[s1.heap.objs.size],_,_,H1,rfl,I1.kept (t':=s1.toks) λb o e=>Heap.get?_push_of_some _ e,zfr a _,⟨_,Heap.get?_push_size _ rfl,rfl,rfl⟩,fp,q⟩
end
theorem zg4 {env:Env}:∀(l:List (Str × NameKind)) (acc:List (Str × Addr)),(∀ y∈l,y.2=.free→∃ c,env.cells.lookup y.1=some c) →
  ∃ cl,(forIn l acc (λ(y:Str × NameKind) cs=>if(y.2 == NameKind.free)=true then do let c ←cellOf env y.1;pure (ForInStep.yield ((y.1,c) :: cs)) else pure (ForInStep.yield cs)):Sem (List (Str × Addr)))=pure cl ∧
   (∀ y c,cl.lookup y=some c→acc.lookup y=some c∨env.cells.lookup y=some c)∧∀ y,((y,NameKind.free)∈l∨∃ c,acc.lookup y=some c)→∃ c,cl.lookup y=some c
 | [],acc,_=>⟨acc,rfl,λ_ _ h=>.inl h,λy h=>h.elim (λz=>by cases z) λz=>z⟩
 | (n,k) :: r,acc,hf=>by
  by_cases hk:k=.free
  ·subst hk
   obtain⟨c,hc⟩:=hf (n,.free) List.mem_cons_self rfl
   obtain⟨cl,e1,e2,e3⟩:=zg4 r ((n,c) :: acc) λy hy=>hf y (List.mem_cons_of_mem _ hy)
   refine⟨cl,?_,λy d h=>?_,λy h=>?_⟩
   ·rw[List.forIn_cons]
    have ec:cellOf env n=pure c:=by unfold cellOf;rw[show env.cells.lookup n=some c from hc]
    have eb:(NameKind.free == NameKind.free)=true:=rfl
    simp only[eb,if_true,ec,pure_bind]
    exact e1
   ·rcases e2 y d h with z | z
    ·by_cases hy:y=n
     ·subst hy
      rw[List.lookup_cons,beq_self_eq_true]at z
      cases z
      exact .inr hc
     ·rw[List.lookup_cons,beq_eq_false_iff_ne.mpr hy]at z
      exact .inl z
    ·exact .inr z
   ·refine e3 y ?_
    by_cases hy:y=n
    ·subst hy
     exact .inr ⟨c,by rw[List.lookup_cons,beq_self_eq_true]⟩
    ·rcases h with z | ⟨d,z⟩
     ·rcases List.mem_cons.mp z with z | z
      ·exact absurd (congrArg Prod.fst z) hy
      ·exact .inl z
     ·exact .inr ⟨d,by rw[List.lookup_cons,beq_eq_false_iff_ne.mpr hy];exact z⟩
  ·obtain⟨cl,e1,e2,e3⟩:=zg4 r acc λy hy=>hf y (List.mem_cons_of_mem _ hy)
   refine⟨cl,?_,e2,λy h=>e3 y ?_⟩
   ·rw[List.forIn_cons]
    have hb:(k == NameKind.free)=false:=by simpa using hk
    simp only[hb,Bool.false_eq_true,if_false,pure_bind]
    exact e1
   ·rcases h with z | z
    ·rcases List.mem_cons.mp z with z | z
     ·exact absurd (congrArg Prod.snd z).symm hk
     ·exact .inl z
    ·exact .inr z
theorem zc4 {X:Cx} {scope sc:Scope} (ok:X.Ok) (hsc:X.env.scope=sc) (hcell:∀ x∈scope.names,x.2≠.cell)
  (hf:∀ y∈scope.names,y.2=.free→sc.names.lookup y.1=some .cell∨sc.names.lookup y.1=some .free):∃ cl,Clo X scope cl:=by
 obtain⟨cl,e1,e2,e3⟩:=zg4 (env:=X.env) scope.names [] λy hy h=>ok.has y.1 (by
  show X.env.scope.names.lookup y.1=_∨X.env.scope.names.lookup y.1=_
  rw[hsc]
  exact hf y hy h)
 refine⟨cl,?_,λy c h=>(e2 y c h).elim (λz=>by cases z) λz=>z,λy h=>e3 y (.inl ?_)⟩
 ·unfold closureFor
  have e0:(forIn scope.names ([]:List (Str × Addr)) (λ(x:Str × NameKind) cs=>match x with
    | (name,kind)=>if(kind == NameKind.free)=true then do let c ←cellOf X.env name;pure (ForInStep.yield ((name,c) :: cs)) else pure (ForInStep.yield cs)):Sem (List (Str × Addr)))=pure cl:=e1
  show(forIn scope.names ([]:List (Str × Addr)) _ >>= λz=>pure z)=pure cl
  rw[bind_pure]
  exact e0
 ·have m:∃ k,(k=.cell∨k=.free)∧(y,k)∈(relabel scope X.env).names:=by
   rcases h with h | h
   ·exact⟨_,.inl rfl,PySem.mem_of_lookup h⟩
   ·exact⟨_,.inr rfl,PySem.mem_of_lookup h⟩
  obtain⟨k,hk,hm⟩:=m
  unfold relabel at hm
  obtain⟨⟨n0,k0⟩,h0,ez⟩:=List.mem_map.mp hm
  by_cases hc:(k0 == NameKind.free&&X.env.scope.kind == .function&&X.env.kindOf n0 == some .cell)=true
  ·dsimp only at ez
   rw[if_pos hc]at ez
   have en:n0=y:=congrArg Prod.fst ez
   have ef:k0=.free:=by
    rw[Bool.and_eq_true,Bool.and_eq_true]at hc
    simpa using hc.1.1
   rw[en,ef]at h0
   exact h0
  ·dsimp only at ez
   rw[if_neg hc]at ez
   have en:n0=y:=congrArg Prod.fst ez
   have ek:k0=k:=congrArg Prod.snd ez
   rw[en,ek]at h0
   rcases hk with z | z
   ·exact absurd z (hcell _ h0)
   ·rw[z]at h0
    exact h0
def tLCI (wi:TI) (ix:List Nat) (tc:TT) (te:TE):TE:=λσ H Q=>wi σ H λJ H1=>∀ D,H1 D=none →
 ∃ W:Nat→Nat→List V→Hp→Prop,(∃ m,W 0 m [] (upd H1 D (.lst []))) ∧
  ∀ i m ys H',W i m ys H'→H' D=some (.lst ys) ∧
   ((J.stop i H'∧Q (.ref D) H')∨(J.go i H'∧∀ x H'',J.yld i H' x H''→tc (some x :: fvs σ ix) H'' λb H3 =>
    if b=true then te (some x :: fvs σ ix) H3 λy H4=>H4 D=some (.lst ys)∧ys.length < sizeLine∧∃ m',m' < m∧W (i+1) m' (ys++[y]) (upd H4 D (.lst (ys++[y])))
    else ∃ m',m' < m∧W (i+1) m' ys H3))
theorem ziZ {prog:Program} {w:World} {A:Around} {R:Result→Shared→Prop} {s:Shared} {elt target iter c:Expr} {scope:Scope} {pos:Pos} {it acc:Value} {env:Env} (J:Nat→Shared→Prop)
  (step:∀ n s,J n s→wpAny (model prog w) A (pyNext it) (λr s1=>match r with
   | none=>R (.ok .next) s1
   | some v=>wpAny (model prog w) A (letOwnedTupleGo target it v) (λ_ s2=>wpAny (model prog w) A (assign target env v) (λ_ s3=>wpAny (model prog w) A (isTrue c env (eval c env)) (λb s4=>if b=true then wpAny (model prog w) A (eval elt env) (λx s5 =>
     wpAny (model prog w) A (call (.builtin "list.append") [acc,x]) (λ_ s6=>∃ m,m < n∧J m s6) (notedBy (model prog w) A env λe s'=>R (.error e) s') s5) (notedBy (model prog w) A env λe s'=>R (.error e) s') s4
     else ∃ m,m < n∧J m s4) (notedBy (model prog w) A env λe s'=>R (.error e) s') s3)
     (notedBy (model prog w) A env λe s'=>R (.error e) s') s2) (notedBy (model prog w) A env λe s'=>R (.error e) s') s1) (notedBy (model prog w) A env λe s'=>R (.error e) s') s)
  (n:Nat) (h0:J n s):codeAny (model prog w) A (.compLoop (.ListComp elt [⟨target,iter,[c],0⟩] scope pos) 0 it acc env) R s:=by
 refine codeAny_loop rfl J (λn s hJ=>?_) n h0
 show wpAny _ A ((compTurn (.ListComp elt [⟨target,iter,[c],0⟩] scope pos) 0 it acc env).onRaise (λx=>do noteFrame x env;theTreesLotGoes x)) _ _ s
 refine wpAny_noted ?_
 rw[compTurn_list]
 refine wpAny_bind (wpAny_standAt (wpAny_bind (wpAny_mono (step n s hJ) (λr s1 h1=>?_) λ_ _ z=>z)))
 cases r with
 | none=>exact wpAny_pure h1
 | some v =>
  refine wpAny_bind (wpAny_mono h1 (λ_ s2 h2=>?_) λ_ _ z=>z)
  refine wpAny_bind (wpAny_mono h2 (λ_ s3 h3=>?_) λ_ _ z=>z)
  refine wpAny_bind ?_
  rw[List.forIn_cons]
  refine wpAny_bind ?_
  rw[if_pos rfl]
  refine wpAny_bind (wpAny_mono h3 (λb s4 h4=>wpAny_pure ?_) λ_ _ z=>z)
  show wpAny _ A (forIn ([]:List Expr) b _) _ _ s4
  rw[List.forIn_nil]
  refine wpAny_pure ?_
  cases b with
  | false=>exact wpAny_pure ⟨rfl,h4⟩
  | true=>exact wpAny_bind (wpAny_bind (wpAny_mono h4 (λx s5 h5=>wpAny_bind (wpAny_mono h5 (λ_ s6 h6=>wpAny_pure (wpAny_pure ⟨rfl,h6⟩)) λ_ _ z=>z)) λ_ _ z=>z))
section
variable {X:Cx} {N':List Str} {scope:Scope} {elt iter c:Expr} {x:Str} {px pos:Pos} {wi:TI} {tc:TT} {te:TE} {ix:List Nat}
theorem zhe (hc:X.calm=true) (hkind:scope.kind=.function) (hcell:∀ y∈scope.names,y.2≠.cell) (hnames:∀ y∈scope.names,y.2=.local→scope.names.lookup y.1=some .local) (hx:scope.names.lookup x=some .local)
  (hclo:X.Ok→∃ cl,Clo X scope cl) (hN:N'.Nodup) (hN0:N'[0]?=some x) (hlen:N'.length=ix.length+1)
  (hix:∀(j i:Nat),ix[j]?=some i→∃ y,X.N[i]?=some y∧N'[j+1]?=some y∧(X.env.kindOf y=some .cell∨X.env.kindOf y=some .free)∧((relabel scope X.env).names.lookup y=some .cell∨(relabel scope X.env).names.lookup y=some .free))
  (hi:PI X (.Name x px) iter wi) (ht:∀ cl fp s₃ H₃,PT (zaQ X N' scope cl fp s₃ H₃) c tc) (he:∀ cl fp s₃ H₃,PE (zaQ X N' scope cl fp s₃ H₃) elt te) (hs:∀ v,foldedSetIterable iter X.env v=pure v:=by intro _;rfl) :
  PE X (.ListComp elt [⟨.Name x px,iter,[c],0⟩] scope pos) (tLCI wi ix tc te):=by
 intro pins s σ H Q I h
 obtain⟨cl,C⟩:=hclo I.ok
 rw[eval_ListComp]
 refine wpAny_comprehension_free (use:=none) rfl hs C.eq hkind hnames (thn (hi pins s σ H _ I h) λv s1 h1=>thn h1 λitv s2 h2=>?_)
 obtain⟨it,fp,tn,J,H2,e,I2,T,st2,f2,q2⟩:=h2
 subst e
 have hD:H2 s2.heap.objs.size=none:=I2.fresh
 obtain⟨W,⟨m0,w0⟩,turn⟩:=q2 s2.heap.objs.size hD
 refine wpAny_newObj_type (wpAny_newFunctionEnv hcell (by intro y hy;simp at hy) (λh₁ hns₁ hsb₁=>?_) hkind)
 dsimp only at hns₁ hsb₁ ⊢
 have I3:Inv X pins σ (upd H2 s2.heap.objs.size (.lst [])) { s2 with heap:=s2.heap.push { cls:=.type "list",data:=.seq ([]:List Value).toArray },toks:=s2.toks }:=I2.lnew .nil (Nat.zero_le _)
 generalize hs3:({ s2 with heap:=s2.heap.push { cls:=.type "list",data:=.seq ([]:List Value).toArray },toks:=s2.toks }:Shared)=s3 at I3
 have e3:s3.heap=s2.heap.push { cls:=.type "list",data:=.seq ([]:List Value).toArray }:=by rw[←hs3]
 generalize hDD:s2.heap.objs.size=D at *
 generalize hH3:upd H2 D (.lst [])=H3 at *
 have lt2:∀ b∈fp,b < s2.heap.objs.size:=λb hb=>by
  obtain⟨o,ho,_⟩:=T.obj 0 _ st2 b hb
  exact Heap.lt_size ho
 have neD:∀ b∈fp,b≠D:=λb hb=>by rw[←hDD];exact Nat.ne_of_lt (lt2 b hb)
 have f3:∀ b∈fp,zcr X pins H3 b:=λb hb=>⟨by rw[←hH3,aD (neD b hb)];exact(f2 b hb).1,(f2 b hb).2⟩
 have sz3:s3.heap.objs.size=D+1:=by rw[e3,Heap.size_push,hDD]
 have lt3:∀ b∈fp,b < s3.heap.objs.size:=λb hb=>by have q:=lt2 b hb;rw[sz3];rw[hDD]at q;exact Nat.lt_succ_of_lt q
 have old:∀ b o,s3.heap.get? b=some o→h₁.get? b=some o:=λb o eb=>by
  have hb:b < D+1:=by rw[←sz3];exact Heap.lt_size eb
  refine hsb₁.extBut b o ?_ (Heap.get?_push_of_some _ (by rw[←e3];exact eb))
  rw[Heap.size_push,hDD]
  exact Nat.ne_of_lt hb
 have szC:(s2.heap.push { cls:=.type "list",data:=.seq ([]:List Value).toArray }).objs.size=s3.heap.objs.size:=by rw[e3]
 rw[szC]at hns₁ hsb₁
 have I4:Inv (zaQ X N' scope cl fp s3 H3) [] (none :: fvs σ ix) H3 { s3 with heap:=h₁,toks:=s2.toks+([]:List (Str × Value)).length }:=zhp I3 C hkind f3 lt3 hlen hix hns₁ old
 have st4:tn 0 h₁:=T.keep 0 _ _ st2 λb hb o eb=>old b o (by rw[e3];exact Heap.get?_push_of_some _ eb)
 have stat:∀ {H':Hp},(∀ b∈fp,H' b=none)→∀ b∈fp,zcr (zaQ X N' scope cl fp s3 H3) [] H' b:=λhn b hb =>
  ⟨hn b hb,Nat.ne_of_lt (lt3 b hb),λhs'=>(ze2 (N':=N') I3 C hkind f3 lt3).exfs b hb hs',.inl hb,λy c hy=>((ze2 (N':=N') I3 C hkind f3 lt3).exf b hb).2 y c hy,λp hp=>absurd (show p∈([]:List (Addr × Obj)) from hp) (by simp)⟩
 have loop:∀ s4:Shared,s4={ s3 with heap:=h₁,toks:=s2.toks+([]:List (Str × Value)).length } →
   codeAny (model X.prog X.w) X.A (.compLoop (.ListComp elt [⟨.Name x px,iter,[c],0⟩] scope pos) 0 (.ref it) (.ref D) (compEnvC scope cl s3.heap.objs.size X.env))
    (compPost (model X.prog X.w) X.A X.xe none (EP X pins σ Q) (.ref D) s3.heap.objs.size) s4:=by
  rintro s4 rfl
  refine ziZ (λn s'=>∃ i σ0 H' ys,Inv (zaQ X N' scope cl fp s3 H3) [] (σ0 :: fvs σ ix) H' s'∧tn i s'.heap∧(∀ b∈fp,H' b=none)∧W i n ys H') ?_ m0 ⟨0,none,H3,[],I4,st4,λb hb=>(f3 b hb).1,w0⟩
  rintro n s5 ⟨i,σ0,H5,ys,I5,st5,fr5,w5⟩
  obtain⟨hD5,alt⟩:=turn i n ys H5 w5
  rcases alt with ⟨stop,q⟩ | ⟨go,step⟩
  ·refine thn (T.done (zaQ X N' scope cl fp s3 H3) rfl rfl rfl hc i [] s5 _ H5 _ I5 (stat fr5) st5 stop) λr s6 ⟨hr,I6⟩=>?_
   subst hr
   obtain⟨m,hn,_⟩:=I6.loc
   exact⟨m,hn,λh' hsb=>⟨.ref D,H5,zg3 I3 I6 f3 hsb,rfl,q⟩⟩
  ·refine thn (T.item (zaQ X N' scope cl fp s3 H3) rfl rfl rfl hc i [] s5 _ H5 _ I5 (stat fr5) st5 go) λr s6 ⟨u,hr,h6⟩=>?_
   subst hr
   refine thn h6 λ_ s7 ⟨y7,H7,I7,r7,yl7,st7,fr7⟩=>?_
   have I7':=I7.pinned (stat fr7) (T.obj _ _ st7)
   have G:PG (zaQ X N' scope cl fp s3 H3) (.Name x px) (zda 0):=zac hN hN0 (.inl (lookup_relabel_local hx)) (.inr (lookup_relabel_local hx))
   refine wpAny_mono (G _ s7 _ H7 y7 u (λσ' H'=>σ'=some y7 :: fvs σ ix∧H'=H7) I7' r7 ⟨rfl,rfl⟩) (λ_ s8 h8=>?_) λ_ _ f=>False.elim f
   obtain⟨σ8,H8,I8,rfl,rfl⟩:=h8
   have fin:∀ {σ9:Option V} {H9:Hp} {s9:Shared} {zs:List V} {m':Nat},Inv (zaQ X N' scope cl fp s3 H3) ([]++zfF fp s7.heap) (σ9 :: fvs σ ix) H9 s9→m' < n→W (i+1) m' zs H9→∃ m,m < n∧∃ i σ0 H' ys,Inv (zaQ X N' scope cl fp s3 H3) [] (σ0 :: fvs σ ix) H' s9∧tn i s9.heap∧(∀ b∈fp,H' b=none)∧W i m ys H':=λ{σ9 H9 s9 zs m'} I9 hm' w9=>by
    refine⟨m',hm',i+1,σ9,H9,zs,I9.unpinned,T.keep _ _ _ st7 λb hb o eb=>(I9.pin (b,o) (List.mem_append_right _ (List.mem_append_right _ (zcU hb eb)))).1,λb hb=>?_,w9⟩
    obtain⟨o,eb,d⟩:=T.obj _ _ st7 b hb
    exact(I9.pin (b,o) (List.mem_append_right _ (List.mem_append_right _ (zcU hb eb)))).2.1
   refine wpAny_mono (ht cl fp s3 H3 _ s8 _ H8 _ I8 (step y7 H8 yl7)) (λb s9 h9=>?_) λ_ _ f=>False.elim f
   obtain⟨H9,I9,q9⟩:=h9
   cases b with
   | false =>
    obtain⟨m',hm',w9⟩:=q9
    exact fin I9 hm' w9
   | true =>
    refine wpAny_mono (he cl fp s3 H3 _ s9 _ H9 _ I9 q9) (λyv s10 h10=>?_) λ_ _ f=>False.elim f
    obtain⟨y10,H10,I10,r10,hD10,hl10,m',hm',w10⟩:=h10
    refine wpAny_mono (zaE (X:=zaQ X N' scope cl fp s3 H3) _ s10 _ H10 (.ref D) [y10] (.ref D) [yv] (λ_ H'=>H'=upd H10 D (.lst (ys++[y10]))) I10 rfl (.cons r10 .nil) ⟨D,ys,y10,rfl,rfl,hD10,hl10,rfl⟩) (λ_ s11 h11=>?_) λ_ _ f=>False.elim f
    obtain⟨_,H11,I11,_,rfl⟩:=h11
    exact fin I11 hm' w10
 subst hs3
 have fin:=codeAny_compStart_list (loop _ rfl) (T.self X.A 0 _ _ _ st4 (loop _ rfl))
 exact fin
end
end L2
namespace L2
open PySem PySem.Spec PyProof.Rows
theorem Inv.skip {X:Cx} {pins:List (Addr × Obj)} {σ:St} {H:Hp} {s:Shared} {h':Heap} {C:Addr} (I:Inv X pins σ H s) (hs:Heap.SameBut C s.heap h') (hC:X.s₀.heap.objs.size≤C) (hl:C≠X.env.locals) (hcl:∀ x c,X.env.cells.lookup x=some c→c≠C) (hp:∀ p∈X.pn++pins,p.1≠C) (hf:H C=none) :
  Inv X pins σ H { s with heap:=h' }:=by
 have eq:∀ b,b≠C→h'.get? b=s.heap.get? b:=λb hb=>hs.2 b hb
 have nm:∀ {b:Addr},b∉[C]→b≠C:=λh z=>h (by rw[z];exact List.mem_cons_self)
 have u:Un (frs X.stack) [C] H H s.heap h':=⟨λb o e _ _ h2=>(eq b (nm h2)).trans e,λb o e _ _ h2=>⟨o.slots,(eq b (nm h2)).trans e⟩,λb o e n _=>n,λb o e h1=>⟨o,(eq b (nm h1)).trans e⟩,λ_ _ q=>q,λ_ _ _ q=>q,λ_ ps q=>⟨#[],by rw[q];simp⟩⟩
 have hok:HOk X.prog X.w H h':=λb ob e=>by
  refine(I.hok b ob e).stay (λc w' hq q=>(eq c ?_).trans q) (λ_ q=>q) λ_ _ q=>q
  rintro rfl
  rcases hq with z | z
  ·rw[←z,hf]at e;cases e
  ·rw[hf]at z;cases z
 refine I.call' (s':={ s with heap:=h' }) (ch:=[C]) rfl u hok I.bare λb hb=>?_
 have e:b=C:=mSq hb
 subst e
 exact⟨.inr hC,hl,hcl,hp⟩
section
variable {X:Cx} {N':List Str} {scope:Scope} {elt iter:Expr} {x:Str} {px pos:Pos} {wi:TI} {te:TE} {ix:List Nat}
theorem zfm {i:Nat} {y0:Str} {py spos:Pos} (hNy:X.N.Nodup) (hiy:X.N[i]?=some y0) (hy:Loc X.env.scope y0) (hc:X.calm=true) (hkind:scope.kind=.function) (hcell:∀ y∈scope.names,y.2≠.cell) (hnames:∀ y∈scope.names,y.2=.local→scope.names.lookup y.1=some .local) (hx:scope.names.lookup x=some .local)
  (hclo:X.Ok→∃ cl,Clo X scope cl) (hN:N'.Nodup) (hN0:N'[0]?=some x) (hlen:N'.length=ix.length+1)
  (hix:∀(j i:Nat),ix[j]?=some i→∃ y,X.N[i]?=some y∧N'[j+1]?=some y∧(X.env.kindOf y=some .cell∨X.env.kindOf y=some .free)∧((relabel scope X.env).names.lookup y=some .cell∨(relabel scope X.env).names.lookup y=some .free))
  (hi:PI X (.Name x px) iter wi) (he:∀ cl fp s₃ H₃,PE (zaQ X N' scope cl fp s₃ H₃) elt te) (hsw:swapsWith (.ListComp elt [⟨.Name x px,iter,[],0⟩] scope pos) (some (.Name y0 py)) spos.line X.env=pure true:=by rfl)
  (hf:X.fn y0=true∨X.env.scope.names.lookup y0=some .local:=by first | exact .inl rfl | exact .inr rfl | assumption) (hs:∀ v,foldedSetIterable iter X.env v=pure v:=by intro _;rfl) :
  PS X (.Assign [.Name y0 py] (.ListComp elt [⟨.Name x px,iter,[],0⟩] scope pos) spos) (tAsg (tLC wi ix te) (zda i)):=by
 intro pins s σ H Dn I h
 rw[exec_Assign_Name_used _ _ _ _ hsw]
 refine wpAny_bind (wpAny_standAt (wpAny_bind ?_))
 rw[arm_evalThenUse_ListComp]
 refine wpAny_bind (wpAny_mono (zjv (use:=some (assign (.Name y0 py) X.env)) (Qf:=λ_ s'=>∃ σ' H',Inv X pins σ' H' s'∧Dn.nx σ' H') (Q:=λx H1=>zda i x σ H1 Dn.nx) hc hkind hcell hnames hx hclo hN hN0 hlen hix hi he hs I h λcl fp s3 s6 H3 H5 σ6 D I3 I6 f3 q=>?_) (λ_ s' h'=>wpAny_pure (wpAny_pure h')) λ_ _ z=>z)
 obtain⟨m,hn,_⟩:=I6.loc
 have Io:Inv X pins σ H5 s6:=zg3 (h':=s6.heap) I3 I6 f3 ⟨rfl,λ_ _=>rfl⟩
 refine wpAny_assign_Name (zhP (v:=.ref D) Io hNy hiy hy rfl (λs7 I7 ⟨a,sb,ha⟩=>?_) hf)
 have ltC:∀ x c,X.env.cells.lookup x=some c→c < s3.heap.objs.size:=λx c e=>by
  obtain⟨v,hv⟩:=I3.cell x c e
  exact hv.lt
 have hCa:s3.heap.objs.size≠a:=by
  rintro rfl
  rcases ha with z | z
  ·exact absurd I3.lt (by rw[←z];exact Nat.lt_irrefl _)
  ·exact absurd (ltC _ _ z) (Nat.lt_irrefl _)
 refine⟨m,hn.sameBut sb hCa,λh' hsb=>⟨_,H5,?_,q⟩⟩
 exact I7.skip hsb I3.sz (Nat.ne_of_gt I3.lt) (λx c e=>Nat.ne_of_lt (ltC x c e)) (λp hp=>Nat.ne_of_lt (Heap.lt_size (I3.pin p hp).1)) I6.free
end
section
variable {X:Cx} {N':List Str} {scope:Scope} {elt iter c:Expr} {x:Str} {px pos:Pos} {wi:TI} {tc:TT} {te:TE} {ix:List Nat}
end
end L2
namespace L2
open PySem PySem.Spec PyProof.Rows
inductive Dt where
 | non | bl (b:Bool) | int (i:Int) | str (x:Str) | tup (xs:List Dt) | lst (xs:List Dt)
mutual
def peq:Dt→Dt→Bool
 | .non,.non=>true
 | .bl a,.bl b=>a == b
 | .bl a,.int b=>(if a then 1 else 0) == b
 | .int a,.bl b=>a == (if b then 1 else 0)
 | .int a,.int b=>a == b
 | .str a,.str b=>a == b
 | .tup xs,.tup ys=>zbG xs ys
 | .lst xs,.lst ys=>zbG xs ys
 | _,_=>false
def zbG:List Dt→List Dt→Bool
 | [],[]=>true
 | x :: xs,y :: ys=>peq x y&&zbG xs ys
 | _,_=>false
end
mutual
def dep:Dt→Nat
 | .tup xs=>zaX xs+1
 | .lst xs=>zaX xs+1
 | _=>0
def zaX:List Dt→Nat
 | []=>0
 | x :: xs=>max (dep x) (zaX xs)
end
mutual
def nob:Dt→Bool
 | .bl _=>false
 | .tup xs=>zds xs
 | .lst xs=>zds xs
 | _=>true
def zds:List Dt→Bool
 | []=>true
 | x :: xs=>nob x&&zds xs
end
mutual
theorem zb3:∀ d:Dt,peq d d=true
 | .non=>rfl
 | .bl _=>by simp [peq]
 | .int _=>by simp [peq]
 | .str _=>by simp [peq]
 | .tup xs=>by simp only[peq];exact zeG xs
 | .lst xs=>by simp only[peq];exact zeG xs
theorem zeG:∀ d:List Dt,zbG d d=true
 | []=>by simp [zbG]
 | x :: xs=>by simp only[zbG,zb3 x,zeG xs,Bool.and_self]
end
mutual
theorem zhd:∀ d e:Dt,nob d=true→nob e=true→peq d e=true→d=e
 | .non,e,_,_,h=>by cases e <;> first | rfl | (simp [peq]at h)
 | .bl _,e,h,_,_=>by simp [nob]at h
 | .int _,e,_,h2,h=>by cases e <;> first | (simp [nob]at h2;done) | (simp [peq]at h;done) | (simp [peq]at h;rw[h])
 | .str _,e,_,h2,h=>by cases e <;> first | (simp [peq]at h;done) | (simp [peq]at h;rw[h])
 | .tup xs,e,h1,h2,h=>by
  cases e with
  | tup ys=>simp only[peq]at h;simp only[nob]at h1 h2;rw[zgs xs ys h1 h2 h]
  | _=>simp [peq]at h
 | .lst xs,e,h1,h2,h=>by
  cases e with
  | lst ys=>simp only[peq]at h;simp only[nob]at h1 h2;rw[zgs xs ys h1 h2 h]
  | _=>simp [peq]at h
theorem zgs:∀ d e:List Dt,zds d=true→zds e=true→zbG d e=true→d=e
 | [],e,_,_,h=>by cases e <;> first | rfl | (simp [zbG]at h)
 | x :: xs,e,h1,h2,h=>by
  cases e with
  | nil=>simp [zbG]at h
  | cons y ys =>
   simp only[zbG,Bool.and_eq_true]at h
   simp only[zds,Bool.and_eq_true]at h1 h2
   rw[zhd x y h1.1 h2.1 h.1,zgs xs ys h1.2 h2.2 h.2]
end
mutual
def Has (K:W.Frag) (H:Hp):Dt→V→Prop
 | .non,v=>v=.non
 | .bl b,v=>v=.bl b
 | .int i,v=>v=.int i
 | .str x,v=>v=.str x
 | .tup ds,v=>∃ a xs,v=.ref a∧SqT K H a xs∧aj K H ds xs
 | .lst ds,v=>∃ a xs,v=.ref a∧SqL K H a xs∧aj K H ds xs
def aj (K:W.Frag) (H:Hp):List Dt→List V→Prop
 | [],vs=>vs=[]
 | d :: ds,vs=>∃ v r,vs=v :: r∧Has K H d v∧aj K H ds r
end
theorem aj.length {K:W.Frag} {H:Hp}:∀ {ds:List Dt} {vs:List V},aj K H ds vs→ds.length=vs.length
 | [],vs,h=>by simp only[aj]at h;rw[h];rfl
 | d :: ds,vs,h=>by
  simp only[aj]at h
  obtain⟨v,r,rfl,_,h2⟩:=h
  rw[List.length_cons,List.length_cons,aj.length h2]
theorem aj.get {K:W.Frag} {H:Hp}:∀ {ds:List Dt} {vs:List V} {i:Nat} {v:V},aj K H ds vs→vs[i]?=some v→∃ d,ds[i]?=some d∧Has K H d v
 | [],vs,i,v,h,e=>by simp only[aj]at h;rw[h]at e;simp at e
 | d :: ds,vs,i,v,h,e=>by
  simp only[aj]at h
  obtain⟨v0,r,rfl,h1,h2⟩:=h
  cases i with
  | zero=>simp at e;subst e;exact⟨d,rfl,h1⟩
  | succ i =>
   obtain⟨d',e1,e2⟩:=aj.get (i:=i) h2 (by simpa using e)
   exact⟨d',by simpa using e1,e2⟩
theorem aj.getD {K:W.Frag} {H:Hp}:∀ {ds:List Dt} {vs:List V} {i:Nat} {d:Dt},aj K H ds vs→ds[i]?=some d→∃ v,vs[i]?=some v∧Has K H d v
 | [],vs,i,d,h,e=>by simp at e
 | d0 :: ds,vs,i,d,h,e=>by
  simp only[aj]at h
  obtain⟨v0,r,rfl,h1,h2⟩:=h
  cases i with
  | zero=>simp at e;subst e;exact⟨v0,rfl,h1⟩
  | succ i =>
   obtain⟨v,e1,e2⟩:=aj.getD (i:=i) h2 (by simpa using e)
   exact⟨v,by simpa using e1,e2⟩
theorem aj.append {K:W.Frag} {H:Hp}:∀ {ds es:List Dt} {vs ws:List V},aj K H ds vs→aj K H es ws→aj K H (ds++es) (vs++ws)
 | [],es,vs,ws,h,h'=>by simp only[aj]at h;rw[h];exact h'
 | d :: ds,es,vs,ws,h,h'=>by
  simp only[aj]at h
  obtain⟨v,r,rfl,h1,h2⟩:=h
  show aj K H (d :: (ds++es)) (v :: (r++ws))
  simp only[aj]
  exact⟨v,r++ws,rfl,h1,aj.append h2 h'⟩
theorem aj.one {K:W.Frag} {H:Hp} {d:Dt} {v:V} (h:Has K H d v):aj K H [d] [v]:=by
 simp only[aj]
 exact⟨v,[],rfl,h,rfl⟩
theorem aj.ints {K:W.Frag} {H:Hp}:∀ ns:List Int,aj K H (ns.map Dt.int) (ns.map V.int)
 | []=>by simp [aj]
 | n :: ns=>by
  simp only[List.map_cons,aj]
  exact⟨_,_,rfl,by simp only[Has],aj.ints ns⟩
mutual
def nol:Dt→Bool
 | .lst _=>false
 | .tup xs=>zbj xs
 | _=>true
def zbj:List Dt→Bool
 | []=>true
 | x :: xs=>nol x&&zbj xs
end
def zaw (H H':Hp):Prop:=∀ b xs,Rd H b (.tup xs)→Rd H' b (.tup xs)
theorem zaw.sq {K:W.Frag} {H H':Hp} {a:Addr} {xs:List V} (k:zaw H H') (h:SqT K H a xs):SqT K H' a xs:=h.elim (λz=>.inl (k a xs z)) .inr
theorem zaw.trans {H H1 H2:Hp} (a:zaw H H1) (b:zaw H1 H2):zaw H H2:=λc xs h=>b c xs (a c xs h)
theorem zaw.of_same {H H':Hp} (e:ai H H'):zaw H H':=λb xs h=>by
 rcases h with h | ⟨o,h⟩
 ·exact .inl (e _ _ h)
 ·exact .inr ⟨o,e _ _ h⟩
theorem zaw.lst {H:Hp} {l:Addr} {xs ys:List V} (h:H l=some (.lst xs)):zaw H (upd H l (.lst ys)):=λb zs q=>by
 rcases q with q | ⟨o,q⟩
 ·exact .inl (by rw[aD (zbY q h (λz=>by cases z))];exact q)
 ·exact .inr ⟨o,by rw[aD (zbY q h (λz=>by cases z))];exact q⟩
mutual
theorem Has.keep {K:W.Frag} {H H':Hp} (k:zaw H H'):∀ {d:Dt} {v:V},nol d=true→Has K H d v→Has K H' d v
 | .non,v,_,h=>by simp only[Has]at h ⊢;exact h
 | .bl _,v,_,h=>by simp only[Has]at h ⊢;exact h
 | .int _,v,_,h=>by simp only[Has]at h ⊢;exact h
 | .str _,v,_,h=>by simp only[Has]at h ⊢;exact h
 | .tup ds,v,n,h=>by
  simp only[Has]at h ⊢
  simp only[nol]at n
  obtain⟨a,xs,e,h1,h2⟩:=h
  exact⟨a,xs,e,k.sq h1,aj.keep k n h2⟩
 | .lst _,v,n,h=>by simp [nol]at n
theorem aj.keep {K:W.Frag} {H H':Hp} (k:zaw H H'):∀ {ds:List Dt} {vs:List V},zbj ds=true→aj K H ds vs→aj K H' ds vs
 | [],vs,_,h=>by simp only[aj]at h ⊢;exact h
 | d :: ds,vs,n,h=>by
  simp only[aj]at h ⊢
  simp only[zbj,Bool.and_eq_true]at n
  obtain⟨v,r,e,h1,h2⟩:=h
  exact⟨v,r,e,Has.keep k n.1 h1,aj.keep k n.2 h2⟩
end
section
variable {X:Cx} {pins:List (Addr × Obj)} {σ:St} {H:Hp} {s:Shared}
theorem ziC (I:Inv X pins σ H s) {a:Addr} {xs ys:List V} (h:SqL X.K H a xs) (h':SqT X.K H a ys):False:=by
 obtain⟨its,_,p,_⟩:=I.list h
 obtain⟨jts,_,q,_⟩:=I.tuple h'
 obtain⟨o,e,c,_⟩:=p.isList
 obtain⟨o',e',c',_⟩:=q
 rw[e]at e'
 cases e'
 rw[c]at c'
 exact absurd (Value.type.inj c') (by decide)
mutual
theorem Has.inj (I:Inv X pins σ H s):∀(d e:Dt) (v:V),Has X.K H d v→Has X.K H e v→d=e
 | .non,e,v,h,h'=>by
  simp only[Has]at h
  subst h
  cases e <;> simp only[Has]at h' <;> first | rfl | (cases h';done) | (obtain⟨_,_,z,_⟩:=h';cases z)
 | .bl b,e,v,h,h'=>by
  simp only[Has]at h
  subst h
  cases e <;> simp only[Has]at h' <;> first | (cases h';done) | (cases h';rfl) | (obtain⟨_,_,z,_⟩:=h';cases z)
 | .int b,e,v,h,h'=>by
  simp only[Has]at h
  subst h
  cases e <;> simp only[Has]at h' <;> first | (cases h';done) | (cases h';rfl) | (obtain⟨_,_,z,_⟩:=h';cases z)
 | .str b,e,v,h,h'=>by
  simp only[Has]at h
  subst h
  cases e <;> simp only[Has]at h' <;> first | (cases h';done) | (cases h';rfl) | (obtain⟨_,_,z,_⟩:=h';cases z)
 | .tup ds,e,v,h,h'=>by
  simp only[Has]at h
  obtain⟨a,xs,rfl,h1,h2⟩:=h
  cases e with
  | tup es =>
   simp only[Has]at h'
   obtain⟨a',ys,z,h3,h4⟩:=h'
   cases z
   rw[I.tuple_inj h3 h1]at h4
   rw[aj.inj I ds es xs h2 h4]
  | lst es =>
   simp only[Has]at h'
   obtain⟨a',ys,z,h3,h4⟩:=h'
   cases z
   exact(ziC I h3 h1).elim
  | _=>simp only[Has]at h';cases h'
 | .lst ds,e,v,h,h'=>by
  simp only[Has]at h
  obtain⟨a,xs,rfl,h1,h2⟩:=h
  cases e with
  | lst es =>
   simp only[Has]at h'
   obtain⟨a',ys,z,h3,h4⟩:=h'
   cases z
   rw[I.list_inj h3 h1]at h4
   rw[aj.inj I ds es xs h2 h4]
  | tup es =>
   simp only[Has]at h'
   obtain⟨a',ys,z,h3,h4⟩:=h'
   cases z
   exact(ziC I h1 h3).elim
  | _=>simp only[Has]at h';cases h'
theorem aj.inj (I:Inv X pins σ H s):∀(ds es:List Dt) (vs:List V),aj X.K H ds vs→aj X.K H es vs→ds=es
 | [],es,vs,h,h'=>by
  simp only[aj]at h
  subst h
  cases es with
  | nil=>rfl
  | cons e es=>simp only[aj]at h';obtain⟨_,_,z,_⟩:=h';cases z
 | d :: ds,es,vs,h,h'=>by
  simp only[aj]at h
  obtain⟨v,r,rfl,h1,h2⟩:=h
  cases es with
  | nil=>simp only[aj]at h';cases h'
  | cons e es =>
   simp only[aj]at h'
   obtain⟨v',r',z,h3,h4⟩:=h'
   cases z
   rw[Has.inj I d e v h1 h3,aj.inj I ds es r h2 h4]
end
def zcP (ds es:List Dt) (j:Nat):Bool:=match ds[j]?,es[j]? with
 | some d,some e=>peq d e
 | _,_=>true
theorem zj9 (d e:Dt) (ds es:List Dt):zcP (d :: ds) (e :: es) 0=peq d e:=rfl
theorem zgy:∀(ds es:List Dt),((List.range (min ds.length es.length)).all (zcP ds es)&&ds.length == es.length)=zbG ds es
 | [],[]=>by simp [zbG]
 | [],e :: es=>by simp [zbG]
 | d :: ds,[]=>by simp [zbG]
 | d :: ds,e :: es=>by
  have ih:=zgy ds es
  have e1:min (d :: ds).length (e :: es).length=min ds.length es.length+1:=by simp only[List.length_cons];omega
  rw[e1,List.range_succ_eq_map,List.all_cons,zj9,List.all_map]
  have e2:(zcP (d :: ds) (e :: es) ∘ Nat.succ)=zcP ds es:=by funext j;rfl
  rw[e2,List.length_cons,List.length_cons]
  simp only[zbG]
  rw[←ih,Bool.and_assoc]
  congr 2
  simp
theorem zl4 {ds es:List Dt} (h:ds.length=es.length):(List.range ds.length).all (zcP ds es)=zbG ds es:=by
 rw[←zgy,←h,Nat.min_self]
 simp
theorem zlz {ds es:List Dt} (h:ds.length≠es.length):zbG ds es=false:=by
 rw[←zgy]
 have:(ds.length == es.length)=false:=by simpa using h
 rw[this,Bool.and_false]
theorem zcx (I:Inv X pins σ H s) {a:Addr} {xs:List V} {ds:List Dt} (h:SqT X.K H a xs) (g:aj X.K H ds xs):∃ its:List Value,aW xs its∧s.heap.IsTuple a its.toArray∧its.toArray.size=ds.length:=by
 obtain⟨its,r,p,_⟩:=I.tuple h
 exact⟨its,r,p,by rw[sAq,←r.length,←g.length]⟩
theorem zcy (I:Inv X pins σ H s) {a:Addr} {xs:List V} {ds:List Dt} (h:SqL X.K H a xs) (g:aj X.K H ds xs):∃ its:List Value,aW xs its∧s.heap.IsList a its.toArray∧its.toArray.size=ds.length:=by
 obtain⟨its,r,p,_⟩:=I.list h
 exact⟨its,r,p.isList,by rw[sAq,←r.length,←g.length]⟩
def zjJ (s:Shared) (A:Around) (ds es:List Dt) (xs ys:List V):Prop :=
 ∀(us zs:List Value),aW xs us→aW ys zs→∀(j:Nat) (u z:Value),us[j]?=some u→zs[j]?=some z→SeqAt.EqAt A.in1 s u z (zcP ds es j)
theorem rcTT (I:Inv X pins σ H s) {A:Around} {a b:Addr} {xs ys:List V} {ds es:List Dt} (h1:SqT X.K H a xs) (g1:aj X.K H ds xs) (h2:SqT X.K H b ys) (g2:aj X.K H es ys) (hu:A.units < cLine)
  (he:zjJ s A ds es xs ys):SeqAt.RcAt A s (.ref a) (.ref b) (zbG ds es)∧SeqAt.RcNeAt A s (.ref a) (.ref b) (!zbG ds es):=by
 obtain⟨its,r1,p1,z1⟩:=zcx I h1 g1
 obtain⟨jts,r2,p2,z2⟩:=zcx I h2 g2
 have q:∀ j (k1:j < its.toArray.size) (k2:j < jts.toArray.size),SeqAt.EqAt A.in1 s its.toArray[j] jts.toArray[j] (zcP ds es j):=λj k1 k2=>he its jts r1 r2 j _ _ (by simp at k1 ⊢) (by simp at k2 ⊢)
 have t1:=SeqAt.RcAt.tuples (e:=zcP ds es) p1 p2 hu q
 have t2:=SeqAt.RcNeAt.tuples (e:=zcP ds es) p1 p2 hu q
 rw[z1,z2,zgy]at t1 t2
 exact⟨t1,t2⟩
theorem rcLL (I:Inv X pins σ H s) {A:Around} {a b:Addr} {xs ys:List V} {ds es:List Dt} (h1:SqL X.K H a xs) (g1:aj X.K H ds xs) (h2:SqL X.K H b ys) (g2:aj X.K H es ys) (hu:A.units < cLine)
  (he:zjJ s A ds es xs ys):SeqAt.RcAt A s (.ref a) (.ref b) (zbG ds es)∧SeqAt.RcNeAt A s (.ref a) (.ref b) (!zbG ds es):=by
 obtain⟨its,r1,p1,z1⟩:=zcy I h1 g1
 obtain⟨jts,r2,p2,z2⟩:=zcy I h2 g2
 by_cases hl:ds.length=es.length
 ·have q:∀ j (k1:j < its.toArray.size) (k2:j < jts.toArray.size),SeqAt.EqAt A.in1 s its.toArray[j] jts.toArray[j] (zcP ds es j):=λj k1 k2=>he its jts r1 r2 j _ _ (by simp at k1 ⊢) (by simp at k2 ⊢)
  have t1:=SeqAt.RcAt.lists (e:=zcP ds es) p1 p2 (by rw[z1,z2,hl]) hu q
  have t2:=SeqAt.RcNeAt.lists (e:=zcP ds es) p1 p2 (by rw[z1,z2,hl]) hu q
  rw[z1,zl4 hl]at t1 t2
  exact⟨t1,t2⟩
 ·have hne:(its.toArray.size != jts.toArray.size)=true:=by rw[z1,z2];simpa using hl
  rw[zlz hl]
  exact⟨SeqAt.RcAt.lists_lengths p1 p2 hne hu,SeqAt.RcNeAt.lists_lengths p1 p2 hne hu⟩
theorem zdu {A:Around} {d:Dt} (h:A.units+dep d < cLine):A.units < cLine:=Nat.lt_of_le_of_lt (Nat.le_add_right _ _) h
mutual
theorem zkr (I:Inv X pins σ H s):∀(d e:Dt) (v w:V) (u z:Value) (A:Around),Has X.K H d v→Has X.K H e w→aX v u→aX w z→A.units+dep d < cLine→SeqAt.EqAt A s u z (peq d e)
 | .non,e,v,w,u,z,A,h,h',r,r',hu=>by
  have hu':=zdu hu
  simp only[Has]at h
  subst h
  cases e with
  | tup es =>
   simp only[Has]at h'
   obtain⟨b,ys,rfl,h3,h4⟩:=h'
   obtain⟨_,_,p,_⟩:=zcx I h3 h4
   cases (show z=Value.ref b from r')
   cases (show u=Value.none from r)
   exact SeqAt.EqAt.none_tuple p hu'
  | lst es =>
   simp only[Has]at h'
   obtain⟨b,ys,rfl,h3,h4⟩:=h'
   obtain⟨_,_,p,_⟩:=zcy I h3 h4
   cases (show z=Value.ref b from r')
   cases (show u=Value.none from r)
   exact SeqAt.EqAt.none_list p hu'
  | _=>simp only[Has]at h';subst h';exact zfH r r' rfl rfl
 | .bl k,e,v,w,u,z,A,h,h',r,r',hu=>by
  have hu':=zdu hu
  simp only[Has]at h
  subst h
  cases e with
  | tup es =>
   simp only[Has]at h'
   obtain⟨b,ys,rfl,h3,h4⟩:=h'
   obtain⟨_,_,p,_⟩:=zcx I h3 h4
   cases (show z=Value.ref b from r')
   cases (show u=Value.bool k from r)
   exact SeqAt.EqAt.bool_tuple k p hu'
  | lst es =>
   simp only[Has]at h'
   obtain⟨b,ys,rfl,h3,h4⟩:=h'
   obtain⟨_,_,p,_⟩:=zcy I h3 h4
   cases (show z=Value.ref b from r')
   cases (show u=Value.bool k from r)
   exact SeqAt.EqAt.bool_list k p hu'
  | _=>simp only[Has]at h';subst h';exact zfH r r' rfl rfl
 | .int k,e,v,w,u,z,A,h,h',r,r',hu=>by
  have hu':=zdu hu
  simp only[Has]at h
  subst h
  cases e with
  | tup es =>
   simp only[Has]at h'
   obtain⟨b,ys,rfl,h3,h4⟩:=h'
   obtain⟨_,_,p,_⟩:=zcx I h3 h4
   cases (show z=Value.ref b from r')
   obtain⟨t,rfl⟩:=r
   exact SeqAt.EqAt.int_tuple k t p hu'
  | lst es =>
   simp only[Has]at h'
   obtain⟨b,ys,rfl,h3,h4⟩:=h'
   obtain⟨_,_,p,_⟩:=zcy I h3 h4
   cases (show z=Value.ref b from r')
   obtain⟨t,rfl⟩:=r
   exact SeqAt.EqAt.int_list k t p hu'
  | _=>simp only[Has]at h';subst h';exact zfH r r' rfl rfl
 | .str k,e,v,w,u,z,A,h,h',r,r',hu=>by
  have hu':=zdu hu
  simp only[Has]at h
  subst h
  cases e with
  | tup es =>
   simp only[Has]at h'
   obtain⟨b,ys,rfl,h3,h4⟩:=h'
   obtain⟨_,_,p,_⟩:=zcx I h3 h4
   cases (show z=Value.ref b from r')
   obtain⟨t,rfl⟩:=r
   exact SeqAt.EqAt.str_tuple k t p hu'
  | lst es =>
   simp only[Has]at h'
   obtain⟨b,ys,rfl,h3,h4⟩:=h'
   obtain⟨_,_,p,_⟩:=zcy I h3 h4
   cases (show z=Value.ref b from r')
   obtain⟨t,rfl⟩:=r
   exact SeqAt.EqAt.str_list k t p hu'
  | _=>simp only[Has]at h';subst h';exact zfH r r' rfl rfl
 | .tup ds,e,v,w,u,z,A,h,h',r,r',hu=>by
  have hu':=zdu hu
  have hd:=h
  simp only[Has]at h
  obtain⟨a,xs,rfl,h1,h2⟩:=h
  cases (show u=Value.ref a from r)
  obtain⟨_,_,p,_⟩:=zcx I h1 h2
  have hi:A.in1.units+zaX ds < cLine:=by simp only[dep]at hu;rw[Around.in1_units];omega
  cases e with
  | tup es =>
   have he:=h'
   simp only[Has]at h'
   obtain⟨b,ys,rfl,h3,h4⟩:=h'
   cases (show z=Value.ref b from r')
   by_cases hab:a=b
   ·subst hab
    rw[Has.inj I _ _ _ hd he,zb3]
    exact SeqAt.EqAt.same _
   ·have q:=(rcTT I h1 h2 h3 h4 hu' λus zs ru rz j u z e1 e2=>zfI I ds es xs ys us zs A.in1 h2 h4 ru rz hi j u z e1 e2).1
    simp only[peq]
    exact SeqAt.EqAt.of_refs hab q
  | lst es =>
   simp only[Has]at h'
   obtain⟨b,ys,rfl,h3,h4⟩:=h'
   cases (show z=Value.ref b from r')
   obtain⟨_,_,p',_⟩:=zcy I h3 h4
   exact SeqAt.EqAt.tuple_list p p' hu'
  | non=>simp only[Has]at h';subst h';cases (show z=Value.none from r');exact SeqAt.EqAt.tuple_none p hu'
  | bl k=>simp only[Has]at h';subst h';cases (show z=Value.bool k from r');exact SeqAt.EqAt.tuple_bool k p hu'
  | int k=>simp only[Has]at h';subst h';obtain⟨t,rfl⟩:=r';exact SeqAt.EqAt.tuple_int k t p hu'
  | str k=>simp only[Has]at h';subst h';obtain⟨t,rfl⟩:=r';exact SeqAt.EqAt.tuple_str k t p hu'
 | .lst ds,e,v,w,u,z,A,h,h',r,r',hu=>by
  have hu':=zdu hu
  have hd:=h
  simp only[Has]at h
  obtain⟨a,xs,rfl,h1,h2⟩:=h
  cases (show u=Value.ref a from r)
  obtain⟨_,_,p,_⟩:=zcy I h1 h2
  have hi:A.in1.units+zaX ds < cLine:=by simp only[dep]at hu;rw[Around.in1_units];omega
  cases e with
  | lst es =>
   have he:=h'
   simp only[Has]at h'
   obtain⟨b,ys,rfl,h3,h4⟩:=h'
   cases (show z=Value.ref b from r')
   by_cases hab:a=b
   ·subst hab
    rw[Has.inj I _ _ _ hd he,zb3]
    exact SeqAt.EqAt.same _
   ·have q:=(rcLL I h1 h2 h3 h4 hu' λus zs ru rz j u z e1 e2=>zfI I ds es xs ys us zs A.in1 h2 h4 ru rz hi j u z e1 e2).1
    simp only[peq]
    exact SeqAt.EqAt.of_refs hab q
  | tup es =>
   simp only[Has]at h'
   obtain⟨b,ys,rfl,h3,h4⟩:=h'
   cases (show z=Value.ref b from r')
   obtain⟨_,_,p',_⟩:=zcx I h3 h4
   exact SeqAt.EqAt.list_tuple p p' hu'
  | non=>simp only[Has]at h';subst h';cases (show z=Value.none from r');exact SeqAt.EqAt.list_none p hu'
  | bl k=>simp only[Has]at h';subst h';cases (show z=Value.bool k from r');exact SeqAt.EqAt.list_bool k p hu'
  | int k=>simp only[Has]at h';subst h';obtain⟨t,rfl⟩:=r';exact SeqAt.EqAt.list_int k t p hu'
  | str k=>simp only[Has]at h';subst h';obtain⟨t,rfl⟩:=r';exact SeqAt.EqAt.list_str k t p hu'
theorem zfI (I:Inv X pins σ H s):∀(ds es:List Dt) (vs ws:List V) (us zs:List Value) (A:Around),aj X.K H ds vs→aj X.K H es ws→aW vs us→aW ws zs→A.units+zaX ds < cLine →
  ∀(j:Nat) (u z:Value),us[j]?=some u→zs[j]?=some z→SeqAt.EqAt A s u z (zcP ds es j)
 | [],es,vs,ws,us,zs,A,h,h',r,r',hu,j,u,z,e1,e2=>by
  simp only[aj]at h
  subst h
  cases r
  simp at e1
 | d :: ds,es,vs,ws,us,zs,A,h,h',r,r',hu,j,u,z,e1,e2=>by
  simp only[aj]at h
  obtain⟨v,rs,rfl,h1,h2⟩:=h
  cases r with
  | cons r1 r2 =>
   cases es with
   | nil =>
    simp only[aj]at h'
    subst h'
    cases r'
    simp at e2
   | cons e es =>
    simp only[aj]at h'
    obtain⟨w,rt,rfl,h3,h4⟩:=h'
    simp only[zaX]at hu
    cases r' with
    | cons r3 r4 =>
     cases j with
     | zero =>
      simp at e1 e2
      subst e1 e2
      exact zkr I d e v w _ _ A h1 h3 r1 r3 (by omega)
     | succ j=>exact zfI I ds es rs rt _ _ A h2 h4 r2 r4 (by omega) j u z (by simpa using e1) (by simpa using e2)
end
end
end L2
namespace L2
open PySem PySem.Spec PyProof.Rows
section
variable {X:Cx} {pins:List (Addr × Obj)} {σ:St} {H:Hp} {s:Shared}
theorem rc_D (I:Inv X pins σ H s) (A:Around) (d e:Dt) (v w:V) (u z:Value) (h:Has X.K H d v) (h':Has X.K H e w) (r:aX v u) (r':aX w z) (hu:A.units+dep d < cLine) :
  SeqAt.RcAt A s u z (peq d e)∧SeqAt.RcNeAt A s u z (!peq d e):=by
 have hu':=zdu hu
 cases d with
 | non =>
  simp only[Has]at h
  subst h
  cases (show u=Value.none from r)
  cases e with
  | non =>
   simp only[Has]at h'
   subst h'
   cases (show z=Value.none from r')
   exact⟨SeqAt.RcAt.none_none,SeqAt.RcNeAt.none_none⟩
  | bl k2 =>
   simp only[Has]at h'
   subst h'
   cases (show z=Value.bool k2 from r')
   exact⟨SeqAt.RcAt.none_bool k2,SeqAt.RcNeAt.none_bool k2⟩
  | int k2 =>
   simp only[Has]at h'
   subst h'
   obtain⟨t2,rfl⟩:=r'
   exact⟨SeqAt.RcAt.none_int k2 t2,SeqAt.RcNeAt.none_int k2 t2⟩
  | str k2 =>
   simp only[Has]at h'
   subst h'
   obtain⟨t2,rfl⟩:=r'
   exact⟨SeqAt.RcAt.none_str k2 t2,SeqAt.RcNeAt.none_str k2 t2⟩
  | tup es =>
   simp only[Has]at h'
   obtain⟨b,ys,rfl,h3,h4⟩:=h'
   obtain⟨_,_,p,_⟩:=zcx I h3 h4
   cases (show z=Value.ref b from r')
   exact⟨SeqAt.RcAt.none_tuple p hu',SeqAt.RcNeAt.none_tuple p hu'⟩
  | lst es =>
   simp only[Has]at h'
   obtain⟨b,ys,rfl,h3,h4⟩:=h'
   obtain⟨_,_,p,_⟩:=zcy I h3 h4
   cases (show z=Value.ref b from r')
   exact⟨SeqAt.RcAt.none_list p hu',SeqAt.RcNeAt.none_list p hu'⟩
 | bl k1 =>
  simp only[Has]at h
  subst h
  cases (show u=Value.bool k1 from r)
  cases e with
  | non =>
   simp only[Has]at h'
   subst h'
   cases (show z=Value.none from r')
   exact⟨SeqAt.RcAt.bool_none k1,SeqAt.RcNeAt.bool_none k1⟩
  | bl k2 =>
   simp only[Has]at h'
   subst h'
   cases (show z=Value.bool k2 from r')
   exact⟨SeqAt.RcAt.bool_bool k1 k2,SeqAt.RcNeAt.bool_bool k1 k2⟩
  | int k2 =>
   simp only[Has]at h'
   subst h'
   obtain⟨t2,rfl⟩:=r'
   exact⟨SeqAt.RcAt.bool_int k1 k2 t2,SeqAt.RcNeAt.bool_int k1 k2 t2⟩
  | str k2 =>
   simp only[Has]at h'
   subst h'
   obtain⟨t2,rfl⟩:=r'
   exact⟨SeqAt.RcAt.bool_str k1 k2 t2,SeqAt.RcNeAt.bool_str k1 k2 t2⟩
  | tup es =>
   simp only[Has]at h'
   obtain⟨b,ys,rfl,h3,h4⟩:=h'
   obtain⟨_,_,p,_⟩:=zcx I h3 h4
   cases (show z=Value.ref b from r')
   exact⟨SeqAt.RcAt.bool_tuple k1 p hu',SeqAt.RcNeAt.bool_tuple k1 p hu'⟩
  | lst es =>
   simp only[Has]at h'
   obtain⟨b,ys,rfl,h3,h4⟩:=h'
   obtain⟨_,_,p,_⟩:=zcy I h3 h4
   cases (show z=Value.ref b from r')
   exact⟨SeqAt.RcAt.bool_list k1 p hu',SeqAt.RcNeAt.bool_list k1 p hu'⟩
 | int k1 =>
  simp only[Has]at h
  subst h
  obtain⟨t1,rfl⟩:=r
  cases e with
  | non =>
   simp only[Has]at h'
   subst h'
   cases (show z=Value.none from r')
   exact⟨SeqAt.RcAt.int_none k1 t1,SeqAt.RcNeAt.int_none k1 t1⟩
  | bl k2 =>
   simp only[Has]at h'
   subst h'
   cases (show z=Value.bool k2 from r')
   exact⟨SeqAt.RcAt.int_bool k1 t1 k2,SeqAt.RcNeAt.int_bool k1 t1 k2⟩
  | int k2 =>
   simp only[Has]at h'
   subst h'
   obtain⟨t2,rfl⟩:=r'
   exact⟨SeqAt.RcAt.int_int k1 t1 k2 t2,SeqAt.RcNeAt.int_int k1 t1 k2 t2⟩
  | str k2 =>
   simp only[Has]at h'
   subst h'
   obtain⟨t2,rfl⟩:=r'
   exact⟨SeqAt.RcAt.int_str k1 t1 k2 t2,SeqAt.RcNeAt.int_str k1 t1 k2 t2⟩
  | tup es =>
   simp only[Has]at h'
   obtain⟨b,ys,rfl,h3,h4⟩:=h'
   obtain⟨_,_,p,_⟩:=zcx I h3 h4
   cases (show z=Value.ref b from r')
   exact⟨SeqAt.RcAt.int_tuple k1 t1 p hu',SeqAt.RcNeAt.int_tuple k1 t1 p hu'⟩
  | lst es =>
   simp only[Has]at h'
   obtain⟨b,ys,rfl,h3,h4⟩:=h'
   obtain⟨_,_,p,_⟩:=zcy I h3 h4
   cases (show z=Value.ref b from r')
   exact⟨SeqAt.RcAt.int_list k1 t1 p hu',SeqAt.RcNeAt.int_list k1 t1 p hu'⟩
 | str k1 =>
  simp only[Has]at h
  subst h
  obtain⟨t1,rfl⟩:=r
  cases e with
  | non =>
   simp only[Has]at h'
   subst h'
   cases (show z=Value.none from r')
   exact⟨SeqAt.RcAt.str_none k1 t1,SeqAt.RcNeAt.str_none k1 t1⟩
  | bl k2 =>
   simp only[Has]at h'
   subst h'
   cases (show z=Value.bool k2 from r')
   exact⟨SeqAt.RcAt.str_bool k1 t1 k2,SeqAt.RcNeAt.str_bool k1 t1 k2⟩
  | int k2 =>
   simp only[Has]at h'
   subst h'
   obtain⟨t2,rfl⟩:=r'
   exact⟨SeqAt.RcAt.str_int k1 t1 k2 t2,SeqAt.RcNeAt.str_int k1 t1 k2 t2⟩
  | str k2 =>
   simp only[Has]at h'
   subst h'
   obtain⟨t2,rfl⟩:=r'
   exact⟨SeqAt.RcAt.str_str k1 t1 k2 t2,SeqAt.RcNeAt.str_str k1 t1 k2 t2⟩
  | tup es =>
   simp only[Has]at h'
   obtain⟨b,ys,rfl,h3,h4⟩:=h'
   obtain⟨_,_,p,_⟩:=zcx I h3 h4
   cases (show z=Value.ref b from r')
   exact⟨SeqAt.RcAt.str_tuple k1 t1 p hu',SeqAt.RcNeAt.str_tuple k1 t1 p hu'⟩
  | lst es =>
   simp only[Has]at h'
   obtain⟨b,ys,rfl,h3,h4⟩:=h'
   obtain⟨_,_,p,_⟩:=zcy I h3 h4
   cases (show z=Value.ref b from r')
   exact⟨SeqAt.RcAt.str_list k1 t1 p hu',SeqAt.RcNeAt.str_list k1 t1 p hu'⟩
 | tup ds =>
  simp only[Has]at h
  obtain⟨a,xs,rfl,h1,h2⟩:=h
  cases (show u=Value.ref a from r)
  obtain⟨_,_,p,_⟩:=zcx I h1 h2
  have hi:A.in1.units+zaX ds < cLine:=by simp only[dep]at hu;rw[Around.in1_units];omega
  cases e with
  | non =>
   simp only[Has]at h'
   subst h'
   cases (show z=Value.none from r')
   exact⟨SeqAt.RcAt.tuple_none p hu',SeqAt.RcNeAt.tuple_none p hu'⟩
  | bl k2 =>
   simp only[Has]at h'
   subst h'
   cases (show z=Value.bool k2 from r')
   exact⟨SeqAt.RcAt.tuple_bool k2 p hu',SeqAt.RcNeAt.tuple_bool k2 p hu'⟩
  | int k2 =>
   simp only[Has]at h'
   subst h'
   obtain⟨t2,rfl⟩:=r'
   exact⟨SeqAt.RcAt.tuple_int k2 t2 p hu',SeqAt.RcNeAt.tuple_int k2 t2 p hu'⟩
  | str k2 =>
   simp only[Has]at h'
   subst h'
   obtain⟨t2,rfl⟩:=r'
   exact⟨SeqAt.RcAt.tuple_str k2 t2 p hu',SeqAt.RcNeAt.tuple_str k2 t2 p hu'⟩
  | tup es =>
   simp only[Has]at h'
   obtain⟨b,ys,rfl,h3,h4⟩:=h'
   cases (show z=Value.ref b from r')
   simp only[peq]
   exact rcTT I h1 h2 h3 h4 hu' λus zs ru rz j u z e1 e2=>zfI I ds es xs ys us zs A.in1 h2 h4 ru rz hi j u z e1 e2
  | lst es =>
   simp only[Has]at h'
   obtain⟨b,ys,rfl,h3,h4⟩:=h'
   cases (show z=Value.ref b from r')
   obtain⟨_,_,p',_⟩:=zcy I h3 h4
   exact⟨SeqAt.RcAt.tuple_list p p' hu',SeqAt.RcNeAt.tuple_list p p' hu'⟩
 | lst ds =>
  simp only[Has]at h
  obtain⟨a,xs,rfl,h1,h2⟩:=h
  cases (show u=Value.ref a from r)
  obtain⟨_,_,p,_⟩:=zcy I h1 h2
  have hi:A.in1.units+zaX ds < cLine:=by simp only[dep]at hu;rw[Around.in1_units];omega
  cases e with
  | non =>
   simp only[Has]at h'
   subst h'
   cases (show z=Value.none from r')
   exact⟨SeqAt.RcAt.list_none p hu',SeqAt.RcNeAt.list_none p hu'⟩
  | bl k2 =>
   simp only[Has]at h'
   subst h'
   cases (show z=Value.bool k2 from r')
   exact⟨SeqAt.RcAt.list_bool k2 p hu',SeqAt.RcNeAt.list_bool k2 p hu'⟩
  | int k2 =>
   simp only[Has]at h'
   subst h'
   obtain⟨t2,rfl⟩:=r'
   exact⟨SeqAt.RcAt.list_int k2 t2 p hu',SeqAt.RcNeAt.list_int k2 t2 p hu'⟩
  | str k2 =>
   simp only[Has]at h'
   subst h'
   obtain⟨t2,rfl⟩:=r'
   exact⟨SeqAt.RcAt.list_str k2 t2 p hu',SeqAt.RcNeAt.list_str k2 t2 p hu'⟩
  | tup es =>
   simp only[Has]at h'
   obtain⟨b,ys,rfl,h3,h4⟩:=h'
   cases (show z=Value.ref b from r')
   obtain⟨_,_,p',_⟩:=zcx I h3 h4
   exact⟨SeqAt.RcAt.list_tuple p p' hu',SeqAt.RcNeAt.list_tuple p p' hu'⟩
  | lst es =>
   simp only[Has]at h'
   obtain⟨b,ys,rfl,h3,h4⟩:=h'
   cases (show z=Value.ref b from r')
   simp only[peq]
   exact rcLL I h1 h2 h3 h4 hu' λus zs ru rz j u z e1 e2=>zfI I ds es xs ys us zs A.in1 h2 h4 ru rz hi j u z e1 e2
inductive rEqD (K:W.Frag):R2|m{x y H Q} d e:Has K H d x→Has K H e y→dep d≤60→Q (.bl (peq d e)) H→rEqD K x y H Q
theorem zeW (hu:X.A.units+64 < cLine):OpR X (compareOp .Eq) (rEqD X.K):=by
 intro pins s σ H x y v u Q I rx ry h
 obtain⟨d,e,h1,h2,hd,q⟩:=h
 exact(rc_D I X.A d e x y v u h1 h2 rx ry (by omega)).1 _ _ _ _ ⟨.bl _,H,I,rfl,q⟩
open Classical in
noncomputable def hitD (K:W.Frag) (H:Hp) (d:Dt) (u:Value):Bool:=decide (∃(v:V) (d':Dt),aX v u∧Has K H d' v∧peq d' d=true)
open Classical in
theorem zhG (I:Inv X pins σ H s) {d d':Dt} {v:V} {u:Value} (r:aX v u) (h:Has X.K H d' v):hitD X.K H d u=peq d' d:=by
 unfold hitD
 cases e:peq d' d with
 | true=>exact decide_eq_true ⟨v,d',r,h,e⟩
 | false =>
  refine decide_eq_false λ⟨v',d2,r',h',e'⟩=>?_
  rw[r'.inj r]at h'
  rw[Has.inj I _ _ _ h' h,e]at e'
  cases e'
theorem zem (I:Inv X pins σ H s) {d:Dt}:∀ {ds:List Dt} {vs:List V} {us:List Value},aj X.K H ds vs→aW vs us→us.any (hitD X.K H d)=ds.any λd'=>peq d' d
 | [],vs,us,h,r=>by
  simp only[aj]at h
  subst h
  cases r
  rfl
 | d' :: ds,vs,us,h,r=>by
  simp only[aj]at h
  obtain⟨v,rs,rfl,h1,h2⟩:=h
  cases r with
  | cons r1 r2=>rw[List.any_cons,List.any_cons,zhG I r1 h1,zem I h2 r2]
theorem zdB (I:Inv X pins σ H s) {A:Around} {d:Dt} {x:V} {ux:Value} (hx:Has X.K H d x) (rx:aX x ux):∀ {ds:List Dt} {vs:List V} {us:List Value},aj X.K H ds vs→aW vs us→A.units+zaX ds < cLine→∀ u∈us,SeqAt.EqAt A s u ux (hitD X.K H d u)
 | [],vs,us,h,r,hu,u,hm=>by
  simp only[aj]at h
  subst h
  cases r
  cases hm
 | d' :: ds,vs,us,h,r,hu,u,hm=>by
  simp only[aj]at h
  obtain⟨v,rs,rfl,h1,h2⟩:=h
  simp only[zaX]at hu
  cases r with
  | cons r1 r2 =>
   rcases List.mem_cons.mp hm with rfl | hm
   ·rw[zhG I r1 h1]
    exact zkr I d' d v x _ _ A h1 hx r1 rx (by omega)
   ·exact zdB I hx rx h2 r2 (by omega) u hm
inductive rInD (K:W.Frag) (neg:Bool):R2|m{x y H Q} p xs ds d:y=.ref p→(SqL K H p xs∨SqT K H p xs)→aj K H ds xs→Has K H d x→zaX ds≤60→Q (.bl (if neg then !(ds.any λd'=>peq d' d) else ds.any λd'=>peq d' d)) H→rInD K neg x y H Q
theorem zki (hu:X.A.units+64 < cLine):OpR X (compareOp .In) (rInD X.K false):=by
 intro pins s σ H x y v u Q I rx ry h
 obtain⟨p,xs,ds,d,rfl,hq,hs,hx,hd,q⟩:=h
 cases ry
 have hin:X.A.in1.units+zaX ds < cLine:=by rw[Around.in1_units];omega
 rcases hq with hq | hq
 ·obtain⟨its,r,pl,hz⟩:=I.list hq
  refine SeqAt.in_listAt (hitD X.K H d) pl.isList (λw hw=>zdB I hx rx hs r hin w (by simpa using hw)) ⟨.bl _,H,I,rfl,?_⟩
  rw[show its.toArray.any (hitD X.K H d)=its.any (hitD X.K H d) by simp,zem I hs r]
  exact q
 ·obtain⟨its,r,pl,hz⟩:=I.tuple hq
  refine SeqAt.in_tupleAt (hitD X.K H d) pl (λw hw=>zdB I hx rx hs r hin w (by simpa using hw)) ⟨.bl _,H,I,rfl,?_⟩
  rw[show its.toArray.any (hitD X.K H d)=its.any (hitD X.K H d) by simp,zem I hs r]
  exact q
theorem zhV (hu:X.A.units+64 < cLine):OpR X (compareOp .NotIn) (rInD X.K true):=by
 intro pins s σ H x y v u Q I rx ry h
 obtain⟨p,xs,ds,d,rfl,hq,hs,hx,hd,q⟩:=h
 cases ry
 have hin:X.A.in1.units+zaX ds < cLine:=by rw[Around.in1_units];omega
 rcases hq with hq | hq
 ·obtain⟨its,r,pl,hz⟩:=I.list hq
  refine SeqAt.notIn_listAt (hitD X.K H d) pl.isList (λw hw=>zdB I hx rx hs r hin w (by simpa using hw)) ⟨.bl _,H,I,rfl,?_⟩
  rw[show its.toArray.any (hitD X.K H d)=its.any (hitD X.K H d) by simp,zem I hs r]
  exact q
 ·obtain⟨its,r,pl,hz⟩:=I.tuple hq
  refine SeqAt.notIn_tupleAt (hitD X.K H d) pl (λw hw=>zdB I hx rx hs r hin w (by simpa using hw)) ⟨.bl _,H,I,rfl,?_⟩
  rw[show its.toArray.any (hitD X.K H d)=its.any (hitD X.K H d) by simp,zem I hs r]
  exact q
inductive zjm (K:W.Frag):V→List V→Hp→VK→Prop|m{x vs H Q} l xs ds y d j:x=.ref l→vs=[y]→H l=some (.lst xs)→aj K H ds xs→Has K H d y→zaX ds≤60→(∃ dj,ds[j]?=some dj∧peq dj d=true)→(∀ m dm,m < j→ds[m]?=some dm→peq dm d=false)→Q (.int (j:Nat)) H→zjm K x vs H Q
theorem zeJ (hu:X.A.units+64 < cLine):MtM X "list.index" (zjm X.K):=by
 intro pins s σ H x vs v us Q I rx rv h
 obtain⟨l,xs,ds,y,d,j,rfl,rfl,hH,hs,hy,hd,⟨dj,ej,hj⟩,hno,q⟩:=h
 cases rx
 obtain⟨u,rfl,ru⟩:=rv.one
 obtain⟨z,its,n,r,hl,e⟩:=I.lstM hH
 have hlen:=hs.length
 have hjl:j < ds.length:=(gEq ej).1
 have hin:X.A.in1.units+zaX ds < cLine:=by rw[Around.in1_units];omega
 have at_:∀ m (hm:m < its.toArray.size),∃ dm,ds[m]?=some dm∧hitD X.K H d its.toArray[m]=peq dm d:=λm hm=>by
  have hm':m < ds.length:=by rw[sAq]at hm;omega
  obtain⟨w,e1,e2⟩:=hs.getD (gG hm')
  obtain⟨wv,e3,e4⟩:=r.get e1
  have e5:its.toArray[m]=wv:=by
   have:its[m]?=some wv:=e3
   simp only[List.getElem_toArray]
   rw[gG (by rw[sAq]at hm;exact hm)]at this
   exact Option.some.inj this
  exact⟨_,gG hm',by rw[e5];exact zhG I e4 e2⟩
 have hjs:j < its.toArray.size:=by rw[sAq];omega
 have hsm:(j:Int) < 2 ^ 63 - 1:=by
  have:=sizeLine_eq
  omega
 refine call_meets F.slot_list_index ⟨_,e,rfl⟩ F.entry_list_index (F.args_list_index_2 _ _) (SeqAt.list_indexAt l its.toArray n none #[] u (hitD X.K H d) j hjs hsm ?_ ?_) ⟨e,?_,?_⟩
 ·obtain⟨dm,e1,e2⟩:=at_ j hjs
  rw[ej]at e1
  cases e1
  rw[e2,hj]
 ·intro m hm hlt
  obtain⟨dm,e1,e2⟩:=at_ m hm
  rw[e2,hno m dm hlt e1]
 ·intro w hw
  exact zdB I hy ru hs r hin w (by simpa using hw)
 ·exact⟨.int (j:Nat),H,I.tok _,⟨_,rfl⟩,q⟩
end
end L2
namespace L2
open PySem PySem.Spec PyProof.Rows
structure FB (P:Program) (w:World) (K:W.Frag) (mg:Str→Option Value) (base:Heap) (CX:CXT) (k:Nat) (x:Str) (f:Addr) (fd:FuncData) (ps:List Str) (sp:Sp):Prop where
 ok:aI P w K mg base CX k f fd ps sp
 b:aH K fd ps []
 kp:W.keepIn K (.ref f)=true
 m:mg x=some (.ref f)
theorem bsz (n:Nat) (h:n≤1000):n≤sizeLine:=Nat.le_of_lt (zaC h)
theorem zma {k:Nat} {A:Around} (hr:zaq k A):A.units+64 < cLine:=hr.units
theorem zbp (K:W.Frag) (n:String):W.kitOne K (.type n) (.type n)=some true:=by
 unfold W.kitOne
 rw[if_pos (by simp)]
theorem ziV {ns:List Int} {i:Nat} {n:Int} (h:ns[i]?=some n):atI (ns.map V.int) (i:Int)=some (.int n):=aF (by rw[List.getElem?_map,h];rfl)
theorem zan {α:Type} {xs:List α} {i:Nat} {x:α} (h:xs[i]?=some x):xs.take (i+1)=xs.take i++[x]:=by
 rw[List.take_add_one,h]
 rfl
theorem ag {H:Hp} {p:Addr} (h:H p=none) (o:HO):ai H (upd H p o):=λb u q=>by rw[aD (zaa q h)];exact q
theorem ai.upd {H0 H:Hp} {l:Addr} {o:HO} (s:ai H0 H) (h:H0 l=none):ai H0 (upd H l o):=λb u q=>by rw[aD (zaa q h)];exact s b u q
theorem ai.kt {H H':Hp} (s:ai H H'):zaw H H':=zaw.of_same s
theorem ai.tup {K:W.Frag} {H H':Hp} {a:Addr} {xs:List V} (s:ai H H') (h:SqT K H a xs):SqT K H' a xs:=s.kt.sq h
structure Wk (J:It) (n:Nat) (Ok:Hp→Prop):Prop where
 stop:∀ i H,Ok H→n≤i→J.stop i H
 go:∀ i H,Ok H→i < n→J.go i H
theorem zln {lo:Int} {n:Nat}:Wk (Itr lo n) n (λ_=>True):=⟨λ_ _ _ h=>h,λ_ _ _ h=>h⟩
theorem zb9 {K:W.Frag} {a:Addr} {xs:List V}:Wk (Itl K a) xs.length (λH=>SqL K H a xs):=⟨λ_ _ h hi=>⟨xs,h,hi⟩,λi _ h hi=>⟨xs,xs[i],h,by simp [hi]⟩⟩
theorem zbl {K:W.Frag} {a:Addr} {xs:List V}:Wk (Itt K a) xs.length (λH=>SqT K H a xs):=⟨λ_ _ h hi=>⟨xs,h,hi⟩,λi _ h hi=>⟨xs,xs[i],h,by simp [hi]⟩⟩
def LcW (n:Nat) (D:Addr) (Pv:Nat→List V→Hp→Prop) (i m:Nat) (ys:List V) (H:Hp):Prop:=m=n - i∧i≤n∧ys.length≤i∧H D=some (.lst ys)∧Pv i ys H
def zix (n:Nat) (D:Addr) (Pv:Nat→List V→Hp→Prop) (i:Nat) (ys:List V):VK:=λy H3=>H3 D=some (.lst ys)∧ys.length < sizeLine∧∃ m',m' < n - i∧LcW n D Pv (i+1) m' (ys++[y]) (upd H3 D (.lst (ys++[y])))
def zky (n:Nat) (D:Addr) (Pv:Nat→List V→Hp→Prop) (i:Nat) (ys:List V) (H3:Hp):Prop:=∃ m',m' < n - i∧LcW n D Pv (i+1) m' ys H3
theorem zaA {n:Nat} {D:Addr} {Pv:Nat→List V→Hp→Prop} {i:Nat} {ys:List V} {y:V} {H3:Hp} (hn:n≤sizeLine) (hi:i < n) (hl:ys.length≤i) (hD:H3 D=some (.lst ys)) (p:Pv (i+1) (ys++[y]) (upd H3 D (.lst (ys++[y])))):zix n D Pv i ys y H3 :=
 ⟨hD,by omega,n - (i+1),by omega,rfl,hi,by rw[lAq,lS];omega,ae,p⟩
theorem zgu {n:Nat} {D:Addr} {Pv:Nat→List V→Hp→Prop} {i:Nat} {ys:List V} {H3:Hp} (hi:i < n) (hl:ys.length≤i) (hD:H3 D=some (.lst ys)) (p:Pv (i+1) ys H3):zky n D Pv i ys H3 :=
 ⟨n - (i+1),by omega,rfl,hi,by omega,hD,p⟩
theorem zbu {J:It} {n:Nat} {Ok:Hp→Prop} {te:TE} {fv:St} {H1:Hp} {D:Addr} {R:Hp→Prop} (W:Wk J n Ok) (Pv:Nat→List V→Hp→Prop) (hok:∀ i ys H,Pv i ys H→Ok H) (h0:Pv 0 [] (upd H1 D (.lst [])))
  (hs:∀ i ys H' x H'',i < n→ys.length≤i→H' D=some (.lst ys)→Pv i ys H'→J.yld i H' x H''→te (some x :: fv) H'' (zix n D Pv i ys)) (hd:∀ ys H',H' D=some (.lst ys)→Pv n ys H'→R H') :
  ∃ W:Nat→Nat→List V→Hp→Prop,(∃ m,W 0 m [] (upd H1 D (.lst [])))∧∀ i m ys H',W i m ys H'→H' D=some (.lst ys) ∧
   ((J.stop i H'∧R H')∨(J.go i H'∧∀ x H'',J.yld i H' x H''→te (some x :: fv) H'' λy H3=>H3 D=some (.lst ys)∧ys.length < sizeLine∧∃ m',m' < m∧W (i+1) m' (ys++[y]) (upd H3 D (.lst (ys++[y]))))):=by
 refine⟨LcW n D Pv,⟨n,rfl,Nat.zero_le _,Nat.zero_le _,ae,h0⟩,?_⟩
 rintro i m ys H' ⟨rfl,hi,hl,hD,p⟩
 refine⟨hD,?_⟩
 by_cases hlt:i < n
 ·exact .inr ⟨W.go i H' (hok _ _ _ p) hlt,λx H'' y=>hs i ys H' x H'' hlt hl hD p y⟩
 ·have e:i=n:=by omega
  subst e
  exact .inl ⟨W.stop i H' (hok _ _ _ p) (nRq _),hd ys H' hD p⟩
theorem zhh {J:It} {n:Nat} {Ok:Hp→Prop} {tc:TT} {te:TE} {fv:St} {H1:Hp} {D:Addr} {R:Hp→Prop} (W:Wk J n Ok) (Pv:Nat→List V→Hp→Prop) (hok:∀ i ys H,Pv i ys H→Ok H) (h0:Pv 0 [] (upd H1 D (.lst [])))
  (hs:∀ i ys H' x H'',i < n→ys.length≤i→H' D=some (.lst ys)→Pv i ys H'→J.yld i H' x H''→tc (some x :: fv) H'' λb H3=>if b=true then te (some x :: fv) H3 (zix n D Pv i ys) else zky n D Pv i ys H3)
  (hd:∀ ys H',H' D=some (.lst ys)→Pv n ys H'→R H') :
  ∃ W:Nat→Nat→List V→Hp→Prop,(∃ m,W 0 m [] (upd H1 D (.lst [])))∧∀ i m ys H',W i m ys H'→H' D=some (.lst ys) ∧
   ((J.stop i H'∧R H')∨(J.go i H'∧∀ x H'',J.yld i H' x H''→tc (some x :: fv) H'' λb H3 =>
    if b=true then te (some x :: fv) H3 λy H4=>H4 D=some (.lst ys)∧ys.length < sizeLine∧∃ m',m' < m∧W (i+1) m' (ys++[y]) (upd H4 D (.lst (ys++[y])))
    else ∃ m',m' < m∧W (i+1) m' ys H3)):=by
 refine⟨LcW n D Pv,⟨n,rfl,Nat.zero_le _,Nat.zero_le _,ae,h0⟩,?_⟩
 rintro i m ys H' ⟨rfl,hi,hl,hD,p⟩
 refine⟨hD,?_⟩
 by_cases hlt:i < n
 ·exact .inr ⟨W.go i H' (hok _ _ _ p) hlt,λx H'' y=>hs i ys H' x H'' hlt hl hD p y⟩
 ·have e:i=n:=by omega
  subst e
  exact .inl ⟨W.stop i H' (hok _ _ _ p) (nRq _),hd ys H' hD p⟩
theorem zdm {J:It} {n:Nat} {Ok:Hp→Prop} {g:TG} {tb:TS} {D:zbT} {σ:St} {H:Hp} (W:Wk J n Ok) (Pv:Nat→St→Hp→Prop) (hok:∀ i σ H,Pv i σ H→Ok H) (h0:Pv 0 σ H)
  (hs:∀ i σ H x H',i < n→Pv i σ H→J.yld i H x H'→g x σ H' λσ2 H2=>tb { D with nx:=Pv (i+1),ct:=Pv (i+1),bk:=D.nx } σ2 H2) (hd:∀ σ H,Pv n σ H→D.nx σ H) :
  ∃ W:Nat→Nat→St→Hp→Prop,(∃ m,W 0 m σ H)∧∀ i m σ H,W i m σ H →
   (J.stop i H∧D.nx σ H)∨(J.go i H∧∃ N:St→Hp→Prop,(∀ σ' H',N σ' H'→∃ m',m' < m∧W (i+1) m' σ' H')∧∀ x H',J.yld i H x H'→g x σ H' λσ2 H2=>tb { D with nx:=N,ct:=N,bk:=D.nx } σ2 H2):=by
 refine⟨λi m σ H=>m=n - i∧i≤n∧Pv i σ H,⟨n,by simp,Nat.zero_le _,h0⟩,?_⟩
 rintro i m σ H ⟨rfl,hi,p⟩
 by_cases hlt:i < n
 ·exact .inr ⟨W.go i H (hok _ _ _ p) hlt,Pv (i+1),λσ' H' p'=>⟨n - (i+1),by omega,rfl,hlt,p'⟩,λx H' y=>hs i σ H x H' hlt p y⟩
 ·have e:i=n:=by omega
  subst e
  exact .inl ⟨W.stop i H (hok _ _ _ p) (nRq _),hd σ H p⟩
theorem Has.int {K:W.Frag} {H:Hp} {i:Int}:Has K H (.int i) (.int i):=by simp only[Has]
theorem Has.str' {K:W.Frag} {H:Hp} {x:Str}:Has K H (.str x) (.str x):=by simp only[Has]
theorem aj.nil {K:W.Frag} {H:Hp}:aj K H [] []:=by simp only[aj]
theorem aj.cons {K:W.Frag} {H:Hp} {d:Dt} {ds:List Dt} {v:V} {vs:List V} (h:Has K H d v) (r:aj K H ds vs):aj K H (d :: ds) (v :: vs):=by
 simp only[aj]
 exact⟨v,vs,rfl,h,r⟩
theorem Has.tup' {K:W.Frag} {H:Hp} {ds:List Dt} {a:Addr} {xs:List V} (h:SqT K H a xs) (r:aj K H ds xs):Has K H (.tup ds) (.ref a):=by
 simp only[Has]
 exact⟨a,xs,rfl,h,r⟩
theorem Has.lst' {K:W.Frag} {H:Hp} {ds:List Dt} {a:Addr} {xs:List V} (h:SqL K H a xs) (r:aj K H ds xs):Has K H (.lst ds) (.ref a):=by
 simp only[Has]
 exact⟨a,xs,rfl,h,r⟩
theorem zcd {K:W.Frag} {H:Hp}:∀ {ns:List Int} {vs:List V},aj K H (ns.map Dt.int) vs→vs=ns.map V.int
 | [],vs,h=>by simp only[List.map_nil,aj]at h;rw[h];rfl
 | n :: ns,vs,h=>by
  simp only[List.map_cons,aj]at h
  obtain⟨v,r,rfl,h1,h2⟩:=h
  simp only[Has]at h1
  rw[h1,zcd h2]
  rfl
def dP (t:Int × Int):Dt:=.tup [.int t.1,.int t.2]
end L2
namespace PySem
open Sem (wp)
namespace F
theorem entry_dict_update_loop:entryFor table "dict.update.loop"=some Builtin.«dict.update.loop»:=entryFor_of_tree (by kernel_rfl)
theorem plain_dict_update_loop:plainId "dict.update.loop"=true:=by decide +kernel
theorem miss_list_keys:typeLookup (.type "list") "keys"=pure none:=by rw[typeLookup_type,builtinLookup_eq_fast];kernel_rfl
end F
theorem zgh {prog:Program} {w:World} {A:Around} {E:Value→Shared→Prop} {s:Shared} {a:Addr} {o:Obj} {xs:Array Value} {k:Nat} {name:Str} {Q:Option Value→Shared→Prop}
  (hx:s.heap.get? a=some o) (hc:o.cls=.type "list") (hdat:o.data=.seq xs k) (hd:o.dict=none) (hmiss:typeLookup (.type "list") name=pure none) (hname:(["__module__","__name__","__qualname__","__doc__","__annotations__"]:List Str).contains name=false) (hA:A.handled=none)
  (h:∀ h' tk e,Heap.NewExcOf s.heap h' e "AttributeError"→Q none { s with heap:=h',toks:=tk }) (hsz:name.length+100≤sizeLine:=by size_fits) :
  wpAny (model prog w) A (getAttr? (.ref a) name) Q E s:=by
 obtain⟨c,dct,dat,sl⟩:=o
 simp only at hc hdat hd
 subst hc hdat hd
 obtain⟨hp,g,d,tk,os⟩:=s
 have hT:∀ tk',(⟨hp,g,d,tk',os⟩:Shared).TypeIs (.ref a) "list":=λ_=>⟨_,hx,rfl⟩
 have f1:=sub_AttributeError
 have f3:=F.slot_list_getattribute.lookup
 have f4:=F.slot_list_getattribute.bind (.ref a)
 have f5:=am_list_getattr_none
 unfold getAttr? getAttrBy? getAttrBy
 repeat (any_goals (first | assumption | exact hT _ | ((with_reducible show wpAny _ _ (call (Value.builtin "list.__getattribute__") _ _) _ _ _);refine call_meets F.slot_list_getattribute (hT _) am_entry_list_getattribute (F.args_list_getattribute_2 _ _) (meets_getattribute_miss_list a xs k sl name _ hmiss hname hsz) ⟨hx,hA,λh' tk' e hx'=>?_⟩) | wp_step))
 obtain⟨t',u',he⟩:=hx'.there
 show wpAny _ _ (getattributeRaised _ _ _ _ _ _ _) _ _ _
 unfold getattributeRaised
 repeat (any_goals (first | assumption | wp_step))
 exact h _ _ _ hx'.of
section
variable {prog:Program} {w:World} {K:Type} [DecidableEq K] {knd:KeyKind prog w K} {A:Around}
def zcm (ks:Nat→K) (vals:Nat→Value) (n:Nat):List (K × Value):=(List.range n).foldl (λacc j=>stored acc (ks j) (vals j)) []
theorem zev (ks:Nat→K) (vals:Nat→Value) (n:Nat):zcm ks vals (n+1)=stored (zcm ks vals n) (ks n) (vals n):=by
 unfold zcm
 rw[List.range_succ,List.foldl_append]
 rfl
theorem zjQ (kvs:List (K × Value)) (k:K) (v:Value):(stored kvs k v).length≤kvs.length+1:=by
 unfold stored
 split
 ·rw[lM];omega
 ·rw[lAq];simp
theorem zeS (ks:Nat→K) (vals:Nat→Value):∀ n,(zcm ks vals n).length≤n
 | 0=>nRq _
 | n+1=>by
  rw[zev]
  have:=zjQ (zcm ks vals n) (ks n) (vals n)
  have:=zeS ks vals n
  omega
theorem zex {R:Result→Shared→Prop} {h0:Heap} {l it d:Addr} {items:Array Value} {Ts:Nat→Addr} {keys vals:Nat→Value} {ks:Nat→K} {res:Value} (hh:A.handled=none) (hl:h0.IsList l items) (hli:l≠it) (hld:l≠d) (hid:d≠it) (hsz:items.size≤sizeLine)
  (hi:∀ i,i < items.size→items[i]?=some (.ref (Ts i))∧h0.IsTuple (Ts i) #[keys i,vals i]∧knd.is (ks i) (keys i)=true∧Ts i≠it∧Ts i≠d) :
  ∀(k i:Nat) (s:Shared),items.size - i=k→i≤items.size→s.heap.IsListIter it l i→(∀ b o,b≠it→b≠d→h0.get? b=some o→s.heap.get? b=some o)→s.heap.DictOf knd d (zcm ks vals i) →
   (∀ h' tk,(∀ b o,b≠it→b≠d→h0.get? b=some o→h'.get? b=some o)→h'.DictOf knd d (zcm ks vals items.size)→R (.ok (.ret res)) { s with heap:=h',toks:=tk }) →
   codeAny (model prog w) A (.builtin "dict.update.loop" ⟨[.ref d,.ref it,rawInt i,res],[]⟩) R s:=by
 have lst:∀ h:Heap,(∀ b o,b≠it→b≠d→h0.get? b=some o→h.get? b=some o)→h.IsList l items:=λh hk=>by
  obtain⟨o,ho,r⟩:=hl
  exact⟨o,hk _ _ hli hld ho,r⟩
 intro k
 induction k with
 | zero =>
  intro i s hk hin hit keep hD hR
  have e:i=items.size:=by omega
  subst e
  refine codeAny_builtin F.entry_dict_update_loop ?_
  rw[Around.under_plainId F.plain_dict_update_loop _]
  show wpAny _ A.in1 (pyNext (.ref it) >>= _) _ _ s
  refine wpAny_bind (wpAny_pyNext_list_end (by simpa using hh) hit (lst _ keep) (by simp) λh' he=>?_)
  show wpAny _ _ (Builtin.Dict.addKeywords d [] >>= _) _ _ _
  refine wpAny_bind (wpAny_pure (wpAny_pure ?_))
  exact hR h' s.toks (λb o h1 h2 h3=>he b o h1 (keep b o h1 h2 h3)) (hD.extBut he hid)
 | succ k ih =>
  intro i s hk hin hit keep hD hR
  have hlt:i < items.size:=by omega
  obtain⟨e1,e2,e3,e4,e5⟩:=hi i hlt
  refine codeAny_builtin F.entry_dict_update_loop ?_
  rw[Around.under_plainId F.plain_dict_update_loop _]
  show wpAny _ A.in1 (pyNext (.ref it) >>= _) _ _ s
  refine wpAny_bind (wpAny_pyNext_list_item hit (lst _ keep) e1 λh' hit' hs'=>?_)
  have keep':∀ b o,b≠it→b≠d→h0.get? b=some o→h'.get? b=some o:=λb o h1 h2 h3=>(hs'.2 b h1).trans (keep b o h1 h2 h3)
  have hD':h'.DictOf knd d (zcm ks vals i):=hD.sameBut hs' hid
  obtain⟨ot,ht,htc,nt,htd⟩:=id e2
  have ht':=keep' _ _ e4 e5 ht
  have hT:({ s with heap:=h' }:Shared).TypeIs (.ref (Ts i)) "tuple":=⟨_,ht',htc⟩
  refine wpAny_bind (wpAny_holding (wpAny_bind (wpAny_tryCatch ?_)))
  unfold Builtin.Dict.pairItems
  refine wpAny_bind (wpAny_typeOf hT ?_)
  rw[if_pos (by decide)]
  refine wpAny_bind (wpAny_seqItems ht' htd (wpAny_pure ?_))
  show wpAny _ _ (holding [keys i,vals i] (dictSet d (keys i) (vals i))) _ _ _
  have hlen:=zeS ks vals i
  refine wpAny_holding (wpAny_dictSet_pairs e3 hD' (λh2 hD2 hs2=>?_) (by omega))
  refine wpAny_pure ⟨plainId_quiet F.plain_dict_update_loop _,?_⟩
  have ei:rawInt ((i:Int)+1)=rawInt ((i+1:Nat):Int):=by rfl
  rw[ei]
  refine ih (i+1) _ (by omega) (by omega) ?_ ?_ ?_ ?_
  ·obtain⟨o,ho,r⟩:=hit'
   exact⟨o,(hs2.2 it hid.symm).trans ho,r⟩
  ·exact λb o h1 h2 h3=>(hs2.2 b h2).trans (keep' b o h1 h2 h3)
  ·rw[zev]
   exact hD2
  ·exact λh3 tk h4 h5=>hR h3 tk h4 h5
theorem zhL {E:Value→Shared→Prop} {s:Shared} {l:Addr} {o:Obj} {items:Array Value} {n:Nat} {Ts:Nat→Addr} {keys vals:Nat→Value} {ks:Nat→K} {Q:Value→Shared→Prop} (hh:A.handled=none)
  (hx:s.heap.get? l=some o) (hc:o.cls=.type "list") (hd:o.dict=none) (hdat:o.data=.seq items n) (hsz:items.size≤sizeLine)
  (hi:∀ i,i < items.size→items[i]?=some (.ref (Ts i))∧s.heap.IsTuple (Ts i) #[keys i,vals i]∧knd.is (ks i) (keys i)=true)
  (h:∀ h' tk,(∀ b o,s.heap.get? b=some o→h'.get? b=some o)→h'.DictOf knd s.heap.objs.size (zcm ks vals items.size)→Q (.ref s.heap.objs.size) { s with heap:=h',toks:=tk }) :
  wpAny (model prog w) A (call (.type "dict") [.ref l]) Q E s:=by
 refine callType_codes (Q₁:=λobj s₁=>obj=.ref s.heap.objs.size∧s₁={ s with heap:=s.heap.push { cls:=.type "dict",data:=.dict #[] } }) F.kt_called_dict (F.kt_typeCall_dict_1 _) F.entry_dict_init (kt_code_dict_new _ ⟨rfl,rfl⟩) ?_
 rintro obj s₁ ⟨rfl,rfl⟩
 have hnew:(s.heap.push { cls:=.type "dict",data:=.dict #[] }).DictOf knd s.heap.objs.size []:=Heap.DictOf.new s.heap
 have hx1:(s.heap.push { cls:=.type "dict",data:=.dict #[] }).get? l=some o:=Heap.get?_push_of_some _ hx
 have hT:({ s with heap:=s.heap.push { cls:=.type "dict",data:=.dict #[] } }:Shared).TypeIs (.ref l) "list":=⟨_,hx1,hc⟩
 refine⟨hnew.typeIs,F.args_dict_init_2 _ _,?_⟩
 unfold Builtin.«dict.__init__»
 refine wpAny_bind ?_
 unfold Builtin.Dict.selfAndRest
 refine wpAny_bind (wpAny_notOrdered_dict hnew.typeIs ?_)
 show wpAny _ _ (pure (s.heap.objs.size,[Value.ref l])) _ _ _
 refine wpAny_pure ?_
 show wpAny _ _ (Builtin.Dict.updateFrom "dict.__init__" s.heap.objs.size (.ref l) [] .none) _ _ _
 unfold Builtin.Dict.updateFrom
 refine wpAny_bind (wpAny_typeOf hT ?_)
 rw[if_pos (by decide)]
 refine wpAny_bind (zgh hx1 hc hdat hd F.miss_list_keys (by decide +kernel) (by simpa using hh) λh1 tk1 e ne=>?_)
 rw[if_pos (show(none:Option Value).isNone=true from rfl)]
 have k1:∀ b ob,(s.heap.push { cls:=.type "dict",data:=.dict #[] }).get? b=some ob→h1.get? b=some ob:=ne.keeps
 refine wpAny_bind (wpAny_rule ?_)
 have hl1:h1.IsList l items:=⟨o,k1 _ _ hx1,hc,n,hdat⟩
 refine wpAny_bind (wpAny_pyIter_list hl1 ?_)
 refine wpAny_pure ⟨plainId_quiet F.plain_dict_update_loop _,?_⟩
 have sz1:s.heap.objs.size < h1.objs.size:=Heap.lt_size (k1 _ _ (Heap.get?_push_size _ rfl))
 have hd1:h1.DictOf knd s.heap.objs.size []:=by
  obtain⟨o',es,ep,ho,r⟩:=hnew
  exact⟨o',es,ep,k1 _ _ ho,r⟩
 have keep:∀ b ob,s.heap.get? b=some ob→(h1.push { cls:=.type "list_iterator",data:=.fields #[.ref l,.int 0 0] }).get? b=some ob:=λb ob e=>Heap.get?_push_of_some _ (k1 _ _ (Heap.get?_push_of_some _ e))
 have ltb:∀ b ob,s.heap.get? b=some ob→b≠h1.objs.size∧b≠s.heap.objs.size:=λb ob e=>by
  have:=Heap.lt_size e
  exact⟨Nat.ne_of_lt (Nat.lt_trans this sz1),Nat.ne_of_lt this⟩
 refine zex (h0:=h1.push { cls:=.type "list_iterator",data:=.fields #[.ref l,.int 0 0] }) (knd:=knd) (l:=l) (it:=h1.objs.size) (d:=s.heap.objs.size) (items:=items) (Ts:=Ts) (keys:=keys) (vals:=vals) (ks:=ks) (by simpa using hh) ?_ (ltb _ _ hx).1 (ltb _ _ hx).2 (Nat.ne_of_lt sz1) hsz ?_ items.size 0 _ (by omega) (Nat.zero_le _) ?_ (λ_ _ _ _ e=>e) (hd1.push _) ?_
 ·exact⟨o,keep _ _ hx,hc,n,hdat⟩
 ·intro i hlt
  obtain⟨e1,⟨ot,ho,r⟩,e3⟩:=hi i hlt
  exact⟨e1,⟨ot,keep _ _ ho,r⟩,e3,(ltb _ _ ho).1,(ltb _ _ ho).2⟩
 ·exact⟨_,Heap.get?_push_size _ rfl,rfl,rfl⟩
 ·intro h' tk kp hD
  exact⟨rfl,h h' tk (λb ob e=>kp b ob (ltb _ _ e).1 (ltb _ _ e).2 (keep _ _ e)) hD⟩
end
end PySem
namespace L2
open PySem PySem.Spec PyProof.Rows
section
variable {κ:Type} [DecidableEq κ]
def zaT (kvs:List (κ × V)) (k:κ):Option V:=(kvs.find? λkv=>decide (kv.1=k)).map (·.2)
def zbK (kvs:List (κ × V)) (k:κ) (v:V):List (κ × V) :=
 if(kvs.any λkv=>decide (kv.1=k))=true then kvs.map (λkv=>if kv.1=k then(kv.1,v) else kv) else kvs++[(k,v)]
theorem zlo {k:κ}:zaT ([]:List (κ × V)) k=none:=rfl
theorem zbL {p:κ × V} {r:List (κ × V)} {k:κ} (e:p.1=k):zaT (p :: r) k=some p.2:=by simp [zaT,List.find?_cons,e]
theorem zbM {p:κ × V} {r:List (κ × V)} {k:κ} (e:¬p.1=k):zaT (p :: r) k=zaT r k:=by simp [zaT,List.find?_cons,e]
theorem zff (k:κ):∀ kvs:List (κ × V),(kvs.any λkv=>decide (kv.1=k))=(zaT kvs k).isSome
 | []=>rfl
 | p :: r=>by
  rw[List.any_cons]
  by_cases e:p.1=k
  ·simp only[zbL e,decide_eq_true e,Bool.true_or,Option.isSome_some]
  ·rw[zbM e,decide_eq_false e,Bool.false_or];exact zff k r
theorem ziz (k j:κ) (y:V):∀ kvs:List (κ × V),zaT (kvs.map λkv=>if kv.1=k then(kv.1,y) else kv) j=(zaT kvs j).map λx=>if j=k then y else x
 | []=>rfl
 | p :: r=>by
  have ih:=ziz k j y r
  rw[List.map_cons]
  by_cases h:p.1=k
  ·rw[if_pos h]
   by_cases e:p.1=j
   ·rw[zbL (p:=(p.1,y)) e,zbL e,Option.map_some,if_pos (e.symm.trans h)]
   ·rw[zbM (p:=(p.1,y)) e,zbM e,ih]
  ·rw[if_neg h]
   by_cases e:p.1=j
   ·rw[zbL (p:=p) e,zbL e,Option.map_some,if_neg (λz=>h (e.trans z))]
   ·rw[zbM (p:=p) e,zbM e,ih]
theorem zhN (k j:κ) (y:V):∀ kvs:List (κ × V),zaT kvs k=none→zaT (kvs++[(k,y)]) j=if j=k then some y else zaT kvs j
 | [],_=>by
  by_cases e:k=j
  ·rw[if_pos e.symm];exact zbL (p:=(k,y)) e
  ·rw[if_neg (λz=>e z.symm)];exact zbM (p:=(k,y)) e
 | p :: r,hn=>by
  rw[List.cons_append]
  have hk:¬p.1=k:=λz=>by rw[zbL z]at hn;cases hn
  rw[zbM hk]at hn
  have ih:=zhN k j y r hn
  by_cases e:p.1=j
  ·rw[zbL e,zbL e,if_neg (λz=>hk (e.trans z))]
  ·rw[zbM e,zbM e,ih]
theorem zfe (kvs:List (κ × V)) (k j:κ) (y:V):zaT (zbK kvs k y) j=if j=k then some y else zaT kvs j:=by
 unfold zbK
 by_cases a:(kvs.any λkv=>decide (kv.1=k))=true
 ·rw[if_pos a,ziz]
  rw[zff]at a
  by_cases e:j=k
  ·obtain⟨x,hx⟩:=Option.isSome_iff_exists.mp a
   rw[if_pos e,e,hx,Option.map_some,if_pos rfl]
  ·rw[if_neg e]
   cases zaT kvs j with
   | none=>rfl
   | some x=>rw[Option.map_some,if_neg e]
 ·rw[if_neg a]
  refine zhN k j y kvs ?_
  rw[zff]at a
  cases q:zaT kvs k with
  | none=>rfl
  | some x=>rw[q]at a;exact(a rfl).elim
theorem zgG (kvs:List (κ × V)) (k:κ) (v:V):(zbK kvs k v).length≤kvs.length+1:=by
 unfold zbK
 split
 ·rw[lM];omega
 ·rw[lAq,List.length_cons,List.length_nil];omega
theorem zcZ.isSome_eq {o:Option V} {u:Option Value} (r:zcZ o u):o.isSome=u.isSome:=by
 cases o with
 | none=>cases u with
  | none=>rfl
  | some _=>exact(show False from r).elim
 | some _=>cases u with
  | none=>exact(show False from r).elim
  | some _=>rfl
theorem zcZ.getD {o:Option V} {u:Option Value} {d:V} {d':Value} (r:zcZ o u) (rd:aX d d'):aX (o.getD d) (u.getD d'):=by
 cases o with
 | none=>cases u with
  | none=>exact rd
  | some _=>exact(show False from r).elim
 | some _=>cases u with
  | none=>exact(show False from r).elim
  | some _=>exact r
theorem KV.val {kvs:List (κ × V)} {vs:List (κ × Value)} (r:KV kvs vs) (k:κ):zcZ (zaT kvs k) (valueAt vs k):=by
 unfold KV at r
 induction r with
 | nil=>exact True.intro
 | @cons p q ps qs h t ih =>
  obtain⟨h1,h2⟩:=h
  by_cases e:p.1=k
  ·have e':q.1=k:=h1.symm.trans e
   have b:valueAt (q :: qs) k=some q.2:=by simp [valueAt,List.find?_cons,e']
   rw[zbL e,b];exact h2
  ·have e':¬q.1=k:=λz=>e (h1.trans z)
   have b:valueAt (q :: qs) k=valueAt qs k:=by simp [valueAt,List.find?_cons,e']
   rw[zbM e,b];exact ih
theorem KV.any {kvs:List (κ × V)} {vs:List (κ × Value)} (r:KV kvs vs) (k:κ):(kvs.any λkv=>decide (kv.1=k))=vs.any λkv=>decide (kv.1=k):=by
 unfold KV at r
 induction r with
 | nil=>rfl
 | cons h t ih=>rw[List.any_cons,List.any_cons,ih,h.1]
theorem KV.repl {kvs:List (κ × V)} {vs:List (κ × Value)} (r:KV kvs vs) (k:κ) {y:V} {u:Value} (ry:aX y u) :
  KV (kvs.map λkv=>if kv.1=k then(kv.1,y) else kv) (vs.map λkv=>if kv.1=k then(kv.1,u) else kv):=by
 unfold KV at r ⊢
 induction r with
 | nil=>exact .nil
 | @cons p q ps qs h t ih =>
  rw[List.map_cons,List.map_cons]
  refine .cons ?_ ih
  obtain⟨h1,h2⟩:=h
  by_cases e:p.1=k
  ·rw[if_pos e,if_pos (h1.symm.trans e)];exact⟨h1,ry⟩
  ·rw[if_neg e,if_neg (λz=>e (h1.trans z))];exact⟨h1,h2⟩
theorem KV.put {kvs:List (κ × V)} {vs:List (κ × Value)} (r:KV kvs vs) (k:κ) {y:V} {u:Value} (ry:aX y u):KV (zbK kvs k y) (stored vs k u):=by
 unfold zbK stored
 rw[r.any k]
 by_cases e:(vs.any λkv=>decide (kv.1=k))=true
 ·rw[if_pos e,if_pos e];exact r.repl k ry
 ·rw[if_neg e,if_neg e];exact Paired.snoc r ⟨rfl,ry⟩
theorem KV.length {kvs:List (κ × V)} {vs:List (κ × Value)} (r:KV kvs vs):kvs.length=vs.length:=Paired.length r
end
theorem zgl {P:Program} {w:World} {k:Key} {u:Value} (r:aX (kV k) u):(za8 P w).is k u=true:=by
 cases k with
 | inl i=>obtain⟨t,e⟩:=(show ∃ t,u=Value.int i t from r);subst e;exact zja P w i t
 | inr x=>obtain⟨t,e⟩:=(show ∃ t,u=Value.str x t from r);subst e;exact zi9 P w x t
theorem zhY {P:Program} {w:World}:∀ {ks:List Key} {us:List Value},aW (ks.map kV) us→ItemsAre (za8 P w) ks us
 | [],_,r=>by rw[List.map_nil]at r;cases r;exact .nil
 | k :: ks,_,r=>by
  rw[List.map_cons]at r
  cases r with
  | cons h t=>exact .cons (zgl h) (zhY t)
abbrev KT (H:Hp):List (List Key × V)→List (List Key × Addr × Value)→Prop:=Paired λp q=>p.1=q.1∧H q.2.1=some (.tup (p.1.map kV))∧aX p.2 q.2.2
theorem KT.val {H:Hp} {kvs:List (List Key × V)} {xs:List (List Key × Addr × Value)} (r:KT H kvs xs) (k:List Key):zcZ (zaT kvs k) ((atKey xs k).map (·.2)):=by
 induction r with
 | nil=>exact True.intro
 | @cons p q ps qs h t ih =>
  obtain⟨h1,_,h2⟩:=h
  by_cases e:p.1=k
  ·have e':q.1=k:=h1.symm.trans e
   have b:atKey (q :: qs) k=some q.2:=by simp [atKey,List.find?_cons,e']
   rw[zbL e,b];exact h2
  ·have e':¬q.1=k:=λz=>e (h1.trans z)
   have b:atKey (q :: qs) k=atKey qs k:=by simp [atKey,List.find?_cons,e']
   rw[zbM e,b];exact ih
theorem KT.repl {H:Hp} {kvs:List (List Key × V)} {xs:List (List Key × Addr × Value)} (r:KT H kvs xs) (k:List Key) {y:V} {u:Value} (ry:aX y u) :
  KT H (kvs.map λkv=>if kv.1=k then(kv.1,y) else kv) (xs.map (putAt k u)):=by
 induction r with
 | nil=>exact .nil
 | @cons p q ps qs h t ih =>
  rw[List.map_cons,List.map_cons]
  refine .cons ?_ ih
  obtain⟨h1,h2,h3⟩:=h
  unfold putAt
  by_cases e:p.1=k
  ·rw[if_pos e,if_pos (h1.symm.trans e)];exact⟨h1,h2,ry⟩
  ·rw[if_neg e,if_neg (λz=>e (h1.trans z))];exact⟨h1,h2,h3⟩
theorem KT.put {H:Hp} {kvs:List (List Key × V)} {xs:List (List Key × Addr × Value)} (r:KT H kvs xs) (k:List Key) {b:Addr} {y:V} {u:Value} (hb:H b=some (.tup (k.map kV))) (ry:aX y u) :
  KT H (zbK kvs k y) (storedH xs k b u):=by
 have e:(kvs.any λkv=>decide (kv.1=k))=(atKey xs k).isSome:=by
  rw[zff,(r.val k).isSome_eq,Option.isSome_map]
 unfold zbK storedH
 rw[e]
 by_cases q:(atKey xs k).isSome=true
 ·rw[if_pos q,if_pos q];exact r.repl k ry
 ·rw[if_neg q,if_neg q];exact Paired.snoc r ⟨rfl,hb,ry⟩
theorem KT.keeps {H H':Hp} {kvs:List (List Key × V)} {xs:List (List Key × Addr × Value)} (r:KT H kvs xs) (ht:∀ b ys,H b=some (.tup ys)→H' b=some (.tup ys)):KT H' kvs xs :=
 Paired.mapP r λ_ _ z=>⟨z.1,ht _ _ z.2.1,z.2.2⟩
section
variable {P:Program} {w:World} {H:Hp} {h:Heap} {a:Addr}
theorem rd_of {u:HO} (ok:HOk P w H h) (e:Rd H a u):zaF P w H h a u:=e.ok ok
theorem zg8 {kvs:List (Key × V)} (ok:HOk P w H h) (e:Rd H a (.dK kvs)):kvs.length≤sizeLine∧(a == sysModules)=false∧∃ vs,KV kvs vs∧h.DictOf (za8 P w) a vs :=
 show zaF P w H h a (.dK kvs) from rd_of ok e
theorem dk_of {kvs:List (Key × V)} (ok:HOk P w H h) (e:H a=some (.dK kvs)):kvs.length≤sizeLine∧(a == sysModules)=false∧∃ vs,KV kvs vs∧h.DictOf (za8 P w) a vs:=zg8 ok (.inl e)
theorem zfG {ks:List Key} (ok:HOk P w H h) (e:H a=some (.tup (ks.map kV))):(tupleKind (za8 P w)).is h ks a:=by
 obtain⟨_,its,r,o,h1,h2,n,h3⟩:=(show zaF P w H h a (.tup (ks.map kV)) from ok a _ e)
 exact⟨o,its.toArray,n,h1,h2,h3,by simpa using zhY r⟩
theorem zg7 {kvs:List (List Key × V)} (ok:HOk P w H h) (e:Rd H a (.dT kvs)):kvs.length≤sizeLine∧(a == sysModules)=false ∧
  ∃ xs,KT H kvs xs∧h.DictOfH (tupleKind (za8 P w)) a xs:=by
 obtain⟨z,y,xs,r,o,es,ep,h1,h2,h3,h4,h5⟩:=(show zaF P w H h a (.dT kvs) from rd_of ok e)
 refine⟨z,y,xs,r,o,es,ep,h1,h2,h3,h4,λx hx=>?_,h5⟩
 have all:∀ {l:List (List Key × V)} {m:List (List Key × Addr × Value)},KT H l m→∀ x∈m,(tupleKind (za8 P w)).is h x.1 x.2.1:=by
  intro l m q
  induction q with
  | nil=>intro x hx;exact nomatch hx
  | @cons p q ps qs hq t ih =>
   intro x hx
   rcases List.mem_cons.mp hx with e | hx
   ·subst e
    exact zfG ok (by rw[←hq.1];exact hq.2.1)
   ·exact ih x hx
 exact all r x hx
theorem dt_of {kvs:List (List Key × V)} (ok:HOk P w H h) (e:H a=some (.dT kvs)):kvs.length≤sizeLine∧(a == sysModules)=false ∧
  ∃ xs,KT H kvs xs∧h.DictOfH (tupleKind (za8 P w)) a xs:=zg7 ok (.inl e)
end
def zc0 (H:Hp) (a:Addr) (y:V) (r:Option V):Prop :=
 (∃ kvs k,Rd H a (.dK kvs)∧y=kV k∧r=zaT kvs k)∨∃ kvs k b,Rd H a (.dT kvs)∧y=.ref b∧H b=some (.tup (k.map kV))∧r=zaT kvs k
def zeN (H:Hp) (a:Addr) (y v:V) (H':Hp):Prop :=
 (∃ kvs k,H a=some (.dK kvs)∧y=kV k∧kvs.length < sizeLine∧H'=upd H a (.dK (zbK kvs k v))) ∨
 ∃ kvs k b,H a=some (.dT kvs)∧y=.ref b∧H b=some (.tup (k.map kV))∧kvs.length < sizeLine∧H'=upd H a (.dT (zbK kvs k v))
theorem zc0.k {H:Hp} {a:Addr} {kvs:List (Key × V)} {k:Key} (e:H a=some (.dK kvs)):zc0 H a (kV k) (zaT kvs k):=.inl ⟨kvs,k,.inl e,rfl,rfl⟩
theorem zc0.t {H:Hp} {a b:Addr} {kvs:List (List Key × V)} {k:List Key} (e:H a=some (.dT kvs)) (eb:H b=some (.tup (k.map kV))):zc0 H a (.ref b) (zaT kvs k):=.inr ⟨kvs,k,b,.inl e,rfl,eb,rfl⟩
theorem zeN.k {H:Hp} {a:Addr} {kvs:List (Key × V)} {k:Key} {v:V} (e:H a=some (.dK kvs)) (hl:kvs.length < sizeLine):zeN H a (kV k) v (upd H a (.dK (zbK kvs k v))):=.inl ⟨kvs,k,e,rfl,hl,rfl⟩
theorem zeN.t {H:Hp} {a b:Addr} {kvs:List (List Key × V)} {k:List Key} {v:V} (e:H a=some (.dT kvs)) (eb:H b=some (.tup (k.map kV))) (hl:kvs.length < sizeLine) :
  zeN H a (.ref b) v (upd H a (.dT (zbK kvs k v))):=.inr ⟨kvs,k,b,e,rfl,eb,hl,rfl⟩
section
variable {X:Cx} {pins:List (Addr × Obj)} {σ:St} {H:Hp} {s:Shared} {a:Addr} {y v:V} {u r:Value} {o:Option V} {A:Around} {E:Value→Shared→Prop}
theorem Inv.big (I:Inv X pins σ H s):sysModules < s.heap.objs.size:=by
 have h:mainGlobals < s.heap.objs.size:=(I.mod.glob.keeps I.bk).lt
 exact Nat.lt_trans (by decide) h
theorem d_in {Q:Value→Shared→Prop} (hu:A.units+1 < cLine) (I:Inv X pins σ H s) (g:zc0 H a y o) (ry:aX y u) (h:∀ s',Inv X pins σ H s'→Q (.bool o.isSome) s') :
  wpAny (model X.prog X.w) A (compareOp .In u (.ref a)) Q E s:=by
 rcases g with ⟨kvs,k,e,ey,l⟩ | ⟨kvs,k,b,e,ey,eb,l⟩
 ·subst ey
  obtain⟨z,hd,vs,rel,dd⟩:=zg8 I.hok e
  refine wpAny_in_of (zgl ry) hd dd.mapOf ?_
  rw[←(rel.val k).isSome_eq,←l]
  exact h _ (I.tok _)
 ·subst ey
  cases (show u=Value.ref b from ry)
  obtain⟨z,hd,xs,rel,dd⟩:=zg7 I.hok e
  refine wpAny_in_heap (tupleKind_room_in1 hu) (zfG I.hok eb) hd dd ?_
  have q:=(rel.val k).isSome_eq
  rw[Option.isSome_map]at q
  rw[←q,←l]
  exact h _ (I.tok _)
theorem zmF {Q:Value→Shared→Prop} (hu:A.units+1 < cLine) (I:Inv X pins σ H s) (g:zc0 H a y o) (ry:aX y u) (h:∀ s',Inv X pins σ H s'→Q (.bool (!o.isSome)) s') :
  wpAny (model X.prog X.w) A (compareOp .NotIn u (.ref a)) Q E s:=by
 rcases g with ⟨kvs,k,e,ey,l⟩ | ⟨kvs,k,b,e,ey,eb,l⟩
 ·subst ey
  obtain⟨z,hd,vs,rel,dd⟩:=zg8 I.hok e
  refine wpAny_notIn_of (zgl ry) hd dd.mapOf ?_
  rw[←(rel.val k).isSome_eq,←l]
  exact h _ (I.tok _)
 ·subst ey
  cases (show u=Value.ref b from ry)
  obtain⟨z,hd,xs,rel,dd⟩:=zg7 I.hok e
  refine wpAny_notIn_heap (tupleKind_room_in1 hu) (zfG I.hok eb) hd dd ?_
  have q:=(rel.val k).isSome_eq
  rw[Option.isSome_map]at q
  rw[←q,←l]
  exact h _ (I.tok _)
theorem zjC {h':Heap} {t':Nat} {ob:HO} (I:Inv X pins σ H s) (mu:Mut (H a)) (hs:Heap.SameBut a s.heap h') (he:∃ q,h'.get? a=some q) (new:zaF X.prog X.w (upd H a ob) h' a ob) :
  Inv X pins σ (upd H a ob) { s with heap:=h',toks:=t' } :=
 I.write (x:=a) (e:=a) mu (.inl rfl) (λb q hb z=>(hs.2 b hb).trans z) he new
theorem zks {P:Program} {w:World} {H':Hp} {h':Heap} {kvs:List (Key × V)} {vs:List (Key × Value)} (z:kvs.length≤sizeLine) (hd:(a == sysModules)=false) (rel:KV kvs vs) (dd:h'.DictOf (za8 P w) a vs) :
  zaF P w H' h' a (.dK kvs):=⟨z,hd,vs,rel,dd⟩
theorem zle {H':Hp} {Q:Unit→Shared→Prop} (hu:A.units+1 < cLine) (I:Inv X pins σ H s) (g:zeN H a y v H') (ry:aX y u) (rv:aX v r) (h:∀ s',Inv X pins σ H' s'→Q () s') :
  wpAny (model X.prog X.w) A (setItem (.ref a) u r) Q E s:=by
 rcases g with ⟨kvs,k,e,ey,l,eH⟩ | ⟨kvs,k,b,e,ey,eb,l,eH⟩
 ·subst ey eH
  obtain⟨z,hd,vs,rel,dd⟩:=dk_of I.hok e
  have hz:vs.length≤sizeLine:=by rw[←rel.length];exact z
  have hl:(zbK kvs k v).length≤sizeLine:=by have:=zgG kvs k v;omega
  refine wpAny_setItem_pairs (hsz:=hz) (zgl ry) dd λh' dd' hs=>h _ ?_
  have he:∃ q,h'.get? a=some q:=let ⟨q,_,_,hq,_⟩:=dd';⟨q,hq⟩
  exact zjC I (by rw[e];exact True.intro) hs he (zks hl hd (rel.put k rv) dd')
 ·subst ey eH
  cases (show u=Value.ref b from ry)
  obtain⟨z,hd,xs,rel,dd⟩:=dt_of I.hok e
  have hz:xs.length≤sizeLine:=by rw[←Paired.length rel];exact z
  have hl:(zbK kvs k v).length≤sizeLine:=by have:=zgG kvs k v;omega
  refine wpAny_setItem_heap (hsz:=hz) (tupleKind_room_in1 hu) (zfG I.hok eb) dd λh' dd' hs=>h _ ?_
  obtain⟨q,es,ep,hq,h2,h3,h4,_,h5⟩:=dd'
  refine zjC I (by rw[e];exact True.intro) hs ⟨q,hq⟩ ⟨hl,hd,_,(rel.put k eb rv).keeps λc ys ec=>?_,q,es,ep,hq,h2,h3,h4,h5⟩
  rw[aD (zbY ec e (λz=>nomatch z))]
  exact ec
end
section
variable {X:Cx} {pins:List (Addr × Obj)} {σ:St} {H:Hp} {s:Shared} {a:Addr} {kvs:List (Key × V)} {k:Key} {u:Value} {A:Around} {E:Value→Shared→Prop}
end
def tDIn (ty td:TE):TE:=λσ H Q=>ty σ H λy H1=>td σ H1 λx H2=>∃ a o,x=.ref a∧zc0 H2 a y o∧Q (.bl o.isSome) H2
def zme (ty td:TE):TE:=λσ H Q=>ty σ H λy H1=>td σ H1 λx H2=>∃ a o,x=.ref a∧zc0 H2 a y o∧Q (.bl (!o.isSome)) H2
def sDPut (td ty tv:TE):TS:=λD σ H=>tv σ H λv H1=>td σ H1 λx H2=>ty σ H2 λy H3=>∃ a H4,x=.ref a∧zeN H3 a y v H4∧D.nx σ H4
section
variable {X:Cx} {o i e value:Expr} {pos pos' tpos:Pos} {td ty tv:TE}
theorem zit (hu:X.A.units+1 < cLine) (hi:PE X i ty) (ho:PE X o td):PC X .In i o (tDIn ty td):=by
 intro pins s σ H Q I h
 refine thn (hi pins s σ H _ I h) λiv s1 ⟨y,H1,I1,ry,q1⟩=>thn (ho pins s1 σ H1 _ I1 q1) λu s2 ⟨x,H2,I2,rx,a,ov,ex,g,q2⟩=>?_
 subst ex
 obtain rfl:u=Value.ref a:=rx
 exact d_in hu I2 g ry λs3 I3=>⟨.bl ov.isSome,H2,I3,rfl,q2⟩
theorem zkG (hu:X.A.units+1 < cLine) (hi:PE X i ty) (ho:PE X o td):PC X .NotIn i o (zme ty td):=by
 intro pins s σ H Q I h
 refine thn (hi pins s σ H _ I h) λiv s1 ⟨y,H1,I1,ry,q1⟩=>thn (ho pins s1 σ H1 _ I1 q1) λu s2 ⟨x,H2,I2,rx,a,ov,ex,g,q2⟩=>?_
 subst ex
 obtain rfl:u=Value.ref a:=rx
 exact zmF hu I2 g ry λs3 I3=>⟨.bl (!ov.isSome),H2,I3,rfl,q2⟩
theorem ze0 (hu:X.A.units+1 < cLine) (ho:PE X o td) (hi:PE X i ty) (hv:PE X value tv) (hs:swapsWith value (some (.Subscript o i pos')) pos.line X.env=pure false) :
  PS X (.Assign [.Subscript o i pos'] value pos) (sDPut td ty tv):=by
 intro pins s σ H D I h
 refine wpAny_Assign_Subscript (thn (hv pins s σ H _ I h) λr s1 ⟨v,H1,I1,rv,q1⟩=>thn (ho pins s1 σ H1 _ I1 q1) λu s2 ⟨x,H2,I2,rx,q2⟩=>thn (hi pins s2 σ H2 _ I2 q2) λiv s3 ⟨y,H3,I3,ry,a,H4,ex,g,q3⟩=>?_) hs
 subst ex
 obtain rfl:u=Value.ref a:=rx
 exact zle hu I3 g ry rv λs4 I4=>⟨σ,H4,I4,q3⟩
end
theorem zl0 {P:Program} {w:World} {H:Hp} (h:Heap) (hb:sysModules < h.objs.size):zaF P w H (h.push { cls:=.type "dict",data:=.dict #[] }) h.objs.size (.dK []) :=
 ⟨Nat.zero_le _,beq_eq_false_iff_ne.mpr (Ne.symm (Nat.ne_of_lt hb)),[],.nil,Heap.DictOf.new h⟩
def tDNewK:TE:=λ_ H Q=>∀ p,H p=none→Q (.ref p) (upd H p (.dK []))
section
variable {X:Cx} {pos:Pos}
theorem zfp:PE X (.Dict [] [] pos) tDNewK:=λpins s σ H Q I h =>
 wpAny_Dict_empty ⟨.ref s.heap.objs.size,_,I.laid (a:=s.heap.objs.size) (o:=.dK []) (t':=s.toks) (λ_ _ q=>Heap.get?_push_of_some _ q) (nRq _) (zl0 s.heap I.big),rfl,h _ (I.hok.fresh (nRq _))⟩
end
def zbg (kvs more:List (Key × V)):List (Key × V):=more.foldl (λacc kv=>zbK acc kv.1 kv.2) kvs
structure M2 (X:Cx) (o:Expr) (m:Str) (apos:Pos) (e f:Expr) (cpos:Pos):Prop where
 base:attributeBase o m X.env (eval o X.env)=eval o X.env
 few:((backTo cpos (starEach [e,f] X.env)).all (λx=>!x.1)&&(backToKw cpos (keywordEach [] X.env)).all (λx=>x.1.isSome)
  && decide (([e,f]:List Expr).length+([]:List Keyword).length+(if([]:List Keyword).isEmpty then 0 else 1) < 30))=true
 line:(apos.endLine == cpos.line)=true
 trees:backTo cpos (starEach [e,f] X.env)=[(false,eval e X.env),(false,eval f X.env)]
def IsD (H:Hp) (a:Addr):Prop:=(∃ kvs,Rd H a (.dK kvs))∨∃ kvs,Rd H a (.dT kvs)
theorem isD_at {X:Cx} {pins:List (Addr × Obj)} {σ:St} {H:Hp} {s:Shared} {a:Addr} (I:Inv X pins σ H s) (d:IsD H a) :
  s.TypeIs (.ref a) "dict"∧(∀ b,Value.ref a=.ref b→∃ ob,s.heap.get? b=some ob∧ob.dict=none)∧(a == sysModules)=false:=by
 rcases d with ⟨kvs,e⟩ | ⟨kvs,e⟩
 ·obtain⟨_,hd,vs,_,dd⟩:=zg8 I.hok e
  refine⟨dd.typeIs,λb q=>?_,hd⟩
  cases q
  obtain⟨ob,_,_,h1,h2,_⟩:=dd
  exact⟨ob,h1,h2.2.1⟩
 ·obtain⟨_,hd,xs,_,dd⟩:=zg7 I.hok e
  refine⟨dd.typeIs,λb q=>?_,hd⟩
  cases q
  obtain⟨ob,_,_,h1,h2,_⟩:=dd
  exact⟨ob,h1,h2.2.1⟩
section
variable {X:Cx} {pins:List (Addr × Obj)} {σ:St} {H:Hp} {s:Shared} {a:Addr} {y d:V} {u r:Value} {o:Option V} {A:Around} {E:Value→Shared→Prop}
theorem d_get2 {Q:Value→Shared→Prop} (hu:A.units+1 < cLine) (I:Inv X pins σ H s) (g:zc0 H a y o) (ry:aX y u) (rd:aX d r) (h:∀ w' s',Inv X pins σ H s'→aX (o.getD d) w'→Q w' s') :
  wpAny (model X.prog X.w) A (call (.builtin "dict.get") [.ref a,u,r]) Q E s:=by
 rcases g with ⟨kvs,k,e,ey,l⟩ | ⟨kvs,k,b,e,ey,eb,l⟩
 ·subst ey
  obtain⟨z,hd,vs,rel,dd⟩:=zg8 I.hok e
  refine call_meetsIn PySem.F.slot_dict_get dd.typeIs PySem.F.entry_dict_get (PySem.F.args_dict_get_3 _ _ _) (meets_dict_get_default (za8 X.prog X.w) a (zgl ry) hd r) ⟨_,dd.mapOf,h _ _ (I.tok _) ?_⟩
  rw[l]
  exact(rel.val k).getD rd
 ·subst ey
  cases (show u=Value.ref b from ry)
  obtain⟨z,hd,xs,rel,dd⟩:=zg7 I.hok e
  refine call_meetsIn PySem.F.slot_dict_get dd.typeIs PySem.F.entry_dict_get (PySem.F.args_dict_get_3 _ _ _) (meetsH_dict_get_default (tupleKind (za8 X.prog X.w)) a b hd r) ⟨tupleKind_room_in1 hu,k,xs,zfG I.hok eb,dd,h _ _ (I.tok _) ?_⟩
  rw[l]
  exact(rel.val k).getD rd
end
def tDGet2 (td ty tx:TE):TE:=λσ H Q=>td σ H λx H1=>∃ a,x=.ref a∧IsD H1 a∧ty σ H1 λy H2=>tx σ H2 λz H3=>∃ o,zc0 H3 a y o∧Q (o.getD z) H3
section
variable {X:Cx} {o e f:Expr} {apos cpos:Pos} {td ty tx:TE}
theorem zgZ (hu:X.A.units+1 < cLine) (ho:PE X o td) (he:PE X e ty) (hf:PE X f tx) (m:M2 X o "get" apos e f cpos):PE X (.Call (.Attribute o "get" apos) [e,f] [] cpos) (tDGet2 td ty tx):=by
 intro pins s σ H Q I h
 refine wpAny_Call_method m.base m.few m.line PySem.F.plainAttrs_dict PySem.F.slot_dict_get PySem.F.type_dict_get (thn (ho pins s σ H _ I h) λu s1 ⟨x,H1,I1,rx,a,ex,d,q1⟩=>?_)
 subst ex
 obtain rfl:u=Value.ref a:=rx
 obtain⟨t1,t2,_⟩:=isD_at I1 d
 refine⟨t1,t2,?_⟩
 rw[m.trees]
 refine Calls.callWith_builtin rfl (Calls.evalArgs_plain (Calls.spliced_cons (thn (he pins s1 σ H1 _ I1 q1) λiv s2 ⟨y,H2,I2,ry,q2⟩ =>
  Calls.spliced_cons (thn (hf pins s2 σ H2 _ I2 q2) λfv s3 ⟨z,H3,I3,rz,ov,g,q3⟩=>Calls.spliced_nil ?_))))
 exact d_get2 hu I3 g ry rz λw' s4 I4 rw'=>⟨_,H3,I4,rw',q3⟩
end
section
variable {X:Cx} {pins:List (Addr × Obj)} {σ:St} {H:Hp} {s:Shared} {a:Addr} {kvs:List (Key × V)} {A:Around} {E:Value→Shared→Prop}
end
section
variable {X:Cx} {pins:List (Addr × Obj)} {σ:St} {H:Hp} {s:Shared} {a:Addr} {y:V} {u:Value} {A:Around} {E:Value→Shared→Prop}
end
end L2
namespace L2
open PySem PySem.Spec PyProof.Rows
section
variable {X:Cx}
end
section
variable {κ:Type} [DecidableEq κ]
end
end L2
namespace L2
open PySem PySem.Spec PyProof.Rows
theorem zjb (kvs more:List (Key × V)) (kv:Key × V):zbg kvs (more++[kv])=zbK (zbg kvs more) kv.1 kv.2:=by
 unfold zbg
 rw[List.foldl_append]
 rfl
theorem ziL {kvs:List (Key × V)} {ks:Nat→Key} {vals:Nat→Value}:∀ n,n≤kvs.length→(∀ i kv,i < n→kvs[i]?=some kv→kv.1=ks i∧aX kv.2 (vals i))→KV (zbg [] (kvs.take n)) (zcm ks vals n)
 | 0,_,_=>.nil
 | n+1,hn,h=>by
  have hk:kvs[n]?=some kvs[n]:=gG hn
  obtain⟨e1,e2⟩:=h n _ (Nat.lt_succ_self n) hk
  rw[zev,zan hk,zjb,←e1]
  exact KV.put (ziL n (by omega) λi kv hi=>h i kv (by omega)) _ e2
section
variable {X:Cx}
theorem zi0 (hc:X.calm=true):zbv X (.type "dict") (λxs H Q=>∃(p:Addr) (ys:List V) (kvs:List (Key × V)),xs=[.ref p]∧SqL X.K H p ys∧ys.length=kvs.length∧(∀(i:Nat) y kv,ys[i]?=some y→kvs[i]?=some kv→∃ a,y=.ref a∧SqT X.K H a [kV kv.1,kv.2]) ∧
  ∀ d,H d=none→Q (.ref d) (upd H d (.dK (zbg [] kvs)))):=by
 intro pins s σ H xs us Q I r h
 obtain⟨p,ys,kvs,rfl,hq,hlen,hT,q⟩:=h
 obtain⟨u,rfl,ru⟩:=zb6 r
 cases (show u=Value.ref p from ru)
 obtain⟨its,rv,⟨o,n,ho,hcl,hdi,hdat⟩,hz⟩:=I.list hq
 have hl:its.length=kvs.length:=by rw[←hlen,rv.length]
 have ex:∀ i:Nat,∃ t:Addr × Key × Value × Value,i < its.length→its[i]?=some (.ref t.1)∧s.heap.IsTuple t.1 #[t.2.2.1,t.2.2.2]∧(za8 X.prog X.w).is t.2.1 t.2.2.1=true∧∀ kv,kvs[i]?=some kv→kv.1=t.2.1∧aX kv.2 t.2.2.2:=λi=>by
  by_cases hi:i < its.length
  ·have hy:ys[i]?=some ys[i]:=gG (by have:=rv.length;omega)
   have hk:kvs[i]?=some kvs[i]:=gG (by omega)
   obtain⟨a,ea,ha⟩:=hT i _ _ hy hk
   rw[ea]at hy
   obtain⟨w',e1,e2⟩:=rv.get hy
   cases (show w'=Value.ref a from e2)
   obtain⟨jts,rj,pj,_⟩:=I.tuple ha
   obtain⟨u1,u2,rfl,r1,r2⟩:=zgi rj
   exact⟨(a,kvs[i].1,u1,u2),λ_=>⟨e1,pj,zgl r1,λkv e=>by rw[hk]at e;cases e;exact⟨rfl,r2⟩⟩⟩
  ·exact⟨(0,.inl 0,.none,.none),λz=>absurd z hi⟩
 obtain⟨f,hf⟩:=Classical.axiomOfChoice ex
 refine zhL (knd:=za8 X.prog X.w) (Ts:=λi=>(f i).1) (keys:=λi=>(f i).2.2.1) (vals:=λi=>(f i).2.2.2) (ks:=λi=>(f i).2.1) (I.ok.hd hc) ho hcl hdi hdat ?_ (λi hi=>?_) λh' tk keep hD=>?_
 ·have:=rv.length
  simp only[sAq]
  omega
 ·have hi':i < its.length:=by simpa using hi
  obtain⟨e1,e2,e3,_⟩:=hf i hi'
  exact⟨by simpa using e1,e2,e3⟩
 ·have rel:=ziL (kvs:=kvs) (ks:=λi=>(f i).2.1) (vals:=λi=>(f i).2.2.2) kvs.length (nRq _) λi kv hi e=>(hf i (by omega)).2.2.2 kv e
  rw[tO (nRq _)]at rel
  have es:its.toArray.size=kvs.length:=by simp only[sAq];exact hl
  rw[es]at hD
  have z:(zbg [] kvs).length≤sizeLine:=by
   have e1:=rel.length
   have e2:=zeS (λi=>(f i).2.1) (λi=>(f i).2.2.2) kvs.length
   omega
  exact⟨.ref s.heap.objs.size,upd H s.heap.objs.size (.dK (zbg [] kvs)),I.laid (a:=s.heap.objs.size) (o:=.dK (zbg [] kvs)) (t':=tk) keep (nRq _) (zks z (beq_eq_false_iff_ne.mpr (Ne.symm (Nat.ne_of_lt I.big))) rel hD),rfl,q _ (I.hok.fresh (nRq _))⟩
theorem zhM (hc:X.calm=true):zbv X (.builtin "any") (λxs H Q=>∃(p:Addr) (bs:List Bool),xs=[.ref p]∧SqL X.K H p (bs.map V.bl)∧Q (.bl (bs.any id)) H):=by
 intro pins s σ H xs us Q I r h
 obtain⟨p,bs,rfl,hq,q⟩:=h
 obtain⟨u,rfl,ru⟩:=zb6 r
 cases (show u=Value.ref p from ru)
 obtain⟨its,rv,pl,hz⟩:=I.list hq
 have hl:=rv.length
 rw[lM]at hl
 have hp:p < s.heap.objs.size:=by
  obtain⟨o,ho,_⟩:=pl.isList
  exact Heap.lt_size ho
 have hne:p≠s.heap.objs.size:=Nat.ne_of_lt hp
 refine call_any_walk (wpAny_pyIter_list pl.isList ?_)
 refine⟨s.heap.objs.size,[s.heap.objs.size,p],[s.heap.objs.size],its.toArray.size,_,_,λi=>bs.getD i true,rfl,Walks.list (show X.A.in1.handled=none from I.ok.hd hc) _ p hne its.toArray,⟨⟨_,Heap.get?_push_size _ rfl,rfl,rfl⟩,pl.isList.push _⟩,?_,λh' tk hk=>?_⟩
 ·intro i v s' Q' E' hv hQ
  have hv':its[i]?=some v:=by simpa using hv
  have hi:i < its.length:=(gEq hv').1
  have hb:bs[i]?=some (bs.getD i true):=by
   rw[List.getD_eq_getElem?_getD,gG (by omega)]
   rfl
  obtain⟨w',e1,e2⟩:=rv.get (i:=i) (x:=.bl (bs.getD i true)) (by rw[List.getElem?_map,hb];rfl)
  rw[hv']at e1
  cases e1
  cases (show v=Value.bool _ from e2)
  exact wpAny_truthy_bool hQ
 ·have e:(List.range its.toArray.size).any (λi=>bs.getD i true)=bs.any id:=by
   rw[Bool.eq_iff_iff,List.any_eq_true,List.any_eq_true]
   constructor
   ·rintro ⟨i,hi,hb⟩
    have hi':i < bs.length:=by have:=List.mem_range.mp hi;simp only[sAq]at this;omega
    rw[List.getD_eq_getElem?_getD,gG hi']at hb
    exact⟨bs[i],List.getElem_mem hi',hb⟩
   ·rintro ⟨x,hx,hb⟩
    obtain⟨i,hi,rfl⟩:=List.mem_iff_getElem.mp hx
    refine⟨i,List.mem_range.mpr (by simp only[sAq];omega),?_⟩
    rw[List.getD_eq_getElem?_getD,gG hi]
    exact hb
  refine⟨.bl (bs.any id),H,I.kept (t':=tk) λb o eb=>hk b o ?_ (Heap.get?_push_of_some _ eb),congrArg Value.bool e,q⟩
  intro hm
  have:b=s.heap.objs.size:=by simpa using hm
  exact absurd (Heap.lt_size eb) (by rw[this];exact Nat.lt_irrefl _)
end
end L2
namespace L2
open PySem PySem.Spec PyProof.Rows
def zfB (r:List Int):Dt:=.tup (r.map Dt.int)
theorem zlS:∀ ns:List Int,zbj (ns.map Dt.int)=true
 | []=>by simp [zbj]
 | n :: ns=>by simp only[List.map_cons,zbj,nol,Bool.true_and];exact zlS ns
theorem ziS:∀ ns:List Int,zaX (ns.map Dt.int)=0
 | []=>by simp [zaX]
 | n :: ns=>by simp only[List.map_cons,zaX,dep,ziS ns];rfl
theorem zlW {K:W.Frag} {H:Hp} {r:List Int} {x:V} (h:Has K H (zfB r) x):∃ q,x=.ref q∧SqT K H q (r.map V.int):=by
 unfold zfB at h
 simp only[Has]at h
 obtain⟨a,xs,rfl,hs,hl⟩:=h
 rw[zcd hl]at hs
 exact⟨a,rfl,hs⟩
theorem zls {K:W.Frag} {H:Hp} {Rs:List (List Int)} {xs:List V} {i:Nat} {r:List Int} (h:aj K H (Rs.map zfB) xs) (e:Rs[i]?=some r):∃ q,xs[i]?=some (.ref q)∧SqT K H q (r.map V.int):=by
 obtain⟨v,e1,e2⟩:=h.getD (i:=i) (d:=zfB r) (by rw[List.getElem?_map,e];rfl)
 obtain⟨p,rfl,hp⟩:=zlW e2
 exact⟨p,e1,hp⟩
def zjO (K:W.Frag) (H:Hp) (q:Addr) (ps:List Int):Prop:=SqL K H q (ps.map V.int)∨SqT K H q (ps.map V.int)
theorem zaH {ps:List Int} {i:Nat} {x:V} (h:(ps.map V.int)[i]?=some x):∃ k,ps[i]?=some k∧x=.int k:=by
 rw[List.getElem?_map]at h
 cases e:ps[i]? with
 | none=>rw[e]at h;cases h
 | some k =>
  rw[e]at h
  exact⟨k,rfl,(Option.some.inj h).symm⟩
theorem zbN (n:Int):∀ ps:List Int,inV (.int n) (ps.map V.int)=decide (n∈ps)
 | []=>by simp [inV]
 | p :: ps=>by
  have ih:=zbN n ps
  unfold inV at ih ⊢
  rw[List.map_cons,List.any_cons,ih]
  show(p == n||decide (n∈ps))=decide (n∈p :: ps)
  by_cases e:p=n
  ·subst e
   simp
  ·have e':¬n=p:=λz=>e z.symm
   simp [e,e']
theorem zdi (ps:List Int):(ps.map V.int).all zdj=true:=by
 rw[List.all_eq_true]
 intro x hx
 obtain⟨n,_,rfl⟩:=List.mem_map.mp hx
 rfl
def aZ:List Int→List Int→List Int
 | acc,[]=>acc
 | acc,p :: ps=>aZ (if p∈acc then acc else acc++[p]) ps
theorem zdf:∀(ps acc:List Int),(aZ acc ps).length≤acc.length+ps.length
 | [],acc=>by simp [aZ]
 | p :: ps,acc=>by
  unfold aZ
  have h:=zdf ps (if p∈acc then acc else acc++[p])
  split at h <;> simp only[lAq,List.length_cons,lS,List.length_nil]at h ⊢ <;> split <;> simp_all <;> omega
theorem zeH {ps:List Int} {i:Nat} {k:Int}:∀ {acc:List Int},ps[i]?=some k→aZ acc (ps.take (i+1))=if k∈aZ acc (ps.take i) then aZ acc (ps.take i) else aZ acc (ps.take i)++[k]:=by
 induction ps generalizing i with
 | nil=>intro acc h;simp at h
 | cons p ps ih =>
  intro acc h
  cases i with
  | zero =>
   simp at h
   subst h
   simp [aZ]
  | succ i =>
   simp only[List.take_succ_cons,aZ]
   exact ih (by simpa using h)
theorem once_mem {n:Int}:∀(ps acc:List Int),n∈aZ acc ps↔n∈acc∨n∈ps
 | [],acc=>by simp [aZ]
 | p :: ps,acc=>by
  unfold aZ
  rw[once_mem ps]
  by_cases e:p∈acc
  ·rw[if_pos e]
   constructor
   ·rintro (h | h)
    ·exact .inl h
    ·exact .inr (List.mem_cons_of_mem _ h)
   ·rintro (h | h)
    ·exact .inl h
    ·rcases List.mem_cons.mp h with rfl | h
     ·exact .inl e
     ·exact .inr h
  ·rw[if_neg e]
   simp only[List.mem_append,List.mem_cons,List.not_mem_nil,or_false]
   exact or_assoc
structure zcs (H:Hp) (d:Addr) (hs:List Int):Prop where
 ex:∃ kvs:List (Key × V),H d=some (.dK kvs)∧(∀ n:Int,(zaT kvs (Sum.inl n)).isSome=decide (n∈hs))∧kvs.length≤hs.length
theorem zfl (kvs:List (Key × V)) (k:Key) (v:V):(zbK kvs k v).length≤kvs.length+1:=by
 unfold zbK
 split
 ·rw[lM];omega
 ·rw[lAq];simp
theorem zhO (kvs:List (Key × V)) (n m:Int) (v:V):(zaT (zbK kvs (Sum.inl n) v) (Sum.inl m)).isSome=(decide (m=n)||(zaT kvs (Sum.inl m)).isSome):=by
 rw[zfe]
 by_cases e:m=n
 ·rw[if_pos (by rw[e]),decide_eq_true e]
  rfl
 ·rw[if_neg (λz=>e (by injection z)),decide_eq_false e,Bool.false_or]
theorem zcs.put {H:Hp} {d:Addr} {hs:List Int} {kvs:List (Key × V)} {n:Int} {v:V} (h2:∀ n:Int,(zaT kvs (Sum.inl n)).isSome=decide (n∈hs)) (h3:kvs.length≤hs.length):zcs (upd H d (.dK (zbK kvs (Sum.inl n) v))) d (hs++[n]):=by
 refine⟨_,ae,λm=>?_,?_⟩
 ·rw[zhO,h2]
  by_cases e:m=n
  ·subst e
   simp
  ·simp [e]
 ·have:=zfl kvs (Sum.inl n) v
  rw[lAq]
  simp only[lS]
  omega
def tkv (ps:List Int):List (Key × V):=ps.map λp=>(Sum.inl p,V.bl true)
theorem zkb:∀ ps:List Int,(∀ n:Int,(zaT (zbg [] (tkv ps)) (Sum.inl n)).isSome=decide (n∈ps))∧(zbg [] (tkv ps)).length≤ps.length:=by
 intro ps
 suffices h:∀(kvs:List (Key × V)) (hs:List Int),(∀ n:Int,(zaT kvs (Sum.inl n)).isSome=decide (n∈hs))→kvs.length≤hs.length→(∀ n:Int,(zaT (zbg kvs (tkv ps)) (Sum.inl n)).isSome=decide (n∈hs++ps))∧(zbg kvs (tkv ps)).length≤(hs++ps).length by
  have:=h [] [] (λn=>by simp [zlo]) (nRq _)
  simpa using this
 induction ps with
 | nil=>intro kvs hs h1 h2;simpa [tkv,zbg] using ⟨h1,h2⟩
 | cons p ps ih =>
  intro kvs hs h1 h2
  have e:zbg kvs (tkv (p :: ps))=zbg (zbK kvs (Sum.inl p) (.bl true)) (tkv ps):=rfl
  rw[e,show hs++p :: ps=(hs++[p])++ps by simp]
  refine ih _ _ (λn=>?_) ?_
  ·rw[zhO,h1]
   by_cases e:n=p
   ·subst e
    simp
   ·simp [e]
  ·have:=zfl kvs (Sum.inl p) (.bl true)
   rw[lAq]
   simp only[lS]
   omega
theorem zcs.of {H:Hp} {d:Addr} {ps:List Int}:zcs (upd H d (.dK (zbg [] (tkv ps)))) d ps:=⟨_,ae,(zkb ps).1,(zkb ps).2⟩
theorem zcs.same {H H':Hp} {d:Addr} {hs:List Int} (h:zcs H d hs) (s:ai H H'):zcs H' d hs:=by
 obtain⟨kvs,h1,h2,h3⟩:=h.ex
 exact⟨kvs,s _ _ h1,h2,h3⟩
def nf (row held:List Int):List Int:=aZ [] (row.filter λp=>decide (-p∉held))
def zaz (Rs:List (List Int)) (h:Int):List Int:=Rs.getD h.toNat []
def goL (Rs:List (List Int)):List Int→List Int→Bool
 | _,[]=>false
 | held,[h]=>(nf (zaz Rs h) held).isEmpty
 | held,h :: h' :: r=>match nf (zaz Rs h) held with
  | [x]=>if x∈held then false else goL Rs (held++[x]) (h' :: r)
  | _=>false
def zci (n:Nat) (hs:List Int):Bool:=hs.isEmpty||hs.any (λh=>decide (h < 0))||hs.any (λh=>decide ((n:Int)≤h))
def zdC (Rs:List (List Int)) (ps hs:List Int):Bool:=if zci Rs.length hs=true then false else goL Rs (ps.map λp=>-p) hs
def zcO (row held:List Int):Option (List Int):=if row.any (λp=>decide (p∈held))=true then none else some (row.filter λp=>decide (-p∉held))
def zdk (Rs:List (List Int)):List Int→List Int→Bool
 | _,[]=>false
 | held,[h]=>match zcO (zaz Rs h) held with
  | some l=>l.isEmpty
  | none=>false
 | held,h :: h' :: r=>match zcO (zaz Rs h) held with
  | some [x]=>zdk Rs (held++[x]) (h' :: r)
  | _=>false
end L2
namespace L2
open PySem PySem.Spec PyProof.Rows
theorem zjF (val:Nat→Int):∀ k,argBest (λi j=>decide (val i < val j)) k≤k∧∀ i,i≤k→val (argBest (λi j=>decide (val i < val j)) k)≤val i
 | 0=>⟨nRq _,λi hi=>by
   have e:i=0:=by omega
   subst e
   exact Int.le_refl _⟩
 | k+1=>by
  obtain⟨h1,h2⟩:=zjF val k
  unfold argBest
  by_cases e:val (k+1) < val (argBest (λi j=>decide (val i < val j)) k)
  ·rw[if_pos (decide_eq_true e)]
   refine⟨nRq _,λi hi=>?_⟩
   by_cases hk:i=k+1
   ·rw[hk]
    exact Int.le_refl _
   ·have:=h2 i (by omega)
    omega
  ·rw[if_neg (λz=>e (of_decide_eq_true z))]
   refine⟨by omega,λi hi=>?_⟩
   by_cases hk:i=k+1
   ·rw[hk]
    omega
   ·exact h2 i (by omega)
theorem zjG (val:Nat→Int):∀ k,argBest (λi j=>decide (val i > val j)) k≤k∧∀ i,i≤k→val i≤val (argBest (λi j=>decide (val i > val j)) k)
 | 0=>⟨nRq _,λi hi=>by
   have e:i=0:=by omega
   subst e
   exact Int.le_refl _⟩
 | k+1=>by
  obtain⟨h1,h2⟩:=zjG val k
  unfold argBest
  by_cases e:val (k+1) > val (argBest (λi j=>decide (val i > val j)) k)
  ·rw[if_pos (decide_eq_true e)]
   refine⟨nRq _,λi hi=>?_⟩
   by_cases hk:i=k+1
   ·rw[hk]
    exact Int.le_refl _
   ·have:=h2 i (by omega)
    omega
  ·rw[if_neg (λz=>e (of_decide_eq_true z))]
   refine⟨by omega,λi hi=>?_⟩
   by_cases hk:i=k+1
   ·rw[hk]
    omega
   ·exact h2 i (by omega)
theorem ziR {ns:List Int} {i:Nat} (h:i < ns.length):ns.getD i 0∈ns:=by
 rw[List.getD_eq_getElem?_getD,gG h]
 exact List.getElem_mem h
theorem ziJ {ns:List Int} {n:Int} (h:n∈ns):∃ i,i < ns.length∧ns.getD i 0=n:=by
 obtain⟨i,hi,e⟩:=List.mem_iff_getElem.mp h
 exact⟨i,hi,by rw[List.getD_eq_getElem?_getD,gG hi];exact e⟩
section
variable {X:Cx}
theorem zkI:OpR X (compareOp .IsNot) (λx y H Q=>∃ a b,x=.bl a∧y=.bl b∧Q (.bl (a != b)) H):=by
 intro pins s σ H x y v u Q I rx ry h
 obtain⟨a,b,rfl,rfl,q⟩:=h
 cases rx
 cases ry
 exact isnot_bool (zay I q rfl)
theorem zd7 {ns:List Int} {its:List Value} (rv:aW (ns.map V.int) its):∀(i:Nat) (v:Value),its.toArray[i]?=some v→∃ t,v=.int (ns.getD i 0) t:=λi v hv=>by
 have hv':its[i]?=some v:=by simpa using hv
 have hi:i < its.length:=(gEq hv').1
 have hl:=rv.length
 rw[lM]at hl
 have hb:ns[i]?=some (ns.getD i 0):=by
  rw[List.getD_eq_getElem?_getD,gG (by omega)]
  rfl
 obtain⟨w',e1,e2⟩:=rv.get (i:=i) (x:=.int (ns.getD i 0)) (by rw[List.getElem?_map,hb];rfl)
 rw[hv']at e1
 cases e1
 exact e2
theorem zh1 (hc:X.calm=true):zbv X (.builtin "min") (λxs H Q=>∃(p:Addr) (ns:List Int),xs=[.ref p]∧zjO X.K H p ns∧ns≠[]∧∀ m,m∈ns→(∀ n∈ns,m≤n)→Q (.int m) H):=by
 intro pins s σ H xs us Q I r h
 obtain⟨p,ns,rfl,hq,hne,q⟩:=h
 obtain⟨u,rfl,ru⟩:=zb6 r
 cases (show u=Value.ref p from ru)
 have fin:∀ {its:List Value} {v:Value} {h':Heap} {tk:Nat},aW (ns.map V.int) its→its.toArray[argBest (λi j=>decide (ns.getD i 0 < ns.getD j 0)) (its.toArray.size - 1)]?=some v→(∀ b o,s.heap.get? b=some o→h'.get? b=some o)→EP X pins σ Q v { s with heap:=h',toks:=tk }:=λ{its v h' tk} rv hP hk=>by
  obtain⟨t,rfl⟩:=zd7 rv _ _ hP
  have hl:=rv.length
  rw[lM]at hl
  have n0:0 < ns.length:=List.length_pos_iff.mpr hne
  have es:its.toArray.size - 1=ns.length - 1:=by simp only[sAq];omega
  rw[es]
  obtain⟨b1,b2⟩:=zjF (λi=>ns.getD i 0) (ns.length - 1)
  exact⟨.int _,H,I.kept (t':=tk) hk,⟨t,rfl⟩,q _ (ziR (by omega)) λn hn=>by
   obtain⟨i,hi,e⟩:=ziJ hn
   rw[←e]
   exact b2 i (by omega)⟩
 have n0:0 < ns.length:=List.length_pos_iff.mpr hne
 rcases hq with hq | hq
 ·obtain⟨its,rv,pl,hz⟩:=I.list hq
  have hl:=rv.length
  rw[lM]at hl
  have hp:p < s.heap.objs.size:=by
   obtain⟨o,ho,_⟩:=pl.isList
   exact Heap.lt_size ho
  refine call_min_walk (wpAny_pyIter_list pl.isList ?_)
  refine⟨s.heap.objs.size,[s.heap.objs.size,p],[s.heap.objs.size],its.toArray.size,_,_,λi j=>decide (ns.getD i 0 < ns.getD j 0),rfl,Walks.list (show X.A.in1.handled=none from I.ok.hd hc) _ p (Nat.ne_of_lt hp) its.toArray,⟨⟨_,Heap.get?_push_size _ rfl,rfl,rfl⟩,pl.isList.push _⟩,λb hb=>?_,by simp only[sAq];omega,CmpOf.ints_lt (λi=>ns.getD i 0) (zd7 rv),λv h' tk hP hk=>fin rv hP λb o e=>hk b o (λhm=>?_) (Heap.get?_push_of_some _ e)⟩
  ·show b < (s.heap.push _).objs.size
   rw[Heap.size_push]
   simp only[List.mem_cons,List.not_mem_nil,or_false]at hb
   rcases hb with rfl | rfl
   ·exact Nat.lt_succ_self _
   ·exact Nat.lt_succ_of_lt hp
  ·have:b=s.heap.objs.size:=by simpa using hm
   exact absurd (Heap.lt_size e) (by rw[this];exact Nat.lt_irrefl _)
 ·obtain⟨its,rv,pl,hz⟩:=I.tuple hq
  have hl:=rv.length
  rw[lM]at hl
  have pt:s.heap.IsTuple p its.toArray:=pl
  have hp:p < s.heap.objs.size:=by
   obtain⟨o,ho,_⟩:=id pt
   exact Heap.lt_size ho
  refine call_min_walk (wpAny_pyIter_tuple pt ?_)
  refine⟨s.heap.objs.size,[s.heap.objs.size,p],[s.heap.objs.size],its.toArray.size,_,_,λi j=>decide (ns.getD i 0 < ns.getD j 0),rfl,Walks.tuple (show X.A.in1.handled=none from I.ok.hd hc) _ p (Nat.ne_of_lt hp) its.toArray,⟨⟨_,Heap.get?_push_size _ rfl,rfl,rfl⟩,pt.push _⟩,λb hb=>?_,by simp only[sAq];omega,CmpOf.ints_lt (λi=>ns.getD i 0) (zd7 rv),λv h' tk hP hk=>fin rv hP λb o e=>hk b o (λhm=>?_) (Heap.get?_push_of_some _ e)⟩
  ·show b < (s.heap.push _).objs.size
   rw[Heap.size_push]
   simp only[List.mem_cons,List.not_mem_nil,or_false]at hb
   rcases hb with rfl | rfl
   ·exact Nat.lt_succ_self _
   ·exact Nat.lt_succ_of_lt hp
  ·have:b=s.heap.objs.size:=by simpa using hm
   exact absurd (Heap.lt_size e) (by rw[this];exact Nat.lt_irrefl _)
theorem zh2 (hc:X.calm=true):zbv X (.builtin "max") (λxs H Q=>∃(p:Addr) (ns:List Int),xs=[.ref p]∧zjO X.K H p ns∧ns≠[]∧∀ m,m∈ns→(∀ n∈ns,n≤m)→Q (.int m) H):=by
 intro pins s σ H xs us Q I r h
 obtain⟨p,ns,rfl,hq,hne,q⟩:=h
 obtain⟨u,rfl,ru⟩:=zb6 r
 cases (show u=Value.ref p from ru)
 have fin:∀ {its:List Value} {v:Value} {h':Heap} {tk:Nat},aW (ns.map V.int) its→its.toArray[argBest (λi j=>decide (ns.getD i 0 > ns.getD j 0)) (its.toArray.size - 1)]?=some v→(∀ b o,s.heap.get? b=some o→h'.get? b=some o)→EP X pins σ Q v { s with heap:=h',toks:=tk }:=λ{its v h' tk} rv hP hk=>by
  obtain⟨t,rfl⟩:=zd7 rv _ _ hP
  have hl:=rv.length
  rw[lM]at hl
  have n0:0 < ns.length:=List.length_pos_iff.mpr hne
  have es:its.toArray.size - 1=ns.length - 1:=by simp only[sAq];omega
  rw[es]
  obtain⟨b1,b2⟩:=zjG (λi=>ns.getD i 0) (ns.length - 1)
  exact⟨.int _,H,I.kept (t':=tk) hk,⟨t,rfl⟩,q _ (ziR (by omega)) λn hn=>by
   obtain⟨i,hi,e⟩:=ziJ hn
   rw[←e]
   exact b2 i (by omega)⟩
 have n0:0 < ns.length:=List.length_pos_iff.mpr hne
 rcases hq with hq | hq
 ·obtain⟨its,rv,pl,hz⟩:=I.list hq
  have hl:=rv.length
  rw[lM]at hl
  have hp:p < s.heap.objs.size:=by
   obtain⟨o,ho,_⟩:=pl.isList
   exact Heap.lt_size ho
  refine call_max_walk (wpAny_pyIter_list pl.isList ?_)
  refine⟨s.heap.objs.size,[s.heap.objs.size,p],[s.heap.objs.size],its.toArray.size,_,_,λi j=>decide (ns.getD i 0 > ns.getD j 0),rfl,Walks.list (show X.A.in1.handled=none from I.ok.hd hc) _ p (Nat.ne_of_lt hp) its.toArray,⟨⟨_,Heap.get?_push_size _ rfl,rfl,rfl⟩,pl.isList.push _⟩,λb hb=>?_,by simp only[sAq];omega,CmpOf.ints_gt (λi=>ns.getD i 0) (zd7 rv),λv h' tk hP hk=>fin rv hP λb o e=>hk b o (λhm=>?_) (Heap.get?_push_of_some _ e)⟩
  ·show b < (s.heap.push _).objs.size
   rw[Heap.size_push]
   simp only[List.mem_cons,List.not_mem_nil,or_false]at hb
   rcases hb with rfl | rfl
   ·exact Nat.lt_succ_self _
   ·exact Nat.lt_succ_of_lt hp
  ·have:b=s.heap.objs.size:=by simpa using hm
   exact absurd (Heap.lt_size e) (by rw[this];exact Nat.lt_irrefl _)
 ·obtain⟨its,rv,pl,hz⟩:=I.tuple hq
  have hl:=rv.length
  rw[lM]at hl
  have pt:s.heap.IsTuple p its.toArray:=pl
  have hp:p < s.heap.objs.size:=by
   obtain⟨o,ho,_⟩:=id pt
   exact Heap.lt_size ho
  refine call_max_walk (wpAny_pyIter_tuple pt ?_)
  refine⟨s.heap.objs.size,[s.heap.objs.size,p],[s.heap.objs.size],its.toArray.size,_,_,λi j=>decide (ns.getD i 0 > ns.getD j 0),rfl,Walks.tuple (show X.A.in1.handled=none from I.ok.hd hc) _ p (Nat.ne_of_lt hp) its.toArray,⟨⟨_,Heap.get?_push_size _ rfl,rfl,rfl⟩,pt.push _⟩,λb hb=>?_,by simp only[sAq];omega,CmpOf.ints_gt (λi=>ns.getD i 0) (zd7 rv),λv h' tk hP hk=>fin rv hP λb o e=>hk b o (λhm=>?_) (Heap.get?_push_of_some _ e)⟩
  ·show b < (s.heap.push _).objs.size
   rw[Heap.size_push]
   simp only[List.mem_cons,List.not_mem_nil,or_false]at hb
   rcases hb with rfl | rfl
   ·exact Nat.lt_succ_self _
   ·exact Nat.lt_succ_of_lt hp
  ·have:b=s.heap.objs.size:=by simpa using hm
   exact absurd (Heap.lt_size e) (by rw[this];exact Nat.lt_irrefl _)
end
end L2
namespace L2
open PySem PySem.Spec PyProof.Rows
section
variable {X:Cx} {N':List Str} {scope:Scope} {cl:List (Str × Addr)} {fp:List Addr} {pins:List (Addr × Obj)} {σ:St} {H:Hp} {s:Shared}
end
section
variable {X:Cx} {N':List Str} {scope:Scope} {elt iter tg:Expr} {L:Nat} {pos:Pos} {wi:TI} {g:TG} {te:TE} {ix:List Nat}
end
section
variable {X:Cx} {N':List Str} {scope:Scope} {elt iter c tg:Expr} {L:Nat} {pos:Pos} {wi:TI} {g:TG} {tc:TT} {te:TE} {ix:List Nat}
end
end L2
namespace L2
open PySem PySem.Spec PyProof.Rows
theorem Inv.turnedLaid {X:Cx} {pins:List (Addr × Obj)} {σ:St} {H:Hp} {s:Shared} {h':Heap} {fp:List Addr} {a:Addr} {o:HO} {t':Nat} (I:Inv X pins σ H s) (hf:∀ b∈fp,zcr X pins H b) (k:∀ b u,b∉fp→s.heap.get? b=some u→h'.get? b=some u) (hp:s.heap.objs.size≤a) (new:zaF X.prog X.w (upd H a o) h' a o) :
  Inv X pins σ (upd H a o) { s with heap:=h',toks:=t' }:=by
 have hn:=I.hok.fresh hp
 have nfp:∀ b u,H b=some u→b∉fp:=λb u e z=>by rw[(hf b z).1]at e;cases e
 have un:Un (frs X.stack) fp H (upd H a o) s.heap h':=⟨λb u q _ _ hx=>k b u hx q,λb u q _ _ hx=>⟨u.slots,k b u hx q⟩,λb u q n _=>by rw[aD (Nat.ne_of_lt (Nat.lt_of_lt_of_le (Heap.lt_size q) hp))];exact n,
  λb u q hx=>⟨u,k b u hx q⟩,λb xs q=>by rw[aD (zaa q hn)];exact q,λb u xs q=>by rw[aD (zaa q hn)];exact q,λb ps q=>⟨#[],by rw[aD (zaa q hn),q];simp⟩⟩
 have hok:HOk X.prog X.w (upd H a o) h':=λb u e=>by
  by_cases hb:b=a
  ·subst hb;rw[ae]at e;cases e;exact new
  ·rw[aD hb]at e
   refine(I.hok b u e).stay (λc v hc q=>k c v ?_ q) (λc q=>by rw[aD (zaa q hn)];exact q) λc xs q=>by rw[aD (zaa q hn)];exact q
   rcases hc with z | z
   ·rw[z];exact nfp b u e
   ·exact nfp c _ z
 exact I.call (g':=s.gens) (d':=s.drawn) (ch:=fp) un hok I.bare λb hb=>⟨(hf b hb).2.2.2.1,(hf b hb).2.1,(hf b hb).2.2.2.2.1,(hf b hb).2.2.2.2.2⟩
def Ite (K:W.Frag) (a:Addr):It :=
 ⟨λi H=>∃ xs x,SqL K H a xs∧xs[i]?=some x,λi H x H'=>∃ p y,x=.ref p∧H p=none∧H'=upd H p (.tup [.int i,y])∧∀ xs,SqL K H a xs→xs[i]?=some y,λi H=>∃ xs,SqL K H a xs∧xs.length≤i⟩
theorem zjf {K:W.Frag} {a:Addr} {xs:List V}:Wk (Ite K a) xs.length (λH=>SqL K H a xs):=⟨λ_ _ h hi=>⟨xs,h,hi⟩,λi _ h hi=>⟨xs,xs[i],h,by simp [hi]⟩⟩
theorem zkC {P:Program} {w:World} {K:W.Frag} {elts:List Expr} {x1:Nat} {pos:Pos} (a e it:Addr) (hei:e≠it):zgL P w K (.Tuple elts x1 pos) (Ite K a) [e,it] e (λi h=>(∃ old,IsEnum h e it ((i:Nat):Int) old)∧h.IsListIter it a i) where
 mem:=by simp
 obj:=λi h st b hb=>by
  obtain⟨⟨old,he⟩,o,ho,hc,hd⟩:=st
  rcases List.mem_cons.mp hb with rfl | hb
  ·exact⟨_,he,λv z=>by
    have z':Data.fields _=Data.cell v:=z
    cases z'⟩
  ·have e':=mSq hb
   subst e'
   exact⟨o,ho,λv z=>by rw[hd]at z;cases z⟩
 keep:=λi h h' st k=>⟨by
  obtain⟨old,he⟩:=st.1
  exact⟨old,k e (by simp) _ he⟩,st.2.at λo q=>k it (by simp) o q⟩
 item:=by
  intro X hP hw hK hc i pins s σ H E I hf st hg
  subst hP hw hK
  obtain⟨xs,x,hq,hx⟩:=hg
  obtain⟨its,rv,p,hz⟩:=I.list hq
  obtain⟨u,hu,ru⟩:=rv.get hx
  obtain⟨⟨old,he⟩,hit⟩:=st
  obtain⟨oi,hoi,hci,hdi⟩:=id hit
  refine wpAny_pyNext_enum_item he hit p.isList (x:=u) (by simpa using hu) hei λh' ho st' hT hsz hk=>?_
  refine⟨_,rfl,wpAny_letOwnedTupleGo_enum ho λh2 he2 hs2=>?_⟩
  replace hs2:Heap.SameBut e h' h2:=hs2
  have heH:e < s.heap.objs.size:=Heap.lt_size he
  have hiH:it < s.heap.objs.size:=Heap.lt_size hoi
  have hT2:h2.get? s.heap.objs.size=some { cls:=.type "tuple",data:=.seq #[.int i s.toks,u] }:=(hs2.2 _ (Nat.ne_of_gt heH)).trans hT
  have kk:∀ b o,b∉[e,it]→s.heap.get? b=some o→h2.get? b=some o:=λb o hb q=>by
   have hbe:b≠e:=λz=>hb (by simp [z])
   have hbi:b≠it:=λz=>hb (by simp [z])
   exact(hs2.2 b hbe).trans (hk b o hbe hbi q)
  have new:zaF X.prog X.w (upd H s.heap.objs.size (.tup [.int i,x])) h2 s.heap.objs.size (.tup [.int i,x]):=by
   refine⟨?_,[.int i s.toks,u],.cons ⟨_,rfl⟩ (.cons ru .nil),_,hT2,?_⟩
   ·exact Nat.le_of_lt (zaC (show 2≤1000 by decide))
   ·first | exact⟨rfl,rfl,_,rfl⟩ | exact⟨rfl,_,rfl⟩ | exact⟨rfl,rfl⟩
  refine⟨.ref s.heap.objs.size,_,I.turnedLaid (t':=s.toks+1) hf kk (nRq _) new,rfl,⟨_,x,rfl,I.fresh,rfl,λys hy=>by rw[I.list_inj hy hq];exact hx⟩,⟨⟨u,by simpa using he2⟩,?_⟩,?_⟩
  ·exact st'.at λo q=>(hs2.2 it (Ne.symm hei)).trans q
  ·intro b hb
   have hlt':b < s.heap.objs.size:=by
    rcases List.mem_cons.mp hb with rfl | hb
    ·exact heH
    ·rw[mSq hb];exact hiH
   rw[aD (Nat.ne_of_lt hlt')]
   exact(hf b hb).1
 done:=by
  intro X hP hw hK hc i pins s σ H E I hf st hg
  subst hP hw hK
  obtain⟨xs,hq,hx⟩:=hg
  obtain⟨its,rv,p,hz⟩:=I.list hq
  obtain⟨⟨old,he⟩,hit⟩:=st
  obtain⟨f0,f1,f2,f3,f4,f5⟩:=hf it (by simp)
  have hl:=rv.length
  exact wpAny_pyNext_enum_end (I.ok.hd hc) he hit p.isList (by simp;omega) λh' eb=>⟨rfl,I.turned (t':=s.toks) (λb o hb q=>eb b o hb q) f0 f1 f3 f4 f5⟩
 self:=λ_ _ _ _ _ st h=>by
  obtain⟨⟨old,he⟩,_⟩:=st
  exact wpAny_pyIter_enum he h
section
variable {X:Cx}
def iEnum (K:W.Frag) (ta:TA):TI:=λσ H R=>ta σ H λvs H1=>∃ a,vs=[.ref a]∧(∃ xs,SqL K H1 a xs)∧R (Ite K a) H1
theorem zjq {elts:List Expr} {x1:Nat} {pt:Pos} {a:Expr} {ta:TA} {p pos:Pos} (hg:Gl X "enumerate") (hm:X.mg "enumerate"=none) (ha:PA X [a] ta) (hs:starEach [a] X.env=[(false,eval a X.env)]:=by rfl):PI X (.Tuple elts x1 pt) (.Call (.Name "enumerate" p) [a] [] pos) (iEnum X.K ta):=by
 intro pins s σ H R I h
 refine Call_ (zdM I hg hm boot_enumerate (PyProof.Rows.callWith_type1 (thn (ha pos pins s σ H _ I h) λus s1 ⟨vs,H1,I1,r1,q1⟩=>?_) hs rfl))
 obtain⟨a,e,⟨xs,hq⟩,q⟩:=q1
 subst e
 obtain⟨u,rfl,ru⟩:=r1.one
 cases ru
 obtain⟨its,rv,p,hz⟩:=I1.list hq
 refine call_enumerate_list p.isList λh' he hit hz' kk=>?_
 refine wpAny_pyIter_enum he ?_
 have I2:Inv X pins σ H1 { s1 with heap:=h' }:=I1.kept (t':=s1.toks) kk
 refine⟨_,[s1.heap.objs.size+1,s1.heap.objs.size],_,Ite X.K a,H1,rfl,I2,zkC a (s1.heap.objs.size+1) s1.heap.objs.size (Nat.succ_ne_self _),⟨⟨_,he⟩,hit⟩,λb hb=>?_,q⟩
 have hle:s1.heap.objs.size≤b:=by
  rcases List.mem_cons.mp hb with rfl | hb
  ·omega
  ·rw[mSq hb];exact nRq _
 exact I1.fpOk hle (I1.hok.fresh hle)
inductive rIsT (K:W.Frag):List V→Hp→VK→Prop|m{xs H Q} p ys n b:xs=[.ref p,.ty n]→SqT K H p ys→W.kitOne K (.type "tuple") (.type n)=some b→Q (.bl b) H→rIsT K xs H Q
theorem zbi:zbv X (.builtin "isinstance") (rIsT X.K):=by
 intro pins s σ H xs us Q I r h
 obtain⟨p,ys,n,b,rfl,hq,hk,q⟩:=h
 obtain⟨u,w',rfl,rx,ry⟩:=zgi r
 cases (show w'=Value.type n from ry)
 cases rx
 obtain⟨its,rv,⟨o,h1,h2,_⟩,hz⟩:=I.tuple hq
 exact W.kia_one W.kitx_tuple I.kIn ⟨o,h1,h2⟩ hk (λz=>nomatch z) λtk=>⟨.bl b,H,I.tok _,rfl,q⟩
theorem zgg:zbv X (.builtin "isinstance") (λxs H Q=>∃ p ys n b,xs=[.ref p,.ty n]∧SqL X.K H p ys∧W.kitOne X.K (.type "list") (.type n)=some b∧Q (.bl b) H):=by
 intro pins s σ H xs us Q I r h
 obtain⟨p,ys,n,b,rfl,hq,hk,q⟩:=h
 obtain⟨u,w',rfl,rx,ry⟩:=zgi r
 cases (show w'=Value.type n from ry)
 cases rx
 obtain⟨its,rv,pp,hz⟩:=I.list hq
 obtain⟨o,h1,h2,_⟩:=pp.isList
 exact W.kia_one W.kitx_list I.kIn ⟨o,h1,h2⟩ hk (λz=>nomatch z) λtk=>⟨.bl b,H,I.tok _,rfl,q⟩
end
end L2
namespace L2
open PySem
def left (U hs:List Int):Nat:=(U.filter λp=>decide (p∉hs)).length
def ins {α:Type} (xs:List α) (i:Nat) (y:α):List α:=xs.take i++y :: xs.drop i
def zcA (d:Addr) (H H':Hp):Prop:=∀ b o,b≠d→H b=some o→H' b=some o
theorem zcA.refl (d:Addr) (H:Hp):zcA d H H:=λ_ _ _ h=>h
theorem zcA.trans {d:Addr} {H H1 H2:Hp} (a:zcA d H H1) (b:zcA d H1 H2):zcA d H H2:=λc o n h=>b c o n (a c o n h)
theorem ai.x {H H':Hp} (s:ai H H') (d:Addr):zcA d H H':=λb o _ h=>s b o h
theorem zcA.put {d:Addr} (H:Hp) (o:HO):zcA d H (upd H d o):=λb u n h=>by rw[aD n];exact h
theorem zcs.ne {H:Hp} {d l:Addr} {hs:List Int} {xs:List V} (h:zcs H d hs) (hl:H l=some (.lst xs)):l≠d:=λe=>by
 obtain⟨kvs,hk,_⟩:=h.ex
 rw[e,hk]at hl
 cases hl
theorem zcA.lst {d l:Addr} {H H':Hp} {hs:List Int} {xs:List V} (s:zcA d H H') (h:zcs H d hs) (hl:H l=some (.lst xs)):H' l=some (.lst xs):=s _ _ (h.ne hl) hl
end L2
namespace L2
open PySem PySem.Spec PyProof.Rows
section
variable {X:Cx}
end
end L2
namespace L2
open PySem PySem.Spec PyProof.Rows
section
variable {X:Cx} {tg:Expr}
end
end L2
namespace L2
open PySem PySem.Spec PyProof.Rows
set_option maxRecDepth 100000
section
variable {prog:Program} {w:World} {A:Around} {E:Value→Shared→Prop} {s:Shared} {J:Addr} {fp wr:List Addr} {G:Array GenState→Array GenState→Prop} {n:Nat} {P:Nat→Value→Prop} {St:Nat→Shared→Prop}
end
end L2
namespace L2
open PySem PySem.Spec PyProof.Rows
set_option maxRecDepth 100000
section
variable {prog:Program} {w:World} {A:Around} {R:Result→Shared→Prop} {J:Addr} {fp wr:List Addr} {n:Nat} {P:Nat→Value→Prop} {St:Nat→Heap→Prop} {kw:List (Str × Value)}
end
section
variable {prog:Program} {w:World} {A:Around} {E:Value→Shared→Prop} {s:Shared}
end
section
variable {X:Cx}
end
end L2
namespace HT
open PySem PyProof.Rows
section
variable {prog:Program} {w:World} {A:Around} {E:Value→Shared→Prop} {s:Shared}
theorem getItem_tuple_whole {t sl:Addr} {items:Array Value} {vl vu:Value} {lo hi:Option Int} {Q:Value→Shared→Prop} (ht:IsTup s.heap t items) (hs:s.heap.IsSliceOf sl vl vu .none) (pl:IsPart vl lo) (pu:IsPart vu hi)
  (hw:sIx items.size 0 lo=0∧sIx items.size items.size hi=items.size) (h:Q (.ref t) s):wpAny (model prog w) A (getItem (.ref t) (.ref sl)) Q E s:=by
 obtain⟨os,hos,hcs,hds⟩:=id hs
 have hTs:s.TypeIs (.ref sl) "slice":=⟨os,hos,hcs⟩
 unfold getItem
 try with_reducible refine wpAny_holding ?_
 first | refine wpAny_bind (wpAny_pure ?_) | skip
 refine wpAny_bind (wpAny_sequenceKey ht.typeIs (by decide) ?_)
 refine wpAny_bind (wpAny_callSpecial?_slot (name:=Str.ofString "__getitem__") ht.typeIs PyProof.Rows.slot_tuple_getitem
  (wpAny_call_entry PyProof.Rows.slot_tuple_getitem ht.typeIs entry_tuple_getitem ?_ (args_tuple_getitem _ _)))
 show wpAny _ _ (Builtin.Tuple.tupleItemsOf (.ref t) >>= _) _ _ s
 refine wpAny_bind (tupleItemsOf_ ht ?_)
 refine wpAny_bind (wpAny_typeOf hTs ?_)
 rw[if_pos (by decide)]
 refine wpAny_bind (zew hs pl pu ?_)
 have yes:(((sIx items.size 0 lo:Nat):Int) == 0&&(1:Int) == 1&&(sIx items.size items.size hi - sIx items.size 0 lo) == items.size)=true:=by
  rw[hw.1,hw.2]
  simp
 show wpAny _ _ (if(((sIx items.size 0 lo:Nat):Int) == 0&&(1:Int) == 1&&(sIx items.size items.size hi - sIx items.size 0 lo) == items.size)=true then _ else _) _ _ s
 rw[if_pos yes]
 refine wpAny_bind ?_
 unfold Builtin.Tuple.tupleIsExact
 refine wpAny_bind (wpAny_typeOf ht.typeIs (wpAny_pure ?_))
 rw[if_pos (by decide)]
 exact wpAny_bind (wpAny_rule (wpAny_pure ⟨_,rfl,wpAny_pure h⟩))
end
end HT
namespace L2
open PySem PySem.Spec PyProof.Rows
section
variable {X:Cx}
inductive zjM (K:W.Frag):V→Option Int→Option Int→Hp→VK→Prop|m{x lo hi H Q} a xs:x=.ref a→SqT K H a xs→(HT.sIx xs.length 0 lo=0∧HT.sIx xs.length xs.length hi=xs.length)→Q (.ref a) H→zjM K x lo hi H Q
theorem zmg:SlR X (zjM X.K):=by
 intro pins s σ H x v vl vu lo hi sl Q I rx hs pl pu h
 obtain⟨a,xs,rfl,hx,hw,q⟩:=h
 cases rx
 obtain⟨its,r,ht,hz⟩:=I.tuple hx
 have hlen:its.toArray.size=xs.length:=by rw[sAq];exact r.length.symm
 refine⟨"tuple",_,PyProof.Rows.slot_tuple_getitem.lookup,ht.typeIs,?_⟩
 exact HT.getItem_tuple_whole ht hs pl pu (by rw[hlen];exact hw) ⟨.ref a,H,I,rfl,q⟩
def rSlTA (K:W.Frag):V→Option Int→Option Int→Hp→VK→Prop:=λx lo hi H Q=>rSlT K x lo hi H Q∨zjM K x lo hi H Q
theorem zjh:SlR X (rSlTA X.K):=zeU.or zmg
end
end L2
namespace L2
open PySem PySem.Spec PyProof.Rows
section
variable {X:Cx} {tg:Expr}
end
end L2
namespace L2
open PySem PySem.Spec PyProof.Rows
set_option maxRecDepth 100000
section
variable {X:Cx}
end
end L2
namespace L2
open PySem PySem.Spec PyProof.Rows
set_option maxRecDepth 100000
section
variable {X:Cx}
def zmb (ta:TA):TE:=λσ H Q=>ta σ H λvs H1=>∃ j:Int,vs=[.int j]∧∀ r,H1 r=none→Q (.ref r) (upd H1 r (.rng 0 j))
theorem zhT {a:Expr} {ta:TA} {p pos:Pos} (hg:Gl X "range") (hm:X.mg "range"=none) (ha:PA X [a] ta) (hs:starEach [a] X.env=[(false,eval a X.env)]:=by rfl):PE X (.Call (.Name "range" p) [a] [] pos) (zmb ta):=by
 intro pins s σ H Q I h
 refine Call_ (zdM I hg hm boot_range (PyProof.Rows.callWith_type1 (thn (ha pos pins s σ H _ I h) λus s1 ⟨vs,H1,I1,r1,q1⟩=>?_) hs rfl))
 obtain⟨j,e,q⟩:=q1
 subst e
 cases r1 with
 | cons r rr =>
  cases rr
  obtain⟨t,rfl⟩:=r
  refine call_range_1 ?_
  refine⟨.ref s1.heap.objs.size,_,I1.laid (o:=.rng 0 j) (λb ob e=>Heap.get?_push_of_some _ e) (nRq _) ?_,rfl,q _ (I1.hok.fresh (nRq _))⟩
  exact⟨_,_,_,Heap.get?_push_size _ rfl⟩
theorem zfz (hc:X.calm=true):zbv X (.type "list") (λxs H Q=>∃ r j,xs=[.ref r]∧H r=some (.rng 0 j)∧0≤j∧j≤100000∧∀ l,H l=none→Q (.ref l) (upd H l (.lst (((List.range j.toNat).map λi:Nat=>(i:Int)).map V.int)))):=by
 intro pins s σ H xs us Q I r h
 obtain⟨r0,j,rfl,hr,j0,j1,q⟩:=h
 obtain⟨u,rfl,rx⟩:=zb6 r
 cases rx
 obtain⟨t1,t2,t3,e⟩:=I.hok r0 _ hr
 have en:Builtin.Range.rangeSize 0 j 1=((j.toNat:Nat):Int):=by rw[rangeSize_one];split <;> omega
 refine call_list_range (I.ok.hd hc) e (small_one (by omega) (by omega) (by omega) (by omega)) en (by omega) λh' tk acc c kp e2 its=>?_
 have al:acc.toList.length=j.toNat:=by rw[Array.length_toList];exact its.1
 have rel:aW (((List.range j.toNat).map λi:Nat=>(i:Int)).map V.int) acc.toList:=by
  have key:∀(n:Nat) (L:List Value) (o:Nat),L.length=n→(∀ i v,L[i]?=some v→∃ t,v=Value.int (0+(((o+i:Nat):Nat):Int) * 1) t)→aW (((List.range' o n).map λi:Nat=>(i:Int)).map V.int) L:=by
   intro n
   induction n with
   | zero =>
    intro L o hl _
    cases L with
    | nil=>exact .nil
    | cons _ _=>cases hl
   | succ n ih =>
    intro L o hl hv
    match L,hl with
    | x :: L,hl =>
     refine .cons ?_ (ih L (o+1) (by simpa using hl) λi v e=>?_)
     ·obtain⟨t,e⟩:=hv 0 x rfl
      exact⟨t,by rw[e];congr 1;show(0:Int)+((o+0:Nat):Int) * 1=(o:Int);omega⟩
     ·obtain⟨t,e'⟩:=hv (i+1) v e
      exact⟨t,by rw[e'];congr 1;omega⟩
  have:=key j.toNat acc.toList 0 al λi v e=>by
   obtain⟨t,e'⟩:=its.2 i v (by rw[←Array.getElem?_toList];exact e)
   exact⟨t,by rw[e',Nat.zero_add]⟩
  rw[List.range_eq_range']
  exact this
 refine⟨.ref s.heap.objs.size,_,I.laid (t':=tk) kp (nRq _) (show zaF X.prog X.w _ h' _ (.lst (((List.range j.toNat).map λi:Nat=>(i:Int)).map V.int)) from⟨?_,acc.toList,c,rel,by rw[Array.toArray_toList];exact e2⟩),rfl,q _ (I.hok.fresh (nRq _))⟩
 rw[lM,lM,List.length_range,sizeLine_eq]
 omega
end
end L2
namespace L2
open PySem
def loF (x y:Int):Int:=if y < x then y else x
def hiF (x y:Int):Int:=if y > x then y else x
def mrg (hd:Int→Int) (a b:Int):Int→Int:=λt=>if hd t=hiF (hd a) (hd b) then loF (hd a) (hd b) else hd t
structure Hd (N:Nat) (hd:Int→Int):Prop where
 idem:∀ t,hd (hd t)=hd t
 le:∀ t,hd t≤t
 rng:∀ t,hd t≠t→0≤hd t∧t < (N:Int)
theorem Hd.zero (N:Nat):Hd N (λt=>t):=⟨λ_=>rfl,λ_=>Int.le_refl _,λ_ h=>absurd rfl h⟩
theorem lohi (x y:Int):loF x y≤hiF x y∧((loF x y=x∧hiF x y=y)∨(loF x y=y∧hiF x y=x)):=by
 unfold loF hiF
 split <;> split <;> omega
theorem Hd.in' {N:Nat} {hd:Int→Int} (h:Hd N hd) {a:Int} (ha:0≤a∧a < (N:Int)):0≤hd a∧hd a < (N:Int):=by
 have h1:=h.le a
 by_cases e:hd a=a
 ·rw[e];exact ha
 ·have:=h.rng a e
  omega
theorem Hd.lo_id {N:Nat} {hd:Int→Int} (h:Hd N hd) (a b:Int):hd (loF (hd a) (hd b))=loF (hd a) (hd b):=by
 rcases(lohi (hd a) (hd b)).2 with ⟨e,_⟩ | ⟨e,_⟩ <;> rw[e] <;> exact h.idem _
theorem Hd.hi_id {N:Nat} {hd:Int→Int} (h:Hd N hd) (a b:Int):hd (hiF (hd a) (hd b))=hiF (hd a) (hd b):=by
 rcases(lohi (hd a) (hd b)).2 with ⟨_,e⟩ | ⟨_,e⟩ <;> rw[e] <;> exact h.idem _
theorem zkn {hd:Int→Int} {a b:Int} (e:loF (hd a) (hd b)=hiF (hd a) (hd b)):mrg hd a b=hd:=by
 funext t
 unfold mrg
 by_cases c:hd t=hiF (hd a) (hd b)
 ·rw[if_pos c,e,c]
 ·rw[if_neg c]
theorem Hd.mrg {N:Nat} {hd:Int→Int} (h:Hd N hd) {a b:Int} (ha:0≤a∧a < (N:Int)) (hb:0≤b∧b < (N:Int)):Hd N (mrg hd a b):=by
 have lh:=lohi (hd a) (hd b)
 have la:=h.in' ha
 have lb:=h.in' hb
 refine⟨λt=>?_,λt=>?_,λt=>?_⟩
 ·by_cases e:loF (hd a) (hd b)=hiF (hd a) (hd b)
  ·rw[zkn e]
   exact h.idem t
  ·unfold L2.mrg
   by_cases c:hd t=hiF (hd a) (hd b)
   ·rw[if_pos c,h.lo_id,if_neg e]
   ·rw[if_neg c,h.idem,if_neg c]
 ·unfold L2.mrg
  have:=h.le t
  split <;> omega
 ·unfold L2.mrg
  intro z
  by_cases c:hd t=hiF (hd a) (hd b)
  ·rw[if_pos c]at z ⊢
   refine⟨by omega,?_⟩
   by_cases w:hd t=t
   ·omega
   ·exact(h.rng t w).2
  ·rw[if_neg c]at z ⊢
   exact h.rng t z
theorem zmy {hd:Int→Int} {a b t u:Int}:mrg hd a b t=mrg hd a b u↔hd t=hd u∨(hd t=hd a∧hd u=hd b)∨(hd t=hd b∧hd u=hd a):=by
 have lh:=(lohi (hd a) (hd b)).2
 unfold mrg
 by_cases c:hd t=hiF (hd a) (hd b) <;> by_cases d:hd u=hiF (hd a) (hd b)
 ·rw[if_pos c,if_pos d]
  exact⟨λ_=>.inl (by rw[c,d]),λ_=>rfl⟩
 ·rw[if_pos c,if_neg d]
  rcases lh with ⟨e1,e2⟩ | ⟨e1,e2⟩ <;> rw[e1] <;> rw[e2]at c d
  ·exact⟨λz=>.inr (.inr ⟨c,z.symm⟩),λz=>z.elim (λz=>absurd (z.symm.trans c) d) λz=>z.elim (λz=>absurd z.2 d) λz=>z.2.symm⟩
  ·exact⟨λz=>.inr (.inl ⟨c,z.symm⟩),λz=>z.elim (λz=>absurd (z.symm.trans c) d) λz=>z.elim (λz=>z.2.symm) λz=>absurd z.2 d⟩
 ·rw[if_neg c,if_pos d]
  rcases lh with ⟨e1,e2⟩ | ⟨e1,e2⟩ <;> rw[e1] <;> rw[e2]at c d
  ·exact⟨λz=>.inr (.inl ⟨z,d⟩),λz=>z.elim (λz=>absurd (z.trans d) c) λz=>z.elim (λz=>z.1) λz=>absurd z.1 c⟩
  ·exact⟨λz=>.inr (.inr ⟨z,d⟩),λz=>z.elim (λz=>absurd (z.trans d) c) λz=>z.elim (λz=>absurd z.1 c) λz=>z.1⟩
 ·rw[if_neg c,if_neg d]
  rcases lh with ⟨e1,e2⟩ | ⟨e1,e2⟩ <;> rw[e2]at c d
  ·exact⟨.inl,λz=>z.elim id λz=>z.elim (λz=>absurd z.2 d) λz=>absurd z.1 c⟩
  ·exact⟨.inl,λz=>z.elim id λz=>z.elim (λz=>absurd z.1 c) λz=>absurd z.2 d⟩
abbrev Lk:=Int × Int × Int
theorem zfy:∀(n:Nat) {xs:List Int},xs.Nodup→(∀ x∈xs,0≤x∧x < (n:Int))→xs.length≤n
 | 0,[],_,_=>nRq _
 | 0,x :: xs,_,h=>by have:=h x List.mem_cons_self;omega
 | n+1,xs,nd,h=>by
  have q:=zfy n (nd.erase (n:Int)) (λx hx=>by
   have z:=(List.Nodup.mem_erase_iff nd).mp hx
   have:=h x z.2
   have:=z.1
   omega)
  rw[List.length_erase]at q
  split at q <;> omega
def dL (l:Lk):Dt:=.tup [.int l.1,.int l.2.1,.int l.2.2]
theorem has_dL {K:W.Frag} {H:Hp} {l:Lk} {v:V} (h:Has K H (dL l) v):∃ p,v=.ref p∧SqT K H p [.int l.1,.int l.2.1,.int l.2.2]:=by
 obtain⟨a,xs,rfl,h1,h2⟩:=h
 have e:=zcd (ns:=[l.1,l.2.1,l.2.2]) h2
 rw[e]at h1
 exact⟨a,rfl,h1⟩
theorem zaJ:∀ ls:List Lk,zbj (ls.map dL)=true
 | []=>by simp [zbj]
 | l :: ls=>by
  simp only[List.map_cons,zbj,dL,nol,Bool.true_and]
  exact zaJ ls
theorem zid {K:W.Frag} {H:Hp} {ls:List Lk} {xs:List V} {i:Nat} {x:V} (h:aj K H (ls.map dL) xs) (e:xs[i]?=some x):∃ l p,ls[i]?=some l∧x=.ref p∧SqT K H p [.int l.1,.int l.2.1,.int l.2.2]:=by
 obtain⟨d,h1,h2⟩:=h.get e
 rw[List.getElem?_map]at h1
 obtain⟨l,e1,e2⟩:=Option.map_eq_some_iff.mp h1
 rw[←e2]at h2
 obtain⟨p,e3,e4⟩:=has_dL h2
 exact⟨l,p,e1,e3,e4⟩
def Mem (H:Hp) (kg:List (Key × V)) (hd:Int→Int) (av:List Addr) (x:Int) (ms:List Int):Prop:=ms.Nodup∧(∀ t,t∈ms↔hd t=x)∧((zaT kg (Sum.inl x)=none∧ms=[x])∨∃ a,zaT kg (Sum.inl x)=some (.ref a)∧H a=some (.lst (ms.map V.int))∧a∉av)
structure GO (H:Hp) (C g ld gd:Addr) (N b:Nat) (hd:Int→Int) (av:List Addr):Prop where
 h:Hd N hd
 ne:ld≠gd
 ex:∃ dx kl kg,H g=some (.ins C dx [("least",.ref ld),("gathered",.ref gd)])∧H ld=some (.dK kl)∧H gd=some (.dK kg)∧(∀ t:Int,(zaT kl (Sum.inl t)).getD (.int t)=.int (hd t))∧(∀ x:Int,hd x=x→∃ ms:List Int,Mem H kg hd av x ms)∧kl.length≤b * N∧kg.length≤b
theorem GO.same {H H':Hp} {C g ld gd:Addr} {N b:Nat} {hd:Int→Int} {av:List Addr} (G:GO H C g ld gd N b hd av) (s:ai H H'):GO H' C g ld gd N b hd av:=by
 obtain⟨dx,kl,kg,h1,h2,h3,h4,h5,h6,h7⟩:=G.ex
 refine⟨G.h,G.ne,dx,kl,kg,s _ _ h1,s _ _ h2,s _ _ h3,h4,λx hx=>?_,h6,h7⟩
 obtain⟨ms,m1,m2,m3⟩:=h5 x hx
 refine⟨ms,m1,m2,?_⟩
 rcases m3 with m3 | ⟨a,m4,m5⟩
 ·exact .inl m3
 ·exact .inr ⟨a,m4,s _ _ m5.1,m5.2⟩
theorem GO.mono {H:Hp} {C g ld gd:Addr} {N b b':Nat} {hd:Int→Int} {av:List Addr} (G:GO H C g ld gd N b hd av) (h:b≤b'):GO H C g ld gd N b' hd av:=by
 obtain⟨dx,kl,kg,h1,h2,h3,h4,h5,h6,h7⟩:=G.ex
 exact⟨G.h,G.ne,dx,kl,kg,h1,h2,h3,h4,h5,Nat.le_trans h6 (Nat.mul_le_mul_right _ h),Nat.le_trans h7 h⟩
def zeA (ld gd:Addr) (H H':Hp):Prop:=∀ b o,b≠ld→b≠gd→H b=some o→H' b=some o
theorem zeA.trans {ld gd:Addr} {H H1 H2:Hp} (a:zeA ld gd H H1) (b:zeA ld gd H1 H2):zeA ld gd H H2:=λc o h1 h2 h=>b c o h1 h2 (a c o h1 h2 h)
theorem ai.g {ld gd:Addr} {H H':Hp} (s:ai H H'):zeA ld gd H H':=λb o _ _ h=>s b o h
theorem ai.ofG {ld gd:Addr} {H H1 H2:Hp} (s:ai H H1) (n1:H ld=none) (n2:H gd=none) (x:zeA ld gd H1 H2):ai H H2:=λb o hb=>x b o (λe=>by rw[e,n1]at hb;cases hb) (λe=>by rw[e,n2]at hb;cases hb) (s b o hb)
theorem zju {N:Nat} {hd:Int→Int} (h:Hd N hd) {x:Int} (hx:0≤x∧x < (N:Int)) {ms:List Int} (nd:ms.Nodup) (hm:∀ t,t∈ms↔hd t=x):ms.length≤N:=by
 refine zfy N nd λt ht=>?_
 have e:=(hm t).mp ht
 have:=h.le t
 by_cases c:hd t=t
 ·omega
 ·have:=h.rng t c
  omega
theorem GO.merged {H:Hp} {C g ld gd:Addr} {N b:Nat} {hd:Int→Int} {av:List Addr} {a c:Int} (h:Hd N hd) (ne:ld≠gd) (ha:0≤a∧a < (N:Int)) (hc:0≤c∧c < (N:Int)) (nlh:loF (hd a) (hd c)≠hiF (hd a) (hd c)) {dx:Addr} {kl kg:List (Key × V)} {p:Addr} {ml mh:List Int}
  (h1:H g=some (.ins C dx [("least",.ref ld),("gathered",.ref gd)])) (h2:H ld=some (.dK kl)) (h3:H gd=some (.dK (zbK kg (Sum.inl (loF (hd a) (hd c))) (.ref p)))) (h4:∀ t:Int,(zaT kl (Sum.inl t)).getD (.int t)=.int (if t∈mh then loF (hd a) (hd c) else hd t))
  (h5:∀ x:Int,hd x=x→∃ ms:List Int,Mem H kg hd av x ms) (l1:ml.Nodup) (l2:∀ t,t∈ml↔hd t=loF (hd a) (hd c)) (k1:mh.Nodup) (k2:∀ t,t∈mh↔hd t=hiF (hd a) (hd c)) (hp:H p=some (.lst ((ml++mh).map V.int))) (h6:kl.length≤b * N) (h7:kg.length+1≤b) (hpa:p∉av):GO H C g ld gd N b (mrg hd a c) av:=by
 refine⟨h.mrg ha hc,ne,dx,kl,_,h1,h2,h3,λt=>?_,λx hx=>?_,h6,Nat.le_trans (zfl _ _ _) h7⟩
 ·rw[h4]
  unfold mrg
  by_cases z:hd t=hiF (hd a) (hd c)
  ·rw[if_pos ((k2 t).mpr z),if_pos z]
  ·rw[if_neg (λw=>z ((k2 t).mp w)),if_neg z]
 ·by_cases z:x=loF (hd a) (hd c)
  ·subst z
   refine⟨ml++mh,List.nodup_append.mpr ⟨l1,k1,λu hu v hv e=>?_⟩,λt=>?_,.inr ⟨p,by rw[zfe,if_pos rfl],hp,hpa⟩⟩
   ·subst e
    have w1:=(l2 u).mp hu
    have w2:=(k2 u).mp hv
    exact nlh (w1.symm.trans w2)
   ·rw[List.mem_append,l2,k2]
    unfold mrg
    by_cases w:hd t=hiF (hd a) (hd c)
    ·rw[if_pos w]
     exact⟨λ_=>rfl,λ_=>.inr w⟩
    ·rw[if_neg w]
     exact⟨λy=>y.resolve_right w,.inl⟩
  ·have nx:hd x≠hiF (hd a) (hd c):=λw=>by
    unfold mrg at hx
    rw[if_pos w]at hx
    exact z hx.symm
   have ex:hd x=x:=by
    unfold mrg at hx
    rw[if_neg nx]at hx
    exact hx
   obtain⟨ms,m1,m2,m3⟩:=h5 x ex
   refine⟨ms,m1,λt=>?_,?_⟩
   ·rw[m2]
    unfold mrg
    by_cases w:hd t=hiF (hd a) (hd c)
    ·rw[if_pos w]
     exact⟨λy=>absurd (ex.trans (y.symm.trans w)) nx,λy=>absurd y.symm z⟩
    ·rw[if_neg w]
   ·rw[zfe,if_neg (λy=>z (by injection y))]
    exact m3
end L2
namespace L2
open PySem PySem.Spec PyProof.Rows
section
variable {P:Program} {w:World}
abbrev Sgn:=Str × List Key
def ziy (P:Program) (w:World) (h:Heap) (k:Sgn) (a:Addr):Prop :=
 ∃(o:Obj) (t:Tok) (q:Addr) (n:Nat),h.get? a=some o∧o.cls=.type "tuple"∧o.data=.seq #[.str k.1 t,.ref q] n∧IsTupleKey (za8 P w) h k.2 q
theorem ziy.inj {h:Heap} {a:Addr} {x y:Sgn} (hx:ziy P w h x a) (hy:ziy P w h y a):x=y:=by
 obtain⟨o,t,q,n,ho,_,hd,hi⟩:=hx
 obtain⟨o',t',q',n',ho',_,hd',hi'⟩:=hy
 cases ho.symm.trans ho'
 have e:=hd.symm.trans hd'
 injection e with e _
 have e2:[Value.str x.1 t,.ref q]=[Value.str y.1 t',.ref q']:=congrArg Array.toList e
 injection e2 with e3 e4
 injection e3 with e5 _
 injection e4 with e6 _
 injection e6 with e7
 subst e7
 exact Prod.ext e5 (hi.inj hi')
variable {A:Around} {E:Value→Shared→Prop} {s:Shared}
end
section
variable {prog:Program} {w:World} {K:Type} [DecidableEq K] {knd:HeapKind prog w K} {A:Around} {E:Value→Shared→Prop} {s:Shared}
end
end L2
namespace L2
open PySem PySem.Spec PyProof.Rows
section
variable {X:Cx}
end
end L2
namespace HT
open PySem PySem.Spec PyProof.Rows
section
variable {prog:Program} {w:World} {A:Around} {E:Value→Shared→Prop} {s:Shared}
end
end HT
namespace L2
open PySem PySem.Spec PyProof.Rows
section
variable {X:Cx} {e st:Expr} {te ts:TE} {pos p2:Pos}
end
end L2
namespace L2
open PySem PySem.Spec PyProof.Rows
section
variable {prog:Program} {w:World} {A:Around} {E:Value→Shared→Prop} {s:Shared}
theorem zcT {it t:Addr} {i:Nat} {items} {x:Value} {Q:Value→Shared→Prop} (hit:s.heap.IsTupleIter it t i) (ht:s.heap.IsTuple t items) (hx:items[i]?=some x)
  (hQ:∀ h',h'.IsTupleIter it t (i+1)→Heap.SameBut it s.heap h'→Q x { s with heap:=h' }):wpAny (model prog w) A (Builtin.SmallTypes.nextOf (.ref it)) Q E s:=by
 obtain⟨o,ho,hc,hd⟩:=id hit
 obtain⟨ol,hol,_,nl,hdl⟩:=ht
 unfold Builtin.SmallTypes.nextOf
 refine wpAny_bind (wpAny_callSpecial?_slot (name:=Str.ofString "__next__") hit.typeIs F.slot_tuple_iterator_next (wpAny_call_entry F.slot_tuple_iterator_next hit.typeIs F.entry_tuple_iterator_next ?_ (F.args_tuple_iterator_next_1 _)))
 show wpAny _ _ (field (.ref it) 0 >>= _) _ _ s
 refine wpAny_bind (wpAny_field ho hd (x:=.ref t) rfl ?_)
 show wpAny _ _ (if(Value.ref t == Value.none)=true then _ else _) _ _ s
 rw[if_neg (show ¬((Value.ref t == Value.none)=true) from Bool.false_ne_true)]
 show wpAny _ _ (field (.ref it) 1 >>= _) _ _ s
 refine wpAny_bind (wpAny_field ho hd (x:=.int i 0) rfl ?_)
 show wpAny _ _ (seqItems? (.ref t) >>= _) _ _ s
 refine wpAny_bind (wpAny_seqItems hol hdl ?_)
 simp only[Int.toNat_natCast,hx]
 refine wpAny_bind (wpAny_setField ho hd (by simp) (wpAny_pure ⟨x,rfl,wpAny_pure (hQ _ ?_ (Heap.SameBut.update ..))⟩))
 exact⟨_,Heap.get?_update_self _ ho (Obj.isFreed_of_fields (Obj.data_mapFields hd _)),(Obj.cls_mapFields ..).trans hc,by
  rw[Obj.data_mapFields hd];simp [rawInt]⟩
theorem zcW {it t:Addr} {i:Nat} {items} {Q:Value→Shared→Prop} (hh:A.handled=none) (hit:s.heap.IsTupleIter it t i) (ht:s.heap.IsTuple t items) (hx:items[i]?=none)
  (hE:∀ h' e,Heap.ExtBut it s.heap h'→(∃ o,h'.get? e=some o∧o.cls=.type "StopIteration")→E (.ref e) { s with heap:=h' }):wpAny (model prog w) A (Builtin.SmallTypes.nextOf (.ref it)) Q E s:=by
 obtain⟨o,ho,hc,hd⟩:=id hit
 obtain⟨ol,hol,_,nl,hdl⟩:=ht
 unfold Builtin.SmallTypes.nextOf
 refine wpAny_bind (wpAny_callSpecial?_slot (name:=Str.ofString "__next__") hit.typeIs F.slot_tuple_iterator_next (wpAny_call_entry F.slot_tuple_iterator_next hit.typeIs F.entry_tuple_iterator_next ?_ (F.args_tuple_iterator_next_1 _)))
 show wpAny _ _ (field (.ref it) 0 >>= _) _ _ s
 refine wpAny_bind (wpAny_field ho hd (x:=.ref t) rfl ?_)
 show wpAny _ _ (if(Value.ref t == Value.none)=true then _ else _) _ _ s
 rw[if_neg (show ¬((Value.ref t == Value.none)=true) from Bool.false_ne_true)]
 show wpAny _ _ (field (.ref it) 1 >>= _) _ _ s
 refine wpAny_bind (wpAny_field ho hd (x:=.int i 0) rfl ?_)
 show wpAny _ _ (seqItems? (.ref t) >>= _) _ _ s
 refine wpAny_bind (wpAny_seqItems hol hdl ?_)
 simp only[Int.toNat_natCast,hx]
 refine wpAny_bind (wpAny_rule (wpAny_bind (wpAny_setField ho hd (by simp) ?_)))
 show wpAny _ _ (newExc (.type "StopIteration") [] >>= _) _ _ _
 refine wpAny_bind ?_
 simp only[newExc,newTuple]
 refine wpAny_bind (wpAny_newObj_type ?_ (by size_fits))
 refine wpAny_bind (m:=firstArgMember _ _) (wpAny_of_eq (a:=Value.none) (by first | rfl | (simp only[firstArgMember];rfl)) ?_)
 refine wpAny_newObj_type ?_ (by size_fits)
 simp only[raiseNew]
 refine wpAny_bind (wpAny_handled ?_)
 first | rw[show A.in1.handled=none from hh] | rw[hh]
 refine wpAny_bind (wpAny_pure (wpAny_throw ?_))
 exact hE _ _ (((Heap.SameBut.update ..).extBut.push _).push _) ⟨_,Heap.get?_push_size _ rfl,rfl⟩
def TuI (h:Heap) (it t:Addr) (i:Nat) (xs:Array Value):Prop:=h.IsTupleIter it t i∧h.IsTuple t xs
theorem TuI.ext {h h':Heap} {it t b:Addr} {i:Nat} {xs:Array Value} (x:TuI h it t i xs) (hs:Heap.ExtBut b h h') (h1:it≠b) (h2:t≠b):TuI h' it t i xs:=⟨x.1.extBut hs h1,x.2.extBut hs h2⟩
end
abbrev zpT1 (h:Heap) (l1:Addr):Heap:=h.push { cls:=.type "tuple_iterator",data:=.fields #[.ref l1,.int 0 0] }
abbrev zpT2 (h:Heap) (l1 l2:Addr):Heap:=(zpT1 h l1).push { cls:=.type "tuple_iterator",data:=.fields #[.ref l2,.int 0 0] }
abbrev zpT3 (h:Heap) (l1 l2:Addr):Heap:=(zpT2 h l1 l2).push { cls:=.type "tuple",data:=.seq #[.ref h.objs.size,.ref (zpT1 h l1).objs.size] }
abbrev zpT4 (h:Heap) (l1 l2:Addr):Heap:=(zpT3 h l1 l2).push { cls:=.type "tuple",data:=.seq #[.none,.none] }
abbrev zfA (h:Heap) (l1 l2:Addr):Heap:=(zpT4 h l1 l2).push { cls:=.type "zip",data:=.fields #[.none,.bool false,.bool false,.ref (zpT2 h l1 l2).objs.size,.ref (zpT3 h l1 l2).objs.size] }
theorem zj0 (l1 l2:Addr) (xs ys:Array Value) :
  Meets (Builtin.«zip.__new__» ⟨[.type "zip",.ref l1,.ref l2],[]⟩) (λ_ R s=>s.heap.IsTuple l1 xs∧s.heap.IsTuple l2 ys∧R (.ok (.ret (.ref (zpT4 s.heap l1 l2).objs.size))) { s with heap:=zfA s.heap l1 l2 }) :=
 .of_wp λprog w A R s h=>by
  obtain⟨hp,g,d,tk,os⟩:=s;obtain⟨hl1,hl2,h⟩:=h
  have hsub:=sub_zip
  have hL1:Heap.IsTuple (Shared.heap ⟨hp,g,d,tk,os⟩) l1 xs:=hl1
  have hL2:Heap.IsTuple (Shared.heap ⟨hp.push { cls:=.type "tuple_iterator",data:=.fields #[.ref l1,.int 0 0] },g,d,tk,os⟩) l2 ys:=Heap.IsTuple.push hl2 _
  wp_walk using wpAny_pyIter_tuple hL1,wpAny_pyIter_tuple hL2
  exact⟨_,rfl,h⟩
section
variable {prog:Program} {w:World} {A:Around} {E:Value→Shared→Prop} {s:Shared}
theorem zlf {l1 l2:Addr} {xs ys:Array Value} {Q:Value→Shared→Prop} (hl1:s.heap.IsTuple l1 xs) (hl2:s.heap.IsTuple l2 ys)
  (h:∀ h',IsZip h' (s.heap.objs.size+4) (s.heap.objs.size+2) (s.heap.objs.size+3) .none→IsPair h' (s.heap.objs.size+2) (.ref s.heap.objs.size) (.ref (s.heap.objs.size+1)) →
   IsPair h' (s.heap.objs.size+3) .none .none→h'.IsTupleIter s.heap.objs.size l1 0→h'.IsTupleIter (s.heap.objs.size+1) l2 0→h'.objs.size=s.heap.objs.size+5 →
   (∀ c o,s.heap.get? c=some o→h'.get? c=some o)→Q (.ref (s.heap.objs.size+4)) { s with heap:=h' }) :
  wpAny (model prog w) A (call (.type "zip") [.ref l1,.ref l2]) Q E s:=by
 refine callType_new F.called_zip (by decide) (F.typeCall_zip_2 _ _) (F.newCall_zip_2 _ _) (λobj=>F.args_object_init_3 obj _ _) F.entry_zip_new (zj0 l1 l2 xs ys) ⟨hl1,hl2,?_⟩
 have z1:(zpT1 s.heap l1).objs.size=s.heap.objs.size+1:=Heap.size_push ..
 have z2:(zpT2 s.heap l1 l2).objs.size=s.heap.objs.size+2:=by rw[Heap.size_push,z1]
 have z3:(zpT3 s.heap l1 l2).objs.size=s.heap.objs.size+3:=by rw[Heap.size_push,z2]
 have z4:(zpT4 s.heap l1 l2).objs.size=s.heap.objs.size+4:=by rw[Heap.size_push,z3]
 have z5:(zfA s.heap l1 l2).objs.size=s.heap.objs.size+5:=by rw[Heap.size_push,z4]
 have g5:(zfA s.heap l1 l2).get? (zpT4 s.heap l1 l2).objs.size=some _:=Heap.get?_push_size _ rfl
 have g4:(zfA s.heap l1 l2).get? (zpT3 s.heap l1 l2).objs.size=some _:=Heap.get?_push_of_some _ (Heap.get?_push_size _ rfl)
 have g3:(zfA s.heap l1 l2).get? (zpT2 s.heap l1 l2).objs.size=some _:=Heap.get?_push_of_some _ (Heap.get?_push_of_some _ (Heap.get?_push_size _ rfl))
 have g2:(zfA s.heap l1 l2).get? (zpT1 s.heap l1).objs.size=some _:=Heap.get?_push_of_some _ (Heap.get?_push_of_some _ (Heap.get?_push_of_some _ (Heap.get?_push_size _ rfl)))
 have g1:(zfA s.heap l1 l2).get? s.heap.objs.size=some _:=Heap.get?_push_of_some _ (Heap.get?_push_of_some _ (Heap.get?_push_of_some _ (Heap.get?_push_of_some _ (Heap.get?_push_size _ rfl))))
 have kk:∀ c o,s.heap.get? c=some o→(zfA s.heap l1 l2).get? c=some o:=λc o e=>Heap.get?_push_of_some _ (Heap.get?_push_of_some _ (Heap.get?_push_of_some _ (Heap.get?_push_of_some _ (Heap.get?_push_of_some _ e))))
 show _∧_
 rw[z2,z3,z4]at g5
 rw[z1,z2]at g3
 rw[z3]at g4
 rw[z1]at g2
 rw[z4]
 exact⟨⟨_,g5,rfl⟩,h _ g5 g3 g4 ⟨_,g1,rfl,rfl⟩ ⟨_,g2,rfl,rfl⟩ z5 kk⟩
end
def ItzT (K:W.Frag) (a b:Addr):It :=
 ⟨λi H=>∃ xs ys x y,SqT K H a xs∧SqT K H b ys∧xs[i]?=some x∧ys[i]?=some y,λi H x H'=>∃ p y z,x=.ref p∧H p=none∧H'=upd H p (.tup [y,z])∧(∀ xs,SqT K H a xs→xs[i]?=some y)∧∀ ys,SqT K H b ys→ys[i]?=some z,
  λi H=>∃ xs ys,SqT K H a xs∧SqT K H b ys∧(xs.length≤i∨ys.length≤i)⟩
theorem zl8 {K:W.Frag} {a b:Addr} {xs ys:List V} (h:xs.length=ys.length):Wk (ItzT K a b) xs.length (λH=>SqT K H a xs∧SqT K H b ys) :=
 ⟨λ_ _ q hi=>⟨xs,ys,q.1,q.2,.inl hi⟩,λi _ q hi=>⟨xs,ys,xs[i],ys[i]'(by omega),q.1,q.2,by simp [hi],by simp⟩⟩
def iZipT (K:W.Frag) (ta:TA):L2.TI:=λσ H R=>ta σ H λvs H1=>∃ a b,vs=[.ref a,.ref b]∧(∃ xs,SqT K H1 a xs)∧(∃ ys,SqT K H1 b ys)∧R (ItzT K a b) H1
end L2
namespace L2
open PySem PySem.Spec PyProof.Rows
section
variable {X:Cx}
end
end L2
namespace L2
open PySem PySem.Spec PyProof.Rows
section
variable {X:Cx}
theorem zge:zbv X (.builtin "sorted") (λxs H Q=>∃(p:Addr) (ns:List Int),xs=[.ref p]∧SqL X.K H p (ns.map V.int)∧ns.length < 64∧∀(l:Addr) (ms:List Int),H l=none→ms.Perm ns→ms.Pairwise (·≤·)→Q (.ref l) (upd H l (.lst (ms.map V.int)))):=by
 intro pins s σ H xs us Q I r h
 obtain⟨p,ns,rfl,hq,h64,q⟩:=h
 obtain⟨u,rfl,rx⟩:=zb6 r
 cases rx
 obtain⟨its,r',pl,hz⟩:=I.list hq
 have hi:=zj7 r'
 have hlen:=r'.length
 rw[lM]at hlen
 refine sorted_ints pl.isList hi (by omega) λout ms a1 a2 a3=>?_
 obtain⟨e,he⟩:=sortedAll_at s.heap its out
 have ml:=a2.length_eq
 exact⟨.ref (s.heap.objs.size+1),_,I.laid (t':=s.toks) (λb o hb=>sortedAll_old hb) (Nat.le_succ _) (show zaF X.prog X.w _ _ _ (.lst (ms.map V.int)) from⟨Nat.le_of_lt (zaC (by rw[lM];omega)),out.toList,e,zfJ a1,he⟩),rfl,q _ ms (I.hok.fresh (Nat.le_succ _)) a2 a3⟩
end
end L2
namespace L2
open PySem PySem.Spec PyProof.Rows
abbrev zcq (h:Heap) (z TI TO:Addr) (m:Value) (f:Bool):Prop :=
 h.get? z=some { cls:=.type "zip",dict:=none,data:=.fields #[m,.bool f,.bool false,.ref TI,.ref TO],slots:=#[] }
def MkZ (m:Value):Prop:=m=.none∨∃ n:Nat,m=rawInt n
section
variable {prog:Program} {w:World} {A:Around} {E:Value→Shared→Prop} {s:Shared}
theorem alive_ {a:Addr} {Q:Option Obj→Shared→Prop} (h:Q (s.heap.get? a) s):wpAny (model prog w) A (loadIfAlive a) Q E s:=λ_ _ _=>h
theorem zhU {z TI TO:Addr} {m:Value} {f:Bool} {Q:Bool→Shared→Prop} (hz:zcq s.heap z TI TO m f) (hm:MkZ m) (h1:Q true s)
  (h2:∀ h',zcq h' z TI TO m true→Heap.SameBut z s.heap h'→Q false { s with heap:=h' }):wpAny (model prog w) A (Builtin.SmallTypes.ownedTupleIsFree (.ref z)) Q E s:=by
 unfold Builtin.SmallTypes.ownedTupleIsFree
 rcases hm with rfl | ⟨n,rfl⟩
 ·exact wpAny_bind (wpAny_field hz rfl (x:=.none) rfl (wpAny_pure h1))
 ·refine wpAny_bind (wpAny_field hz rfl (x:=rawInt n) rfl ?_)
  show wpAny _ _ (loadIfAlive (Int.toNat (n:Int)) >>= _) _ _ _
  refine wpAny_bind (alive_ ?_)
  cases s.heap.get? (Int.toNat (n:Int)) with
  | none=>exact wpAny_pure h1
  | some o =>
   show wpAny _ _ (field (.ref z) 1 >>= _) _ _ _
   refine wpAny_bind (wpAny_field hz rfl (x:=.bool f) rfl ?_)
   cases f with
   | true=>exact wpAny_pure (h2 _ hz ⟨rfl,λ_ _=>rfl⟩)
   | false =>
    show wpAny _ _ (setField (.ref z) 1 (.bool true) >>= _) _ _ _
    exact wpAny_bind (wpAny_setField_rec hz (by simp) λh' hz' hs'=>wpAny_pure (h2 _ hz' hs'))
theorem zkz {z TI' TO i1 i2 l1 l2:Addr} {k1 k2:Nat} {m:Value} {f:Bool} {xs ys:Array Value} {x y a b:Value} {Q:Value→Shared→Prop} (D:ZipApart z TI' TO i1 i2 l1 l2)
  (hz:zcq s.heap z TI' TO m f) (hm:MkZ m) (hTI:IsPair s.heap TI' (.ref i1) (.ref i2)) (hTO:IsPair s.heap TO a b) (h1:TuI s.heap i1 l1 k1 xs) (h2:TuI s.heap i2 l2 k2 ys) (hx:xs[k1]?=some x) (hy:ys[k2]?=some y)
  (hQ:∀ h',(∃ m' f',MkZ m'∧zcq h' z TI' TO m' f')→(∃ u v,IsPair h' TO u v)→h'.IsTupleIter i1 l1 (k1+1)→h'.IsTupleIter i2 l2 (k2+1)→IsPair h' s.heap.objs.size x y→h'.objs.size=s.heap.objs.size+1 →
   (∀ c o,c≠z→c≠TO→c≠i1→c≠i2→s.heap.get? c=some o→h'.get? c=some o)→Q (.ref s.heap.objs.size) { s with heap:=h' }) :
  wpAny (model prog w) A (Builtin.«zip.__next__» ⟨[.ref z],[]⟩) (λfin s'=>∃ v,fin=.done (.ret v)∧Q v s') E s:=by
 show wpAny _ _ (field (.ref z) 2 >>= _) _ _ _
 refine wpAny_bind (wpAny_field hz rfl (x:=.bool false) rfl ?_)
 show wpAny _ _ (field (.ref z) 3 >>= _) _ _ _
 refine wpAny_bind (wpAny_field hz rfl (x:=.ref TI') rfl ?_)
 refine wpAny_bind (wpAny_seqItems hTI rfl ?_)
 show wpAny _ _ (Builtin.SmallTypes.ownedTupleIsFree (.ref z) >>= _) _ _ _
 refine wpAny_bind (zhU hz hm ?_ λh₁ hz₁ hs₁=>?_)
 ·simp only[if_true]
  refine wpAny_bind (wpAny_rule ?_)
  refine wpAny_bind (wpAny_field hz rfl (x:=.ref TO) rfl ?_)
  refine wpAny_bind (wpAny_setField_rec hz (by simp) λh₁ hz₁ hs₁=>?_)
  replace hz₁:zcq h₁ z TI' TO .ellipsis f:=hz₁
  refine wpAny_bind ?_
  simp only[List.zipIdx_cons,List.zipIdx_nil,List.forIn_cons,List.forIn_nil]
  refine wpAny_bind (wpAny_bind (wpAny_onRaise ?_))
  show wpAny _ _ (Builtin.SmallTypes.nextOf (.ref i1) >>= _) _ _ _
  have a1:=h1.ext hs₁.extBut D.i1z D.l1z
  refine wpAny_bind (zcT a1.1 a1.2 hx λh₂ h1₂ hs₂=>wpAny_pure ?_)
  have hTO₂:IsPair h₂ TO a b:=hs₂.extBut _ _ D.TOi1 (hs₁.extBut _ _ D.TOz hTO)
  refine wpAny_bind (wpAny_seqItems hTO₂ rfl ?_)
  refine wpAny_bind (wpAny_updateSeq_pair hTO₂ λh₃ hTO₃ hs₃=>?_)
  replace hTO₃:IsPair h₃ TO x b:=hTO₃
  refine wpAny_bind (wpAny_letGo (wpAny_pure ?_))
  refine wpAny_bind (wpAny_bind (wpAny_onRaise ?_))
  show wpAny _ _ (Builtin.SmallTypes.nextOf (.ref i2) >>= _) _ _ _
  have a2:=((h2.ext hs₁.extBut D.i2z D.l2z).ext hs₂.extBut D.i12.symm D.l2i1).ext hs₃.extBut D.TOi2.symm D.l2TO
  refine wpAny_bind (zcT a2.1 a2.2 hy λh₄ h2₄ hs₄=>wpAny_pure ?_)
  have hTO₄:IsPair h₄ TO x b:=hs₄.extBut _ _ D.TOi2 hTO₃
  refine wpAny_bind (wpAny_seqItems hTO₄ rfl ?_)
  refine wpAny_bind (wpAny_updateSeq_pair hTO₄ λh₅ hTO₅ hs₅=>?_)
  replace hTO₅:IsPair h₅ TO x y:=hTO₅
  refine wpAny_bind (wpAny_letGo (wpAny_pure (wpAny_pure ?_)))
  refine wpAny_bind (wpAny_seqItems hTO₅ rfl ?_)
  refine wpAny_bind (wpAny_newTuple ?_)
  have hsz:h₅.objs.size=s.heap.objs.size:=by rw[hs₅.1,hs₄.1,hs₃.1,hs₂.1,hs₁.1]
  have hz₅:zcq h₅ z TI' TO .ellipsis f:=hs₅.extBut _ _ D.TOz.symm (hs₄.extBut _ _ D.i2z.symm (hs₃.extBut _ _ D.TOz.symm (hs₂.extBut _ _ D.i1z.symm hz₁)))
  have hk₅:∀ c o,c≠z→c≠TO→c≠i1→c≠i2→s.heap.get? c=some o→h₅.get? c=some o:=λc o c1 c2 c3 c4 e =>
   hs₅.extBut _ _ c2 (hs₄.extBut _ _ c4 (hs₃.extBut _ _ c2 (hs₂.extBut _ _ c3 (hs₁.extBut _ _ c1 e))))
  have h1₅:h₅.IsTupleIter i1 l1 (k1+1):=((h1₂.extBut hs₃.extBut D.TOi1.symm).extBut hs₄.extBut D.i12).extBut hs₅.extBut D.TOi1.symm
  have h2₅:h₅.IsTupleIter i2 l2 (k2+1):=h2₄.extBut hs₅.extBut D.TOi2.symm
  have hzlt:z < h₅.objs.size:=Heap.lt_size hz₅
  show wpAny _ _ (Builtin.SmallTypes.ownedTupleHandOut (.ref z) (.ref h₅.objs.size) >>= _) _ _ _
  refine wpAny_bind ?_
  unfold Builtin.SmallTypes.ownedTupleHandOut
  have hz₆:zcq (h₅.push { cls:=.type "tuple",data:=.seq #[x,y] }) z TI' TO .ellipsis f:=Heap.get?_push_of_some _ hz₅
  refine wpAny_bind (wpAny_setField_rec hz₆ (by simp) λh₇ hz₇ hs₇=>?_)
  replace hz₇:zcq h₇ z TI' TO (rawInt h₅.objs.size) f:=hz₇
  refine wpAny_setField_rec hz₇ (by simp) λh₈ hz₈ hs₈=>?_
  replace hz₈:zcq h₈ z TI' TO (rawInt h₅.objs.size) false:=hz₈
  have up:∀ c o,c≠z→h₅.get? c=some o→h₈.get? c=some o:=λc o c1 e=>hs₈.extBut _ _ c1 (hs₇.extBut _ _ c1 (Heap.get?_push_of_some _ e))
  have hT₈:IsPair h₈ h₅.objs.size x y:=hs₈.extBut _ _ (Nat.ne_of_gt hzlt) (hs₇.extBut _ _ (Nat.ne_of_gt hzlt) (Heap.get?_push_size _ rfl))
  have hz8:h₈.objs.size=h₅.objs.size+1:=by rw[hs₈.1,hs₇.1,Heap.size_push]
  rw[hsz]at hz₈ hT₈ hz8
  refine wpAny_pure ⟨_,rfl,?_⟩
  show Q (.ref h₅.objs.size) _
  rw[hsz]
  exact hQ h₈ ⟨_,_,.inr ⟨_,rfl⟩,hz₈⟩ ⟨_,_,up _ _ D.TOz hTO₅⟩ (h1₅.at λo e=>up _ o D.i1z e) (h2₅.at λo e=>up _ o D.i2z e) hT₈ hz8 λc o c1 c2 c3 c4 e=>up c o c1 (hk₅ c o c1 c2 c3 c4 e)
 ·simp only[Bool.false_eq_true,if_false]
  refine wpAny_bind ?_
  simp only[List.forIn_toArray,List.forIn_cons,List.forIn_nil]
  have a1:=h1.ext hs₁.extBut D.i1z D.l1z
  refine wpAny_bind (wpAny_bind (wpAny_holding ?_))
  show wpAny _ _ (Builtin.SmallTypes.nextOf (.ref i1) >>= _) _ _ _
  refine wpAny_bind (zcT a1.1 a1.2 hx λh₂ h1₂ hs₂=>wpAny_pure (wpAny_pure ?_))
  have a2:=(h2.ext hs₁.extBut D.i2z D.l2z).ext hs₂.extBut D.i12.symm D.l2i1
  refine wpAny_bind (wpAny_bind (wpAny_holding ?_))
  show wpAny _ _ (Builtin.SmallTypes.nextOf (.ref i2) >>= _) _ _ _
  refine wpAny_bind (zcT a2.1 a2.2 hy λh₃ h2₃ hs₃=>wpAny_pure (wpAny_pure (wpAny_pure ?_)))
  show wpAny _ _ (newTuple [x,y] >>= _) _ _ _
  refine wpAny_bind (wpAny_newTuple (wpAny_pure ⟨_,rfl,?_⟩))
  have hsz:h₃.objs.size=s.heap.objs.size:=by rw[hs₃.1,hs₂.1,hs₁.1]
  have kk:∀ c o,c≠z→c≠i1→c≠i2→s.heap.get? c=some o→(h₃.push { cls:=.type "tuple",data:=.seq #[x,y] }).get? c=some o:=λc o c1 c3 c4 e =>
   Heap.get?_push_of_some _ (hs₃.extBut _ _ c4 (hs₂.extBut _ _ c3 (hs₁.extBut _ _ c1 e)))
  have hT:IsPair (h₃.push { cls:=.type "tuple",data:=.seq #[x,y] }) h₃.objs.size x y:=Heap.get?_push_size _ rfl
  show Q (.ref h₃.objs.size) _
  rw[hsz]at hT ⊢
  refine hQ _ ⟨_,_,hm,Heap.get?_push_of_some _ (hs₃.extBut _ _ D.i2z.symm (hs₂.extBut _ _ D.i1z.symm hz₁))⟩ ⟨_,_,kk _ _ D.TOz D.TOi1 D.TOi2 hTO⟩ ?_ ?_ hT (by rw[Heap.size_push,hsz]) λc o c1 _ c3 c4 e=>kk c o c1 c3 c4 e
  ·exact(h1₂.extBut hs₃.extBut D.i12).at λo e=>Heap.get?_push_of_some _ e
  ·exact h2₃.at λo e=>Heap.get?_push_of_some _ e
theorem zlm {z TI' TO i1 i2 l1 l2:Addr} {k1 k2:Nat} {m:Value} {f:Bool} {xs ys:Array Value} {a b:Value} {Q:Fin→Shared→Prop} (hh:A.handled=none) (D:ZipApart z TI' TO i1 i2 l1 l2)
  (hz:zcq s.heap z TI' TO m f) (hm:MkZ m) (hTI:IsPair s.heap TI' (.ref i1) (.ref i2)) (hTO:IsPair s.heap TO a b) (h1:TuI s.heap i1 l1 k1 xs) (h2:TuI s.heap i2 l2 k2 ys) (hend:xs[k1]?=none∨ys[k2]?=none)
  (hE:∀ h' e,(∀ c o,c≠z→c≠TO→c≠i1→c≠i2→s.heap.get? c=some o→h'.get? c=some o)→(∃ o,h'.get? e=some o∧o.cls=.type "StopIteration")→E (.ref e) { s with heap:=h' }) :
  wpAny (model prog w) A (Builtin.«zip.__next__» ⟨[.ref z],[]⟩) Q E s:=by
 show wpAny _ _ (field (.ref z) 2 >>= _) _ _ _
 refine wpAny_bind (wpAny_field hz rfl (x:=.bool false) rfl ?_)
 show wpAny _ _ (field (.ref z) 3 >>= _) _ _ _
 refine wpAny_bind (wpAny_field hz rfl (x:=.ref TI') rfl ?_)
 refine wpAny_bind (wpAny_seqItems hTI rfl ?_)
 show wpAny _ _ (Builtin.SmallTypes.ownedTupleIsFree (.ref z) >>= _) _ _ _
 refine wpAny_bind (zhU hz hm ?_ λh₁ hz₁ hs₁=>?_)
 ·simp only[if_true]
  refine wpAny_bind (wpAny_rule ?_)
  refine wpAny_bind (wpAny_field hz rfl (x:=.ref TO) rfl ?_)
  refine wpAny_bind (wpAny_setField_rec hz (by simp) λh₁ hz₁ hs₁=>?_)
  replace hz₁:zcq h₁ z TI' TO .ellipsis f:=hz₁
  refine wpAny_bind ?_
  simp only[List.zipIdx_cons,List.zipIdx_nil,List.forIn_cons,List.forIn_nil]
  refine wpAny_bind (wpAny_bind (wpAny_onRaise ?_))
  show wpAny _ _ (Builtin.SmallTypes.nextOf (.ref i1) >>= _) _ _ _
  have a1:=h1.ext hs₁.extBut D.i1z D.l1z
  cases hx:xs[k1]? with
  | none =>
   refine wpAny_bind (zcW hh a1.1 a1.2 hx λh₂ e hs₂ he=>?_)
   obtain⟨oe,hoe,hce⟩:=he
   have hz₂:zcq h₂ z TI' TO .ellipsis f:=hs₂ _ _ D.i1z.symm hz₁
   have hez:e≠z:=λx=>by subst x;rw[hz₂]at hoe;cases hoe;simp at hce
   refine wpAny_setField_rec hz₂ (by simp) λh₃ _ hs₃=>hE h₃ e (λc o c1 _ c3 _ x=>hs₃.extBut _ _ c1 (hs₂ _ _ c3 (hs₁.extBut _ _ c1 x))) ⟨oe,hs₃.extBut _ _ hez hoe,hce⟩
  | some x =>
   have hy:ys[k2]?=none:=by rcases hend with h | h;rw[hx]at h;cases h;exact h
   refine wpAny_bind (zcT a1.1 a1.2 hx λh₂ h1₂ hs₂=>wpAny_pure ?_)
   have hTO₂:IsPair h₂ TO a b:=hs₂.extBut _ _ D.TOi1 (hs₁.extBut _ _ D.TOz hTO)
   refine wpAny_bind (wpAny_seqItems hTO₂ rfl ?_)
   refine wpAny_bind (wpAny_updateSeq_pair hTO₂ λh₃ hTO₃ hs₃=>?_)
   refine wpAny_bind (wpAny_letGo (wpAny_pure ?_))
   refine wpAny_bind (wpAny_bind (wpAny_onRaise ?_))
   show wpAny _ _ (Builtin.SmallTypes.nextOf (.ref i2) >>= _) _ _ _
   have a2:=((h2.ext hs₁.extBut D.i2z D.l2z).ext hs₂.extBut D.i12.symm D.l2i1).ext hs₃.extBut D.TOi2.symm D.l2TO
   refine wpAny_bind (zcW hh a2.1 a2.2 hy λh₄ e hs₄ he=>?_)
   obtain⟨oe,hoe,hce⟩:=he
   have hz₄:zcq h₄ z TI' TO .ellipsis f:=hs₄ _ _ D.i2z.symm (hs₃.extBut _ _ D.TOz.symm (hs₂.extBut _ _ D.i1z.symm hz₁))
   have hez:e≠z:=λx=>by subst x;rw[hz₄]at hoe;cases hoe;simp at hce
   refine wpAny_setField_rec hz₄ (by simp) λh₅ _ hs₅=>hE h₅ e (λc o c1 c2 c3 c4 x=>hs₅.extBut _ _ c1 (hs₄ _ _ c4 (hs₃.extBut _ _ c2 (hs₂.extBut _ _ c3 (hs₁.extBut _ _ c1 x))))) ⟨oe,hs₅.extBut _ _ hez hoe,hce⟩
 ·simp only[Bool.false_eq_true,if_false]
  refine wpAny_bind ?_
  simp only[List.forIn_toArray,List.forIn_cons,List.forIn_nil]
  have a1:=h1.ext hs₁.extBut D.i1z D.l1z
  refine wpAny_bind (wpAny_bind (wpAny_holding ?_))
  show wpAny _ _ (Builtin.SmallTypes.nextOf (.ref i1) >>= _) _ _ _
  cases hx:xs[k1]? with
  | none =>
   refine wpAny_bind (zcW hh a1.1 a1.2 hx λh₂ e hs₂ he=>?_)
   exact hE h₂ e (λc o c1 _ c3 _ x=>hs₂ _ _ c3 (hs₁.extBut _ _ c1 x)) he
  | some x =>
   have hy:ys[k2]?=none:=by rcases hend with h | h;rw[hx]at h;cases h;exact h
   refine wpAny_bind (zcT a1.1 a1.2 hx λh₂ h1₂ hs₂=>wpAny_pure (wpAny_pure ?_))
   have a2:=(h2.ext hs₁.extBut D.i2z D.l2z).ext hs₂.extBut D.i12.symm D.l2i1
   refine wpAny_bind (wpAny_bind (wpAny_holding ?_))
   show wpAny _ _ (Builtin.SmallTypes.nextOf (.ref i2) >>= _) _ _ _
   refine wpAny_bind (zcW hh a2.1 a2.2 hy λh₃ e hs₃ he=>?_)
   exact hE h₃ e (λc o c1 _ c3 c4 x=>hs₃ _ _ c4 (hs₂.extBut _ _ c3 (hs₁.extBut _ _ c1 x))) he
theorem zi5 {z TI' TO i1 i2 l1 l2:Addr} {k1 k2:Nat} {m:Value} {f:Bool} {xs ys:Array Value} {x y a b:Value} {Q:Option Value→Shared→Prop} (D:ZipApart z TI' TO i1 i2 l1 l2)
  (hz:zcq s.heap z TI' TO m f) (hm:MkZ m) (hTI:IsPair s.heap TI' (.ref i1) (.ref i2)) (hTO:IsPair s.heap TO a b) (h1:TuI s.heap i1 l1 k1 xs) (h2:TuI s.heap i2 l2 k2 ys) (hx:xs[k1]?=some x) (hy:ys[k2]?=some y)
  (hQ:∀ h',(∃ m' f',MkZ m'∧zcq h' z TI' TO m' f')→(∃ u v,IsPair h' TO u v)→h'.IsTupleIter i1 l1 (k1+1)→h'.IsTupleIter i2 l2 (k2+1)→IsPair h' s.heap.objs.size x y→h'.objs.size=s.heap.objs.size+1 →
   (∀ c o,c≠z→c≠TO→c≠i1→c≠i2→s.heap.get? c=some o→h'.get? c=some o)→Q (some (.ref s.heap.objs.size)) { s with heap:=h' }) :
  wpAny (model prog w) A (pyNext (.ref z)) Q E s:=by
 have hT:s.TypeIs (.ref z) "zip":=⟨_,hz,rfl⟩
 unfold pyNext
 exact wpAny_bind (wpAny_attempt (wpAny_callSpecial?_slot (name:=Str.ofString "__next__") hT F.slot_zip_next
  (wpAny_call_entry F.slot_zip_next hT F.entry_zip_next (zkz D hz hm hTI hTO h1 h2 hx hy λh' a1 a2 a3 a4 a5 a6 a7=>wpAny_pure (hQ h' a1 a2 a3 a4 a5 a6 a7)) (F.args_zip_next_1 _))))
theorem zhs {z TI' TO i1 i2 l1 l2:Addr} {k1 k2:Nat} {m:Value} {f:Bool} {xs ys:Array Value} {a b:Value} {Q:Option Value→Shared→Prop} (hh:A.handled=none) (D:ZipApart z TI' TO i1 i2 l1 l2)
  (hz:zcq s.heap z TI' TO m f) (hm:MkZ m) (hTI:IsPair s.heap TI' (.ref i1) (.ref i2)) (hTO:IsPair s.heap TO a b) (h1:TuI s.heap i1 l1 k1 xs) (h2:TuI s.heap i2 l2 k2 ys) (hend:xs[k1]?=none∨ys[k2]?=none)
  (hQ:∀ h',(∀ c o,c≠z→c≠TO→c≠i1→c≠i2→s.heap.get? c=some o→h'.get? c=some o)→Q none { s with heap:=h' }):wpAny (model prog w) A (pyNext (.ref z)) Q E s:=by
 have hT:s.TypeIs (.ref z) "zip":=⟨_,hz,rfl⟩
 unfold pyNext
 refine wpAny_bind (wpAny_attempt (wpAny_callSpecial?_slot (name:=Str.ofString "__next__") hT F.slot_zip_next
  (wpAny_call_entry F.slot_zip_next hT F.entry_zip_next (zlm hh D hz hm hTI hTO h1 h2 hend λh' e hk he=>?_) (F.args_zip_next_1 _))))
 obtain⟨o,ho,hc⟩:=he
 refine wpAny_bind (wpAny_isInstance (T:="StopIteration") (b:=true) ⟨o,ho,hc⟩ isSubtype_stop ?_)
 exact wpAny_pure (hQ _ hk)
end
theorem zk8 {prog:Program} {w:World} {A:Around} {E:Value→Shared→Prop} {s:Shared} {z TI' TO:Addr} {m:Value} {f:Bool} {Q:Value→Shared→Prop} (hz:zcq s.heap z TI' TO m f) (h:Q (.ref z) s):wpAny (model prog w) A (pyIter (.ref z)) Q E s:=by
 have hT:s.TypeIs (.ref z) "zip":=⟨_,hz,rfl⟩
 refine wpAny_pyIter_slot hT F.slot_zip_iter (wpAny_call_entry F.slot_zip_iter hT F.entry_zip_iter ?_ (F.args_zip_iter_1 _))
 show wpAny _ _ (ret (.ref z)) _ _ s
 exact wpAny_pure ⟨_,rfl,"zip",_,hT,F.slot_zip_next.lookup,h⟩
theorem zkB {P:Program} {w:World} {K:W.Frag} {nm:String} {pos:Pos} (a b z T TO i1 i2:Addr) (D:ZipApart z T TO i1 i2 a b):zgL P w K (.Name nm pos) (ItzT K a b) [z,T,TO,i1,i2] z
  (λi h=>(∃ m f,MkZ m∧zcq h z T TO m f)∧IsPair h T (.ref i1) (.ref i2)∧(∃ u v,IsPair h TO u v)∧h.IsTupleIter i1 a i∧h.IsTupleIter i2 b i) where
 mem:=by simp
 obj:=λi h st c hc=>by
  obtain⟨⟨m,f,hm,h1⟩,h2,⟨u,v,h3⟩,⟨o4,h4,c4,d4⟩,⟨o5,h5,c5,d5⟩⟩:=st
  simp only[List.mem_cons,List.not_mem_nil,or_false]at hc
  rcases hc with rfl | rfl | rfl | rfl | rfl
  ·exact⟨_,h1,λv q=>by have q':Data.fields _=Data.cell v:=q;cases q'⟩
  ·exact⟨_,h2,λv q=>by have q':Data.seq _ _=Data.cell v:=q;cases q'⟩
  ·exact⟨_,h3,λv q=>by have q':Data.seq _ _=Data.cell v:=q;cases q'⟩
  ·exact⟨o4,h4,λv q=>by rw[d4]at q;cases q⟩
  ·exact⟨o5,h5,λv q=>by rw[d5]at q;cases q⟩
 keep:=λi h h' st k=>by
  obtain⟨⟨m,f,hm,h1⟩,h2,⟨u,v,h3⟩,h4,h5⟩:=st
  exact⟨⟨m,f,hm,k z (by simp) _ h1⟩,k T (by simp) _ h2,⟨u,v,k TO (by simp) _ h3⟩,h4.at λo q=>k i1 (by simp) o q,h5.at λo q=>k i2 (by simp) o q⟩
 item:=by
  intro X hP hw hK hc i pins s σ H E I hf st hg
  subst hP hw hK
  obtain⟨xs,ys,x,y,hq,hq2,hx,hy⟩:=hg
  obtain⟨its,rv,p,hz⟩:=I.tuple hq
  obtain⟨its2,rv2,p2,hz2⟩:=I.tuple hq2
  obtain⟨u,hu,ru⟩:=rv.get hx
  obtain⟨v,hv,rw'⟩:=rv2.get hy
  obtain⟨⟨m,f,hm,h1⟩,h2,⟨u0,v0,h3⟩,h4,h5⟩:=st
  have lz:z < s.heap.objs.size:=Heap.lt_size h1
  have lTI:T < s.heap.objs.size:=Heap.lt_size h2
  have lTO:TO < s.heap.objs.size:=Heap.lt_size h3
  have l1:i1 < s.heap.objs.size:=by obtain⟨o,e,_⟩:=id h4;exact Heap.lt_size e
  have l2:i2 < s.heap.objs.size:=by obtain⟨o,e,_⟩:=id h5;exact Heap.lt_size e
  refine zi5 D h1 hm h2 h3 ⟨h4,show s.heap.IsTuple a its.toArray from p⟩ ⟨h5,show s.heap.IsTuple b its2.toArray from p2⟩ (x:=u) (y:=v) (by simpa using hu) (by simpa using hv) λh' g1 g3 g4 g5 gT gz gk=>?_
  refine⟨_,rfl,wpAny_pure ?_⟩
  have kk:∀ c o,c∉[z,T,TO,i1,i2]→s.heap.get? c=some o→h'.get? c=some o:=λc o hc q =>
   gk c o (λe=>hc (by simp [e])) (λe=>hc (by simp [e])) (λe=>hc (by simp [e])) (λe=>hc (by simp [e])) q
  have new:zaF X.prog X.w (upd H s.heap.objs.size (.tup [x,y])) h' s.heap.objs.size (.tup [x,y]) :=
   ⟨Nat.le_of_lt (zaC (show 2≤1000 by decide)),[u,v],.cons ru (.cons rw' .nil),_,gT,rfl,_,rfl⟩
  have gTI:h'.get? T=some _:=gk T _ D.TIz D.TITO D.TIi1 D.TIi2 h2
  refine⟨.ref s.heap.objs.size,_,I.turnedLaid (t':=s.toks) hf kk (nRq _) new,rfl,⟨_,x,y,rfl,I.fresh,rfl,λzs hzs=>by rw[I.tuple_inj hzs hq];exact hx,λzs hzs=>by rw[I.tuple_inj hzs hq2];exact hy⟩,⟨g1,gTI,g3,g4,g5⟩,λc hc=>?_⟩
  have lc:c < s.heap.objs.size:=by
   have hc':=hc
   simp only[List.mem_cons,List.not_mem_nil,or_false]at hc'
   rcases hc' with rfl | rfl | rfl | rfl | rfl <;> assumption
  rw[aD (Nat.ne_of_lt lc)]
  exact(hf c hc).1
 done:=by
  intro X hP hw hK hc i pins s σ H E I hf st hg
  subst hP hw hK
  obtain⟨xs,ys,hq,hq2,hx⟩:=hg
  obtain⟨its,rv,p,hz⟩:=I.tuple hq
  obtain⟨its2,rv2,p2,hz2⟩:=I.tuple hq2
  obtain⟨⟨m,f,hm,h1⟩,h2,⟨u0,v0,h3⟩,h4,h5⟩:=st
  have hl:=rv.length
  have hl2:=rv2.length
  refine zhs (I.ok.hd hc) D h1 hm h2 h3 ⟨h4,show s.heap.IsTuple a its.toArray from p⟩ ⟨h5,show s.heap.IsTuple b its2.toArray from p2⟩ (hx.elim (λq=>.inl (by simp;omega)) λq=>.inr (by simp;omega)) λh' gk=>⟨rfl,?_⟩
  have un:Un (frs X.stack) [z,T,TO,i1,i2] H H s.heap h':=⟨λc o q _ _ hc=>gk c o (λe=>hc (by simp [e])) (λe=>hc (by simp [e])) (λe=>hc (by simp [e])) (λe=>hc (by simp [e])) q,
   λc o q _ _ hc=>⟨o.slots,gk c o (λe=>hc (by simp [e])) (λe=>hc (by simp [e])) (λe=>hc (by simp [e])) (λe=>hc (by simp [e])) q⟩,λ_ _ _ n _=>n,
   λc o q hc=>⟨o,gk c o (λe=>hc (by simp [e])) (λe=>hc (by simp [e])) (λe=>hc (by simp [e])) (λe=>hc (by simp [e])) q⟩,λ_ _ q=>q,λ_ _ _ q=>q,λ_ ps q=>⟨#[],by rw[q];simp⟩⟩
  have nfp:∀ c u,H c=some u→c∉[z,T,TO,i1,i2]:=λc u e q=>by rw[(hf c q).1]at e;cases e
  have hok:HOk X.prog X.w H h':=λc u e=>by
   refine(I.hok c u e).stay (λd v hd q=>?_) (λ_ q=>q) λ_ _ q=>q
   have nd:d∉[z,T,TO,i1,i2]:=by
    rcases hd with r | r
    ·rw[r];exact nfp c u e
    ·exact nfp d _ r
   exact gk d v (λe=>nd (by simp [e])) (λe=>nd (by simp [e])) (λe=>nd (by simp [e])) (λe=>nd (by simp [e])) q
  exact I.call (g':=s.gens) (d':=s.drawn) (t':=s.toks) (ch:=[z,T,TO,i1,i2]) un hok I.bare λc hc=>⟨(hf c hc).2.2.2.1,(hf c hc).2.1,(hf c hc).2.2.2.2.1,(hf c hc).2.2.2.2.2⟩
 self:=λ_ _ _ _ _ ⟨⟨_,_,_,h1⟩,_⟩ h=>zk8 h1 h
theorem zmm {X:Cx} {nm:String} {pt:Pos} {a b:Expr} {ta:TA} {p pos:Pos} (hg:Gl X "zip") (hm:X.mg "zip"=none) (ha:PA X [a,b] ta) (hs:starEach [a,b] X.env=[(false,eval a X.env),(false,eval b X.env)]:=by rfl) (hs2:starEach [b] X.env=[(false,eval b X.env)]:=by rfl):PI X (.Name nm pt) (.Call (.Name "zip" p) [a,b] [] pos) (iZipT X.K ta):=by
 intro pins s σ H R I h
 refine Call_ (zdM I hg hm boot_zip (PyProof.Rows.callWith_type1 (thn (ha pos pins s σ H _ I h) λus s1 ⟨vs,H1,I1,r1,q1⟩=>?_) (by rw[hs,hs2]) (by rw[hs2];rfl)))
 obtain⟨a,b,e,⟨xs,hq⟩,⟨ys,hq2⟩,q⟩:=q1
 subst e
 obtain⟨u,v,rfl,ru,rv'⟩:=r1.two
 cases ru
 cases rv'
 obtain⟨its,rv,pl,hz⟩:=I1.tuple hq
 obtain⟨its2,rv2,pl2,hz2⟩:=I1.tuple hq2
 have la:a < s1.heap.objs.size:=by obtain⟨o,e,_⟩:=pl;exact Heap.lt_size e
 have lb:b < s1.heap.objs.size:=by obtain⟨o,e,_⟩:=pl2;exact Heap.lt_size e
 refine zlf (show s1.heap.IsTuple a its.toArray from pl) (show s1.heap.IsTuple b its2.toArray from pl2) λh' h1 h2 h3 h4 h5 hz' kk=>?_
 refine wpAny_pyIter_zip h1 ?_
 have I2:Inv X pins σ H1 { s1 with heap:=h' }:=I1.kept (t':=s1.toks) kk
 refine⟨_,_,_,ItzT X.K a b,H1,rfl,I2,zkB a b _ _ _ _ _ (zipApart_new la lb),⟨⟨_,_,.inl rfl,h1⟩,h2,⟨_,_,h3⟩,h4,h5⟩,λc hc=>?_,q⟩
 have hle:s1.heap.objs.size≤c:=by
  simp only[List.mem_cons,List.not_mem_nil,or_false]at hc
  rcases hc with rfl | rfl | rfl | rfl | rfl
  ·exact Nat.le_add_right _ _
  ·exact Nat.le_add_right _ _
  ·exact Nat.le_add_right _ _
  ·exact nRq _
  ·exact Nat.le_add_right _ _
 exact I1.fpOk hle (I1.hok.fresh hle)
end L2
namespace L2
open PySem PySem.Spec PyProof.Rows
end L2
namespace L2
open PySem PySem.Spec PyProof.Rows
section
variable {prog:Program} {w:World} {A:Around} {E:Value→Shared→Prop} {s:Shared}
theorem zl2 {t b:Addr} {vs ws:List Value} {Q:Value→Shared→Prop} (ht:IsTup s.heap t vs.toArray) (hb:IsTup s.heap b ws.toArray) (hv:vs=[]) (h:Q (.ref b) s):wpAny (model prog w) A (binaryOp .Add (.ref t) (.ref b)) Q E s:=by
 obtain⟨⟨cls,dd,data,sl⟩,ho,hc,n,hd⟩:=id ht
 obtain⟨⟨cls2,dd2,data2,sl2⟩,ho2,hc2,n2,hd2⟩:=id hb
 simp only at hc hd hc2 hd2
 subst hc hd hc2 hd2
 exact concat_meets ⟨_,ho,rfl⟩ ⟨_,ho2,rfl⟩ noFill_tuple_add seq_tuple_add PySem.F.slot_tuple_add PySem.F.entry_tuple_add (PySem.F.args_tuple_add_2 _ _)
   (tuple_addW0 t b vs.toArray ws.toArray n n2 dd dd2 sl sl2 (by simp [hv])) ⟨ho,ho2,h⟩
end
inductive rCatA (K:W.Frag):R2|m{x y H Q} a b xs ys:x=.ref a→y=.ref b→SqT K H a xs→SqT K H b ys→xs.length+ys.length≤sizeLine→(∀(H':Hp) (p:Addr),ai H H'→SqT K H' p (xs++ys)→Q (.ref p) H')→rCatA K x y H Q
theorem zjt {X:Cx}:OpR X (binaryOp .Add) (rCatA X.K):=by
 intro pins s σ H x y v u Q I rx ry h
 obtain⟨a,b,xs,ys,e1,e2,ha,hb,hz,q⟩:=h
 by_cases hx:xs=[]
 ·subst e1 e2
  cases rx
  cases ry
  obtain⟨its,r1,p1,_⟩:=I.tuple ha
  obtain⟨its2,r2,p2,_⟩:=I.tuple hb
  refine zl2 p1 p2 (r1.nil_iff.mpr hx) ⟨.ref b,H,I,rfl,q H b (ai.refl _) ?_⟩
  rw[hx]
  exact hb
 ·refine zjs pins s σ H x y v u Q I rx ry ⟨a,b,xs,ys,e1,e2,ha,hb,hx,hz,λz=>?_,λz p hp=>q _ p (ag hp _) (SqT.of ae)⟩
  refine q H a (ai.refl _) ?_
  rw[z,List.append_nil]
  exact ha
theorem zed {t u:TS} {D:zbT} {σ:St} {H:Hp} (h:∀ n:St→Hp→Prop,n σ H→t { D with nx:=n } σ H) (a:u D σ H):tSeq t u D σ H:=h (u D) a
end L2
namespace L2
open PySem PySem.Spec PyProof.Rows
section
variable {X:Cx}
end
end L2
namespace L2
open PySem PySem.Spec PyProof.Rows
section
variable {P:Program} {w:World} {H H':Hp} {h h' B:Heap} {a:Addr} {o:HO}
theorem zaF.there (x:zaF P w H h a o):∃ ob,h.get? a=some ob:=by
 cases o with
 | lst xs=>obtain⟨_,_,_,_,q⟩:=x;exact⟨_,q⟩
 | tup xs=>obtain⟨_,_,_,ob,q,_⟩:=x;exact⟨_,q⟩
 | dK kvs=>obtain⟨_,_,_,_,o,_,_,q,_⟩:=x;exact⟨_,q⟩
 | dT kvs=>obtain⟨_,_,_,_,o,_,_,q,_⟩:=x;exact⟨_,q⟩
 | set S n=>obtain⟨o,_,_,_,q,_⟩:=x;exact⟨_,q⟩
 | ins C dx fs=>obtain⟨_,_,_,q,_⟩:=x;exact⟨_,q⟩
 | own y=>exact x
 | xd fs=>obtain⟨_,⟨_,_,_,q,_⟩,_⟩:=x;exact⟨_,q⟩
 | rng lo hi=>obtain⟨_,_,_,q⟩:=x;exact⟨_,q⟩
 | frz ob u=>exact⟨_,x.1⟩
 | tbl ps=>exact⟨_,(show h.get? a=some _ from x)⟩
 | met f y=>exact⟨_,(show h.get? a=some _ from x)⟩
 | ext φ=>exact x.2.1
def Trk (H:Hp) (h B:Heap):Prop:=∀ b ob,H b≠none→h.get? b=some ob→B.get? b=some ob
def Old (fs:List Addr) (H:Hp) (h B:Heap):Prop:=∀ b ob,h.get? b=some ob→b∉fs→∃ ob',B.get? b=some ob'∧(H b=none→ob'=ob)
theorem HOk.stays (ok:HOk P w H h) (t:Trk H h B) (k:B.StaysIn h'):HOk P w H h':=λa o e =>
 (ok a o e).stay (λb u hb q=>k b u (t b u (hb.elim (λz=>by rw[z,e];exact nofun) λz=>by rw[z];exact nofun) q)) (λ_ q=>q) λ_ _ q=>q
theorem Trk.stays (ok:HOk P w H h) (t:Trk H h B) (k:B.StaysIn h'):Trk H h' B:=λb ob hb e=>by
 cases q:H b with
 | none=>exact absurd q hb
 | some u =>
  obtain⟨ob1,e1⟩:=(ok b u q).there
  have z:=t b ob1 hb e1
  have z2:=k b ob1 z
  rw[e]at z2
  cases z2
  exact z
end
def CX1 (P:Program) (w:World):CXT:=λouter H s E e s'=>∃(ea C:Addr) (H':Hp) (B:Heap) (a0:Value),e=.ref ea∧s'.os=s.os∧AllBare s'.gens∧Un (frs outer) [] H H' s.heap s'.heap∧HOk P w H' s'.heap ∧
 Heap.FlyingW B outer ea (.ref C) a0 s'.heap∧Trk H' s'.heap B∧Old (frs outer) H s.heap B∧E (.ref C) none H'
structure Xe1 (X:Cx) (E:XK):Prop where
 xe:X.xe=λe s'=>wpAny (model X.prog X.w) X.A (leaving X.env e) (λ_ s''=>CX1 X.prog X.w X.outer X.H₀ X.s₀ E e s'') (λe' s''=>CX1 X.prog X.w X.outer X.H₀ X.s₀ E e' s'') s'
 stk:X.stack=X.env :: X.outer
 fr:X.env.frame=some X.env.locals
 ex:X.ex=[]
section
variable {X:Cx} {E:XK} {pins:List (Addr × Obj)} {σ:St} {H H':Hp} {s s':Shared} {B:Heap} {ea C:Addr} {a0:Value}
theorem zjD (hx:Xe1 X E) (I:Inv X pins σ H s) {s'':Shared} (os:s''.os=s.os) (bare:AllBare s''.gens) (u:Un (frs X.stack) [] H H' s.heap s'.heap) (ok:HOk X.prog X.w H' s'.heap)
  (fl:Heap.FlyingW B X.outer ea (.ref C) a0 s''.heap) (sm:s'.heap.UpToSlots s''.heap) (trk:Trk H' s'.heap B) (old:Old (frs X.stack) H s.heap B) (hE:E (.ref C) none H') :
  CX1 X.prog X.w X.outer X.H₀ X.s₀ E (.ref ea) s'':=by
 have hfs:frs X.stack=X.env.locals :: X.fs:=by
  rw[hx.stk]
  unfold frs
  rw[List.filterMap_cons,hx.fr]
  rfl
 have nx:∀ b,b∉X.ex:=λb hb=>by rw[hx.ex]at hb;cases hb
 have nf:∀ b ob,X.s₀.heap.get? b=some ob→b∉X.fs→b∉frs X.stack:=λb ob e hb z=>by
  rw[hfs]at z
  rcases List.mem_cons.mp z with z | z
  ·exact absurd (Nat.lt_of_lt_of_le (Heap.lt_size e) I.ok.above) (by rw[z];exact Nat.lt_irrefl _)
  ·exact hb z
 have st:B.StaysIn s''.heap:=fl.1
 have U:=I.base
 have old':Old X.fs X.H₀ X.s₀.heap B:=λb ob e hb=>by
  obtain⟨o1,e1⟩:=U.there b ob e (nx b)
  obtain⟨o',eB,hB⟩:=old b o1 e1 (nf b ob e hb)
  refine⟨o',eB,λn=>?_⟩
  have k:=U.keep b ob e n hb (nx b)
  rw[e1]at k
  cases k
  exact hB (U.free b ob e n (nx b))
 have slot:∀ b ob,X.s₀.heap.get? b=some ob→X.H₀ b=none→b∈X.fs→∃ sl,s''.heap.get? b=some { ob with slots:=sl }:=λb ob e n hb=>by
  obtain⟨sl,k⟩:=U.slot b ob e n hb (nx b)
  obtain⟨sl2,k2⟩:=u.any k (U.free b ob e n (nx b)) (by simp)
  obtain⟨_,o3,e3,hd⟩:=I.ok.funs.mem hb
  rw[e]at e3
  cases e3
  obtain⟨sl3,k3⟩:=sm b _ k2 λvs q=>hd vs q
  exact⟨sl3,k3⟩
 refine⟨ea,C,H',B,a0,rfl,os.trans I.os,bare,⟨λb ob e n hb _=>?_,λb ob e n hb _=>slot b ob e n hb,λb ob e n _=>?_,λb ob e _=>?_,λb xs q=>u.tups b xs (U.tups b xs q),λb ob xs q=>u.frzs b ob xs (U.frzs b ob xs q),λb ps q=>?_⟩,
  ok.stays trk st,fl,Trk.stays ok trk st,old',hE⟩
 ·obtain⟨o',eB,hB⟩:=old' b ob e hb
  rw[hB n]at eB
  exact st b ob eB
 ·obtain⟨o1,e1⟩:=U.there b ob e (nx b)
  exact u.free b o1 e1 (U.free b ob e n (nx b)) (by simp)
 ·by_cases hb:b∈X.fs
  ·obtain⟨sl,k⟩:=slot b ob e (I.ok.frf b hb) hb
   exact⟨_,k⟩
  ·obtain⟨o',eB,_⟩:=old' b ob e hb
   exact⟨o',st b o' eB⟩
 ·obtain⟨m1,e1⟩:=U.tbls b ps q
  obtain⟨m2,e2⟩:=u.tbls b _ e1
  exact⟨m1++m2,by rw[e2,Array.append_assoc]⟩
theorem zcQ (hx:Xe1 X E):zdO (CX1 X.prog X.w) X E:=by
 intro pins σ H s e s' I h
 obtain⟨ea,C,H',B,a0,rfl,os,bare,u,ok,fl,trk,old,hE⟩:=h
 rw[hx.xe]
 have fl2:=fl
 rw[hx.stk]at fl2
 have hfr:X.A.frames=some (X.env :: X.outer):=by rw[I.ok.frames,hx.stk]
 exact wpAny_leaves_onW hfr hx.fr fl2 λh' fl' sm=>zjD hx I os bare u ok fl' sm trk old hE
theorem zl6 {h':Heap} {vs:List Value} (hx:Xe1 X E) (I:Inv X pins σ H s) (m:Heap.MadeExcOf s.heap h' ea (.ref C) vs) (hE:E (.ref C) none H):X.xe (.ref ea) { s with heap:=h' }:=by
 rw[hx.xe]
 have hl:s.heap.FunFrames (W.hideAll s.heap (frs X.stack)) X.stack:=W.funFrames_hide I.stack λenv he a ha=>List.mem_filterMap.mpr ⟨env,he,ha⟩
 have hl2:s.heap.FunFrames (W.hideAll s.heap (frs X.stack)) (X.env :: X.outer):=by
  have z:=hl
  rw[show X.stack=X.env :: X.outer from hx.stk]at z ⊢
  exact z
 have hfr:X.A.frames=some (X.env :: X.outer):=by rw[I.ok.frames,hx.stk]
 refine wpAny_leaves_madeW (base:=W.hideAll s.heap (frs X.stack)) (h:=s.heap) hfr hx.fr (λb ob q=>W.of_hideAll _ q) hl2 m λh'' t fl _ _ sm=>?_
 refine zjD (s':={ s with heap:=h' }) hx I rfl I.bare (Un.kept m.keeps) (I.hok.kept m.keeps) fl sm (λb ob hb q=>?_) (λb ob q hb=>⟨ob,W.hideAll_get _ q hb,λ_=>rfl⟩) hE
 cases z:H b with
 | none=>exact absurd z hb
 | some v =>
  obtain⟨o1,e1⟩:=(I.hok b v z).there
  have e2:=m.keeps b o1 e1
  have q':h'.get? b=some ob:=q
  rw[q']at e2
  cases e2
  exact W.hideAll_get _ e1 λy=>hb (I.stkFree b y)
theorem own_at {K:W.Frag} {hp:Heap} {bmB:List Value} {newId:String} (XI:K.In hp) (q:W.excIn K C bmB newId=true) :
  ∃ bm N nm qn bs hdct sn sub ab col dd k0 k1 k2 k3 k5 mN,hp.get? C=some (excClassObj nm qn C N bs bm hdct sn sub ab col dd k0 k1 k2 k3 k5 newId)∧hp.Ns N mN∧mN "__init__"=none∧OwnTail hp bmB bm:=by
 unfold W.excIn at q
 split at q
 ·rename_i d1 c1 l1 hC1
  split at q
  ·rename_i C2 bm2 y0 y1 y2 y3 n2 y5 hm2 hs2
   simp only[Bool.and_eq_true,beq_iff_eq,Bool.not_eq_true']at q
   obtain⟨⟨⟨⟨⟨rfl,rfl⟩,hdl⟩,htl⟩,hno⟩,hin⟩:=q
   obtain⟨nm,bs,mro,ns,qn,hd,sn,sub,ab,col,del⟩:=c1
   dsimp only at hm2 hdl hno hin
   subst hm2 hdl
   have hsl:l1=#[y0,y1,y2,y3,some (.builtin n2),y5]:=by
    obtain⟨l⟩:=l1
    simp only at hs2
    rw[hs2]
   subst hsl
   exact⟨bm2,ns,nm,qn,bs,hd,sn,sub,ab,col,d1,y0,y1,y2,y3,y5,_,XI _ _ hC1,.of_isNs (W.isNs_of_in XI hno),W.nsMap_none_of_in XI hno hin,W.tail_of_in XI htl⟩
  ·cases q
 ·cases q
variable {e0:Expr} {zb1:List Expr} {t:TA} {x:Str} {np cpos pos:Pos} {Bn newId initId:String} {bm:List Value}
def tRaise (E:XK) (C:Addr) (t:TA):TS:=λ_ σ H=>t σ H λvs H1=>vs.length≤sizeLine∧E (.ref C) none H1
theorem zde (hx:Xe1 X E) (hc:X.calm=true) (hg:Gl X x) (hm:X.mg x=some (.ref C)) (F:ExcBaseFacts Bn newId initId bm) (q:W.excIn X.K C bm newId=true) (ha:PA X (e0 :: zb1) t)
  (hdb:(x == ("__debug__":Str))=false:=by decide) (hse:starEach (e0 :: zb1) X.env=(false,eval e0 X.env) :: starEach zb1 X.env:=by rfl) (hpl:(backTo cpos (starEach zb1 X.env)).any (·.1)=false:=by rfl) :
  PS X (.Raise (some (.Call (.Name x np) (e0 :: zb1) [] cpos)) none pos) (tRaise E C t):=by
 intro pins s σ H D I h
 obtain⟨tl,N,nm,qn,bs,hdct,sn,sub,ab,col,dd,k0,k1,k2,k3,k5,mN,hC,hN,hni,T⟩:=own_at (C:=C) I.mod.kin q
 refine wpAny_Raise_call_subT (C:=C) (nm:=nm) (q:=qn) (N:=N) (bs:=bs) (bm:=tl) (hdct:=hdct) (sn:=sn) (sub:=sub) (ab:=ab) (col:=col) (dd:=dd) (k0:=k0) (k1:=k1) (k2:=k2) (k3:=k3) (k5:=k5) F (mN:=mN)
  (T.hasType F.hasBase) (I.ok.hd hc) (by rw[hse];show(false||(backTo cpos (starEach zb1 X.env)).any (·.1))=false;rw[hpl];rfl) hni (zgt I hg hm ⟨rfl,?_⟩ hdb)
 have g:=ha cpos pins s σ H _ I h
 rw[hse]at g ⊢
 refine Calls.evalArgs_plain (wpAny_mono g (λvs s2 ⟨ws,H2,I2,r2,hz,hE⟩=>?_) λ_ _ y=>y)
 exact⟨rfl,by rw[←r2.length];exact hz,I2.bk _ _ hC,hN.keeps I2.bk,T.keeps I2.bk,λh' ea m=>zl6 hx I2 m hE⟩
end
end L2
namespace L2
open PySem PySem.Spec PyProof.Rows
section
variable {X:Cx} {pins:List (Addr × Obj)} {σ:St} {H H':Hp} {s s':Shared} {B:Heap} {ea C:Addr} {a0:Value} {D:zbT} {f:Flow} {E1:Value→Shared→Prop}
end
end L2
namespace L2
open PySem PySem.Spec PyProof.Rows
section
variable {X:Cx} {pins:List (Addr × Obj)} {σ:St} {H H':Hp} {s s':Shared} {B:Heap} {ea C:Addr} {a0:Value} {D:zbT} {f:Flow}
end
end L2
namespace L2
open PySem
end L2
namespace L2
open PySem
section
variable {K:W.Frag} {h:Heap} {mg:Str→Option Value} {C f:Addr} {fd:FuncData} {n x q:Str} {st:Stmt} {oc kV doc pm cdv ct:Value} {od an:Option Addr} {osl:Array (Option Value)}
structure FT (K:W.Frag) (n x:Str) (st:Stmt) (f:Addr) (fd:FuncData):Prop where
 a:W.nsIn K mainGlobals n=some (some (.ref f))
 F:Fun K x x st f fd
 k:W.keepIn K (.ref f)=true
theorem FT.m (z:FT K n x st f fd) (X:K.In h) (G:h.Ns mainGlobals mg):mg n=some (.ref f):=W.mg_of X G z.a
theorem ft_in (a:W.nsIn K mainGlobals n=some (some (.ref f))) (l:K.lookup f=some ⟨oc,od,.func (W.fnOf x x (zcS st) (zaR st) (aw st) .none kV doc pm an cdv ct),osl⟩) (c:W.codeIn K cdv x=true) (k:W.keepIn K (.ref f)=true):FT K n x st f (W.fnOf x x (zcS st) (zaR st) (aw st) .none kV doc pm an cdv ct):=⟨a,zkp l c k,k⟩
structure FM (K:W.Frag) (C:Addr) (x q:Str) (st:Stmt) (f:Addr) (fd:FuncData):Prop where
 a:W.findIn K (.ref C) x=some (some (.ref f))
 i:W.isFn K (.ref f)=true
 F:Fun K x q st f fd
 k:W.keepIn K (.ref f)=true
theorem FM.M (z:FM K C x q st f fd):zcp K C x f:=⟨z.a,z.i,z.k⟩
theorem fm_in (a:W.findIn K (.ref C) x=some (some (.ref f))) (i:W.isFn K (.ref f)=true) (l:K.lookup f=some ⟨oc,od,.func (W.fnOf x q (zcS st) (zaR st) (aw st) .none kV doc pm an cdv ct),osl⟩) (c:W.codeIn K cdv q=true) (k:W.keepIn K (.ref f)=true):FM K C x q st f (W.fnOf x q (zcS st) (zaR st) (aw st) .none kV doc pm an cdv ct):=⟨a,i,zkp l c k,k⟩
abbrev Bd (x q:Str) (st:Stmt) (ps:List Str) (us:List Value):Prop:=∀(kV doc pm:Value) (an:Option Addr) (cdv ct:Value),bindArgs (W.fnOf x q (zcS st) (zaR st) (aw st) .none kV doc pm an cdv ct) ⟨us,[]⟩=pure (ps.zip us)
theorem Fun.b1 {p:Str} (F:Fun K x q st f fd) (h:∀ a,Bd x q st [p] [a]):aH K fd [p] []:=F.binds λkV doc pm an cdv ct us hl=>by
 rcases us with _ | ⟨_,_ | _⟩ <;> first | exact h _ kV doc pm an cdv ct | cases hl
theorem Fun.b2 {p p2:Str} (F:Fun K x q st f fd) (h:∀ a b,Bd x q st [p,p2] [a,b]):aH K fd [p,p2] []:=F.binds λkV doc pm an cdv ct us hl=>by
 rcases us with _ | ⟨_,_ | ⟨_,_ | _⟩⟩ <;> first | exact h _ _ kV doc pm an cdv ct | cases hl
theorem Fun.b3 {p p2 p3:Str} (F:Fun K x q st f fd) (h:∀ a b c,Bd x q st [p,p2,p3] [a,b,c]):aH K fd [p,p2,p3] []:=F.binds λkV doc pm an cdv ct us hl=>by
 rcases us with _ | ⟨_,_ | ⟨_,_ | ⟨_,_ | _⟩⟩⟩ <;> first | exact h _ _ _ kV doc pm an cdv ct | cases hl
theorem Fun.b4 {p p2 p3 p4:Str} (F:Fun K x q st f fd) (h:∀ a b c d,Bd x q st [p,p2,p3,p4] [a,b,c,d]):aH K fd [p,p2,p3,p4] []:=F.binds λkV doc pm an cdv ct us hl=>by
 rcases us with _ | ⟨_,_ | ⟨_,_ | ⟨_,_ | ⟨_,_ | _⟩⟩⟩⟩ <;> first | exact h _ _ _ _ kV doc pm an cdv ct | cases hl
theorem Fun.top {p:Str} (F:Fun K x q st f fd) (h:∀ a,Bd x q st [p] [a]):∀(s:Shared) (v:Value),BindsTo s fd ⟨[v],[]⟩ [(p,v)]:=λs v=>by
 obtain⟨oc,od,kV,doc,pm,an,cdv,ct,osl,rfl,lk,hcd⟩:=F.ex
 exact .of_eq (h v kV doc pm an cdv ct)
end
end L2
namespace K36
open PySem L2
variable {P:Program} {w:World} {K:W.Frag} {mg:Str→Option Value} {base:Heap} {aK C CN CT CP CM:Addr}
def top (i:Nat):Stmt:=PySem.Challenge.pw_yesorno_k36_whole_let_by.main.body.getD i (.Pass ⟨0,0,0,0⟩)
abbrev zgA:Stmt:=zcb (top 1) 0
abbrev zh9:Stmt:=zcb (top 1) 1
abbrev zgz:Stmt:=zcb (top 1) 2
abbrev zhK:Stmt:=zcb (top 1) 3
abbrev zhB:Stmt:=top 17
abbrev zhC:Stmt:=top 18
abbrev zgX:Stmt:=top 19
abbrev sOnce:Stmt:=top 20
abbrev ziq:Stmt:=top 21
abbrev zjL:Stmt:=zcb (top 22) 0
abbrev zgV:Stmt:=zcb (top 22) 1
abbrev zgW:Stmt:=zcb (top 22) 2
abbrev sAdd:Stmt:=zcb (top 22) 3
abbrev zio:Stmt:=zcb (top 22) 4
abbrev zjK:Stmt:=zcb (top 22) 5
abbrev sRow:Stmt:=zcb (top 22) 6
abbrev s_not_failing:Stmt:=top 24
abbrev s_is_learnt:Stmt:=top 25
abbrev zft:Stmt:=top 26
abbrev zf2:Stmt:=top 27
abbrev zd6:Stmt:=top 28
abbrev zfu:Stmt:=top 29
abbrev zdV:Stmt:=top 31
abbrev zd5:Stmt:=top 32
abbrev zdJ:Stmt:=top 34
abbrev zc6:Stmt:=top 35
abbrev zck:Stmt:=top 36
abbrev zc7:Stmt:=top 37
abbrev zbC:Stmt:=top 38
abbrev zeZ:Stmt:=top 40
abbrev zdP:Stmt:=top 41
abbrev sCell:Stmt:=top 43
abbrev zdr:Stmt:=top 44
abbrev zbc:Stmt:=top 45
abbrev zc1:Stmt:=top 46
abbrev zdc:Stmt:=top 47
abbrev zcL:Stmt:=top 48
abbrev zeR:Stmt:=top 49
abbrev zer:Stmt:=top 50
abbrev zc2:Stmt:=top 51
abbrev zeu:Stmt:=top 52
abbrev s__law_left:Stmt:=top 53
abbrev s__law_hints:Stmt:=top 54
abbrev s__law_right:Stmt:=top 55
abbrev s__law_spoilt:Stmt:=top 56
abbrev zfv:Stmt:=top 57
abbrev zcw:Stmt:=top 58
abbrev zbr:Stmt:=top 59
abbrev zcB:Stmt:=top 60
abbrev zcl:Stmt:=top 61
abbrev zbX:Stmt:=top 62
abbrev zdW:Stmt:=top 63
abbrev zcM:Stmt:=top 64
abbrev zcv:Stmt:=top 65
abbrev zeq:Stmt:=top 66
abbrev zdY:Stmt:=top 67
abbrev zdX:Stmt:=top 68
abbrev zdb:Stmt:=top 69
abbrev zes:Stmt:=top 70
abbrev zet:Stmt:=top 71
abbrev zc8:Stmt:=top 72
abbrev abc:Str:="abcdefghijklmnopqrstuvwxyz"
def isL (c:Str):Bool:=!(Builtin.Str.occurrences abc c 0 abc.length 1).isEmpty
def zeK (z:Str):List Bool:=z.cps.toList.map λc=>isL ⟨#[c]⟩
def zic:List V:=[.str "or",.str "and",.str "not",.str "never",.str "always",.str "then",.str "as",.str "unlike"]
def zia (z:Str):Bool:=decide ((0:Int) < (z.length:Int))&&(zeK z).all id
def zbS (z:Str):Bool:=zia z&&(decide ((z.length:Int)≤8)&&!inV (.str z) zic)
theorem sz (n:Nat) (h:n≤1000):n≤sizeLine:=Nat.le_of_lt (zaC h)
theorem zj6:zic.all zdj=true:=by decide +kernel
theorem ziK (z:Str):(zeK z).length=z.length:=by simp [zeK,Str.length]
theorem zba (a b:Str):(a++b).length=a.length+b.length:=by
 show(a.cps++b.cps).size=a.cps.size+b.cps.size
 exact Array.size_append
theorem zlp {z:Str} {i ch:Nat} (hch:z.cps[i]?=some ch):(zeK z).take (i+1)=(zeK z).take i++[isL ⟨#[ch]⟩]:=by
 have hb:(zeK z)[i]?=some (isL ⟨#[ch]⟩):=by
  unfold zeK
  rw[List.getElem?_map,Array.getElem?_toList,hch]
  rfl
 rw[List.take_add_one,hb]
 rfl
abbrev Tm:=Str × List Int
def dT (t:Tm):Dt:=.tup [.str t.1,.tup (t.2.map Dt.int)]
theorem zeI:∀ ns:List Int,zds (ns.map Dt.int)=true
 | []=>by simp [zds]
 | n :: ns=>by simp only[List.map_cons,zds,nob,Bool.true_and];exact zeI ns
theorem zdQ:∀ ns:List Int,zbj (ns.map Dt.int)=true
 | []=>by simp [zbj]
 | n :: ns=>by simp only[List.map_cons,zbj,nol,Bool.true_and];exact zdQ ns
theorem zcJ:∀ ns:List Int,zaX (ns.map Dt.int)=0
 | []=>by simp [zaX]
 | n :: ns=>by simp only[List.map_cons,zaX,dep,zcJ ns];rfl
theorem zkl (t:Tm):nob (dT t)=true:=by simp only[dT,nob,zds,zeI,Bool.and_self]
theorem zkk (t:Tm):nol (dT t)=true:=by simp only[dT,nol,zbj,zdQ,Bool.and_self]
theorem dep_dT (t:Tm):dep (dT t)=2:=by simp only[dT,dep,zaX,zcJ];rfl
theorem zbh:∀ T:List Tm,zbj (T.map dT)=true
 | []=>by simp [zbj]
 | t :: T=>by simp only[List.map_cons,zbj,zkk,Bool.true_and];exact zbh T
theorem zfq:∀ T:List Tm,zaX (T.map dT)≤2
 | []=>by simp [zaX]
 | t :: T=>by
  have h:=zfq T
  simp only[List.map_cons,zaX,dep_dT]
  omega
theorem zmA {a b:Int} (h:Dt.int a=Dt.int b):a=b:=by cases h;rfl
theorem ziM:∀ {as bs:List Int},as.map Dt.int=bs.map Dt.int→as=bs
 | [],[],_=>rfl
 | [],b :: bs,h=>by cases h
 | a :: as,[],h=>by cases h
 | a :: as,b :: bs,h=>by
  rw[List.map_cons,List.map_cons]at h
  injection h with h1 h2
  rw[zmA h1,ziM h2]
theorem dT_inj {a b:Tm} (h:dT a=dT b):a=b:=by
 obtain⟨n,ps⟩:=a
 obtain⟨m,qs⟩:=b
 unfold dT at h
 injection h with h
 injection h with h1 h2
 injection h1 with h1
 injection h2 with h2 _
 injection h2 with h2
 have e1:n=m:=h1
 have e2:ps=qs:=ziM h2
 rw[e1,e2]
theorem zis (a b:Tm):peq (dT a) (dT b)=decide (a=b):=by
 by_cases h:a=b
 ·subst h
  rw[zb3,decide_eq_true rfl]
 ·rw[decide_eq_false h]
  cases e:peq (dT a) (dT b) with
  | false=>rfl
  | true=>exact absurd (dT_inj (zhd _ _ (zkl a) (zkl b) e)) h
theorem any_dT (T:List Tm) (t:Tm):((T.map dT).any λd=>peq d (dT t))=decide (t∈T):=by
 rw[Bool.eq_iff_iff,List.any_eq_true]
 constructor
 ·rintro ⟨d,hd,e⟩
  obtain⟨u,hu,rfl⟩:=List.mem_map.mp hd
  rw[zis]at e
  rw[←of_decide_eq_true e]
  exact decide_eq_true hu
 ·intro h
  exact⟨dT t,List.mem_map.mpr ⟨t,of_decide_eq_true h,rfl⟩,zb3 _⟩
inductive Out where
 | num (n:Nat) | name | term | many | part
def bad (T:List Tm) (ps:List Int):Bool:=decide (3 < ps.length)||ps.any λp=>decide (p < 0)||decide ((T.length:Int)≤p)
def zcY (T:List Tm) (good:Bool) (t:Tm):Out × List Tm :=
 if good=false then(.name,T) else if bad T t.2=true then(.term,T) else if t∈T then(.num (T.idxOf t),T) else if 60≤T.length then(.many,T) else(.num T.length,T++[t])
theorem idx_at {T:List Tm} {t:Tm} (h:t∈T):(T.map dT)[T.idxOf t]?=some (dT t):=by
 have hl:=List.idxOf_lt_length_of_mem h
 rw[List.getElem?_map,gG hl]
 simp
theorem idx_no {T:List Tm} {t:Tm} {m:Nat} {d:Dt} (h:m < T.idxOf t) (e:(T.map dT)[m]?=some d):peq d (dT t)=false:=by
 rw[List.getElem?_map]at e
 cases q:T[m]? with
 | none=>rw[q]at e;cases e
 | some u =>
  rw[q]at e
  have e':d=dT u:=(Option.some.inj e).symm
  rw[e',zis]
  refine decide_eq_false λz=>?_
  subst z
  obtain⟨hm,hu⟩:=gEq q
  have z:=List.not_of_lt_findIdx (p:=(· == u)) h
  rw[hu,beq_self_eq_true]at z
  cases z
theorem zen {α:Type} [BEq α] [LawfulBEq α] {code:α→Dt} (hc:∀ a b,peq (code a) (code b)=true↔a=b) (T:List α) (t:α):((T.map code).any λd=>peq d (code t))=decide (t∈T):=by
 rw[Bool.eq_iff_iff,List.any_eq_true]
 constructor
 ·rintro ⟨d,hd,e⟩
  obtain⟨u,hu,rfl⟩:=List.mem_map.mp hd
  rw[hc]at e
  rw[←e]
  exact decide_eq_true hu
 ·intro h
  exact⟨code t,List.mem_map.mpr ⟨t,of_decide_eq_true h,rfl⟩,zb3 _⟩
theorem ziO {α:Type} [BEq α] [LawfulBEq α] {code:α→Dt} (hc:∀ a b,peq (code a) (code b)=true↔a=b) (T:List α) (t:α):(T.map code).findIdx (λd=>peq d (code t))=T.idxOf t:=by
 rw[List.findIdx_map]
 unfold List.idxOf
 congr 1
 funext a
 show peq (code a) (code t)=(a == t)
 rw[Bool.eq_iff_iff,hc,beq_iff_eq]
theorem zko (a b:Tm):peq (dT a) (dT b)=true↔a=b:=by
 rw[zis]
 exact decide_eq_true_iff
inductive At where
 | plain (z:Str)
 | same (a b:Int)
 deriving DecidableEq
def dA:At→Dt
 | .plain z=>.tup [.str "plain",.str z]
 | .same a b=>.tup [.str "same",.int a,.int b]
theorem zkm (t:At):nob (dA t)=true:=by cases t <;> simp only[dA,nob,zds,Bool.and_self]
theorem zdl (t:At):nol (dA t)=true:=by cases t <;> simp only[dA,nol,zbj,Bool.and_self]
theorem zkt (t:At):dep (dA t)=1:=by cases t <;> simp only[dA,dep,zaX] <;> rfl
theorem dA_inj {a b:At} (h:dA a=dA b):a=b:=by
 cases a <;> cases b
 all_goals
  unfold dA at h
  injection h with h
  injection h with h1 h2
  injection h2 with h2 h3
  first
   | (injection h2 with h2;injection h3 with h3 _;injection h3 with h3;rw[h2,h3])
   | (injection h2 with h2;rw[h2])
   | (injection h1 with h1;exact absurd h1 (by decide +kernel))
   | cases h2
theorem zkf (a b:At):peq (dA a) (dA b)=decide (a=b):=by
 by_cases h:a=b
 ·subst h
  rw[zb3,decide_eq_true rfl]
 ·rw[decide_eq_false h]
  cases e:peq (dA a) (dA b) with
  | false=>rfl
  | true=>exact absurd (dA_inj (zhd _ _ (zkm a) (zkm b) e)) h
theorem ziv (a b:At):peq (dA a) (dA b)=true↔a=b:=by
 rw[zkf]
 exact decide_eq_true_iff
def dR (r:List Int):Dt:=.tup (r.map Dt.int)
theorem zdL (r:List Int):nol (dR r)=true:=by simp only[dR,nol,zdQ]
theorem zaK {α:Type} {code:α→Dt} (hc:∀ a,nol (code a)=true):∀ T:List α,zbj (T.map code)=true
 | []=>by simp [zbj]
 | t :: T=>by simp only[List.map_cons,zbj,hc,Bool.true_and];exact zaK hc T
theorem zga {α:Type} {code:α→Dt} {n:Nat} (hc:∀ a,dep (code a)≤n):∀ T:List α,zaX (T.map code)≤n
 | []=>by simp [zaX]
 | t :: T=>by
  have h:=zga hc T
  have:=hc t
  simp only[List.map_cons,zaX]
  omega
theorem kTA:¬(("terms":Str)="atoms"):=by decide +kernel
theorem kTR:¬(("terms":Str)="rows"):=by decide +kernel
theorem kAR:¬(("atoms":Str)="rows"):=by decide +kernel
def zcC (tl al rl:Addr):List (Str × V):=zbF "rows" (.ref rl) (zbF "atoms" (.ref al) (zbF "terms" (.ref tl) []))
theorem zaO (tl al rl:Addr):(zcC tl al rl).lookup ("terms":Str)=some (.ref tl):=by
 unfold zcC
 rw[za9,if_neg kTR,za9,if_neg kTA,za9,if_pos rfl]
theorem zai (tl al rl:Addr):(zcC tl al rl).lookup ("atoms":Str)=some (.ref al):=by
 unfold zcC
 rw[za9,if_neg kAR,za9,if_pos rfl]
theorem zb0 (tl al rl:Addr):(zcC tl al rl).lookup ("rows":Str)=some (.ref rl):=by
 unfold zcC
 rw[za9,if_pos rfl]
theorem zdg (tl al rl:Addr) {m:Str} (h1:¬m="rows") (h2:¬m="atoms") (h3:¬m="terms"):(zcC tl al rl).lookup m=none:=by
 unfold zcC
 rw[za9,if_neg h1,za9,if_neg h2,za9,if_neg h3]
 all_goals rfl
def Fr1 (H H':Hp) (z:Addr):Prop:=∀ b o,H b=some o→b≠z→H' b=some o
theorem Fr1.of_same {H H':Hp} {z:Addr} (s:ai H H'):Fr1 H H' z:=λb o e _=>s b o e
theorem Fr1.trans {H H1 H2:Hp} {z:Addr} (a:Fr1 H H1 z) (b:Fr1 H1 H2 z):Fr1 H H2 z:=λc o e n=>b c o (a c o e n) n
theorem Fr1.keepT {H H':Hp} {z:Addr} {xs:List V} (f:Fr1 H H' z) (h:H z=some (.lst xs)):zaw H H':=λb ys q=>by
 rcases q with q | ⟨o,q⟩
 ·exact .inl (f b _ q (zbY q h (λe=>by cases e)))
 ·exact .inr ⟨o,f b _ q (zbY q h (λe=>by cases e))⟩
structure zaY (K:W.Frag) (C:Addr) (H:Hp) (p tl al rl:Addr) (T:List Tm) (As:List At) (Rs:List (List Int)):Prop where
 ob:∃ dx,H p=some (.ins C dx (zcC tl al rl))
 tm:∃ xs,H tl=some (.lst xs)∧aj K H (T.map dT) xs
 am:∃ xs,H al=some (.lst xs)∧aj K H (As.map dA) xs
 rm:∃ xs,H rl=some (.lst xs)∧aj K H (Rs.map dR) xs
 na:al≠tl
 nr:rl≠tl
 nx:rl≠al
theorem zaY.keep {K:W.Frag} {C:Addr} {H H':Hp} {p tl al rl z:Addr} {T:List Tm} {As:List At} {Rs:List (List Int)} {zs:List V} (h:zaY K C H p tl al rl T As Rs) (f:Fr1 H H' z) (hz:H z=some (.lst zs)) (n1:z≠tl) (n2:z≠al) (n3:z≠rl):zaY K C H' p tl al rl T As Rs:=by
 obtain⟨⟨dx,h1⟩,⟨xs,h2,h3⟩,⟨ys,h4,h5⟩,⟨ws,h6,h7⟩,h8,h9,h10⟩:=h
 exact⟨⟨dx,f _ _ h1 (zbY h1 hz (λe=>by cases e))⟩,⟨xs,f _ _ h2 n1.symm,h3.keep (f.keepT hz) (zbh T)⟩,⟨ys,f _ _ h4 n2.symm,h5.keep (f.keepT hz) (zaK zdl As)⟩,⟨ws,f _ _ h6 n3.symm,h7.keep (f.keepT hz) (zaK zdL Rs)⟩,h8,h9,h10⟩
theorem zaY.same {K:W.Frag} {C:Addr} {H H':Hp} {p tl al rl:Addr} {T:List Tm} {As:List At} {Rs:List (List Int)} (h:zaY K C H p tl al rl T As Rs) (s:ai H H'):zaY K C H' p tl al rl T As Rs:=by
 obtain⟨⟨dx,h1⟩,⟨xs,h2,h3⟩,⟨ys,h4,h5⟩,⟨ws,h6,h7⟩,h8,h9,h10⟩:=h
 exact⟨⟨dx,s _ _ h1⟩,⟨xs,s _ _ h2,h3.keep (.of_same s) (zbh T)⟩,⟨ys,s _ _ h4,h5.keep (.of_same s) (zaK zdl As)⟩,⟨ws,s _ _ h6,h7.keep (.of_same s) (zaK zdL Rs)⟩,h8,h9,h10⟩
theorem zaY.setT {K:W.Frag} {C:Addr} {H:Hp} {p tl al rl:Addr} {T T':List Tm} {As:List At} {Rs:List (List Int)} {us:List V} (h:zaY K C H p tl al rl T As Rs) (hs:aj K (upd H tl (.lst us)) (T'.map dT) us):zaY K C (upd H tl (.lst us)) p tl al rl T' As Rs:=by
 obtain⟨⟨dx,h1⟩,⟨xs,h2,h3⟩,⟨ys,h4,h5⟩,⟨ws,h6,h7⟩,h8,h9,h10⟩:=h
 have kt:zaw H (upd H tl (.lst us)):=zaw.lst h2
 exact⟨⟨dx,by rw[aD (zbY h1 h2 (λe=>by cases e))];exact h1⟩,⟨us,ae,hs⟩,⟨ys,by rw[aD h8];exact h4,h5.keep kt (zaK zdl As)⟩,⟨ws,by rw[aD h9];exact h6,h7.keep kt (zaK zdL Rs)⟩,h8,h9,h10⟩
theorem zaY.setA {K:W.Frag} {C:Addr} {H:Hp} {p tl al rl:Addr} {T:List Tm} {As As':List At} {Rs:List (List Int)} {us:List V} (h:zaY K C H p tl al rl T As Rs) (hs:aj K (upd H al (.lst us)) (As'.map dA) us):zaY K C (upd H al (.lst us)) p tl al rl T As' Rs:=by
 obtain⟨⟨dx,h1⟩,⟨xs,h2,h3⟩,⟨ys,h4,h5⟩,⟨ws,h6,h7⟩,h8,h9,h10⟩:=h
 have kt:zaw H (upd H al (.lst us)):=zaw.lst h4
 exact⟨⟨dx,by rw[aD (zbY h1 h4 (λe=>by cases e))];exact h1⟩,⟨xs,by rw[aD h8.symm];exact h2,h3.keep kt (zbh T)⟩,⟨us,ae,hs⟩,⟨ws,by rw[aD h10];exact h6,h7.keep kt (zaK zdL Rs)⟩,h8,h9,h10⟩
theorem zaY.setR {K:W.Frag} {C:Addr} {H:Hp} {p tl al rl:Addr} {T:List Tm} {As:List At} {Rs Rs':List (List Int)} {us:List V} (h:zaY K C H p tl al rl T As Rs) (hs:aj K (upd H rl (.lst us)) (Rs'.map dR) us):zaY K C (upd H rl (.lst us)) p tl al rl T As Rs':=by
 obtain⟨⟨dx,h1⟩,⟨xs,h2,h3⟩,⟨ys,h4,h5⟩,⟨ws,h6,h7⟩,h8,h9,h10⟩:=h
 have kt:zaw H (upd H rl (.lst us)):=zaw.lst h6
 exact⟨⟨dx,by rw[aD (zbY h1 h6 (λe=>by cases e))];exact h1⟩,⟨xs,by rw[aD h9.symm];exact h2,h3.keep kt (zbh T)⟩,⟨ys,by rw[aD h10.symm];exact h4,h5.keep kt (zaK zdl As)⟩,⟨us,ae,hs⟩,h8,h9,h10⟩
def SqI (K:W.Frag) (H:Hp) (q:Addr) (ps:List Int):Prop:=SqL K H q (ps.map V.int)∨SqT K H q (ps.map V.int)
theorem SqI.same {K:W.Frag} {H H':Hp} {q:Addr} {ps:List Int} (h:SqI K H q ps) (s:ai H H'):SqI K H' q ps:=h.elim (λz=>.inl (s.seq z)) λz=>.inr ((zaw.of_same s).sq z)
def Low (z:Str):Prop:=z.length≤100∧∀ c∈z.cps.toList,c < 1000
theorem Low.repr {z:Str} (h:Low z):(reprText z).length≤1002:=by
 have:=StrLaws.reprText_len z λc hc=>Nat.lt_of_lt_of_le (h.2 c hc) (by decide)
 have:=h.1
 omega
inductive zgS:Sp|m{vs H Q E9} (z:Str):vs=[.str z]→z.length≤1000→(∀ H',ai H H'→Q (.bl (zia z)) H')→zgS vs H Q E9
inductive zgT:Sp|m{vs H Q E9} (z:Str):vs=[.str z]→z.length≤1000→(∀ H',ai H H'→Q (.bl (zbS z)) H')→zgT vs H Q E9
inductive zeE (CN:Addr):Sp|m{vs H Q E} (z:Str):vs=[.str z]→Low z→(if zbS z=true then ∀ H',ai H H'→Q .non H' else ∀ H',ai H H'→E (.ref CN) none H')→zeE CN vs H Q E
inductive zdv (K:W.Frag) (CM:Addr):Sp|m{vs H Q E} (a tl:Addr) (m:Int) (xs:List V) (ds:List Dt) (d:Dt):vs=[.ref a,.ref tl,.int m]→Has K H d (.ref a)→H tl=some (.lst xs)→aj K H ds xs→zaX ds≤50→ds.length≤1000→0≤m→m≤1000→(if(ds.any λe=>peq e d)=true then ∀ H',ai H H'→Q (.int ((ds.findIdx λe=>peq e d):Nat)) H' else if m≤(ds.length:Int) then ∀ H',ai H H'→E (.ref CM) none H' else Q (.int (ds.length:Nat)) (upd H tl (.lst (xs++[.ref a]))))→zdv K CM vs H Q E
inductive zij (C:Addr):Sp|m{vs H Q E9} (p dx:Addr):vs=[.ref p]→H p=some (.ins C dx [])→(∀(tl al rl:Addr) (H':Hp),H tl=none→H al=none→H rl=none→al≠tl→rl≠tl→rl≠al→H' p=some (.ins C dx (zcC tl al rl))→H' tl=some (.lst [])→H' al=some (.lst [])→H' rl=some (.lst [])→(∀ b o,H b=some o→b≠p→H' b=some o)→Q .non H')→zij C vs H Q E9
def zf0 (K:W.Frag) (C CT:Addr):Sp:=λvs H Q E=>∃(p tl al rl:Addr) (T:List Tm) (As:List At) (Rs:List (List Int)) (n:Int),vs=[.ref p,.int n]∧zaY K C H p tl al rl T As Rs∧-1000≤n∧n≤1000 ∧
 if n < 0∨(T.length:Int)≤n then ∀ H',ai H H'→E (.ref CT) none H' else Q .non H
def zbZ (m:Nat) (n:Int):Bool:=decide (n=0)||decide ((m:Int) < n)||decide (n < -(m:Int))
inductive zf1 (K:W.Frag) (C CP:Addr):Sp|m{vs H Q E} (p tl al rl:Addr) (T:List Tm) (As:List At) (Rs:List (List Int)) (n:Int):vs=[.ref p,.int n]→zaY K C H p tl al rl T As Rs→-1000≤n→n≤1000→(if zbZ As.length n=true then ∀ H',ai H H'→E (.ref CP) none H' else Q .non H)→zf1 K C CP vs H Q E
theorem zbx {H:Hp} {p:Addr} (h:H p=none) (o:HO):ai H (upd H p o):=λb u q=>by rw[aD (zaa q h)];exact q
abbrev bmV:List Value:=[.type "ValueError",.type "Exception",.type "BaseException",.type "object"]
structure Txt (K:W.Frag) (mg:Str→Option Value) (aK C CN CT CP CM:Addr):Prop where
 small:∃ t,mg "SMALL_LETTERS"=some (.str abc t)
 longest:∃ t,mg "LONGEST_NAME"=some (.int 8 t)
 parts:∃ t,mg "MOST_TERM_PARTS"=some (.int 3 t)
 terms:∃ t,mg "MOST_TERMS"=some (.int 60 t)
 atoms:∃ t,mg "MOST_ATOMS"=some (.int 40 t)
 rparts:∃ t,mg "MOST_ROW_PARTS"=some (.int 20 t)
 rows:∃ t,mg "MOST_ROWS"=some (.int 200 t)
 kept:mg "KEPT_WORDS"=some (.ref aK)
 tup:∀ H,SqT K H aK zic
 len:mg "len"=none
 all:mg "all"=none
 range:mg "range"=none
 isi:mg "isinstance"=none
 bool:mg "bool"=none
 tuple:mg "tuple"=none
 abs:mg "abs"=none
 bname:mg "BadName"=some (.ref CN)
 bterm:mg "BadTerm"=some (.ref CT)
 bpart:mg "BadPart"=some (.ref CP)
 bmany:mg "TooMany"=some (.ref CM)
 xname:W.excIn K CN bmV "ValueError.__new__"=true
 xterm:W.excIn K CT bmV "ValueError.__new__"=true
 xpart:W.excIn K CP bmV "ValueError.__new__"=true
 xmany:W.excIn K CM bmV "ValueError.__new__"=true
 cl:Cls K C
 nT:zcD K C "terms"
 nA:zcD K C "atoms"
 nR:zcD K C "rows"
theorem Fun.okX {x qual:Str} {st:Stmt} {f:Addr} {fd:FuncData} {N ps:List Str} {k:Nat} {sp:Sp} (F:Fun K x qual st f fd) (S:aO N ps (aw st)) (len:∀ vs H Q E,sp vs H Q E→vs.length=ps.length)
  (hbody:∀(cdv:Value) (A:Around) (outer:List Env) (s:Shared) (H:Hp) (vs:List V) (Q:VK) (E:XK),zaq k (A.deeper (PyProof.Rows.envOfC qual (aw st) s.heap.objs.size f cdv))→sp vs H Q E →
   ∃ t,PSs (aV (CX1 P w) P w K mg base N qual (aw st) f cdv A outer s H E) (zaR st) t∧t { nx:=λ_ H'=>Q .non H',rt:=Q } (zdZ N vs) H):aI P w K mg base (CX1 P w) (k+1) f fd ps sp:=by
 obtain⟨oc,od,kV,doc,pm,an,cdv,ct,osl,rfl,lk,hcd⟩:=F.ex
 exact fn_of lk hcd S len λA outer s H vs Q E hr hsp=>hbody cdv A outer s H vs Q E hr hsp
theorem xe1 {N:List Str} {qual:Str} {scope:Scope} {f:Addr} {cd:Value} {A:Around} {outer:List Env} {s:Shared} {H:Hp} {E:XK}:Xe1 (aV (CX1 P w) P w K mg base N qual scope f cd A outer s H E) E:=⟨rfl,rfl,rfl,rfl⟩
theorem zeL {k:Nat} {A:Around} (hr:zaq k A):A.units+64 < cLine:=hr.units
theorem scIW:aO ["text"] ["text"] (aw zhB):=fsc
theorem zk0 {f:Addr} {fd:FuncData} (F:Fun K "is_word" "is_word" zhB f fd) (T:Txt K mg aK C CN CT CP CM):aI P w K mg base CX0 1 f fd ["text"] zgS:=by
 obtain⟨t1,e1⟩:=T.small
 refine F.ok scIW (λvs H Q E h=>?_) (λcdv A outer s H vs Q E hr h=>?_)
 ·obtain⟨z,rfl,_⟩:=h
  rfl
 obtain⟨z,rfl,hz,q⟩:=h
 refine⟨_,ah (ay (zbf (zaI zcf (ao zgf rfl T.len PySem.boot_len (aa (pv 0) ac)) ad)
  (zbe (ao (zbJ rfl) rfl T.all PyProof.Rows.Boot.all (aa
   (zbQ (N':=["letter"]) (ix:=[]) rfl rfl (by decide +kernel) (by decide +kernel) rfl (λ_=>⟨[],za3 (by decide +kernel) (by decide +kernel)⟩) (by decide +kernel) rfl rfl (λj i h=>by simp at h)
    (pi_str (pv 0)) (λcl fp s₃ H₃=>zaI zkJ (pv 0) (zbU (v:=.str abc) rfl e1 ⟨_,rfl⟩) rfl)) ac))))),?_⟩
 refine⟨_,rfl,z,rfl,sz _ hz,_,_,rfl,rfl,_,rfl,?_⟩
 refine aJ (λc=>?_) (λc=>?_)
 ·have c':(0:Int) < (z.length:Int):=of_decide_eq_true c
  refine⟨_,rfl,z,rfl,λD hD=>⟨λi m ys H'=>m=z.length - i∧i≤z.length∧ys=((zeK z).take i).map V.bl∧H'=upd H D (.lst ys),⟨z.length,rfl,Nat.zero_le _,rfl,rfl⟩,?_⟩⟩
  rintro i m ys H' ⟨rfl,hi,rfl,rfl⟩
  refine⟨ae,?_⟩
  by_cases hlt:i < z.length
  ·refine .inr ⟨hlt,λx H'' y=>?_⟩
   obtain⟨rfl,ch,hch,rfl⟩:=y
   have et:=zlp hch
   refine⟨_,rfl,_,_,rfl,rfl,ae,?_,z.length - (i+1),by omega,rfl,hlt,?_,zl9⟩
   ·rw[lM,List.length_take,ziK]
    exact Nat.lt_of_le_of_lt (Nat.le_trans (Nat.min_le_right _ _) hz) (by decide)
   ·rw[et,mAq]
    rfl
  ·have hi':i=z.length:=by omega
   subst hi'
   refine .inl ⟨nRq _,D,zeK z,rfl,SqL.of (by rw[ae,tO (by rw[ziK];exact nRq _)]),?_⟩
   have:=q _ (zbx hD (.lst (((zeK z).take z.length).map V.bl)))
   unfold zia at this
   rw[c,Bool.true_and]at this
   exact this
 ·have:=q H (ai.refl H)
  unfold zia at this
  rw[Bool.eq_false_iff.mpr c,Bool.false_and]at this
  exact this
theorem scIN:aO ["word"] ["word"] (aw zhC):=fsc
theorem zk1 {f g:Addr} {fd gd:FuncData} (F:Fun K "is_name" "is_name" zhC f fd) (T:Txt K mg aK C CN CT CP CM) (G:aI P w K mg base CX0 1 g gd ["text"] zgS) (bG:aH K gd ["text"] []) (kG:W.keepIn K (.ref g)=true) (mG:mg "is_word"=some (.ref g)) :
  aI P w K mg base CX0 2 f fd ["word"] zgT:=by
 obtain⟨t2,e2⟩:=T.longest
 refine F.ok scIN (λvs H Q E h=>?_) (λcdv A outer s H vs Q E hr h=>?_)
 ·obtain⟨z,rfl,_⟩:=h
  rfl
 obtain⟨z,rfl,hz,q⟩:=h
 refine⟨_,ah (ay (zbf (aB G hr rfl mG kG bG .nil aR (aa (pv 0) ac)) (zbf (zaI op_le (ao zgf rfl T.len PySem.boot_len (aa (pv 0) ac)) (zbU (v:=.int 8) rfl e2 ⟨_,rfl⟩))
  (zbe (zaI zbO (pv 0) (zbU (v:=.ref aK) rfl T.kept rfl) rfl))))),?_⟩
 refine⟨_,rfl,z,rfl,hz,λH1 s1=>⟨_,rfl,?_⟩⟩
 refine aJ (λc=>?_) (λc=>?_)
 ·refine⟨_,rfl,z,rfl,sz _ hz,_,_,rfl,rfl,_,rfl,?_⟩
  refine aJ (λc2=>?_) (λc2=>?_)
  ·refine⟨_,rfl,aK,zic,rfl,.inr (T.tup H1),rfl,zj6,?_⟩
   have:=q H1 s1
   unfold zbS at this
   rw[c,c2,Bool.true_and,Bool.true_and]at this
   exact this
  ·have:=q H1 s1
   unfold zbS at this
   rw[c,Bool.eq_false_iff.mpr c2,Bool.true_and,Bool.false_and]at this
   exact this
 ·have:=q H1 s1
  unfold zbS at this
  rw[Bool.eq_false_iff.mpr c,Bool.false_and]at this
  exact this
theorem scAN:aO ["word"] ["word"] (aw zgX):=fsc
theorem zjZ {f g:Addr} {fd gd:FuncData} (F:Fun K "ask_name" "ask_name" zgX f fd) (T:Txt K mg aK C CN CT CP CM) (G:aI P w K mg base CX0 2 g gd ["word"] zgT) (bG:aH K gd ["word"] []) (kG:W.keepIn K (.ref g)=true) (mG:mg "is_name"=some (.ref g)) :
  aI P w K mg base (CX1 P w) 3 f fd ["word"] (zeE CN):=by
 refine Fun.okX F scAN (λvs H Q E h=>?_) (λcdv A outer s H vs Q E hr h=>?_)
 ·obtain⟨z,rfl,_⟩:=h
  rfl
 obtain⟨z,rfl,lo,h⟩:=h
 refine⟨_,ah (aL (zbo (zaS (aB G hr rfl mG kG bG .nil aR (aa (pv 0) ac))))
  (ah (zde (C:=CN) xe1 rfl rfl T.bname PySem.F.excBase_ValueError T.xname (aa (zcI (zaZ (pe_fvr (pv 0)) (zaZ aU zeg))) ac))) aA),?_⟩
 refine⟨_,rfl,z,rfl,Nat.le_trans lo.1 (by decide),λH1 s1=>⟨_,rfl,?_⟩⟩
 have hre:=lo.repr
 cases e:zbS z with
 | true =>
  rw[e]at h
  exact aY (h H1 s1)
 | false =>
  rw[e,if_neg (by decide)]at h
  refine zao ?_
  refine⟨_,rfl,z,rfl,Nat.le_trans hre (by decide),_,rfl,?_,_,rfl,?_,?_,(by show 1≤sizeLine;decide),h H1 s1⟩
  ·rw[zba]
   exact Nat.le_trans (Nat.add_le_add_left hre _) (by decide +kernel)
  ·rw[zba,zba]
   exact Nat.le_trans (Nat.add_le_add_right (Nat.add_le_add_left hre _) _) (by decide +kernel)
  ·rw[zba,zba]
   exact Nat.le_trans (Nat.add_le_add_right (Nat.add_le_add_left hre _) _) (by decide +kernel)
theorem scPl:aO ["thing","things","most"] ["thing","things","most"] (aw ziq):=fsc
theorem zhF {n:Int} (h1:-1000≤n) (h2:n≤1000):n.natAbs.log2 < 1920∧((toString n:String):Str).length≤1002:=by
 have hb:n.natAbs≤1000:=by omega
 refine⟨?_,?_⟩
 ·by_cases h0:n.natAbs=0
  ·rw[h0]
   decide
  ·have:=(Nat.log2_lt h0 (k:=1920)).mpr (Nat.lt_of_le_of_lt hb (by decide +kernel))
   exact this
 ·have:=PyProof.Rows.len_str_of_int n
  omega
theorem zlG {f:Addr} {fd:FuncData} (F:Fun K "place_of" "place_of" ziq f fd) (T:Txt K mg aK C CN CT CP CM):aI P w K mg base (CX1 P w) 1 f fd ["thing","things","most"] (zdv K CM):=by
 refine Fun.okX F scPl (λvs H Q E h=>?_) (λcdv A outer s H vs Q E hr h=>?_)
 ·obtain⟨a,tl,m,xs,ds,d,rfl,_⟩:=h
  rfl
 obtain⟨a,tl,m,xs,ds,d,rfl,ht,hl,hs,hd,hn,m0,m1,h⟩:=h
 have hu:=zeL hr
 have hlen:xs.length=ds.length:=hs.length.symm
 obtain⟨hlog,hsl⟩:=zhF (n:=m) (by omega) m1
 refine⟨_,af (aL (au (zki hu) (pv 0) (pv 1) rfl) (ah (ay (zbt PySem.F.plainAttrs_list PySem.F.slot_list_index PySem.F.type_list_index (zeJ hu) (pv 1) (aa (pv 0) ac)))) aA)
  (af (aL (au zd1 (ao ar rfl T.len PySem.boot_len (aa (pv 1) ac)) (pv 2))
   (ah (zde (C:=CM) xe1 rfl rfl T.bmany PySem.F.excBase_ValueError T.xmany (aa (zcI (zaZ aU (zaZ (zfb (pv 2)) (zaZ aU zeg)))) ac))) aA)
  (af (zak (zbt PySem.F.plainAttrs_list PySem.F.slot_list_append PySem.F.type_list_append zaE (pv 1) (aa (pv 0) ac)))
  (ah (ay (aq zbA (ao ar rfl T.len PySem.boot_len (aa (pv 1) ac)) ad))))),?_⟩
 refine⟨_,rfl,_,rfl,tl,xs,ds,d,rfl,.inl (SqL.of hl),hs,ht,Nat.le_trans hd (by decide),_,rfl,?_⟩
 refine aJ (λc=>?_) (λc=>?_)
 ·have c':(ds.any λe=>peq e d)=true:=c
  rw[if_pos c']at h
  have hlt:(ds.findIdx λe=>peq e d) < ds.length:=List.findIdx_lt_length_of_exists (by simpa using c')
  refine⟨_,rfl,.inl ⟨rfl,_,SqL.of hl⟩,_,rfl,tl,xs,ds,_,d,ds.findIdx (λe=>peq e d),rfl,rfl,hl,hs,ht,Nat.le_trans hd (by decide),⟨_,gG hlt,List.findIdx_getElem (w:=hlt)⟩,λj dj h1 h2=>?_,h H (ai.refl H)⟩
  obtain⟨h3,h4⟩:=gEq h2
  have z:=List.not_of_lt_findIdx (p:=λe=>peq e d) h1
  rw[h4]at z
  cases e:peq dj d with
  | false=>rfl
  | true=>rw[e]at z;cases z
 ·have c':¬(ds.any λe=>peq e d)=true:=c
  rw[if_neg c']at h
  refine⟨_,rfl,tl,xs,rfl,.inl (SqL.of hl),_,rfl,_,_,rfl,rfl,_,rfl,aJ (λc2=>?_) (λc2=>?_)⟩
  ·have c3:m≤((xs.length:Nat):Int):=of_decide_eq_true c2
   rw[hlen]at c3
   rw[if_pos c3]at h
   refine⟨_,rfl,by decide +kernel,_,rfl,.inr ⟨m,rfl,hlog,_,rfl,?_,_,rfl,?_,?_,(by show 1≤sizeLine;decide),h H (ai.refl H)⟩⟩
   all_goals
    simp only[zba]
    first
     | exact Nat.le_trans (Nat.add_le_add_left hsl _) (by decide +kernel)
     | exact Nat.le_trans (Nat.add_le_add_right (Nat.add_le_add_left hsl _) _) (by decide +kernel)
  ·have c3:¬m≤((xs.length:Nat):Int):=λz=>c2 (decide_eq_true z)
   rw[hlen]at c3
   rw[if_neg c3]at h
   refine⟨_,rfl,.inl ⟨rfl,_,SqL.of hl⟩,_,rfl,tl,xs,_,rfl,rfl,hl,Nat.lt_of_le_of_lt (by rw[hlen];exact hn) (by decide),?_⟩
   refine⟨_,rfl,tl,_,rfl,.inl (SqL.of ae),_,_,rfl,rfl,?_⟩
   have e:(((xs++[V.ref a]).length:Nat):Int) - 1=(ds.length:Nat):=by rw[lAq,hlen];simp
   show Q (.int ((((xs++[V.ref a]).length:Nat):Int) - 1)) _
   rw[e]
   exact h
theorem scI:aO ["self"] ["self"] (aw zjL):=fsc
theorem ok_init {f:Addr} {fd:FuncData} (F:Fun K "__init__" "Problem.__init__" zjL f fd) (T:Txt K mg aK C CN CT CP CM):aI P w K mg base CX0 1 f fd ["self"] (zij C):=by
 refine F.ok scI (λvs H Q E h=>?_) (λcdv A outer s H vs Q E hr h=>?_)
 ·obtain⟨p,dx,rfl,_⟩:=h
  rfl
 obtain⟨p,dx,rfl,hp,k⟩:=h
 refine⟨_,af (zfE (pv 0) (zag ac) rfl) (af (zfE (pv 0) (zag ac) rfl) (ah (zfE (pv 0) (zag ac) rfl))),?_⟩
 refine⟨lS0,λtl ht=>?_⟩
 have n1:p≠tl:=zaa hp ht
 refine⟨_,rfl,p,C,dx,[],rfl,(by rw[aD n1];exact hp),T.cl,T.nT,(by show 0 < 1000;decide),?_⟩
 refine⟨lS0,λal ha=>?_⟩
 have a1:al≠p:=λz=>by rw[z,ae]at ha;cases ha
 have a2:al≠tl:=λz=>by rw[z,aD n1.symm,ae]at ha;cases ha
 have a0:H al=none:=by rw[aD a1,aD a2]at ha;exact ha
 refine⟨_,rfl,p,C,dx,_,rfl,(by rw[aD a1.symm,ae]),T.cl,T.nA,(by show 1 < 1000;decide),?_⟩
 refine⟨lS0,λrl hrl=>?_⟩
 have r1:rl≠p:=λz=>by rw[z,ae]at hrl;cases hrl
 have r2:rl≠al:=λz=>by rw[z,aD a1,ae]at hrl;cases hrl
 have r3:rl≠tl:=λz=>by rw[z,aD n1.symm,aD a2.symm,aD n1.symm,ae]at hrl;cases hrl
 have r0:H rl=none:=by rw[aD r1,aD r2,aD r1,aD r3]at hrl;exact hrl
 refine⟨_,rfl,p,C,dx,_,rfl,(by rw[aD r1.symm,ae]),T.cl,T.nR,(by show 2 < 1000;decide),?_⟩
 refine k tl al rl _ ht a0 r0 a2 r3 r2 ae ?_ ?_ ?_ λb o e hb=>?_
 ·rw[aD n1.symm,aD r3.symm,aD n1.symm,aD a2.symm,aD n1.symm,ae]
 ·rw[aD a1,aD r2.symm,aD a1,ae]
 ·rw[aD r1,ae]
 ·rw[aD hb,aD (zaa e r0),aD hb,aD (zaa e a0),aD hb,aD (zaa e ht)]
  exact e
theorem scAT:aO ["self","number"] ["self","number"] (aw zgV):=fsc
theorem zjX {f:Addr} {fd:FuncData} (F:Fun K "ask_term" "Problem.ask_term" zgV f fd) (T:Txt K mg aK C CN CT CP CM):aI P w K mg base (CX1 P w) 1 f fd ["self","number"] (zf0 K C CT):=by
 refine Fun.okX F scAT (λvs H Q E h=>?_) (λcdv A outer s H vs Q E hr h=>?_)
 ·obtain⟨p,tl,al,rl,T,As,Rs,n,rfl,_⟩:=h
  rfl
 obtain⟨p,tl,al,rl,T',As,Rs,n,rfl,S,h1,h2,h⟩:=h
 obtain⟨⟨dx,ho⟩,⟨xs,hl,hs⟩,_⟩:=id S
 have hlen:xs.length=T'.length:=by rw[←hs.length,lM]
 obtain⟨hlog,hsl⟩:=zhF h1 h2
 refine⟨_,ah (aL (PW.pt (zbd (au zbR (pv 1) ad) (zbn (au zd1 (pv 1) (ao ar rfl T.len PySem.boot_len (aa (zae (pv 0) rfl) ac))))))
  (ah (zde (C:=CT) xe1 rfl rfl T.bterm PySem.F.excBase_ValueError T.xterm (aa (zcI (zaZ (zfb (pv 1)) (zaZ aU zeg))) ac))) aA),?_⟩
 refine⟨_,rfl,_,_,rfl,rfl,_,rfl,aJ (λc=>zao ?_) (λc=>⟨_,rfl,_,rfl,p,C,dx,_,_,rfl,ho,T.cl,T.nT,zaO _ _ _,tl,xs,rfl,.inl (SqL.of hl),_,_,rfl,rfl,_,rfl,aJ (λc2=>?_) (λc2=>?_)⟩)⟩
 rotate_left 2
 ·have c':¬n < 0:=λz=>c (decide_eq_true z)
  have c2':¬((xs.length:Nat):Int)≤n:=λz=>c2 (decide_eq_true z)
  rw[hlen]at c2'
  rw[if_neg (by omega)]at h
  exact h
 all_goals
  have hcond:n < 0∨(T'.length:Int)≤n:=by
   first
    | exact .inl (of_decide_eq_true c)
    | exact .inr (by have z:((xs.length:Nat):Int)≤n:=of_decide_eq_true c2;rw[hlen]at z;exact z)
  rw[if_pos hcond]at h
  refine⟨_,rfl,.inr ⟨n,rfl,hlog,_,rfl,?_,_,rfl,?_,?_,(by show 1≤sizeLine;decide),h H (ai.refl H)⟩⟩
  ·rw[zba]
   exact Nat.le_trans (Nat.add_le_add_left hsl _) (by decide +kernel)
  ·rw[zba,zba]
   exact Nat.le_trans (Nat.add_le_add_right (Nat.add_le_add_left hsl _) _) (by decide +kernel)
  ·rw[zba,zba]
   exact Nat.le_trans (Nat.add_le_add_right (Nat.add_le_add_left hsl _) _) (by decide +kernel)
theorem scAP:aO ["self","part"] ["self","part"] (aw zgW):=fsc
theorem zjY {f:Addr} {fd:FuncData} (F:Fun K "ask_part" "Problem.ask_part" zgW f fd) (T:Txt K mg aK C CN CT CP CM):aI P w K mg base (CX1 P w) 1 f fd ["self","part"] (zf1 K C CP):=by
 refine Fun.okX F scAP (λvs H Q E h=>?_) (λcdv A outer s H vs Q E hr h=>?_)
 ·obtain⟨p,tl,al,rl,T,As,Rs,n,rfl,_⟩:=h
  rfl
 obtain⟨p,tl,al,rl,T',As,Rs,n,rfl,S,h1,h2,h⟩:=h
 obtain⟨⟨dx,ho⟩,_,⟨xs,hl,hs⟩,_⟩:=id S
 have hlen:xs.length=As.length:=by rw[←hs.length,lM]
 obtain⟨hlog,hsl⟩:=zhF h1 h2
 refine⟨_,ah (aL (PW.pt (zbd (au zaf (pv 1) ad) (zbn (au zcf (ao zb4 rfl T.abs PyProof.Rows.Boot.abs (aa (pv 1) ac)) (ao ar rfl T.len PySem.boot_len (aa (zae (pv 0) rfl) ac))))))
  (ah (zde (C:=CP) xe1 rfl rfl T.bpart PySem.F.excBase_ValueError T.xpart (aa (zcI (zaZ (zfb (pv 1)) (zaZ aU zeg))) ac))) aA),?_⟩
 refine⟨_,rfl,rfl,_,rfl,aJ (λc=>zao ?_) (λc=>⟨_,rfl,n,rfl,_,rfl,p,C,dx,_,_,rfl,ho,T.cl,T.nA,zai _ _ _,al,xs,rfl,.inl (SqL.of hl),_,_,rfl,rfl,_,rfl,aJ (λc2=>?_) (λc2=>?_)⟩)⟩
 rotate_left 2
 ·have c':¬n=0:=λz=>c (decide_eq_true (by rw[z]))
  have c2':¬((xs.length:Nat):Int) < (if n < 0 then -n else n):=λz=>c2 (decide_eq_true z)
  rw[hlen]at c2'
  have hb:zbZ As.length n=false:=by
   unfold zbZ
   have a1:¬((As.length:Nat):Int) < n:=by split at c2' <;> omega
   have a2:¬n < -((As.length:Nat):Int):=by split at c2' <;> omega
   rw[decide_eq_false c',decide_eq_false a1,decide_eq_false a2]
   rfl
  rw[if_neg (by rw[hb];decide)]at h
  exact h
 all_goals
  have hb:zbZ As.length n=true:=by
   unfold zbZ
   first
    | (have c':V.int n=V.int 0:=of_decide_eq_true c
       have c2':n=0:=by injection c'
       rw[decide_eq_true c2'];rfl)
    | (have z:((xs.length:Nat):Int) < (if n < 0 then -n else n):=of_decide_eq_true c2
       rw[hlen]at z
       split at z
       ·rw[decide_eq_true (show n < -((As.length:Nat):Int) by omega),Bool.or_true]
       ·rw[decide_eq_true (show((As.length:Nat):Int) < n by omega),Bool.or_true,Bool.true_or])
  rw[if_pos hb]at h
  refine⟨_,rfl,.inr ⟨n,rfl,hlog,_,rfl,?_,_,rfl,?_,?_,(by show 1≤sizeLine;decide),h H (ai.refl H)⟩⟩
  ·rw[zba]
   exact Nat.le_trans (Nat.add_le_add_left hsl _) (by decide +kernel)
  ·rw[zba,zba]
   exact Nat.le_trans (Nat.add_le_add_right (Nat.add_le_add_left hsl _) _) (by decide +kernel)
  ·rw[zba,zba]
   exact Nat.le_trans (Nat.add_le_add_right (Nat.add_le_add_left hsl _) _) (by decide +kernel)
def Fr2 (H H':Hp) (z y:Addr):Prop:=∀ b o,H b=some o→b≠z→b≠y→H' b=some o
theorem Fr2.of1 {H H':Hp} {z y:Addr} (f:Fr1 H H' z):Fr2 H H' z y:=λb o e n _=>f b o e n
theorem Fr2.of_same {H H':Hp} {z y:Addr} (s:ai H H'):Fr2 H H' z y:=λb o e _ _=>s b o e
theorem Fr2.trans {H H1 H2:Hp} {z y:Addr} (a:Fr2 H H1 z y) (b:Fr2 H1 H2 z y):Fr2 H H2 z y:=λc o e n m=>b c o (a c o e n m) n m
def zdt (As:List At) (z:Str):Out × List At :=
 if zbS z=false then(.name,As) else if .plain z∈As then(.num (As.idxOf (.plain z)+1),As) else if 40≤As.length then(.many,As) else(.num (As.length+1),As++[.plain z])
def zco (n:Nat) (As:List At) (a b:Int):Out × List At :=
 if a < 0∨(n:Int)≤a∨b < 0∨(n:Int)≤b then(.term,As) else if .same b a∈As then(.num (As.idxOf (.same b a)+1),As) else if .same a b∈As then(.num (As.idxOf (.same a b)+1),As) else if 40≤As.length then(.many,As) else(.num (As.length+1),As++[.same a b])
def aZ:List Int→List Int→List Int
 | acc,[]=>acc
 | acc,p :: ps=>aZ (if p∈acc then acc else acc++[p]) ps
def zef (m:Nat) (Rs:List (List Int)) (ps:List Int):Out × List (List Int) :=
 if ps.any (zbZ m)=true then(.part,Rs) else if 20 < ps.length then(.many,Rs) else if 200≤Rs.length then(.many,Rs) else(.num Rs.length,Rs++[aZ [] ps])
def Told (K:W.Frag) (C CN CT CP CM:Addr) (H:Hp) (p tl al rl:Addr) (T:List Tm) (As:List At) (Rs:List (List Int)) (Q:VK) (E:XK):Out→Prop
 | .num k=>∀ H',zaY K C H' p tl al rl T As Rs→Fr2 H H' al rl→Q (.int (k:Nat)) H'
 | .name=>∀ H',ai H H'→E (.ref CN) none H'
 | .term=>∀ H',ai H H'→E (.ref CT) none H'
 | .part=>∀ H',ai H H'→E (.ref CP) none H'
 | .many=>∀ H',ai H H'→E (.ref CM) none H'
inductive zeY (K:W.Frag) (C CN CT CP CM:Addr):Sp|m{vs H Q E} (p tl al rl:Addr) (T:List Tm) (As:List At) (Rs:List (List Int)) (z:Str):vs=[.ref p,.str z]→zaY K C H p tl al rl T As Rs→Low z→As.length≤1000→Told K C CN CT CP CM H p tl al rl T (zdt As z).2 Rs Q E (zdt As z).1→zeY K C CN CT CP CM vs H Q E
inductive zfD (K:W.Frag) (C CN CT CP CM:Addr):Sp|m{vs H Q E} (p tl al rl:Addr) (T:List Tm) (As:List At) (Rs:List (List Int)) (a b:Int):vs=[.ref p,.int a,.int b]→zaY K C H p tl al rl T As Rs→(-1000≤a∧a≤1000)→(-1000≤b∧b≤1000)→As.length≤1000→Told K C CN CT CP CM H p tl al rl T (zco T.length As a b).2 Rs Q E (zco T.length As a b).1→zfD K C CN CT CP CM vs H Q E
inductive zgj (K:W.Frag) (C CN CT CP CM:Addr):Sp|m{vs H Q E} (p tl al rl q:Addr) (T:List Tm) (As:List At) (Rs:List (List Int)) (ps:List Int):vs=[.ref p,.ref q]→zaY K C H p tl al rl T As Rs→SqI K H q ps→ps.length≤1000→(∀ i∈ps,-1000≤i∧i≤1000)→Rs.length≤1000→Told K C CN CT CP CM H p tl al rl T As (zef As.length Rs ps).2 Q E (zef As.length Rs ps).1→zgj K C CN CT CP CM vs H Q E
inductive zii (K:W.Frag):Sp|m{vs H Q E9} (q:Addr) (ps:List Int):vs=[.ref q]→SqI K H q ps→ps.length≤1000→(∀(H':Hp) (l:Addr),ai H H'→H' l=some (.tup ((aZ [] ps).map V.int))→Q (.ref l) H')→zii K vs H Q E9
theorem zmn (a b:Int):peq (.int a) (.int b)=decide (a=b):=by
 simp only[peq]
 rfl
theorem q1 {Q:VK} {n:Nat} {H:Hp} (h:Q (.int ((n+1:Nat):Int)) H):Q (.int (((n:Nat):Int)+1)) H:=h
theorem zdf:∀(ps acc:List Int),(aZ acc ps).length≤acc.length+ps.length
 | [],acc=>by simp [aZ]
 | p :: ps,acc=>by
  unfold aZ
  have h:=zdf ps (if p∈acc then acc else acc++[p])
  split at h <;> simp only[lAq,List.length_cons,lS,List.length_nil]at h ⊢ <;> split <;> simp_all <;> omega
theorem zeH {ps:List Int} {i:Nat} {k:Int}:∀ {acc:List Int},ps[i]?=some k→aZ acc (ps.take (i+1))=if k∈aZ acc (ps.take i) then aZ acc (ps.take i) else aZ acc (ps.take i)++[k]:=by
 induction ps generalizing i with
 | nil=>intro acc h;simp at h
 | cons p ps ih =>
  intro acc h
  cases i with
  | zero =>
   simp at h
   subst h
   simp [aZ]
  | succ i =>
   simp only[List.take_succ_cons,aZ]
   exact ih (by simpa using h)
theorem zjp {H:Hp} {p tl al rl a:Addr} {T:List Tm} {As:List At} {Rs:List (List Int)} {t:At} {Q:VK} {E:XK} (S:zaY K C H p tl al rl T As Rs) (ha:Has K H (dA t) (.ref a)) (len:As.length≤1000)
  (k1:t∈As→∀ H',ai H H'→Q (.int (As.idxOf t:Nat)) H') (k2:t∉As→40≤As.length→∀ H',ai H H'→E (.ref CM) none H')
  (k3:t∉As→¬40≤As.length→∀ H',zaY K C H' p tl al rl T (As++[t]) Rs→Fr1 H H' al→Q (.int (As.length:Nat)) H'):zdv K CM [.ref a,.ref al,.int 40] H Q E:=by
 obtain⟨xs,hl,hs⟩:=id S.am
 refine⟨a,al,40,xs,As.map dA,dA t,rfl,ha,hl,hs,Nat.le_trans (zga (n:=1) (λa=>by rw[zkt];exact nRq _) As) (by decide),by rw[lM];exact len,by decide,by decide,?_⟩
 rw[zen ziv,ziO ziv,lM]
 by_cases hm:t∈As
 ·rw[if_pos (decide_eq_true hm)]
  exact k1 hm
 ·rw[if_neg (by rw[decide_eq_false hm];decide)]
  by_cases h40:40≤As.length
  ·rw[if_pos (by omega)]
   exact k2 hm h40
  ·rw[if_neg (by omega)]
   have kt:zaw H (upd H al (.lst (xs++[.ref a]))):=zaw.lst hl
   refine k3 hm h40 _ (S.setA ?_) λb o e hb=>by rw[aD hb];exact e
   rw[mAq]
   exact(hs.keep kt (zaK zdl As)).append (aj.one (ha.keep kt (zdl t)))
theorem scP:aO ["self","name"] ["self","name"] (aw zio):=fsc
theorem zlF {f fN fP:Addr} {fd dN dP:FuncData} (F:Fun K "add_plain" "Problem.add_plain" zio f fd) (T:Txt K mg aK C CN CT CP CM)
  (GN:aI P w K mg base (CX1 P w) 3 fN dN ["word"] (zeE CN)) (bN:aH K dN ["word"] []) (kN:W.keepIn K (.ref fN)=true) (mN:mg "ask_name"=some (.ref fN))
  (GP:aI P w K mg base (CX1 P w) 1 fP dP ["thing","things","most"] (zdv K CM)) (bP:aH K dP ["thing","things","most"] []) (kP:W.keepIn K (.ref fP)=true) (mP:mg "place_of"=some (.ref fP)) :
  aI P w K mg base (CX1 P w) 4 f fd ["self","name"] (zeY K C CN CT CP CM):=by
 obtain⟨t40,e40⟩:=T.atoms
 refine Fun.okX F scP (λvs H Q E h=>?_) (λcdv A outer s H vs Q E hr h=>?_)
 ·obtain⟨p,tl,al,rl,T,As,Rs,z,rfl,_⟩:=h
  rfl
 obtain⟨p,tl,al,rl,T',As,Rs,z,rfl,S,lo,len,h⟩:=h
 have hr1:zaq 1 _:=hr.mono (by decide)
 refine⟨_,af (zak (aB GN hr rfl mN kN bN .nil (zcQ xe1) (aa (pv 1) ac)))
  (ah (ay (aq zal (aB GP hr1 rfl mP kP bP .nil (zcQ xe1) (aa (aS (aa aU (aa (pv 1) ac))) (aa (zae (pv 0) rfl) (aa (zbU (v:=.int 40) rfl e40 ⟨_,rfl⟩) ac)))) ad))),?_⟩
 refine⟨_,rfl,z,rfl,lo,?_⟩
 cases hg:zbS z with
 | false =>
  rw[if_neg (by decide)]
  have e:zdt As z=(.name,As):=if_pos hg
  rw[e]at h
  exact h
 | true =>
 rw[if_pos rfl]
 intro H1 s1
 refine⟨_,rfl,lS2,λa ha=>?_⟩
 have s2:ai H1 (upd H1 a (.tup [.str "plain",.str z])):=zbx ha _
 have s12:=s1.trans s2
 have S2:=S.same s12
 obtain⟨⟨dx,ho⟩,_⟩:=id S2
 have hd:Has K (upd H1 a (.tup [.str "plain",.str z])) (dA (.plain z)) (.ref a):=by
  simp only[dA,Has,aj]
  exact⟨a,_,rfl,SqT.of ae,_,_,rfl,rfl,_,_,rfl,rfl,rfl⟩
 refine⟨_,rfl,p,C,dx,_,_,rfl,ho,T.cl,T.nA,zai _ _ _,?_⟩
 refine zjp (CM:=CM) (E:=E) (Q:=λx H'=>rI0 (λi j=>.int (i+j)) x (.int 1) H' Q) S2 hd len (λhm H' s'=>?_) (λhm h40 H' s'=>?_) (λhm h40 H' S' fr=>?_)
 ·have e:zdt As z=(.num (As.idxOf (.plain z)+1),As):=by unfold zdt;rw[if_neg (by rw[hg];decide),if_pos hm]
  rw[e]at h
  exact⟨_,_,rfl,rfl,q1 <| h H' (S2.same s') (Fr2.of_same (s12.trans s'))⟩
 ·have e:zdt As z=(.many,As):=by unfold zdt;rw[if_neg (by rw[hg];decide),if_neg hm,if_pos h40]
  rw[e]at h
  exact h H' (s12.trans s')
 ·have e:zdt As z=(.num (As.length+1),As++[.plain z]):=by unfold zdt;rw[if_neg (by rw[hg];decide),if_neg hm,if_neg h40]
  rw[e]at h
  exact⟨_,_,rfl,rfl,q1 <| h H' S' ((Fr2.of_same s12).trans (Fr2.of1 fr))⟩
theorem scSm:aO ["self","one","other","turned"] ["self","one","other"] (aw zjK):=fsc
theorem zmq {f fT fP:Addr} {fd dT' dP:FuncData} (F:Fun K "add_same" "Problem.add_same" zjK f fd) (T:Txt K mg aK C CN CT CP CM)
  (GT:aI P w K mg base (CX1 P w) 1 fT dT' ["self","number"] (zf0 K C CT)) (bT:aH K dT' ["self","number"] []) (mT:zcp K C "ask_term" fT)
  (GP:aI P w K mg base (CX1 P w) 1 fP dP ["thing","things","most"] (zdv K CM)) (bP:aH K dP ["thing","things","most"] []) (kP:W.keepIn K (.ref fP)=true) (mP:mg "place_of"=some (.ref fP)) :
  aI P w K mg base (CX1 P w) 2 f fd ["self","one","other"] (zfD K C CN CT CP CM):=by
 obtain⟨t40,e40⟩:=T.atoms
 refine Fun.okX F scSm (λvs H Q E h=>?_) (λcdv A outer s H vs Q E hr h=>?_)
 ·obtain⟨p,tl,al,rl,T,As,Rs,a,b,rfl,_⟩:=h
  rfl
 obtain⟨p,tl,al,rl,T',As,Rs,a,b,rfl,S,⟨a1,a2⟩,⟨b1,b2⟩,len,h⟩:=h
 have hu:=zeL hr
 refine⟨_,af (zak (zaN (pv 0) T.cl mT GT hr bT .nil (zcQ xe1) (aa (pv 1) ac)))
  (af (zak (zaN (pv 0) T.cl mT GT hr bT .nil (zcQ xe1) (aa (pv 2) ac)))
  (af (aE (i:=3) scSm.nd rfl (Or.inl rfl) (aS (aa aU (aa (pv 2) (aa (pv 1) ac)))))
  (af (aL (au (zki hu) (pv 3) (zae (pv 0) rfl) rfl) (ah (ay (aq zal (zbt PySem.F.plainAttrs_list PySem.F.slot_list_index PySem.F.type_list_index (zeJ hu) (zae (pv 0) rfl) (aa (pv 3) ac)) ad))) aA)
  (ah (ay (aq zal (aB GP hr rfl mP kP bP .nil (zcQ xe1) (aa (aS (aa aU (aa (pv 1) (aa (pv 2) ac)))) (aa (zae (pv 0) rfl) (aa (zbU (v:=.int 40) rfl e40 ⟨_,rfl⟩) ac)))) ad)))))),?_⟩
 obtain⟨⟨dx,ho⟩,_,⟨xs,hl,hs⟩,_⟩:=id S
 have no:=zdg tl al rl (m:="ask_term") (by decide +kernel) (by decide +kernel) (by decide +kernel)
 refine⟨_,rfl,p,dx,_,rfl,ho,no,_,rfl,p,tl,al,rl,T',As,Rs,a,rfl,S,a1,a2,?_⟩
 by_cases ca:a < 0∨(T'.length:Int)≤a
 ·rw[if_pos ca]
  have e:zco T'.length As a b=(.term,As):=if_pos (ca.elim .inl λz=>.inr (.inl z))
  rw[e]at h
  exact h
 rw[if_neg ca]
 refine⟨_,rfl,p,dx,_,rfl,ho,no,_,rfl,p,tl,al,rl,T',As,Rs,b,rfl,S,b1,b2,?_⟩
 by_cases cb:b < 0∨(T'.length:Int)≤b
 ·rw[if_pos cb]
  have e:zco T'.length As a b=(.term,As):=if_pos (.inr (.inr cb))
  rw[e]at h
  exact h
 rw[if_neg cb]
 have cn:¬(a < 0∨(T'.length:Int)≤a∨b < 0∨(T'.length:Int)≤b):=by omega
 refine⟨_,rfl,_,rfl,lS3,λu hu'=>?_⟩
 have s1:ai H (upd H u (.tup [.str "same",.int b,.int a])):=zbx hu' _
 have hd:Has K (upd H u (.tup [.str "same",.int b,.int a])) (dA (.same b a)) (.ref u):=by
  simp only[dA,Has,aj]
  exact⟨u,_,rfl,SqT.of ae,_,_,rfl,rfl,_,_,rfl,rfl,_,_,rfl,rfl,rfl⟩
 have S1:=S.same s1
 have hs1:=hs.keep (.of_same s1) (zaK zdl As)
 have dp:zaX (As.map dA)≤60:=Nat.le_trans (zga (n:=1) (λa=>by rw[zkt];exact nRq _) As) (by decide)
 refine⟨_,rfl,_,rfl,p,C,dx,_,_,rfl,s1 _ _ ho,T.cl,T.nA,zai _ _ _,al,xs,As.map dA,dA (.same b a),rfl,.inl (SqL.of (s1 _ _ hl)),hs1,hd,dp,_,rfl,?_⟩
 have ea:=zen ziv As (.same b a)
 by_cases hm:At.same b a∈As
 ·rw[decide_eq_true hm]at ea
  refine aJ (λ_=>?_) (λc=>absurd ea c)
  have e:zco T'.length As a b=(.num (As.idxOf (.same b a)+1),As):=by unfold zco;rw[if_neg cn,if_pos hm]
  rw[e]at h
  have hlt:=List.idxOf_lt_length_of_mem hm
  refine⟨_,rfl,p,C,dx,_,_,rfl,s1 _ _ ho,T.cl,T.nA,zai _ _ _,.inl ⟨rfl,_,SqL.of (s1 _ _ hl)⟩,_,rfl,al,xs,As.map dA,_,dA (.same b a),As.idxOf (.same b a),rfl,rfl,s1 _ _ hl,hs1,hd,dp,⟨dA (.same b a),?_,zb3 _⟩,λm dm h1 h2=>?_,_,_,rfl,rfl,q1 (h _ S1 (Fr2.of_same s1))⟩
  ·rw[List.getElem?_map,gG hlt]
   simp
  ·rw[List.getElem?_map]at h2
   cases q:As[m]? with
   | none=>rw[q]at h2;cases h2
   | some v =>
    rw[q]at h2
    have e':dm=dA v:=(Option.some.inj h2).symm
    rw[e',zkf]
    refine decide_eq_false λz=>?_
    obtain⟨hm',hv⟩:=gEq q
    have z':=List.not_of_lt_findIdx (p:=(· == At.same b a)) h1
    rw[hv,z,beq_self_eq_true]at z'
    cases z'
 ·rw[decide_eq_false hm]at ea
  refine aJ (λc=>absurd (show false=true from ea.symm.trans c) (by decide)) (λ_=>?_)
  refine⟨_,rfl,_,rfl,lS3,λv hv=>?_⟩
  have s2:ai (upd H u (.tup [.str "same",.int b,.int a])) (upd (upd H u (.tup [.str "same",.int b,.int a])) v (.tup [.str "same",.int a,.int b])):=zbx hv _
  have s12:=s1.trans s2
  have S2:=S.same s12
  have hd2:Has K (upd (upd H u (.tup [.str "same",.int b,.int a])) v (.tup [.str "same",.int a,.int b])) (dA (.same a b)) (.ref v):=by
   simp only[dA,Has,aj]
   exact⟨v,_,rfl,SqT.of ae,_,_,rfl,rfl,_,_,rfl,rfl,_,_,rfl,rfl,rfl⟩
  refine⟨_,rfl,p,C,dx,_,_,rfl,s12 _ _ ho,T.cl,T.nA,zai _ _ _,?_⟩
  refine zjp (CM:=CM) (E:=E) (Q:=λx H'=>rI0 (λi j=>.int (i+j)) x (.int 1) H' Q) S2 hd2 len (λhm2 H' s'=>?_) (λhm2 h40 H' s'=>?_) (λhm2 h40 H' S' fr=>?_)
  ·have e:zco T'.length As a b=(.num (As.idxOf (.same a b)+1),As):=by unfold zco;rw[if_neg cn,if_neg hm,if_pos hm2]
   rw[e]at h
   exact⟨_,_,rfl,rfl,q1 <| h H' (S2.same s') (Fr2.of_same (s12.trans s'))⟩
  ·have e:zco T'.length As a b=(.many,As):=by unfold zco;rw[if_neg cn,if_neg hm,if_neg hm2,if_pos h40]
   rw[e]at h
   exact h H' (s12.trans s')
  ·have e:zco T'.length As a b=(.num (As.length+1),As++[.same a b]):=by unfold zco;rw[if_neg cn,if_neg hm,if_neg hm2,if_neg h40]
   rw[e]at h
   exact⟨_,_,rfl,rfl,q1 <| h H' S' ((Fr2.of_same s12).trans (Fr2.of1 fr))⟩
structure Asks (K:W.Frag) (C:Addr) (H:Hp) (p tl al rl q:Addr) (T:List Tm) (As:List At) (Rs:List (List Int)) (n:Str) (ps:List Int):Prop where
 pr:zaY K C H p tl al rl T As Rs
 sq:SqI K H q ps
 low:Low n
 few:ps.length≤10
 small:∀ i∈ps,-1000≤i∧i≤1000
 len:T.length≤1000
inductive zg5 (K:W.Frag) (C CN CT CM:Addr):Sp|m{vs H Q E} (p tl al rl q:Addr) (T:List Tm) (As:List At) (Rs:List (List Int)) (n:Str) (ps:List Int):vs=[.ref p,.str n,.ref q]→Asks K C H p tl al rl q T As Rs n ps→(match zcY T (zbS n) (n,ps) with | (.num k,T')=>∀ H',zaY K C H' p tl al rl T' As Rs→Fr1 H H' tl→Q (.int (k:Nat)) H' | (.name,_)=>∀ H',ai H H'→E (.ref CN) none H' | (.term,_)=>∀ H',ai H H'→E (.ref CT) none H' | (.many,_)=>∀ H',ai H H'→E (.ref CM) none H' | (.part,_)=>True)→zg5 K C CN CT CM vs H Q E
theorem scA:aO ["self","name","parts","part"] ["self","name","parts"] (aw sAdd):=fsc
theorem ziN {ps:List Int} {i:Nat} {x:V} (h:(ps.map V.int)[i]?=some x):∃ k,ps[i]?=some k∧x=.int k:=by
 rw[List.getElem?_map]at h
 cases e:ps[i]? with
 | none=>rw[e]at h;cases h
 | some k =>
  rw[e]at h
  exact⟨k,rfl,(Option.some.inj h).symm⟩
theorem zkv {T:List Tm} {ps:List Int} {i:Nat} {k:Int} (h3:ps.length≤3) (e:ps[i]?=some k) (h:k < 0∨(T.length:Int)≤k):bad T ps=true:=by
 unfold bad
 rw[Bool.or_eq_true]
 refine .inr (List.any_eq_true.mpr ⟨k,mOq e,?_⟩)
 rw[Bool.or_eq_true]
 exact h.elim (λz=>.inl (decide_eq_true z)) λz=>.inr (decide_eq_true z)
theorem zea {T:List Tm} {ps:List Int} (h3:ps.length≤3) (h:∀(i:Nat) k,ps[i]?=some k→¬(k < 0∨(T.length:Int)≤k)):bad T ps=false:=by
 cases e:bad T ps with
 | false=>rfl
 | true =>
  unfold bad at e
  rw[Bool.or_eq_true]at e
  rcases e with e | e
  ·have:=of_decide_eq_true e
   omega
  ·obtain⟨k,hk,e⟩:=List.any_eq_true.mp e
   obtain⟨i,hi⟩:=List.mem_iff_getElem?.mp hk
   rw[Bool.or_eq_true]at e
   exact absurd (e.elim (λz=>.inl (of_decide_eq_true z)) λz=>.inr (of_decide_eq_true z)) (h i k hi)
theorem ok_add {f fN fT fP:Addr} {fd dN dT' dP:FuncData} (F:Fun K "add_term" "Problem.add_term" sAdd f fd) (T:Txt K mg aK C CN CT CP CM)
  (GN:aI P w K mg base (CX1 P w) 3 fN dN ["word"] (zeE CN)) (bN:aH K dN ["word"] []) (kN:W.keepIn K (.ref fN)=true) (mN:mg "ask_name"=some (.ref fN))
  (GT:aI P w K mg base (CX1 P w) 1 fT dT' ["self","number"] (zf0 K C CT)) (bT:aH K dT' ["self","number"] []) (mT:zcp K C "ask_term" fT)
  (GP:aI P w K mg base (CX1 P w) 1 fP dP ["thing","things","most"] (zdv K CM)) (bP:aH K dP ["thing","things","most"] []) (kP:W.keepIn K (.ref fP)=true) (mP:mg "place_of"=some (.ref fP)) :
  aI P w K mg base (CX1 P w) 4 f fd ["self","name","parts"] (zg5 K C CN CT CM):=by
 obtain⟨t3,e3⟩:=T.parts
 obtain⟨t60,e60⟩:=T.terms
 refine Fun.okX F scA (λvs H Q E h=>?_) (λcdv A outer s H vs Q E hr h=>?_)
 ·obtain⟨p,tl,al,rl,q,T,As,Rs,n,ps,rfl,_⟩:=h
  rfl
 obtain⟨p,tl,al,rl,q,T',As,Rs,n,ps,rfl,A0,h⟩:=h
 obtain⟨S,hq,lo,few,small,len⟩:=A0
 have hr1:zaq 1 _:=hr.mono (by decide)
 refine⟨_,af (zak (aB GN hr rfl mN kN bN .nil (zcQ xe1) (aa (pv 1) ac)))
  (af (aL (au zcf (ao ar rfl T.len PySem.boot_len (aa (pv 2) ac)) (zbU (v:=.int 3) rfl e3 ⟨_,rfl⟩))
   (ah (zde (C:=CT) xe1 rfl rfl T.bterm PySem.F.excBase_ValueError T.xterm (aa (zcI (zaZ (zfb (pv 1)) (zaZ aU (zaZ (zfb (zbU (v:=.int 3) rfl e3 ⟨_,rfl⟩)) (zaZ aU zeg))))) ac))) aA)
  (af (zah PassesOwn.leaving rfl (zhc (pv 2)) (zac (i:=3) scA.nd rfl (Or.inl rfl)) (ah (zak (zaN (pv 0) T.cl mT GT hr1 bT .nil (zcQ xe1) (aa (pv 3) ac)))))
  (ah (ay (aB GP hr1 rfl mP kP bP .nil (zcQ xe1) (aa (aS (aa (pv 1) (aa (zar zaD rfl T.tuple PyProof.Rows.Boot.tuple (aa (pv 2) ac)) ac))) (aa (zae (pv 0) rfl) (aa (zbU (v:=.int 60) rfl e60 ⟨_,rfl⟩) ac)))))))),?_⟩
 refine⟨_,rfl,n,rfl,lo,?_⟩
 cases hg:zbS n with
 | false =>
  have e:zcY T' false (n,ps)=(.name,T'):=if_pos rfl
  rw[hg,e]at h
  rw[if_neg (by decide)]
  exact h
 | true =>
 rw[if_pos rfl]
 intro H1 s1
 have S1:=S.same s1
 have hq1:=hq.same s1
 refine⟨_,rfl,q,_,rfl,hq1,_,_,rfl,rfl,_,rfl,?_⟩
 have hl1:(ps.map V.int).length=ps.length:=lM _
 refine aJ (λc=>?_) (λc=>?_)
 ·have c':(3:Int) < (((ps.map V.int).length:Nat):Int):=of_decide_eq_true c
  rw[hl1]at c'
  have hb:bad T' ps=true:=by unfold bad;rw[decide_eq_true (by omega:3 < ps.length)];rfl
  have e:zcY T' true (n,ps)=(.term,T'):=by unfold zcY;rw[if_neg (by decide),if_pos hb]
  rw[hg,e]at h
  have hn:=lo.1
  refine⟨_,rfl,.inl ⟨n,rfl,Nat.le_trans hn (by decide),_,rfl,?_,_,rfl,?_,.inr ⟨3,rfl,by decide +kernel,_,rfl,?_,_,rfl,?_,?_,(by show 1≤sizeLine;decide),h H1 s1⟩⟩⟩
  all_goals
   simp only[zba]
   exact Nat.le_trans (by first | exact Nat.add_le_add_left hn _ | exact Nat.add_le_add_right (Nat.add_le_add_left hn _) _ | exact Nat.add_le_add_right (Nat.add_le_add_right (Nat.add_le_add_left hn _) _) _ | exact Nat.add_le_add_right (Nat.add_le_add_right (Nat.add_le_add_right (Nat.add_le_add_left hn _) _) _) _) (by decide +kernel)
 ·have c':¬(3:Int) < (((ps.map V.int).length:Nat):Int):=λz=>c (decide_eq_true z)
  rw[hl1]at c'
  have h3:ps.length≤3:=by omega
  obtain⟨⟨dx,ho⟩,⟨xs,hl,hs⟩,_⟩:=id S1
  have addE:bad T' ps=false→zcY T' true (n,ps)=if(n,ps)∈T' then(.num (T'.idxOf (n,ps)),T') else if 60≤T'.length then(.many,T') else(.num T'.length,T'++[(n,ps)]):=λhb=>by unfold zcY;rw[if_neg (by decide),if_neg (by rw[hb];decide)]
  have last:∀(H3:Hp) (a l:Addr),ai H H3→H3 a=some (.tup [.str n,.ref l])→SqT K H3 l (ps.map V.int)→bad T' ps=false→zdv K CM [.ref a,.ref tl,.int 60] H3 Q E:=λH3 a l s3 ha hq3 hb=>by
   have S3:=S.same s3
   rw[hg,addE hb]at h
   obtain⟨xs3,hl3,hs3⟩:=id S3.tm
   have hd:Has K H3 (dT (n,ps)) (.ref a):=by
    simp only[dT,Has,aj]
    exact⟨a,_,rfl,SqT.of ha,_,_,rfl,rfl,_,_,rfl,⟨l,_,rfl,hq3,aj.ints ps⟩,rfl⟩
   refine⟨a,tl,60,xs3,T'.map dT,dT (n,ps),rfl,hd,hl3,hs3,Nat.le_trans (zfq T') (by decide),by rw[lM];exact len,by decide,by decide,?_⟩
   rw[zen zko,ziO zko,lM]
   by_cases hm:(n,ps)∈T'
   ·rw[if_pos hm]at h
    rw[if_pos (decide_eq_true hm)]
    exact λH' s'=>h H' (S3.same s') (Fr1.of_same (s3.trans s'))
   ·rw[if_neg hm]at h
    rw[if_neg (by rw[decide_eq_false hm];decide)]
    by_cases h60:60≤T'.length
    ·rw[if_pos h60]at h
     rw[if_pos (by omega)]
     exact λH' s'=>h H' (s3.trans s')
    ·rw[if_neg h60]at h
     rw[if_neg (by omega)]
     have kt:zaw H3 (upd H3 tl (.lst (xs3++[.ref a]))):=zaw.lst hl3
     refine h _ (S3.setT ?_) λb o e hb'=>?_
     ·rw[mAq]
      exact(hs3.keep kt (zbh T')).append (aj.one (hd.keep kt (zkk _)))
     ·rw[aD hb']
      exact s3 b o e
  rcases hq1 with hqX | hqX
  ·refine⟨_,rfl,q,rfl,.inl ⟨⟨_,hqX⟩,zby (K:=K) (a:=q) (xs:=ps.map V.int) (λi σ H2=>H2=H1∧(∃ z,σ=[some (.ref p),some (.str n),some (.ref q),z])∧∀(j:Nat) k,j < i→ps[j]?=some k→¬(k < 0∨(T'.length:Int)≤k))
    ⟨rfl,⟨_,rfl⟩,λj k hj=>absurd hj (Nat.not_lt_zero j)⟩ (λi σ H2 _ ⟨e,_⟩=>by rw[e];exact hqX) ?_ ?_⟩⟩
   ·rintro i x σ H2 hx ⟨rfl,⟨z,rfl⟩,no⟩
    obtain⟨k,ek,rfl⟩:=ziN hx
    have sk:=small k (mOq ek)
    refine⟨_,rfl,p,dx,_,rfl,ho,zdg _ _ _ (by decide +kernel) (by decide +kernel) (by decide +kernel),_,rfl,p,tl,al,rl,T',As,Rs,k,rfl,S1,sk.1,sk.2,?_⟩
    by_cases hk:k < 0∨(T'.length:Int)≤k
    ·rw[if_pos hk]
     have e:zcY T' true (n,ps)=(.term,T'):=by unfold zcY;rw[if_neg (by decide),if_pos (zkv h3 ek hk)]
     rw[hg,e]at h
     exact λH' s'=>h H' (s1.trans s')
    ·rw[if_neg hk]
     refine⟨rfl,⟨_,rfl⟩,λj k' hj ej=>?_⟩
     by_cases hji:j < i
     ·exact no j k' hji ej
     ·have:j=i:=by omega
      subst this
      rw[ek]at ej
      cases ej
      exact hk
   ·rintro σ H2 ⟨rfl,⟨z,rfl⟩,no⟩
    have hb:bad T' ps=false:=zea h3 λi k e=>no i k (by rw[hl1];exact(gEq e).1) e
    refine⟨_,rfl,_,rfl,q,_,rfl,.inl ⟨hqX,λl hl'=>⟨lS2,λa ha=>?_⟩⟩⟩
    have sA:ai H2 (upd H2 l (.tup (ps.map V.int))):=zbx hl' _
    have sB:ai (upd H2 l (.tup (ps.map V.int))) (upd (upd H2 l (.tup (ps.map V.int))) a (.tup [.str n,.ref l])):=zbx ha _
    have sAB:=sA.trans sB
    have hq3:SqT K (upd (upd H2 l (.tup (ps.map V.int))) a (.tup [.str n,.ref l])) l (ps.map V.int):=SqT.of (sB _ _ ae)
    refine⟨_,rfl,p,C,dx,_,_,rfl,sAB _ _ ho,T.cl,T.nT,zaO _ _ _,last _ a _ (s1.trans sAB) ae hq3 hb⟩
  ·refine⟨_,rfl,q,rfl,.inr ⟨⟨_,hqX⟩,zcn (K:=K) (a:=q) (xs:=ps.map V.int) (λi σ H2=>H2=H1∧(∃ z,σ=[some (.ref p),some (.str n),some (.ref q),z])∧∀(j:Nat) k,j < i→ps[j]?=some k→¬(k < 0∨(T'.length:Int)≤k))
    ⟨rfl,⟨_,rfl⟩,λj k hj=>absurd hj (Nat.not_lt_zero j)⟩ (λi σ H2 _ ⟨e,_⟩=>by rw[e];exact hqX) ?_ ?_⟩⟩
   ·rintro i x σ H2 hx ⟨rfl,⟨z,rfl⟩,no⟩
    obtain⟨k,ek,rfl⟩:=ziN hx
    have sk:=small k (mOq ek)
    refine⟨_,rfl,p,dx,_,rfl,ho,zdg _ _ _ (by decide +kernel) (by decide +kernel) (by decide +kernel),_,rfl,p,tl,al,rl,T',As,Rs,k,rfl,S1,sk.1,sk.2,?_⟩
    by_cases hk:k < 0∨(T'.length:Int)≤k
    ·rw[if_pos hk]
     have e:zcY T' true (n,ps)=(.term,T'):=by unfold zcY;rw[if_neg (by decide),if_pos (zkv h3 ek hk)]
     rw[hg,e]at h
     exact λH' s'=>h H' (s1.trans s')
    ·rw[if_neg hk]
     refine⟨rfl,⟨_,rfl⟩,λj k' hj ej=>?_⟩
     by_cases hji:j < i
     ·exact no j k' hji ej
     ·have:j=i:=by omega
      subst this
      rw[ek]at ej
      cases ej
      exact hk
   ·rintro σ H2 ⟨rfl,⟨z,rfl⟩,no⟩
    have hb:bad T' ps=false:=zea h3 λi k e=>no i k (by rw[hl1];exact(gEq e).1) e
    refine⟨_,rfl,_,rfl,q,_,rfl,.inr ⟨hqX,lS2,λa ha=>?_⟩⟩
    have sAB:ai H2 (upd H2 a (.tup [.str n,.ref q])):=zbx ha _
    have hq3:SqT K (upd H2 a (.tup [.str n,.ref q])) q (ps.map V.int):=(zaw.of_same sAB).sq hqX
    refine⟨_,rfl,p,C,dx,_,_,rfl,sAB _ _ ho,T.cl,T.nT,zaO _ _ _,last _ a _ (s1.trans sAB) ae hq3 hb⟩
theorem zjw (a b:Int):peq (.int a) (.int b)=true↔a=b:=by
 rw[zmn]
 exact decide_eq_true_iff
theorem zgv {ps:List Int} {i:Nat} {x:V} (h:(ps.map V.int)[i]?=some x):∃ k,ps[i]?=some k∧x=.int k:=by
 rw[List.getElem?_map]at h
 cases e:ps[i]? with
 | none=>rw[e]at h;cases h
 | some k =>
  rw[e]at h
  exact⟨k,rfl,(Option.some.inj h).symm⟩
theorem scO:aO ["parts","kept","part"] ["parts"] (aw sOnce):=fsc
theorem zms {f:Addr} {fd:FuncData} (F:Fun K "once_each" "once_each" sOnce f fd) (T:Txt K mg aK C CN CT CP CM):aI P w K mg base CX0 1 f fd ["parts"] (zii K):=by
 refine F.ok scO (λvs H Q E h=>?_) (λcdv A outer s H vs Q E hr h=>?_)
 ·obtain⟨q,ps,rfl,_⟩:=h
  rfl
 obtain⟨q,ps,rfl,hq,len,k⟩:=h
 have hu:=zeL hr
 refine⟨_,af (aE (i:=1) scO.nd rfl (Or.inl rfl) (zag ac))
  (af (zah PassesOwn.never rfl (zhc (pv 0)) (zac (i:=2) scO.nd rfl (Or.inl rfl))
   (ah (aL (au (zhV hu) (pv 2) (pv 1) rfl) (ah (zak (zbt PySem.F.plainAttrs_list PySem.F.slot_list_append PySem.F.type_list_append zaE (pv 1) (aa (pv 2) ac)))) aA)))
  (ah (ay (zar zaD rfl T.tuple PyProof.Rows.Boot.tuple (aa (pv 1) ac))))),?_⟩
 refine⟨lS0,λl hl=>?_⟩
 have s1:ai H (upd H l (.lst [])):=zbx hl _
 rcases hq with hqX | hqX
 ·refine⟨_,rfl,q,rfl,.inl ⟨⟨_,s1.seq hqX⟩,zby (K:=K) (a:=q) (xs:=ps.map V.int) (λi σ H2=>ai H H2∧(∃ z,σ=[some (.ref q),some (.ref l),z])∧H2 l=some (.lst ((aZ [] (ps.take i)).map V.int)))
   ⟨s1,⟨_,rfl⟩,ae⟩ (λi σ H2 _ ⟨e,_⟩=>e.seq hqX) ?_ ?_⟩⟩
  ·rintro i x σ H2 hx ⟨s2,⟨z,rfl⟩,hl2⟩
   obtain⟨k',ek,rfl⟩:=zgv hx
   have et:=zeH (acc:=[]) ek
   have lenz:((aZ [] (ps.take i)).map V.int).length < sizeLine:=by
    rw[lM]
    have:=zdf (ps.take i) []
    rw[List.length_take,List.length_nil]at this
    exact Nat.lt_of_le_of_lt (show _≤1000 by omega) (by decide)
   refine⟨_,rfl,_,rfl,l,_,(aZ [] (ps.take i)).map Dt.int,.int k',rfl,.inl (SqL.of hl2),aj.ints _,by simp only[Has],by rw[zcJ];decide,_,rfl,?_⟩
   have ea:=zen zjw (aZ [] (ps.take i)) k'
   by_cases hm:k'∈aZ [] (ps.take i)
   ·rw[decide_eq_true hm]at ea
    refine aJ (λc=>absurd (show(!((aZ [] (ps.take i)).map Dt.int).any λd'=>peq d' (.int k'))=true from c) (by rw[ea];decide)) (λ_=>?_)
    rw[if_pos hm]at et
    exact⟨s2,⟨_,rfl⟩,by rw[et];exact hl2⟩
   ·rw[decide_eq_false hm]at ea
    refine aJ (λ_=>?_) (λc=>absurd (show(!((aZ [] (ps.take i)).map Dt.int).any λd'=>peq d' (.int k'))=true by rw[ea];rfl) c)
    rw[if_neg hm]at et
    refine⟨_,rfl,.inl ⟨rfl,_,SqL.of hl2⟩,_,rfl,l,_,_,rfl,rfl,hl2,lenz,?_⟩
    refine⟨λb o e=>by rw[aD (zaa e hl)];exact s2 b o e,⟨_,rfl⟩,?_⟩
    rw[et,mAq,ae]
    rfl
  ·rintro σ H2 ⟨s2,⟨z,rfl⟩,hl2⟩
   rw[lM,List.take_length]at hl2
   refine⟨_,rfl,l,_,rfl,.inl ⟨SqL.of hl2,λl2 hl2'=>k _ l2 (s2.trans (zbx hl2' _)) ae⟩⟩
 ·refine⟨_,rfl,q,rfl,.inr ⟨⟨_,(zaw.of_same s1).sq hqX⟩,zcn (K:=K) (a:=q) (xs:=ps.map V.int) (λi σ H2=>ai H H2∧(∃ z,σ=[some (.ref q),some (.ref l),z])∧H2 l=some (.lst ((aZ [] (ps.take i)).map V.int)))
   ⟨s1,⟨_,rfl⟩,ae⟩ (λi σ H2 _ ⟨e,_⟩=>(zaw.of_same e).sq hqX) ?_ ?_⟩⟩
  ·rintro i x σ H2 hx ⟨s2,⟨z,rfl⟩,hl2⟩
   obtain⟨k',ek,rfl⟩:=zgv hx
   have et:=zeH (acc:=[]) ek
   have lenz:((aZ [] (ps.take i)).map V.int).length < sizeLine:=by
    rw[lM]
    have:=zdf (ps.take i) []
    rw[List.length_take,List.length_nil]at this
    exact Nat.lt_of_le_of_lt (show _≤1000 by omega) (by decide)
   refine⟨_,rfl,_,rfl,l,_,(aZ [] (ps.take i)).map Dt.int,.int k',rfl,.inl (SqL.of hl2),aj.ints _,by simp only[Has],by rw[zcJ];decide,_,rfl,?_⟩
   have ea:=zen zjw (aZ [] (ps.take i)) k'
   by_cases hm:k'∈aZ [] (ps.take i)
   ·rw[decide_eq_true hm]at ea
    refine aJ (λc=>absurd (show(!((aZ [] (ps.take i)).map Dt.int).any λd'=>peq d' (.int k'))=true from c) (by rw[ea];decide)) (λ_=>?_)
    rw[if_pos hm]at et
    exact⟨s2,⟨_,rfl⟩,by rw[et];exact hl2⟩
   ·rw[decide_eq_false hm]at ea
    refine aJ (λ_=>?_) (λc=>absurd (show(!((aZ [] (ps.take i)).map Dt.int).any λd'=>peq d' (.int k'))=true by rw[ea];rfl) c)
    rw[if_neg hm]at et
    refine⟨_,rfl,.inl ⟨rfl,_,SqL.of hl2⟩,_,rfl,l,_,_,rfl,rfl,hl2,lenz,?_⟩
    refine⟨λb o e=>by rw[aD (zaa e hl)];exact s2 b o e,⟨_,rfl⟩,?_⟩
    rw[et,mAq,ae]
    rfl
  ·rintro σ H2 ⟨s2,⟨z,rfl⟩,hl2⟩
   rw[lM,List.take_length]at hl2
   refine⟨_,rfl,l,_,rfl,.inl ⟨SqL.of hl2,λl2 hl2'=>k _ l2 (s2.trans (zbx hl2' _)) ae⟩⟩
theorem scRw:aO ["self","parts","part"] ["self","parts"] (aw sRow):=fsc
theorem ok_row {f fP fO:Addr} {fd dP dO:FuncData} (F:Fun K "add_row" "Problem.add_row" sRow f fd) (T:Txt K mg aK C CN CT CP CM)
  (GP:aI P w K mg base (CX1 P w) 1 fP dP ["self","part"] (zf1 K C CP)) (bP:aH K dP ["self","part"] []) (mP:zcp K C "ask_part" fP)
  (GO:aI P w K mg base CX0 1 fO dO ["parts"] (zii K)) (bO:aH K dO ["parts"] []) (kO:W.keepIn K (.ref fO)=true) (mO:mg "once_each"=some (.ref fO)) :
  aI P w K mg base (CX1 P w) 2 f fd ["self","parts"] (zgj K C CN CT CP CM):=by
 obtain⟨t20,e20⟩:=T.rparts
 obtain⟨t200,e200⟩:=T.rows
 refine Fun.okX F scRw (λvs H Q E h=>?_) (λcdv A outer s H vs Q E hr h=>?_)
 ·obtain⟨p,tl,al,rl,q,T,As,Rs,ps,rfl,_⟩:=h
  rfl
 obtain⟨p,tl,al,rl,q,T',As,Rs,ps,rfl,S,hq,len,small,rlen,h⟩:=h
 obtain⟨t2,h2,q2⟩:∃ t,PSs (aV (CX1 P w) P w K mg base ["self","parts","part"] "Problem.add_row" (aw sRow) f cdv A outer s H E) ((zaR sRow).drop 1) t ∧
   ∀ z,ps.any (zbZ As.length)=false→t { nx:=λ_ H'=>Q .non H',rt:=Q } [some (.ref p),some (.ref q),z] H:=by
  refine⟨_,af (aL (au zcf (ao ar rfl T.len PySem.boot_len (aa (pv 1) ac)) (zbU (v:=.int 20) rfl e20 ⟨_,rfl⟩))
    (ah (zde (C:=CM) xe1 rfl rfl T.bmany PySem.F.excBase_ValueError T.xmany (aa (zcI (zaZ aU (zaZ (zfb (zbU (v:=.int 20) rfl e20 ⟨_,rfl⟩)) (zaZ aU zeg)))) ac))) aA)
   (af (aL (au zd1 (ao ar rfl T.len PySem.boot_len (aa (zae (pv 0) rfl) ac)) (zbU (v:=.int 200) rfl e200 ⟨_,rfl⟩))
    (ah (zde (C:=CM) xe1 rfl rfl T.bmany PySem.F.excBase_ValueError T.xmany (aa (zcI (zaZ aU (zaZ (zfb (zbU (v:=.int 200) rfl e200 ⟨_,rfl⟩)) (zaZ aU zeg)))) ac))) aA)
   (af (zak (zbt PySem.F.plainAttrs_list PySem.F.slot_list_append PySem.F.type_list_append zaE (zae (pv 0) rfl) (aa (aB GO hr rfl mO kO bO .nil aR (aa (pv 1) ac)) ac)))
   (ah (ay (aq zbA (ao ar rfl T.len PySem.boot_len (aa (zae (pv 0) rfl) ac)) ad))))),?_⟩
  intro z no
  obtain⟨⟨dx,ho⟩,_,_,⟨xs,hl,hs⟩,_⟩:=id S
  have hlen:xs.length=Rs.length:=by rw[←hs.length,lM]
  have hpl:(ps.map V.int).length=ps.length:=lM _
  refine⟨_,rfl,q,_,rfl,hq,_,_,rfl,rfl,_,rfl,aJ (λc=>?_) (λc=>?_)⟩
  ·have c':(20:Int) < (((ps.map V.int).length:Nat):Int):=of_decide_eq_true c
   rw[hpl]at c'
   have e:zef As.length Rs ps=(.many,Rs):=by unfold zef;rw[if_neg (by rw[no];decide),if_pos (by omega)]
   rw[e]at h
   exact⟨_,rfl,by decide +kernel,.inr ⟨20,rfl,by decide +kernel,_,rfl,by decide +kernel,_,rfl,by decide +kernel,by decide +kernel,(by show 1≤sizeLine;decide),h H (ai.refl H)⟩⟩
  have c':¬(20:Int) < (((ps.map V.int).length:Nat):Int):=λz=>c (decide_eq_true z)
  rw[hpl]at c'
  refine⟨_,rfl,p,C,dx,_,_,rfl,ho,T.cl,T.nR,zb0 _ _ _,rl,xs,rfl,.inl (SqL.of hl),_,_,rfl,rfl,_,rfl,aJ (λc2=>?_) (λc2=>?_)⟩
  ·have c3:(200:Int)≤((xs.length:Nat):Int):=of_decide_eq_true c2
   rw[hlen]at c3
   have e:zef As.length Rs ps=(.many,Rs):=by unfold zef;rw[if_neg (by rw[no];decide),if_neg (by omega),if_pos (by omega)]
   rw[e]at h
   exact⟨_,rfl,by decide +kernel,.inr ⟨200,rfl,by decide +kernel,_,rfl,by decide +kernel,_,rfl,by decide +kernel,by decide +kernel,(by show 1≤sizeLine;decide),h H (ai.refl H)⟩⟩
  have c3:¬(200:Int)≤((xs.length:Nat):Int):=λz=>c2 (decide_eq_true z)
  rw[hlen]at c3
  have e:zef As.length Rs ps=(.num Rs.length,Rs++[aZ [] ps]):=by unfold zef;rw[if_neg (by rw[no];decide),if_neg (by omega),if_neg (by omega)]
  rw[e]at h
  refine⟨_,rfl,p,C,dx,_,_,rfl,ho,T.cl,T.nR,zb0 _ _ _,.inl ⟨rfl,_,SqL.of hl⟩,_,rfl,q,ps,rfl,hq,len,λH2 l s2 hl2=>?_⟩
  have S2:=S.same s2
  have hlr:=s2 _ _ hl
  have hd:Has K H2 (dR (aZ [] ps)) (.ref l):=by
   simp only[dR,Has]
   exact⟨l,_,rfl,SqT.of hl2,aj.ints _⟩
  have kt:zaw H2 (upd H2 rl (.lst (xs++[.ref l]))):=zaw.lst hlr
  have S3:zaY K C (upd H2 rl (.lst (xs++[.ref l]))) p tl al rl T' As (Rs++[aZ [] ps]):=S2.setR (by
   rw[mAq]
   exact((hs.keep (.of_same s2) (zaK zdL Rs)).keep kt (zaK zdL Rs)).append (aj.one (hd.keep kt (zdL _))))
  obtain⟨⟨dx3,ho3⟩,_⟩:=id S3
  refine⟨rl,xs,_,rfl,rfl,hlr,Nat.lt_of_le_of_lt (by rw[hlen];exact rlen) (by decide),?_⟩
  refine⟨_,rfl,p,C,dx3,_,_,rfl,ho3,T.cl,T.nR,zb0 _ _ _,rl,_,rfl,.inl (SqL.of ae),_,_,rfl,rfl,?_⟩
  have en:(((xs++[V.ref l]).length:Nat):Int) - 1=(Rs.length:Nat):=by rw[lAq,hlen];simp
  have fin:=h _ S3 (λb o e _ n2=>by rw[aD n2];exact s2 b o e)
  show Q (.int ((((xs++[V.ref l]).length:Nat):Int) - 1)) _
  rw[en]
  exact fin
 refine⟨_,af (zah PassesOwn.leaving rfl (zhc (pv 1)) (zac (i:=2) scRw.nd rfl (Or.inl rfl)) (ah (zak (zaN (pv 0) T.cl mP GP hr bP .nil (zcQ xe1) (aa (pv 2) ac))))) h2,?_⟩
 obtain⟨⟨dx,ho⟩,_⟩:=id S
 have noA:=zdg tl al rl (m:="ask_part") (by decide +kernel) (by decide +kernel) (by decide +kernel)
 have fin:∀ z,ps.any (zbZ As.length)=false→SqI K H q ps→t2 { nx:=λ_ H'=>Q .non H',rt:=Q } [some (.ref p),some (.ref q),z] H:=λz no _=>q2 z no
 rcases hq with hqX | hqX
 ·refine⟨_,rfl,q,rfl,.inl ⟨⟨_,hqX⟩,zby (K:=K) (a:=q) (xs:=ps.map V.int) (λi σ H2=>H2=H∧(∃ z,σ=[some (.ref p),some (.ref q),z])∧(ps.take i).any (zbZ As.length)=false)
   ⟨rfl,⟨_,rfl⟩,by simp⟩ (λi σ H2 _ ⟨e,_⟩=>by rw[e];exact hqX) ?_ ?_⟩⟩
  ·rintro i x σ H2 hx ⟨rfl,⟨z,rfl⟩,no⟩
   obtain⟨k',ek,rfl⟩:=zgv hx
   have sk:=small k' (mOq ek)
   refine⟨_,rfl,p,dx,_,rfl,ho,noA,_,rfl,p,tl,al,rl,T',As,Rs,k',rfl,S,sk.1,sk.2,?_⟩
   by_cases hk:zbZ As.length k'=true
   ·rw[if_pos hk]
    have e:zef As.length Rs ps=(.part,Rs):=if_pos (List.any_eq_true.mpr ⟨k',mOq ek,hk⟩)
    rw[e]at h
    exact h
   ·rw[if_neg hk]
    refine⟨rfl,⟨_,rfl⟩,?_⟩
    rw[List.take_add_one,ek,List.any_append,no]
    simpa using hk
  ·rintro σ H2 ⟨rfl,⟨z,rfl⟩,no⟩
   rw[lM,List.take_length]at no
   exact fin z no (.inl hqX)
 ·refine⟨_,rfl,q,rfl,.inr ⟨⟨_,hqX⟩,zcn (K:=K) (a:=q) (xs:=ps.map V.int) (λi σ H2=>H2=H∧(∃ z,σ=[some (.ref p),some (.ref q),z])∧(ps.take i).any (zbZ As.length)=false)
   ⟨rfl,⟨_,rfl⟩,by simp⟩ (λi σ H2 _ ⟨e,_⟩=>by rw[e];exact hqX) ?_ ?_⟩⟩
  ·rintro i x σ H2 hx ⟨rfl,⟨z,rfl⟩,no⟩
   obtain⟨k',ek,rfl⟩:=zgv hx
   have sk:=small k' (mOq ek)
   refine⟨_,rfl,p,dx,_,rfl,ho,noA,_,rfl,p,tl,al,rl,T',As,Rs,k',rfl,S,sk.1,sk.2,?_⟩
   by_cases hk:zbZ As.length k'=true
   ·rw[if_pos hk]
    have e:zef As.length Rs ps=(.part,Rs):=if_pos (List.any_eq_true.mpr ⟨k',mOq ek,hk⟩)
    rw[e]at h
    exact h
   ·rw[if_neg hk]
    refine⟨rfl,⟨_,rfl⟩,?_⟩
    rw[List.take_add_one,ek,List.any_append,no]
    simpa using hk
  ·rintro σ H2 ⟨rfl,⟨z,rfl⟩,no⟩
   rw[lM,List.take_length]at no
   exact fin z no (.inr hqX)
end K36
namespace K36
open PySem L2
theorem zd0 {P:Program} {w:World} {X:Cx}:zdO (CX1 P w) X E0:=λ_ _ _ _ _ _ _ h=>by
 obtain⟨_,_,_,_,_,_,_,_,_,_,_,_,_,hE⟩:=h
 exact hE.elim
theorem zbH (a:Int) {b:Int} (h:0 < b):0≤a % b∧a % b < b:=⟨Int.emod_nonneg _ (by omega),Int.emod_lt_of_pos _ h⟩
theorem made {K:W.Frag} {C:Addr} {H H1:Hp} {x dx tl al rl:Addr} (hx:H x=none) (hdx:H dx=none) (hne:dx≠x) (h1:(upd (upd H dx (.own x)) x (.ins C dx [])) tl=none) (h2:(upd (upd H dx (.own x)) x (.ins C dx [])) al=none)
  (h3:(upd (upd H dx (.own x)) x (.ins C dx [])) rl=none) (na:al≠tl) (nr:rl≠tl) (nx:rl≠al) (k1:H1 x=some (.ins C dx (zcC tl al rl))) (k2:H1 tl=some (.lst [])) (k3:H1 al=some (.lst [])) (k4:H1 rl=some (.lst []))
  (k5:∀ b o,(upd (upd H dx (.own x)) x (.ins C dx [])) b=some o→b≠x→H1 b=some o):zaY K C H1 x tl al rl [] [] []∧ai H H1∧H tl=none∧H al=none∧H rl=none:=by
 have sm:ai H (upd (upd H dx (.own x)) x (.ins C dx [])):=(zbx hdx _).trans (zbx (by rw[aD hne.symm];exact hx) _)
 exact⟨⟨⟨dx,k1⟩,⟨[],k2,.nil⟩,⟨[],k3,.nil⟩,⟨[],k4,.nil⟩,na,nr,nx⟩,λb o e=>k5 b o (sm _ _ e) (zaa e hx),sm.free h1,sm.free h2,sm.free h3⟩
structure Own (P:Program) (w:World) (K:W.Frag) (mg:Str→Option Value) (base:Heap) (C CN CT CP CM:Addr) (fI fA fQ fS:Addr) (dI dA' dQ dS:FuncData):Prop where
 I:aI P w K mg base CX0 1 fI dI ["self"] (zij C)
 bI:aH K dI ["self"] []
 mI:Mk K C fI
 gI:mg "Problem"=some (.ref C)
 A:aI P w K mg base (CX1 P w) 4 fA dA' ["self","name","parts"] (zg5 K C CN CT CM)
 bA:aH K dA' ["self","name","parts"] []
 mA:zcp K C "add_term" fA
 Q:aI P w K mg base (CX1 P w) 4 fQ dQ ["self","name"] (zeY K C CN CT CP CM)
 bQ:aH K dQ ["self","name"] []
 mQ:zcp K C "add_plain" fQ
 S:aI P w K mg base (CX1 P w) 4 fS dS ["self","one","other"] (zfD K C CN CT CP CM)
 bS:aH K dS ["self","one","other"] []
 mS:zcp K C "add_same" fS
section
variable {K:W.Frag} {C CN CT CP CM:Addr}
theorem zaY.lenA {H:Hp} {p tl al rl:Addr} {T:List Tm} {As:List At} {Rs:List (List Int)} (S:zaY K C H p tl al rl T As Rs):∃ dx xs,H p=some (.ins C dx (zcC tl al rl))∧H al=some (.lst xs)∧xs.length=As.length:=by
 obtain⟨⟨dx,h1⟩,_,⟨xs,h2,h3⟩,_⟩:=S
 exact⟨dx,xs,h1,h2,by rw[←h3.length,lM]⟩
theorem zgF (tl al rl:Addr):(zcC tl al rl).lookup ("add_term":Str)=none:=zdg _ _ _ (by decide +kernel) (by decide +kernel) (by decide +kernel)
theorem ziY (tl al rl:Addr):(zcC tl al rl).lookup ("add_plain":Str)=none:=zdg _ _ _ (by decide +kernel) (by decide +kernel) (by decide +kernel)
theorem zeT (tl al rl:Addr):(zcC tl al rl).lookup ("add_same":Str)=none:=zdg _ _ _ (by decide +kernel) (by decide +kernel) (by decide +kernel)
theorem zfw (tl al rl:Addr):(zcC tl al rl).lookup ("add_row":Str)=none:=zdg _ _ _ (by decide +kernel) (by decide +kernel) (by decide +kernel)
end
abbrev zim:Stmt:=zgA
abbrev zin:Stmt:=zh9
abbrev zfs:Stmt:=zgz
abbrev zd8:Stmt:=zhK
structure TxG (K:W.Frag) (mg:Str→Option Value) (C:Addr):Prop where
 cl:Cls K C
 nL:zcD K C "least"
 nG:zcD K C "gathered"
 min:mg "min"=none
 max:mg "max"=none
 range:mg "range"=none
namespace Gp
inductive sp_init (C:Addr):Sp|m{vs H Q E9} (g dx:Addr):vs=[.ref g]→H g=some (.ins C dx [])→(∀(H':Hp) (ld gd:Addr),(∀ b o,b≠g→H b=some o→H' b=some o)→H ld=none→H gd=none→ld≠gd→H' g=some (.ins C dx [("least",.ref ld),("gathered",.ref gd)])→H' ld=some (.dK [])→H' gd=some (.dK [])→Q .non H')→sp_init C vs H Q E9
theorem zmi:aO ["self"] ["self"] (aw zim):=fsc
section
variable {P:Program} {w:World} {K:W.Frag} {mg:Str→Option Value} {base:Heap} {C f fH fT fM fI fG:Addr} {fd dH dT' dM dI dG:FuncData}
theorem ok_init (F:Fun K "__init__" "Groups.__init__" zim f fd) (T:TxG K mg C):aI P w K mg base CX0 1 f fd ["self"] (sp_init C):=by
 refine F.ok zmi (λvs H Q E h=>?_) (λcdv A outer s H vs Q E hr h=>?_)
 ·obtain⟨g,dx,rfl,_⟩:=h
  rfl
 obtain⟨g,dx,rfl,hg,q⟩:=h
 refine⟨_,(af (zfE (pv 0) zfp rfl)
  (ah (zfE (pv 0) zfp rfl))),?_⟩
 try dsimp only [Cx.nox,Cx.wish,aV]
 refine λld hld=>?_
 have n1:g≠ld:=zaa hg hld
 have hg1:(upd H ld (.dK [])) g=some (.ins C dx []):=by rw[aD n1];exact hg
 have k1:∀ b o,H b=some o→(upd H ld (.dK [])) b=some o:=ag hld _
 have hl1:=ae (H:=H) (a:=ld) (o:=.dK [])
 generalize upd H ld (.dK [])=H1 at hg1 k1 hl1
 refine⟨_,rfl,g,C,dx,_,rfl,hg1,T.cl,T.nL,(by decide),?_⟩
 have hg2:(upd H1 g (.ins C dx (zbF "least" (.ref ld) []))) g=some (.ins C dx [("least",.ref ld)]):=ae
 have hl2:(upd H1 g (.ins C dx (zbF "least" (.ref ld) []))) ld=some (.dK []):=by rw[aD (Ne.symm n1)];exact hl1
 have k2:∀ b o,b≠g→H b=some o→(upd H1 g (.ins C dx (zbF "least" (.ref ld) []))) b=some o:=λb o nb h=>by rw[aD nb];exact k1 b o h
 have f2:∀ b,(upd H1 g (.ins C dx (zbF "least" (.ref ld) []))) b=none→H b=none:=λb h=>by
  cases e:H b with
  | none=>rfl
  | some o =>
   by_cases z:b=g
   ·rw[z,hg2]at h;cases h
   ·rw[k2 b o z e]at h;cases h
 generalize upd H1 g (.ins C dx (zbF "least" (.ref ld) []))=H2 at hg2 hl2 k2 f2
 refine λgd hgd=>?_
 have n3:g≠gd:=zaa hg2 hgd
 have n4:ld≠gd:=zaa hl2 hgd
 refine⟨_,rfl,g,C,dx,_,rfl,by rw[aD n3];exact hg2,T.cl,T.nG,(by show 1 < 1000;decide),?_⟩
 refine q _ ld gd (λb o nb h=>?_) hld (f2 gd hgd) n4 ae (by rw[aD (Ne.symm n1),aD n4];exact hl2) (by rw[aD (Ne.symm n3)];exact ae)
 have nbg:b≠gd:=λz=>by rw[z,f2 gd hgd]at h;cases h
 rw[aD nb,aD nbg]
 exact k2 b o nb h
inductive zgr (C:Addr):Sp|m{vs H Q E9} (g ld gd:Addr) (t:Int) (N b:Nat) (hd:Int→Int) (av:List Addr):vs=[.ref g,.int t]→GO H C g ld gd N b hd av→Q (.int (hd t)) H→zgr C vs H Q E9
theorem zmj:aO ["self","term"] ["self","term"] (aw zin):=fsc
theorem ok_head (F:Fun K "head" "Groups.head" zin f fd) (T:TxG K mg C):aI P w K mg base CX0 1 f fd ["self","term"] (zgr C):=by
 refine F.ok zmj (λvs H Q E h=>?_) (λcdv A outer s H vs Q E hr h=>?_)
 ·obtain⟨g,ld,gd,t,N,b,hd,av,rfl,_⟩:=h
  rfl
 obtain⟨g,ld,gd,t,N,b,hd,av,rfl,G,q⟩:=h
 have hu:=zfd hr
 obtain⟨dx,kl,kg,h1,h2,h3,h4,h5,h6,h7⟩:=G.ex
 refine⟨_,(ah (ay (zgZ hu (zae (pv 0) rfl) (pv 1) (pv 1) ⟨rfl,rfl,rfl,rfl⟩))),?_⟩
 try dsimp only [Cx.nox,Cx.wish,aV]
 refine⟨_,rfl,g,C,dx,_,_,rfl,h1,T.cl,T.nL,rfl,ld,rfl,.inl ⟨kl,.inl h2⟩,_,rfl,_,rfl,_,zc0.k (k:=Sum.inl t) h2,?_⟩
 rw[h4]
 exact q
inductive sp_together (C:Addr):Sp|m{vs H Q E9} (g ld gd:Addr) (t u:Int) (N b:Nat) (hd:Int→Int) (av:List Addr):vs=[.ref g,.int t,.int u]→GO H C g ld gd N b hd av→Q (.bl (decide (hd t=hd u))) H→sp_together C vs H Q E9
theorem zi1:aO ["self","one","other"] ["self","one","other"] (aw zfs):=fsc
theorem decV (x y:Int):decide (V.int x=V.int y)=decide (x=y):=decide_eq_decide.mpr ⟨λz=>by injection z,λz=>by rw[z]⟩
theorem ok_together (F:Fun K "together" "Groups.together" zfs f fd) (T:TxG K mg C) (M:zcp K C "head" fH) (Bh:aI P w K mg base CX0 1 fH dH ["self","term"] (zgr C)) (bh:aH K dH ["self","term"] []):aI P w K mg base CX0 2 f fd ["self","one","other"] (sp_together C):=by
 refine F.ok zi1 (λvs H Q E h=>?_) (λcdv A outer s H vs Q E hr h=>?_)
 ·obtain⟨g,ld,gd,t,u,N,b,hd,av,rfl,_⟩:=h
  rfl
 obtain⟨g,ld,gd,t,u,N,b,hd,av,rfl,G,q⟩:=h
 obtain⟨dx,kl,kg,h1,h2,h3,h4,h5,h6,h7⟩:=G.ex
 refine⟨_,(ah (ay (zaI zaf (zaN (pv 0) T.cl M Bh hr bh .nil aR (aa (pv 1) ac)) (zaN (pv 0) T.cl M Bh hr bh .nil aR (aa (pv 2) ac))))),?_⟩
 try dsimp only [Cx.nox,Cx.wish,aV]
 refine⟨_,rfl,g,dx,_,rfl,h1,rfl,_,rfl,g,ld,gd,t,N,b,hd,av,rfl,G,_,rfl,g,dx,_,rfl,h1,rfl,_,rfl,g,ld,gd,u,N,b,hd,av,rfl,G,rfl,?_⟩
 rw[decV]
 exact q
inductive sp_merge (C:Addr):Sp|m{vs H Q E9} (g ld gd:Addr) (t u:Int) (N b:Nat) (hd:Int→Int) (av:List Addr):vs=[.ref g,.int t,.int u]→GO H C g ld gd N b hd av→(0≤t∧t < (N:Int))→(0≤u∧u < (N:Int))→N≤100→b≤1000→(∀ a∈av,H a≠none)→(∀ H',zeA ld gd H H'→GO H' C g ld gd N (b+1) (mrg hd t u) av→Q .non H')→sp_merge C vs H Q E9
theorem zej:aO ["self","one","other","low","high","moved","term"] ["self","one","other"] (aw zd8):=fsc
theorem line3 {n:Nat} (h:n≤200000):n≤sizeLine:=by rw[sizeLine_eq];omega
theorem line4 {n:Nat} (h:n≤200000):n < sizeLine:=by rw[sizeLine_eq];omega
theorem merge3 (T:TxG K mg C) {cdv:Value} {A:Around} {outer:List Env} {s:Shared} {H0:Hp} {E:XK} (hr:zaq 1 (A.deeper (PyProof.Rows.envOfC "Groups.merge" (aw zd8) s.heap.objs.size f cdv))) :
  ∃ z,PSs (aV CX0 P w K mg base ["self","one","other","low","high","moved","term"] "Groups.merge" (aw zd8) f cdv A outer s H0 E).nox ((zaR zd8).drop 3) z ∧
   ∀(D:zbT) (H:Hp) (g ld gd:Addr) (t u:Int) (N b:Nat) (hd:Int→Int) (av:List Addr),GO H C g ld gd N b hd av→(0≤t∧t < (N:Int))→(0≤u∧u < (N:Int))→N≤100→b≤1000→loF (hd t) (hd u)≠hiF (hd t) (hd u)→(∀ a∈av,H a≠none)→(∀ H' σ',zeA ld gd H H'→GO H' C g ld gd N (b+1) (mrg hd t u) av→D.nx σ' H') →
    z D [some (.ref g),some (.int t),some (.int u),some (.int (loF (hd t) (hd u))),some (.int (hiF (hd t) (hd u))),none,none] H:=by
 have hu:=zfd hr
 refine⟨_,(af (aE (i:=5) zej.nd rfl (Or.inl rfl) (zgZ hu (zae (pv 0) rfl) (pv 4) (zag (aa (pv 4) ac)) ⟨rfl,rfl,rfl,rfl⟩))
  (af (zah PassesOwn.never rfl (za6 (pv 5)) (zac (i:=6) zej.nd rfl (Or.inl rfl))
   (ah (ze0 hu (zae (pv 0) rfl) (pv 6) (pv 3) rfl)))
  (ah (ze0 hu (zae (pv 0) rfl) (pv 3) (aq zaB (zgZ hu (zae (pv 0) rfl) (pv 3) (zag (aa (pv 3) ac)) ⟨rfl,rfl,rfl,rfl⟩) (pv 5)) rfl)))),?_⟩
 try dsimp only [Cx.nox,Cx.wish,aV]
 rintro D H g ld gd t u N b hd av G ht hu' N100 b1000 e hav q
 obtain⟨dx,kl,kg,h1,h2,h3,h4,h5,h6,h7⟩:=G.ex
 have bN:b * N≤100000:=Nat.mul_le_mul b1000 N100
 obtain⟨mh,k1,k2,k3⟩:=h5 _ (G.h.hi_id t u)
 obtain⟨ml,l1,l2,l3⟩:=h5 _ (G.h.lo_id t u)
 have tN:=G.h.in' ht
 have uN:=G.h.in' hu'
 have lh:=lohi (hd t) (hd u)
 have mhl:=zju G.h (x:=hiF (hd t) (hd u)) (by omega) k1 k2
 have mll:=zju G.h (x:=loF (hd t) (hd u)) (by omega) l1 l2
 have ngl:g≠ld:=zbY h1 h2 (by intro z;cases z)
 have ngg:g≠gd:=zbY h1 h3 (by intro z;cases z)
 refine⟨_,rfl,g,C,dx,_,_,rfl,h1,T.cl,T.nG,rfl,gd,rfl,.inl ⟨kg,.inl h3⟩,_,rfl,_,rfl,lS1,λl hl=>?_⟩
 have s1:ai H (upd H l (.lst [.int (hiF (hd t) (hd u))])):=ag hl _
 have n1:(upd H l (.lst [.int (hiF (hd t) (hd u))])) l=some (.lst ([hiF (hd t) (hd u)].map V.int)):=ae
 generalize upd H l (.lst [.int (hiF (hd t) (hd u))])=H1 at s1 n1
 obtain⟨am,eam,ham⟩:∃ am,(zaT kg (Sum.inl (hiF (hd t) (hd u)))).getD (.ref l)=.ref am∧H1 am=some (.lst (mh.map V.int)):=by
  rcases k3 with ⟨k3,k4⟩ | ⟨a,k3,k4,_⟩
  ·rw[k3]
   refine⟨l,rfl,?_⟩
   rw[k4]
   exact n1
  ·rw[k3]
   exact⟨a,rfl,s1 _ _ k4⟩
 refine⟨_,zc0.k (k:=Sum.inl (hiF (hd t) (hd u))) (s1 _ _ h3),?_⟩
 rw[eam]
 have G1:=G.same s1
 have h11:=s1 _ _ h1
 have h21:=s1 _ _ h2
 have h31:=s1 _ _ h3
 have nal:am≠ld:=zbY ham h21 (by intro z;cases z)
 have nag:am≠gd:=zbY ham h31 (by intro z;cases z)
 refine⟨_,rfl,am,rfl,⟨_,SqL.of ham⟩,zdm zb9 (λi σ H'=>∃(v6:Option V) (kl':List (Key × V)),σ=[some (.ref g),some (.int t),some (.int u),some (.int (loF (hd t) (hd u))),some (.int (hiF (hd t) (hd u))),some (.ref am),v6]∧zcA ld H1 H'∧H' ld=some (.dK kl')∧kl'.length≤kl.length+i∧∀ x:Int,(zaT kl' (Sum.inl x)).getD (.int x)=.int (if x∈mh.take i then loF (hd t) (hd u) else hd x)) (λi σ H' ⟨_,_,_,sx,_⟩=>SqL.of (sx _ _ nal ham)) ⟨none,kl,rfl,zcA.refl _ _,h21,nRq _,λx=>by simpa using h4 x⟩ ?_ ?_⟩
 ·rintro i σ H2 x H3 hi ⟨v6,kl',rfl,sx,hl2,ll,hv⟩ ⟨rfl,hx⟩
  obtain⟨k,hk,rfl⟩:=zaH (hx _ (SqL.of (sx _ _ nal ham)))
  rw[lM]at hi
  refine⟨_,rfl,_,rfl,g,C,dx,_,_,rfl,sx _ _ ngl h11,T.cl,T.nL,rfl,_,rfl,ld,_,rfl,zeN.k (k:=Sum.inl k) hl2 (line4 (by omega)),_,_,rfl,sx.trans (zcA.put _ _),ae,?_,λx=>?_⟩
  ·have:=zfl kl' (Sum.inl k) (.int (loF (hd t) (hd u)))
   show(zbK kl' (Sum.inl k) (.int (loF (hd t) (hd u)))).length≤_
   omega
  ·rw[zfe,zan hk]
   by_cases z:x=k
   ·subst z
    rw[if_pos rfl,if_pos (List.mem_append_right _ List.mem_cons_self)]
    rfl
   ·rw[if_neg (λw=>z (by injection w)),hv]
    congr 1
    by_cases w:x∈mh.take i
    ·rw[if_pos w,if_pos (List.mem_append_left _ w)]
    ·rw[if_neg w,if_neg (λy=>by
      rcases mPq y with y | y
      ·exact w y
      ·exact z (mSq y))]
 ·rintro σ H2 ⟨v6,kl',rfl,sx,hl2,ll,hv⟩
  rw[lM]at ll
  rw[lM,tO (nRq _)]at hv
  have h12:=sx _ _ ngl h11
  have h32:=sx _ _ (Ne.symm G.ne) h31
  have ham2:=sx _ _ nal ham
  refine⟨_,rfl,g,C,dx,_,_,rfl,h12,T.cl,T.nG,rfl,gd,rfl,.inl ⟨kg,.inl h32⟩,_,rfl,_,rfl,lS1,λl2' hl2'=>?_⟩
  have s3:ai H2 (upd H2 l2' (.lst [.int (loF (hd t) (hd u))])):=ag hl2' _
  have n3:(upd H2 l2' (.lst [.int (loF (hd t) (hd u))])) l2'=some (.lst ([loF (hd t) (hd u)].map V.int)):=ae
  generalize upd H2 l2' (.lst [.int (loF (hd t) (hd u))])=H3 at s3 n3
  obtain⟨al,eal,hal⟩:∃ al,(zaT kg (Sum.inl (loF (hd t) (hd u)))).getD (.ref l2')=.ref al∧H3 al=some (.lst (ml.map V.int)):=by
   rcases l3 with ⟨l3,l4⟩ | ⟨a,l3,l4,_⟩
   ·rw[l3]
    refine⟨l2',rfl,?_⟩
    rw[l4]
    exact n3
   ·rw[l3]
    have na:a≠ld:=zbY l4 h2 (by intro z;cases z)
    exact⟨a,rfl,s3 _ _ (sx _ _ na (s1 _ _ l4))⟩
  refine⟨_,zc0.k (k:=Sum.inl (loF (hd t) (hd u))) (s3 _ _ h32),?_⟩
  rw[eal]
  refine⟨_,rfl,al,am,_,_,rfl,rfl,hal,s3 _ _ ham2,line3 (by rw[lM,lM];omega),λp hp=>?_⟩
  rw[←mAq]
  have s4:ai H3 (upd H3 p (.lst ((ml++mh).map V.int))):=ag hp _
  have n4:=ae (H:=H3) (a:=p) (o:=.lst ((ml++mh).map V.int))
  generalize upd H3 p (.lst ((ml++mh).map V.int))=H4 at s4 n4
  have s24:=s3.trans s4
  have h14:=s24 _ _ h12
  have h34:=s24 _ _ h32
  have hl4:=s24 _ _ hl2
  have npg:p≠gd:=zbY n4 h34 (by intro z;cases z)
  refine⟨_,rfl,g,C,dx,_,_,rfl,h14,T.cl,T.nG,rfl,_,rfl,gd,_,rfl,zeN.k (k:=Sum.inl (loF (hd t) (hd u))) h34 (line4 (by omega)),?_⟩
  refine q _ _ ?_ ?_
  ·intro b' o' nb1 nb2 hb
   rw[aD nb2]
   exact s24 _ _ (sx _ _ nb1 (s1 _ _ hb))
  ·have l4:kl'.length≤(b+1) * N:=by
    rw[Nat.add_mul,Nat.one_mul]
    omega
   refine GO.merged (kl:=kl') (kg:=kg) (p:=p) (ml:=ml) (mh:=mh) (dx:=dx) G.h G.ne ht hu' e (by rw[aD ngg];exact h14) (by rw[aD G.ne];exact hl4) ae hv (λx hx=>?_) l1 l2 k1 k2 (by rw[aD npg];exact n4) l4 (by omega) (λz=>?_)
   ·obtain⟨ms,m1,m2,m3⟩:=h5 x hx
    refine⟨ms,m1,m2,?_⟩
    rcases m3 with m3 | ⟨a,m3,m4,m5⟩
    ·exact .inl m3
    ·have na:a≠ld:=zbY m4 h2 (by intro z;cases z)
     have ng:a≠gd:=zbY m4 h3 (by intro z;cases z)
     exact .inr ⟨a,m3,(by rw[aD ng];exact s24 _ _ (sx _ _ na (s1 _ _ m4))),m5⟩
   ·cases eo:H p with
    | none=>exact hav p z eo
    | some o =>
     by_cases c:p=ld
     ·rw[c,s3 _ _ hl2]at hp
      cases hp
     ·rw[s3 _ _ (sx _ _ c (s1 _ _ eo))]at hp
      cases hp
theorem ok_merge (F:Fun K "merge" "Groups.merge" zd8 f fd) (T:TxG K mg C) (M:zcp K C "head" fH) (Bh:aI P w K mg base CX0 1 fH dH ["self","term"] (zgr C)) (bh:aH K dH ["self","term"] []):aI P w K mg base CX0 2 f fd ["self","one","other"] (sp_merge C):=by
 refine F.ok zej (λvs H Q E h=>?_) (λcdv A outer s H vs Q E hr h=>?_)
 ·obtain⟨g,ld,gd,t,u,N,b,hd,av,rfl,_⟩:=h
  rfl
 obtain⟨g,ld,gd,t,u,N,b,hd,av,rfl,G,ht,hu',N100,b1000,hav,q⟩:=h
 have hu:=zfd hr
 obtain⟨dx,kl,kg,h1,h2,h3,h4,h5,h6,h7⟩:=G.ex
 have bN:b * N≤100000:=Nat.mul_le_mul b1000 N100
 obtain⟨t3,h3',q3⟩:=merge3 (P:=P) (w:=w) (base:=base) (f:=f) (outer:=outer) (H0:=H) (E:=E) T hr
 refine⟨_,(af (aE (i:=3) zej.nd rfl (Or.inl rfl) (ao (zlg rfl) rfl T.min PyProof.Rows.Boot.min (aa (zaN (pv 0) T.cl M Bh hr bh .nil aR (aa (pv 1) ac)) (aa (zaN (pv 0) T.cl M Bh hr bh .nil aR (aa (pv 2) ac)) ac))))
  (af (aE (i:=4) zej.nd rfl (Or.inl rfl) (ao (zh3 rfl) rfl T.max PyProof.Rows.Boot.max (aa (zaN (pv 0) T.cl M Bh hr bh .nil aR (aa (pv 1) ac)) (aa (zaN (pv 0) T.cl M Bh hr bh .nil aR (aa (pv 2) ac)) ac))))
  (af (aL (au zaf (pv 3) (pv 4))
   (ah zml)
   aA)
  h3'))),?_⟩
 try dsimp only [Cx.nox,Cx.wish,aV]
 refine⟨_,rfl,g,dx,_,rfl,h1,rfl,_,rfl,g,ld,gd,t,N,b,hd,av,rfl,G,_,rfl,g,dx,_,rfl,h1,rfl,_,rfl,g,ld,gd,u,N,b,hd,av,rfl,G,_,_,rfl,?_⟩
 refine⟨_,rfl,g,dx,_,rfl,h1,rfl,_,rfl,g,ld,gd,t,N,b,hd,av,rfl,G,_,rfl,g,dx,_,rfl,h1,rfl,_,rfl,g,ld,gd,u,N,b,hd,av,rfl,G,_,_,rfl,?_⟩
 refine⟨_,rfl,_,rfl,rfl,_,rfl,?_⟩
 show if decide (V.int (loF (hd t) (hd u))=V.int (hiF (hd t) (hd u)))=true then _ else _
 rw[decV]
 by_cases e:loF (hd t) (hd u)=hiF (hd t) (hd u)
 ·rw[decide_eq_true e]
  refine zao (q H (λ_ _ _ _ h=>h) ?_)
  rw[zkn e]
  exact G.mono (Nat.le_succ _)
 rw[decide_eq_false e]
 exact aY (q3 _ H g ld gd t u N b hd av G ht hu' N100 b1000 e hav λH' σ' s' G'=>q H' s' G')
end
end Gp
theorem szM {n:Nat} (h:n≤16000000):n≤sizeLine:=Nat.le_trans h (by rw[sizeLine_eq];decide)
def tG (T:List Tm) (a:Int):Tm:=T.getD a.toNat ("",[])
def smF (As:List At) (k:Int):Option (Int × Int):=if 1≤k∧k≤(As.length:Int) then(match As.getD (k - 1).toNat (.plain "") with | .same a b=>some (a,b) | .plain _=>none) else none
def zey (ps:List Int) (As:List At) (l:Lk):Bool:=decide (-l.2.2∈ps)&&(match smF As l.2.2 with | some q=>decide (q=(l.1,l.2.1))||decide (q=(l.2.1,l.1)) | none=>false)
def zdn (f:Int→Int) (T:List Tm) (a b:Int):Bool:=decide ((tG T a).1=(tG T b).1)&&(decide ((tG T a).2.length=(tG T b).2.length)&&((tG T a).2.zip (tG T b).2).all λxy=>decide (f xy.1=f xy.2))
def zbm (f:Int→Int) (ps:List Int) (T:List Tm) (As:List At) (l:Lk):Bool:=if l.2.2=0 then zdn f T l.1 l.2.1 else zey ps As l
def zbP (f:Int→Int) (As:List At) (p:Int):Bool:=match smF As p with | some q=>decide (f q.1=f q.2) | none=>false
def zeM (f:Int→Int) (ps:List Int) (As:List At):Bool:=(ps.map (zbP f As)).any id
def eqF (st:(Int→Int)→Int→Int→Int→Int) (ps:List Int) (T:List Tm) (As:List At):List Lk→(Int→Int)→Bool
 | [],f=>zeM f ps As
 | l :: ls,f=>if zbm f ps T As l=true then eqF st ps T As ls (st f l.1 l.2.1) else false
def rtm (f:Int→Int) (a b:Int):Int→Int:=λt=>if f t=f a then f b else f t
def InR (n:Nat) (x:Int):Prop:=0≤x∧x < (n:Int)
structure Dom (T:List Tm) (As:List At):Prop where
 tm:∀ t∈T,∀ q∈t.2,InR T.length q
 am:∀ x y,At.same x y∈As→InR T.length x∧InR T.length y
def zb2 (n m:Nat) (l:Lk):Prop:=InR n l.1∧InR n l.2.1∧0≤l.2.2∧l.2.2≤(m:Int)
theorem zdK {T:List Tm} {a:Int} (h:InR T.length a):T[a.toNat]?=some (tG T a)∧tG T a∈T:=by
 obtain⟨h0,h1⟩:=h
 have e:T[a.toNat]?=some (tG T a):=by
  unfold tG
  rw[List.getD_eq_getElem?_getD,gG (by omega)]
  rfl
 exact⟨e,mOq e⟩
theorem zik {As:List At} {k:Int} (h0:1≤k) (h1:k≤(As.length:Int)):∃ a,As[(k - 1).toNat]?=some a∧a∈As∧smF As k=(match a with | .same x y=>some (x,y) | .plain _=>none):=by
 have hl:(k - 1).toNat < As.length:=by omega
 refine⟨As[(k - 1).toNat],gG hl,List.getElem_mem hl,?_⟩
 unfold smF
 rw[if_pos ⟨h0,h1⟩,List.getD_eq_getElem?_getD,gG hl]
 rfl
theorem smF_in {T:List Tm} {As:List At} (D:Dom T As) {k:Int} {x y:Int} (h:smF As k=some (x,y)):InR T.length x∧InR T.length y:=by
 unfold smF at h
 split at h
 ·rename_i hk
  have hl:(k - 1).toNat < As.length:=by omega
  rw[List.getD_eq_getElem?_getD,gG hl]at h
  have hm:As[(k - 1).toNat]∈As:=List.getElem_mem hl
  change (match As[(k - 1).toNat] with | .same a b=>some (a,b) | .plain _=>none)=some (x,y) at h
  generalize As[(k - 1).toNat]=a at h hm
  cases a with
  | plain z=>cases h
  | same u v =>
   cases h
   exact D.am _ _ hm
 ·cases h
def zgo (n:Nat) (f g:Int→Int):Prop:=∀ t u,InR n t→InR n u→(f t=f u↔g t=g u)
theorem zgo.dec {n:Nat} {f g:Int→Int} (h:zgo n f g) {t u:Int} (ht:InR n t) (hu:InR n u):decide (f t=f u)=decide (g t=g u):=decide_eq_decide.mpr (h t u ht hu)
theorem zl5 {α β:Type} {xs:List α} {ys:List β} {p:α × β} (h:p∈xs.zip ys):p.1∈xs∧p.2∈ys:=List.of_mem_zip (a:=p.1) (b:=p.2) h
theorem zje {T:List Tm} {As:List At} (D:Dom T As) {f g:Int→Int} (h:zgo T.length f g) {a b:Int} (ha:InR T.length a) (hb:InR T.length b):zdn f T a b=zdn g T a b:=by
 unfold zdn
 congr 2
 have key:∀(zs:List (Int × Int)),(∀ p∈zs,InR T.length p.1∧InR T.length p.2)→(zs.all λxy=>decide (f xy.1=f xy.2))=zs.all λxy=>decide (g xy.1=g xy.2):=λzs=>by
  induction zs with
  | nil=>intro _;rfl
  | cons z zs ih =>
   intro hz
   rw[List.all_cons,List.all_cons,ih λp hp=>hz p (List.mem_cons_of_mem _ hp),h.dec (hz z (by simp)).1 (hz z (by simp)).2]
 refine key _ λp hp=>?_
 obtain⟨p1,p2⟩:=zl5 hp
 exact⟨D.tm _ (zdK ha).2 _ p1,D.tm _ (zdK hb).2 _ p2⟩
theorem zi3 {T:List Tm} {As:List At} (D:Dom T As) {f g:Int→Int} (h:zgo T.length f g) {l:Lk} (hl:zb2 T.length As.length l) (ps:List Int):zbm f ps T As l=zbm g ps T As l:=by
 unfold zbm
 rw[zje D h hl.1 hl.2.1]
theorem zjS {T:List Tm} {As:List At} (D:Dom T As) {f g:Int→Int} (h:zgo T.length f g) (p:Int):zbP f As p=zbP g As p:=by
 unfold zbP
 cases e:smF As p with
 | none=>rfl
 | some q =>
  obtain⟨x,y⟩:=q
  have:=smF_in D e
  exact h.dec this.1 this.2
theorem zlj {T:List Tm} {As:List At} (D:Dom T As) {f g:Int→Int} (h:zgo T.length f g) (ps:List Int):zeM f ps As=zeM g ps As:=by
 unfold zeM
 rw[List.map_congr_left λp _=>zjS D h p]
theorem zhH {T:List Tm} {As:List At} (D:Dom T As) (ps:List Int):∀(ls:List Lk) {f g:Int→Int},(∀ l∈ls,zb2 T.length As.length l)→(∀ t,InR T.length t→f t=g t)→eqF rtm ps T As ls f=eqF rtm ps T As ls g
 | [],f,g,_,h=>zlj D (λt u ht hu=>by rw[h t ht,h u hu]) ps
 | l :: ls,f,g,hl,h=>by
  have h1:=hl l (by simp)
  simp only[eqF]
  rw[zi3 D (λt u ht hu=>by rw[h t ht,h u hu]) h1 ps,zhH D ps ls (λu hu=>hl u (List.mem_cons_of_mem _ hu)) (λt ht=>by unfold rtm;rw[h t ht,h l.1 h1.1,h l.2.1 h1.2.1])]
  rfl
end K36
namespace K36
open PySem L2
variable {K:W.Frag} {P:Program} {w:World} {mg:Str→Option Value} {base:Heap} {aK C CN CT CP CM CG f fS fT fA fM fI fG fJ fR:Addr} {fd dS dT' dA' dM dI dG dJ dR':FuncData}
theorem zdx {H:Hp} {T:List Tm} {xs:List V} {i:Nat} {x:V} (h:aj K H (T.map dT) xs) (e:xs[i]?=some x):∃ t q r,T[i]?=some t∧x=.ref q∧SqT K H q [.str t.1,.ref r]∧SqT K H r (t.2.map V.int):=by
 obtain⟨d,e1,e2⟩:=h.get e
 rw[List.getElem?_map]at e1
 cases q:T[i]? with
 | none=>rw[q]at e1;cases e1
 | some t =>
  rw[q]at e1
  cases e1
  simp only[dT,Has,aj]at e2
  obtain⟨p,ys,rfl,hp,v1,r1,rfl,rfl,v2,r2,rfl,⟨r,zs,rfl,hr,hz⟩,rfl⟩:=e2
  rw[zcd hz]at hr
  exact⟨t,p,r,rfl,rfl,hp,hr⟩
theorem ze1 {H:Hp} {As:List At} {xs:List V} {i:Nat} {x:V} (h:aj K H (As.map dA) xs) (e:xs[i]?=some x):∃ a,As[i]?=some a∧Has K H (dA a) x:=by
 obtain⟨d,e1,e2⟩:=h.get e
 rw[List.getElem?_map]at e1
 cases q:As[i]? with
 | none=>rw[q]at e1;cases e1
 | some t =>
  rw[q]at e1
  cases e1
  exact⟨t,rfl,e2⟩
theorem zgx {H:Hp} {Rs:List (List Int)} {xs:List V} {i:Nat} {x:V} (h:aj K H (Rs.map dR) xs) (e:xs[i]?=some x):∃ r q,Rs[i]?=some r∧x=.ref q∧SqT K H q (r.map V.int):=by
 obtain⟨d,e1,e2⟩:=h.get e
 rw[List.getElem?_map]at e1
 cases q:Rs[i]? with
 | none=>rw[q]at e1;cases e1
 | some t =>
  rw[q]at e1
  cases e1
  simp only[dR,Has]at e2
  obtain⟨a,xs,rfl,hs,hl⟩:=e2
  rw[zcd hl]at hs
  exact⟨t,a,rfl,rfl,hs⟩
theorem zce {H:Hp} {z:Str} {x:V} (h:Has K H (dA (.plain z)) x):∃ q,x=.ref q∧SqT K H q [.str "plain",.str z]:=by
 unfold dA at h
 simp only[Has,aj]at h
 obtain⟨a,xs,rfl,hs,v,r,rfl,rfl,v2,r2,rfl,rfl,rfl⟩:=h
 exact⟨a,rfl,hs⟩
theorem zcG {H:Hp} {a b:Int} {x:V} (h:Has K H (dA (.same a b)) x):∃ q,x=.ref q∧SqT K H q [.str "same",.int a,.int b]:=by
 unfold dA at h
 simp only[Has,aj]at h
 obtain⟨q,xs,rfl,hs,v,r,rfl,rfl,v2,r2,rfl,rfl,v3,r3,rfl,rfl,rfl⟩:=h
 exact⟨q,rfl,hs⟩
theorem zbB {α:Type} {xs:List α} {i:Int} (h0:0≤i) (h1:i < (xs.length:Int)):∃ x,xs[i.toNat]?=some x∧atI xs i=some x:=by
 have hk:i.toNat < xs.length:=by omega
 have e:i=((i.toNat:Nat):Int):=by omega
 have q:atI xs ((i.toNat:Nat):Int)=some xs[i.toNat]:=aF (gG hk)
 rw[←e]at q
 exact⟨_,gG hk,q⟩
def SmQ (K:W.Frag) (As:List At) (k:Int) (H:Hp) (Q:VK):Prop:=(smF As k=none→∀ H',ai H H'→Q .non H')∧∀ x y,smF As k=some (x,y)→∀(H':Hp) (a:Addr),ai H H'→SqT K H' a [.int x,.int y]→Q (.ref a) H'
inductive zdI (K:W.Frag) (C:Addr):Sp|m{vs H Q E9} (p tl al rl:Addr) (T:List Tm) (As:List At) (Rs:List (List Int)) (k:Int):vs=[.ref p,.int k]→zaY K C H p tl al rl T As Rs→SmQ K As k H Q→zdI K C vs H Q E9
theorem zgB:aO ["problem","number","atom"] ["problem","number"] (aw zft):=fsc
theorem zi6 (F:Fun K "sameness" "sameness" zft f fd) (T:Txt K mg aK C CN CT CP CM):aI P w K mg base CX0 1 f fd ["problem","number"] (zdI K C):=by
 refine F.ok zgB (λvs H Q E h=>?_) (λcdv A outer s H vs Q E hr h=>?_)
 ·obtain⟨p,tl,al,rl,T',As,Rs,k,rfl,_⟩:=h
  rfl
 obtain⟨p,tl,al,rl,T',As,Rs,k,rfl,S,q0,q1⟩:=h
 obtain⟨⟨dx,ho⟩,_,⟨ys,ha,hA⟩,_⟩:=id S
 have yl:ys.length=As.length:=by rw[←hA.length,lM]
 refine⟨_,(af (aL (PW.pt (zbd (au zbR (pv 1) ad) (zbn (au zcf (pv 1) (ao ar rfl T.len PySem.boot_len (aa (zae (pv 0) rfl) ac))))))
   (ah (ay zb8))
   aA)
  (af (aE (i:=2) zgB.nd rfl (Or.inl rfl) (ap zab (zae (pv 0) rfl) (aq zbA (pv 1) ad)))
  (ah (ay (zfo (au zaf (ap az (pv 2) ad) aU) (zaj zeU (pv 2) (zas ad) zat) zb8))))),?_⟩
 try dsimp only [Cx.nox,Cx.wish,aV]
 refine⟨_,rfl,_,_,rfl,rfl,_,rfl,aJ (λc=>zao ?_) (λc=>⟨_,rfl,_,rfl,p,C,dx,_,_,rfl,ho,T.cl,T.nA,zai _ _ _,al,ys,rfl,.inl (SqL.of ha),_,_,rfl,rfl,_,rfl,aJ (λc2=>?_) (λc2=>?_)⟩)⟩
 ·have c':k < 1:=of_decide_eq_true c
  exact q0 (by unfold smF;rw[if_neg (by omega)]) H (ai.refl H)
 ·have c':((ys.length:Nat):Int) < k:=of_decide_eq_true c2
  exact q0 (by unfold smF;rw[if_neg (by omega)]) H (ai.refl H)
 ·have c1:¬k < 1:=λz=>c (decide_eq_true z)
  have c3:¬((ys.length:Nat):Int) < k:=λz=>c2 (decide_eq_true z)
  obtain⟨a,e1,e2,e3⟩:=zik (As:=As) (k:=k) (by omega) (by omega)
  obtain⟨x,x1,x2⟩:=zbB (xs:=ys) (i:=k - 1) (by omega) (by omega)
  obtain⟨a',ea,hax⟩:=ze1 hA x1
  rw[e1]at ea
  cases ea
  refine⟨_,rfl,p,C,dx,_,_,rfl,ho,T.cl,T.nA,zai _ _ _,_,rfl,_,_,rfl,rfl,al,_,_,_,rfl,rfl,SqL.of ha,x2,?_⟩
  cases a with
  | plain z =>
   obtain⟨q,rfl,hq⟩:=zce hax
   refine⟨_,rfl,q,_,_,_,rfl,rfl,hq,aF (j:=0) rfl,rfl,_,rfl,aJ (λc=>?_) (λc=>?_)⟩
   ·exact absurd (of_decide_eq_true c) (by decide +kernel)
   ·exact q0 e3 H (ai.refl H)
  | same x y =>
   obtain⟨q,rfl,hq⟩:=zcG hax
   refine⟨_,rfl,q,_,_,_,rfl,rfl,hq,aF (j:=0) rfl,rfl,_,rfl,aJ (λc=>?_) (λc=>?_)⟩
   ·refine⟨_,rfl,_,rfl,q,_,rfl,hq,(by show ¬(1=0∧_);rintro ⟨z,_⟩;exact absurd z (by decide)),λb hb=>?_⟩
    exact q1 x y e3 _ b (ag hb _) (SqT.of ae)
   ·exact absurd (decide_eq_true rfl) c
theorem zbN (k:Int):∀ ps:List Int,inV (.int k) (ps.map V.int)=decide (k∈ps)
 | []=>by simp [inV]
 | p :: ps=>by
  have ih:=zbN k ps
  unfold inV at ih ⊢
  rw[List.map_cons,List.any_cons,ih]
  by_cases h:k=p
  ·subst h
   simp [eqV]
  ·have:¬p=k:=λz=>h z.symm
   simp [eqV,h,this]
theorem zf8:∀ ps:List Int,(ps.map V.int).all zdj=true
 | []=>rfl
 | p :: ps=>by rw[List.map_cons,List.all_cons,zf8 ps];rfl
theorem ziE (x y a b:Int):peq (.tup [.int x,.int y]) (.tup [.int a,.int b])=decide ((x,y)=(a,b)):=by
 by_cases h:(x,y)=(a,b)
 ·cases h
  rw[decide_eq_true rfl]
  exact zb3 _
 ·rw[decide_eq_false h,Bool.eq_false_iff]
  intro z
  have:=zhd _ _ (by simp [nob,zds]) (by simp [nob,zds]) z
  simp only[Dt.tup.injEq,List.cons.injEq,Dt.int.injEq,and_true]at this
  exact h (by rw[this.1,this.2])
theorem Has.pair {H:Hp} {a:Addr} {x y:Int} (h:SqT K H a [.int x,.int y]):Has K H (.tup [.int x,.int y]) (.ref a):=Has.tup' h (.cons .int (.cons .int .nil))
inductive zhv (K:W.Frag) (C:Addr):Sp|m{vs H Q E9} (p tl al rl q l:Addr) (T:List Tm) (As:List At) (Rs:List (List Int)) (ps:List Int) (lk:Lk):vs=[.ref p,.ref q,.ref l]→zaY K C H p tl al rl T As Rs→SqI K H q ps→SqT K H l [.int lk.1,.int lk.2.1,.int lk.2.2]→(∀ H',ai H H'→Q (.bl (zey ps As lk)) H')→zhv K C vs H Q E9
theorem zhm:aO ["problem","parts","link","pair"] ["problem","parts","link"] (aw zf2):=fsc
theorem l0 (lk:Lk):atI [V.int lk.1,V.int lk.2.1,V.int lk.2.2] 0=some (.int lk.1):=aF (j:=0) rfl
theorem l1 (lk:Lk):atI [V.int lk.1,V.int lk.2.1,V.int lk.2.2] 1=some (.int lk.2.1):=aF (j:=1) rfl
theorem l2 (lk:Lk):atI [V.int lk.1,V.int lk.2.1,V.int lk.2.2] 2=some (.int lk.2.2):=aF (j:=2) rfl
theorem zmo (F:Fun K "is_told" "is_told" zf2 f fd) (T:Txt K mg aK C CN CT CP CM) (mS:mg "sameness"=some (.ref fS)) (BS:aI P w K mg base CX0 1 fS dS ["problem","number"] (zdI K C)) (bS:aH K dS ["problem","number"] []) (kS:W.keepIn K (.ref fS)=true):aI P w K mg base CX0 2 f fd ["problem","parts","link"] (zhv K C):=by
 refine F.ok zhm (λvs H Q E h=>?_) (λcdv A outer s H vs Q E hr h=>?_)
 ·obtain⟨p,tl,al,rl,q,l,T',As,Rs,ps,lk,rfl,_⟩:=h
  rfl
 obtain⟨p,tl,al,rl,q,l,T',As,Rs,ps,lk,rfl,S,hq,hl,Q0⟩:=h
 have hu:=zeL hr
 refine⟨_,(af (aL (au zbO (zbk za1 (ap az (pv 2) ad)) (pv 1) rfl)
   (ah (ay zam))
   aA)
  (af (aE (i:=3) zhm.nd rfl (Or.inl rfl) (aB BS hr rfl mS kS bS .nil aR (aa (pv 0) (aa (ap az (pv 2) ad) ac))))
  (ah (ay (pe_or (zaI (zeW hu) (pv 3) (aS (aa (ap az (pv 2) ad) (aa (ap az (pv 2) ad) ac))) rfl) (zbe (zaI (zeW hu) (pv 3) (aS (aa (ap az (pv 2) ad) (aa (ap az (pv 2) ad) ac))) rfl))))))),?_⟩
 try dsimp only [Cx.nox,Cx.wish,aV]
 refine⟨_,rfl,l,_,_,_,rfl,rfl,hl,l2 lk,_,rfl,_,rfl,q,_,rfl,hq,rfl,zf8 _,_,rfl,?_⟩
 show if(!inV (.int (-lk.2.2)) (ps.map V.int))=true then _ else _
 rw[zbN]
 by_cases hin:¬-lk.2.2∈ps
 ·rw[decide_eq_false hin]
  refine zao ?_
  have:=Q0 H (ai.refl H)
  unfold zey at this
  rw[decide_eq_false hin]at this
  exact this
 replace hin:=Classical.not_not.mp hin
 rw[decide_eq_true hin]
 refine aY ⟨_,rfl,_,rfl,l,_,_,_,rfl,rfl,hl,l2 lk,p,tl,al,rl,T',As,Rs,_,rfl,S,λe H1 s1=>?_,λx y e H1 a s1 ha=>?_⟩
 ·have hl1:=s1.tup hl
  refine⟨_,rfl,_,rfl,l,_,_,_,rfl,rfl,hl1,l0 lk,_,rfl,l,_,_,_,rfl,rfl,hl1,l1 lk,lS2,λb hb=>?_⟩
  have s2:=ag hb (.tup [.int lk.1,.int lk.2.1])
  have n2:=ae (H:=H1) (a:=b) (o:=.tup [.int lk.1,.int lk.2.1])
  generalize upd H1 b (.tup [.int lk.1,.int lk.2.1])=H2 at s2 n2
  have hl2:=s2.tup hl1
  refine⟨.non,_,(by simp only[Has]),Has.pair (SqT.of n2),(by decide),_,rfl,aY ⟨_,rfl,_,rfl,l,_,_,_,rfl,rfl,hl2,l1 lk,_,rfl,l,_,_,_,rfl,rfl,hl2,l0 lk,lS2,λd hd=>?_⟩⟩
  have s3:=ag hd (.tup [.int lk.2.1,.int lk.1])
  have n3:=ae (H:=H2) (a:=d) (o:=.tup [.int lk.2.1,.int lk.1])
  generalize upd H2 d (.tup [.int lk.2.1,.int lk.1])=H3 at s3 n3
  refine⟨.non,_,(by simp only[Has]),Has.pair (SqT.of n3),(by decide),?_⟩
  have:=Q0 H3 ((s1.trans s2).trans s3)
  unfold zey at this
  rw[decide_eq_true hin,e]at this
  exact this
 ·have hl1:=s1.tup hl
  refine⟨_,rfl,_,rfl,l,_,_,_,rfl,rfl,hl1,l0 lk,_,rfl,l,_,_,_,rfl,rfl,hl1,l1 lk,lS2,λb hb=>?_⟩
  have s2:=ag hb (.tup [.int lk.1,.int lk.2.1])
  have n2:=ae (H:=H1) (a:=b) (o:=.tup [.int lk.1,.int lk.2.1])
  generalize upd H1 b (.tup [.int lk.1,.int lk.2.1])=H2 at s2 n2
  have hl2:=s2.tup hl1
  refine⟨_,_,Has.pair (s2.tup ha),Has.pair (SqT.of n2),(by simp only[dep,zaX];decide),_,rfl,?_⟩
  rw[ziE]
  refine aJ (λc=>?_) (λc=>⟨_,rfl,_,rfl,l,_,_,_,rfl,rfl,hl2,l1 lk,_,rfl,l,_,_,_,rfl,rfl,hl2,l0 lk,lS2,λd hd=>?_⟩)
  ·have:=Q0 H2 (s1.trans s2)
   unfold zey at this
   rw[decide_eq_true hin,e]at this
   change Q (.bl (true&&(decide ((x,y)=(lk.1,lk.2.1))||decide ((x,y)=(lk.2.1,lk.1))))) H2 at this
   rw[c]at this
   exact this
  have s3:=ag hd (.tup [.int lk.2.1,.int lk.1])
  have n3:=ae (H:=H2) (a:=d) (o:=.tup [.int lk.2.1,.int lk.1])
  generalize upd H2 d (.tup [.int lk.2.1,.int lk.1])=H3 at s3 n3
  refine⟨_,_,Has.pair (s3.tup (s2.tup ha)),Has.pair (SqT.of n3),(by simp only[dep,zaX];decide),?_⟩
  rw[ziE]
  have:=Q0 H3 ((s1.trans s2).trans s3)
  unfold zey at this
  rw[decide_eq_true hin,e]at this
  change Q (.bl (true&&(decide ((x,y)=(lk.1,lk.2.1))||decide ((x,y)=(lk.2.1,lk.1))))) H3 at this
  rw[Bool.eq_false_iff.mpr c]at this
  exact this
inductive zgR (K:W.Frag) (CG:Addr):Sp|m{vs H Q E9} (tl l g ld gd:Addr) (xs:List V) (T:List Tm) (lk:Lk) (N b:Nat) (hd:Int→Int) (av:List Addr):vs=[.ref tl,.ref l,.ref g]→SqL K H tl xs→aj K H (T.map dT) xs→(∀ t∈T,t.2.length≤1000)→SqT K H l [.int lk.1,.int lk.2.1,.int lk.2.2]→InR T.length lk.1→InR T.length lk.2.1→GO H CG g ld gd N b hd av→(∀ H',ai H H'→Q (.bl (zdn hd T lk.1 lk.2.1)) H')→zgR K CG vs H Q E9
theorem zeQ:aO ["terms","link","groups","one","other"] ["terms","link","groups"] (aw zd6):=fsc
theorem all_map {α:Type} (f:α→Bool):∀ xs:List α,(xs.map f).all id=xs.all f
 | []=>rfl
 | x :: xs=>by rw[List.map_cons,List.all_cons,List.all_cons,all_map f xs];rfl
theorem zll {α β:Type} {xs:List α} {ys:List β} {i:Nat} {x:α} {y:β} (h1:xs[i]?=some x) (h2:ys[i]?=some y):(xs.zip ys).take (i+1)=(xs.zip ys).take i++[(x,y)]:=by
 have e:(xs.zip ys)[i]?=some (x,y):=by rw[List.getElem?_zip_eq_some];exact⟨h1,h2⟩
 exact zan e
theorem zlQ (F:Fun K "is_alike" "is_alike" zd6 f fd) (T:Txt K mg aK C CN CT CP CM) (G:TxG K mg CG) (mz:mg "zip"=none) (mA:mg "all"=none) (M:zcp K CG "together" fG) (Bg:aI P w K mg base CX0 2 fG dG ["self","one","other"] (Gp.sp_together CG)) (bg:aH K dG ["self","one","other"] []):aI P w K mg base CX0 3 f fd ["terms","link","groups"] (zgR K CG):=by
 refine F.ok zeQ (λvs H Q E h=>?_) (λcdv A outer s H vs Q E hr h=>?_)
 ·obtain⟨tl,l,g,ld,gd,xs,T',lk,N,b,hd,av,rfl,_⟩:=h
  rfl
 obtain⟨tl,l,g,ld,gd,xs,T',lk,N,b,hd,av,rfl,ht,hT,t1000,hl,r1,r2,O,q⟩:=h
 have xl:xs.length=T'.length:=by rw[←hT.length,lM]
 refine⟨_,(af (aE (i:=3) zeQ.nd rfl (Or.inl rfl) (ap zab (pv 0) (ap az (pv 1) ad)))
  (af (aE (i:=4) zeQ.nd rfl (Or.inl rfl) (ap zab (pv 0) (ap az (pv 1) ad)))
  (af (aL (PW.pt (zbd (au zcN (ap az (pv 3) ad) (ap az (pv 4) ad)) (zbn (au zcN (ao ar rfl T.len PySem.boot_len (aa (ap az (pv 3) ad) ac)) (ao ar rfl T.len PySem.boot_len (aa (ap az (pv 4) ad) ac))))))
   (ah (ay zam))
   aA)
  (ah (ay (ao (zbJ rfl) rfl mA PyProof.Rows.Boot.all (aa (zbQ (N':=["pair","groups"]) (ix:=[2]) rfl rfl (by decide +kernel) (by decide +kernel) rfl (λok=>zc4 (sc:=aw zd6) ok rfl (by decide +kernel) (by decide +kernel)) (by decide +kernel) rfl rfl (λj i h=>match j,h with | 0,h=>by cases h;exact⟨_,rfl,rfl,.inl rfl,.inl rfl⟩ | n+1,h=>by simp at h) (zmm rfl mz (aa (ap az (pv 3) ad) (aa (ap az (pv 4) ad) ac))) (λ_ _ _ _=>(zaN (pv 1) G.cl M Bg hr bg .nil aR (aa (ap (r:=zee K) az (pv 0) ad) (aa (ap (r:=zee K) az (pv 0) ad) ac))))) ac))))))),?_⟩
 try dsimp only [Cx.nox,Cx.wish,aV]
 obtain⟨x,x1,x2⟩:=zbB (xs:=xs) (i:=lk.1) r1.1 (by rw[xl];exact r1.2)
 obtain⟨y,y1,y2⟩:=zbB (xs:=xs) (i:=lk.2.1) r2.1 (by rw[xl];exact r2.2)
 obtain⟨t,qa,ra,ta,rfl,ha,hra⟩:=zdx hT x1
 obtain⟨u,qb,rb,ua,rfl,hb,hrb⟩:=zdx hT y1
 have et:tG T' lk.1=t:=by have:=(zdK r1).1;rw[ta]at this;cases this;rfl
 have eu:tG T' lk.2.1=u:=by have:=(zdK r2).1;rw[ua]at this;cases this;rfl
 have tl1:=t1000 t (mOq ta)
 unfold zdn at q
 rw[et,eu]at q
 refine⟨_,rfl,_,rfl,l,_,_,_,rfl,rfl,hl,l0 lk,tl,_,_,_,rfl,rfl,ht,x2,?_⟩
 refine⟨_,rfl,_,rfl,l,_,_,_,rfl,rfl,hl,l1 lk,tl,_,_,_,rfl,rfl,ht,y2,?_⟩
 have a0:∀(z:Str) (r:Addr),atI [V.str z,V.ref r] 0=some (.str z):=λz r=>aF (j:=0) rfl
 have a1:∀(z:Str) (r:Addr),atI [V.str z,V.ref r] 1=some (.ref r):=λz r=>aF (j:=1) rfl
 refine⟨_,rfl,qa,_,_,_,rfl,rfl,ha,a0 _ _,_,rfl,qb,_,_,_,rfl,rfl,hb,a0 _ _,rfl,_,rfl,aJ (λc=>zao ?_) (λc=>⟨_,rfl,qa,_,_,_,rfl,rfl,ha,a1 _ _,ra,_,rfl,.inr hra,_,rfl,qb,_,_,_,rfl,rfl,hb,a1 _ _,rb,_,rfl,.inr hrb,rfl,_,rfl,aJ (λc2=>?_) (λc2=>?_)⟩)⟩
 ·have:=q H (ai.refl H)
  rw[decide_eq_false (λz:t.1=u.1=>by rw[z]at c;simp at c)]at this
  exact this
 ·have:=q H (ai.refl H)
  rw[decide_eq_false (p:=t.2.length=u.2.length) (λz=>by simp [z]at c2)]at this
  rw[Bool.false_and,Bool.and_false]at this
  exact this
 have n1:t.1=u.1:=by
  apply Classical.byContradiction
  intro z
  exact c (by simp [z])
 have n2:t.2.length=u.2.length:=by
  apply Classical.byContradiction
  intro z
  exact c2 (by simp;omega)
 rw[decide_eq_true n1,decide_eq_true n2,Bool.true_and,Bool.true_and]at q
 refine⟨_,rfl,qa,_,_,_,rfl,rfl,ha,a1 _ _,_,rfl,qb,_,_,_,rfl,rfl,hb,a1 _ _,ra,rb,rfl,⟨_,hra⟩,⟨_,hrb⟩,λD hD=>zbu (zl8 (by rw[lM,lM];exact n2)) (λi us H'=>ai H H'∧us=(((t.2.zip u.2).take i).map λxy=>decide (hd xy.1=hd xy.2)).map V.bl) (λi us H' ⟨s4,_⟩=>⟨s4.tup hra,s4.tup hrb⟩) ⟨ag hD _,rfl⟩ ?_ ?_⟩
 ·rintro i us H8 z H4 hi hly hDs ⟨s4,rfl⟩ ⟨pp,v1,v2,rfl,hpp,rfl,h1,h2⟩
  obtain⟨k1,e1,rfl⟩:=zaH (h1 _ (s4.tup hra))
  obtain⟨k2,e2,rfl⟩:=zaH (h2 _ (s4.tup hrb))
  have hD5:=ag hpp (.tup [.int k1,.int k2]) _ _ hDs
  have s5:=s4.trans (ag hpp (.tup [.int k1,.int k2]))
  have n5:=ae (H:=H8) (a:=pp) (o:=.tup [.int k1,.int k2])
  generalize upd H8 pp (.tup [.int k1,.int k2])=H5 at s5 n5 hD5
  have O5:=O.same s5
  obtain⟨dx5,kl5,kg5,g5,_⟩:=id O5.ex
  refine⟨_,rfl,g,dx5,_,rfl,g5,rfl,_,rfl,pp,_,_,_,rfl,rfl,SqT.of n5,aF (j:=0) rfl,_,rfl,pp,_,_,_,rfl,rfl,SqT.of n5,aF (j:=1) rfl,g,ld,gd,k1,k2,N,b,hd,av,rfl,O5,zaA (sz _ (by rw[lM];exact tl1)) hi hly hD5 ⟨s5.upd hD,?_⟩⟩
  ·rw[zll e1 e2,mAq,mAq]
   rfl
 rintro us H4 hDs ⟨s4,rfl⟩
 refine⟨D,_,rfl,SqL.of hDs,?_⟩
 rw[all_map,lM,tO (by rw[List.length_zip];omega)]
 exact q H4 s4
structure PrD (K:W.Frag) (C:Addr) (H:Hp) (p tl al rl:Addr) (T:List Tm) (As:List At) (Rs:List (List Int)):Prop where
 pr:zaY K C H p tl al rl T As Rs
 dm:Dom T As
 t3:∀ t∈T,t.2.length≤1000
 tN:T.length≤100
theorem PrD.same {H H':Hp} {p tl al rl:Addr} {T:List Tm} {As:List At} {Rs:List (List Int)} (h:PrD K C H p tl al rl T As Rs) (s:ai H H'):PrD K C H' p tl al rl T As Rs:=⟨h.pr.same s,h.dm,h.t3,h.tN⟩
inductive sp_right (K:W.Frag) (C CG:Addr):Sp|m{vs H Q E9} (p tl al rl q l g ld gd:Addr) (T:List Tm) (As:List At) (Rs:List (List Int)) (ps:List Int) (lk:Lk) (N b:Nat) (hd:Int→Int) (av:List Addr):vs=[.ref p,.ref q,.ref l,.ref g]→PrD K C H p tl al rl T As Rs→SqI K H q ps→SqT K H l [.int lk.1,.int lk.2.1,.int lk.2.2]→zb2 T.length As.length lk→GO H CG g ld gd N b hd av→(∀ H',ai H H'→Q (.bl (zbm hd ps T As lk)) H')→sp_right K C CG vs H Q E9
theorem zi2:aO ["problem","parts","link","groups"] ["problem","parts","link","groups"] (aw zfu):=fsc
theorem ok_right (F:Fun K "is_right" "is_right" zfu f fd) (T:Txt K mg aK C CN CT CP CM) (G:TxG K mg CG) (mT:mg "is_told"=some (.ref fT)) (BT:aI P w K mg base CX0 2 fT dT' ["problem","parts","link"] (zhv K C)) (bT:aH K dT' ["problem","parts","link"] []) (kT:W.keepIn K (.ref fT)=true)
  (mA:mg "is_alike"=some (.ref fA)) (BA:aI P w K mg base CX0 3 fA dA' ["terms","link","groups"] (zgR K CG)) (bA:aH K dA' ["terms","link","groups"] []) (kA:W.keepIn K (.ref fA)=true):aI P w K mg base CX0 4 f fd ["problem","parts","link","groups"] (sp_right K C CG):=by
 refine F.ok zi2 (λvs H Q E h=>?_) (λcdv A outer s H vs Q E hr h=>?_)
 ·obtain⟨p,tl,al,rl,q,l,g,ld,gd,T',As,Rs,ps,lk,N,b,hd,av,rfl,_⟩:=h
  rfl
 obtain⟨p,tl,al,rl,q,l,g,ld,gd,T',As,Rs,ps,lk,N,b,hd,av,rfl,S,hq,hl,lin,O,Q0⟩:=h
 have hr2:zaq 2 _:=hr.mono (by decide)
 refine⟨_,(af (aL (PW.pt (zbd (au zbR (ao (zh1 rfl) rfl G.min PyProof.Rows.Boot.min (aa (zaj zeU (pv 2) zat (zas ad)) ac)) ad) (zbn (au zd1 (ao (zh2 rfl) rfl G.max PyProof.Rows.Boot.max (aa (zaj zeU (pv 2) zat (zas ad)) ac)) (ao ar rfl T.len PySem.boot_len (aa (zae (pv 0) rfl) ac))))))
   (ah (ay zam))
   aA)
  (af (aL (au zaf (ap az (pv 2) ad) ad)
   (ah (ay (aB BA hr rfl mA kA bA .nil aR (aa (zae (pv 0) rfl) (aa (pv 2) (aa (pv 3) ac))))))
   aA)
  (ah (ay (aB BT hr2 rfl mT kT bT .nil aR (aa (pv 0) (aa (pv 1) (aa (pv 2) ac)))))))),?_⟩
 try dsimp only [Cx.nox,Cx.wish,aV]
 obtain⟨i1,i2,i3,i4⟩:=id lin
 refine⟨_,rfl,_,rfl,l,_,rfl,hl,(by show ¬(0=0∧(2:Nat)=3);rintro ⟨_,z⟩;exact absurd z (by decide)),λd hd'=>?_⟩
 have s1:=ag hd' (.tup (aQ [.int lk.1,.int lk.2.1,.int lk.2.2] none (some 2)))
 have n1:upd H d (.tup (aQ [.int lk.1,.int lk.2.1,.int lk.2.2] none (some 2))) d=some (.tup [.int lk.1,.int lk.2.1]):=ae
 generalize upd H d (.tup (aQ [.int lk.1,.int lk.2.1,.int lk.2.2] none (some 2)))=H1 at s1 n1 ⊢
 refine⟨d,[lk.1,lk.2.1],rfl,.inr (SqT.of n1),(by simp),λm hm _=>⟨_,_,rfl,rfl,_,rfl,?_⟩⟩
 have m0:¬m < 0:=by
  have:m=lk.1∨m=lk.2.1:=by simpa using hm
  rcases this with z | z
  ·rw[z];have:=i1.1;omega
  ·rw[z];have:=i2.1;omega
 rw[decide_eq_false m0]
 refine aY ⟨_,rfl,_,rfl,l,_,rfl,s1.tup hl,(by show ¬(0=0∧(2:Nat)=3);rintro ⟨_,z⟩;exact absurd z (by decide)),λe he=>?_⟩
 have s2:=s1.trans (ag he (.tup (aQ [.int lk.1,.int lk.2.1,.int lk.2.2] none (some 2))))
 have n2:upd H1 e (.tup (aQ [.int lk.1,.int lk.2.1,.int lk.2.2] none (some 2))) e=some (.tup [.int lk.1,.int lk.2.1]):=ae
 generalize upd H1 e (.tup (aQ [.int lk.1,.int lk.2.1,.int lk.2.2] none (some 2)))=H2 at s2 n2 ⊢
 have S2:=S.same s2
 obtain⟨⟨dx,ho⟩,⟨xs,ht,hT⟩,_⟩:=id S2.pr
 have xl:xs.length=T'.length:=by rw[←hT.length,lM]
 refine⟨e,[lk.1,lk.2.1],rfl,.inr (SqT.of n2),(by simp),λm2 hm2 _=>⟨_,rfl,p,C,dx,_,_,rfl,ho,T.cl,T.nT,zaO _ _ _,tl,xs,rfl,.inl (SqL.of ht),_,_,rfl,rfl,_,rfl,?_⟩⟩
 have m1:¬((xs.length:Nat):Int)≤m2:=by
  rw[xl]
  have:m2=lk.1∨m2=lk.2.1:=by simpa using hm2
  rcases this with z | z
  ·rw[z];have:=i1.2;omega
  ·rw[z];have:=i2.2;omega
 rw[decide_eq_false m1]
 have hl2:=s2.tup hl
 unfold zbm at Q0
 refine aY ⟨_,rfl,l,_,_,_,rfl,rfl,hl2,l2 lk,rfl,_,rfl,aJ (λc=>?_) (λc=>?_)⟩
 ·have c':lk.2.2=0:=by
   have:=of_decide_eq_true c
   injection this
  rw[if_pos c']at Q0
  exact⟨_,rfl,p,C,dx,_,_,rfl,ho,T.cl,T.nT,zaO _ _ _,_,rfl,_,rfl,tl,l,g,ld,gd,xs,T',lk,N,b,hd,av,rfl,SqL.of ht,hT,S.t3,hl2,i1,i2,O.same s2,λH3 s3=>Q0 H3 (s2.trans s3)⟩
 ·have c':¬lk.2.2=0:=λz=>c (by rw[z];rfl)
  rw[if_neg c']at Q0
  exact⟨_,rfl,_,rfl,_,rfl,p,tl,al,rl,q,l,T',As,Rs,ps,lk,rfl,S2.pr,hq.same s2,hl2,λH3 s3=>Q0 H3 (s2.trans s3)⟩
inductive zhw (K:W.Frag) (C CG:Addr):Sp|m{vs H Q E9} (p tl al rl g ld gd:Addr) (T:List Tm) (As:List At) (Rs:List (List Int)) (k:Int) (N b:Nat) (hd:Int→Int) (av:List Addr):vs=[.ref p,.int k,.ref g]→zaY K C H p tl al rl T As Rs→GO H CG g ld gd N b hd av→(∀ H',ai H H'→Q (.bl (zbP hd As k)) H')→zhw K C CG vs H Q E9
theorem ze4:aO ["problem","part","groups","pair"] ["problem","part","groups"] (aw zdV):=fsc
theorem zmp (F:Fun K "says_joined" "says_joined" zdV f fd) (G:TxG K mg CG) (mS:mg "sameness"=some (.ref fS)) (BS:aI P w K mg base CX0 1 fS dS ["problem","number"] (zdI K C)) (bS:aH K dS ["problem","number"] []) (kS:W.keepIn K (.ref fS)=true)
  (M:zcp K CG "together" fG) (Bg:aI P w K mg base CX0 2 fG dG ["self","one","other"] (Gp.sp_together CG)) (bg:aH K dG ["self","one","other"] []):aI P w K mg base CX0 3 f fd ["problem","part","groups"] (zhw K C CG):=by
 refine F.ok ze4 (λvs H Q E h=>?_) (λcdv A outer s H vs Q E hr h=>?_)
 ·obtain⟨p,tl,al,rl,g,ld,gd,T',As,Rs,k,N,b,hd,av,rfl,_⟩:=h
  rfl
 obtain⟨p,tl,al,rl,g,ld,gd,T',As,Rs,k,N,b,hd,av,rfl,S,O,Q0⟩:=h
 have hr1:zaq 1 _:=hr.mono (by decide)
 refine⟨_,(af (aE (i:=3) ze4.nd rfl (Or.inl rfl) (aB BS hr1 rfl mS kS bS .nil aR (aa (pv 0) (aa (pv 1) ac))))
  (ah (ay (zbf (zaI zhE (pv 3) zb8) (zbe (zaN (pv 2) G.cl M Bg hr bg .nil aR (aa (ap az (pv 3) ad) (aa (ap az (pv 3) ad) ac)))))))),?_⟩
 try dsimp only [Cx.nox,Cx.wish,aV]
 unfold zbP at Q0
 refine⟨_,rfl,_,rfl,p,tl,al,rl,T',As,Rs,k,rfl,S,λe H1 s1=>?_,λx y e H1 a s1 ha=>?_⟩
 ·refine⟨_,rfl,rfl,_,rfl,aY ?_⟩
  have:=Q0 H1 s1
  rw[e]at this
  exact this
 ·have O1:=O.same s1
  obtain⟨dx1,kl1,kg1,g1,_⟩:=id O1.ex
  refine⟨_,rfl,rfl,_,rfl,zao ⟨_,rfl,g,dx1,_,rfl,g1,rfl,_,rfl,a,_,_,_,rfl,rfl,ha,aF (j:=0) rfl,_,rfl,a,_,_,_,rfl,rfl,ha,aF (j:=1) rfl,g,ld,gd,x,y,N,b,hd,av,rfl,O1,?_⟩⟩
  have:=Q0 H1 s1
  rw[e]at this
  exact this
inductive zei (K:W.Frag) (C:Addr):Sp|m{vs H Q E9} (p tl al rl q l:Addr) (T:List Tm) (As:List At) (Rs:List (List Int)) (ps:List Int) (xs:List V) (ls:List Lk):vs=[.ref p,.ref q,.ref l]→PrD K C H p tl al rl T As Rs→SqT K H q (ps.map V.int)→ps.length≤1000→SqT K H l xs→aj K H (ls.map dL) xs→(∀ lk∈ls,zb2 T.length As.length lk)→ls.length≤1000→(∀ H',ai H H'→Q (.bl (eqF mrg ps T As ls id)) H')→zei K C vs H Q E9
theorem zeP:aO ["problem","parts","links","groups","link"] ["problem","parts","links"] (aw zd5):=fsc
theorem zf9 {st:(Int→Int)→Int→Int→Int→Int} {ps:List Int} {T:List Tm} {As:List At} {l:Lk} {ls:List Lk} {f:Int→Int} (h:¬zbm f ps T As l=true):eqF st ps T As (l :: ls) f=false:=by
 simp only[eqF]
 rw[if_neg h]
theorem zg1 {st:(Int→Int)→Int→Int→Int→Int} {ps:List Int} {T:List Tm} {As:List At} {l:Lk} {ls:List Lk} {f:Int→Int} (h:zbm f ps T As l=true):eqF st ps T As (l :: ls) f=eqF st ps T As ls (st f l.1 l.2.1):=by
 simp only[eqF]
 rw[if_pos h]
theorem zjy {α:Type} {xs:List α} {i:Nat} {x:α} (h:xs[i]?=some x):xs.drop i=x :: xs.drop (i+1):=by
 obtain⟨hi,rfl⟩:=gEq h
 exact List.drop_eq_getElem_cons hi
theorem zlO (F:Fun K "is_equal" "is_equal" zd5 f fd) (T:Txt K mg aK C CN CT CP CM) (G:TxG K mg CG) (many:mg "any"=none) (MK:Mk K CG fI) (mC:mg "Groups"=some (.ref CG)) (Bi:aI P w K mg base CX0 1 fI dI ["self"] (Gp.sp_init CG)) (bi:aH K dI ["self"] [])
  (M:zcp K CG "merge" fM) (Bm:aI P w K mg base CX0 2 fM dM ["self","one","other"] (Gp.sp_merge CG)) (bm:aH K dM ["self","one","other"] []) (mR:mg "is_right_lines"=some (.ref fR)) (BR:aI P w K mg base CX0 4 fR dR' ["problem","parts","link","groups"] (sp_right K C CG)) (bR:aH K dR' ["problem","parts","link","groups"] []) (kR:W.keepIn K (.ref fR)=true)
  (mJ:mg "says_joined"=some (.ref fJ)) (BJ:aI P w K mg base CX0 3 fJ dJ ["problem","part","groups"] (zhw K C CG)) (bJ:aH K dJ ["problem","part","groups"] []) (kJ:W.keepIn K (.ref fJ)=true):aI P w K mg base CX0 5 f fd ["problem","parts","links"] (zei K C):=by
 refine F.ok zeP (λvs H Q E h=>?_) (λcdv A outer s H vs Q E hr h=>?_)
 ·obtain⟨p,tl,al,rl,q,l,T',As,Rs,ps,xs,ls,rfl,_⟩:=h
  rfl
 obtain⟨p,tl,al,rl,q,l,T',As,Rs,ps,xs,ls,rfl,S,hq,p1000,hl,hL,hin,l1000,Q0⟩:=h
 have xl:xs.length=ls.length:=by rw[←hL.length,lM]
 have hr1:zaq 2 _:=hr.mono (by decide)
 have hr2:zaq 2 _:=hr.mono (by decide)
 have hr3:zaq 3 _:=hr.mono (by decide)
 refine⟨_,(af (aE (i:=3) zeP.nd rfl (Or.inr rfl) (ziF MK Bi hr1 rfl mC bi .nil aR))
  (af (zah PassesOwn.never rfl (zaU (pv 2)) (zac (i:=4) zeP.nd rfl (Or.inl rfl))
   (af (aL (zbo (zaS (aB BR hr rfl mR kR bR .nil aR (aa (pv 0) (aa (pv 1) (aa (pv 4) (aa (pv 3) ac)))))))
     (ah (ay zam))
     aA)
    (ah (zak (zaN (pv 3) G.cl M Bm hr2 bm .nil aR (aa (ap az (pv 4) ad) (aa (ap az (pv 4) ad) ac)))))))
  (ah (ay (ao (zhM rfl) rfl many PyProof.Rows.Boot.any (aa (zbQ (N':=["part","problem","groups"]) (ix:=[0,3]) rfl rfl (by decide +kernel) (by decide +kernel) rfl (λok=>zc4 (sc:=aw zd5) ok rfl (by decide +kernel) (by decide +kernel)) (by decide +kernel) rfl rfl (λj i h=>match j,h with | 0,h=>by cases h;exact⟨_,rfl,rfl,.inl rfl,.inl rfl⟩ | 1,h=>by cases h;exact⟨_,rfl,rfl,.inl rfl,.inl rfl⟩ | n+2,h=>by simp at h) (zaU (pv 1)) (λ_ _ _ _=>(aB BJ hr3 rfl mJ kJ bJ .nil aR (aa (pv 1) (aa (pv 0) (aa (pv 2) ac)))))) ac)))))),?_⟩
 try dsimp only [Cx.nox,Cx.wish,aV]
 intro g dx ng ndx nex
 have s0:∀ b o,H b=some o→(upd (upd H dx (.own g)) g (.ins CG dx [])) b=some o:=λb o h=>by
  rw[aD (λe=>by rw[e,ng]at h;cases h),aD (λe=>by rw[e,ndx]at h;cases h)]
  exact h
 have hg0:=ae (H:=upd H dx (.own g)) (a:=g) (o:=.ins CG dx [])
 have f0:∀ b,(upd (upd H dx (.own g)) g (.ins CG dx [])) b=none→H b=none:=λb h=>by
  cases e:H b with
  | none=>rfl
  | some o=>rw[s0 b o e]at h;cases h
 generalize upd (upd H dx (.own g)) g (.ins CG dx [])=H0 at s0 hg0 f0
 refine⟨g,dx,rfl,hg0,λH1 ld gd k1 nl ngd ne hg1 hl1 hgd1=>⟨rfl,?_⟩⟩
 have s1:ai H H1:=λb o h=>k1 b o (λe=>by rw[e,ng]at h;cases h) (s0 b o h)
 have G1:GO H1 CG g ld gd T'.length 0 id []:=⟨Hd.zero T'.length,ne,dx,[],[],hg1,hl1,hgd1,λt=>rfl,λx _=>⟨[x],by simp,λt=>by simp,.inl ⟨rfl,rfl⟩⟩,Nat.zero_le _,Nat.zero_le _⟩
 have nld:H ld=none:=f0 ld nl
 have ngd':H gd=none:=f0 gd ngd
 refine⟨_,rfl,l,rfl,⟨_,s1.tup hl⟩,zdm (zbl (xs:=xs)) (λi σ H'=>∃(v4:Option V) (hd:Int→Int),σ=[some (.ref p),some (.ref q),some (.ref l),some (.ref g),v4]∧ai H H'∧GO H' CG g ld gd T'.length i hd []∧eqF mrg ps T' As ls id=eqF mrg ps T' As (ls.drop i) hd) (λi σ H' ⟨_,_,_,s2,_⟩=>s2.tup hl) ⟨none,id,rfl,s1,G1,rfl⟩ ?_ ?_⟩
 ·rintro i σ H9 x H2 hi ⟨v4,hd,rfl,s2,G2,eF⟩ ⟨rfl,hx⟩
  obtain⟨lk,pl,hlk,rfl,hp⟩:=zid hL (hx _ (s2.tup hl))
  have hp2:=s2.tup hp
  have lin:=hin lk (mOq hlk)
  rw[zjy hlk]at eF
  refine⟨_,rfl,_,rfl,_,rfl,_,rfl,p,tl,al,rl,q,pl,g,ld,gd,T',As,Rs,ps,lk,T'.length,i,hd,[],rfl,S.same s2,.inr (s2.tup hq),hp2,lin,G2,λH3 s3=>⟨_,rfl,?_⟩⟩
  refine aJ (λc=>?_) (λc=>?_)
  ·have c':¬zbm hd ps T' As lk=true:=λz=>by rw[z]at c;cases c
   have:=Q0 H3 (s2.trans s3)
   rw[eF,zf9 c']at this
   exact this
  ·have c':zbm hd ps T' As lk=true:=by
    cases z:zbm hd ps T' As lk with
    | true=>rfl
    | false=>exact absurd (by rw[z];rfl) c
   rw[zg1 c']at eF
   have G3:=G2.same s3
   obtain⟨dx3,kl3,kg3,e3,_⟩:=id G3.ex
   have hp3:=s3.tup hp2
   refine⟨_,rfl,g,dx3,_,rfl,e3,rfl,_,rfl,pl,_,_,_,rfl,rfl,hp3,l0 lk,_,rfl,pl,_,_,_,rfl,rfl,hp3,l1 lk,g,ld,gd,lk.1,lk.2.1,T'.length,i,hd,[],rfl,G3,lin.1,lin.2.1,S.tN,by omega,(λa ha=>nomatch ha),λH4 s4 G4=>?_⟩
   exact⟨_,_,rfl,(s2.trans s3).ofG nld ngd' s4,G4,eF⟩
 ·rintro σ H2 ⟨v4,hd,rfl,s2,G2,eF⟩
  rw[xl,List.drop_length]at eF
  have eF':eqF mrg ps T' As ls id=(ps.map (zbP hd As)).any id:=eF
  refine⟨_,rfl,q,rfl,⟨_,s2.tup hq⟩,λD hD=>zbu zbl (λi us H'=>ai H2 H'∧us=((ps.take i).map (zbP hd As)).map V.bl) (λi us H' ⟨s4,_⟩=>(s2.trans s4).tup hq) ⟨ag hD _,rfl⟩ ?_ ?_⟩
  ·rintro i us H8 z H4 hi hly hDs ⟨s4,rfl⟩ ⟨rfl,hx⟩
   obtain⟨k,hk,rfl⟩:=zaH (hx _ ((s2.trans s4).tup hq))
   refine⟨_,rfl,_,rfl,_,rfl,p,tl,al,rl,g,ld,gd,T',As,Rs,k,_,_,hd,[],rfl,(S.same (s2.trans s4)).pr,G2.same s4,λH5 s5=>zaA (sz _ (by rw[lM];exact p1000)) hi hly (s5 _ _ hDs) ⟨(s4.trans s5).upd hD,?_⟩⟩
   rw[zan hk,mAq,mAq]
   rfl
  rintro us H4 hDs ⟨s4,rfl⟩
  refine⟨D,_,rfl,SqL.of hDs,?_⟩
  rw[lM,tO (nRq _),←eF']
  exact Q0 H4 (s2.trans s4)
end K36
namespace Ls36
open PySem L2
abbrev zgD:Stmt:=K36.sOnce
abbrev s_not_failing:Stmt:=K36.s_not_failing
abbrev s_is_learnt:Stmt:=K36.s_is_learnt
structure Txt (K:W.Frag) (mg:Str→Option Value):Prop where
 len:mg "len"=none
 min:mg "min"=none
 max:mg "max"=none
 dict:mg "dict"=none
inductive zeo (K:W.Frag):Sp|m{vs H Q E9} (q:Addr) (ps:List Int):vs=[.ref q]→zjO K H q ps→ps.length≤1000→(∀(H':Hp) (l:Addr),ai H H'→H l=none→H' l=some (.tup ((aZ [] ps).map V.int))→Q (.ref l) H')→zeo K vs H Q E9
theorem zep:aO ["parts","kept","part"] ["parts"] (aw zgD):=fsc
theorem ok_once_each {P:Program} {w:World} {K:W.Frag} {mg:Str→Option Value} {base:Heap} {f:Addr} {fd:FuncData} (F:Fun K "once_each" "once_each" zgD f fd) (tuple:mg "tuple"=none):aI P w K mg base CX0 1 f fd ["parts"] (zeo K):=by
 refine F.ok zep (λvs H Q E h=>?_) (λcdv A outer s H vs Q E hr h=>?_)
 ·obtain⟨q,ps,rfl,_⟩:=h
  rfl
 obtain⟨q,ps,rfl,hq,len,h⟩:=h
 refine⟨_,(af (aE (i:=1) zep.nd rfl (Or.inl rfl) (zag ac))
  (af (zah PassesOwn.never rfl (zhc (pv 0)) (zac (i:=2) zep.nd rfl (Or.inl rfl))
   (ah (aL (au zbO (pv 2) (pv 1) rfl)
     (ah (zak (zbt PySem.F.plainAttrs_list PySem.F.slot_list_append PySem.F.type_list_append zaE (pv 1) (aa (pv 2) ac))))
     aA)))
  (ah (ay (zar zaD rfl tuple PyProof.Rows.Boot.tuple (aa (pv 1) ac)))))),?_⟩
 try dsimp only [Cx.nox,Cx.wish,aV]
 refine⟨Nat.zero_le _,λl hl=>?_⟩
 have s0:ai H (upd H l (.lst [])):=ag hl _
 have turn:∀(i:Nat) (x:V) (σ:St) (H':Hp) (N:St→Hp→Prop),(ps.map V.int)[i]?=some x →
   ((∃ v,σ=[some (.ref q),some (.ref l),v])∧ai H H'∧H' l=some (.lst ((aZ [] (ps.take i)).map V.int))) →
   (∀ σ' H2,((∃ v,σ'=[some (.ref q),some (.ref l),v])∧ai H H2∧H2 l=some (.lst ((aZ [] (ps.take (i+1))).map V.int)))→N σ' H2) →
   ∃ k:Int,ps[i]?=some k∧x=.int k∧(aZ [] (ps.take (i+1)))=(if k∈aZ [] (ps.take i) then aZ [] (ps.take i) else aZ [] (ps.take i)++[k])∧((aZ [] (ps.take i)).map V.int).length < sizeLine:=λi x σ H' N hx hI hN=>by
  obtain⟨k,hk,rfl⟩:=zaH hx
  refine⟨k,hk,rfl,zeH hk,?_⟩
  have h1:=zdf (ps.take i) []
  have h2:(ps.take i).length≤ps.length:=by rw[List.length_take];omega
  rw[lM]
  exact zaC (by simp only[List.length_nil]at h1;omega)
 have done:∀(H':Hp) (v:Option V),ai H H'→H' l=some (.lst ((aZ [] (ps.take ps.length)).map V.int))→∀ t:Addr,H' t=none→Q (.ref t) (upd H' t (.tup ((aZ [] ps).map V.int))):=λH' v s1 hl' t ht=>h _ t (s1.trans (ag ht _)) (s1.free ht) ae
 have lenm:(ps.map V.int).length=ps.length:=lM _
 refine⟨_,rfl,q,rfl,?_⟩
 rcases hq with hq | hq
 ·refine .inl ⟨⟨_,s0.seq hq⟩,zby (xs:=ps.map V.int) (λi σ H'=>(∃ v,σ=[some (.ref q),some (.ref l),v])∧ai H H'∧H' l=some (.lst ((aZ [] (ps.take i)).map V.int))) ⟨⟨none,rfl⟩,s0,ae⟩ (λi σ H' _ ⟨_,s1,_⟩=>s1.seq hq) ?_ ?_⟩
  ·rintro i x σ H' hx ⟨⟨v,rfl⟩,s1,hl'⟩
   obtain⟨k,hk,rfl,et,lt⟩:=turn i x _ H' (λ_ _=>True) hx ⟨⟨v,rfl⟩,s1,hl'⟩ (λ_ _ _=>trivial)
   refine⟨_,rfl,_,rfl,l,_,rfl,.inl (SqL.of hl'),rfl,zdi _,_,rfl,?_⟩
   rw[zbN]
   by_cases e:k∈aZ [] (ps.take i)
   ·rw[decide_eq_true e]
    refine aY ⟨⟨_,rfl⟩,s1,?_⟩
    rw[et,if_pos e]
    exact hl'
   ·rw[decide_eq_false e]
    refine zao ⟨_,rfl,.inl ⟨rfl,_,SqL.of hl'⟩,_,rfl,l,_,_,rfl,rfl,hl',lt,⟨_,rfl⟩,s1.upd hl,?_⟩
    rw[et,if_neg e,mAq]
    exact ae
  ·rintro σ H' ⟨⟨v,rfl⟩,s1,hl'⟩
   rw[lenm]at hl'
   refine⟨_,rfl,l,_,rfl,.inl ⟨SqL.of hl',λt ht=>?_⟩⟩
   have:=done H' v s1 hl' t ht
   rw[tO (nRq _)]
   exact this
 ·refine .inr ⟨⟨_,s0.tup hq⟩,zcn (xs:=ps.map V.int) (λi σ H'=>(∃ v,σ=[some (.ref q),some (.ref l),v])∧ai H H'∧H' l=some (.lst ((aZ [] (ps.take i)).map V.int))) ⟨⟨none,rfl⟩,s0,ae⟩ (λi σ H' _ ⟨_,s1,_⟩=>s1.tup hq) ?_ ?_⟩
  ·rintro i x σ H' hx ⟨⟨v,rfl⟩,s1,hl'⟩
   obtain⟨k,hk,rfl,et,lt⟩:=turn i x _ H' (λ_ _=>True) hx ⟨⟨v,rfl⟩,s1,hl'⟩ (λ_ _ _=>trivial)
   refine⟨_,rfl,_,rfl,l,_,rfl,.inl (SqL.of hl'),rfl,zdi _,_,rfl,?_⟩
   rw[zbN]
   by_cases e:k∈aZ [] (ps.take i)
   ·rw[decide_eq_true e]
    refine aY ⟨⟨_,rfl⟩,s1,?_⟩
    rw[et,if_pos e]
    exact hl'
   ·rw[decide_eq_false e]
    refine zao ⟨_,rfl,.inl ⟨rfl,_,SqL.of hl'⟩,_,rfl,l,_,_,rfl,rfl,hl',lt,⟨_,rfl⟩,s1.upd hl,?_⟩
    rw[et,if_neg e,mAq]
    exact ae
  ·rintro σ H' ⟨⟨v,rfl⟩,s1,hl'⟩
   rw[lenm]at hl'
   refine⟨_,rfl,l,_,rfl,.inl ⟨SqL.of hl',λt ht=>?_⟩⟩
   have:=done H' v s1 hl' t ht
   rw[tO (nRq _)]
   exact this
inductive zdD (K:W.Frag):Sp|m{vs H Q E9} (q d:Addr) (row held:List Int):vs=[.ref q,.ref d]→SqT K H q (row.map V.int)→zcs H d held→row.length≤1000→(∀(H':Hp) (l:Addr),ai H H'→H l=none→H' l=some (.tup ((nf row held).map V.int))→Q (.ref l) H')→zdD K vs H Q E9
theorem zhI:aO ["row","held"] ["row","held"] (aw s_not_failing):=fsc
theorem zgI {row:List Int} {i:Nat} {k:Int} (p:Int→Bool) (h:row[i]?=some k):(row.take (i+1)).filter p=if p k=true then(row.take i).filter p++[k] else(row.take i).filter p:=by
 rw[zan h,List.filter_append]
 by_cases e:p k=true
 ·rw[if_pos e,List.filter_cons,if_pos e]
  rfl
 ·rw[if_neg e,List.filter_cons,if_neg e,List.filter_nil,List.append_nil]
theorem ok_not_failing {P:Program} {w:World} {K:W.Frag} {mg:Str→Option Value} {base:Heap} {f fO:Addr} {fd dO:FuncData} (F:Fun K "not_failing" "not_failing" s_not_failing f fd) (BO:FB P w K mg base CX0 1 "once_each" fO dO ["parts"] (zeo K)):aI P w K mg base CX0 2 f fd ["row","held"] (zdD K):=by
 refine F.ok zhI (λvs H Q E h=>?_) (λcdv A outer s H vs Q E hr h=>?_)
 ·obtain⟨q,d,row,held,rfl,_⟩:=h
  rfl
 obtain⟨q,d,row,held,rfl,hq,hd,len,h⟩:=h
 have hu:=zfd hr
 obtain⟨kvs,hk,hv,_⟩:=id hd.ex
 refine⟨_,(ah (ay (aB BO.ok hr rfl BO.m BO.kp BO.b .nil aR (aa (zhe (N':=["part","held"]) (ix:=[1]) rfl rfl (by decide +kernel) (by decide +kernel) rfl (λok=>zc4 (sc:=aw s_not_failing) ok rfl (by decide +kernel) (by decide +kernel)) (by decide +kernel) rfl rfl (λj i h=>match j,h with | 0,h=>by cases h;exact⟨_,rfl,rfl,.inl rfl,.inl rfl⟩ | n+1,h=>by simp at h) (zaU (pv 0)) (λ_ _ _ _=>(zhb (zkG hu (zbk za1 (pv 0)) (pv 1)))) (λ_ _ _ _=>(pv 0))) ac)))),?_⟩
 try dsimp only [Cx.nox,Cx.wish,aV]
 refine⟨_,rfl,q,rfl,⟨_,hq⟩,λD hD=>zhh zbl (λi ys H'=>ai H H'∧ys=((row.take i).filter λp=>decide (-p∉held)).map V.int) (λi ys H' ⟨s1,_⟩=>s1.tup hq) ⟨ag hD _,rfl⟩ ?_ ?_⟩
 ·rintro i ys H' x H'' hi hly hDs ⟨s1,rfl⟩ ⟨rfl,hx⟩
  obtain⟨k,hk',rfl⟩:=zaH (hx _ (s1.tup hq))
  have et:=zgI (λp=>decide (-p∉held)) hk'
  have hk2:=s1 _ _ hk
  have hi':i < row.length:=by simpa using hi
  refine⟨_,rfl,_,rfl,_,rfl,d,_,rfl,zc0.k (k:=Sum.inl (-k)) hk2,_,rfl,?_⟩
  rw[hv]
  by_cases e:-k∈held
  ·rw[decide_eq_true e]
   refine aY (zgu hi hly hDs ⟨s1,?_⟩)
   rw[et,if_neg (by simp [e])]
  ·rw[decide_eq_false e]
   refine zao ⟨_,rfl,zaA (by rw[lM];exact bsz _ len) hi hly hDs ⟨s1.upd hD,?_⟩⟩
   rw[et,if_pos (decide_eq_true e),mAq]
   rfl
 ·rintro ys H' hDs ⟨s1,rfl⟩
  rw[lM,tO (nRq _)]at hDs
  refine⟨D,row.filter λp=>decide (-p∉held),rfl,.inl (SqL.of hDs),Nat.le_trans (List.length_filter_le _ _) len,λH2 l s2 hl hl2=>h H2 l (s1.trans s2) (s1.free hl) hl2⟩
inductive sp_is_learnt (K:W.Frag):Sp|m{vs H Q E9} (rl pt ht:Addr) (xs:List V) (Rs:List (List Int)) (ps hs:List Int):vs=[.ref rl,.ref pt,.ref ht]→SqL K H rl xs→aj K H (Rs.map zfB) xs→SqT K H pt (ps.map V.int)→SqT K H ht (hs.map V.int)→(∀ r∈Rs,r.length≤100)→ps.length≤100→hs.length≤100→(∀ H',ai H H'→Q (.bl (zdC Rs ps hs)) H')→sp_is_learnt K vs H Q E9
theorem zdp:aO ["rows","parts","hints","held","hint","left"] ["rows","parts","hints"] (aw s_is_learnt):=fsc
theorem zkw {n:Int} {hs:List Int} (hm:n∈hs) (hmin:∀ h∈hs,n≤h):hs.any (λh=>decide (h < 0))=decide (n < 0):=by
 by_cases e:n < 0
 ·rw[decide_eq_true e]
  exact List.any_eq_true.mpr ⟨n,hm,decide_eq_true e⟩
 ·rw[decide_eq_false e,List.any_eq_false]
  intro h hh
  have:=hmin h hh
  simp
  omega
theorem zkx {n:Int} {m:Nat} {hs:List Int} (hm:n∈hs) (hmax:∀ h∈hs,h≤n):hs.any (λh=>decide ((m:Int)≤h))=decide ((m:Int)≤n):=by
 by_cases e:(m:Int)≤n
 ·rw[decide_eq_true e]
  exact List.any_eq_true.mpr ⟨n,hm,decide_eq_true e⟩
 ·rw[decide_eq_false e,List.any_eq_false]
  intro h hh
  have:=hmax h hh
  simp
  omega
theorem neg_snoc {ps:List Int} {i:Nat} {k:Int} (h:ps[i]?=some k):(ps.take (i+1)).map (λp=>-p)=(ps.take i).map (λp=>-p)++[-k]:=by
 rw[zan h,mAq]
 rfl
theorem zd9 {Rs:List (List Int)} {h:Int} (h0:0≤h) (h1:h < (Rs.length:Int)):Rs[h.toNat]?=some (zaz Rs h):=by
 unfold zaz
 rw[List.getD_eq_getElem?_getD,gG (by omega)]
 rfl
theorem zel {K:W.Frag} {H:Hp} {Rs:List (List Int)} {xs:List V} {h:Int} (hL:aj K H (Rs.map zfB) xs) (h0:0≤h) (h1:h < (Rs.length:Int)):∃ q,atI xs h=some (.ref q)∧SqT K H q ((zaz Rs h).map V.int):=by
 obtain⟨q,e1,e2⟩:=zls hL (zd9 h0 h1)
 have e:h=((h.toNat:Nat):Int):=by omega
 refine⟨q,?_,e2⟩
 rw[e]
 exact aF e1
theorem zkH {K:W.Frag} {H:Hp} {ys:List V} {ps:List Int} (hy:ys.length=ps.length) (h:∀(i:Nat) (y:V) (p:Int),ys[i]?=some y→ps[i]?=some p→∃ a,y=.ref a∧SqT K H a [.int p,.bl true]) :
  ∀(i:Nat) y kv,ys[i]?=some y→(tkv ps)[i]?=some kv→∃ a,y=.ref a∧SqT K H a [kV kv.1,kv.2]:=λi y kv e1 e2=>by
 unfold tkv at e2
 rw[List.getElem?_map]at e2
 cases q:ps[i]? with
 | none=>rw[q]at e2;cases e2
 | some p =>
  rw[q]at e2
  cases e2
  exact h i y p e1 q
def dPT (p:Int):Dt:=.tup [.int p,.bl true]
theorem ziG:∀ ps:List Int,zbj (ps.map dPT)=true
 | []=>by simp [zbj]
 | t :: ts=>by simp only[List.map_cons,zbj,dPT,nol,Bool.true_and];exact ziG ts
theorem zmC {K:W.Frag} {H:Hp} {p:Int} {v:V} (h:Has K H (dPT p) v):∃ a,v=.ref a∧SqT K H a [.int p,.bl true]:=by
 unfold dPT at h
 simp only[Has,aj]at h
 obtain⟨a,xs,rfl,hs,v1,r,rfl,rfl,v2,r2,rfl,rfl,rfl⟩:=h
 exact⟨a,rfl,hs⟩
theorem of_dPT {K:W.Frag} {H:Hp} {p:Int} {a:Addr} (h:SqT K H a [.int p,.bl true]):Has K H (dPT p) (.ref a):=Has.tup' h (.cons .int (.cons (by simp only[Has]) .nil))
theorem zlv {K:W.Frag} {H:Hp} {ps:List Int} {ys:List V} (h:aj K H (ps.map dPT) ys):ys.length=(tkv ps).length∧∀(i:Nat) y kv,ys[i]?=some y→(tkv ps)[i]?=some kv→∃ a,y=.ref a∧SqT K H a [kV kv.1,kv.2]:=by
 have hl:ys.length=ps.length:=by rw[←h.length,lM]
 refine⟨by rw[hl];simp [tkv],zkH hl λi y p e1 e2=>?_⟩
 obtain⟨d,e3,e4⟩:=h.get e1
 rw[List.getElem?_map,e2]at e3
 cases e3
 exact zmC e4
theorem zlY (Rs:List (List Int)) (held t:List Int) (h z:Int):goL Rs held (h :: (t++[z]))=(match nf (zaz Rs h) held with
  | [x]=>if x∈held then false else goL Rs (held++[x]) (t++[z])
  | _=>false):=by
 cases t with
 | nil=>rfl
 | cons a r=>rfl
theorem zmH (ini:List V) (z:V):aQ (ini++[z]) none (some (-1))=ini:=by
 unfold aQ
 have e:HT.sIx (ini++[z]).length (ini++[z]).length (some (-1))=ini.length:=by
  show(if(-1:Int) < 0 then((-1:Int)+((ini++[z]).length:Int)).toNat else min (-1:Int).toNat (ini++[z]).length)=ini.length
  rw[if_pos (by decide),lAq]
  simp only[lS]
  omega
 rw[e,HT.sIx_none,List.drop_zero,Nat.sub_zero,List.take_left]
theorem zea {n:Nat} {hs:List Int} (h:zci n hs=false):∀ x∈hs,0≤x∧x < (n:Int):=λx hx=>by
 unfold zci at h
 rw[Bool.or_eq_false_iff,Bool.or_eq_false_iff]at h
 obtain⟨⟨_,h2⟩,h3⟩:=h
 have a:=List.any_eq_false.mp h2 x hx
 have b:=List.any_eq_false.mp h3 x hx
 simp at a b
 omega
theorem ok_is_learnt {P:Program} {w:World} {K:W.Frag} {mg:Str→Option Value} {base:Heap} {f fN:Addr} {fd dN:FuncData} (F:Fun K "is_learnt" "is_learnt" s_is_learnt f fd) (T:Txt K mg) (BN:FB P w K mg base CX0 2 "not_failing" fN dN ["row","held"] (zdD K)):aI P w K mg base CX0 3 f fd ["rows","parts","hints"] (sp_is_learnt K):=by
 refine F.ok zdp (λvs H Q E h=>?_) (λcdv A outer s H vs Q E hr h=>?_)
 ·obtain⟨rl,pt,ht,xs,Rs,ps,hs,rfl,_⟩:=h
  rfl
 obtain⟨rl,pt,ht,xs,Rs,ps,hs,rfl,hS,hL,hP,hH,lr,lp,lh,h⟩:=h
 have hu:=zfd hr
 have hlen:xs.length=Rs.length:=by rw[←hL.length,lM]
 refine⟨_,(af (aL (PW.pt (zbd (au zaf (ao ar rfl T.len PySem.boot_len (aa (pv 2) ac)) ad) (zbd (au zbR (ao (zh1 rfl) rfl T.min PyProof.Rows.Boot.min (aa (pv 2) ac)) ad) (zbn (au zd1 (ao (zh2 rfl) rfl T.max PyProof.Rows.Boot.max (aa (pv 2) ac)) (ao ar rfl T.len PySem.boot_len (aa (pv 0) ac)))))))
   (ah (ay zam))
   aA)
  (af (aE (i:=3) zdp.nd rfl (Or.inl rfl) (zar (zi0 rfl) rfl T.dict PyProof.Rows.Boot.dict (aa (zbQ (N':=["part"]) (ix:=[]) rfl rfl (by decide +kernel) (by decide +kernel) rfl (λ_=>⟨[],za3 (by decide +kernel) (by decide +kernel)⟩) (by decide +kernel) rfl rfl (λj i h=>by simp at h) (zaU (pv 1)) (λ_ _ _ _=>(aS (aa (zbk za1 (pv 0)) (aa zam ac))))) ac)))
  (af (zah PassesOwn.never rfl (zaU (zaj zeU (pv 2) zat (zas (zbk za1 ad)))) (zac (i:=4) zdp.nd rfl (Or.inl rfl))
   (af (aE (i:=5) zdp.nd rfl (Or.inl rfl) (aB BN.ok hr rfl BN.m BN.kp BN.b .nil aR (aa (ap zab (pv 0) (pv 4)) (aa (pv 3) ac))))
    (af (aL (PW.pt (zbd (au zcN (ao ar rfl T.len PySem.boot_len (aa (pv 5) ac)) ad) (zbn (zhb (zit hu (ap az (pv 5) ad) (pv 3))))))
     (ah (ay zam))
     aA)
    (ah (ze0 hu (pv 3) (ap az (pv 5) ad) zam rfl)))))
  (ah (ay (zaI zaf (ao ar rfl T.len PySem.boot_len (aa (aB BN.ok hr rfl BN.m BN.kp BN.b .nil aR (aa (ap zab (pv 0) (ap az (pv 2) (zbk za1 ad))) (aa (pv 3) ac))) ac)) ad)))))),?_⟩
 try dsimp only [Cx.nox,Cx.wish,aV]
 have bad:zci Rs.length hs=true→Q (.bl false) H:=λe=>by
  have q:=h H (ai.refl H)
  unfold zdC at q
  rw[if_pos e]at q
  exact q
 refine⟨_,rfl,ht,_,rfl,.inr hH,rfl,_,rfl,aJ (λc1=>zao ?_) (λc1=>?_)⟩
 ·refine bad ?_
  have e:=of_decide_eq_true c1
  injection e with e
  rw[lM]at e
  have e2:hs=[]:=List.length_eq_zero_iff.mp (by omega)
  rw[e2]
  rfl
 have hne:hs≠[]:=λz=>c1 (by rw[z];rfl)
 refine⟨_,rfl,ht,hs,rfl,.inr hH,hne,λm hm hmin=>⟨_,_,rfl,rfl,_,rfl,aJ (λc2=>zao ?_) (λc2=>?_)⟩⟩
 ·refine bad ?_
  unfold zci
  rw[zkw hm hmin,c2,Bool.or_true,Bool.true_or]
 refine⟨_,rfl,ht,hs,rfl,.inr hH,hne,λmx hm2 hmax=>⟨_,rfl,rl,xs,rfl,.inl hS,_,_,rfl,rfl,_,rfl,aJ (λc3=>?_) (λc3=>?_)⟩⟩
 ·refine bad ?_
  unfold zci
  rw[hlen]at c3
  rw[zkx hm2 hmax,c3,Bool.or_true]
 have good:zci Rs.length hs=false:=by
  unfold zci
  rw[hlen]at c3
  rw[zkw hm hmin,zkx hm2 hmax,Bool.eq_false_iff.mpr c2,Bool.eq_false_iff.mpr c3]
  cases hs with
  | nil=>exact absurd rfl hne
  | cons _ _=>rfl
 have rng:=zea good
 have hres:∀ H',ai H H'→Q (.bl (goL Rs (ps.map λp=>-p) hs)) H':=λH' s1=>by
  have q:=h H' s1
  unfold zdC at q
  rw[if_neg (by rw[good];decide)]at q
  exact q
 obtain⟨ini,z,rfl⟩:∃ ini z,hs=ini++[z]:=⟨hs.dropLast,hs.getLast hne,(List.dropLast_concat_getLast hne).symm⟩
 refine⟨_,rfl,pt,rfl,⟨_,hP⟩,λD hD=>zbu zbl (λi ys H'=>ai H H'∧aj K H' (((ps.take i).map λp=>-p).map dPT) ys) (λi ys H' ⟨s1,_⟩=>s1.tup hP) ⟨ag hD _,.nil⟩ ?_ ?_⟩
 ·rintro i ys H' x H'' hi hly hDs ⟨s1,hy⟩ ⟨rfl,hx⟩
  obtain⟨k,hk',rfl⟩:=zaH (hx _ (s1.tup hP))
  refine⟨_,rfl,_,rfl,lS2,λa ha=>?_⟩
  have s2:ai H'' (upd H'' a (.tup [.int (-k),.bl true])):=ag ha _
  have hD2:=s2 _ _ hDs
  refine zaA (by rw[lM];exact bsz _ (by omega)) hi hly hD2 ⟨(s1.trans s2).upd hD,?_⟩
  rw[neg_snoc hk',mAq]
  exact aj.append (aj.keep (s2.kt.trans (zaw.lst hD2)) (ziG _) hy) (aj.one (of_dPT ((zaw.lst hD2).sq (SqT.of ae))))
 rintro ys H1 hDs ⟨s1,hy⟩
 rw[lM,tO (nRq _)]at hy
 obtain⟨pl,pp⟩:=zlv hy
 refine⟨D,ys,tkv (ps.map λp=>-p),rfl,SqL.of hDs,pl,pp,λd hd=>?_⟩
 have hd0:H d=none:=s1.free hd
 have s2:ai H (upd H1 d (.dK (zbg [] (tkv (ps.map λp=>-p))))):=s1.upd hd0
 have ds2:zcs (upd H1 d (.dK (zbg [] (tkv (ps.map λp=>-p))))) d (ps.map λp=>-p):=zcs.of
 generalize upd H1 d (.dK (zbg [] (tkv (ps.map λp=>-p))))=H2 at s2 ds2
 have whole:¬(HT.sIx ((ini++[z]).map V.int).length 0 none=0∧HT.sIx ((ini++[z]).map V.int).length ((ini++[z]).map V.int).length (some (-1))=((ini++[z]).map V.int).length):=λq=>by
  have q2:=q.2
  have q3:(if(-1:Int) < 0 then((-1:Int)+(((ini++[z]).map V.int).length:Int)).toNat else min (-1:Int).toNat ((ini++[z]).map V.int).length)=((ini++[z]).map V.int).length:=q2
  rw[if_pos (by decide),lM,lAq]at q3
  simp only[lS]at q3
  omega
 have ecut:aQ ((ini++[z]).map V.int) none (some (-1))=ini.map V.int:=by
  rw[mAq]
  exact zmH (ini.map V.int) (.int z)
 refine⟨_,rfl,_,rfl,_,rfl,ht,_,rfl,s2.tup hH,whole,λq hq=>?_⟩
 rw[ecut]
 have s3:ai H2 (upd H2 q (.tup (ini.map V.int))):=ag hq _
 have ndq:d≠q:=by
  obtain⟨kvs,hk,_⟩:=ds2.ex
  exact zaa hk hq
 refine⟨q,rfl,⟨_,SqT.of ae⟩,zcn (xs:=ini.map V.int) (λi σ H'=>∃(held:List Int) (v4 v5:Option V),σ=[some (.ref rl),some (.ref pt),some (.ref ht),some (.ref d),v4,v5]∧ai H H'∧H' q=some (.tup (ini.map V.int))∧zcs H' d held∧held.length≤ps.length+i∧goL Rs held (ini.drop i++[z])=goL Rs (ps.map λp=>-p) (ini++[z]))
  ⟨_,none,none,rfl,s2.trans s3,ae,ds2.same s3,by rw[lM];exact nRq _,rfl⟩ (λi σ H' _ ⟨_,_,_,_,_,hq',_⟩=>SqT.of hq') ?_ ?_⟩
 ·rintro i x σ H' hx ⟨held,v4,v5,rfl,s4,hq4,ds4,hl4,e4⟩
  obtain⟨k,hk,rfl⟩:=zaH hx
  have lh':=lh
  rw[lAq]at lh'
  have hi:i < ini.length:=(gEq hk).1
  obtain⟨k0,k1⟩:=rng k (List.mem_append_left _ (mOq hk))
  obtain⟨r,hr1,hr2⟩:=zel hL k0 k1
  have rl100:(zaz Rs k).length≤1000:=Nat.le_trans (lr _ (mOq (zd9 k0 k1))) (by decide)
  have ed:ini.drop i=k :: ini.drop (i+1):=by
   rw[List.drop_eq_getElem_cons hi]
   congr 1
   rw[gG hi]at hk
   exact Option.some.inj hk
  rw[ed,List.cons_append,zlY]at e4
  refine⟨_,rfl,_,rfl,rl,_,_,_,rfl,rfl,s4.seq hS,hr1,_,rfl,r,d,zaz Rs k,held,rfl,s4.tup hr2,ds4,rl100,λH5 l s5 hl hl5=>?_⟩
  have ds5:=ds4.same s5
  obtain⟨kvs,hk5,hv5,hn5⟩:=id ds5.ex
  have s45:=s4.trans s5
  generalize nf (zaz Rs k) held=N at hl5 e4
  match N,hl5,e4 with
  | [],hl5,e4 =>
   refine⟨_,rfl,l,_,rfl,.inr (SqT.of hl5),rfl,_,rfl,zao (zao ?_)⟩
   have:=hres H5 s45
   rw[←e4]at this
   exact this
  | a :: b :: t,hl5,e4 =>
   refine⟨_,rfl,l,_,rfl,.inr (SqT.of hl5),rfl,_,rfl,?_⟩
   have ne:¬(V.int (((a :: b :: t).map V.int).length:Nat)=V.int 1):=λq=>by
    injection q with q
    rw[lM]at q
    simp only[List.length_cons]at q
    omega
   rw[decide_eq_false ne]
   refine zao (zao ?_)
   have:=hres H5 s45
   rw[←e4]at this
   exact this
  | [a],hl5,e4 =>
   refine⟨_,rfl,l,_,rfl,.inr (SqT.of hl5),rfl,_,rfl,iteNS rfl ?_⟩
   refine⟨_,rfl,l,_,_,_,rfl,rfl,SqT.of hl5,rfl,_,rfl,d,_,rfl,zc0.k (k:=Sum.inl a) hk5,_,rfl,?_⟩
   rw[hv5]
   by_cases ea:a∈held
   ·rw[decide_eq_true ea]
    refine zao ?_
    have:=hres H5 s45
    rw[←e4]at this
    simp only[if_pos ea]at this
    exact this
   ·rw[decide_eq_false ea]
    refine aY ?_
    simp only[if_neg ea]at e4
    refine⟨_,rfl,_,rfl,l,_,_,_,rfl,rfl,SqT.of hl5,rfl,d,_,rfl,zeN.k (k:=Sum.inl a) hk5 (zaC (by omega)),?_⟩
    refine⟨held++[a],_,_,rfl,s45.upd hd0,?_,zcs.put hv5 hn5,?_,e4⟩
    ·rw[aD ndq.symm]
     exact s5 _ _ hq4
    ·rw[lAq]
     simp only[lS]
     omega
 ·rintro σ H' ⟨held,v4,v5,rfl,s4,hq4,ds4,hl4,e4⟩
  rw[lM,List.drop_length,List.nil_append]at e4
  obtain⟨k0,k1⟩:=rng z (List.mem_append_right _ List.mem_cons_self)
  obtain⟨r,hr1,hr2⟩:=zel hL k0 k1
  have rl100:(zaz Rs z).length≤1000:=Nat.le_trans (lr _ (mOq (zd9 k0 k1))) (by decide)
  have hz:atI ((ini++[z]).map V.int) (-1)=some (.int z):=by
   rw[mAq]
   exact ziU _ _
  refine⟨_,rfl,_,rfl,_,rfl,ht,_,_,_,rfl,rfl,s4.tup hH,hz,rl,_,_,_,rfl,rfl,s4.seq hS,hr1,_,rfl,r,d,zaz Rs z,held,rfl,s4.tup hr2,ds4,rl100,λH5 l s5 hl hl5=>⟨l,_,rfl,.inr (SqT.of hl5),rfl,?_⟩⟩
  have q:=hres H5 (s4.trans s5)
  rw[←e4]at q
  have eq2:decide (V.int (((nf (zaz Rs z) held).map V.int).length:Nat)=V.int 0)=goL Rs held [z]:=by
   show _=(nf (zaz Rs z) held).isEmpty
   cases nf (zaz Rs z) held with
   | nil=>rfl
   | cons a t =>
    refine decide_eq_false λq=>?_
    injection q with q
    rw[lM]at q
    simp only[List.length_cons]at q
    omega
  rw[←eq2]at q
  exact q
end Ls36
namespace K36
open PySem L2
variable {P:Program} {w:World} {K:W.Frag} {mg:Str→Option Value} {base:Heap} {aK C CN CT CP CM CG f fN fA fB fL fE fM fR fC fI fQ fS:Addr} {fd dN dA' dB dL' dE dM dR' dC dI dQ dS:FuncData}
structure TxP (K:W.Frag) (mg:Str→Option Value):Prop where
 int:mg "int"=none
 str:mg "str"=none
 list:mg "list"=none
 enum:mg "enumerate"=none
 ib:W.kitOne K (.type "int") (.type "bool")=some false
def ab (k:Int):Int:=if k < 0 then -k else k
def zeV (m:Nat):List Int→List Int→Bool
 | _,[]=>true
 | seen,k :: r=>if k=0∨(m:Int) < ab k∨ab k∈seen then false else zeV m (seen++[ab k]) r
def zc3 (m:Nat) (ps:List Int):Bool:=zeV m [] ps
theorem zhZ {α:Type} {xs:List α} {i:Nat} {x:α} (h:xs[i]?=some x):xs.drop i=x :: xs.drop (i+1):=by
 obtain⟨hi,e⟩:=gEq h
 rw[List.drop_eq_getElem_cons hi,e]
inductive zfC:Sp|m{vs H Q E9} (n:Int):vs=[.int n]→Q (.bl true) H→zfC vs H Q E9
theorem zgc:aO ["thing"] ["thing"] (aw zdJ):=fsc
theorem ok_num (F:Fun K "is_number" "is_number" zdJ f fd) (T:Txt K mg aK C CN CT CP CM) (TP:TxP K mg):aI P w K mg base CX0 1 f fd ["thing"] zfC:=by
 refine F.ok zgc (λvs H Q E h=>?_) (λcdv A outer s H vs Q E hr h=>?_)
 ·obtain⟨n,rfl,_⟩:=h
  rfl
 obtain⟨n,rfl,q⟩:=h
 refine⟨_,(ah (ay (zbf (ao zb5 rfl T.isi PyProof.Rows.Boot.isinstance (aa (pv 0) (aa (za7 (v:=.ty "int") rfl TP.int PyProof.Rows.Boot.int rfl) ac))) (zbe (zkg (ao zb5 rfl T.isi PyProof.Rows.Boot.isinstance (aa (pv 0) (aa (za7 (v:=.ty "bool") rfl T.bool PyProof.Rows.Boot.bool rfl) ac)))))))),?_⟩
 try dsimp only [Cx.nox,Cx.wish,aV]
 exact⟨_,rfl,_,.type "int","int",true,rfl,zb7.int _,zbp K "int",_,rfl,zao ⟨_,rfl,_,.type "int","bool",false,rfl,zb7.int _,TP.ib,_,rfl,q⟩⟩
inductive zfg (K:W.Frag) (C:Addr):Sp|m{vs H Q E9} (p tl al rl q:Addr) (T:List Tm) (As:List At) (Rs:List (List Int)) (ps:List Int):vs=[.ref p,.ref q]→zaY K C H p tl al rl T As Rs→SqT K H q (ps.map V.int)→ps.length≤1000→(∀ H',ai H H'→Q (.bl (zc3 As.length ps)) H')→zfg K C vs H Q E9
theorem zcc:aO ["problem","parts","atoms","part"] ["problem","parts"] (aw zc6):=fsc
theorem zlH (F:Fun K "are_parts" "are_parts" zc6 f fd) (T:Txt K mg aK C CN CT CP CM) (BN:FB P w K mg base CX0 1 "is_number" fN dN ["thing"] zfC):aI P w K mg base CX0 2 f fd ["problem","parts"] (zfg K C):=by
 refine F.ok zcc (λvs H Q E h=>?_) (λcdv A outer s H vs Q E hr h=>?_)
 ·obtain⟨p,tl,al,rl,q,T',As,Rs,ps,rfl,_⟩:=h
  rfl
 obtain⟨p,tl,al,rl,q,T',As,Rs,ps,rfl,S,hq,p1000,Q0⟩:=h
 have hu:=zfd hr
 refine⟨_,(af (aL (zbo (zaS (ao zbi rfl T.isi PyProof.Rows.Boot.isinstance (aa (pv 1) (aa (za7 (v:=.ty "tuple") rfl T.tuple PyProof.Rows.Boot.tuple rfl) ac)))))
   (ah (ay zam))
   aA)
  (af (aE (i:=2) zcc.nd rfl (Or.inl rfl) zfp)
  (af (zah PassesOwn.never rfl (zaU (pv 1)) (zac (i:=3) zcc.nd rfl (Or.inl rfl))
   (af (aL (PW.pt (zbd (zbo (zaS (aB BN.ok hr rfl BN.m BN.kp BN.b .nil aR (aa (pv 3) ac)))) (zbd (au zaf (pv 3) ad) (zbd (au zcf (ao zb4 rfl T.abs PyProof.Rows.Boot.abs (aa (pv 3) ac)) (ao ar rfl T.len PySem.boot_len (aa (zae (pv 0) rfl) ac))) (zbn (zhb (zit hu (ao zb4 rfl T.abs PyProof.Rows.Boot.abs (aa (pv 3) ac)) (pv 2))))))))
     (ah (ay zam))
     aA)
    (ah (ze0 hu (pv 2) (ao zb4 rfl T.abs PyProof.Rows.Boot.abs (aa (pv 3) ac)) zam rfl))))
  (ah (ay zam))))),?_⟩
 try dsimp only [Cx.nox,Cx.wish,aV]
 obtain⟨⟨dx,ho⟩,_,⟨ys,ha,hA⟩,_⟩:=id S
 have yl:ys.length=As.length:=by rw[←hA.length,lM]
 refine⟨_,rfl,q,_,"tuple",true,rfl,hq,zbp K "tuple",_,rfl,aY ?_⟩
 refine λd hd=>?_
 have s1:=ag hd (.dK [])
 have d1:zcs (upd H d (.dK [])) d []:=⟨[],ae,λn=>rfl,nRq _⟩
 generalize upd H d (.dK [])=H1 at s1 d1
 refine⟨_,rfl,q,rfl,⟨_,s1.tup hq⟩,zcn (xs:=ps.map V.int) (λi σ H'=>∃(v3:Option V) (seen:List Int),σ=[some (.ref p),some (.ref q),some (.ref d),v3]∧ai H H'∧zcs H' d seen∧seen.length≤i∧zeV As.length seen (ps.drop i)=zc3 As.length ps) ⟨none,[],rfl,s1,d1,nRq _,rfl⟩ (λi σ H' _ ⟨_,_,_,s2,_⟩=>s2.tup hq) ?_ ?_⟩
 ·rintro i x σ H2 hx ⟨v3,seen,rfl,s2,d2,sl,e2⟩
  obtain⟨k,hk,rfl⟩:=zaH hx
  have ib:=(gEq hk).1
  rw[zhZ hk]at e2
  have no:(k=0∨(As.length:Int) < ab k∨ab k∈seen)→Q (.bl false) H2:=λc=>by
   have:=Q0 H2 s2
   rw[←e2,zeV,if_pos c]at this
   exact this
  obtain⟨kvs,hk5,hv5,hn5⟩:=id d2.ex
  refine⟨_,rfl,k,rfl,_,rfl,aY ⟨_,rfl,rfl,_,rfl,aJ (λc=>zao (no (.inl ?_))) (λc=>?_)⟩⟩
  ·have:=of_decide_eq_true c
   injection this
  refine⟨_,rfl,k,rfl,_,rfl,p,C,dx,_,_,rfl,s2 _ _ ho,T.cl,T.nA,zai _ _ _,al,_,rfl,.inl (SqL.of (s2 _ _ ha)),_,_,rfl,rfl,_,rfl,aJ (λc2=>zao (no (.inr (.inl ?_)))) (λc2=>?_)⟩
  ·have:=of_decide_eq_true c2
   rw[yl]at this
   exact this
  refine⟨_,rfl,k,rfl,_,rfl,d,_,rfl,zc0.k (k:=Sum.inl (ab k)) hk5,_,rfl,?_⟩
  rw[hv5]
  refine aJ (λc3=>no (.inr (.inr (of_decide_eq_true c3)))) (λc3=>?_)
  refine⟨_,rfl,_,rfl,k,rfl,d,_,rfl,zeN.k (k:=Sum.inl (ab k)) hk5 (zaC (by omega)),?_⟩
  refine⟨_,seen++[ab k],rfl,s2.upd hd,zcs.put hv5 hn5,by rw[lAq,lS];omega,?_⟩
  rw[←e2]
  show _=if _ then _ else _
  rw[if_neg]
  rintro (z | z | z)
  ·exact c (decide_eq_true (by rw[z]))
  ·exact c2 (decide_eq_true (by rw[yl];exact z))
  ·exact c3 (decide_eq_true z)
 ·rintro σ H2 ⟨v3,seen,rfl,s2,d2,sl,e2⟩
  rw[lM,List.drop_length]at e2
  have:=Q0 H2 s2
  rw[←e2]at this
  exact this
inductive zdo (K:W.Frag):Sp|m{vs H Q E9} (q:Addr) (hs:List Int):vs=[.ref q]→SqT K H q (hs.map V.int)→hs.length≤1000→(∀ H',ai H H'→Q (.bl (hs.all λh=>decide (0≤h))) H')→zdo K vs H Q E9
theorem ze5:aO ["things"] ["things"] (aw zck):=fsc
theorem ziW {α:Type} (g:α→Bool) (xs:List α):(xs.map g).all id=xs.all g:=by rw[List.all_map];rfl
theorem zjV (F:Fun K "are_numbers" "are_numbers" zck f fd) (T:Txt K mg aK C CN CT CP CM) (BN:FB P w K mg base CX0 1 "is_number" fN dN ["thing"] zfC):aI P w K mg base CX0 2 f fd ["things"] (zdo K):=by
 refine F.ok ze5 (λvs H Q E h=>?_) (λcdv A outer s H vs Q E hr h=>?_)
 ·obtain⟨q,hs,rfl,_⟩:=h
  rfl
 obtain⟨q,hs,rfl,hq,h1000,Q0⟩:=h
 refine⟨_,(ah (ay (zbf (ao zbi rfl T.isi PyProof.Rows.Boot.isinstance (aa (pv 0) (aa (za7 (v:=.ty "tuple") rfl T.tuple PyProof.Rows.Boot.tuple rfl) ac))) (zbe (ao (zbJ rfl) rfl T.all PyProof.Rows.Boot.all (aa (zbQ (N':=["thing"]) (ix:=[]) rfl rfl (by decide +kernel) (by decide +kernel) rfl (λ_=>⟨[],za3 (by decide +kernel) (by decide +kernel)⟩) (by decide +kernel) rfl rfl (λj i h=>by simp at h) (zaU (pv 0)) (λ_ _ _ _=>(zbf (aB BN.ok hr rfl BN.m BN.kp BN.b .nil aR (aa (pv 0) ac)) (zbe (zaI zd1 (pv 0) ad))))) ac)))))),?_⟩
 try dsimp only [Cx.nox,Cx.wish,aV]
 refine⟨_,rfl,q,_,"tuple",true,rfl,hq,zbp K "tuple",_,rfl,zao ⟨_,rfl,q,rfl,⟨_,hq⟩,λD hD=>zbu zbl (λi us H'=>ai H H'∧us=((hs.take i).map λh=>decide (0≤h)).map V.bl) (λi us H' ⟨s4,_⟩=>s4.tup hq) ⟨ag hD _,rfl⟩ ?_ ?_⟩⟩
 ·rintro i us H8 z H4 hi hly hDs ⟨s4,rfl⟩ ⟨rfl,hx⟩
  obtain⟨k,hk,rfl⟩:=zaH (hx _ (s4.tup hq))
  refine⟨_,rfl,k,rfl,_,rfl,zao ⟨_,rfl,_,_,rfl,rfl,zaA (sz _ (by rw[lM];exact h1000)) hi hly hDs ⟨s4.upd hD,?_⟩⟩⟩
  rw[zan hk,mAq,mAq]
  rfl
 rintro us H4 hDs ⟨s4,rfl⟩
 rw[lM,tO (nRq _)]at hDs
 refine⟨D,_,rfl,SqL.of hDs,?_⟩
 rw[ziW]
 exact Q0 H4 s4
inductive zeC (K:W.Frag):Sp|m{vs H Q E9} (q:Addr) (xs:List V) (ls:List Lk):vs=[.ref q]→SqT K H q xs→aj K H (ls.map dL) xs→ls.length≤1000→(∀ l∈ls,0≤l.1∧0≤l.2.1∧0≤l.2.2)→(∀ H',ai H H'→Q (.bl true) H')→zeC K vs H Q E9
theorem zgd:aO ["things"] ["things"] (aw zc7):=fsc
theorem ziP {H:Hp} {ls:List Lk} {xs:List V} {i:Nat} {x:V} (h:aj K H (ls.map dL) xs) (e:xs[i]?=some x):∃ l q,ls[i]?=some l∧x=.ref q∧SqT K H q [.int l.1,.int l.2.1,.int l.2.2]:=by
 obtain⟨d,e1,e2⟩:=h.get e
 rw[List.getElem?_map]at e1
 obtain⟨l,e3,rfl⟩:=Option.map_eq_some_iff.mp e1
 simp only[dL,Has,aj]at e2
 obtain⟨p,ys,rfl,hp,v1,r1,rfl,rfl,v2,r2,rfl,rfl,v3,r3,rfl,rfl,rfl⟩:=e2
 exact⟨l,p,e3,rfl,hp⟩
theorem zlJ (F:Fun K "are_links" "are_links" zc7 f fd) (T:Txt K mg aK C CN CT CP CM) (BA:FB P w K mg base CX0 2 "are_numbers" fA dA' ["things"] (zdo K)):aI P w K mg base CX0 3 f fd ["things"] (zeC K):=by
 refine F.ok zgd (λvs H Q E h=>?_) (λcdv A outer s H vs Q E hr h=>?_)
 ·obtain⟨q,xs,ls,rfl,_⟩:=h
  rfl
 obtain⟨q,xs,ls,rfl,hq,hL,l1000,l0,Q0⟩:=h
 refine⟨_,(ah (ay (zbf (ao zbi rfl T.isi PyProof.Rows.Boot.isinstance (aa (pv 0) (aa (za7 (v:=.ty "tuple") rfl T.tuple PyProof.Rows.Boot.tuple rfl) ac))) (zbe (ao (zbJ rfl) rfl T.all PyProof.Rows.Boot.all (aa (zbQ (N':=["thing"]) (ix:=[]) rfl rfl (by decide +kernel) (by decide +kernel) rfl (λ_=>⟨[],za3 (by decide +kernel) (by decide +kernel)⟩) (by decide +kernel) rfl rfl (λj i h=>by simp at h) (zaU (pv 0)) (λ_ _ _ _=>(zbf (aB BA.ok hr rfl BA.m BA.kp BA.b .nil aR (aa (pv 0) ac)) (zbe (zaI zaf (ao (r:=zib K) ar rfl T.len PySem.boot_len (aa (pv 0) ac)) ad))))) ac)))))),?_⟩
 try dsimp only [Cx.nox,Cx.wish,aV]
 have xl:xs.length=ls.length:=by rw[←hL.length,lM]
 refine⟨_,rfl,q,_,"tuple",true,rfl,hq,zbp K "tuple",_,rfl,zao ⟨_,rfl,q,rfl,⟨_,hq⟩,λD hD=>zbu zbl (λi us H'=>ai H H'∧us=(List.replicate i true).map V.bl) (λi us H' ⟨s4,_⟩=>s4.tup hq) ⟨ag hD _,rfl⟩ ?_ ?_⟩⟩
 ·rintro i us H8 z H4 hi hly hDs ⟨s4,rfl⟩ ⟨rfl,hx⟩
  obtain⟨lk,lq,hk,rfl,hlq⟩:=ziP hL (hx _ (s4.tup hq))
  obtain⟨p0,p1,p2⟩:=l0 lk (mOq hk)
  refine⟨_,rfl,lq,[lk.1,lk.2.1,lk.2.2],rfl,s4.tup hlq,(by show 3≤1000;decide),λH5 s5=>?_⟩
  have ea:([lk.1,lk.2.1,lk.2.2].all λh=>decide (0≤h))=true:=by simp [p0,p1,p2]
  rw[ea]
  refine⟨_,rfl,zao ⟨_,rfl,lq,_,rfl,.inr ((s4.trans s5).tup hlq),rfl,zaA (sz _ (by omega)) hi hly (s5 _ _ hDs) ⟨(s4.trans s5).upd hD,?_⟩⟩⟩
  rw[List.replicate_succ',mAq]
  rfl
 rintro us H4 hDs ⟨s4,rfl⟩
 refine⟨D,_,rfl,SqL.of hDs,?_⟩
 rw[show(List.replicate xs.length true).all id=true from List.all_eq_true.mpr λb hb=>(List.eq_of_mem_replicate hb)]
 exact Q0 H4 s4
inductive Ln where
 | lrn (ps hs:List Int)
 | eql (ps:List Int) (ls:List Lk)
def Ln.ps:Ln→List Int
 | .lrn ps _=>ps
 | .eql ps _=>ps
def dLn:Ln→Dt
 | .lrn ps hs=>.tup [.str "learnt",.tup (ps.map Dt.int),.tup (hs.map Dt.int)]
 | .eql ps ls=>.tup [.str "equal",.tup (ps.map Dt.int),.tup (ls.map dL)]
theorem zcR:∀ l:Ln,nol (dLn l)=true
 | .lrn ps hs=>by simp only[dLn,nol,zbj,zdQ,Bool.and_self]
 | .eql ps ls=>by simp only[dLn,nol,zbj,zdQ,zaJ,Bool.and_self]
theorem zav (rs:List (List Int)):zbj (rs.map dR)=true:=zaK zdL rs
theorem zax (ls:List Ln):zbj (ls.map dLn)=true:=zaK zcR ls
def LnW (n m:Nat):Ln→Prop
 | .lrn ps hs=>ps.length≤100∧hs.length≤100
 | .eql ps ls=>ps.length≤100∧ls.length≤1000∧∀ l∈ls,zb2 n m l
def zca (T:List Tm) (As:List At) (Rs:List (List Int)):Ln→Bool
 | .lrn ps hs=>zc3 As.length ps&&((hs.all λh=>decide (0≤h))&&zdC Rs ps hs)
 | .eql ps ls=>zc3 As.length ps&&eqF mrg ps T As ls id
def zgK (T:List Tm) (As:List At):List (List Int)→List Ln→Bool
 | _,[]=>true
 | Rs,l :: ls=>if zca T As Rs l=true then zgK T As (Rs++[l.ps]) ls else false
def zhi (ls:List Ln):Bool:=match ls.getLast? with
 | some l=>l.ps.isEmpty
 | none=>false
def zc9 (T:List Tm) (As:List At) (Rs:List (List Int)) (ls:List Ln):Bool:=zgK T As Rs ls&&zhi ls
def kdL:Ln→Str
 | .lrn _ _=>"learnt"
 | .eql _ _=>"equal"
def zgn (K:W.Frag) (H:Hp) (hq:Addr):Ln→Prop
 | .lrn _ hs=>SqT K H hq (hs.map V.int)
 | .eql _ ls=>∃ xs,SqT K H hq xs∧aj K H (ls.map dL) xs
theorem zgn.same {H H':Hp} {hq:Addr} {l:Ln} (h:zgn K H hq l) (s:ai H H'):zgn K H' hq l:=by
 cases l with
 | lrn ps hs=>exact s.tup h
 | eql ps ls=>obtain⟨xs,a,b⟩:=h;exact⟨xs,s.tup a,b.keep s.kt (zaJ _)⟩
theorem ziw {H:Hp} {l:Ln} {x:V} (h:Has K H (dLn l) x):∃ q pq hq,x=.ref q∧SqT K H q [.str (kdL l),.ref pq,.ref hq]∧SqT K H pq (l.ps.map V.int)∧zgn K H hq l:=by
 cases l with
 | lrn ps hs =>
  simp only[dLn,Has,aj]at h
  obtain⟨q,ys,rfl,hq,v1,r1,rfl,rfl,v2,r2,rfl,⟨a,as,rfl,ha,hA⟩,v3,r3,rfl,⟨b,bs,rfl,hb,hB⟩,rfl⟩:=h
  rw[zcd hA]at ha
  rw[zcd hB]at hb
  exact⟨q,a,b,rfl,hq,ha,hb⟩
 | eql ps ls =>
  simp only[dLn,Has,aj]at h
  obtain⟨q,ys,rfl,hq,v1,r1,rfl,rfl,v2,r2,rfl,⟨a,as,rfl,ha,hA⟩,v3,r3,rfl,⟨b,bs,rfl,hb,hB⟩,rfl⟩:=h
  rw[zcd hA]at ha
  exact⟨q,a,b,rfl,hq,ha,bs,hb,hB⟩
theorem zcH {H:Hp} {ls:List Ln} {xs:List V} {i:Nat} {x:V} (h:aj K H (ls.map dLn) xs) (e:xs[i]?=some x):∃ l q pq hq,ls[i]?=some l∧x=.ref q∧SqT K H q [.str (kdL l),.ref pq,.ref hq]∧SqT K H pq (l.ps.map V.int)∧zgn K H hq l:=by
 obtain⟨d,e1,e2⟩:=h.get e
 rw[List.getElem?_map]at e1
 obtain⟨l,e3,rfl⟩:=Option.map_eq_some_iff.mp e1
 obtain⟨q,pq,hq,a⟩:=ziw e2
 exact⟨l,q,pq,hq,e3,a⟩
inductive zeB (K:W.Frag) (C:Addr):Sp|m{vs H Q E9} (p tl al rl r q pq hq:Addr) (T:List Tm) (As:List At) (Rs Rs':List (List Int)) (xs:List V) (l:Ln):vs=[.ref p,.ref r,.ref q]→PrD K C H p tl al rl T As Rs→SqL K H r xs→aj K H (Rs'.map dR) xs→(∀ x∈Rs',x.length≤100)→SqT K H q [.str (kdL l),.ref pq,.ref hq]→SqT K H pq (l.ps.map V.int)→zgn K H hq l→LnW T.length As.length l→(∀ H',ai H H'→Q (.bl (zca T As Rs' l)) H')→zeB K C vs H Q E9
theorem zgb:aO ["problem","rows","line"] ["problem","rows","line"] (aw zbC):=fsc
theorem zkN (F:Fun K "is_right" "is_right" zbC f fd) (T:Txt K mg aK C CN CT CP CM) (TP:TxP K mg) (BP:FB P w K mg base CX0 2 "are_parts" fA dA' ["problem","parts"] (zfg K C)) (BN:FB P w K mg base CX0 2 "are_numbers" fN dN ["things"] (zdo K)) (BK:FB P w K mg base CX0 3 "are_links" fB dB ["things"] (zeC K)) (BL:FB P w K mg base CX0 3 "is_learnt" fL dL' ["rows","parts","hints"] (Ls36.sp_is_learnt K)) (BE:FB P w K mg base CX0 5 "is_equal" fE dE ["problem","parts","links"] (zei K C)):aI P w K mg base CX0 6 f fd ["problem","rows","line"] (zeB K C):=by
 refine F.ok zgb (λvs H Q E h=>?_) (λcdv A outer s H vs Q E hr h=>?_)
 ·obtain⟨p,tl,al,rl,r,q,pq,hq,T',As,Rs,Rs',xs,l,rfl,_⟩:=h
  rfl
 obtain⟨p,tl,al,rl,r,q,pq,hq,T',As,Rs,Rs',xs,l,rfl,S,hR,hL,r100,hq',hp,hh,lw,Q0⟩:=h
 have hr2:zaq 2 _:=hr.mono (by decide)
 have hr3:zaq 3 _:=hr.mono (by decide)
 refine⟨_,(af (aL (PW.pt (zbd (zbo (zaS (ao zbi rfl T.isi PyProof.Rows.Boot.isinstance (aa (pv 2) (aa (za7 (v:=.ty "tuple") rfl T.tuple PyProof.Rows.Boot.tuple rfl) ac))))) (zbn (au zcN (ao ar rfl T.len PySem.boot_len (aa (pv 2) ac)) ad))))
   (ah (ay zam))
   aA)
  (af (aL (PW.pt (zbd (zbo (zaS (ao zb5 rfl T.isi PyProof.Rows.Boot.isinstance (aa (ap az (pv 2) ad) (aa (za7 (v:=.ty "str") rfl TP.str PyProof.Rows.Boot.str rfl) ac))))) (zbn (zbo (zaS (aB BP.ok hr2 rfl BP.m BP.kp BP.b .nil aR (aa (pv 0) (aa (ap az (pv 2) ad) ac))))))))
   (ah (ay zam))
   aA)
  (af (aL (au zaf (ap az (pv 2) ad) aU)
   (ah (ay (zbf (aB BN.ok hr2 rfl BN.m BN.kp BN.b .nil aR (aa (ap az (pv 2) ad) ac)) (zbe (aB BL.ok hr3 rfl BL.m BL.kp BL.b .nil aR (aa (pv 1) (aa (ap az (pv 2) ad) (aa (ap az (pv 2) ad) ac))))))))
   aA)
  (af (aL (au zaf (ap az (pv 2) ad) aU)
   (ah (ay (zbf (aB BK.ok hr3 rfl BK.m BK.kp BK.b .nil aR (aa (ap az (pv 2) ad) ac)) (zbe (aB BE.ok hr rfl BE.m BE.kp BE.b .nil aR (aa (pv 0) (aa (ap az (pv 2) ad) (aa (ap az (pv 2) ad) ac))))))))
   aA)
  (ah (ay zam)))))),?_⟩
 try dsimp only [Cx.nox,Cx.wish,aV]
 have a0:atI [V.str (kdL l),.ref pq,.ref hq] 0=some (.str (kdL l)):=aF (j:=0) rfl
 have a1:atI [V.str (kdL l),.ref pq,.ref hq] 1=some (.ref pq):=aF (j:=1) rfl
 have a2:atI [V.str (kdL l),.ref pq,.ref hq] 2=some (.ref hq):=aF (j:=2) rfl
 have p100:l.ps.length≤100:=by cases l <;> exact lw.1
 refine⟨_,rfl,q,_,"tuple",true,rfl,hq',zbp K "tuple",_,rfl,aY ⟨_,rfl,q,_,rfl,.inr hq',rfl,_,rfl,aY ?_⟩⟩
 refine⟨_,rfl,q,_,_,_,rfl,rfl,hq',a0,_,.type "str","str",true,rfl,zb7.str _,zbp K "str",_,rfl,aY ⟨_,rfl,_,rfl,q,_,_,_,rfl,rfl,hq',a1,p,tl,al,rl,pq,T',As,Rs,l.ps,rfl,S.pr,hp,by omega,λH1 s1=>⟨_,rfl,?_⟩⟩⟩
 cases e:zc3 As.length l.ps with
 | false =>
  refine zao ?_
  have:=Q0 H1 s1
  cases l with
  | lrn ps hs=>rw[zca,show zc3 As.length ps=false from e,Bool.false_and]at this;exact this
  | eql ps ls=>rw[zca,show zc3 As.length ps=false from e,Bool.false_and]at this;exact this
 | true =>
  refine aY ?_
  cases l with
  | lrn ps hs =>
   have Q1:∀ H',ai H H'→Q (.bl ((hs.all λh=>decide (0≤h))&&zdC Rs' ps hs)) H':=λH' s'=>by
    have:=Q0 H' s'
    rw[zca,show zc3 As.length ps=true from e,Bool.true_and]at this
    exact this
   refine⟨_,rfl,q,_,_,_,rfl,rfl,s1.tup hq',a0,rfl,_,rfl,aJ (λc=>?_) (λc=>absurd (decide_eq_true rfl) c)⟩
   refine⟨_,rfl,q,_,_,_,rfl,rfl,s1.tup hq',a2,hq,hs,rfl,s1.tup hh,by have:=lw.2;omega,λH2 s2=>⟨_,rfl,aJ (λc2=>?_) (λc2=>?_)⟩⟩
   ·have s12:=s1.trans s2
    refine⟨_,rfl,_,rfl,q,_,_,_,rfl,rfl,s12.tup hq',a1,_,rfl,q,_,_,_,rfl,rfl,s12.tup hq',a2,r,pq,hq,xs,Rs',ps,hs,rfl,s12.seq hR,hL.keep s12.kt (zav _),s12.tup hp,s12.tup hh,r100,lw.1,lw.2,λH3 s3=>?_⟩
    have:=Q1 H3 (s12.trans s3)
    rw[c2,Bool.true_and]at this
    exact this
   ·have:=Q1 H2 (s1.trans s2)
    rw[Bool.eq_false_iff.mpr c2,Bool.false_and]at this
    exact this
  | eql ps ls =>
   obtain⟨zs,hz,hZ⟩:=hh
   have Q1:∀ H',ai H H'→Q (.bl (eqF mrg ps T' As ls id)) H':=λH' s'=>by
    have:=Q0 H' s'
    rw[zca,show zc3 As.length ps=true from e,Bool.true_and]at this
    exact this
   refine⟨_,rfl,q,_,_,_,rfl,rfl,s1.tup hq',a0,rfl,_,rfl,aJ (λc=>absurd (of_decide_eq_true c) (show ¬V.str "equal"=V.str "learnt" by decide +kernel)) (λc=>?_)⟩
   refine⟨_,rfl,q,_,_,_,rfl,rfl,s1.tup hq',a0,rfl,_,rfl,aJ (λc=>?_) (λc=>absurd (decide_eq_true rfl) c)⟩
   refine⟨_,rfl,q,_,_,_,rfl,rfl,s1.tup hq',a2,hq,zs,ls,rfl,s1.tup hz,hZ.keep s1.kt (zaJ _),lw.2.1,(λl' h'=>?_),λH2 s2=>⟨_,rfl,zao ?_⟩⟩
   ·have:=lw.2.2 l' h'
    exact⟨this.1.1,this.2.1.1,this.2.2.1⟩
   ·have s12:=s1.trans s2
    exact⟨_,rfl,_,rfl,q,_,_,_,rfl,rfl,s12.tup hq',a1,_,rfl,q,_,_,_,rfl,rfl,s12.tup hq',a2,p,tl,al,rl,pq,hq,T',As,Rs,ps,zs,ls,rfl,S.same s12,s12.tup hp,(by have:=lw.1;omega),s12.tup hz,hZ.keep s12.kt (zaJ _),lw.2.2,lw.2.1,λH3 s3=>Q1 H3 (s12.trans s3)⟩
inductive zfi (K:W.Frag) (C:Addr):Sp|m{vs H Q E9} (p tl al rl q:Addr) (T:List Tm) (As:List At) (Rs:List (List Int)) (xs:List V) (ls:List Ln):vs=[.ref p,.ref q]→PrD K C H p tl al rl T As Rs→SqL K H q xs→aj K H (ls.map dLn) xs→(∀ x∈Rs,x.length≤100)→Rs.length≤500→ls.length≤300→(∀ l∈ls,LnW T.length As.length l)→(zc9 T As Rs ls=true→∀ H',ai H H'→Q .non H')→(zc9 T As Rs ls=false→∀ H' (n:Int),ai H H'→Q (.int n) H')→zfi K C vs H Q E9
theorem zcE:aO ["problem","paper","rows","place","line"] ["problem","paper"] (aw zeZ):=fsc
theorem zlM (F:Fun K "fault" "fault" zeZ f fd) (T:Txt K mg aK C CN CT CP CM) (TP:TxP K mg) (BR:FB P w K mg base CX0 6 "is_right_papers" fE dE ["problem","rows","line"] (zeB K C)):aI P w K mg base CX0 7 f fd ["problem","paper"] (zfi K C):=by
 refine F.ok zcE (λvs H Q E h=>?_) (λcdv A outer s H vs Q E hr h=>?_)
 ·obtain⟨p,tl,al,rl,q,T',As,Rs,xs,ls,rfl,_⟩:=h
  rfl
 obtain⟨p,tl,al,rl,q,T',As,Rs,xs,ls,rfl,S,hq,hL,r100,r500,l300,lw,Q1,Q2⟩:=h
 refine⟨_,(af (aL (zbo (zaS (ao zgg rfl T.isi PyProof.Rows.Boot.isinstance (aa (pv 1) (aa (za7 (v:=.ty "list") rfl TP.list PyProof.Rows.Boot.list rfl) ac)))))
   (ah (ay ad))
   aA)
  (af (aE (i:=2) zcE.nd rfl (Or.inl rfl) (zar zdq rfl TP.list PyProof.Rows.Boot.list (aa (zae (pv 0) rfl) ac)))
  (af (zah PassesOwn.never rfl (zjq rfl TP.enum (aa (pv 1) ac)) (zke rfl (zfn (zac (i:=3) zcE.nd rfl (Or.inl rfl)) (zfn (zac (i:=4) zcE.nd rfl (Or.inl rfl)) zjr)))
   (af (aL (zbo (zaS (aB BR.ok hr rfl BR.m BR.kp BR.b .nil aR (aa (pv 0) (aa (pv 2) (aa (pv 4) ac))))))
     (ah (ay (pv 3)))
     aA)
    (ah (zak (zbt PySem.F.plainAttrs_list PySem.F.slot_list_append PySem.F.type_list_append zaE (pv 2) (aa (ap az (pv 4) ad) ac))))))
  (af (aL (PW.pt (zbd (au zaf (ao ar rfl T.len PySem.boot_len (aa (pv 1) ac)) ad) (zbn (au zcf (ao ar rfl T.len PySem.boot_len (aa (ap az (ap zab (pv 1) (zbk za1 ad)) ad) ac)) ad))))
   (ah (ay (ao ar rfl T.len PySem.boot_len (aa (pv 1) ac))))
   aA)
  (ah (ay zb8)))))),?_⟩
 try dsimp only [Cx.nox,Cx.wish,aV]
 have xl:xs.length=ls.length:=by rw[←hL.length,lM]
 obtain⟨⟨dx,ho⟩,_,_,⟨zs,hz,hZ⟩,_⟩:=id S.pr
 have zl:zs.length=Rs.length:=by rw[←hZ.length,lM]
 refine⟨_,rfl,q,_,"list",true,rfl,hq,zbp K "list",_,rfl,aY ?_⟩
 refine⟨_,rfl,p,C,dx,_,_,rfl,ho,T.cl,T.nR,zb0 _ _ _,rl,zs,rfl,.inl (SqL.of hz),λr hr'=>?_⟩
 have s1:=ag hr' (.lst zs)
 have n1:=ae (H:=H) (a:=r) (o:=.lst zs)
 have hZ1:=hZ.keep s1.kt (zav _)
 generalize upd H r (.lst zs)=H1 at s1 n1 hZ1
 refine⟨_,rfl,q,rfl,⟨_,s1.seq hq⟩,zdm zjf (λi σ H'=>∃(v3 v4:Option V) (us:List V) (Rs':List (List Int)),σ=[some (.ref p),some (.ref q),some (.ref r),v3,v4]∧ai H H'∧H' r=some (.lst us)∧aj K H' (Rs'.map dR) us∧(∀ x∈Rs',x.length≤100)∧Rs'.length=Rs.length+i∧zgK T' As Rs' (ls.drop i)=zgK T' As Rs ls) (λi σ H' ⟨_,_,_,_,_,s2,_⟩=>s2.seq hq) ⟨none,none,zs,Rs,rfl,s1,n1,hZ1,r100,rfl,rfl⟩ ?_ ?_⟩
 ·rintro i σ H2 x H3 hi ⟨v3,v4,us,Rs',rfl,s2,n2,hL2,r2,rl2,e2⟩ ⟨pp,y,rfl,hpp,rfl,hy⟩
  obtain⟨l,lq,pq,hq2,hl,rfl,h1,h2,h3⟩:=zcH hL (hy _ (s2.seq hq))
  have lm:=mOq hl
  have ul:us.length=Rs'.length:=by rw[←hL2.length,lM]
  have s3:=ag (H:=H2) hpp (.tup [.int i,.ref lq])
  refine⟨pp,_,rfl,SqT.of ae,rfl,_,_,rfl,_,_,rfl,rfl,?_⟩
  generalize upd H2 pp (.tup [.int i,.ref lq])=H3 at s3
  have s13:=s2.trans s3
  rw[zhZ hl]at e2
  refine⟨_,rfl,_,rfl,_,rfl,p,tl,al,rl,r,lq,pq,hq2,T',As,Rs,Rs',us,l,rfl,S.same s13,SqL.of (s3 _ _ n2),hL2.keep s3.kt (zav _),r2,s13.tup h1,s13.tup h2,h3.same s13,lw l lm,λH4 s4=>⟨_,rfl,?_⟩⟩
  cases er:zca T' As Rs' l with
  | false =>
   refine zao ⟨_,rfl,Q2 ?_ H4 _ (s13.trans s4)⟩
   unfold zc9
   rw[←e2,zgK,if_neg (by rw[er];decide),Bool.false_and]
  | true =>
   have s14:=s13.trans s4
   have n4:=s4 _ _ (s3 _ _ n2)
   refine aY ⟨_,rfl,.inl ⟨rfl,_,SqL.of n4⟩,_,rfl,lq,_,_,_,rfl,rfl,s14.tup h1,aF (j:=1) rfl,r,_,_,rfl,rfl,n4,zaC (by omega),?_⟩
   have kt:=zaw.lst (ys:=us++[.ref pq]) n4
   refine⟨_,_,us++[.ref pq],Rs'++[l.ps],rfl,s14.upd hr',ae,?_,λx hx=>?_,by rw[lAq,lS,rl2];omega,?_⟩
   ·rw[mAq]
    exact aj.append ((hL2.keep (s3.trans s4).kt (zav _)).keep kt (zav _)) (aj.one (Has.tup' (kt.sq (s14.tup h2)) (aj.ints l.ps)))
   ·rcases mPq hx with h | h
    ·exact r2 x h
    ·rw[mSq h]
     have:=lw l lm
     cases l <;> exact this.1
   ·rw[←e2]
    show _=if _ then _ else _
    rw[if_pos er]
 ·rintro σ H2 ⟨v3,v4,us,Rs',rfl,s2,n2,hL2,r2,rl2,e2⟩
  rw[xl,List.drop_length]at e2
  have hq2:=s2.seq hq
  refine⟨_,rfl,q,_,rfl,.inl hq2,rfl,_,rfl,?_⟩
  rcases List.eq_nil_or_concat ls with e | ⟨ini,l,e⟩
  ·subst e
   have e0:xs.length=0:=xl
   rw[decide_eq_true (show V.int ((xs.length:Nat):Int)=V.int 0 by rw[e0];rfl)]
   exact zao (zao ⟨_,rfl,q,_,rfl,.inl hq2,Q2 (by simp [zc9,zhi]) H2 _ s2⟩)
  ·rw[List.concat_eq_append]at e
   have e0:xs.length=ini.length+1:=by rw[xl,e,lAq];rfl
   rw[decide_eq_false (by intro z;injection z with z;omega)]
   refine aY ?_
   obtain⟨x,hx⟩:∃ x,xs[ini.length]?=some x:=⟨_,gG (by omega)⟩
   obtain⟨l',lq,pq,hq3,hl,rfl,h1,h2,h3⟩:=zcH (hL.keep s2.kt (zax _)) hx
   have el:l'=l:=by
    rw[e,List.getElem?_append_right (nRq _),Nat.sub_self]at hl
    cases hl
    rfl
   subst el
   have ax:atI xs (-1)=some (.ref lq):=by
    have ed:xs=xs.take ini.length++[.ref lq]:=by
     rw[←zan hx,tO (by omega)]
    rw[ed]
    exact ziU _ _
   have ef:zc9 T' As Rs ls=l'.ps.isEmpty:=by
    unfold zc9 zhi
    rw[←e2,e,List.getLast?_concat]
    rfl
   refine⟨_,rfl,_,rfl,q,_,_,_,rfl,rfl,hq2,ax,lq,_,_,_,rfl,rfl,h1,aF (j:=1) rfl,pq,_,rfl,.inr h2,_,_,rfl,rfl,_,rfl,aJ (λc=>?_) (λc=>?_)⟩
   ·refine⟨_,rfl,q,_,rfl,.inl hq2,Q2 ?_ H2 _ s2⟩
    rw[ef]
    have:=of_decide_eq_true c
    cases hp:l'.ps with
    | nil=>rw[hp]at this;exact absurd this (by decide)
    | cons a b=>rfl
   ·refine Q1 ?_ H2 s2
    rw[ef]
    cases hp:l'.ps with
    | nil=>rfl
    | cons a b =>
     refine absurd (decide_eq_true ?_) c
     rw[hp]
     simp only[List.map_cons,List.length_cons]
     omega
inductive zhA (K:W.Frag) (C:Addr):Sp|m{vs H Q E9} (p tl al rl q:Addr) (T:List Tm) (As:List At) (Rs:List (List Int)) (xs:List V) (ls:List Ln):vs=[.ref p,.ref q]→PrD K C H p tl al rl T As Rs→SqL K H q xs→aj K H (ls.map dLn) xs→(∀ x∈Rs,x.length≤100)→Rs.length≤500→ls.length≤300→(∀ l∈ls,LnW T.length As.length l)→(∀ H',ai H H'→Q (.bl (zc9 T As Rs ls)) H')→zhA K C vs H Q E9
theorem zhl:aO ["problem","paper"] ["problem","paper"] (aw zdP):=fsc
theorem zmv (F:Fun K "lets_by" "lets_by" zdP f fd) (BF:FB P w K mg base CX0 7 "fault" fE dE ["problem","paper"] (zfi K C)):aI P w K mg base CX0 8 f fd ["problem","paper"] (zhA K C):=by
 refine F.ok zhl (λvs H Q E h=>?_) (λcdv A outer s H vs Q E hr h=>?_)
 ·obtain⟨p,tl,al,rl,q,T',As,Rs,xs,ls,rfl,_⟩:=h
  rfl
 obtain⟨p,tl,al,rl,q,T',As,Rs,xs,ls,rfl,S,hq,hL,r100,r500,l300,lw,Q0⟩:=h
 refine⟨_,(ah (ay (zaI zhf (aB BF.ok hr rfl BF.m BF.kp BF.b .nil aR (aa (pv 0) (aa (pv 1) ac))) zb8))),?_⟩
 try dsimp only [Cx.nox,Cx.wish,aV]
 refine⟨_,rfl,_,rfl,p,tl,al,rl,q,T',As,Rs,xs,ls,rfl,S,hq,hL,r100,r500,l300,lw,λe H' s'=>?_,λe H' n s'=>?_⟩
 ·have:=Q0 H' s'
  rw[e]at this
  exact⟨rfl,this⟩
 ·have:=Q0 H' s'
  rw[e]at this
  exact⟨rfl,this⟩
def SeqJ (J:It) (ps:List Int) (H:Hp):Prop:=∃ Ok:Hp→Prop,Wk J ps.length Ok∧(∀ H',ai H H'→Ok H')∧∀ i H' x H'',ai H H'→J.yld i H' x H''→H''=H'∧∃ k,ps[i]?=some k∧x=.int k
theorem zkD {H:Hp} {a:Addr} {ps:List Int} (hq:SqL K H a (ps.map V.int)):SeqJ (Itl K a) ps H:=by
 refine⟨λH'=>SqL K H' a (ps.map V.int),?_,λH' s=>s.seq hq,?_⟩
 ·have:=zb9 (K:=K) (a:=a) (xs:=ps.map V.int)
  rw[lM]at this
  exact this
 ·rintro i H' x H'' s ⟨rfl,hx⟩
  exact⟨rfl,zaH (hx _ (s.seq hq))⟩
theorem zlq {H:Hp} {a:Addr} {ps:List Int} (hq:SqT K H a (ps.map V.int)):SeqJ (Itt K a) ps H:=by
 refine⟨λH'=>SqT K H' a (ps.map V.int),?_,λH' s=>s.tup hq,?_⟩
 ·have:=zbl (K:=K) (a:=a) (xs:=ps.map V.int)
  rw[lM]at this
  exact this
 ·rintro i H' x H'' s ⟨rfl,hx⟩
  exact⟨rfl,zaH (hx _ (s.tup hq))⟩
def iSeqI (K:W.Frag) (tl:TE):L2.TI:=λσ H R=>tl σ H λx H1=>∃ a ps,x=.ref a∧SqI K H1 a ps∧∀ J,SeqJ J ps H1→R J H1
theorem zhD {X:Cx} {tg l:Expr} {tl:TE} (hl:PE X l tl):PI X tg l (iSeqI X.K tl):=by
 intro pins s σ H R I h
 refine thn (hl pins s σ H _ I h) λv s1 ⟨x,H1,I1,r1,q1⟩=>?_
 obtain⟨a,ps,rfl,hq,q⟩:=q1
 cases r1
 have fp:∀ b∈[s1.heap.objs.size],zcr X pins H1 b:=λb hb=>by
  have e:b=s1.heap.objs.size:=by simpa using hb
  subst e
  exact I1.fpOk (nRq _) (I1.hok.fresh (nRq _))
 rcases hq with hq | hq
 ·obtain⟨its,rv,p,hz⟩:=I1.list hq
  refine wpAny_pyIter_list p.isList ?_
  exact⟨s1.heap.objs.size,[s1.heap.objs.size],_,_,H1,rfl,I1.kept (t':=s1.toks) λb o e=>Heap.get?_push_of_some _ e,zfK a _,⟨_,Heap.get?_push_size _ rfl,rfl,rfl⟩,fp,q _ (zkD hq)⟩
 ·obtain⟨its,rv,p,hz⟩:=I1.tuple hq
  refine wpAny_pyIter_tuple (show s1.heap.IsTuple a its.toArray from p) ?_
  exact⟨s1.heap.objs.size,[s1.heap.objs.size],_,_,H1,rfl,I1.kept (t':=s1.toks) λb o e=>Heap.get?_push_of_some _ e,zfr a _,⟨_,Heap.get?_push_size _ rfl,rfl,rfl⟩,fp,q _ (zlq hq)⟩
def rf (rs:List Int) (t:Int):Int:=rs.getD t.toNat 0
theorem zcg {rs:List Int} {t:Int} (h:InR rs.length t):atI (rs.map V.int) t=some (.int (rf rs t)):=by
 obtain⟨h0,h1⟩:=h
 have e:t=((t.toNat:Nat):Int):=by omega
 have:rs[t.toNat]?=some (rf rs t):=by
  unfold rf
  rw[List.getD_eq_getElem?_getD,gG (by omega)]
  rfl
 have q:=ziV this
 rw[←e]at q
 exact q
def zeX (rs:List Int) (a b:Int):List Int:=rs.map λh=>if h=rf rs a then rf rs b else h
theorem zhn (rs:List Int) (a b:Int):(zeX rs a b).length=rs.length:=by unfold zeX;rw[lM]
theorem zlu {rs:List Int} {a b t:Int} (h:InR rs.length t):rf (zeX rs a b) t=rtm (rf rs) a b t:=by
 obtain⟨h0,h1⟩:=h
 have:rs[t.toNat]?=some (rf rs t):=by
  unfold rf
  rw[List.getD_eq_getElem?_getD,gG (by omega)]
  rfl
 show(zeX rs a b).getD t.toNat 0=_
 unfold zeX
 rw[List.getD_eq_getElem?_getD,List.getElem?_map,this]
 rfl
inductive zd4 (K:W.Frag):Sp|m{vs H Q E9} (r:Addr) (rs:List Int) (a b:Int):vs=[.ref r,.int a,.int b]→SqL K H r (rs.map V.int)→InR rs.length a→InR rs.length b→rs.length≤1000→(∀(H':Hp) (l:Addr),ai H H'→H l=none→H' l=some (.lst ((zeX rs a b).map V.int))→Q (.ref l) H')→zd4 K vs H Q E9
theorem zhJ:aO ["_law_roots","_law_one","_law_other"] ["_law_roots","_law_one","_law_other"] (aw zdc):=fsc
theorem zjW (F:Fun K "_law_merged" "_law_merged" zdc f fd):aI P w K mg base CX0 1 f fd ["_law_roots","_law_one","_law_other"] (zd4 K):=by
 refine F.ok zhJ (λvs H Q E h=>?_) (λcdv A outer s H vs Q E hr h=>?_)
 ·obtain⟨r,rs,a,b,rfl,_⟩:=h
  rfl
 obtain⟨r,rs,a,b,rfl,hR,ha,hb,r1000,q⟩:=h
 refine⟨_,(ah (ay (zbQ (N':=["_law_head","_law_roots","_law_other","_law_one"]) (ix:=[0,2,1]) rfl rfl (by decide +kernel) (by decide +kernel) rfl (λok=>zc4 (sc:=aw zdc) ok rfl (by decide +kernel) (by decide +kernel)) (by decide +kernel) rfl rfl (λj i h=>match j,h with | 0,h=>by cases h;exact⟨_,rfl,rfl,.inl rfl,.inl rfl⟩ | 1,h=>by cases h;exact⟨_,rfl,rfl,.inl rfl,.inl rfl⟩ | 2,h=>by cases h;exact⟨_,rfl,rfl,.inl rfl,.inl rfl⟩ | n+3,h=>by simp at h) (za6 (pv 0)) (λ_ _ _ _=>(zfo (au zaf (pv 0) (ap (r:=zgJ K) zab (pv 1) (pv 3))) (ap (r:=zgJ K) zab (pv 1) (pv 2)) (pv 0)))))),?_⟩
 try dsimp only [Cx.nox,Cx.wish,aV]
 refine⟨_,rfl,r,rfl,⟨_,hR⟩,λD hD=>zbu zb9 (λi us H'=>ai H H'∧us=(((rs.take i).map λh=>if h=rf rs a then rf rs b else h)).map V.int) (λi us H' ⟨s4,_⟩=>s4.seq hR) ⟨ag hD _,rfl⟩ ?_ ?_⟩
 ·rintro i us H8 z H4 hi hly hDs ⟨s4,rfl⟩ ⟨rfl,hx⟩
  obtain⟨k,hk,rfl⟩:=zaH (hx _ (s4.seq hR))
  refine⟨_,rfl,_,rfl,_,rfl,r,_,_,_,rfl,rfl,s4.seq hR,zcg ha,rfl,_,rfl,aJ (λc=>?_) (λc=>?_)⟩
  ·have c':k=rf rs a:=by have:=of_decide_eq_true c;injection this
   refine⟨_,rfl,_,rfl,r,_,_,_,rfl,rfl,s4.seq hR,zcg hb,zaA (sz _ (by rw[lM];exact r1000)) hi hly hDs ⟨s4.upd hD,?_⟩⟩
   rw[zan hk,mAq,mAq]
   simp only[List.map_cons,List.map_nil,if_pos c']
  ·have c':¬k=rf rs a:=λz=>c (by rw[z];exact decide_eq_true rfl)
   refine⟨_,rfl,zaA (sz _ (by rw[lM];exact r1000)) hi hly hDs ⟨s4.upd hD,?_⟩⟩
   rw[zan hk,mAq,mAq]
   simp only[List.map_cons,List.map_nil,if_neg c']
 rintro us H4 hDs ⟨s4,rfl⟩
 rw[lM,tO (nRq _)]at hDs
 exact q H4 D s4 hD hDs
theorem zhS (xs ys:List Int):zbG (xs.map Dt.int) (ys.map Dt.int)=decide (xs=ys):=by
 by_cases h:xs=ys
 ·subst h
  rw[decide_eq_true rfl]
  exact zeG _
 ·rw[decide_eq_false h,Bool.eq_false_iff]
  intro z
  have:=zgs _ _ (zeI xs) (zeI ys) z
  exact h (List.map_inj_right (f:=Dt.int) (λa b e=>by injection e) |>.mp this)
theorem zhu (g:Int→Int):∀(xs ys:List Int),xs.length=ys.length→decide (xs.map g=ys.map g)=(xs.zip ys).all λxy=>decide (g xy.1=g xy.2)
 | [],[],_=>rfl
 | [],_ :: _,h=>by cases h
 | _ :: _,[],h=>by cases h
 | x :: xs,y :: ys,h=>by
  have ih:=zhu g xs ys (by simpa using h)
  rw[List.zip_cons_cons,List.all_cons,←ih]
  by_cases c:g x=g y
  ·by_cases d:xs.map g=ys.map g
   ·simp [c,d]
   ·simp [c,d]
  ·simp [c]
inductive zeD (K:W.Frag):Sp|m{vs H Q E9} (tl r:Addr) (xs:List V) (T:List Tm) (rs:List Int) (a b:Int):vs=[.ref tl,.ref r,.int a,.int b]→SqL K H tl xs→aj K H (T.map dT) xs→(∀ t∈T,∀ q∈t.2,InR T.length q)→(∀ t∈T,t.2.length≤1000)→SqL K H r (rs.map V.int)→rs.length=T.length→InR T.length a→InR T.length b→(∀ H',ai H H'→Q (.bl (zdn (rf rs) T a b)) H')→zeD K vs H Q E9
theorem zdU:aO ["_law_terms","_law_roots","_law_one","_law_other","_law_first","_law_second"] ["_law_terms","_law_roots","_law_one","_law_other"] (aw zcL):=fsc
theorem zkZ (F:Fun K "_law_alike" "_law_alike" zcL f fd) (T:Txt K mg aK C CN CT CP CM):aI P w K mg base CX0 1 f fd ["_law_terms","_law_roots","_law_one","_law_other"] (zeD K):=by
 refine F.ok zdU (λvs H Q E h=>?_) (λcdv A outer s H vs Q E hr h=>?_)
 ·obtain⟨tl,r,xs,T',rs,a,b,rfl,_⟩:=h
  rfl
 obtain⟨tl,r,xs,T',rs,a,b,rfl,ht,hT,dm,t1000,hR,rl,r1,r2,q⟩:=h
 have hu:=zeL hr
 have xl:xs.length=T'.length:=by rw[←hT.length,lM]
 refine⟨_,(af (aE (i:=4) zdU.nd rfl (Or.inl rfl) (ap zab (pv 0) (pv 2)))
  (af (aE (i:=5) zdU.nd rfl (Or.inl rfl) (ap zab (pv 0) (pv 3)))
  (af (aL (PW.pt (zbd (au zcN (ap az (pv 4) ad) (ap az (pv 5) ad)) (zbn (au zcN (ao ar rfl T.len PySem.boot_len (aa (ap az (pv 4) ad) ac)) (ao ar rfl T.len PySem.boot_len (aa (ap az (pv 5) ad) ac))))))
   (ah (ay zam))
   aA)
  (ah (ay (zaI (zeW hu) (zbQ (N':=["_law_part","_law_roots"]) (ix:=[1]) rfl rfl (by decide +kernel) (by decide +kernel) rfl (λok=>zc4 (sc:=aw zcL) ok rfl (by decide +kernel) (by decide +kernel)) (by decide +kernel) rfl rfl (λj i h=>match j,h with | 0,h=>by cases h;exact⟨_,rfl,rfl,.inl rfl,.inl rfl⟩ | n+1,h=>by simp at h) (zaU (ap az (pv 4) ad)) (λ_ _ _ _=>(ap (r:=zgJ K) zab (pv 1) (pv 0)))) (zbQ (N':=["_law_part","_law_roots"]) (ix:=[1]) rfl rfl (by decide +kernel) (by decide +kernel) rfl (λok=>zc4 (sc:=aw zcL) ok rfl (by decide +kernel) (by decide +kernel)) (by decide +kernel) rfl rfl (λj i h=>match j,h with | 0,h=>by cases h;exact⟨_,rfl,rfl,.inl rfl,.inl rfl⟩ | n+1,h=>by simp at h) (zaU (ap az (pv 5) ad)) (λ_ _ _ _=>(ap (r:=zgJ K) zab (pv 1) (pv 0)))) rfl)))))),?_⟩
 try dsimp only [Cx.nox,Cx.wish,aV]
 obtain⟨x,x1,x2⟩:=zbB (xs:=xs) (i:=a) r1.1 (by rw[xl];exact r1.2)
 obtain⟨y,y1,y2⟩:=zbB (xs:=xs) (i:=b) r2.1 (by rw[xl];exact r2.2)
 obtain⟨t,qa,ra,ta,rfl,ha,hra⟩:=zdx hT x1
 obtain⟨u,qb,rb,ua,rfl,hb,hrb⟩:=zdx hT y1
 have et:tG T' a=t:=by have:=(zdK r1).1;rw[ta]at this;cases this;rfl
 have eu:tG T' b=u:=by have:=(zdK r2).1;rw[ua]at this;cases this;rfl
 have tm:=mOq ta
 have um:=mOq ua
 unfold zdn at q
 rw[et,eu]at q
 refine⟨_,rfl,_,rfl,tl,_,_,_,rfl,rfl,ht,x2,?_⟩
 refine⟨_,rfl,_,rfl,tl,_,_,_,rfl,rfl,ht,y2,?_⟩
 have a0:∀(z:Str) (r:Addr),atI [V.str z,V.ref r] 0=some (.str z):=λz r=>aF (j:=0) rfl
 have a1:∀(z:Str) (r:Addr),atI [V.str z,V.ref r] 1=some (.ref r):=λz r=>aF (j:=1) rfl
 refine⟨_,rfl,qa,_,_,_,rfl,rfl,ha,a0 _ _,_,rfl,qb,_,_,_,rfl,rfl,hb,a0 _ _,rfl,_,rfl,aJ (λc=>zao ?_) (λc=>⟨_,rfl,qa,_,_,_,rfl,rfl,ha,a1 _ _,ra,_,rfl,.inr hra,_,rfl,qb,_,_,_,rfl,rfl,hb,a1 _ _,rb,_,rfl,.inr hrb,rfl,_,rfl,aJ (λc2=>?_) (λc2=>?_)⟩)⟩
 ·have:=q H (ai.refl H)
  rw[decide_eq_false (λz:t.1=u.1=>by rw[z]at c;simp at c)]at this
  exact this
 ·have:=q H (ai.refl H)
  rw[decide_eq_false (p:=t.2.length=u.2.length) (λz=>by simp [z]at c2)]at this
  rw[Bool.false_and,Bool.and_false]at this
  exact this
 have n1:t.1=u.1:=by
  apply Classical.byContradiction
  intro z
  exact c (by simp [z])
 have n2:t.2.length=u.2.length:=by
  apply Classical.byContradiction
  intro z
  exact c2 (by simp;omega)
 rw[decide_eq_true n1,decide_eq_true n2,Bool.true_and,Bool.true_and,←zhu (rf rs) _ _ n2]at q
 refine⟨_,rfl,qa,_,_,_,rfl,rfl,ha,a1 _ _,ra,rfl,⟨_,hra⟩,λD hD=>zbu zbl (λi us H'=>ai H H'∧us=((t.2.take i).map (rf rs)).map V.int) (λi us H' ⟨s4,_⟩=>s4.tup hra) ⟨ag hD _,rfl⟩ ?_ ?_⟩
 ·rintro i us H8 z H4 hi hly hDs ⟨s4,rfl⟩ ⟨rfl,hx⟩
  obtain⟨k,hk,rfl⟩:=zaH (hx _ (s4.tup hra))
  have kin:=dm t tm k (mOq hk)
  refine⟨_,rfl,_,rfl,r,_,_,_,rfl,rfl,s4.seq hR,zcg (by rw[rl];exact kin),zaA (sz _ (by rw[lM];exact t1000 t tm)) hi hly hDs ⟨s4.upd hD,?_⟩⟩
  rw[zan hk,mAq,mAq]
  rfl
 rintro us H4 hDs ⟨s4,rfl⟩
 rw[lM,tO (nRq _)]at hDs
 refine⟨_,rfl,qb,_,_,_,rfl,rfl,s4.tup hb,a1 _ _,rb,rfl,⟨_,s4.tup hrb⟩,λD2 hD2=>zbu zbl (λi us H'=>ai H4 H'∧us=((u.2.take i).map (rf rs)).map V.int) (λi us H' ⟨s5,_⟩=>s5.tup (s4.tup hrb)) ⟨ag hD2 _,rfl⟩ ?_ ?_⟩
 ·rintro i us H8 z H5 hi hly hDs2 ⟨s5,rfl⟩ ⟨rfl,hx⟩
  obtain⟨k,hk,rfl⟩:=zaH (hx _ (s5.tup (s4.tup hrb)))
  have kin:=dm u um k (mOq hk)
  refine⟨_,rfl,_,rfl,r,_,_,_,rfl,rfl,s5.seq (s4.seq hR),zcg (by rw[rl];exact kin),zaA (sz _ (by rw[lM];exact t1000 u um)) hi hly hDs2 ⟨s5.upd hD2,?_⟩⟩
  rw[zan hk,mAq,mAq]
  rfl
 rintro us H5 hDs2 ⟨s5,rfl⟩
 rw[lM,tO (nRq _)]at hDs2
 refine⟨_,_,Has.lst' (SqL.of (s5 _ _ hDs)) (aj.ints _),Has.lst' (SqL.of hDs2) (aj.ints _),(by simp only[dep,zcJ];decide),?_⟩
 show Q (.bl (zbG ((t.2.map (rf rs)).map Dt.int) ((u.2.map (rf rs)).map Dt.int))) H5
 rw[zhS]
 exact q H5 (s4.trans s5)
theorem perm2 {m n a b:Int} (h:[m,n].Perm [a,b]):(m=a∧n=b)∨(m=b∧n=a):=by
 have hm:m∈[a,b]:=h.mem_iff.mp (by simp)
 simp only[List.mem_cons,List.not_mem_nil,or_false]at hm
 rcases hm with rfl | rfl
 ·have:=(List.perm_cons m).mp h
  exact .inl ⟨rfl,by simpa using this⟩
 ·have:=(List.perm_cons m).mp (h.trans (List.Perm.swap m a []))
  exact .inr ⟨rfl,by simpa using this⟩
theorem sort2 {ms ns:List Int} {a b x y:Int} (h1:ms.Perm [a,b]) (h2:ms.Pairwise (·≤·)) (h3:ns.Perm [x,y]) (h4:ns.Pairwise (·≤·)):decide (ms=ns)=(decide ((x,y)=(a,b))||decide ((x,y)=(b,a))):=by
 have l1:=h1.length_eq
 have l3:=h3.length_eq
 match ms,ns,l1,l3 with
 | [m1,m2],[n1,n2],_,_ =>
  have p1:=perm2 h1
  have p3:=perm2 h3
  have o1:m1≤m2:=by simpa using h2
  have o2:n1≤n2:=by simpa using h4
  rw[Bool.eq_iff_iff,Bool.or_eq_true,decide_eq_true_iff,decide_eq_true_iff,decide_eq_true_iff]
  simp only[List.cons.injEq,and_true,Prod.mk.injEq]
  rcases p1 with ⟨rfl,rfl⟩ | ⟨rfl,rfl⟩ <;> rcases p3 with ⟨rfl,rfl⟩ | ⟨rfl,rfl⟩ <;> omega
inductive zfR (K:W.Frag) (C:Addr):Sp|m{vs H Q E9} (p tl al rl q r l:Addr) (T:List Tm) (As:List At) (Rs:List (List Int)) (ps rs:List Int) (lk:Lk):vs=[.ref p,.ref q,.ref r,.ref l]→PrD K C H p tl al rl T As Rs→SqI K H q ps→SqL K H r (rs.map V.int)→rs.length=T.length→SqT K H l [.int lk.1,.int lk.2.1,.int lk.2.2]→zb2 T.length As.length lk→(∀ H',ai H H'→Q (.bl (zbm (rf rs) ps T As lk)) H')→zfR K C vs H Q E9
theorem zdR:aO ["_law_problem","_law_parts","_law_roots","_law_link","_law_atom"] ["_law_problem","_law_parts","_law_roots","_law_link"] (aw zc2):=fsc
theorem zkS (F:Fun K "_law_link_right" "_law_link_right" zc2 f fd) (T:Txt K mg aK C CN CT CP CM) (msort:mg "sorted"=none) (mA:mg "_law_alike"=some (.ref fA)) (BA:aI P w K mg base CX0 1 fA dA' ["_law_terms","_law_roots","_law_one","_law_other"] (zeD K)) (bA:aH K dA' ["_law_terms","_law_roots","_law_one","_law_other"] []) (kA:W.keepIn K (.ref fA)=true):aI P w K mg base CX0 2 f fd ["_law_problem","_law_parts","_law_roots","_law_link"] (zfR K C):=by
 refine F.ok zdR (λvs H Q E h=>?_) (λcdv A outer s H vs Q E hr h=>?_)
 ·obtain⟨p,tl,al,rl,q,r,l,T',As,Rs,ps,rs,lk,rfl,_⟩:=h
  rfl
 obtain⟨p,tl,al,rl,q,r,l,T',As,Rs,ps,rs,lk,rfl,S,hq,hR,rl',hl,lin,Q0⟩:=h
 have hu:=zeL hr
 refine⟨_,(af (aL (au zaf (ap az (pv 3) ad) ad)
   (ah (ay (aB BA hr rfl mA kA bA .nil aR (aa (zae (pv 0) rfl) (aa (pv 2) (aa (ap az (pv 3) ad) (aa (ap az (pv 3) ad) ac)))))))
   aA)
  (af (aE (i:=4) zdR.nd rfl (Or.inl rfl) (ap zab (zae (pv 0) rfl) (aq zbA (ap az (pv 3) ad) ad)))
  (af (aL (PW.pt (zbd (au zbO (zbk za1 (ap az (pv 3) ad)) (pv 1) rfl) (zbn (au zcN (ap az (pv 4) ad) aU))))
   (ah (ay zam))
   aA)
  (ah (ay (zaI (zeW hu) (ao zge rfl msort PyProof.Rows.Boot.sorted (aa (zag (aa (ap az (pv 3) ad) (aa (ap az (pv 3) ad) ac))) ac)) (ao zge rfl msort PyProof.Rows.Boot.sorted (aa (zag (aa (ap az (pv 4) ad) (aa (ap az (pv 4) ad) ac))) ac)) rfl)))))),?_⟩
 try dsimp only [Cx.nox,Cx.wish,aV]
 obtain⟨⟨dx,ho⟩,⟨xs,ht,hT⟩,⟨ys,ha,hA⟩,_⟩:=id S.pr
 have yl:ys.length=As.length:=by rw[←hA.length,lM]
 obtain⟨i1,i2,i3,i4⟩:=id lin
 unfold zbm at Q0
 refine⟨_,rfl,l,_,_,_,rfl,rfl,hl,l2 lk,rfl,_,rfl,aJ (λc=>?_) (λc=>?_)⟩
 ·have c':lk.2.2=0:=by have:=of_decide_eq_true c;injection this
  rw[if_pos c']at Q0
  exact⟨_,rfl,p,C,dx,_,_,rfl,ho,T.cl,T.nT,zaO _ _ _,_,rfl,_,rfl,l,_,_,_,rfl,rfl,hl,l0 lk,_,rfl,l,_,_,_,rfl,rfl,hl,l1 lk,tl,r,xs,T',rs,lk.1,lk.2.1,rfl,SqL.of ht,hT,S.dm.tm,S.t3,hR,rl',i1,i2,Q0⟩
 have c':¬lk.2.2=0:=λz=>c (by rw[z];exact decide_eq_true rfl)
 rw[if_neg c']at Q0
 obtain⟨a,e1,e2,e3⟩:=zik (As:=As) (k:=lk.2.2) (by omega) i4
 obtain⟨x,x1,x2⟩:=zbB (xs:=ys) (i:=lk.2.2 - 1) (by omega) (by omega)
 obtain⟨a',ea,hax⟩:=ze1 hA x1
 rw[e1]at ea
 cases ea
 unfold zey at Q0
 rw[e3]at Q0
 refine⟨_,rfl,p,C,dx,_,_,rfl,ho,T.cl,T.nA,zai _ _ _,_,rfl,l,_,_,_,rfl,rfl,hl,l2 lk,_,_,rfl,rfl,al,_,_,_,rfl,rfl,SqL.of ha,x2,?_⟩
 refine⟨_,rfl,l,_,_,_,rfl,rfl,hl,l2 lk,_,rfl,_,rfl,q,_,rfl,hq,rfl,zf8 _,_,rfl,?_⟩
 show if(!inV (.int (-lk.2.2)) (ps.map V.int))=true then _ else _
 rw[zbN]
 by_cases hin:¬-lk.2.2∈ps
 ·rw[decide_eq_false hin]
  refine zao (zao ?_)
  have:=Q0 H (ai.refl H)
  rw[decide_eq_false hin]at this
  exact this
 replace hin:=Classical.not_not.mp hin
 rw[decide_eq_true hin]at Q0 ⊢
 cases a with
 | plain z =>
  obtain⟨qq,rfl,hqq⟩:=zce hax
  refine aY ⟨_,rfl,qq,_,_,_,rfl,rfl,hqq,aF (j:=0) rfl,rfl,_,rfl,aJ (λc=>?_) (λc=>?_)⟩
  ·exact Q0 H (ai.refl H)
  ·exact absurd (by decide +kernel) c
 | same x y =>
  obtain⟨qq,rfl,hqq⟩:=zcG hax
  refine aY ⟨_,rfl,qq,_,_,_,rfl,rfl,hqq,aF (j:=0) rfl,rfl,_,rfl,aJ (λc=>?_) (λc=>?_)⟩
  ·exact absurd c (by decide +kernel)
  refine⟨_,rfl,l,_,_,_,rfl,rfl,hl,l0 lk,_,rfl,l,_,_,_,rfl,rfl,hl,l1 lk,lS2,λd hd=>?_⟩
  have s1:=ag hd (.lst [.int lk.1,.int lk.2.1])
  have n1:=ae (H:=H) (a:=d) (o:=.lst [.int lk.1,.int lk.2.1])
  generalize upd H d (.lst [.int lk.1,.int lk.2.1])=H1 at s1 n1
  refine⟨d,[lk.1,lk.2.1],rfl,SqL.of n1,(by simp),λm ms hm pm so=>?_⟩
  have s2:=s1.trans (ag hm (.lst (ms.map V.int)))
  have n2:=ae (H:=H1) (a:=m) (o:=.lst (ms.map V.int))
  generalize upd H1 m (.lst (ms.map V.int))=H2 at s2 n2
  have hqq2:=s2.tup hqq
  refine⟨_,rfl,qq,_,_,_,rfl,rfl,hqq2,aF (j:=1) rfl,_,rfl,qq,_,_,_,rfl,rfl,hqq2,aF (j:=2) rfl,lS2,λe he=>?_⟩
  have s3:=ag he (.lst [.int x,.int y])
  have n3:=ae (H:=H2) (a:=e) (o:=.lst [.int x,.int y])
  generalize upd H2 e (.lst [.int x,.int y])=H3 at s3 n3
  refine⟨e,[x,y],rfl,SqL.of n3,(by simp),λn ns hn pn sn=>?_⟩
  have s4:=s3.trans (ag hn (.lst (ns.map V.int)))
  have n4:=ae (H:=H3) (a:=n) (o:=.lst (ns.map V.int))
  generalize upd H3 n (.lst (ns.map V.int))=H4 at s4 n4
  refine⟨_,_,Has.lst' (SqL.of (s4 _ _ n2)) (aj.ints _),Has.lst' (SqL.of n4) (aj.ints _),(by simp only[dep,zcJ];decide),?_⟩
  show Q (.bl (zbG (ms.map Dt.int) (ns.map Dt.int))) H4
  rw[zhS,sort2 pm so pn sn]
  exact Q0 H4 (s2.trans s4)
def PIn (m:Nat) (p:Int):Prop:=p≠0∧-(m:Int)≤p∧p≤(m:Int)
inductive zfX (K:W.Frag) (C:Addr):Sp|m{vs H Q E9} (p tl al rl q l:Addr) (T:List Tm) (As:List At) (Rs:List (List Int)) (ps:List Int) (xs:List V) (ls:List Lk):vs=[.ref p,.ref q,.ref l]→PrD K C H p tl al rl T As Rs→SqI K H q ps→(∀ k∈ps,PIn As.length k)→SqL K H l xs→aj K H (ls.map dL) xs→(∀ lk∈ls,zb2 T.length As.length lk)→(∀ H',ai H H'→Q (.bl (eqF rtm ps T As ls (λt=>t))) H')→zfX K C vs H Q E9
theorem zbW:aO ["_law_problem","_law_parts","_law_bonds","_law_roots","_law_link","_law_part","_law_atom"] ["_law_problem","_law_parts","_law_bonds"] (aw zeu):=fsc
def zbE (n:Nat):List Int:=(List.range n).map λi:Nat=>(i:Int)
theorem rf_rng {n:Nat} {t:Int} (h:InR n t):rf (zbE n) t=t:=by
 obtain⟨h0,h1⟩:=h
 unfold rf zbE
 rw[List.getD_eq_getElem?_getD,List.getElem?_map,List.getElem?_range (by omega)]
 show((t.toNat:Nat):Int)=t
 omega
theorem zcF (n:Nat):(zbE n).length=n:=by simp [zbE]
theorem zlk {g:Int→Int} {ps:List Int} {As:List At} (h:∀ i:Nat,∀ k,ps[i]?=some k→zbP g As k=false):zeM g ps As=false:=by
 unfold zeM
 rw[List.any_eq_false]
 intro b hb
 obtain⟨k,hk,rfl⟩:=List.mem_map.mp hb
 obtain⟨i,hi⟩:=List.mem_iff_getElem?.mp hk
 rw[h i k hi]
 simp
theorem zmJ {g:Int→Int} {ps:List Int} {As:List At} {k:Int} (hk:k∈ps) (h:zbP g As k=true):zeM g ps As=true:=by
 unfold zeM
 rw[List.any_eq_true]
 exact⟨_,List.mem_map.mpr ⟨k,hk,rfl⟩,h⟩
theorem zkY (F:Fun K "_law_equal" "_law_equal" zeu f fd) (T:Txt K mg aK C CN CT CP CM) (mlist:mg "list"=none) (mrange:mg "range"=none) (mabs:mg "abs"=none) (mR:mg "_law_link_right"=some (.ref fR)) (BR:aI P w K mg base CX0 2 fR dR' ["_law_problem","_law_parts","_law_roots","_law_link"] (zfR K C)) (bR:aH K dR' ["_law_problem","_law_parts","_law_roots","_law_link"] []) (kR:W.keepIn K (.ref fR)=true)
  (mM:mg "_law_merged"=some (.ref fM)) (BM:aI P w K mg base CX0 1 fM dM ["_law_roots","_law_one","_law_other"] (zd4 K)) (bM:aH K dM ["_law_roots","_law_one","_law_other"] []) (kM:W.keepIn K (.ref fM)=true):aI P w K mg base CX0 3 f fd ["_law_problem","_law_parts","_law_bonds"] (zfX K C):=by
 refine F.ok zbW (λvs H Q E h=>?_) (λcdv A outer s H vs Q E hr h=>?_)
 ·obtain⟨p,tl,al,rl,q,l,T',As,Rs,ps,xs,ls,rfl,_⟩:=h
  rfl
 obtain⟨p,tl,al,rl,q,l,T',As,Rs,ps,xs,ls,rfl,S,hq,pin,hl,hL,hin,Q0⟩:=h
 have xl:xs.length=ls.length:=by rw[←hL.length,lM]
 have hr1:zaq 1 _:=hr.mono (by decide)
 refine⟨_,(af (aE (i:=3) zbW.nd rfl (Or.inl rfl) (zar (zfz rfl) rfl mlist PyProof.Rows.Boot.list (aa (zhT rfl mrange (aa (ao ar rfl T.len PySem.boot_len (aa (zae (pv 0) rfl) ac)) ac)) ac)))
  (af (zah PassesOwn.never rfl (za6 (pv 2)) (zac (i:=4) zbW.nd rfl (Or.inl rfl))
   (af (aL (zbo (zaS (aB BR hr rfl mR kR bR .nil aR (aa (pv 0) (aa (pv 1) (aa (pv 3) (aa (pv 4) ac)))))))
     (ah (ay zam))
     aA)
    (ah (aE (i:=3) zbW.nd rfl (Or.inl rfl) (aB BM hr1 rfl mM kM bM .nil aR (aa (pv 3) (aa (ap az (pv 4) ad) (aa (ap az (pv 4) ad) ac))))))))
  (af (zah PassesOwn.never rfl (zhD (pv 1)) (zac (i:=5) zbW.nd rfl (Or.inl rfl))
   (af (aE (i:=6) zbW.nd rfl (Or.inl rfl) (ap zab (zae (pv 0) rfl) (aq zbA (ao zb4 rfl mabs PyProof.Rows.Boot.abs (aa (pv 5) ac)) ad)))
    (ah (aL (PW.pt (za2 (au zcf (pv 5) ad) (za2 (au zaf (ap az (pv 6) ad) aU) (za5 (au zaf (ap zab (pv 3) (ap az (pv 6) ad)) (ap zab (pv 3) (ap az (pv 6) ad)))))))
     (ah (ay zam))
     aA))))
  (ah (ay zam))))),?_⟩
 try dsimp only [Cx.nox,Cx.wish,aV]
 obtain⟨⟨dx,ho⟩,⟨ts,ht,hT⟩,⟨ys,ha,hA⟩,_⟩:=id S.pr
 have tl':ts.length=T'.length:=by rw[←hT.length,lM]
 have yl:ys.length=As.length:=by rw[←hA.length,lM]
 refine⟨_,rfl,p,C,dx,_,_,rfl,ho,T.cl,T.nT,zaO _ _ _,tl,_,rfl,.inl (SqL.of ht),_,rfl,λr0 hr0=>?_⟩
 have s0:=ag hr0 (.rng 0 ((ts.length:Nat):Int))
 have n0:=ae (H:=H) (a:=r0) (o:=.rng 0 ((ts.length:Nat):Int))
 generalize upd H r0 (.rng 0 ((ts.length:Nat):Int))=H0 at s0 n0
 have tN:=S.tN
 refine⟨r0,_,rfl,n0,(by omega),(by omega),λr1 hr1'=>?_⟩
 have e0:(((List.range (((ts.length:Nat):Int)).toNat).map λi:Nat=>(i:Int)).map V.int)=(zbE T'.length).map V.int:=by
  rw[Int.toNat_natCast,tl']
  rfl
 rw[e0]
 have s1:=s0.trans (ag hr1' (.lst ((zbE T'.length).map V.int)))
 have n1:=ae (H:=H0) (a:=r1) (o:=.lst ((zbE T'.length).map V.int))
 generalize upd H0 r1 (.lst ((zbE T'.length).map V.int))=H1 at s1 n1
 have z0:eqF rtm ps T' As ls (λt=>t)=eqF rtm ps T' As ls (rf (zbE T'.length)):=zhH S.dm ps ls hin λt ht=>(rf_rng ht).symm
 refine⟨_,rfl,l,rfl,⟨_,s1.seq hl⟩,zdm (zb9 (xs:=xs)) (λi σ H'=>∃(v4:Option V) (r:Addr) (rs:List Int),σ=[some (.ref p),some (.ref q),some (.ref l),some (.ref r),v4,none,none]∧ai H H'∧H' r=some (.lst (rs.map V.int))∧rs.length=T'.length∧eqF rtm ps T' As ls (λt=>t)=eqF rtm ps T' As (ls.drop i) (rf rs)) (λi σ H' ⟨_,_,_,_,s2,_⟩=>s2.seq hl) ⟨none,r1,_,rfl,s1,n1,zcF _,z0⟩ ?_ ?_⟩
 ·rintro i σ H9 x H2 hi ⟨v4,r,rs,rfl,s2,hr2,rl',eF⟩ ⟨rfl,hx⟩
  obtain⟨lk,pl,hlk,rfl,hp⟩:=zid hL (hx _ (s2.seq hl))
  have hp2:=s2.tup hp
  have lin:=hin lk (mOq hlk)
  rw[zjy hlk]at eF
  refine⟨_,rfl,_,rfl,_,rfl,_,rfl,p,tl,al,rl,q,r,pl,T',As,Rs,ps,rs,lk,rfl,S.same s2,hq.same s2,SqL.of hr2,rl',hp2,lin,λH3 s3=>⟨_,rfl,?_⟩⟩
  refine aJ (λc=>?_) (λc=>?_)
  ·have c':¬zbm (rf rs) ps T' As lk=true:=λz=>by rw[z]at c;cases c
   have:=Q0 H3 (s2.trans s3)
   rw[eF,zf9 c']at this
   exact this
  ·have c':zbm (rf rs) ps T' As lk=true:=by
    cases z:zbm (rf rs) ps T' As lk with
    | true=>rfl
    | false=>exact absurd (by rw[z];rfl) c
   rw[zg1 c']at eF
   have hp3:=s3.tup hp2
   refine⟨_,rfl,_,rfl,pl,_,_,_,rfl,rfl,hp3,l0 lk,_,rfl,pl,_,_,_,rfl,rfl,hp3,l1 lk,r,rs,lk.1,lk.2.1,rfl,SqL.of (s3 _ _ hr2),by rw[rl'];exact lin.1,by rw[rl'];exact lin.2.1,(by have:=S.tN;omega),λH4 r4 s4 _ hr4=>?_⟩
   refine⟨_,r4,_,rfl,(s2.trans s3).trans s4,hr4,by rw[zhn];exact rl',?_⟩
   rw[eF]
   exact zhH S.dm ps _ (λu hu=>hin u (List.mem_of_mem_drop hu)) λt ht=>(zlu (by rw[rl'];exact ht)).symm
 ·rintro σ H2 ⟨v4,r,rs,rfl,s2,hr2,rl',eF⟩
  rw[xl,List.drop_length]at eF
  have eF':eqF rtm ps T' As ls (λt=>t)=zeM (rf rs) ps As:=eF
  have hq2:=hq.same s2
  refine⟨_,rfl,q,ps,rfl,hq2,λJ ⟨Ok,W,ok,yl'⟩=>zdm W (λi σ H'=>∃(v5 v6:Option V),σ=[some (.ref p),some (.ref q),some (.ref l),some (.ref r),v4,v5,v6]∧H'=H2∧∀ j,j < i→∀ k,ps[j]?=some k→zbP (rf rs) As k=false) (λi σ H' ⟨_,_,_,e,_⟩=>e ▸ ok _ (ai.refl _)) ⟨none,none,rfl,rfl,λj hj=>absurd hj (by omega)⟩ ?_ ?_⟩
  ·rintro i σ H9 x H3 hi ⟨v5,v6,rfl,rfl,hf⟩ yy
   obtain⟨rfl,k,hk,rfl⟩:=yl' _ _ _ _ (ai.refl _) yy
   have km:=mOq hk
   obtain⟨p0,p1,p2⟩:=pin k km
   have S2:=(S.same s2).pr
   obtain⟨⟨dx2,ho2⟩,_,⟨ys2,ha2,hA2⟩,_⟩:=id S2
   have yl2:ys2.length=As.length:=by rw[←hA2.length,lM]
   have eabs:(if k < 0 then -k else k)=((k.natAbs:Nat):Int):=by split <;> omega
   obtain⟨x,x1,x2⟩:=zbB (xs:=ys2) (i:=((k.natAbs:Nat):Int) - 1) (by omega) (by omega)
   obtain⟨a,ea,hax⟩:=ze1 hA2 x1
   have x2':atI ys2 ((if k < 0 then -k else k) - 1)=some x:=by rw[eabs];exact x2
   have more:zbP (rf rs) As k=false→∀ j,j < i+1→∀ k',ps[j]?=some k'→zbP (rf rs) As k'=false:=λz j hj k' hk'=>by
    by_cases e:j=i
    ·subst e;rw[hk]at hk';cases hk';exact z
    ·exact hf j (by omega) k' hk'
   refine⟨_,rfl,p,C,dx2,_,_,rfl,ho2,T.cl,T.nA,zai _ _ _,_,rfl,_,rfl,_,_,rfl,rfl,al,_,_,_,rfl,rfl,SqL.of ha2,x2',?_⟩
   refine⟨_,rfl,_,_,rfl,rfl,_,rfl,aJ (λc=>?_) (λc=>aY ?_)⟩
   ·have c':0 < k:=of_decide_eq_true c
    have ek:(((k.natAbs:Nat):Int) - 1).toNat=(k - 1).toNat:=by omega
    obtain⟨a2,e1,e2,e3⟩:=zik (As:=As) (k:=k) (by omega) p2
    rw[ek,e1]at ea
    cases ea
    cases a with
    | plain z =>
     obtain⟨qq,rfl,hqq⟩:=zce hax
     refine⟨_,rfl,qq,_,_,_,rfl,rfl,hqq,aF (j:=0) rfl,rfl,_,rfl,aJ (λc=>absurd (of_decide_eq_true c) (by decide +kernel)) (λc=>aY ⟨_,_,rfl,rfl,more ?_⟩)⟩
     unfold zbP
     rw[e3]
    | same x y =>
     obtain⟨qq,rfl,hqq⟩:=zcG hax
     have hrr:SqL K H3 r (rs.map V.int):=SqL.of hr2
     obtain⟨in1,in2⟩:=S.dm.am x y e2
     rw[←rl']at in1 in2
     refine⟨_,rfl,qq,_,_,_,rfl,rfl,hqq,aF (j:=0) rfl,rfl,_,rfl,aJ (λc=>⟨_,rfl,_,rfl,qq,_,_,_,rfl,rfl,hqq,aF (j:=1) rfl,r,_,_,_,rfl,rfl,hrr,zcg in1,_,rfl,_,rfl,qq,_,_,_,rfl,rfl,hqq,aF (j:=2) rfl,r,_,_,_,rfl,rfl,hrr,zcg in2,rfl,_,rfl,aJ (λc3=>?_) (λc3=>?_)⟩) (λc=>absurd (decide_eq_true rfl) c)⟩
     ·have c4:rf rs x=rf rs y:=by have:=of_decide_eq_true c3;injection this
      have:=Q0 H3 s2
      rw[eF',zmJ km (by unfold zbP;rw[e3];exact decide_eq_true c4)]at this
      exact this
     ·have c4:¬rf rs x=rf rs y:=λz=>c3 (by rw[z];exact decide_eq_true rfl)
      refine⟨_,_,rfl,rfl,more ?_⟩
      unfold zbP
      rw[e3]
      exact decide_eq_false c4
   ·have c':¬0 < k:=λz=>c (decide_eq_true z)
    refine⟨_,_,rfl,rfl,more ?_⟩
    have:smF As k=none:=by unfold smF;rw[if_neg (by omega)]
    unfold zbP
    rw[this]
  ·rintro σ H3 ⟨v5,v6,rfl,rfl,hf⟩
   have:=Q0 H3 s2
   rw[eF',zlk λi k hk=>hf i (gEq hk).1 k hk]at this
   exact this
theorem Has.link {H:Hp} {a:Addr} {lk:Lk} (h:SqT K H a [.int lk.1,.int lk.2.1,.int lk.2.2]):Has K H (dL lk) (.ref a):=Has.tup' h (.cons .int (.cons .int (.cons .int .nil)))
theorem zjH {H:Hp} {As:List At} {ys:List V} {k:Int} (hA:aj K H (As.map dA) ys) (h:PIn As.length k):∃ x a,atI ys ((if k < 0 then -k else k) - 1)=some x∧a∈As∧Has K H (dA a) x∧As[(((k.natAbs:Nat):Int) - 1).toNat]?=some a:=by
 obtain⟨p0,p1,p2⟩:=h
 have yl:ys.length=As.length:=by rw[←hA.length,lM]
 have eabs:(if k < 0 then -k else k)=((k.natAbs:Nat):Int):=by split <;> omega
 obtain⟨x,x1,x2⟩:=zbB (xs:=ys) (i:=((k.natAbs:Nat):Int) - 1) (by omega) (by omega)
 obtain⟨a,ea,hax⟩:=ze1 hA x1
 exact⟨x,a,by rw[eabs];exact x2,mOq ea,hax,ea⟩
inductive zhz (K:W.Frag) (C:Addr):Sp|m{vs H Q E9} (p tl al rl q r:Addr) (T:List Tm) (As:List At) (Rs:List (List Int)) (ps rs:List Int):vs=[.ref p,.ref q,.ref r]→PrD K C H p tl al rl T As Rs→SqI K H q ps→(∀ k∈ps,PIn As.length k)→SqL K H r (rs.map V.int)→rs.length=T.length→(∀ H',ai H H'→Q .non H')→(∀(H':Hp) (l:Addr) (lk:Lk),ai H H'→SqT K H' l [.int lk.1,.int lk.2.1,.int lk.2.2]→zb2 T.length As.length lk→Q (.ref l) H')→zhz K C vs H Q E9
theorem zcK:aO ["_law_problem","_law_parts","_law_roots","_law_part","_law_atom","_law_one","_law_other"] ["_law_problem","_law_parts","_law_roots"] (aw zeR):=fsc
theorem zmu (F:Fun K "_law_next" "_law_next" zeR f fd) (T:Txt K mg aK C CN CT CP CM) (mrange:mg "range"=none) (mabs:mg "abs"=none) (BA:FB P w K mg base CX0 1 "_law_alike" fA dA' ["_law_terms","_law_roots","_law_one","_law_other"] (zeD K)):aI P w K mg base CX0 2 f fd ["_law_problem","_law_parts","_law_roots"] (zhz K C):=by
 refine F.ok zcK (λvs H Q E h=>?_) (λcdv A outer s H vs Q E hr h=>?_)
 ·obtain⟨p,tl,al,rl,q,r,T',As,Rs,ps,rs,rfl,_⟩:=h
  rfl
 obtain⟨p,tl,al,rl,q,r,T',As,Rs,ps,rs,rfl,S,hq,pin,hR,rl',q0,q1⟩:=h
 refine⟨_,(af (zah PassesOwn.never rfl (zhD (pv 1)) (zac (i:=3) zcK.nd rfl (Or.inl rfl))
   (af (aE (i:=4) zcK.nd rfl (Or.inl rfl) (ap zab (zae (pv 0) rfl) (aq zbA (ao zb4 rfl mabs PyProof.Rows.Boot.abs (aa (pv 3) ac)) ad)))
    (ah (aL (PW.pt (za2 (au zbR (pv 3) ad) (za2 (au zaf (ap az (pv 4) ad) aU) (za5 (au zcN (ap zab (pv 2) (ap az (pv 4) ad)) (ap zab (pv 2) (ap az (pv 4) ad)))))))
     (ah (ay (aS (aa (ap az (pv 4) ad) (aa (ap az (pv 4) ad) (aa (zbk za1 (pv 3)) ac))))))
     aA))))
  (af (zah PassesOwn.never rfl (zaV rfl mrange (aa (ao ar rfl T.len PySem.boot_len (aa (pv 2) ac)) ac)) (zac (i:=5) zcK.nd rfl (Or.inl rfl))
   (ah (zah PassesOwn.never rfl (zaV rfl mrange (aa (pv 5) ac)) (zac (i:=6) zcK.nd rfl (Or.inl rfl))
     (ah (aL (PW.pt (za2 (au zcN (ap zab (pv 2) (pv 5)) (ap zab (pv 2) (pv 6))) (za5 (zaS (aB BA.ok hr rfl BA.m BA.kp BA.b .nil aR (aa (zae (pv 0) rfl) (aa (pv 2) (aa (pv 5) (aa (pv 6) ac)))))))))
       (ah (ay (aS (aa (pv 5) (aa (pv 6) (aa ad ac))))))
       aA)))))
  (ah (ay zb8)))),?_⟩
 try dsimp only [Cx.nox,Cx.wish,aV]
 obtain⟨⟨dx,ho⟩,⟨ts,ht,hT⟩,⟨ys,ha,hA⟩,_⟩:=id S.pr
 have tN:=S.tN
 refine⟨_,rfl,q,ps,rfl,hq,λJ ⟨Ok,W,ok,yl'⟩=>zdm W (λi σ H'=>∃(v3 v4:Option V),σ=[some (.ref p),some (.ref q),some (.ref r),v3,v4,none,none]∧H'=H) (λi σ H' ⟨_,_,_,e⟩=>e ▸ ok _ (ai.refl _)) ⟨none,none,rfl,rfl⟩ ?_ ?_⟩
 ·rintro i σ H9 x H3 hi ⟨v3,v4,rfl,rfl⟩ yy
  obtain⟨rfl,k,hk,rfl⟩:=yl' _ _ _ _ (ai.refl _) yy
  have pk:=pin k (mOq hk)
  obtain⟨x,a,x2,am,hax,_⟩:=zjH hA pk
  refine⟨_,rfl,p,C,dx,_,_,rfl,ho,T.cl,T.nA,zai _ _ _,_,rfl,_,rfl,_,_,rfl,rfl,al,_,_,_,rfl,rfl,SqL.of ha,x2,?_⟩
  refine⟨_,rfl,_,_,rfl,rfl,_,rfl,aJ (λc=>?_) (λc=>aY ⟨_,_,rfl,rfl⟩)⟩
  have c':k < 0:=of_decide_eq_true c
  cases a with
  | plain z =>
   obtain⟨qq,rfl,hqq⟩:=zce hax
   exact⟨_,rfl,qq,_,_,_,rfl,rfl,hqq,aF (j:=0) rfl,rfl,_,rfl,aJ (λc=>absurd (of_decide_eq_true c) (by decide +kernel)) (λc=>aY ⟨_,_,rfl,rfl⟩)⟩
  | same x y =>
   obtain⟨qq,rfl,hqq⟩:=zcG hax
   obtain⟨in1,in2⟩:=S.dm.am x y am
   have i1:=in1
   have i2:=in2
   rw[←rl']at i1 i2
   refine⟨_,rfl,qq,_,_,_,rfl,rfl,hqq,aF (j:=0) rfl,rfl,_,rfl,aJ (λc=>⟨_,rfl,_,rfl,qq,_,_,_,rfl,rfl,hqq,aF (j:=1) rfl,r,_,_,_,rfl,rfl,hR,zcg i1,_,rfl,_,rfl,qq,_,_,_,rfl,rfl,hqq,aF (j:=2) rfl,r,_,_,_,rfl,rfl,hR,zcg i2,rfl,_,rfl,aJ (λc3=>?_) (λc3=>⟨_,_,rfl,rfl⟩)⟩) (λc=>absurd (decide_eq_true rfl) c)⟩
   refine⟨_,rfl,qq,_,_,_,rfl,rfl,hqq,aF (j:=1) rfl,_,rfl,qq,_,_,_,rfl,rfl,hqq,aF (j:=2) rfl,_,rfl,_,rfl,lS3,λl hl=>?_⟩
   obtain⟨p0,p1,p2⟩:=pk
   exact q1 _ l (x,y,-k) (ag hl _) (SqT.of ae) ⟨in1,in2,by show 0≤-k;omega,by show -k≤_;omega⟩
 ·rintro σ H2 ⟨v3,v4,rfl,rfl⟩
  refine⟨_,rfl,r,_,rfl,.inl hR,_,rfl,(by omega),(by rw[lM];omega),zaL (lo:=0) (n:=(((rs.map V.int).length:Nat):Int).toNat) (λi σ H'=>∃(v5 v6:Option V),σ=[some (.ref p),some (.ref q),some (.ref r),v3,v4,v5,v6]∧ai H2 H') ⟨none,none,rfl,ai.refl _⟩ ?_ ?_⟩
  ·rintro i σ H3 hi ⟨v5,v6,rfl,s3⟩
   rw[Int.toNat_natCast,lM]at hi
   refine⟨_,rfl,_,rfl,(by show -(2 ^ 62)≤(0:Int)+(i:Nat);omega),(by show(0:Int)+(i:Nat) < 2 ^ 62;omega),zaL (lo:=0) (n:=((0:Int)+((i:Nat):Int)).toNat) (λj σ H'=>∃(v6:Option V),σ=[some (.ref p),some (.ref q),some (.ref r),v3,v4,some (.int ((0:Int)+((i:Nat):Int))),v6]∧ai H2 H') ⟨_,rfl,s3⟩ ?_ ?_⟩
   ·rintro j σ H4 hj ⟨v6,rfl,s4⟩
    have ii:InR rs.length ((0:Int)+((i:Nat):Int)):=⟨by omega,by omega⟩
    have jj:InR rs.length ((0:Int)+((j:Nat):Int)):=⟨by omega,by omega⟩
    have hR4:=s4.seq hR
    refine⟨_,rfl,_,rfl,r,_,_,_,rfl,rfl,hR4,zcg ii,_,rfl,_,rfl,r,_,_,_,rfl,rfl,hR4,zcg jj,rfl,_,rfl,aJ (λc=>?_) (λc=>aY ⟨_,rfl,s4⟩)⟩
    rw[rl']at ii jj
    refine⟨_,rfl,p,C,dx,_,_,rfl,s4 _ _ ho,T.cl,T.nT,zaO _ _ _,_,rfl,_,rfl,_,rfl,tl,r,ts,T',rs,_,_,rfl,SqL.of (s4 _ _ ht),hT.keep s4.kt (zbh _),S.dm.tm,S.t3,hR4,rl',ii,jj,λH5 s5=>⟨_,rfl,aJ (λc2=>?_) (λc2=>⟨_,rfl,s4.trans s5⟩)⟩⟩
    refine⟨_,rfl,_,rfl,lS3,λl hl=>?_⟩
    exact q1 _ l (0+((i:Nat):Int),0+((j:Nat):Int),0) ((s4.trans s5).trans (ag hl _)) (SqT.of ae) ⟨ii,jj,by show(0:Int)≤0;omega,by show(0:Int)≤_;omega⟩
   ·rintro σ H4 ⟨v6,rfl,s4⟩
    exact⟨_,_,rfl,s4⟩
  ·rintro σ H3 ⟨v5,v6,rfl,s3⟩
   exact q0 H3 s3
inductive zfT (K:W.Frag) (C:Addr):Sp|m{vs H Q E9} (p tl al rl q:Addr) (T:List Tm) (As:List At) (Rs:List (List Int)) (ps:List Int):vs=[.ref p,.ref q]→PrD K C H p tl al rl T As Rs→SqI K H q ps→(∀ k∈ps,PIn As.length k)→(∀(H':Hp) (l:Addr) (us:List V) (ls:List Lk),ai H H'→H l=none→H' l=some (.lst us)→aj K H' (ls.map dL) us→(∀ lk∈ls,zb2 T.length As.length lk)→ls.length≤T.length→Q (.ref l) H')→zfT K C vs H Q E9
theorem zbV:aO ["_law_problem","_law_parts","_law_roots","_law_bonds","_law_step","_law_link"] ["_law_problem","_law_parts"] (aw zer):=fsc
theorem zkU (F:Fun K "_law_links" "_law_links" zer f fd) (T:Txt K mg aK C CN CT CP CM) (mlist:mg "list"=none) (mrange:mg "range"=none) (BN:FB P w K mg base CX0 2 "_law_next" fN dN ["_law_problem","_law_parts","_law_roots"] (zhz K C)) (BM:FB P w K mg base CX0 1 "_law_merged" fM dM ["_law_roots","_law_one","_law_other"] (zd4 K)):aI P w K mg base CX0 3 f fd ["_law_problem","_law_parts"] (zfT K C):=by
 refine F.ok zbV (λvs H Q E h=>?_) (λcdv A outer s H vs Q E hr h=>?_)
 ·obtain⟨p,tl,al,rl,q,T',As,Rs,ps,rfl,_⟩:=h
  rfl
 obtain⟨p,tl,al,rl,q,T',As,Rs,ps,rfl,S,hq,pin,Q0⟩:=h
 have hr1:zaq 1 _:=hr.mono (by decide)
 refine⟨_,(af (aE (i:=2) zbV.nd rfl (Or.inl rfl) (zar (zfz rfl) rfl mlist PyProof.Rows.Boot.list (aa (zhT rfl mrange (aa (ao ar rfl T.len PySem.boot_len (aa (zae (pv 0) rfl) ac)) ac)) ac)))
  (af (aE (i:=3) zbV.nd rfl (Or.inl rfl) (zag ac))
  (af (zah PassesOwn.never rfl (zaV rfl mrange (aa (ao ar rfl T.len PySem.boot_len (aa (pv 2) ac)) ac)) (zac (i:=4) zbV.nd rfl (Or.inl rfl))
   (af (aE (i:=5) zbV.nd rfl (Or.inl rfl) (aB BN.ok hr rfl BN.m BN.kp BN.b .nil aR (aa (pv 0) (aa (pv 1) (aa (pv 2) ac)))))
    (af (aL (au zhf (pv 5) zb8)
     (ah (ay (pv 3)))
     aA)
    (af (zak (zbt PySem.F.plainAttrs_list PySem.F.slot_list_append PySem.F.type_list_append zaE (pv 3) (aa (pv 5) ac)))
    (ah (aE (i:=2) zbV.nd rfl (Or.inl rfl) (aB BM.ok hr1 rfl BM.m BM.kp BM.b .nil aR (aa (pv 2) (aa (ap az (pv 5) ad) (aa (ap az (pv 5) ad) ac))))))))))
  (ah (ay (pv 3)))))),?_⟩
 try dsimp only [Cx.nox,Cx.wish,aV]
 obtain⟨⟨dx,ho⟩,⟨ts,ht,hT⟩,_⟩:=id S.pr
 have tl':ts.length=T'.length:=by rw[←hT.length,lM]
 have tN:=S.tN
 refine⟨_,rfl,p,C,dx,_,_,rfl,ho,T.cl,T.nT,zaO _ _ _,tl,_,rfl,.inl (SqL.of ht),_,rfl,λr0 hr0=>?_⟩
 have s0:=ag hr0 (.rng 0 ((ts.length:Nat):Int))
 have n0:=ae (H:=H) (a:=r0) (o:=.rng 0 ((ts.length:Nat):Int))
 generalize upd H r0 (.rng 0 ((ts.length:Nat):Int))=H0 at s0 n0
 refine⟨r0,_,rfl,n0,(by omega),(by omega),λr1 hr1'=>?_⟩
 have e0:(((List.range (((ts.length:Nat):Int)).toNat).map λi:Nat=>(i:Int)).map V.int)=(zbE T'.length).map V.int:=by
  rw[Int.toNat_natCast,tl']
  rfl
 rw[e0]
 have s1:=s0.trans (ag hr1' (.lst ((zbE T'.length).map V.int)))
 have n1:=ae (H:=H0) (a:=r1) (o:=.lst ((zbE T'.length).map V.int))
 generalize upd H0 r1 (.lst ((zbE T'.length).map V.int))=H1 at s1 n1
 refine⟨lS0,λl hl=>?_⟩
 have lH:H l=none:=s1.free hl
 have s2:=s1.trans (ag hl (.lst []))
 have n2:=ae (H:=H1) (a:=l) (o:=.lst [])
 have m2:=ag hl (.lst []) _ _ n1
 have nrl:r1≠l:=zaa n1 hl
 generalize upd H1 l (.lst [])=H2 at s2 n2 m2
 refine⟨_,rfl,r1,_,rfl,.inl (SqL.of m2),_,rfl,(by omega),(by rw[lM,zcF];omega),zaL (lo:=0) (n:=((((zbE T'.length).map V.int).length:Nat):Int).toNat) (λi σ H'=>∃(r:Addr) (rs:List Int) (v4 v5:Option V) (us:List V) (ls:List Lk),σ=[some (.ref p),some (.ref q),some (.ref r),some (.ref l),v4,v5]∧ai H H'∧r≠l∧H' r=some (.lst (rs.map V.int))∧rs.length=T'.length∧H' l=some (.lst us)∧aj K H' (ls.map dL) us∧(∀ lk∈ls,zb2 T'.length As.length lk)∧ls.length=i) ⟨r1,_,none,none,[],[],rfl,s2,nrl,m2,zcF _,n2,aj.nil,(λ_ h=>nomatch h),rfl⟩ ?_ ?_⟩
 ·rintro i σ H3 hi ⟨r,rs,v4,v5,us,ls,rfl,s3,nrl3,hr3,rl3,hl3,hL3,lin,li⟩
  rw[Int.toNat_natCast,lM,zcF]at hi
  have ul:us.length=ls.length:=by rw[←hL3.length,lM]
  refine⟨_,rfl,_,rfl,_,rfl,p,tl,al,rl,q,r,T',As,Rs,ps,rs,rfl,S.same s3,hq.same s3,pin,SqL.of hr3,rl3,λH4 s4=>?_,λH4 b lk s4 hb lkin=>?_⟩
  ·exact⟨_,rfl,rfl,_,rfl,zao ⟨_,rfl,Q0 H4 l us ls (s3.trans s4) lH (s4 _ _ hl3) (hL3.keep s4.kt (zaJ _)) lin (by omega)⟩⟩
  ·refine⟨_,rfl,rfl,_,rfl,aJ (λc=>absurd (of_decide_eq_true c) (by intro z;cases z)) (λc=>?_)⟩
   have hl4:=s4 _ _ hl3
   have hL4:=hL3.keep s4.kt (zaJ _)
   refine⟨_,rfl,.inl ⟨rfl,_,SqL.of hl4⟩,_,rfl,l,_,_,rfl,rfl,hl4,zaC (by omega),?_⟩
   have kt:=zaw.lst (ys:=us++[.ref b]) hl4
   have s5:=(s3.trans s4).upd (o:=.lst (us++[.ref b])) lH
   have n5:=ae (H:=H4) (a:=l) (o:=.lst (us++[.ref b]))
   have r5:upd H4 l (.lst (us++[.ref b])) r=some (.lst (rs.map V.int)):=by rw[aD nrl3];exact s4 _ _ hr3
   have hb5:=kt.sq hb
   have hL5:aj K (upd H4 l (.lst (us++[.ref b]))) ((ls++[lk]).map dL) (us++[.ref b]):=by
    rw[mAq]
    exact aj.append (hL4.keep kt (zaJ _)) (aj.one (Has.link hb5))
   generalize upd H4 l (.lst (us++[.ref b]))=H5 at s5 n5 r5 hb5 hL5
   refine⟨_,rfl,_,rfl,b,_,_,_,rfl,rfl,hb5,l0 lk,_,rfl,b,_,_,_,rfl,rfl,hb5,l1 lk,r,rs,lk.1,lk.2.1,rfl,SqL.of r5,by rw[rl3];exact lkin.1,by rw[rl3];exact lkin.2.1,by omega,λH6 r6 s6 f6 hr6=>?_⟩
   refine⟨r6,_,_,_,_,ls++[lk],rfl,s5.trans s6,(zaa n5 f6).symm,hr6,by rw[zhn];exact rl3,s6 _ _ n5,hL5.keep s6.kt (zaJ _),λu hu=>?_,by simp [li]⟩
   rcases mPq hu with h | h
   ·exact lin u h
   ·rw[mSq h];exact lkin
 ·rintro σ H3 ⟨r,rs,v4,v5,us,ls,rfl,s3,nrl3,hr3,rl3,hl3,hL3,lin,li⟩
  rw[Int.toNat_natCast,lM,zcF]at li
  exact⟨_,rfl,Q0 H3 l us ls s3 lH hl3 hL3 lin (by omega)⟩
inductive zih (K:W.Frag) (C:Addr):Sp|m{vs H Q E9} (p tl al rl q:Addr) (T:List Tm) (As:List At) (Rs:List (List Int)) (ps:List Int):vs=[.ref p,.ref q]→PrD K C H p tl al rl T As Rs→SqI K H q ps→(∀ k∈ps,PIn As.length k)→1≤T.length→(∀(H':Hp) (l:Addr) (lk:Lk),ai H H'→SqT K H' l [.int lk.1,.int lk.2.1,.int lk.2.2]→zb2 T.length As.length lk→Q (.ref l) H')→zih K C vs H Q E9
theorem zgC:aO ["_law_problem","_law_parts","_law_part"] ["_law_problem","_law_parts"] (aw zfv):=fsc
theorem ok_aim (F:Fun K "_law_aim" "_law_aim" zfv f fd) (T:Txt K mg aK C CN CT CP CM):aI P w K mg base CX0 1 f fd ["_law_problem","_law_parts"] (zih K C):=by
 refine F.ok zgC (λvs H Q E h=>?_) (λcdv A outer s H vs Q E hr h=>?_)
 ·obtain⟨p,tl,al,rl,q,T',As,Rs,ps,rfl,_⟩:=h
  rfl
 obtain⟨p,tl,al,rl,q,T',As,Rs,ps,rfl,S,hq,pin,t1,Q0⟩:=h
 refine⟨_,(af (zah PassesOwn.never rfl (zhD (pv 1)) (zac (i:=2) zgC.nd rfl (Or.inl rfl))
   (ah (aL (PW.pt (za2 (au zcf (pv 2) ad) (za5 (au zaf (ap az (ap zab (zae (pv 0) rfl) (aq zbA (pv 2) ad)) ad) aU))))
     (ah (ay (aq zjs (zaj zeU (ap zab (zae (pv 0) rfl) (aq zbA (pv 2) ad)) (zas ad) zat) (aS (aa (pv 2) ac)))))
     aA)))
  (ah (ay (aS (aa ad (aa ad (aa ad ac))))))),?_⟩
 try dsimp only [Cx.nox,Cx.wish,aV]
 obtain⟨⟨dx,ho⟩,_,⟨ys,ha,hA⟩,_⟩:=id S.pr
 have yl:ys.length=As.length:=by rw[←hA.length,lM]
 refine⟨_,rfl,q,ps,rfl,hq,λJ ⟨Ok,W,ok,yl'⟩=>zdm W (λi σ H'=>∃(v2:Option V),σ=[some (.ref p),some (.ref q),v2]∧H'=H) (λi σ H' ⟨_,_,e⟩=>e ▸ ok _ (ai.refl _)) ⟨none,rfl,rfl⟩ ?_ ?_⟩
 ·rintro i σ H9 x H3 hi ⟨v2,rfl,rfl⟩ yy
  obtain⟨rfl,k,hk,rfl⟩:=yl' _ _ _ _ (ai.refl _) yy
  obtain⟨p0,p1,p2⟩:=pin k (mOq hk)
  refine⟨_,rfl,_,_,rfl,rfl,_,rfl,aJ (λc=>?_) (λc=>aY ⟨_,rfl,rfl⟩)⟩
  have c':0 < k:=of_decide_eq_true c
  obtain⟨x,x1,x2⟩:=zbB (xs:=ys) (i:=k - 1) (by omega) (by omega)
  obtain⟨a,ea,hax⟩:=ze1 hA x1
  have am:=mOq ea
  cases a with
  | plain z =>
   obtain⟨qq,rfl,hqq⟩:=zce hax
   exact⟨_,rfl,p,C,dx,_,_,rfl,ho,T.cl,T.nA,zai _ _ _,_,rfl,_,_,rfl,rfl,al,_,_,_,rfl,rfl,SqL.of ha,x2,qq,_,_,_,rfl,rfl,hqq,aF (j:=0) rfl,rfl,_,rfl,aJ (λc=>absurd (of_decide_eq_true c) (by decide +kernel)) (λc=>⟨_,rfl,rfl⟩)⟩
  | same x y =>
   obtain⟨qq,rfl,hqq⟩:=zcG hax
   obtain⟨in1,in2⟩:=S.dm.am x y am
   refine⟨_,rfl,p,C,dx,_,_,rfl,ho,T.cl,T.nA,zai _ _ _,_,rfl,_,_,rfl,rfl,al,_,_,_,rfl,rfl,SqL.of ha,x2,qq,_,_,_,rfl,rfl,hqq,aF (j:=0) rfl,rfl,_,rfl,aJ (λc=>?_) (λc=>absurd (decide_eq_true rfl) c)⟩
   refine⟨_,rfl,p,C,dx,_,_,rfl,ho,T.cl,T.nA,zai _ _ _,_,rfl,_,_,rfl,rfl,al,_,_,_,rfl,rfl,SqL.of ha,x2,_,rfl,qq,_,rfl,hqq,(by show ¬(1=0∧_);rintro ⟨z,_⟩;exact absurd z (by decide)),λb hb=>?_⟩
   have s1:=ag hb (.tup (aQ [.str "same",.int x,.int y] (some 1) none))
   have n1:upd H3 b (.tup (aQ [.str "same",.int x,.int y] (some 1) none)) b=some (.tup [.int x,.int y]):=ae
   generalize upd H3 b (.tup (aQ [.str "same",.int x,.int y] (some 1) none))=H4 at s1 n1 ⊢
   refine⟨_,rfl,lS1,λd hd=>?_⟩
   have s2:=ag hd (.tup [.int k])
   have n2:=ae (H:=H4) (a:=d) (o:=.tup [.int k])
   generalize upd H4 d (.tup [.int k])=H5 at s2 n2
   refine⟨b,d,_,_,rfl,rfl,SqT.of (s2 _ _ n1),SqT.of n2,(λz=>nomatch z),(by show 3≤sizeLine;decide),(λz=>nomatch z),λ_ m hm=>?_⟩
   exact Q0 _ m (x,y,k) ((s1.trans s2).trans (ag hm _)) (SqT.of ae) ⟨in1,in2,by show 0≤k;omega,p2⟩
 ·rintro σ H2 ⟨v2,rfl,rfl⟩
  refine⟨lS3,λl hl=>?_⟩
  exact Q0 _ l (0,0,0) (ag hl _) (SqT.of ae) ⟨⟨by decide,by show(0:Int) < _;omega⟩,⟨by decide,by show(0:Int) < _;omega⟩,by decide,by show(0:Int)≤_;omega⟩
theorem aj.takeD {H:Hp}:∀ {ds:List Dt} {vs:List V} (n:Nat),aj K H ds vs→aj K H (ds.take n) (vs.take n)
 | _,_,0,_=>by simp only[List.take_zero];exact .nil
 | [],[],n+1,_=>by simp only[List.take_nil];exact .nil
 | [],_ :: _,_,h=>by simp only[aj]at h;cases h
 | d :: ds,vs,n+1,h=>by
  simp only[aj]at h
  obtain⟨v,r,rfl,h1,h2⟩:=h
  simp only[List.take_succ_cons]
  exact .cons h1 (aj.takeD n h2)
theorem aj.dropD {H:Hp}:∀ {ds:List Dt} {vs:List V} (n:Nat),aj K H ds vs→aj K H (ds.drop n) (vs.drop n)
 | _,_,0,h=>h
 | [],[],n+1,_=>by simp only[List.drop_nil];exact .nil
 | [],_ :: _,_,h=>by simp only[aj]at h;cases h
 | d :: ds,vs,n+1,h=>by
  simp only[aj]at h
  obtain⟨v,r,rfl,h1,h2⟩:=h
  simp only[List.drop_succ_cons]
  exact aj.dropD n h2
theorem cutL {H:Hp} {ls:List Lk} {us:List V} (h:aj K H (ls.map dL) us) (lo hi:Option Int):∃ ls':List Lk,aj K H (ls'.map dL) (aQ us lo hi)∧ls'.length≤ls.length∧∀ l∈ls',l∈ls:=by
 unfold aQ
 refine⟨_,by have:=aj.takeD (HT.sIx us.length us.length hi - HT.sIx us.length 0 lo) (aj.dropD (HT.sIx us.length 0 lo) h);rw[←List.map_drop,←List.map_take]at this;exact this,?_,λl hl=>List.mem_of_mem_drop (List.mem_of_mem_take hl)⟩
 rw[List.length_take,List.length_drop]
 omega
theorem cutIs (ns:List Int) (lo hi:Option Int):∃ ms:List Int,aQ (ns.map V.int) lo hi=ms.map V.int∧ms.length≤ns.length∧∀ k∈ms,k∈ns:=by
 unfold aQ
 refine⟨_,by rw[←List.map_drop,←List.map_take],?_,λl hl=>List.mem_of_mem_drop (List.mem_of_mem_take hl)⟩
 rw[List.length_take,List.length_drop]
 omega
inductive sp_spoilt (K:W.Frag) (C:Addr):Sp|m{vs H Q E9} (p tl al rl q l:Addr) (T:List Tm) (As:List At) (Rs:List (List Int)) (ps:List Int) (c:Int) (us:List V) (ls:List Lk):vs=[.ref p,.ref q,.ref l,.int c]→PrD K C H p tl al rl T As Rs→SqI K H q ps→(∀ k∈ps,PIn As.length k)→1≤T.length→As.length≤1000→H l=some (.lst us)→aj K H (ls.map dL) us→(∀ lk∈ls,zb2 T.length As.length lk)→ls.length≤300→(∀(H':Hp) (l':Addr) (us':List V) (ls':List Lk),ai H H'→(l'=l∨H l'=none)→H' l'=some (.lst us')→aj K H' (ls'.map dL) us'→(∀ lk∈ls',zb2 T.length As.length lk)→ls'.length≤2 * ls.length+1→Q (.ref l') H')→sp_spoilt K C vs H Q E9
theorem za0:aO ["_law_problem","_law_parts","_law_bonds","_law_cell","_law_at","_law_rest","_law_far","_law_many","_law_aim_here"] ["_law_problem","_law_parts","_law_bonds","_law_cell"] (aw zcw):=fsc
theorem dL_mem {H:Hp} {ls:List Lk} {us:List V} {i:Int} (h:aj K H (ls.map dL) us) (h0:0≤i) (h1:i < (us.length:Int)):∃ lk b,lk∈ls∧atI us i=some (.ref b)∧SqT K H b [.int lk.1,.int lk.2.1,.int lk.2.2]:=by
 obtain⟨x,x1,x2⟩:=zbB h0 h1
 obtain⟨lk,b,e1,rfl,e3⟩:=zid h x1
 exact⟨lk,b,mOq e1,x2,e3⟩
theorem ok_spoilt (F:Fun K "_law_links_spoilt" "_law_links_spoilt" zcw f fd) (T:Txt K mg aK C CN CT CP CM) (BA:FB P w K mg base CX0 1 "_law_aim" fA dA' ["_law_problem","_law_parts"] (zih K C)):aI P w K mg base CX0 2 f fd ["_law_problem","_law_parts","_law_bonds","_law_cell"] (sp_spoilt K C):=by
 refine F.ok za0 (λvs H Q E h=>?_) (λcdv A outer s H vs Q E hr h=>?_)
 ·obtain⟨p,tl,al,rl,q,l,T',As,Rs,ps,c,us,ls,rfl,_⟩:=h
  rfl
 obtain⟨p,tl,al,rl,q,l,T',As,Rs,ps,c,us,ls,rfl,S,hq,pin,t1,a1000,hl,hL,lin,l300,Q0⟩:=h
 refine⟨_,(af (aE (i:=4) za0.nd rfl (Or.inl rfl) (aq zad (aq zau (pv 3) ad) (aq zal (ao ar rfl T.len PySem.boot_len (aa (pv 2) ac)) ad)))
  (af (aE (i:=5) za0.nd rfl (Or.inl rfl) (aq zau (aq zau (pv 3) ad) (aq zal (ao ar rfl T.len PySem.boot_len (aa (pv 2) ac)) ad)))
  (af (aE (i:=6) za0.nd rfl (Or.inl rfl) (aq zal (ao ar rfl T.len PySem.boot_len (aa (zae (pv 0) rfl) ac)) ad))
  (af (aE (i:=7) za0.nd rfl (Or.inl rfl) (ao ar rfl T.len PySem.boot_len (aa (zae (pv 0) rfl) ac)))
  (af (aE (i:=8) za0.nd rfl (Or.inl rfl) (aB BA.ok hr rfl BA.m BA.kp BA.b .nil aR (aa (pv 0) (aa (pv 1) ac))))
  (af (aL (au zaf (aq zad (pv 3) ad) ad)
   (ah (ay (aq zaB (zaj zaG (pv 2) zat (zas (pv 4))) (zaj zaG (pv 2) (zas (aq zal (pv 4) ad)) zat))))
   aA)
  (af (aL (au zaf (aq zad (pv 3) ad) ad)
   (ah (ay (aq zaB (zaj zaG (pv 2) (zas (pv 4)) zat) (zaj zaG (pv 2) zat (zas (pv 4))))))
   aA)
  (af (aL (au zaf (aq zad (pv 3) ad) ad)
   (ah (ay (aq zaB (aq zaB (zaj zaG (pv 2) zat (zas (pv 4))) (zag (aa (aS (aa (aq zad (pv 5) (pv 7)) (aa (aq zad (aq zau (pv 5) (pv 7)) (pv 7)) (aa (aq zad (aq zau (aq zau (pv 5) (pv 7)) (pv 7)) (pv 6)) ac)))) ac))) (zaj zaG (pv 2) (zas (pv 4)) zat))))
   aA)
  (af (aL (au zaf (aq zad (pv 3) ad) ad)
   (ah (ay (zbQ (N':=["_law_bond"]) (ix:=[]) rfl rfl (by decide +kernel) (by decide +kernel) rfl (λ_=>⟨[],za3 (by decide +kernel) (by decide +kernel)⟩) (by decide +kernel) rfl rfl (λj i h=>by simp at h) (za6 (pv 2)) (λ_ _ _ _=>(aS (aa (ap (r:=zee K) az (pv 0) ad) (aa (ap (r:=zee K) az (pv 0) ad) (aa (ap (r:=zee K) az (pv 0) ad) ac))))))))
   aA)
  (af (aL (PW.pt (za2 (au zaf (aq zad (pv 3) ad) ad) (za5 (au zbR (pv 4) (ao ar rfl T.len PySem.boot_len (aa (pv 2) ac))))))
   (ah (ay (aq zaB (aq zaB (zaj zaG (pv 2) zat (zas (pv 4))) (zag (aa (aS (aa (ap az (ap zab (pv 2) (pv 4)) ad) (aa (ap az (ap zab (pv 2) (pv 4)) ad) (aa (aq zad (pv 5) (pv 6)) ac)))) ac))) (zaj zaG (pv 2) (zas (aq zal (pv 4) ad)) zat))))
   aA)
  (af (aL (au zaf (aq zad (pv 3) ad) ad)
   (ah (ay (aq zaB (pv 2) (zag (aa (aS (aa (ap az (pv 8) ad) (aa (ap az (pv 8) ad) (aa (aq zkh (ap az (pv 8) ad) (aq zad (pv 5) ad)) ac)))) ac)))))
   aA)
  (ah (ay (pv 2)))))))))))))),?_⟩
 try dsimp only [Cx.nox,Cx.wish,aV]
 obtain⟨⟨dx,ho⟩,⟨ts,ht,hT⟩,⟨ys,ha,hA⟩,_⟩:=id S.pr
 have tl':ts.length=T'.length:=by rw[←hT.length,lM]
 have yl:ys.length=As.length:=by rw[←hA.length,lM]
 have ul:us.length=ls.length:=by rw[←hL.length,lM]
 have tN:=S.tN
 refine⟨_,rfl,_,_,rfl,rfl,⟨by decide,by decide⟩,_,rfl,l,_,rfl,.inl (SqL.of hl),_,_,rfl,rfl,_,_,rfl,rfl,(by show(0:Int) < ((us.length:Nat):Int)+1;omega),?_⟩
 have b4:=zbH (c / 9) (show(0:Int) < ((us.length:Nat):Int)+1 by omega)
 refine⟨_,rfl,_,_,rfl,rfl,⟨by decide,by decide⟩,_,rfl,l,_,rfl,.inl (SqL.of hl),_,_,rfl,rfl,_,_,rfl,rfl,⟨by show(0:Int) < ((us.length:Nat):Int)+1;omega,by show((us.length:Nat):Int)+1 < 1073741824;omega⟩,?_⟩
 refine⟨_,rfl,p,C,dx,_,_,rfl,ho,T.cl,T.nA,zai _ _ _,al,_,rfl,.inl (SqL.of ha),_,_,rfl,rfl,?_⟩
 refine⟨_,rfl,p,C,dx,_,_,rfl,ho,T.cl,T.nT,zaO _ _ _,tl,_,rfl,.inl (SqL.of ht),?_⟩
 refine⟨_,rfl,_,rfl,p,tl,al,rl,q,T',As,Rs,ps,rfl,S,hq,pin,t1,λH1 m ak s1 hm akin=>?_⟩
 have hl1:=s1 _ _ hl
 have hL1:=hL.keep s1.kt (zaJ _)
 have fin:∀(H':Hp) (l':Addr) (us':List V) (ls':List Lk),ai H1 H'→(l'=l∨H1 l'=none)→H' l'=some (.lst us')→aj K H' (ls'.map dL) us'→(∀ lk∈ls',zb2 T'.length As.length lk)→ls'.length≤2 * ls.length+1→Q (.ref l') H':=λH' l' us' ls' s' n'=>Q0 H' l' us' ls' (s1.trans s') (n'.imp id s1.free)
 have two:∀(H2:Hp) (lo hi lo' hi':Option Int) (Qq:V→Hp→Prop),ai H1 H2→(∀(H':Hp) (l':Addr) (us':List V) (ls':List Lk),ai H1 H'→H1 l'=none→H' l'=some (.lst us')→aj K H' (ls'.map dL) us'→(∀ lk∈ls',zb2 T'.length As.length lk)→ls'.length≤2 * ls.length→Qq (.ref l') H') →
   ∀ d,H2 d=none→∀ e,upd H2 d (.lst (aQ us lo hi)) e=none→rCat (.ref d) (.ref e) (upd (upd H2 d (.lst (aQ us lo hi))) e (.lst (aQ us lo' hi'))) Qq:=by
  intro H2 lo hi lo' hi' Qq s2 out d hd e he
  obtain⟨k1,g1,g2,g3⟩:=cutL hL1 lo hi
  obtain⟨k2,g4,g5,g6⟩:=cutL hL1 lo' hi'
  have u1:=zap us lo hi
  have u2:=zap us lo' hi'
  have sD:=ag hd (.lst (aQ us lo hi))
  have sE:=ag he (.lst (aQ us lo' hi'))
  refine⟨d,e,_,_,rfl,rfl,sE _ _ ae,ae,sz _ (by omega),λx hx=>?_⟩
  have sX:=ag hx (.lst (aQ us lo hi++aQ us lo' hi'))
  have all:=((s2.trans sD).trans sE).trans sX
  refine out _ x _ (k1++k2) all (((s2.trans sD).trans sE).free hx) ae ?_ (λlk h=>?_) (by rw[lAq];omega)
  ·rw[mAq]
   exact aj.append (g1.keep all.kt (zaJ _)) (g4.keep all.kt (zaJ _))
  ·rcases mPq h with h | h
   ·exact lin _ (g3 _ h)
   ·exact lin _ (g6 _ h)
 have three:∀(H2:Hp) (lo hi lo' hi':Option Int) (lk:Lk),ai H1 H2→zb2 T'.length As.length lk→∀ d,H2 d=some (.lst (aQ us lo hi))→∀(H3:Hp) (b e:Addr),ai H2 H3→SqT K H3 b [.int lk.1,.int lk.2.1,.int lk.2.2]→H3 e=none→∃ l0 b0 xs zs,V.ref d=.ref l0∧V.ref e=.ref b0∧(upd H3 e (.lst [.ref b])) l0=some (.lst xs)∧(upd H3 e (.lst [.ref b])) b0=some (.lst zs)∧xs.length+zs.length≤sizeLine∧∀ x,(upd H3 e (.lst [.ref b])) x=none→∃ H4,H4=upd (upd H3 e (.lst [.ref b])) x (.lst (xs++zs))∧SqL K H4 l us∧∀ y,H4 y=none→rCat (.ref x) (.ref y) (upd H4 y (.lst (aQ us lo' hi'))) Q:=by
  intro H2 lo hi lo' hi' lk s2 lkin d hd H3 b e s3 hb he
  obtain⟨k1,g1,g2,g3⟩:=cutL hL1 lo hi
  obtain⟨k2,g4,g5,g6⟩:=cutL hL1 lo' hi'
  have u1:=zap us lo hi
  have u2:=zap us lo' hi'
  have sE:=ag he (.lst [.ref b])
  refine⟨d,e,_,_,rfl,rfl,sE _ _ (s3 _ _ hd),ae,sz _ (by show _+1≤1000;omega),λx hx=>⟨_,rfl,?_,λy hy=>?_⟩⟩
  ·have sX:=ag hx (.lst (aQ us lo hi++[.ref b]))
   exact SqL.of (sX _ _ (sE _ _ (s3 _ _ (s2 _ _ hl1))))
  have sX:=ag hx (.lst (aQ us lo hi++[.ref b]))
  have nX:=ae (H:=upd H3 e (.lst [.ref b])) (a:=x) (o:=.lst (aQ us lo hi++[.ref b]))
  have sY:=ag hy (.lst (aQ us lo' hi'))
  refine⟨x,y,_,_,rfl,rfl,sY _ _ nX,ae,sz _ (by rw[lAq,lS];omega),λz hz=>?_⟩
  have sZ:=ag hz (.lst ((aQ us lo hi++[.ref b])++aQ us lo' hi'))
  have s4:=((sE.trans sX).trans sY).trans sZ
  have all:=(s2.trans s3).trans s4
  refine fin _ z _ ((k1++[lk])++k2) all (.inr ((s2.trans (s3.trans ((sE.trans sX).trans sY))).free hz)) ae ?_ (λlk' h=>?_) (by rw[lAq,lAq,lS];omega)
  ·rw[mAq,mAq]
   exact aj.append (aj.append (g1.keep all.kt (zaJ _)) (aj.one (Has.link (s4.tup hb)))) (g4.keep all.kt (zaJ _))
  ·rcases mPq h with h | h
   ·rcases mPq h with h | h
    ·exact lin _ (g3 _ h)
    ·rw[mSq h];exact lkin
   ·exact lin _ (g6 _ h)
 have c9:∀ {n:Int} {A B:Prop},(c % 9=n→A)→(B)→if decide (V.int (c % 9)=V.int n)=true then A else B:=λ{n A B} h1 h2=>aJ (λz=>h1 (by have:=of_decide_eq_true z;injection this)) λ_=>h2
 dsimp only [zda]
 refine zed (λn hn=>⟨_,rfl,_,_,rfl,rfl,(by show(0:Int) < 9;decide),rfl,_,rfl,c9 (λ_=>?_) hn⟩) ?_
 ·exact⟨_,rfl,_,rfl,_,rfl,l,_,rfl,SqL.of hl1,λd hd=>⟨_,rfl,_,rfl,_,_,rfl,rfl,_,rfl,l,_,rfl,SqL.of (ag hd _ _ _ hl1),λe he=>two H1 _ _ _ _ (λx H'=>Q x H') (ai.refl _) (λH' l' us' ls' a1 a0 a2 a3 a4 a5=>fin H' l' us' ls' a1 (.inr a0) a2 a3 a4 (by omega)) d hd e he⟩⟩
 refine zed (λn hn=>⟨_,rfl,_,_,rfl,rfl,(by show(0:Int) < 9;decide),rfl,_,rfl,c9 (λ_=>?_) hn⟩) ?_
 ·exact⟨_,rfl,_,rfl,_,rfl,l,_,rfl,SqL.of hl1,λd hd=>⟨_,rfl,_,rfl,_,rfl,l,_,rfl,SqL.of (ag hd _ _ _ hl1),λe he=>two H1 _ _ _ _ (λx H'=>Q x H') (ai.refl _) (λH' l' us' ls' a1 a0 a2 a3 a4 a5=>fin H' l' us' ls' a1 (.inr a0) a2 a3 a4 (by omega)) d hd e he⟩⟩
 have mpos:(0:Int) < ((ts.length:Nat):Int):=by omega
 have fpos:(0:Int) < ((ys.length:Nat):Int)+1:=by omega
 refine zed (λn hn=>⟨_,rfl,_,_,rfl,rfl,(by show(0:Int) < 9;decide),rfl,_,rfl,c9 (λ_=>?_) hn⟩) ?_
 ·have m1:=zbH (c / 9 / (((us.length:Nat):Int)+1)) mpos
  have m2:=zbH ((c / 9 / (((us.length:Nat):Int)+1)) / ((ts.length:Nat):Int)) mpos
  have m3:=zbH ((c / 9 / (((us.length:Nat):Int)+1)) / ((ts.length:Nat):Int) / ((ts.length:Nat):Int)) fpos
  refine⟨_,rfl,_,rfl,_,rfl,l,_,rfl,SqL.of hl1,λd hd=>⟨_,rfl,_,rfl,_,_,rfl,rfl,mpos,_,rfl,_,rfl,_,_,rfl,rfl,⟨mpos,by show((ts.length:Nat):Int) < 1073741824;omega⟩,_,rfl,_,_,rfl,rfl,mpos,_,rfl,_,rfl,_,_,rfl,rfl,⟨mpos,by show((ts.length:Nat):Int) < 1073741824;omega⟩,_,rfl,_,_,rfl,rfl,⟨mpos,by show((ts.length:Nat):Int) < 1073741824;omega⟩,_,rfl,_,_,rfl,rfl,fpos,lS3,λb hb=>⟨lS1,λe he=>?_⟩⟩⟩
  obtain⟨l0,b0,xs,zs,e1,e2,e3,e4,e5,e6⟩:=three (upd H1 d (.lst (aQ us none (some (c / 9 % (((us.length:Nat):Int)+1)))))) none (some (c / 9 % (((us.length:Nat):Int)+1))) (some (c / 9 % (((us.length:Nat):Int)+1))) none ((c / 9 / (((us.length:Nat):Int)+1)) % ((ts.length:Nat):Int),(c / 9 / (((us.length:Nat):Int)+1)) / ((ts.length:Nat):Int) % ((ts.length:Nat):Int),(c / 9 / (((us.length:Nat):Int)+1)) / ((ts.length:Nat):Int) / ((ts.length:Nat):Int) % (((ys.length:Nat):Int)+1)) (ag hd _) ⟨⟨m1.1,by rw[←tl'];exact m1.2⟩,⟨m2.1,by rw[←tl'];exact m2.2⟩,m3.1,by rw[←yl];exact Int.lt_add_one_iff.mp m3.2⟩ d ae _ b e (ag hb _) (SqT.of ae) he
  refine⟨l0,b0,xs,zs,e1,e2,e3,e4,e5,λx hx=>?_⟩
  obtain⟨H4,e7,e8,e9⟩:=e6 x hx
  rw[←e7]
  exact⟨_,rfl,_,rfl,_,rfl,l,_,rfl,e8,λy hy=>e9 y hy⟩
 refine zed (λn hn=>⟨_,rfl,_,_,rfl,rfl,(by show(0:Int) < 9;decide),rfl,_,rfl,c9 (λ_=>?_) hn⟩) ?_
 ·refine⟨_,rfl,l,rfl,⟨_,SqL.of hl1⟩,λD hD=>zbu zb9 (λi us' H'=>ai H1 H'∧∃ ls':List Lk,aj K H' (ls'.map dL) us'∧(∀ lk∈ls',zb2 T'.length As.length lk)∧ls'.length=i) (λi us' H' ⟨s4,_⟩=>SqL.of (s4 _ _ hl1)) ⟨ag hD _,[],aj.nil,(λ_ h=>nomatch h),rfl⟩ ?_ ?_⟩
  ·rintro i us' H8 z H4 hi hly hDs ⟨s4,ls',g1,g2,g3⟩ ⟨rfl,hx⟩
   obtain⟨lk,b,hlk,rfl,hb⟩:=zid hL1 (hx _ (SqL.of (s4 _ _ hl1)))
   have hb4:=s4.tup hb
   have lk1:=lin lk (mOq hlk)
   refine⟨_,rfl,b,_,_,_,rfl,rfl,hb4,l1 lk,_,rfl,b,_,_,_,rfl,rfl,hb4,l0 lk,_,rfl,b,_,_,_,rfl,rfl,hb4,l2 lk,lS3,λd hd=>?_⟩
   have s5:=ag hd (.tup [.int lk.2.1,.int lk.1,.int lk.2.2])
   have n5:=ae (H:=H4) (a:=d) (o:=.tup [.int lk.2.1,.int lk.1,.int lk.2.2])
   generalize upd H4 d (.tup [.int lk.2.1,.int lk.1,.int lk.2.2])=H5 at s5 n5
   have kt:=zaw.lst (ys:=us'++[.ref d]) (s5 _ _ hDs)
   refine zaA (sz _ (by omega)) hi hly (s5 _ _ hDs) ⟨(s4.trans s5).upd hD,ls'++[(lk.2.1,lk.1,lk.2.2)],?_,λu hu=>?_,by simp [g3]⟩
   ·rw[mAq]
    exact aj.append ((g1.keep s5.kt (zaJ _)).keep kt (zaJ _)) (aj.one (Has.link (lk:=(lk.2.1,lk.1,lk.2.2)) (kt.sq (SqT.of n5))))
   ·rcases mPq hu with h | h
    ·exact g2 u h
    ·rw[mSq h];exact⟨lk1.2.1,lk1.1,lk1.2.2⟩
  rintro us' H4 hDs ⟨s4,ls',g1,g2,g3⟩
  exact fin H4 D us' ls' s4 (.inr hD) hDs g1 g2 (by omega)
 refine zed (λn hn=>⟨_,rfl,_,_,rfl,rfl,(by show(0:Int) < 9;decide),rfl,_,rfl,c9 (λ_=>⟨_,rfl,_,rfl,l,_,rfl,.inl (SqL.of hl1),_,_,rfl,rfl,_,rfl,aJ (λc2=>?_) (λc2=>hn)⟩) (aY hn)⟩) ?_
 ·have c3:(c / 9 % (((us.length:Nat):Int)+1)) < ((us.length:Nat):Int):=of_decide_eq_true c2
  obtain⟨lk,b1,lkm,x2,hb1⟩:=dL_mem hL1 b4.1 c3
  have lk1:=lin lk lkm
  have m3:=zbH (c / 9 / (((us.length:Nat):Int)+1)) fpos
  refine⟨_,rfl,_,rfl,_,rfl,l,_,rfl,SqL.of hl1,λd hd=>?_⟩
  have sd:=ag hd (.lst (aQ us none (some (c / 9 % (((us.length:Nat):Int)+1)))))
  have nd:=ae (H:=H1) (a:=d) (o:=.lst (aQ us none (some (c / 9 % (((us.length:Nat):Int)+1)))))
  have hl2:=sd _ _ hl1
  have hb2:=sd.tup hb1
  generalize upd H1 d (.lst (aQ us none (some (c / 9 % (((us.length:Nat):Int)+1)))))=H2 at sd nd hl2 hb2
  refine⟨_,rfl,_,rfl,l,_,_,_,rfl,rfl,SqL.of hl2,x2,b1,_,_,_,rfl,rfl,hb2,l0 lk,_,rfl,_,rfl,l,_,_,_,rfl,rfl,SqL.of hl2,x2,b1,_,_,_,rfl,rfl,hb2,l1 lk,_,rfl,_,rfl,_,_,rfl,rfl,fpos,lS3,λb hb=>⟨lS1,λe he=>?_⟩⟩
  obtain⟨l0',b0,xs,zs,e1,e2,e3,e4,e5,e6⟩:=three H2 none (some (c / 9 % (((us.length:Nat):Int)+1))) (some ((c / 9 % (((us.length:Nat):Int)+1))+1)) none (lk.1,lk.2.1,(c / 9 / (((us.length:Nat):Int)+1)) % (((ys.length:Nat):Int)+1)) sd ⟨lk1.1,lk1.2.1,m3.1,by rw[←yl];exact Int.lt_add_one_iff.mp m3.2⟩ d nd _ b e (ag hb _) (SqT.of ae) he
  refine⟨l0',b0,xs,zs,e1,e2,e3,e4,e5,λx hx=>?_⟩
  obtain⟨H4,e7,e8,e9⟩:=e6 x hx
  rw[←e7]
  exact⟨_,rfl,_,rfl,_,_,rfl,rfl,_,rfl,l,_,rfl,e8,λy hy=>e9 y hy⟩
 all_goals
  refine⟨_,rfl,_,_,rfl,rfl,(by show(0:Int) < 9;decide),rfl,_,rfl,c9 (λ_=>?_) ⟨_,rfl,fin H1 l us ls (ai.refl _) (.inl rfl) hl1 hL1 lin (by omega)⟩⟩
  have m2:=zbH (c / 9 / (((us.length:Nat):Int)+1)) (show(0:Int) < 2 by decide)
  have mm:ak.2.2 * ((c / 9 / (((us.length:Nat):Int)+1)) % 2)=0∨ak.2.2 * ((c / 9 / (((us.length:Nat):Int)+1)) % 2)=ak.2.2:=by
   have:(c / 9 / (((us.length:Nat):Int)+1)) % 2=0∨(c / 9 / (((us.length:Nat):Int)+1)) % 2=1:=by omega
   rcases this with h | h
   ·rw[h];exact .inl (by simp)
   ·rw[h];exact .inr (by simp)
  obtain⟨i1,i2,i3,i4⟩:=id akin
  refine⟨_,rfl,_,rfl,m,_,_,_,rfl,rfl,hm,l0 ak,_,rfl,m,_,_,_,rfl,rfl,hm,l1 ak,_,rfl,m,_,_,_,rfl,rfl,hm,l2 ak,_,rfl,_,_,rfl,rfl,(by show(0:Int) < 2;decide),_,_,rfl,rfl,.inr ⟨by show -(2 ^ 64) < (c / 9 / (((us.length:Nat):Int)+1)) % 2;omega,by show(c / 9 / (((us.length:Nat):Int)+1)) % 2 < 2 ^ 64;omega⟩,lS3,λb hb=>⟨lS1,λe he=>?_⟩⟩
  have s2:=ag hb (.tup [.int ak.1,.int ak.2.1,.int (ak.2.2 * ((c / 9 / (((us.length:Nat):Int)+1)) % 2))])
  have n2:=ae (H:=H1) (a:=b) (o:=.tup [.int ak.1,.int ak.2.1,.int (ak.2.2 * ((c / 9 / (((us.length:Nat):Int)+1)) % 2))])
  generalize upd H1 b (.tup [.int ak.1,.int ak.2.1,.int (ak.2.2 * ((c / 9 / (((us.length:Nat):Int)+1)) % 2))])=H2 at s2 n2 he ⊢
  have s3:=ag he (.lst [.ref b])
  have n3:=ae (H:=H2) (a:=e) (o:=.lst [.ref b])
  generalize upd H2 e (.lst [.ref b])=H3 at s3 n3
  refine⟨l,e,_,_,rfl,rfl,(s2.trans s3) _ _ hl1,n3,sz _ (by show _+1≤1000;omega),λx hx=>?_⟩
  have s4:=ag hx (.lst (us++[.ref b]))
  have all:=(s2.trans s3).trans s4
  refine fin _ x _ (ls++[(ak.1,ak.2.1,ak.2.2 * ((c / 9 / (((us.length:Nat):Int)+1)) % 2))]) all (.inr ((s2.trans s3).free hx)) ae ?_ (λu hu=>?_) (by rw[lAq,lS];omega)
  ·rw[mAq]
   exact aj.append (hL1.keep all.kt (zaJ _)) (aj.one (Has.link (lk:=(ak.1,ak.2.1,ak.2.2 * ((c / 9 / (((us.length:Nat):Int)+1)) % 2))) ((s3.trans s4).tup (SqT.of n2))))
  ·rcases mPq hu with h | h
   ·exact lin u h
   ·rw[mSq h]
    exact⟨i1,i2,by show 0≤ak.2.2 * ((c / 9 / (((us.length:Nat):Int)+1)) % 2);omega,by show ak.2.2 * ((c / 9 / (((us.length:Nat):Int)+1)) % 2)≤_;omega⟩
theorem InR.mono {n m:Nat} {x:Int} (h:InR n x) (l:n≤m):InR m x:=⟨h.1,by have:=h.2;omega⟩
theorem Dom.snocT {T:List Tm} {As:List At} (D:Dom T As) {z:Str} {ps:List Int} (h:∀ i∈ps,InR T.length i):Dom (T++[(z,ps)]) As:=by
 have l:T.length≤(T++[(z,ps)]).length:=by rw[lAq];omega
 refine⟨λt ht q hq=>?_,λx y hx=>⟨(D.am x y hx).1.mono l,(D.am x y hx).2.mono l⟩⟩
 rcases mPq ht with h' | h'
 ·exact(D.tm t h' q hq).mono l
 ·rw[mSq h']at hq
  exact(h q hq).mono l
theorem Dom.snocA {T:List Tm} {As:List At} (D:Dom T As) {a:At} (h:∀ x y,a=.same x y→InR T.length x∧InR T.length y):Dom T (As++[a]):=by
 refine⟨D.tm,λx y hx=>?_⟩
 rcases mPq hx with h' | h'
 ·exact D.am x y h'
 ·exact h x y (mSq h').symm
theorem dom0:Dom [] []:=⟨λ_ h=>(nomatch h),λ_ _ h=>(nomatch h)⟩
theorem go_add {H:Hp} {p tl al rl q:Addr} {T:List Tm} {As:List At} {Rs:List (List Int)} {z:Str} {ps:List Int} {Q:VK} {E:XK} (S:PrD K C H p tl al rl T As Rs) (hq:SqI K H q ps) (hz:zbS z=true) (hlow:Low z) (h3:ps.length≤3) (hp:∀ i∈ps,InR T.length i) (hl:T.length < 60)
  (out:∀(H':Hp) (more:List Tm) (k:Nat),PrD K C H' p tl al rl (T++more) As Rs→Fr1 H H' tl→more.length≤1→k < (T++more).length→((z,ps)∉T→more=[(z,ps)])→Q (.int (k:Nat)) H'):zg5 K C CN CT CM [.ref p,.str z,.ref q] H Q E:=by
 refine⟨p,tl,al,rl,q,T,As,Rs,z,ps,rfl,⟨S.pr,hq,hlow,by omega,λi hi=>?_,by omega⟩,?_⟩
 ·have:=hp i hi;have h1:=this.1;have h2:=this.2;omega
 have hb:bad T ps=false:=zea h3 λi k hk=>by have:=hp k (mOq hk);have h1:=this.1;have h2:=this.2;omega
 by_cases hm:(z,ps)∈T
 ·have e:zcY T (zbS z) (z,ps)=(.num (T.idxOf (z,ps)),T):=by
   unfold zcY
   rw[if_neg (by rw[hz];decide),if_neg (by show ¬bad T ps=true;rw[hb];decide),if_pos hm]
  rw[e]
  intro H' pr f
  refine out H' [] _ ⟨by rw[List.append_nil];exact pr,by rw[List.append_nil];exact S.dm,by rw[List.append_nil];exact S.t3,by rw[List.append_nil];exact S.tN⟩ f (Nat.zero_le _) ?_ (λh=>absurd hm h)
  rw[List.append_nil]
  exact List.idxOf_lt_length_of_mem hm
 ·have e:zcY T (zbS z) (z,ps)=(.num T.length,T++[(z,ps)]):=by
   unfold zcY
   rw[if_neg (by rw[hz];decide),if_neg (by show ¬bad T ps=true;rw[hb];decide),if_neg hm,if_neg (by omega)]
  rw[e]
  intro H' pr f
  refine out H' [(z,ps)] _ ⟨pr,S.dm.snocT hp,λt ht=>?_,by rw[lAq,lS];omega⟩ f (nRq _) (by rw[lAq,lS];omega) (λ_=>rfl)
  rcases mPq ht with h' | h'
  ·exact S.t3 t h'
  ·rw[mSq h']
   show ps.length≤1000
   omega
theorem zlX {H:Hp} {p tl al rl:Addr} {T:List Tm} {As:List At} {Rs:List (List Int)} {z:Str} {Q:VK} {E:XK} (S:PrD K C H p tl al rl T As Rs) (hz:zbS z=true) (hlow:Low z) (hl:As.length < 40)
  (out:∀(H':Hp) (more:List At) (k:Nat),PrD K C H' p tl al rl T (As++more) Rs→Fr2 H H' al rl→more.length≤1→1≤(As++more).length→(∀ y∈more,y=At.plain z)→Q (.int (k:Nat)) H'):zeY K C CN CT CP CM [.ref p,.str z] H Q E:=by
 refine⟨p,tl,al,rl,T,As,Rs,z,rfl,S.pr,hlow,by omega,?_⟩
 by_cases hm:At.plain z∈As
 ·have e:zdt As z=(.num (As.idxOf (.plain z)+1),As):=by
   unfold zdt
   rw[if_neg (by rw[hz];decide),if_pos hm]
  rw[e]
  intro H' pr f
  exact out H' [] _ ⟨by rw[List.append_nil];exact pr,by rw[List.append_nil];exact S.dm,S.t3,S.tN⟩ f (Nat.zero_le _) (by rw[List.append_nil];exact List.length_pos_of_mem hm) (λy hy=>nomatch hy)
 ·have e:zdt As z=(.num (As.length+1),As++[.plain z]):=by
   unfold zdt
   rw[if_neg (by rw[hz];decide),if_neg hm,if_neg (by omega)]
  rw[e]
  intro H' pr f
  exact out H' [.plain z] _ ⟨pr,S.dm.snocA (λx y h=>nomatch h),S.t3,S.tN⟩ f (nRq _) (by rw[lAq,lS];omega) (λy hy=>mSq hy)
theorem zmD {H:Hp} {p tl al rl:Addr} {T:List Tm} {As:List At} {Rs:List (List Int)} {a b:Int} {Q:VK} {E:XK} (S:PrD K C H p tl al rl T As Rs) (ha:InR T.length a) (hb:InR T.length b) (hl:As.length < 40)
  (out:∀(H':Hp) (more:List At) (k:Nat),PrD K C H' p tl al rl T (As++more) Rs→Fr2 H H' al rl→more.length≤1→1≤(As++more).length→(∀ y∈more,y=At.same a b)→Q (.int (k:Nat)) H'):zfD K C CN CT CP CM [.ref p,.int a,.int b] H Q E:=by
 have tN:=S.tN
 obtain⟨a0,a1⟩:=id ha
 obtain⟨b0,b1⟩:=id hb
 refine⟨p,tl,al,rl,T,As,Rs,a,b,rfl,S.pr,⟨by omega,by omega⟩,⟨by omega,by omega⟩,by omega,?_⟩
 by_cases hm:At.same b a∈As
 ·have e:zco T.length As a b=(.num (As.idxOf (.same b a)+1),As):=by
   unfold zco
   rw[if_neg (by omega),if_pos hm]
  rw[e]
  intro H' pr f
  exact out H' [] _ ⟨by rw[List.append_nil];exact pr,by rw[List.append_nil];exact S.dm,S.t3,S.tN⟩ f (Nat.zero_le _) (by rw[List.append_nil];exact List.length_pos_of_mem hm) (λy hy=>nomatch hy)
 by_cases hm2:At.same a b∈As
 ·have e:zco T.length As a b=(.num (As.idxOf (.same a b)+1),As):=by
   unfold zco
   rw[if_neg (by omega),if_neg hm,if_pos hm2]
  rw[e]
  intro H' pr f
  exact out H' [] _ ⟨by rw[List.append_nil];exact pr,by rw[List.append_nil];exact S.dm,S.t3,S.tN⟩ f (Nat.zero_le _) (by rw[List.append_nil];exact List.length_pos_of_mem hm2) (λy hy=>nomatch hy)
 ·have e:zco T.length As a b=(.num (As.length+1),As++[.same a b]):=by
   unfold zco
   rw[if_neg (by omega),if_neg hm,if_neg hm2,if_neg (by omega)]
  rw[e]
  intro H' pr f
  exact out H' [.same a b] _ ⟨pr,S.dm.snocA (λx y h=>by cases h;exact⟨ha,hb⟩),S.t3,S.tN⟩ f (nRq _) (by rw[lAq,lS];omega) (λy hy=>mSq hy)
theorem Fr1.fresh {H H1 H':Hp} {z:Addr} (f:Fr1 H1 H' z) (s:ai H H1) (h:H z=none):ai H H':=λb o e=>f b o (s b o e) (zaa e h)
theorem Fr2.fresh {H H1 H':Hp} {z y:Addr} (f:Fr2 H1 H' z y) (s:ai H H1) (h:H z=none) (h':H y=none):ai H H':=λb o e=>f b o (s b o e) (zaa e h) (zaa e h')
theorem madeD {H H1:Hp} {x dx tl al rl:Addr} (hx:H x=none) (hdx:H dx=none) (hne:dx≠x) (h1:(upd (upd H dx (.own x)) x (.ins C dx [])) tl=none) (h2:(upd (upd H dx (.own x)) x (.ins C dx [])) al=none)
  (h3:(upd (upd H dx (.own x)) x (.ins C dx [])) rl=none) (na:al≠tl) (nr:rl≠tl) (nx:rl≠al) (k1:H1 x=some (.ins C dx (zcC tl al rl))) (k2:H1 tl=some (.lst [])) (k3:H1 al=some (.lst [])) (k4:H1 rl=some (.lst []))
  (k5:∀ b o,(upd (upd H dx (.own x)) x (.ins C dx [])) b=some o→b≠x→H1 b=some o):PrD K C H1 x tl al rl [] [] []∧ai H H1∧H tl=none∧H al=none∧H rl=none:=by
 obtain⟨pr1,s1,ft,fa,fr⟩:=made (K:=K) hx hdx hne h1 h2 h3 na nr nx k1 k2 k3 k4 k5
 exact⟨⟨pr1,dom0,λ_ h=>(nomatch h),by show 0≤100;decide⟩,s1,ft,fa,fr⟩
inductive zdd (K:W.Frag):Sp|m{vs H Q E9} (a:Addr) (ns:List Int) (k:Int):vs=[.ref a,.int k]→SqL K H a (ns.map V.int)→ns.length≤1000→0≤k→k≤1000→(∀ i:Int,Q (.int i) H)→zdd K vs H Q E9
abbrev ze6:Stmt:=sCell
theorem zhr:aO ["_law_script","_law_k"] ["_law_script","_law_k"] (aw ze6):=fsc
theorem zlP {f:Addr} {fd:FuncData} (F:Fun K "_law_cell_at" "_law_cell_at" ze6 f fd) (T:Txt K mg aK C CN CT CP CM):aI P w K mg base CX0 1 f fd ["_law_script","_law_k"] (zdd K):=by
 refine F.ok zhr (λvs H Q E h=>?_) (λcdv A outer s H vs Q E hr h=>?_)
 ·obtain⟨a,ns,k,rfl,_⟩:=h
  rfl
 obtain⟨a,ns,k,rfl,hS,n1000,k0,k1,q⟩:=h
 refine⟨_,(af (aL (au zaf (ao ar rfl T.len PySem.boot_len (aa (pv 0) ac)) ad)
   (ah (ay (pv 1)))
   aA)
  (ah (ay (aq zal (ap zab (pv 0) (aq zad (pv 1) (ao ar rfl T.len PySem.boot_len (aa (pv 0) ac)))) (aq zkh ad (aq zau (pv 1) (ao ar rfl T.len PySem.boot_len (aa (pv 0) ac)))))))),?_⟩
 try dsimp only [Cx.nox,Cx.wish,aV]
 refine⟨_,rfl,a,_,rfl,.inl hS,rfl,_,rfl,aJ (λc=>⟨_,rfl,q k⟩) (λc=>?_)⟩
 have c':(0:Int) < (((ns.map V.int).length:Nat):Int):=by
  have:¬(((ns.map V.int).length:Nat):Int)=0:=λz=>c (by rw[z];exact decide_eq_true rfl)
  omega
 have m:=zbH k c'
 have sm:(((ns.map V.int).length:Nat):Int) < 1073741824:=by rw[lM];omega
 have il:InR ns.length (k % (((ns.map V.int).length:Nat):Int)):=by rw[lM]at m ⊢;exact m
 refine⟨_,rfl,_,rfl,_,rfl,a,_,rfl,.inl hS,_,_,rfl,rfl,c',a,_,_,_,rfl,rfl,hS,zcg il,_,rfl,_,rfl,a,_,rfl,.inl hS,_,_,rfl,rfl,⟨c',sm⟩,_,_,rfl,rfl,.inl ⟨by decide,by decide⟩,_,_,rfl,rfl,q _⟩
def Wf (T:List Tm):Prop:=∀(i:Nat) (t:Tm),T[i]?=some t→∀ q∈t.2,InR i q
def zcX:List Tm→Nat
 | []=>0
 | t :: T=>3 ^ t.2.length+zcX T
theorem zdH:∀ A B:List Tm,zcX (A++B)=zcX A+zcX B
 | [],B=>by simp [zcX]
 | t :: A,B=>by
  rw[List.cons_append]
  simp only[zcX]
  rw[zdH A B]
  omega
theorem Wf.nil:Wf []:=λi t h=>by simp at h
theorem Wf.snoc {T:List Tm} (h:Wf T) {z:Str} {ps:List Int} (hp:∀ i∈ps,InR T.length i):Wf (T++[(z,ps)]):=λi t ht q hq=>by
 by_cases hi:i < T.length
 ·rw[List.getElem?_append_left hi]at ht
  exact h i t ht q hq
 ·rw[List.getElem?_append_right (by omega)]at ht
  have e:i - T.length=0:=by
   have:=(gEq ht).1
   simp at this
   omega
  rw[e]at ht
  cases ht
  have:=hp q hq
  exact this.mono (by omega)
structure PrS (K:W.Frag) (C:Addr) (H:Hp) (p tl al rl:Addr) (T:List Tm) (As:List At) (n:Nat):Prop where
 d:PrD K C H p tl al rl T As []
 wf:Wf T
 ws:zcX T≤n
theorem PrS.same {H H':Hp} {p tl al rl:Addr} {T:List Tm} {As:List At} {n:Nat} (h:PrS K C H p tl al rl T As n) (s:ai H H'):PrS K C H' p tl al rl T As n:=⟨h.d.same s,h.wf,h.ws⟩
theorem zjx {H:Hp} {p tl al rl q:Addr} {T:List Tm} {As:List At} {z:Str} {ps:List Int} {n:Nat} {Q:VK} {E:XK} (S:PrS K C H p tl al rl T As n) (hq:SqI K H q ps) (hz:zbS z=true) (hlow:Low z) (h3:ps.length≤3) (hp:∀ i∈ps,InR T.length i) (hl:T.length < 60)
  (out:∀(H':Hp) (more:List Tm) (k:Nat),PrS K C H' p tl al rl (T++more) As (n+3 ^ ps.length)→Fr1 H H' tl→more.length≤1→1≤(T++more).length→((z,ps)∉T→more=[(z,ps)])→Q (.int (k:Nat)) H'):zg5 K C CN CT CM [.ref p,.str z,.ref q] H Q E:=by
 have ws:=S.ws
 by_cases hm:(z,ps)∈T
 ·refine⟨p,tl,al,rl,q,T,As,[],z,ps,rfl,⟨S.d.pr,hq,hlow,by omega,λi hi=>?_,by omega⟩,?_⟩
  ·have:=hp i hi;have h1:=this.1;have h2:=this.2;omega
  have hb:bad T ps=false:=zea h3 λi k hk=>by have:=hp k (mOq hk);have h1:=this.1;have h2:=this.2;omega
  have e:zcY T (zbS z) (z,ps)=(.num (T.idxOf (z,ps)),T):=by
   unfold zcY
   rw[if_neg (by rw[hz];decide),if_neg (by show ¬bad T ps=true;rw[hb];decide),if_pos hm]
  rw[e]
  intro H' pr f
  have en:T++[]=T:=List.append_nil T
  refine out H' [] _ ⟨⟨by rw[en];exact pr,by rw[en];exact S.d.dm,by rw[en];exact S.d.t3,by rw[en];exact S.d.tN⟩,by rw[en];exact S.wf,by rw[en];exact Nat.le_trans ws (Nat.le_add_right _ _)⟩ f (Nat.zero_le _) ?_ (λh=>absurd hm h)
  rw[en]
  exact List.length_pos_of_mem hm
 ·refine go_add S.d hq hz hlow h3 hp hl λH' more k pr f m1 kl hn=>?_
  have em:=hn hm
  subst em
  exact out H' [(z,ps)] k ⟨pr,S.wf.snoc hp,by rw[zdH];show zcX T+(3 ^ ps.length+0)≤_;omega⟩ f m1 (by omega) hn
theorem zld {H:Hp} {p tl al rl:Addr} {T:List Tm} {As:List At} {z:Str} {n:Nat} {Q:VK} {E:XK} (S:PrS K C H p tl al rl T As n) (hz:zbS z=true) (hlow:Low z) (hl:As.length < 40)
  (out:∀(H':Hp) (more:List At) (k:Nat),PrS K C H' p tl al rl T (As++more) n→Fr2 H H' al rl→more.length≤1→1≤(As++more).length→(∀ y∈more,y=At.plain z)→Q (.int (k:Nat)) H'):zeY K C CN CT CP CM [.ref p,.str z] H Q E :=
 zlX S.d hz hlow hl λH' more k pr=>out H' more k ⟨pr,S.wf,S.ws⟩
theorem zg0 {H:Hp} {p tl al rl:Addr} {T:List Tm} {As:List At} {a b:Int} {n:Nat} {Q:VK} {E:XK} (S:PrS K C H p tl al rl T As n) (ha:InR T.length a) (hb:InR T.length b) (hl:As.length < 40)
  (out:∀(H':Hp) (more:List At) (k:Nat),PrS K C H' p tl al rl T (As++more) n→Fr2 H H' al rl→more.length≤1→1≤(As++more).length→(∀ y∈more,y=At.same a b)→Q (.int (k:Nat)) H'):zfD K C CN CT CP CM [.ref p,.int a,.int b] H Q E :=
 zmD S.d ha hb hl λH' more k pr=>out H' more k ⟨pr,S.wf,S.ws⟩
def GoodZ (z:Str):Prop:=zbS z=true∧Low z
theorem abc_at {i:Int} (h0:0≤i) (h1:i < 3):∃ z,atI [V.str "a",V.str "b",V.str "c"] i=some (.str z)∧GoodZ z∧∀ j:Int,0≤j→j < 3→j≠i→atI [V.str "a",V.str "b",V.str "c"] j≠some (.str z):=by
 have:i=0∨i=1∨i=2:=by omega
 rcases this with rfl | rfl | rfl
 all_goals
  refine⟨_,rfl,⟨by decide +kernel,by decide +kernel,by decide +kernel⟩,λj j0 j1 jn=>?_⟩
  have:j=0∨j=1∨j=2:=by omega
  rcases this with rfl | rfl | rfl <;> first | exact absurd rfl jn | exact(by decide +kernel)
def PlN:At→Prop
 | .plain z=>z="p"∨z="a"
 | .same _ _=>True
theorem pa_at {i:Int} (h0:0≤i) (h1:i < 2):∃ z,atI [V.str "p",V.str "a"] i=some (.str z)∧GoodZ z∧PlN (.plain z):=by
 have:i=0∨i=1:=by omega
 rcases this with rfl | rfl
 ·exact⟨_,rfl,⟨by decide +kernel,by decide +kernel,by decide +kernel⟩,.inl rfl⟩
 ·exact⟨_,rfl,⟨by decide +kernel,by decide +kernel,by decide +kernel⟩,.inr rfl⟩
theorem zo_at {i:Int} (h0:0≤i) (h1:i < 2):∃ k:Int,atI [V.int 0,V.int 1] i=some (.int k)∧0≤k∧k < 2:=by
 have:i=0∨i=1:=by omega
 rcases this with rfl | rfl
 ·exact⟨0,rfl,by decide,by decide⟩
 ·exact⟨1,rfl,by decide,by decide⟩
def CstT (T:List Tm) (i:Nat):Prop:=T.length=i∧∀(j:Nat) (t:Tm),T[j]?=some t→t.2=[]∧atI [V.str "a",V.str "b",V.str "c"] (j:Int)=some (.str t.1)
inductive zgP (K:W.Frag) (C:Addr):Sp|m{vs H Q E9} (a:Addr) (ns:List Int) (fs an:Int):vs=[.ref a,.int fs,.int an]→SqL K H a (ns.map V.int)→ns.length≤1000→0≤fs→fs≤100→0≤an→an≤20→(∀(H':Hp) (p tl al rl:Addr) (T:List Tm) (As:List At),ai H H'→H p=none→H tl=none→H al=none→H rl=none→PrS K C H' p tl al rl T As 12→2≤T.length→T.length≤6→As.length≤an.toNat→(1≤an→1≤As.length)→(∀ y∈As,PlN y)→Q (.ref p) H')→zgP K C vs H Q E9
theorem zaW:aO ["_law_script","_law_first","_law_atoms","_law_problem","_law_cell","_law_k","_law_many"] ["_law_script","_law_first","_law_atoms"] (aw zdr):=fsc
theorem zlD (F:Fun K "_law_small_by" "_law_small_by" zdr f fd) (T:Txt K mg aK C CN CT CP CM) (mrange:mg "range"=none) (mmax:mg "max"=none) (G:Own P w K mg base C CN CT CP CM fI fA fQ fS dI dA' dQ dS) (BC:FB P w K mg base CX0 1 "_law_cell_at" fC dC ["_law_script","_law_k"] (zdd K)):aI P w K mg base CX0 5 f fd ["_law_script","_law_first","_law_atoms"] (zgP K C):=by
 refine F.ok zaW (λvs H Q E h=>?_) (λcdv A outer s H vs Q E hr h=>?_)
 ·obtain⟨a,ns,fs,an,rfl,_⟩:=h
  rfl
 obtain⟨a,ns,fs,an,rfl,hS,n1000,f0,f1,a0,a1,Q0⟩:=h
 have hr1:zaq 1 _:=hr.mono (by decide)
 have hr2:zaq 2 _:=hr.mono (by decide)
 refine⟨_,(af (aE (i:=3) zaW.nd rfl (Or.inl rfl) (ziF G.mI G.I hr2 rfl G.gI G.bI .nil aR))
  (af (aE (i:=4) zaW.nd rfl (Or.inl rfl) (aB BC.ok hr1 rfl BC.m BC.kp BC.b .nil aR (aa (pv 0) (aa (pv 1) ac))))
  (af (zah PassesOwn.never rfl (zaV rfl mrange (aa (aq zal ad (aq zad (pv 4) ad)) ac)) (zac (i:=5) zaW.nd rfl (Or.inl rfl))
   (ah (zak (zaN (pv 3) T.cl G.mA G.A hr G.bA .nil zd0 (aa (ap zab (zag (aa aU (aa aU (aa aU ac)))) (pv 5)) (aa (aS ac) ac))))))
  (af (zah PassesOwn.never rfl (zaV rfl mrange (aa (aq zad (aB BC.ok hr1 rfl BC.m BC.kp BC.b .nil aR (aa (pv 0) (aa (aq zal (pv 1) ad) ac))) ad) ac)) (zac (i:=5) zaW.nd rfl (Or.inl rfl))
   (ah (zak (zaN (pv 3) T.cl G.mA G.A hr G.bA .nil zd0 (aa aU (aa (aS (aa (aq zad (aq zal (aq zau (aB BC.ok hr1 rfl BC.m BC.kp BC.b .nil aR (aa (pv 0) (aa (aq zal (aq zal (pv 1) ad) (pv 5)) ac))) ad) (pv 5)) (ao ar rfl T.len PySem.boot_len (aa (zae (pv 3) rfl) ac))) ac)) ac))))))
  (af (zah PassesOwn.never rfl (zaV rfl mrange (aa (pv 2) ac)) (zac (i:=5) zaW.nd rfl (Or.inl rfl))
   (af (aE (i:=4) zaW.nd rfl (Or.inl rfl) (aB BC.ok hr1 rfl BC.m BC.kp BC.b .nil aR (aa (pv 0) (aa (aq zal (aq zal (pv 1) ad) (pv 5)) ac))))
    (af (aE (i:=6) zaW.nd rfl (Or.inl rfl) (ao ar rfl T.len PySem.boot_len (aa (zae (pv 3) rfl) ac)))
    (ah (aL (au zaf (aq zad (pv 4) ad) ad)
     (ah (zak (zaN (pv 3) T.cl G.mQ G.Q hr G.bQ .nil zd0 (aa (ap zab (zag (aa aU (aa aU ac))) (aq zad (aq zau (pv 4) ad) ad)) ac))))
     (ah (aL (au zbR (aq zad (pv 4) ad) ad)
       (ah (zak (zaN (pv 3) T.cl G.mS G.S hr G.bS .nil zd0 (aa (ap zab (zag (aa ad (aa ad ac))) (aq zad (aq zau (pv 4) ad) ad)) (aa (aq zbA ad (aq zad (aq zau (pv 4) ad) ad)) ac)))))
       (ah (aL (au zbR (aq zad (pv 4) ad) ad)
         (ah (zak (zaN (pv 3) T.cl G.mS G.S hr G.bS .nil zd0 (aa (aq zbA (pv 6) ad) (aa (ao (zh3 rfl) rfl mmax PyProof.Rows.Boot.max (aa ad (aa (aq zbA (pv 6) ad) ac))) ac)))))
         (ah (zak (zaN (pv 3) T.cl G.mS G.S hr G.bS .nil zd0 (aa (aq zad (aq zau (pv 4) ad) (pv 6)) (aa (aq zad (aq zal (aq zal (aq zau (pv 4) ad) ad) (aq zau (aq zau (pv 4) ad) (pv 6))) (pv 6)) ac))))))))))))))
  (ah (ay (pv 3)))))))),?_⟩
 try dsimp only [Cx.nox,Cx.wish,aV]
 intro p dx np ndx nex
 refine⟨p,dx,rfl,ae,λtl al rl H1 ht ha hrr na nr nx k1 k2 k3 k4 k5=>⟨rfl,?_⟩⟩
 obtain⟨S1,s1,ft,fa,fr⟩:=madeD (K:=K) (C:=C) np ndx nex ht ha hrr na nr nx k1 k2 k3 k4 k5
 refine⟨_,rfl,_,rfl,a,ns,fs,rfl,s1.seq hS,n1000,f0,by omega,λc=>?_⟩
 have b2:=zbH c (show(0:Int) < 2 by decide)
 refine⟨_,rfl,_,_,rfl,rfl,(by show(0:Int) < 2;decide),_,_,rfl,rfl,_,rfl,(by show -(2 ^ 62)≤2+c % 2;omega),(by show 2+c % 2 < 2 ^ 62;omega),zaL (lo:=0) (n:=(2+c % 2).toNat) (λi σ H'=>∃(v5:Option V) (T':List Tm),σ=[some (.ref a),some (.int fs),some (.int an),some (.ref p),some (.int c),v5,none]∧ai H H'∧PrS K C H' p tl al rl T' [] i∧CstT T' i) ⟨none,[],rfl,s1,⟨S1,Wf.nil,nRq _⟩,rfl,λj t h=>by simp at h⟩ ?_ ?_⟩
 ·rintro i σ H2 hi ⟨v5,T',rfl,s2,S2,cs⟩
  have hi3:i < 3:=by omega
  obtain⟨⟨dx2,ho2⟩,_⟩:=id S2.d.pr
  obtain⟨z,hz,gz,uz⟩:=abc_at (i:=0+((i:Nat):Int)) (by omega) (by omega)
  obtain⟨cl,ct⟩:=cs
  refine⟨_,rfl,p,dx2,_,rfl,ho2,zgF _ _ _,lS3,λl hl=>?_⟩
  have s3:=ag hl (.lst [V.str "a",V.str "b",V.str "c"])
  have n3:=ae (H:=H2) (a:=l) (o:=.lst [V.str "a",V.str "b",V.str "c"])
  generalize upd H2 l (.lst [V.str "a",V.str "b",V.str "c"])=H3 at s3 n3
  refine⟨_,rfl,l,_,_,_,rfl,rfl,SqL.of n3,hz,lS0,λe he=>?_⟩
  have s4:=s3.trans (ag he (.tup []))
  dsimp only [tNil]
  refine zjx (S2.same s4) (.inr (SqT.of ae)) gz.1 gz.2 (ps:=[]) (by show 0≤3;decide) (λ_ h=>nomatch h) (by omega) (λH' more k pr f m1 kl hn=>?_)
  have new:(z,([]:List Int))∉T':=λhm=>by
   obtain⟨j,hj⟩:=List.mem_iff_getElem?.mp hm
   have hjl:=(gEq hj).1
   exact uz (j:Int) (by omega) (by omega) (by omega) (ct j _ hj).2
  have em:=hn new
  subst em
  refine⟨_,T'++[(z,[])],rfl,f.fresh (s2.trans s4) ft,pr,by simp [cl],λj t hj=>?_⟩
  by_cases hlt:j < T'.length
  ·rw[List.getElem?_append_left hlt]at hj
   exact ct j t hj
  ·have hjl:=(gEq hj).1
   rw[lAq,lS]at hjl
   have ej:j=T'.length:=by omega
   rw[ej,List.getElem?_append_right (nRq _),Nat.sub_self]at hj
   cases hj
   refine⟨rfl,?_⟩
   rw[ej,cl]
   have:(0:Int)+((i:Nat):Int)=((i:Nat):Int):=by omega
   rw[←this]
   exact hz
 rintro σ H2 ⟨v5,T0,rfl,s2,S2,cl,ct⟩
 have cl2:2≤T0.length∧T0.length≤3:=by omega
 have S2':PrS K C H2 p tl al rl T0 [] 3:=⟨S2.d,S2.wf,by have:=S2.ws;omega⟩
 refine⟨_,rfl,_,rfl,_,_,rfl,rfl,a,ns,_,rfl,s2.seq hS,n1000,(by show 0≤fs+1;omega),(by show fs+1≤1000;omega),λc1=>?_⟩
 have b4:=zbH c1 (show(0:Int) < 4 by decide)
 refine⟨_,_,rfl,rfl,(by show(0:Int) < 4;decide),_,rfl,(by show -(2 ^ 62)≤c1 % 4;omega),(by show c1 % 4 < 2 ^ 62;omega),zaL (lo:=0) (n:=(c1 % 4).toNat) (λi σ H'=>∃(v5:Option V) (T':List Tm),σ=[some (.ref a),some (.int fs),some (.int an),some (.ref p),some (.int c),v5,none]∧ai H H'∧PrS K C H' p tl al rl T' [] (3+3 * i)∧2≤T'.length∧T'.length≤3+i) ⟨v5,T0,rfl,s2,S2',by omega,by omega⟩ ?_ ?_⟩
 ·rintro i σ H3 hi ⟨v5',T',rfl,s3,S3,t2,t3⟩
  obtain⟨⟨dx3,ho3⟩,⟨ts,ht3,hT3⟩,_⟩:=id S3.d.pr
  have tl':ts.length=T'.length:=by rw[←hT3.length,lM]
  have mpos:(0:Int) < ((ts.length:Nat):Int):=by omega
  refine⟨_,rfl,p,dx3,_,rfl,ho3,zgF _ _ _,_,rfl,_,rfl,_,_,rfl,rfl,_,rfl,_,_,rfl,rfl,a,ns,_,rfl,s3.seq hS,n1000,(by show 0≤fs+2+(0+((i:Nat):Int));omega),(by show fs+2+(0+((i:Nat):Int))≤1000;omega),λc2=>⟨_,_,rfl,rfl,⟨by decide,by decide⟩,_,rfl,_,_,rfl,rfl,_,rfl,p,C,dx3,_,_,rfl,ho3,T.cl,T.nT,zaO _ _ _,tl,_,rfl,.inl (SqL.of ht3),_,_,rfl,rfl,mpos,lS1,λe he=>?_⟩⟩
  have m1:=zbH (c2 / 3+(0+((i:Nat):Int))) mpos
  have i1:InR T'.length ((c2 / 3+(0+((i:Nat):Int))) % ((ts.length:Nat):Int)):=by rw[←tl'];exact m1
  have s4:=ag he (.tup [.int ((c2 / 3+(0+((i:Nat):Int))) % ((ts.length:Nat):Int))])
  dsimp only [tNil]
  refine zjx (S3.same s4) (.inr (SqT.of ae)) (by decide +kernel) (by exact⟨by decide +kernel,by decide +kernel⟩) (ps:=[(c2 / 3+(0+((i:Nat):Int))) % ((ts.length:Nat):Int)]) (by show 1≤3;decide) (λk hk=>by rw[mSq hk];exact i1) (by omega) (λH' more k pr f m1 kl hn=>?_)
  exact⟨_,T'++more,rfl,f.fresh (s3.trans s4) ft,⟨pr.d,pr.wf,by have:=pr.ws;simp only[lS]at this;omega⟩,by rw[lAq];omega,by rw[lAq];omega⟩
 rintro σ H3 ⟨v5',T',rfl,s3,S3,t2,t3⟩
 have S3':PrS K C H3 p tl al rl T' [] 12:=⟨S3.d,S3.wf,by have:=S3.ws;omega⟩
 have t6:T'.length≤6:=by omega
 refine⟨_,rfl,_,rfl,(by show -(2 ^ 62)≤an;omega),(by show an < 2 ^ 62;omega),zaL (lo:=0) (n:=an.toNat) (λi σ H'=>∃(v4 v5 v6:Option V) (As:List At),σ=[some (.ref a),some (.int fs),some (.int an),some (.ref p),v4,v5,v6]∧ai H H'∧PrS K C H' p tl al rl T' As 12∧As.length≤i∧(1≤i→1≤As.length)∧∀ y∈As,PlN y) ⟨_,v5',none,[],rfl,s3,S3',nRq _,(λh=>absurd h (by decide)),λy hy=>nomatch hy⟩ ?_ ?_⟩
 ·rintro i σ H4 hi ⟨v4,v5'',v6,As,rfl,s4,S4,lA,lA1,pA⟩
  refine⟨_,rfl,_,rfl,_,_,rfl,rfl,_,rfl,_,_,rfl,rfl,a,ns,_,rfl,s4.seq hS,n1000,(by show 0≤fs+6+(0+((i:Nat):Int));omega),(by show fs+6+(0+((i:Nat):Int))≤1000;omega),λc3=>?_⟩
  obtain⟨⟨dx4,ho4⟩,⟨ts,ht4,hT4⟩,_⟩:=id S4.d.pr
  have tl':ts.length=T'.length:=by rw[←hT4.length,lM]
  have mpos:(0:Int) < ((ts.length:Nat):Int):=by omega
  have msm:((ts.length:Nat):Int) < 1073741824:=by omega
  have b9:=zbH (c3 / 9) (show(0:Int) < 2 by decide)
  have fin:∀(H' H5:Hp) (more:List At) (v6':Option V),ai H4 H5→Fr2 H5 H' al rl→PrS K C H' p tl al rl T' (As++more) 12→more.length≤1→1≤(As++more).length→(∀ y∈more,PlN y)→∃(v4 v5 v6:Option V) (As:List At),[some (.ref a),some (.int fs),some (.int an),some (.ref p),some (.int c3),some (.int (0+((i:Nat):Int))),v6']=[some (.ref a),some (.int fs),some (.int an),some (.ref p),v4,v5,v6]∧ai H H'∧PrS K C H' p tl al rl T' As 12∧As.length≤i+1∧(1≤i+1→1≤As.length)∧∀ y∈As,PlN y:=λH' H5 more v6' s5 f pr m1 o1 pm=>⟨_,_,_,As++more,rfl,f.fresh (s4.trans s5) fa fr,pr,by rw[lAq];omega,λ_=>o1,λy hy=>(mPq hy).elim (pA y) (pm y)⟩
  refine⟨_,rfl,p,C,dx4,_,_,rfl,ho4,T.cl,T.nT,zaO _ _ _,tl,_,rfl,.inl (SqL.of ht4),?_⟩
  refine⟨_,rfl,_,_,rfl,rfl,(by show(0:Int) < 9;decide),rfl,_,rfl,aJ (λ_=>?_) (λ_=>?_)⟩
  ·obtain⟨z,hz,gz,gp⟩:=pa_at b9.1 b9.2
   exact⟨_,rfl,p,dx4,_,rfl,ho4,ziY _ _ _,lS2,λl hl=>⟨_,rfl,_,_,rfl,rfl,⟨by decide,by decide⟩,_,_,rfl,rfl,(by show(0:Int) < 2;decide),l,_,_,_,rfl,rfl,SqL.of ae,hz,zld (S4.same (ag hl _)) gz.1 gz.2 (by omega) (λH' more k pr f m1 o1 em=>fin H' _ more _ (ag hl _) f pr m1 o1 λy hy=>by rw[em y hy];exact gp)⟩⟩
  refine⟨_,rfl,_,_,rfl,rfl,(by show(0:Int) < 9;decide),_,_,rfl,rfl,_,rfl,aJ (λ_=>?_) (λ_=>?_)⟩
  ·obtain⟨k0,hk0,k1,k2⟩:=zo_at b9.1 b9.2
   refine⟨_,rfl,p,dx4,_,rfl,ho4,zeT _ _ _,lS2,λl hl=>⟨_,rfl,_,_,rfl,rfl,⟨by decide,by decide⟩,_,_,rfl,rfl,(by show(0:Int) < 2;decide),l,_,_,_,rfl,rfl,SqL.of ae,hk0,_,rfl,_,_,rfl,rfl,⟨by decide,by decide⟩,_,_,rfl,rfl,(by show(0:Int) < 2;decide),_,_,rfl,rfl,zg0 (S4.same (ag hl _)) ⟨k1,by omega⟩ ⟨by omega,by omega⟩ (by omega) (λH' more k pr f m1 o1 em=>fin H' _ more _ (ag hl _) f pr m1 o1 λy hy=>by rw[em y hy];trivial)⟩⟩
  refine⟨_,rfl,_,_,rfl,rfl,(by show(0:Int) < 9;decide),_,_,rfl,rfl,_,rfl,aJ (λ_=>?_) (λ_=>?_)⟩
  ·refine⟨_,rfl,p,dx4,_,rfl,ho4,zeT _ _ _,_,rfl,_,_,rfl,rfl,_,rfl,_,_,rfl,rfl,_,_,rfl,zg0 S4 ⟨by omega,by omega⟩ ?_ (by omega) (λH' more k pr f m1 o1 em=>fin H' _ more _ (ai.refl _) f pr m1 o1 λy hy=>by rw[em y hy];trivial)⟩
   constructor <;> split <;> omega
  ·have m1:=zbH (c3 / 9) mpos
   have m2:=zbH (c3 / 9+1+c3 / 9 / ((ts.length:Nat):Int)) mpos
   rw[tl']at m1 m2
   refine⟨_,rfl,p,dx4,_,rfl,ho4,zeT _ _ _,_,rfl,_,_,rfl,rfl,⟨by decide,by decide⟩,_,rfl,_,_,rfl,rfl,mpos,_,rfl,_,_,rfl,rfl,⟨by decide,by decide⟩,_,_,rfl,rfl,_,rfl,_,_,rfl,rfl,⟨by decide,by decide⟩,_,rfl,_,_,rfl,rfl,⟨mpos,msm⟩,_,_,rfl,rfl,_,rfl,_,_,rfl,rfl,mpos,zg0 S4 (by rw[tl'];exact m1) (by rw[tl'];exact m2) (by omega) (λH' more k pr f m1 o1 em=>fin H' _ more _ (ai.refl _) f pr m1 o1 λy hy=>by rw[em y hy];trivial)⟩
 rintro σ H4 ⟨v4,v5'',v6,As,rfl,s4,S4,lA,lA1,pA⟩
 exact⟨_,rfl,Q0 H4 p tl al rl T' As s4 np ft fa fr S4 t2 t6 lA (λh=>lA1 (by omega)) pA⟩
def zcz (n:Nat) (rs:List (List Int)):List (List Int):=rs.flatMap λr=>(zbE n).map λv=>r++[v]
def zdG (n:Nat):Nat→List (List Int)
 | 0=>[[]]
 | k+1=>zcz n (zdG n k)
theorem zj3 (n:Nat) (rs:List (List Int)) (r:List Int):zcz n (rs++[r])=zcz n rs++(zbE n).map λv=>r++[v]:=by
 unfold zcz
 rw[List.flatMap_append]
 simp
theorem zhX (n:Nat) (rs:List (List Int)):(zcz n rs).length=rs.length * n:=by
 induction rs with
 | nil=>simp [zcz]
 | cons r rs ih =>
  have:zcz n (r :: rs)=((zbE n).map λv=>r++[v])++zcz n rs:=rfl
  rw[this,lAq,lM,zcF,ih,List.length_cons,Nat.succ_mul,Nat.add_comm]
theorem zeF (n:Nat):∀ k,(zdG n k).length=n ^ k
 | 0=>rfl
 | k+1=>by
  show(zcz n (zdG n k)).length=_
  rw[zhX,zeF n k,Nat.pow_succ]
theorem zhR (n:Nat):∀ k,∀ r∈zdG n k,r.length=k
 | 0,r,h=>by
  rw[mSq h]
  rfl
 | k+1,r,h=>by
  obtain⟨r',h1,h2⟩:=List.mem_flatMap.mp h
  obtain⟨v,_,rfl⟩:=List.mem_map.mp h2
  rw[lAq,zhR n k r' h1]
  rfl
theorem zlt {n:Nat} {v:Int} (h:InR n v):v∈zbE n:=by
 obtain⟨h0,h1⟩:=h
 refine List.mem_map.mpr ⟨v.toNat,List.mem_range.mpr (by omega),?_⟩
 show((v.toNat:Nat):Int)=v
 omega
theorem zhW {n:Nat}:∀(k:Nat) (r:List Int),r.length=k→(∀ v∈r,InR n v)→r∈zdG n k
 | 0,r,h,_=>by
  cases r with
  | nil=>exact List.mem_singleton.mpr rfl
  | cons a r=>simp at h
 | k+1,r,h,hv=>by
  have hne:r≠[]:=λz=>by rw[z]at h;simp at h
  have e:=List.dropLast_concat_getLast hne
  refine List.mem_flatMap.mpr ⟨r.dropLast,zhW k _ (by rw[List.length_dropLast,h];rfl) λv hv'=>hv v (List.dropLast_subset r hv'),?_⟩
  exact List.mem_map.mpr ⟨r.getLast hne,zlt (hv _ (List.getLast_mem hne)),e⟩
theorem Has.row {H:Hp} {a:Addr} {r:List Int} (h:SqT K H a (r.map V.int)):Has K H (dR r) (.ref a):=Has.tup' h (aj.ints r)
inductive zfS (K:W.Frag):Sp|m{vs H Q E9} (a:Addr) (n:Nat) (xs:List V) (rs:List (List Int)):vs=[.ref a,.int (n:Int)]→SqL K H a xs→aj K H (rs.map dR) xs→rs.length≤300→n≤3→(∀ r∈rs,r.length≤900)→(∀(H':Hp) (l:Addr) (us:List V),ai H H'→H l=none→H' l=some (.lst us)→aj K H' ((zcz n rs).map dR) us→Q (.ref l) H')→zfS K vs H Q E9
theorem zcV:aO ["_law_rows","_law_size","_law_found","_law_row","_law_value"] ["_law_rows","_law_size"] (aw zdY):=fsc
theorem zkT (F:Fun K "_law_longer" "_law_longer" zdY f fd) (mrange:mg "range"=none):aI P w K mg base CX0 1 f fd ["_law_rows","_law_size"] (zfS K):=by
 refine F.ok zcV (λvs H Q E h=>?_) (λcdv A outer s H vs Q E hr h=>?_)
 ·obtain⟨a,n,xs,rs,rfl,_⟩:=h
  rfl
 obtain⟨a,n,xs,rs,rfl,hq,hL,r300,n3,r900,Q0⟩:=h
 refine⟨_,(af (aE (i:=2) zcV.nd rfl (Or.inl rfl) (zag ac))
  (af (zah PassesOwn.never rfl (za6 (pv 0)) (zac (i:=3) zcV.nd rfl (Or.inl rfl))
   (ah (zah PassesOwn.never rfl (zaV rfl mrange (aa (pv 1) ac)) (zac (i:=4) zcV.nd rfl (Or.inl rfl))
     (ah (zak (zbt PySem.F.plainAttrs_list PySem.F.slot_list_append PySem.F.type_list_append zaE (pv 2) (aa (aq zjt (pv 3) (aS (aa (pv 4) ac))) ac)))))))
  (ah (ay (pv 2))))),?_⟩
 try dsimp only [Cx.nox,Cx.wish,aV]
 have xl:xs.length=rs.length:=by rw[←hL.length,lM]
 refine⟨lS0,λl hl=>?_⟩
 have s1:=ag hl (.lst [])
 have n1:=ae (H:=H) (a:=l) (o:=.lst [])
 generalize upd H l (.lst [])=H1 at s1 n1
 refine⟨_,rfl,a,rfl,⟨_,s1.seq hq⟩,zby (xs:=xs) (λi σ H'=>∃(v3 v4:Option V) (us:List V),σ=[some (.ref a),some (.int (n:Int)),some (.ref l),v3,v4]∧ai H H'∧H' l=some (.lst us)∧aj K H' ((zcz n (rs.take i)).map dR) us) ⟨none,none,[],rfl,s1,n1,aj.nil⟩ (λi σ H' _ ⟨_,_,_,_,s2,_⟩=>s2.seq hq) ?_ ?_⟩
 ·rintro i x σ H2 hx ⟨v3,v4,us,rfl,s2,n2,hL2⟩
  obtain⟨r,q,hr',rfl,sq⟩:=zgx (hL.keep s2.kt (zav _)) hx
  have rm:=mOq hr'
  have ib:i < rs.length:=(gEq hr').1
  refine⟨_,rfl,_,rfl,(by show -(2 ^ 62)≤((n:Nat):Int);omega),(by show((n:Nat):Int) < 2 ^ 62;omega),zaL (lo:=0) (n:=((n:Nat):Int).toNat) (λj σ H'=>∃(v4:Option V) (us:List V),σ=[some (.ref a),some (.int (n:Int)),some (.ref l),some (.ref q),v4]∧ai H H'∧H' l=some (.lst us)∧aj K H' ((zcz n (rs.take i)++((zbE n).take j).map λv=>r++[v]).map dR) us) ⟨_,us,rfl,s2,n2,by rw[List.take_zero,List.map_nil,List.append_nil];exact hL2⟩ ?_ ?_⟩
  ·rintro j σ H3 hj ⟨v4',us3,rfl,s3,n3',hL3⟩
   rw[Int.toNat_natCast]at hj
   have ul:us3.length≤903:=by
    rw[←hL3.length,lM,lAq,zhX,lM,List.length_take,List.length_take,zcF]
    have:(min i rs.length) * n≤300 * 3:=Nat.mul_le_mul (by omega) n3
    omega
   refine⟨_,rfl,.inl ⟨rfl,_,SqL.of n3'⟩,_,rfl,_,rfl,lS1,λb hb=>?_⟩
   have s4:=ag hb (.tup [.int (0+((j:Nat):Int))])
   have b4:=ae (H:=H3) (a:=b) (o:=.tup [.int (0+((j:Nat):Int))])
   generalize upd H3 b (.tup [.int (0+((j:Nat):Int))])=H4 at s4 b4
   have sq4:=(s3.trans s4).tup ((hL.keep (ai.refl H).kt (zav _)) |> λ_=>(show SqT K H q (r.map V.int) from by
    obtain⟨r',q',e1,e2,e3⟩:=zgx hL hx
    rw[hr']at e1
    cases e1
    cases e2
    exact e3))
   refine⟨q,b,r.map V.int,[.int (0+((j:Nat):Int))],rfl,rfl,sq4,SqT.of b4,(by rw[lM];exact sz _ (by have:=r900 r rm;show r.length+1≤1000;omega)),λH5 p s5 hp=>?_⟩
   have n5:=s5 _ _ (s4 _ _ n3')
   refine⟨l,_,_,rfl,rfl,n5,zaC (by omega),?_⟩
   have kt:=zaw.lst (ys:=us3++[.ref p]) n5
   have hL5:=(hL3.keep (s4.trans s5).kt (zav _)).keep kt (zav _)
   have hp5:SqT K (upd H5 l (.lst (us3++[.ref p]))) p ((r++[((j:Nat):Int)]).map V.int):=by
    rw[mAq]
    have:=kt.sq hp
    rw[show(0:Int)+((j:Nat):Int)=((j:Nat):Int) from by omega]at this
    exact this
   refine⟨_,us3++[.ref p],rfl,((s3.trans s4).trans s5).upd hl,ae,?_⟩
   have ej:(zbE n)[j]?=some ((j:Nat):Int):=by
    unfold zbE
    rw[List.getElem?_map,List.getElem?_range hj]
    rfl
   have e2:zcz n (rs.take i)++((zbE n).take (j+1)).map (λv=>r++[v])=(zcz n (rs.take i)++((zbE n).take j).map λv=>r++[v])++[r++[((j:Nat):Int)]]:=by
    rw[zan ej,mAq,←List.append_assoc]
    rfl
   rw[e2,mAq]
   exact aj.append hL5 (aj.one (Has.row hp5))
  ·rintro σ H3 ⟨v4',us3,rfl,s3,n3',hL3⟩
   rw[Int.toNat_natCast,tO (l:=zbE n) (i:=n) (by rw[zcF];exact nRq n)]at hL3
   refine⟨_,_,us3,rfl,s3,n3',?_⟩
   rw[zan hr',zj3]
   exact hL3
 rintro σ H2 ⟨v3,v4,us,rfl,s2,n2,hL2⟩
 rw[xl,tO (nRq _)]at hL2
 exact⟨_,rfl,Q0 H2 l us s2 hl n2 hL2⟩
def Cov (n:Nat) (T S:List Tm):Prop:=∀ t∈T,∀ r:List Int,r.length=t.2.length→(∀ v∈r,InR n v)→(t.1,r)∈S
theorem zkA {T:List Tm} {i:Nat} {t:Tm} (h:T[i]?=some t):zcX (T.take (i+1))=zcX (T.take i)+3 ^ t.2.length:=by
 rw[zan h,zdH]
 rfl
theorem zl7 (T:List Tm) (i:Nat):zcX (T.take i)≤zcX T:=by
 have e:=zdH (T.take i) (T.drop i)
 rw[List.take_append_drop]at e
 omega
theorem Has.tmm {H:Hp} {b rq:Addr} {z:Str} {r:List Int} (h:SqT K H b [.str z,.ref rq]) (hr:SqT K H rq (r.map V.int)):Has K H (dT (z,r)) (.ref b):=Has.tup' h (aj.cons (show Has K H (.str z) (.str z) from rfl) (.cons (Has.row hr) .nil))
inductive zdy (K:W.Frag):Sp|m{vs H Q E9} (a:Addr) (n:Nat) (xs:List V) (T:List Tm):vs=[.ref a,.int (n:Int)]→SqL K H a xs→aj K H (T.map dT) xs→n≤3→zcX T≤12→(∀(H':Hp) (l:Addr) (us:List V) (S:List Tm),ai H H'→H l=none→H' l=some (.lst us)→aj K H' (S.map dT) us→S.length≤12→Cov n T S→Q (.ref l) H')→zdy K vs H Q E9
theorem zbz:aO ["_law_terms","_law_size","_law_slots_here","_law_term","_law_rows","_law_part","_law_row"] ["_law_terms","_law_size"] (aw zeq):=fsc
theorem zlE (F:Fun K "_law_slots" "_law_slots" zeq f fd) (BL:FB P w K mg base CX0 1 "_law_longer" fL dL' ["_law_rows","_law_size"] (zfS K)):aI P w K mg base CX0 2 f fd ["_law_terms","_law_size"] (zdy K):=by
 refine F.ok zbz (λvs H Q E h=>?_) (λcdv A outer s H vs Q E hr h=>?_)
 ·obtain⟨a,n,xs,T',rfl,_⟩:=h
  rfl
 obtain⟨a,n,xs,T',rfl,hq,hL,n3,w12,Q0⟩:=h
 have hu:=zeL hr
 refine⟨_,(af (aE (i:=2) zbz.nd rfl (Or.inl rfl) (zag ac))
  (af (zah PassesOwn.never rfl (za6 (pv 0)) (zac (i:=3) zbz.nd rfl (Or.inl rfl))
   (af (aE (i:=4) zbz.nd rfl (Or.inl rfl) (zag (aa (aS ac) ac)))
    (af (zah PassesOwn.never rfl (zaU (ap az (pv 3) ad)) (zac (i:=5) zbz.nd rfl (Or.inl rfl))
     (ah (aE (i:=4) zbz.nd rfl (Or.inl rfl) (aB BL.ok hr rfl BL.m BL.kp BL.b .nil aR (aa (pv 4) (aa (pv 1) ac))))))
    (ah (zah PassesOwn.never rfl (za6 (pv 4)) (zac (i:=6) zbz.nd rfl (Or.inl rfl))
     (ah (aL (au (zhV hu) (aS (aa (ap az (pv 3) ad) (aa (pv 6) ac))) (pv 2) rfl)
       (ah (zak (zbt PySem.F.plainAttrs_list PySem.F.slot_list_append PySem.F.type_list_append zaE (pv 2) (aa (aS (aa (ap az (pv 3) ad) (aa (pv 6) ac))) ac))))
       aA)))))))
  (ah (ay (pv 2))))),?_⟩
 try dsimp only [Cx.nox,Cx.wish,aV]
 have xl:xs.length=T'.length:=by rw[←hL.length,lM]
 have a0:∀(z:Str) (r:Addr),atI [V.str z,V.ref r] 0=some (.str z):=λz r=>aF (j:=0) rfl
 have a1:∀(z:Str) (r:Addr),atI [V.str z,V.ref r] 1=some (.ref r):=λz r=>aF (j:=1) rfl
 refine⟨lS0,λl hl=>?_⟩
 have s1:=ag hl (.lst [])
 have n1:=ae (H:=H) (a:=l) (o:=.lst [])
 generalize upd H l (.lst [])=H1 at s1 n1
 refine⟨_,rfl,a,rfl,⟨_,s1.seq hq⟩,zby (xs:=xs) (λi σ H'=>∃(v3 v4 v5 v6:Option V) (us:List V) (S:List Tm),σ=[some (.ref a),some (.int (n:Int)),some (.ref l),v3,v4,v5,v6]∧ai H H'∧H' l=some (.lst us)∧aj K H' (S.map dT) us∧S.length≤zcX (T'.take i)∧Cov n (T'.take i) S) ⟨none,none,none,none,[],[],rfl,s1,n1,aj.nil,Nat.zero_le _,λt h=>by rw[List.take_zero]at h;exact nomatch h⟩ (λi σ H' _ ⟨_,_,_,_,_,_,_,s2,_⟩=>s2.seq hq) ?_ ?_⟩
 ·rintro i x σ H2 hx ⟨v3,v4,v5,v6,us,S,rfl,s2,n2,hL2,Sl,cv⟩
  obtain⟨t,q,r,ht,rfl,hq',hr'⟩:=zdx hL hx
  have wi:=zkA ht
  have wl:=zl7 T' (i+1)
  have np:∀ j,j≤t.2.length→n ^ j≤12:=λj hj=>by
   have h1:n ^ j≤3 ^ j:=Nat.pow_le_pow_left n3 j
   have h2:3 ^ j≤3 ^ t.2.length:=Nat.pow_le_pow_right (by decide) hj
   omega
  have t12:t.2.length≤12:=by
   have:t.2.length < 3 ^ t.2.length:=Nat.lt_pow_self (by decide)
   omega
  refine⟨lS0,λe he=>⟨lS1,λr0 hr0=>?_⟩⟩
  have s3:=ag he (.tup [])
  have e3:=ae (H:=H2) (a:=e) (o:=.tup [])
  generalize upd H2 e (.tup [])=H3 at s3 e3 hr0
  have s4:=s3.trans (ag hr0 (.lst [.ref e]))
  have r4:=ae (H:=H3) (a:=r0) (o:=.lst [.ref e])
  have e4:=ag hr0 (.lst [.ref e]) _ _ e3
  have nr0:r0≠l:=(zaa (s3 _ _ n2) hr0).symm
  generalize upd H3 r0 (.lst [.ref e])=H4 at s4 r4 e4
  refine⟨_,rfl,q,_,_,_,rfl,rfl,(s2.trans s4).tup hq',a1 _ _,r,rfl,⟨_,(s2.trans s4).tup hr'⟩,zcn (xs:=t.2.map V.int) (λj σ H'=>∃(v5 v6:Option V) (ra:Addr) (rus:List V),σ=[some (.ref a),some (.int (n:Int)),some (.ref l),some (.ref q),some (.ref ra),v5,v6]∧ai H2 H'∧H' ra=some (.lst rus)∧aj K H' ((zdG n j).map dR) rus∧ra≠l) ⟨_,_,r0,_,rfl,s4,r4,aj.one (Has.row (SqT.of e4)),nr0⟩ (λj σ H' _ ⟨_,_,_,_,_,s5,_⟩=>(s2.trans s5).tup hr') ?_ ?_⟩
  ·rintro j y σ H5 hy ⟨v5',v6',ra,rus,rfl,s5,r5,hR5,nra⟩
   have jb:=(gEq hy).1
   rw[lM]at jb
   refine⟨_,rfl,_,rfl,ra,n,rus,zdG n j,rfl,SqL.of r5,hR5,(by rw[zeF];have:=np j (by omega);omega),n3,λr' hr''=>(by rw[zhR n j r' hr''];omega),λH6 l2 us2 s6 f6 n6 hR6=>?_⟩
   exact⟨_,_,l2,us2,rfl,s5.trans s6,n6,hR6,(zaa (s5 _ _ n2) f6).symm⟩
  rintro σ H5 ⟨v5',v6',ra,rus,rfl,s5,r5,hR5,nra⟩
  rw[lM]at hR5
  have rl5:rus.length=n ^ t.2.length:=by rw[←hR5.length,lM,zeF]
  refine⟨_,rfl,ra,rfl,⟨_,SqL.of r5⟩,zby (xs:=rus) (λj σ H'=>∃(v6:Option V) (us:List V) (S:List Tm),σ=[some (.ref a),some (.int (n:Int)),some (.ref l),some (.ref q),some (.ref ra),v5',v6]∧ai H H'∧H' l=some (.lst us)∧aj K H' (S.map dT) us∧S.length≤zcX (T'.take i)+j∧Cov n (T'.take i) S∧(∀ m r',m < j→(zdG n t.2.length)[m]?=some r'→(t.1,r')∈S)∧H' ra=some (.lst rus)∧aj K H' ((zdG n t.2.length).map dR) rus) ⟨_,us,S,rfl,s2.trans s5,s5 _ _ n2,hL2.keep s5.kt (zbh _),Sl,cv,(λm r' h=>absurd h (Nat.not_lt_zero m)),r5,hR5⟩ (λj σ H' _ ⟨_,_,_,_,_,_,_,_,_,_,z,_⟩=>SqL.of z) ?_ ?_⟩
  ·rintro j y σ H6 hy ⟨v6'',us6,S6,rfl,s6,n6,hL6,Sl6,cv6,cm6,r6,hR6⟩
   have jb:=(gEq hy).1
   obtain⟨row,rq,hrow,rfl,sq⟩:=zgx hR6 hy
   have u6:us6.length≤12:=by
    rw[←hL6.length,lM]
    have:j≤n ^ t.2.length:=by omega
    have h1:n ^ t.2.length≤3 ^ t.2.length:=Nat.pow_le_pow_left n3 _
    omega
   refine⟨_,rfl,q,_,_,_,rfl,rfl,s6.tup hq',a0 _ _,_,rfl,lS2,λb hb=>⟨_,rfl,?_⟩⟩
   have s7:=ag hb (.tup [.str t.1,.ref rq])
   have b7:=ae (H:=H6) (a:=b) (o:=.tup [.str t.1,.ref rq])
   generalize upd H6 b (.tup [.str t.1,.ref rq])=H7 at s7 b7
   have hL7:=hL6.keep s7.kt (zbh _)
   refine⟨l,us6,S6.map dT,dT (t.1,row),rfl,.inl (SqL.of (s7 _ _ n6)),hL7,Has.tmm (SqT.of b7) (s7.tup sq),Nat.le_trans (zfq _) (by decide),?_⟩
   have cm:∀(S':List Tm),(∀ x∈S6,x∈S')→(t.1,row)∈S'→∀ m r',m < j+1→(zdG n t.2.length)[m]?=some r'→(t.1,r')∈S':=λS' h1 h2 m r' hm e=>by
    by_cases hj:m=j
    ·rw[hj,hrow]at e
     cases e
     exact h2
    ·exact h1 _ (cm6 m r' (by omega) e)
   rw[any_dT]
   refine⟨_,rfl,aJ (λc=>?_) (λc=>?_)⟩
   ·refine⟨_,rfl,.inl ⟨rfl,_,SqL.of (s7 _ _ n6)⟩,_,rfl,q,_,_,_,rfl,rfl,(s6.trans s7).tup hq',a0 _ _,_,rfl,lS2,λb2 hb2=>?_⟩
    have s8:=ag hb2 (.tup [.str t.1,.ref rq])
    have b8:=ae (H:=H7) (a:=b2) (o:=.tup [.str t.1,.ref rq])
    generalize upd H7 b2 (.tup [.str t.1,.ref rq])=H8 at s8 b8
    have n8:=s8 _ _ (s7 _ _ n6)
    refine⟨l,_,_,rfl,rfl,n8,zaC (by omega),?_⟩
    have kt:=zaw.lst (ys:=us6++[.ref b2]) n8
    have sq8:=kt.sq ((s7.trans s8).tup sq)
    have b8':=kt.sq (SqT.of (K:=K) b8)
    refine⟨_,us6++[.ref b2],S6++[(t.1,row)],rfl,((s6.trans s7).trans s8).upd hl,ae,?_,(by rw[lAq,lS];omega),λt' h r' e1 e2=>List.mem_append_left _ (cv6 t' h r' e1 e2),cm _ (λx h=>List.mem_append_left _ h) (List.mem_append_right _ (List.mem_singleton.mpr rfl)),(by rw[aD nra];exact s8 _ _ (s7 _ _ r6)),?_⟩
    ·rw[mAq]
     exact aj.append ((hL7.keep s8.kt (zbh _)).keep kt (zbh _)) (aj.one (Has.tmm b8' sq8))
    ·exact(hR6.keep (s7.trans s8).kt (zav _)).keep kt (zav _)
   ·have hm:(t.1,row)∈S6:=by
     apply Classical.byContradiction
     intro z
     exact c (by rw[decide_eq_false z];rfl)
    exact⟨_,us6,S6,rfl,s6.trans s7,s7 _ _ n6,hL7,Nat.le_succ_of_le Sl6,cv6,cm S6 (λ_ h=>h) hm,s7 _ _ r6,hR6.keep s7.kt (zav _)⟩
  ·rintro σ H6 ⟨v6'',us6,S6,rfl,s6,n6,hL6,Sl6,cv6,cm6,r6,hR6⟩
   refine⟨_,_,_,_,us6,S6,rfl,s6,n6,hL6,?_,?_⟩
   ·rw[wi]
    have h1:n ^ t.2.length≤3 ^ t.2.length:=Nat.pow_le_pow_left n3 _
    omega
   ·intro t' h' r' e1 e2
    rw[zan ht]at h'
    rcases mPq h' with h | h
    ·exact cv6 t' h r' e1 e2
    ·rw[mSq h]at e1 ⊢
     obtain⟨m,e3⟩:=List.getElem?_of_mem (zhW _ r' e1 e2)
     refine cm6 m r' ?_ e3
     rw[rl5,←zeF]
     exact(gEq e3).1
 rintro σ H2 ⟨v3,v4,v5,v6,us,S,rfl,s2,n2,hL2,Sl,cv⟩
 rw[xl,tO (nRq _)]at Sl cv
 exact⟨_,rfl,Q0 H2 l us S s2 hl n2 hL2 (by omega) cv⟩
def Tb (H:Hp) (n k:Nat) (l:Addr) (u:V):Prop:=∃(a:Addr) (tb:List Int),u=.ref a∧a≠l∧H a=some (.lst (tb.map V.int))∧tb.length=k∧∀ v∈tb,InR n v
theorem Tb.same {H H':Hp} {n k:Nat} {l:Addr} {u:V} (h:Tb H n k l u) (s:ai H H'):Tb H' n k l u:=by
 obtain⟨a,tb,h1,h2,h3,h4⟩:=h
 exact⟨a,tb,h1,h2,s _ _ h3,h4⟩
theorem Tb.upd {H:Hp} {n k:Nat} {l:Addr} {u:V} {o:HO} (h:Tb H n k l u):Tb (upd H l o) n k l u:=by
 obtain⟨a,tb,h1,h2,h3,h4⟩:=h
 exact⟨a,tb,h1,h2,by rw[aD h2];exact h3,h4⟩
theorem Tb.off {H:Hp} {n k:Nat} {l l':Addr} {u:V} (h:Tb H n k l u) (hl:H l'=none):Tb H n k l' u:=by
 obtain⟨a,tb,h1,h2,h3,h4⟩:=h
 exact⟨a,tb,h1,zaa h3 hl,h3,h4⟩
inductive zdh (K:W.Frag):Sp|m{vs H Q E9} (a:Addr) (n:Nat) (xs:List V):vs=[.ref a,.int (n:Int)]→SqL K H a xs→n≤3→xs.length≤12→(∀(H':Hp) (l:Addr) (us:List V),ai H H'→H' l=some (.lst us)→(∀ u∈us,Tb H' n xs.length l u)→Q (.ref l) H')→zdh K vs H Q E9
theorem zbq:aO ["_law_slots_here","_law_size","_law_found","_law_slot","_law_longer_here","_law_value","_law_row"] ["_law_slots_here","_law_size"] (aw zdX):=fsc
theorem pow12 {n i:Nat} (hn:n≤3) (hi:i≤12):n ^ i≤531441:=by
 have h1:n ^ i≤3 ^ i:=Nat.pow_le_pow_left hn i
 have h2:3 ^ i≤3 ^ 12:=Nat.pow_le_pow_right (by decide) hi
 have h3:3 ^ 12=531441:=by decide
 omega
theorem zkL (F:Fun K "_law_tables" "_law_tables" zdX f fd) (mrange:mg "range"=none):aI P w K mg base CX0 1 f fd ["_law_slots_here","_law_size"] (zdh K):=by
 refine F.ok zbq (λvs H Q E h=>?_) (λcdv A outer s H vs Q E hr h=>?_)
 ·obtain⟨a,n,xs,rfl,_⟩:=h
  rfl
 obtain⟨a,n,xs,rfl,hq,n3,x12,Q0⟩:=h
 refine⟨_,(af (aE (i:=2) zbq.nd rfl (Or.inl rfl) (zag (aa (zag ac) ac)))
  (af (zah PassesOwn.never rfl (za6 (pv 0)) (zac (i:=3) zbq.nd rfl (Or.inl rfl))
   (af (aE (i:=4) zbq.nd rfl (Or.inl rfl) (zag ac))
    (af (zah PassesOwn.never rfl (zaV rfl mrange (aa (pv 1) ac)) (zac (i:=5) zbq.nd rfl (Or.inl rfl))
     (ah (zah PassesOwn.never rfl (za6 (pv 2)) (zac (i:=6) zbq.nd rfl (Or.inl rfl))
       (ah (zak (zbt PySem.F.plainAttrs_list PySem.F.slot_list_append PySem.F.type_list_append zaE (pv 4) (aa (aq zaB (pv 6) (zag (aa (pv 5) ac))) ac)))))))
    (ah (aE (i:=2) zbq.nd rfl (Or.inl rfl) (pv 4))))))
  (ah (ay (pv 2))))),?_⟩
 try dsimp only [Cx.nox,Cx.wish,aV]
 refine⟨lS0,λe he=>⟨lS1,λl0 hl0=>?_⟩⟩
 have s1:=ag he (.lst [])
 have e1:=ae (H:=H) (a:=e) (o:=.lst [])
 generalize upd H e (.lst [])=H1 at s1 e1 hl0
 have s2:=s1.trans (ag hl0 (.lst [.ref e]))
 have n2:=ae (H:=H1) (a:=l0) (o:=.lst [.ref e])
 have e2:=ag hl0 (.lst [.ref e]) _ _ e1
 have ne0:e≠l0:=zaa e1 hl0
 generalize upd H1 l0 (.lst [.ref e])=H2 at s2 n2 e2
 refine⟨_,rfl,a,rfl,⟨_,s2.seq hq⟩,zby (xs:=xs) (λi σ H'=>∃(fa:Addr) (us:List V) (v3 v4 v5 v6:Option V),σ=[some (.ref a),some (.int (n:Int)),some (.ref fa),v3,v4,v5,v6]∧ai H H'∧H' fa=some (.lst us)∧us.length=n ^ i∧∀ u∈us,Tb H' n i fa u) ⟨l0,_,none,none,none,none,rfl,s2,n2,rfl,λu hu=>?_⟩ (λi σ H' _ ⟨_,_,_,_,_,_,_,s3,_⟩=>s3.seq hq) ?_ ?_⟩
 ·rw[mSq hu]
  exact⟨e,[],rfl,ne0,e2,rfl,λv h=>nomatch h⟩
 ·rintro i x σ H3 hx ⟨fa,us,v3,v4,v5,v6,rfl,s3,n3',ul,tb3⟩
  have ib:=(gEq hx).1
  have p12:=pow12 n3 (show i≤12 by omega)
  refine⟨lS0,λl hl=>?_⟩
  have lH:H l=none:=s3.free hl
  have tb4:∀ u∈us,Tb H3 n i l u:=λu hu=>(tb3 u hu).off hl
  have nfl:fa≠l:=zaa n3' hl
  have s4:=ag hl (.lst [])
  have n4:=ae (H:=H3) (a:=l) (o:=.lst [])
  generalize upd H3 l (.lst [])=H4 at s4 n4
  refine⟨_,rfl,_,rfl,(by show -(2 ^ 62)≤((n:Nat):Int);omega),(by show((n:Nat):Int) < 2 ^ 62;omega),zaL (lo:=0) (n:=((n:Nat):Int).toNat) (λj σ H'=>∃(ws:List V) (v5 v6:Option V),σ=[some (.ref a),some (.int (n:Int)),some (.ref fa),some x,some (.ref l),v5,v6]∧ai H3 H'∧H' l=some (.lst ws)∧ws.length=j * us.length∧∀ u∈ws,Tb H' n (i+1) l u) ⟨[],_,_,rfl,s4,n4,by simp,λu h=>nomatch h⟩ ?_ ?_⟩
  ·rintro j σ H5 hj ⟨ws,v5',v6',rfl,s5,n5,wl,tb5⟩
   rw[Int.toNat_natCast]at hj
   refine⟨_,rfl,fa,rfl,⟨_,SqL.of (s5 _ _ n3')⟩,zby (xs:=us) (λm σ H'=>∃(ws:List V) (v6:Option V),σ=[some (.ref a),some (.int (n:Int)),some (.ref fa),some x,some (.ref l),some (.int (0+((j:Nat):Int))),v6]∧ai H3 H'∧H' l=some (.lst ws)∧ws.length=j * us.length+m∧∀ u∈ws,Tb H' n (i+1) l u) ⟨ws,_,rfl,s5,n5,wl,tb5⟩ (λm σ H' _ ⟨_,_,_,s6,_⟩=>SqL.of (s6 _ _ n3')) ?_ ?_⟩
   ·rintro m y σ H6 hy ⟨ws6,v6'',rfl,s6,n6,wl6,tb6⟩
    have mb:=(gEq hy).1
    obtain⟨ra,tb,rfl,nra,hra,tl,tv⟩:=(tb4 y (mOq hy)).same s6
    have jm:j * us.length≤3 * 531441:=Nat.mul_le_mul (by omega) (by omega)
    have w6:ws6.length < sizeLine:=Nat.lt_of_le_of_lt (m:=4 * 531441) (by omega) (by decide)
    refine⟨_,rfl,.inl ⟨rfl,_,SqL.of n6⟩,_,rfl,_,rfl,lS1,λb hb=>?_⟩
    have s7:=ag hb (.lst [.int (0+((j:Nat):Int))])
    have b7:=ae (H:=H6) (a:=b) (o:=.lst [.int (0+((j:Nat):Int))])
    generalize upd H6 b (.lst [.int (0+((j:Nat):Int))])=H7 at s7 b7
    refine⟨_,_,_,_,rfl,rfl,s7 _ _ hra,b7,(by rw[lM];exact sz _ (by show tb.length+1≤1000;omega)),λp hp=>?_⟩
    have e8:tb.map V.int++[V.int (0+((j:Nat):Int))]=(tb++[((j:Nat):Int)]).map V.int:=by
     rw[mAq,show(0:Int)+((j:Nat):Int)=((j:Nat):Int) from by omega]
     rfl
    rw[e8]
    have s8:=s7.trans (ag hp (.lst ((tb++[((j:Nat):Int)]).map V.int)))
    have p8:=ae (H:=H7) (a:=p) (o:=.lst ((tb++[((j:Nat):Int)]).map V.int))
    have npl:p≠l:=(zaa (s7 _ _ n6) hp).symm
    generalize upd H7 p (.lst ((tb++[((j:Nat):Int)]).map V.int))=H8 at s8 p8
    refine⟨l,_,_,rfl,rfl,s8 _ _ n6,w6,?_⟩
    refine⟨ws6++[.ref p],_,rfl,(s6.trans s8).upd hl,ae,(by rw[lAq,lS];omega),λu hu=>?_⟩
    rcases mPq hu with h | h
    ·exact((tb6 u h).same s8).upd
    ·rw[mSq h]
     refine Tb.upd ⟨p,tb++[((j:Nat):Int)],rfl,npl,p8,by rw[lAq,lS,tl],λv hv=>?_⟩
     rcases mPq hv with h | h
     ·exact tv v h
     ·rw[mSq h]
      exact⟨by omega,by omega⟩
   ·rintro σ H6 ⟨ws6,v6'',rfl,s6,n6,wl6,tb6⟩
    exact⟨ws6,_,_,rfl,s6,n6,by rw[wl6,Nat.succ_mul],tb6⟩
  ·rintro σ H5 ⟨ws,v5',v6',rfl,s5,n5,wl,tb5⟩
   rw[Int.toNat_natCast]at wl
   exact⟨_,rfl,l,ws,_,_,_,_,rfl,s3.trans s5,n5,by rw[wl,ul,Nat.pow_succ,Nat.mul_comm],tb5⟩
 rintro σ H3 ⟨fa,us,v3,v4,v5,v6,rfl,s3,n3',ul,tb3⟩
 exact⟨_,rfl,Q0 H3 fa us s3 n3' tb3⟩
theorem rf_app {vs ws:List Int} {q:Int} (h:InR vs.length q):rf (vs++ws) q=rf vs q:=by
 obtain⟨h0,h1⟩:=h
 unfold rf
 rw[List.getD_eq_getElem?_getD,List.getD_eq_getElem?_getD,List.getElem?_append_left (by omega)]
theorem zkd {vs:List Int} {q:Int} (h:InR vs.length q):rf vs q∈vs:=by
 obtain⟨h0,h1⟩:=h
 unfold rf
 rw[List.getD_eq_getElem?_getD,gG (by omega)]
 exact List.getElem_mem _
def zd2 (g:Tm→Int) (T:List Tm) (vs:List Int):Prop:=∀(m:Nat) (t:Tm),m < vs.length→T[m]?=some t→vs[m]?=some (g (t.1,t.2.map (rf vs)))
theorem zd2.snoc {g:Tm→Int} {T:List Tm} {vs:List Int} {t:Tm} (h:zd2 g T vs) (wf:Wf T) (ht:T[vs.length]?=some t):zd2 g T (vs++[g (t.1,t.2.map (rf vs))]):=λm u hm hu=>by
 have key:∀(m:Nat) (u:Tm),m≤vs.length→T[m]?=some u→u.2.map (rf (vs++[g (t.1,t.2.map (rf vs))]))=u.2.map (rf vs):=λm u hm hu=>List.map_congr_left λq hq=>rf_app ((wf m u hu q hq).mono hm)
 rw[lAq,lS]at hm
 rw[key m u (by omega) hu]
 by_cases e:m < vs.length
 ·rw[List.getElem?_append_left e]
  exact h m u e hu
 ·have e':m=vs.length:=by omega
  subst e'
  rw[ht]at hu
  cases hu
  rw[List.getElem?_append_right (nRq _),Nat.sub_self]
  rfl
def zez (vs:List Int) (As:List At) (k:Int):Bool:=match As.getD (((k.natAbs:Nat):Int) - 1).toNat (.plain "") with
 | .same x y=>decide (decide (rf vs x=rf vs y)=decide (k > 0))
 | .plain _=>false
theorem zgU {As:List At} {k x y:Int} (h:smF As k=some (x,y)):1≤k∧k≤(As.length:Int)∧As.getD (k - 1).toNat (.plain "")=.same x y∧At.same x y∈As:=by
 unfold smF at h
 split at h
 ·rename_i c
  cases q:As.getD (k - 1).toNat (.plain "") with
  | plain z=>rw[q]at h;cases h
  | same a b =>
   rw[q]at h
   cases h
   refine⟨c.1,c.2,rfl,?_⟩
   rw[List.getD_eq_getElem?_getD,gG (by omega)]at q
   rw[←q]
   exact List.getElem_mem _
 ·cases h
theorem zlB {vs:List Int} {As:List At} {k x y:Int} (h:smF As k=some (x,y)) (hp:zez vs As (-k)=false):rf vs x=rf vs y:=by
 obtain⟨h1,h2,h3,_⟩:=zgU h
 unfold zez at hp
 rw[show(((-k).natAbs:Nat):Int)=k from by omega,h3]at hp
 simp only[decide_eq_false_iff_not]at hp
 rw[decide_eq_false (p:=-k > 0) (by omega)]at hp
 apply Classical.byContradiction
 intro z
 exact hp (decide_eq_false z)
theorem zlA {vs:List Int} {As:List At} {k x y:Int} (h:smF As k=some (x,y)) (hp:zez vs As k=false):rf vs x≠rf vs y:=by
 obtain⟨h1,h2,h3,_⟩:=zgU h
 unfold zez at hp
 rw[show((k.natAbs:Nat):Int)=k from by omega,h3]at hp
 simp only[decide_eq_false_iff_not]at hp
 rw[decide_eq_true (p:=k > 0) (by omega)]at hp
 intro z
 exact hp (decide_eq_true z)
theorem ziI {g:Tm→Int} {T:List Tm} {As:List At} {vs ps:List Int} (D:Dom T As) (vl:vs.length=T.length) (vo:zd2 g T vs) (no:∀ k∈ps,zez vs As k=false) :
  ∀(ls:List Lk) (f:Int→Int),(∀ l∈ls,zb2 T.length As.length l)→(∀ t u,InR T.length t→InR T.length u→f t=f u→rf vs t=rf vs u)→eqF mrg ps T As ls f=false
 | [],f,_,h=>by
  apply Bool.eq_false_iff.mpr
  intro z
  simp only[eqF,zeM,List.any_map,List.any_eq_true,Function.comp_apply,id_eq]at z
  obtain⟨k,hk,hs⟩:=z
  unfold zbP at hs
  cases q:smF As k with
  | none=>rw[q]at hs;cases hs
  | some xy =>
   obtain⟨x,y⟩:=xy
   rw[q]at hs
   obtain⟨i1,i2⟩:=D.am x y (zgU q).2.2.2
   exact zlA q (no k hk) (h x y i1 i2 (of_decide_eq_true hs))
 | l :: ls,f,hl,h=>by
  have lin:=hl l List.mem_cons_self
  by_cases hr:zbm f ps T As l=true
  ·rw[zg1 hr]
   have ev:rf vs l.1=rf vs l.2.1:=by
    unfold zbm at hr
    split at hr
    ·unfold zdn at hr
     rw[Bool.and_eq_true,Bool.and_eq_true]at hr
     obtain⟨e1,e2,e3⟩:=hr
     have e1:=of_decide_eq_true e1
     have e2:=of_decide_eq_true e2
     have t1:=zdK lin.1
     have t2:=zdK lin.2.1
     have v1:=vo _ _ (by have:=lin.1;have h0:=this.1;have h1:=this.2;omega) t1.1
     have v2:=vo _ _ (by have:=lin.2.1;have h0:=this.1;have h1:=this.2;omega) t2.1
     have em:(tG T l.1).2.map (rf vs)=(tG T l.2.1).2.map (rf vs):=by
      have:=zhu (rf vs) _ _ e2
      apply of_decide_eq_true
      rw[this]
      refine List.all_eq_true.mpr λxy hxy=>?_
      have hz:=List.all_eq_true.mp e3 xy hxy
      obtain⟨m1,m2⟩:=List.of_mem_zip (show(xy.1,xy.2)∈_ from hxy)
      exact decide_eq_true (h _ _ (D.tm _ t1.2 _ m1) (D.tm _ t2.2 _ m2) (of_decide_eq_true hz))
     show vs.getD _ 0=vs.getD _ 0
     rw[List.getD_eq_getElem?_getD,List.getD_eq_getElem?_getD,v1,v2,e1,em]
    ·unfold zey at hr
     rw[Bool.and_eq_true]at hr
     obtain⟨m1,m2⟩:=hr
     cases q:smF As l.2.2 with
     | none=>rw[q]at m2;cases m2
     | some xy =>
      obtain⟨x,y⟩:=xy
      rw[q]at m2
      have e:=zlB q (no _ (of_decide_eq_true m1))
      rcases Bool.or_eq_true _ _ ▸ m2 with z | z
      ·have:=of_decide_eq_true z
       cases this
       exact e
      ·have:=of_decide_eq_true z
       cases this
       exact e.symm
   refine ziI D vl vo no ls _ (λl' h'=>hl l' (List.mem_cons_of_mem _ h')) λt u ht hu' e=>?_
   rw[zmy]at e
   rcases e with e | ⟨e1,e2⟩ | ⟨e1,e2⟩
   ·exact h t u ht hu' e
   ·rw[h t _ ht lin.1 e1,h u _ hu' lin.2.1 e2,ev]
   ·rw[h t _ ht lin.2.1 e1,h u _ hu' lin.1 e2,ev]
  ·exact zf9 hr
inductive zdz (K:W.Frag):Sp|m{vs H Q E9} (tl sl ta:Addr) (n:Nat) (ts us:List V) (T S:List Tm) (tb:List Int):vs=[.ref tl,.ref sl,.ref ta]→SqL K H tl ts→aj K H (T.map dT) ts→Wf T→(∀ t∈T,t.2.length≤1000)→T.length≤100→H sl=some (.lst us)→aj K H (S.map dT) us→Cov n T S→SqL K H ta (tb.map V.int)→tb.length=S.length→(∀ v∈tb,InR n v)→(∀(H':Hp) (l:Addr) (vs:List Int) (g:Tm→Int),ai H H'→H' l=some (.lst (vs.map V.int))→vs.length=T.length→zd2 g T vs→Q (.ref l) H')→zdz K vs H Q E9
theorem zdE:aO ["_law_terms","_law_slots_here","_law_table","_law_values_here","_law_term"] ["_law_terms","_law_slots_here","_law_table"] (aw zdb):=fsc
theorem zlI (F:Fun K "_law_values" "_law_values" zdb f fd) (mtuple:mg "tuple"=none):aI P w K mg base CX0 1 f fd ["_law_terms","_law_slots_here","_law_table"] (zdz K):=by
 refine F.ok zdE (λvs H Q E h=>?_) (λcdv A outer s H vs Q E hr h=>?_)
 ·obtain⟨tl,sl,ta,n,ts,us,T',S,tb,rfl,_⟩:=h
  rfl
 obtain⟨tl,sl,ta,n,ts,us,T',S,tb,rfl,ht,hT,wf,t1000,T100,hs,hS,cv,htb,tbl,tbv,Q0⟩:=h
 have hu:=zeL hr
 refine⟨_,(af (aE (i:=3) zdE.nd rfl (Or.inr rfl) (zag ac))
  (af (zah PassesOwn.never rfl (za6 (pv 0)) (zac (i:=4) zdE.nd rfl (Or.inl rfl))
   (ah (zak (zbt PySem.F.plainAttrs_list PySem.F.slot_list_append PySem.F.type_list_append zaE (pv 3) (aa (ap zab (pv 2) (zbt PySem.F.plainAttrs_list PySem.F.slot_list_index PySem.F.type_list_index (zeJ hu) (pv 1) (aa (aS (aa (ap az (pv 4) ad) (aa (zar zaD rfl mtuple PyProof.Rows.Boot.tuple (aa (zbQ (N':=["_law_part","_law_values_here"]) (ix:=[3]) rfl rfl (by decide +kernel) (by decide +kernel) rfl (λok=>zc4 (sc:=aw zdb) ok rfl (by decide +kernel) (by decide +kernel)) (by decide +kernel) rfl rfl (λj i h=>match j,h with | 0,h=>by cases h;exact⟨_,rfl,rfl,.inl rfl,.inl rfl⟩ | n+1,h=>by simp at h) (zaU (ap az (pv 4) ad)) (λ_ _ _ _=>(ap (r:=zgJ K) zab (pv 1) (pv 0)))) ac)) ac))) ac))) ac)))))
  (ah (ay (pv 3))))),?_⟩
 try dsimp only [Cx.nox,Cx.wish,aV]
 have xl:ts.length=T'.length:=by rw[←hT.length,lM]
 have a0:∀(z:Str) (r:Addr),atI [V.str z,V.ref r] 0=some (.str z):=λz r=>aF (j:=0) rfl
 have a1:∀(z:Str) (r:Addr),atI [V.str z,V.ref r] 1=some (.ref r):=λz r=>aF (j:=1) rfl
 refine⟨lS0,λl hl=>?_⟩
 have s1:=ag hl (.lst [])
 have n1:=ae (H:=H) (a:=l) (o:=.lst [])
 generalize upd H l (.lst [])=H1 at s1 n1
 refine⟨_,rfl,tl,rfl,⟨_,s1.seq ht⟩,zby (xs:=ts) (λi σ H'=>∃(v4:Option V) (vs:List Int),σ=[some (.ref tl),some (.ref sl),some (.ref ta),some (.ref l),v4]∧ai H H'∧H' l=some (.lst (vs.map V.int))∧vs.length=i∧zd2 (λp=>rf tb ((S.idxOf p:Nat):Int)) T' vs∧∀ v∈vs,InR n v) ⟨none,[],rfl,s1,n1,rfl,(λm t h=>absurd h (Nat.not_lt_zero m)),λv h=>nomatch h⟩ (λi σ H' _ ⟨_,_,_,s2,_⟩=>s2.seq ht) ?_ ?_⟩
 ·rintro i x σ H2 hx ⟨v4,vs,rfl,s2,n2,vl,vo,vin⟩
  obtain⟨t,q,r,ht',rfl,hq,hr'⟩:=zdx hT hx
  have ib:=(gEq ht').1
  have tm:=mOq ht'
  have kin:∀ k∈t.2,InR vs.length k:=λk hk=>by rw[vl];exact wf i t ht' k hk
  refine⟨_,rfl,.inl ⟨rfl,_,SqL.of n2⟩,_,rfl,_,rfl,.inl ⟨rfl,_,SqL.of (s2 _ _ hs)⟩,_,rfl,q,_,_,_,rfl,rfl,s2.tup hq,a0 _ _,_,rfl,q,_,_,_,rfl,rfl,s2.tup hq,a1 _ _,r,rfl,⟨_,s2.tup hr'⟩,λD hD=>zbu zbl (λj us H'=>ai H2 H'∧us=((t.2.take j).map (rf vs)).map V.int) (λj us H' ⟨s4,_⟩=>(s2.trans s4).tup hr') ⟨ag hD _,rfl⟩ ?_ ?_⟩
  ·rintro j us8 H8 z H4 hj hly hDs ⟨s4,rfl⟩ ⟨rfl,hx4⟩
   obtain⟨k,hk,rfl⟩:=zaH (hx4 _ ((s2.trans s4).tup hr'))
   refine⟨_,rfl,_,rfl,l,_,_,_,rfl,rfl,SqL.of (s4 _ _ n2),zcg (kin k (mOq hk)),zaA (sz _ (by rw[lM];exact t1000 t tm)) hj hly hDs ⟨s4.upd hD,?_⟩⟩
   rw[zan hk,mAq,mAq]
   rfl
  rintro us8 H4 hDs ⟨s4,rfl⟩
  rw[lM,tO (nRq _)]at hDs
  refine⟨D,_,rfl,.inl ⟨SqL.of hDs,λp hp=>?_⟩⟩
  have s5:=s4.trans (ag hp (.tup ((t.2.map (rf vs)).map V.int)))
  have p5:=ae (H:=H4) (a:=p) (o:=.tup ((t.2.map (rf vs)).map V.int))
  generalize upd H4 p (.tup ((t.2.map (rf vs)).map V.int))=H5 at s5 p5
  refine⟨lS2,λb hb=>?_⟩
  have s6:=s5.trans (ag hb (.tup [.str t.1,.ref p]))
  have b6:=ae (H:=H5) (a:=b) (o:=.tup [.str t.1,.ref p])
  have p6:=ag hb (.tup [.str t.1,.ref p]) _ _ p5
  generalize upd H5 b (.tup [.str t.1,.ref p])=H6 at s6 b6 p6
  have hm:(t.1,t.2.map (rf vs))∈S:=cv t tm _ (lM _) λv hv=>by
   obtain⟨k,hk,rfl⟩:=List.mem_map.mp hv
   exact vin _ (zkd (kin k hk))
  have il:=List.idxOf_lt_length_of_mem hm
  refine⟨sl,us,S.map dT,_,dT (t.1,t.2.map (rf vs)),S.idxOf (t.1,t.2.map (rf vs)),rfl,rfl,(s2.trans s6) _ _ hs,hS.keep (s2.trans s6).kt (zbh _),Has.tmm (SqT.of b6) (SqT.of p6),Nat.le_trans (zfq _) (by decide),⟨_,idx_at hm,zb3 _⟩,(λm dm hm' e=>idx_no hm' e),?_⟩
  have ii:InR tb.length ((S.idxOf (t.1,t.2.map (rf vs)):Nat):Int):=⟨by omega,by omega⟩
  refine⟨ta,_,_,_,rfl,rfl,(s2.trans s6).seq htb,zcg ii,l,_,_,rfl,rfl,s6 _ _ n2,zaC (by rw[lM];omega),?_⟩
  refine⟨_,vs++[rf tb ((S.idxOf (t.1,t.2.map (rf vs)):Nat):Int)],rfl,(s2.trans s6).upd hl,?_,?_,vo.snoc wf (by rw[vl];exact ht'),λv hv=>?_⟩
  ·rw[mAq]
   exact ae
  ·rw[lAq,lS,vl]
  ·rcases mPq hv with h | h
   ·exact vin v h
   ·rw[mSq h]
    exact tbv _ (zkd ii)
 rintro σ H2 ⟨v4,vs,rfl,s2,n2,vl,vo,vin⟩
 exact⟨_,rfl,Q0 H2 l vs _ s2 n2 (by rw[vl,xl]) vo⟩
end K36
namespace Ls36
open PySem L2
abbrev zil:Stmt:=K36.s__law_left
abbrev zjk:Stmt:=K36.s__law_hints
abbrev zfk:Stmt:=K36.s__law_spoilt
abbrev zjj:Stmt:=K36.s__law_right
structure TxL (K:W.Frag) (mg:Str→Option Value):Prop where
 len:mg "len"=none
 range:mg "range"=none
 tuple:mg "tuple"=none
 list:mg "list"=none
def leftV (H:Hp):Option (List Int)→V→Prop
 | none,v=>v=.non
 | some l,v=>∃ a,v=.ref a∧H a=some (.lst (l.map V.int))
inductive zgq (K:W.Frag):Sp|m{vs H Q E9} (q a:Addr) (row held:List Int):vs=[.ref q,.ref a]→SqT K H q (row.map V.int)→SqL K H a (held.map V.int)→row.length≤1000→(∀ H' v,ai H H'→leftV H' (zcO row held) v→(∀ b,v=.ref b→H b=none)→Q v H')→zgq K vs H Q E9
def InR (n:Nat) (hs:List Int):Prop:=∀ x∈hs,0≤x∧x < (n:Int)
inductive sp_hints (K:W.Frag):Sp|m{vs H Q E9} (rl pt:Addr) (xs:List V) (Rs:List (List Int)) (ps:List Int):vs=[.ref rl,.ref pt]→SqL K H rl xs→aj K H (Rs.map zfB) xs→SqT K H pt (ps.map V.int)→(∀ r∈Rs,r.length≤100)→Rs.length≤60→ps.length≤100→(∀ H' l hs,ai H H'→H l=none→H' l=some (.lst (hs.map V.int))→InR Rs.length hs→hs.length≤Rs.length→Q (.ref l) H')→sp_hints K vs H Q E9
def InS (_:Nat) (hs:List Int):Prop:=∀ x∈hs,True
inductive sp_spoilt:Sp|m{vs H Q E9} (l:Addr) (hs:List Int) (n:Nat) (c:Int):vs=[.ref l,.int (n:Nat),.int c]→H l=some (.lst (hs.map V.int))→InS n hs→hs.length≤90→(∀ H' l' hs',ai H H'→H' l'=some (.lst (hs'.map V.int))→InS n hs'→hs'.length≤hs.length+1→Q (.ref l') H')→sp_spoilt vs H Q E9
inductive sp_right (K:W.Frag):Sp|m{vs H Q E9} (rl pt hl:Addr) (xs:List V) (Rs:List (List Int)) (ps hs:List Int):vs=[.ref rl,.ref pt,.ref hl]→SqL K H rl xs→aj K H (Rs.map zfB) xs→SqT K H pt (ps.map V.int)→H hl=some (.lst (hs.map V.int))→(∀ r∈Rs,r.length≤100)→ps.length≤100→hs.length≤100→InR Rs.length hs→(∀ H',ai H H'→Q (.bl (zdk Rs (ps.map λp=>-p) hs)) H')→sp_right K vs H Q E9
theorem zl3 {row:List Int} {i:Nat} {k:Int} (p:Int→Bool) (h:row[i]?=some k):(row.take (i+1)).any p=((row.take i).any p||p k):=by
 rw[zan h,List.any_append,List.any_cons,List.any_nil,Bool.or_false]
theorem zli {row:List Int} {i:Nat} {k:Int} {p:Int→Bool} (h:row[i]?=some k) (e:p k=true):row.any p=true:=List.any_eq_true.mpr ⟨k,mOq h,e⟩
section
variable {P:Program} {w:World} {K:W.Frag} {mg:Str→Option Value} {base:Heap} {fL:Addr} {dL:FuncData}
theorem zji:aO ["_law_row","_law_held","_law_part"] ["_law_row","_law_held"] (aw zil):=fsc
theorem ok_left {f:Addr} {fd:FuncData} (F:Fun K "_law_left" "_law_left" zil f fd):aI P w K mg base CX0 1 f fd ["_law_row","_law_held"] (zgq K):=by
 refine F.ok zji (λvs H Q E h=>?_) (λcdv A outer s H vs Q E hr h=>?_)
 ·obtain⟨q,a,row,held,rfl,_⟩:=h
  rfl
 obtain⟨q,a,row,held,rfl,hq,ha,len,h⟩:=h
 refine⟨_,(af (zah PassesOwn.never rfl (zaU (pv 0)) (zac (i:=2) zji.nd rfl (Or.inl rfl))
   (ah (aL (au zf5 (pv 2) (pv 1) rfl)
     (ah (ay zb8))
     aA)))
  (ah (ay (zhe (N':=["_law_part","_law_held"]) (ix:=[1]) rfl rfl (by decide +kernel) (by decide +kernel) rfl (λok=>zc4 (sc:=aw zil) ok rfl (by decide +kernel) (by decide +kernel)) (by decide +kernel) rfl rfl (λj i h=>match j,h with | 0,h=>by cases h;exact⟨_,rfl,rfl,.inl rfl,.inl rfl⟩ | n+1,h=>by simp at h) (zaU (pv 0)) (λ_ _ _ _=>(au (r:=rIn K true) zbO (zbk za1 (pv 0)) (pv 1) rfl)) (λ_ _ _ _=>(pv 0)))))),?_⟩
 try dsimp only [Cx.nox,Cx.wish,aV]
 refine⟨_,rfl,q,rfl,⟨_,hq⟩,zcn (xs:=row.map V.int) (λi σ H'=>H'=H∧(row.take i).any (λp=>decide (p∈held))=false∧∃ v,σ=[some (.ref q),some (.ref a),v]) ⟨rfl,rfl,none,rfl⟩ (λi σ H' _ ⟨e,_⟩=>by rw[e];exact hq) ?_ ?_⟩
 ·rintro i x σ H' hx ⟨rfl,hn,v,rfl⟩
  obtain⟨k,hk,rfl⟩:=zaH hx
  refine⟨_,rfl,_,rfl,a,_,rfl,.inl ha,rfl,zdi _,_,rfl,?_⟩
  rw[zbN]
  by_cases e:k∈held
  ·rw[decide_eq_true e]
   refine zao (h H' .non (ai.refl _) ?_ (λb z=>nomatch z))
   unfold zcO
   rw[if_pos (zli hk (decide_eq_true e))]
   rfl
  ·rw[decide_eq_false e]
   refine aY ⟨rfl,?_,_,rfl⟩
   rw[zl3 _ hk,hn,decide_eq_false e]
   rfl
 ·rintro σ H' ⟨rfl,hn,v,rfl⟩
  rw[lM,tO (nRq _)]at hn
  refine⟨_,rfl,q,rfl,⟨_,hq⟩,λD hD=>zhh zbl (λi ys H2=>ai H' H2∧ys=((row.take i).filter λp=>decide (-p∉held)).map V.int) (λi ys H2 ⟨s1,_⟩=>s1.tup hq) ⟨ag hD _,rfl⟩ ?_ ?_⟩
  ·rintro i ys H2 x H'' hi hly hDs ⟨s1,rfl⟩ ⟨rfl,hx⟩
   obtain⟨k,hk',rfl⟩:=zaH (hx _ (s1.tup hq))
   have et:=zgI (λp=>decide (-p∉held)) hk'
   refine⟨_,rfl,_,rfl,_,rfl,a,_,rfl,.inl (s1.seq ha),rfl,zdi _,_,rfl,?_⟩
   rw[zbN]
   by_cases e:-k∈held
   ·rw[decide_eq_true e]
    refine aY (zgu hi hly hDs ⟨s1,?_⟩)
    rw[et,if_neg (by simp [e])]
   ·rw[decide_eq_false e]
    refine zao ⟨_,rfl,zaA (by rw[lM];exact bsz _ len) hi hly hDs ⟨s1.upd hD,?_⟩⟩
    rw[et,if_pos (decide_eq_true e),mAq]
    rfl
  ·rintro ys H2 hDs ⟨s1,rfl⟩
   rw[lM,tO (nRq _)]at hDs
   refine h H2 _ s1 ?_ (λb z=>by cases z;exact hD)
   unfold zcO
   rw[if_neg (by rw[hn];decide)]
   exact⟨D,rfl,hDs⟩
theorem zh0 (hs:List Int) (lo hi:Option Int):∃ hs':List Int,aQ (hs.map V.int) lo hi=hs'.map V.int∧(∀ x∈hs',x∈hs):=by
 unfold aQ
 refine⟨(hs.drop (HT.sIx (hs.map V.int).length 0 lo)).take (HT.sIx (hs.map V.int).length (hs.map V.int).length hi - HT.sIx (hs.map V.int).length 0 lo),by rw[List.map_take,List.map_drop],λx hx=>List.mem_of_mem_drop (List.mem_of_mem_take hx)⟩
theorem zir {n d:Nat} {i:Int} (h0:0≤i) (h1:i≤(n:Int)):HT.sIx n d (some i)=i.toNat:=by
 have e:i=((i.toNat:Nat):Int):=by omega
 rw[e,HT.sIx_nat]
 omega
theorem zhj {hs:List Int} {i:Int} (h0:0≤i) (h1:i≤(hs.length:Int)):aQ (hs.map V.int) none (some i)=(hs.take i.toNat).map V.int:=by
 unfold aQ
 rw[HT.sIx_none,zir h0 (by rw[lM];exact h1),List.drop_zero,Nat.sub_zero,List.map_take]
theorem zg2 {hs:List Int} {i:Int} (h0:0≤i) (h1:i≤(hs.length:Int)):aQ (hs.map V.int) (some i) none=(hs.drop i.toNat).map V.int:=by
 unfold aQ
 rw[HT.sIx_none,zir h0 (by rw[lM];exact h1),tO (by rw[List.length_drop];omega),List.map_drop]
theorem zmG (hs:List V) (lo hi:Option Int):(aQ hs lo hi).length≤hs.length:=by
 unfold aQ
 rw[List.length_take,List.length_drop]
 omega
theorem zhQ:aO ["_law_hints_here","_law_many","_law_cell","_law_at"] ["_law_hints_here","_law_many","_law_cell"] (aw zfk):=fsc
abbrev NSp:List Str:=["_law_hints_here","_law_many","_law_cell","_law_at"]
theorem zmf {f:Addr} {cdv:Value} {A:Around} {outer:List Env} {s:Shared} {H0:Hp} {E:XK} :
  ∃ t,PSs (aV CX0 P w K mg base NSp "_law_spoilt" (aw zfk) f cdv A outer s H0 E).nox ((zaR zfk).drop 1) t ∧
   ∀(D:zbT) (H:Hp) (l:Addr) (hs:List Int) (n:Nat) (c at_:Int) (Q:VK),H l=some (.lst (hs.map V.int))→InS n hs→hs.length≤90→0≤at_→at_≤(hs.length:Int)→D.rt=Q →
    (∀ H' l' hs',ai H H'→H' l'=some (.lst (hs'.map V.int))→InS n hs'→hs'.length≤hs.length+1→Q (.ref l') H')→t D [some (.ref l),some (.int (n:Nat)),some (.int c),some (.int at_)] H:=by
 refine⟨_,(af (aL (PW.pt (za2 (au zaf (aq zad (pv 2) ad) ad) (za5 (au zcf (pv 1) ad))))
   (ah (ay (aq zaB (aq zaB (zaj zaG (pv 0) zat (zas (pv 3))) (zag (aa (aq zad (aq zau (pv 2) ad) (pv 1)) ac))) (zaj zaG (pv 0) (zas (pv 3)) zat))))
   aA)
  (af (aL (au zaf (aq zad (pv 2) ad) ad)
   (ah (ay (aq zaB (zaj zaG (pv 0) zat (zas (pv 3))) (zaj zaG (pv 0) (zas (aq zal (pv 3) ad)) zat))))
   aA)
  (af (aL (au zaf (aq zad (pv 2) ad) ad)
   (ah (ay (aq zaB (zaj zaG (pv 0) (zas (pv 3)) zat) (zaj zaG (pv 0) zat (zas (pv 3))))))
   aA)
  (ah (ay (pv 0)))))),?_⟩
 try dsimp only [Cx.nox,Cx.wish,aV]
 rintro D H l hs n c at_ Q hl inr len a0 a1 rfl h
 have lm:(hs.map V.int).length=hs.length:=lM _
 have two:∀(H1:Hp) (lo1 hi1 lo2 hi2:Option Int),ai H H1→∀ a b p,H1 a=some (.lst (aQ (hs.map V.int) lo1 hi1))→H1 b=some (.lst (aQ (hs.map V.int) lo2 hi2))→(aQ (hs.map V.int) lo1 hi1).length+(aQ (hs.map V.int) lo2 hi2).length≤hs.length+1→H1 p=none→D.rt (.ref p) (upd H1 p (.lst (aQ (hs.map V.int) lo1 hi1++aQ (hs.map V.int) lo2 hi2))):=λH1 lo1 hi1 lo2 hi2 s1 a b p _ _ hl2 hp=>by
  obtain⟨c1,e1,m1⟩:=zh0 hs lo1 hi1
  obtain⟨c2,e2,m2⟩:=zh0 hs lo2 hi2
  rw[e1,e2,←mAq]
  rw[e1,e2,lM,lM]at hl2
  exact h _ p (c1++c2) (s1.trans (ag hp _)) ae (λx hx=>(mPq hx).elim (λz=>inr x (m1 x z)) λz=>inr x (m2 x z)) (by rw[lAq];exact hl2)
 have fin:D.rt (.ref l) H:=h H l hs (ai.refl H) hl inr (by omega)
 have tail:∀ c2:Bool,True:=λ_=>trivial
 refine zed (λn' hn'=>⟨_,rfl,_,_,rfl,rfl,(by show(0:Int) < 8;decide),rfl,_,rfl,aJ (λc1=>⟨_,rfl,_,_,rfl,rfl,_,rfl,aJ (λc2=>?_) (λc2=>hn')⟩) (λc1=>aY hn')⟩) ?_
 ·have hn:(0:Int) < (n:Int):=of_decide_eq_true c2
  have b0:=Int.emod_nonneg (c / 64) (show(n:Int)≠0 by omega)
  have b1:=Int.emod_lt_of_pos (c / 64) hn
  refine⟨_,rfl,_,rfl,_,rfl,l,_,rfl,SqL.of hl,λp1 hp1=>?_⟩
  have t1:ai H (upd H p1 (.lst (aQ (hs.map V.int) none (some at_)))):=ag hp1 _
  refine⟨_,rfl,_,_,rfl,rfl,⟨by decide,by decide⟩,_,rfl,_,_,rfl,rfl,hn,lS1,λp2 hp2=>?_⟩
  have t2:=t1.trans (ag hp2 (.lst [.int (c / 64 % (n:Int))]))
  have g1:=ag hp2 (.lst [.int (c / 64 % (n:Int))]) _ _ (ae (H:=H) (a:=p1) (o:=.lst (aQ (hs.map V.int) none (some at_))))
  have cl:=zmG (hs.map V.int) none (some at_)
  refine⟨p1,p2,_,_,rfl,rfl,g1,ae,bsz _ (by rw[lm]at cl;simp only[lS];omega),λp3 hp3=>?_⟩
  have t3:=t2.trans (ag hp3 (.lst (aQ (hs.map V.int) none (some at_)++[.int (c / 64 % (n:Int))])))
  have g3:=ae (H:=upd (upd H p1 (.lst (aQ (hs.map V.int) none (some at_)))) p2 (.lst [.int (c / 64 % (n:Int))])) (a:=p3) (o:=.lst (aQ (hs.map V.int) none (some at_)++[.int (c / 64 % (n:Int))]))
  generalize upd (upd (upd H p1 (.lst (aQ (hs.map V.int) none (some at_)))) p2 (.lst [.int (c / 64 % (n:Int))])) p3 (.lst (aQ (hs.map V.int) none (some at_)++[.int (c / 64 % (n:Int))]))=H3 at t3 g3
  refine⟨_,rfl,_,rfl,_,rfl,l,_,rfl,SqL.of (t3 _ _ hl),λp4 hp4=>?_⟩
  have t4:=t3.trans (ag hp4 (.lst (aQ (hs.map V.int) (some at_) none)))
  have g4:=ag hp4 (.lst (aQ (hs.map V.int) (some at_) none)) _ _ g3
  have el:(hs.take at_.toNat).length+(hs.drop at_.toNat).length=hs.length:=by rw[List.length_take,List.length_drop];omega
  have e5:aQ (hs.map V.int) none (some at_)++[V.int (c / 64 % (n:Int))]++aQ (hs.map V.int) (some at_) none=(hs.take at_.toNat++[c / 64 % (n:Int)]++hs.drop at_.toNat).map V.int:=by rw[zhj a0 a1,zg2 a0 a1];simp
  refine⟨p3,p4,_,_,rfl,rfl,g4,ae,bsz _ (by rw[zhj a0 a1,zg2 a0 a1];simp only[lAq,lM,lS];omega),λp5 hp5=>?_⟩
  have f5:=h (upd (upd H3 p4 (.lst (aQ (hs.map V.int) (some at_) none))) p5 (.lst ((hs.take at_.toNat++[c / 64 % (n:Int)]++hs.drop at_.toNat).map V.int))) p5 (hs.take at_.toNat++[c / 64 % (n:Int)]++hs.drop at_.toNat) (t4.trans (ag hp5 _)) ae (λx hx=>?_) (by simp only[lAq,lS];omega)
  ·rw[←e5]at f5
   exact f5
  rcases mPq hx with hx | hx
  ·rcases mPq hx with hx | hx
   ·exact inr x (List.mem_of_mem_take hx)
   ·exact trivial
  ·exact inr x (List.mem_of_mem_drop hx)
 all_goals
  refine⟨_,rfl,_,_,rfl,rfl,(by show(0:Int) < 8;decide),rfl,_,rfl,aJ (λc3=>?_) (λc3=>⟨_,rfl,_,_,rfl,rfl,(by show(0:Int) < 8;decide),rfl,_,rfl,aJ (λc4=>?_) (λc4=>⟨_,rfl,fin⟩)⟩)⟩
  ·refine⟨_,rfl,_,rfl,_,rfl,l,_,rfl,SqL.of hl,λp1 hp1=>?_⟩
   have t1:ai H (upd H p1 (.lst (aQ (hs.map V.int) none (some at_)))):=ag hp1 _
   refine⟨_,rfl,_,rfl,_,_,rfl,rfl,_,rfl,l,_,rfl,SqL.of (t1 _ _ hl),λp2 hp2=>?_⟩
   have t2:=t1.trans (ag hp2 (.lst (aQ (hs.map V.int) (some (at_+1)) none)))
   have g1:=ag hp2 (.lst (aQ (hs.map V.int) (some (at_+1)) none)) _ _ (ae (H:=H) (a:=p1) (o:=.lst (aQ (hs.map V.int) none (some at_))))
   have l1:(aQ (hs.map V.int) none (some at_)).length≤at_.toNat:=by rw[zhj a0 a1,lM,List.length_take];omega
   have l2:(aQ (hs.map V.int) (some (at_+1)) none).length+at_.toNat≤hs.length:=by
    unfold aQ
    rw[List.length_take,List.length_drop,HT.sIx_none,lm]
    by_cases e:at_+1≤(hs.length:Int)
    ·rw[zir (by omega) (by omega)]
     omega
    ·have e1:HT.sIx hs.length 0 (some (at_+1))=hs.length:=by
      have e2:at_+1=(((at_+1).toNat:Nat):Int):=by omega
      rw[e2,HT.sIx_nat]
      omega
     rw[e1]
     omega
   exact⟨p1,p2,_,_,rfl,rfl,g1,ae,bsz _ (by omega),λp3 hp3=>two _ none (some at_) (some (at_+1)) none t2 p1 p2 p3 g1 ae (by omega) hp3⟩
  ·refine⟨_,rfl,_,rfl,_,rfl,l,_,rfl,SqL.of hl,λp1 hp1=>?_⟩
   have t1:ai H (upd H p1 (.lst (aQ (hs.map V.int) (some at_) none))):=ag hp1 _
   refine⟨_,rfl,_,rfl,_,rfl,l,_,rfl,SqL.of (t1 _ _ hl),λp2 hp2=>?_⟩
   have t2:=t1.trans (ag hp2 (.lst (aQ (hs.map V.int) none (some at_))))
   have g1:=ag hp2 (.lst (aQ (hs.map V.int) none (some at_))) _ _ (ae (H:=H) (a:=p1) (o:=.lst (aQ (hs.map V.int) (some at_) none)))
   have l1:(aQ (hs.map V.int) none (some at_)).length≤at_.toNat:=by rw[zhj a0 a1,lM,List.length_take];omega
   have l2:(aQ (hs.map V.int) (some at_) none).length+at_.toNat≤hs.length:=by rw[zg2 a0 a1,lM,List.length_drop];omega
   exact⟨p1,p2,_,_,rfl,rfl,g1,ae,bsz _ (by omega),λp3 hp3=>two _ (some at_) none none (some at_) t2 p1 p2 p3 g1 ae (by omega) hp3⟩
theorem ok_spoilt {f:Addr} {fd:FuncData} (F:Fun K "_law_spoilt" "_law_spoilt" zfk f fd) (T:TxL K mg):aI P w K mg base CX0 1 f fd ["_law_hints_here","_law_many","_law_cell"] sp_spoilt:=by
 refine F.ok zhQ (λvs H Q E h=>?_) (λcdv A outer s H vs Q E hr h=>?_)
 ·obtain⟨l,hs,n,c,rfl,_⟩:=h
  rfl
 obtain⟨l,hs,n,c,rfl,hl,inr,len,h⟩:=h
 obtain⟨t2,h2,q2⟩:=zmf (P:=P) (w:=w) (K:=K) (mg:=mg) (base:=base) (f:=f) (cdv:=cdv) (A:=A) (outer:=outer) (s:=s) (H0:=H) (E:=E)
 refine⟨_,af (aE (i:=3) zhQ.nd rfl (Or.inl rfl) (aq zad (aq zau (pv 2) ad) (aq zal (ao ar rfl T.len PySem.boot_len (aa (pv 0) ac)) ad))) h2,?_⟩
 have lm:(hs.map V.int).length=hs.length:=lM _
 refine⟨_,rfl,_,_,rfl,rfl,⟨by decide,by decide⟩,_,rfl,l,_,rfl,.inl (SqL.of hl),_,_,rfl,rfl,_,_,rfl,rfl,(by show(0:Int) < ((hs.map V.int).length:Int)+1;omega),?_⟩
 have b:=Int.emod_lt_of_pos (c / 8) (show(0:Int) < ((hs.map V.int).length:Int)+1 by omega)
 exact q2 _ H l hs n c _ Q hl inr len (Int.emod_nonneg _ (by omega)) (by omega) rfl h
end
end Ls36
namespace Ls36
open PySem L2
theorem zl1 (ns:List Int):dep (.lst (ns.map Dt.int))≤60:=by
 simp only[dep,ziS]
 omega
section
variable {P:Program} {w:World} {K:W.Frag} {mg:Str→Option Value} {base:Heap} {fL:Addr} {dL:FuncData}
theorem zch:aO ["_law_rows","_law_parts","_law_held","_law_hints_here","_law_step","_law_found","_law_number","_law_left_here"] ["_law_rows","_law_parts"] (aw zjk):=fsc
theorem ok_hints {f:Addr} {fd:FuncData} (F:Fun K "_law_hints" "_law_hints" zjk f fd) (T:TxL K mg) (BL:FB P w K mg base CX0 1 "_law_left" fL dL ["_law_row","_law_held"] (zgq K)):aI P w K mg base CX0 2 f fd ["_law_rows","_law_parts"] (sp_hints K):=by
 refine F.ok zch (λvs H Q E h=>?_) (λcdv A outer s H vs Q E hr h=>?_)
 ·obtain⟨rl,pt,xs,Rs,ps,rfl,_⟩:=h
  rfl
 obtain⟨rl,pt,xs,Rs,ps,rfl,hS,hL,hP,lr,nR,lp,h⟩:=h
 have hu:=zma hr
 have hlen:xs.length=Rs.length:=by rw[←hL.length,lM]
 refine⟨_,(af (zfm (i:=2) (N':=["_law_part"]) (ix:=[]) zch.nd rfl (Or.inl rfl) rfl rfl (by decide +kernel) (by decide +kernel) rfl (λ_=>⟨[],za3 (by decide +kernel) (by decide +kernel)⟩) (by decide +kernel) rfl rfl (λj i h=>by simp at h) (zaU (pv 1)) (λ_ _ _ _=>(zbk za1 (pv 0))))
  (af (aE (i:=3) zch.nd rfl (Or.inl rfl) (zag ac))
  (af (zah PassesOwn.never rfl (zaV rfl T.range (aa (ao ar rfl T.len PySem.boot_len (aa (pv 0) ac)) ac)) (zac (i:=4) zch.nd rfl (Or.inl rfl))
   (af (aE (i:=5) zch.nd rfl (Or.inl rfl) (zbk za1 ad))
    (af (zah PassesOwn.never rfl (zaV rfl T.range (aa (ao ar rfl T.len PySem.boot_len (aa (pv 0) ac)) ac)) (zac (i:=6) zch.nd rfl (Or.inl rfl))
     (af (aE (i:=7) zch.nd rfl (Or.inl rfl) (aB BL.ok hr rfl BL.m BL.kp BL.b .nil aR (aa (ap zab (pv 0) (pv 6)) (aa (pv 2) ac))))
      (ah (aL (PW.pt (za2 (au zhE (pv 7) zb8) (za2 (au zbR (ao ar rfl T.len PySem.boot_len (aa (pv 7) ac)) ad) (za5 (au zbR (pv 5) ad)))))
       (ah (aE (i:=5) zch.nd rfl (Or.inl rfl) (pv 6)))
       aA))))
    (af (aL (au zbR (pv 5) ad)
     (ah (ay (pv 3)))
     aA)
    (af (zak (zbt PySem.F.plainAttrs_list PySem.F.slot_list_append PySem.F.type_list_append zaE (pv 3) (aa (pv 5) ac)))
    (af (aL (au (zeW hu) (aB BL.ok hr rfl BL.m BL.kp BL.b .nil aR (aa (ap zab (pv 0) (pv 5)) (aa (pv 2) ac))) (zag ac))
     (ah (ay (pv 3)))
     aA)
    (ah (aE (i:=2) zch.nd rfl (Or.inl rfl) (aq zaB (pv 2) (aB BL.ok hr rfl BL.m BL.kp BL.b .nil aR (aa (ap zab (pv 0) (pv 5)) (aa (pv 2) ac))))))))))))
  (ah (ay (pv 3)))))),?_⟩
 try dsimp only [Cx.nox,Cx.wish,aV]
 refine⟨_,rfl,pt,rfl,⟨_,hP⟩,λD hD=>zbu zbl (λi ys H'=>ai H H'∧ys=((ps.take i).map λp=>-p).map V.int) (λi ys H' ⟨s1,_⟩=>s1.tup hP) ⟨ag hD _,rfl⟩ ?_ ?_⟩
 ·rintro i ys H' x H'' hi hly hDs ⟨s1,rfl⟩ ⟨rfl,hx⟩
  obtain⟨k,hk',rfl⟩:=zaH (hx _ (s1.tup hP))
  refine⟨_,rfl,_,rfl,zaA (by rw[lM];exact bsz _ (by omega)) hi hly hDs ⟨s1.upd hD,?_⟩⟩
  rw[neg_snoc hk',mAq]
  rfl
 rintro ys H1 hDs ⟨s1,rfl⟩
 rw[lM,tO (nRq _)]at hDs
 refine⟨Nat.zero_le _,λl hl=>?_⟩
 have s2:ai H (upd H1 l (.lst [])):=s1.trans (ag hl _)
 have hl0:H l=none:=s1.free hl
 have nDl:D≠l:=zaa hDs hl
 have bnd:((xs.length:Nat):Int) < 2 ^ 62:=by omega
 refine⟨_,rfl,rl,xs,rfl,.inl (s2.seq hS),_,rfl,by omega,bnd,zaL (lo:=0) (n:=((xs.length:Nat):Int).toNat) (λi σ H'=>∃(ha:Addr) (held hs:List Int) (v4 v5 v6 v7:Option V),σ=[some (.ref rl),some (.ref pt),some (.ref ha),some (.ref l),v4,v5,v6,v7]∧ai H H'∧H' l=some (.lst (hs.map V.int))∧H' ha=some (.lst (held.map V.int))∧ha≠l∧InR Rs.length hs∧hs.length=i∧held.length≤100+i)
  ⟨D,ps.map λp=>-p,[],none,none,none,none,rfl,s2,ae,by rw[aD nDl];exact hDs,nDl,(λx hx=>nomatch hx),rfl,by rw[lM];omega⟩ ?_ ?_⟩
 rotate_left
 ·rintro σ H' ⟨ha,held,hs,v4,v5,v6,v7,rfl,s3,hl3,hha,nal,inr,lhs,lhe⟩
  exact⟨_,rfl,h H' l hs s3 hl0 hl3 inr (by omega)⟩
 rintro i σ H' hi ⟨ha,held,hs,v4,v5,v6,v7,rfl,s3,hl3,hha,nal,inr,lhs,lhe⟩
 refine⟨_,rfl,?_⟩
 refine⟨_,rfl,rl,xs,rfl,.inl (s3.seq hS),_,rfl,by omega,bnd,zaL (lo:=0) (n:=((xs.length:Nat):Int).toNat) (λj σ H2=>∃(fnd:Int) (v6 v7:Option V),σ=[some (.ref rl),some (.ref pt),some (.ref ha),some (.ref l),some (.int (0+(i:Nat))),some (.int fnd),v6,v7]∧ai H' H2∧(fnd=-1∨(0≤fnd∧fnd < (Rs.length:Int)∧∃ l',zcO (zaz Rs fnd) held=some l'∧l'.length < 2)))
  ⟨-1,_,_,rfl,ai.refl _,.inl rfl⟩ ?_ ?_⟩
 ·rintro j σ H2 hj ⟨fnd,u6,u7,rfl,s4,hf⟩
  have ej:(0:Int)+(j:Nat)=((j:Nat):Int):=by omega
  rw[ej]
  have j0:(0:Int)≤((j:Nat):Int):=by omega
  have j1:((j:Nat):Int) < (Rs.length:Int):=by omega
  obtain⟨r,hr1,hr2⟩:=zel hL j0 j1
  have s34:=s3.trans s4
  have rl100:(zaz Rs ((j:Nat):Int)).length≤1000:=Nat.le_trans (lr _ (mOq (zd9 j0 j1))) (by decide)
  refine⟨_,rfl,_,rfl,rl,_,_,_,rfl,rfl,s34.seq hS,hr1,_,rfl,r,ha,zaz Rs ((j:Nat):Int),held,rfl,s34.tup hr2,SqL.of (s4 _ _ hha),rl100,λH3 v s5 lv fr=>?_⟩
  cases el:zcO (zaz Rs ((j:Nat):Int)) held with
  | none =>
   rw[el]at lv
   cases (show v=.non from lv)
   exact⟨_,rfl,rfl,_,rfl,aY (aY ⟨fnd,_,_,rfl,s4.trans s5,hf⟩)⟩
  | some l' =>
   rw[el]at lv
   obtain⟨b,rfl,hb⟩:=lv
   refine⟨_,rfl,rfl,_,rfl,zao ⟨_,rfl,b,_,rfl,.inl (SqL.of hb),_,_,rfl,rfl,_,rfl,aJ (λc1=>⟨_,rfl,_,_,rfl,rfl,_,rfl,aJ (λc2=>?_) (λc2=>?_)⟩) (λc1=>aY ?_)⟩⟩
   ·have c1':(((l'.map V.int).length:Nat):Int) < 2:=of_decide_eq_true c1
    rw[lM]at c1'
    exact⟨_,rfl,((j:Nat):Int),_,_,rfl,s4.trans s5,.inr ⟨j0,j1,l',el,by omega⟩⟩
   ·exact⟨fnd,_,_,rfl,s4.trans s5,hf⟩
   ·exact⟨fnd,_,_,rfl,s4.trans s5,hf⟩
 rintro σ H2 ⟨fnd,u6,u7,rfl,s4,hf⟩
 have s34:=s3.trans s4
 have hl4:=s4 _ _ hl3
 have hha4:=s4 _ _ hha
 refine⟨_,rfl,_,_,rfl,rfl,_,rfl,aJ (λc=>⟨_,rfl,h H2 l hs s34 hl0 hl4 inr (by omega)⟩) (λc=>?_)⟩
 have c':¬fnd < 0:=λz=>c (decide_eq_true z)
 obtain⟨f0,f1,l',el,ll⟩:0≤fnd∧fnd < (Rs.length:Int)∧∃ l',zcO (zaz Rs fnd) held=some l'∧l'.length < 2:=hf.resolve_left (by omega)
 refine⟨_,rfl,.inl ⟨rfl,_,SqL.of hl4⟩,_,rfl,l,_,_,rfl,rfl,hl4,by rw[lM];exact zaC (by omega),?_⟩
 have s5:ai H (upd H2 l (.lst (hs.map V.int++[.int fnd]))):=s34.upd hl0
 have hha5:upd H2 l (.lst (hs.map V.int++[.int fnd])) ha=some (.lst (held.map V.int)):=by
  rw[aD nal]
  exact hha4
 have hl5:upd H2 l (.lst (hs.map V.int++[.int fnd])) l=some (.lst ((hs++[fnd]).map V.int)):=by
  rw[mAq]
  exact ae
 have inr5:InR Rs.length (hs++[fnd]):=λx hx=>(mPq hx).elim (inr x) λz=>by
  rw[mSq z]
  exact⟨f0,f1⟩
 have len5:(hs++[fnd]).length=i+1:=by rw[lAq,lhs];rfl
 generalize upd H2 l (.lst (hs.map V.int++[.int fnd]))=H5 at s5 hha5 hl5
 obtain⟨r,hr1,hr2⟩:=zel hL f0 f1
 have rl100:(zaz Rs fnd).length≤1000:=Nat.le_trans (lr _ (mOq (zd9 f0 f1))) (by decide)
 refine⟨_,rfl,_,rfl,rl,_,_,_,rfl,rfl,s5.seq hS,hr1,_,rfl,r,ha,zaz Rs fnd,held,rfl,s5.tup hr2,SqL.of hha5,rl100,λH6 v s6 lv fr=>?_⟩
 rw[el]at lv
 obtain⟨b,rfl,hb⟩:=lv
 refine⟨Nat.zero_le _,λe he=>?_⟩
 have s7:ai H5 (upd H6 e (.lst [])):=s6.trans (ag he _)
 have hb7:=ag he (.lst []) _ _ hb
 have he7:=ae (H:=H6) (a:=e) (o:=.lst [])
 generalize upd H6 e (.lst [])=H7 at s7 hb7 he7
 refine⟨.lst (l'.map Dt.int),.lst [],Has.lst' (SqL.of hb7) (aj.ints l'),Has.lst' (SqL.of he7) .nil,zl1 l',_,rfl,aJ (λc2=>⟨_,rfl,h H7 l _ (s5.trans s7) hl0 (s7 _ _ hl5) inr5 (by omega)⟩) (λc2=>?_)⟩
 have s57:=s5.trans s7
 refine⟨_,rfl,_,rfl,_,rfl,rl,_,_,_,rfl,rfl,s57.seq hS,hr1,_,rfl,r,ha,zaz Rs fnd,held,rfl,s57.tup hr2,SqL.of (s7 _ _ hha5),rl100,λH8 v s8 lv fr=>?_⟩
 rw[el]at lv
 obtain⟨b2,rfl,hb2⟩:=lv
 have hha8:=s8 _ _ (s7 _ _ hha5)
 have hl8:=s8 _ _ (s7 _ _ hl5)
 refine⟨ha,b2,_,_,rfl,rfl,hha8,hb2,bsz _ (by rw[lM,lM];omega),λp hp=>?_⟩
 have npl:p≠l:=(zaa hl8 hp).symm
 refine⟨p,held++l',hs++[fnd],_,_,_,_,rfl,(s57.trans s8).trans (ag hp _),ag hp _ _ _ hl8,?_,npl,inr5,len5,by rw[lAq];omega⟩
 rw[mAq]
 exact ae
theorem zfj:aO ["_law_rows","_law_parts","_law_hints_here","_law_held","_law_k","_law_left_here"] ["_law_rows","_law_parts","_law_hints_here"] (aw zjj):=fsc
theorem zi4 (Rs:List (List Int)) (held:List Int) (x y:Int) (t:List Int):zdk Rs held (x :: y :: t)=(match zcO (zaz Rs x) held with
  | some [a]=>zdk Rs (held++[a]) (y :: t)
  | _=>false):=rfl
theorem ok_right {f:Addr} {fd:FuncData} (F:Fun K "_law_right" "_law_right" zjj f fd) (T:TxL K mg) (BL:FB P w K mg base CX0 1 "_law_left" fL dL ["_law_row","_law_held"] (zgq K)):aI P w K mg base CX0 2 f fd ["_law_rows","_law_parts","_law_hints_here"] (sp_right K):=by
 refine F.ok zfj (λvs H Q E h=>?_) (λcdv A outer s H vs Q E hr h=>?_)
 ·obtain⟨rl,pt,hl,xs,Rs,ps,hs,rfl,_⟩:=h
  rfl
 obtain⟨rl,pt,hl,xs,Rs,ps,hs,rfl,hS,hL,hP,hH,lr,lp,lh,inr,h⟩:=h
 have hlen:xs.length=Rs.length:=by rw[←hL.length,lM]
 refine⟨_,(af (zfm (i:=3) (N':=["_law_part"]) (ix:=[]) zfj.nd rfl (Or.inl rfl) rfl rfl (by decide +kernel) (by decide +kernel) rfl (λ_=>⟨[],za3 (by decide +kernel) (by decide +kernel)⟩) (by decide +kernel) rfl rfl (λj i h=>by simp at h) (zaU (pv 1)) (λ_ _ _ _=>(zbk za1 (pv 0))))
  (af (zah PassesOwn.never rfl (zaV rfl T.range (aa (ao ar rfl T.len PySem.boot_len (aa (pv 2) ac)) ac)) (zac (i:=4) zfj.nd rfl (Or.inl rfl))
   (af (aE (i:=5) zfj.nd rfl (Or.inl rfl) (aB BL.ok hr rfl BL.m BL.kp BL.b .nil aR (aa (ap zab (pv 0) (ap zab (pv 2) (pv 4))) (aa (pv 3) ac))))
    (af (aL (au zaf (pv 4) (aq zbA (ao ar rfl T.len PySem.boot_len (aa (pv 2) ac)) ad))
     (ah (ay (zbf (zaI zhE (pv 5) zb8) (zbe (zaI zaf (ao ar rfl T.len PySem.boot_len (aa (pv 5) ac)) ad)))))
     aA)
    (af (aL (PW.pt (zbd (au zhf (pv 5) zb8) (zbn (au zcN (ao ar rfl T.len PySem.boot_len (aa (pv 5) ac)) ad))))
     (ah (ay zam))
     aA)
    (ah (zak (zbt PySem.F.plainAttrs_list PySem.F.slot_list_append PySem.F.type_list_append zaE (pv 3) (aa (ap zab (pv 5) ad) ac))))))))
  (ah (ay zam)))),?_⟩
 try dsimp only [Cx.nox,Cx.wish,aV]
 refine⟨_,rfl,pt,rfl,⟨_,hP⟩,λD hD=>zbu zbl (λi ys H'=>ai H H'∧ys=((ps.take i).map λp=>-p).map V.int) (λi ys H' ⟨s1,_⟩=>s1.tup hP) ⟨ag hD _,rfl⟩ ?_ ?_⟩
 ·rintro i ys H' x H'' hi hly hDs ⟨s1,rfl⟩ ⟨rfl,hx⟩
  obtain⟨k,hk',rfl⟩:=zaH (hx _ (s1.tup hP))
  refine⟨_,rfl,_,rfl,zaA (by rw[lM];exact bsz _ (by omega)) hi hly hDs ⟨s1.upd hD,?_⟩⟩
  rw[neg_snoc hk',mAq]
  rfl
 rintro ys H1 hDs ⟨s1,rfl⟩
 rw[lM,tO (nRq _)]at hDs
 have lm:(hs.map V.int).length=hs.length:=lM _
 have bnd:(((hs.map V.int).length:Nat):Int) < 2 ^ 62:=by omega
 refine⟨_,rfl,hl,_,rfl,.inl (SqL.of (s1 _ _ hH)),_,rfl,by omega,bnd,zaL (lo:=0) (n:=(((hs.map V.int).length:Nat):Int).toNat) (λi σ H'=>∃(held:List Int) (v4 v5:Option V),σ=[some (.ref rl),some (.ref pt),some (.ref hl),some (.ref D),v4,v5]∧ai H H'∧H' D=some (.lst (held.map V.int))∧held.length≤100+i∧zdk Rs held (hs.drop i)=zdk Rs (ps.map λp=>-p) hs)
  ⟨_,none,none,rfl,s1,hDs,by rw[lM];omega,rfl⟩ ?_ ?_⟩
 ·rintro i σ H' hi ⟨held,v4,v5,rfl,s2,hD2,lhe,er⟩
  have hi':i < hs.length:=by omega
  have ei:(0:Int)+(i:Nat)=((i:Nat):Int):=by omega
  rw[ei]
  have hx:hs[i]?=some hs[i]:=gG hi'
  have ed:hs.drop i=hs[i] :: hs.drop (i+1):=List.drop_eq_getElem_cons hi'
  generalize hs[i]=x at hx ed
  rw[ed]at er
  obtain⟨x0,x1⟩:=inr x (mOq hx)
  obtain⟨r,hr1,hr2⟩:=zel hL x0 x1
  have rl100:(zaz Rs x).length≤1000:=Nat.le_trans (lr _ (mOq (zd9 x0 x1))) (by decide)
  refine⟨_,rfl,_,rfl,_,rfl,hl,_,_,_,rfl,rfl,SqL.of (s2 _ _ hH),ziV hx,rl,_,_,_,rfl,rfl,s2.seq hS,hr1,_,rfl,r,D,zaz Rs x,held,rfl,s2.tup hr2,SqL.of hD2,rl100,λH3 v s3 lv fr=>?_⟩
  have s23:=s2.trans s3
  refine⟨_,rfl,_,rfl,hl,_,rfl,.inl (SqL.of (s23 _ _ hH)),_,_,rfl,rfl,rfl,_,rfl,aJ (λc=>?_) (λc=>?_)⟩
  ·have c':=of_decide_eq_true c
   injection c' with c'
   rw[lm]at c'
   have e0:hs.drop (i+1)=[]:=List.drop_eq_nil_of_le (by omega)
   rw[e0]at er
   have q:=h H3 s23
   rw[←er]at q
   cases el:zcO (zaz Rs x) held with
   | none =>
    rw[el]at lv
    cases (show v=.non from lv)
    have e2:zdk Rs held [x]=false:=by
     show(match zcO (zaz Rs x) held with | some l=>l.isEmpty | none=>false)=false
     rw[el]
    rw[e2]at q
    exact⟨_,rfl,rfl,_,rfl,aY q⟩
   | some l' =>
    rw[el]at lv
    obtain⟨b,rfl,hb⟩:=lv
    have e2:zdk Rs held [x]=l'.isEmpty:=by
     show(match zcO (zaz Rs x) held with | some l=>l.isEmpty | none=>false)=l'.isEmpty
     rw[el]
    have e3:decide (V.int (((l'.map V.int).length:Nat):Int)=V.int 0)=l'.isEmpty:=by
     cases l' with
     | nil=>rfl
     | cons a t =>
      refine decide_eq_false λz=>?_
      injection z with z
      rw[lM]at z
      simp only[List.length_cons]at z
      omega
    rw[e2,←e3]at q
    exact⟨_,rfl,rfl,_,rfl,zao ⟨_,rfl,b,_,rfl,.inl (SqL.of hb),rfl,q⟩⟩
  ·have c':¬(i+1=hs.length):=λz=>c (decide_eq_true (by rw[lm];congr 1;omega))
   have ed2:hs.drop (i+1)=hs[i+1]'(by omega) :: hs.drop (i+1+1):=List.drop_eq_getElem_cons (by omega)
   generalize hs[i+1]'(by omega)=y at ed2
   rw[ed2,zi4,←ed2]at er
   have q:=h H3 s23
   rw[←er]at q
   cases el:zcO (zaz Rs x) held with
   | none =>
    rw[el]at lv q
    cases (show v=.non from lv)
    exact⟨_,rfl,rfl,_,rfl,zao (zao q)⟩
   | some l' =>
    rw[el]at lv q er
    obtain⟨b,rfl,hb⟩:=lv
    refine⟨_,rfl,rfl,_,rfl,aY ⟨_,rfl,b,_,rfl,.inl (SqL.of hb),rfl,_,rfl,?_⟩⟩
    match l',hb,q,er with
    | [],hb,q,er=>exact zao q
    | a :: a2 :: t,hb,q,er =>
     have ne:¬(V.int ((((a :: a2 :: t).map V.int).length:Nat):Int)=V.int 1):=λz=>by
      injection z with z
      rw[lM]at z
      simp only[List.length_cons]at z
      omega
     rw[decide_eq_false ne]
     exact zao q
    | [a],hb,q,er =>
     refine iteNS rfl ?_
     have hD3:=s3 _ _ hD2
     refine⟨_,rfl,.inl ⟨rfl,_,SqL.of hD3⟩,_,rfl,b,_,_,_,rfl,rfl,SqL.of hb,rfl,D,_,_,rfl,rfl,hD3,by rw[lM];exact zaC (by omega),?_⟩
     refine⟨held++[a],_,_,rfl,s23.upd hD,?_,by rw[lAq];simp only[lS];omega,er⟩
     rw[mAq]
     exact ae
 ·rintro σ H' ⟨held,v4,v5,rfl,s2,hD2,lhe,er⟩
  have e0:hs.drop (((hs.map V.int).length:Nat):Int).toNat=[]:=List.drop_eq_nil_of_le (by omega)
  rw[e0]at er
  have q:=h H' s2
  rw[←er]at q
  exact q
end
end Ls36
namespace K36
open PySem L2
variable {P:Program} {w:World} {K:W.Frag} {mg:Str→Option Value} {base:Heap} {aK C CN CT CP CM f fR fC fH CG fN fA fB fL fE fS fT fP fU fX fY fZ:Addr} {fd dR' dC dH dN dA' dB dL' dE dS dT' dP' dP dU dX dY dZ:FuncData}
theorem zf6 (q:Int):∀(ps acc:List Int),q∈aZ acc ps→q∈acc∨q∈ps
 | [],acc,h=>.inl (by simpa [aZ] using h)
 | p :: ps,acc,h=>by
  simp only[aZ]at h
  split at h
  ·rcases zf6 q ps _ h with h | h
   ·exact .inl h
   ·exact .inr (List.mem_cons_of_mem _ h)
  ·rcases zf6 q ps _ h with h | h
   ·rcases mPq h with h | h
    ·exact .inl h
    ·exact .inr (by rw[mSq h];simp)
   ·exact .inr (List.mem_cons_of_mem _ h)
def zdS (m:Nat) (r:List Int):Prop:=(∀ k∈r,PIn m k)∧r.length≤20
theorem zgY {H:Hp} {p tl al rl q:Addr} {T:List Tm} {As:List At} {Rs:List (List Int)} {ps:List Int} {Q:VK} {E:XK} (S:PrD K C H p tl al rl T As Rs) (hq:SqI K H q ps) (pin:∀ k∈ps,PIn As.length k) (p20:ps.length≤20) (aN:As.length≤100) (rN:Rs.length < 200)
  (h:∀(H':Hp) (r:List Int) (v:V),PrD K C H' p tl al rl T As (Rs++[r])→Fr2 H H' al rl→zdS As.length r→r.length≤ps.length→Q v H'):zgj K C CN CT CP CM [.ref p,.ref q] H Q E:=by
 refine⟨p,tl,al,rl,q,T,As,Rs,ps,rfl,S.pr,hq,by omega,λi hi=>?_,by omega,?_⟩
 ·obtain⟨_,h1,h2⟩:=pin i hi
  omega
 ·unfold zef
  have na:¬ps.any (zbZ As.length)=true:=by
   rw[List.any_eq_true]
   rintro ⟨k,hk,e⟩
   obtain⟨h0,h1,h2⟩:=pin k hk
   simp only[zbZ,Bool.or_eq_true,decide_eq_true_eq]at e
   omega
  rw[if_neg na,if_neg (by omega),if_neg (by omega)]
  intro H' pr f'
  have ol:=zdf ps []
  rw[List.length_nil]at ol
  refine h H' (aZ [] ps) _ ⟨pr,S.dm,S.t3,S.tN⟩ f' ⟨λk hk=>?_,by omega⟩ (by omega)
  rcases zf6 k ps [] hk with h | h
  ·exact nomatch h
  ·exact pin k h
def forB (s:Stmt):List Stmt:=match s with
 | .For _ _ b _ _=>b
 | _=>[]
abbrev NUn:List Str:=["_law_problem","_law_cell","_law_atom"]
theorem zct:aO NUn ["_law_problem","_law_cell"] (aw zbc):=fsc
abbrev unB:List Stmt:=forB ((zaR zbc).getD 0 (.Pass ⟨0,0,0,0⟩))
theorem unit1 (T:Txt K mg aK C CN CT CP CM) (GR:aI P w K mg base (CX1 P w) 2 fR dR' ["self","parts"] (zgj K C CN CT CP CM)) (bR:aH K dR' ["self","parts"] []) (mR:zcp K C "add_row" fR)
  {cdv:Value} {A:Around} {outer:List Env} {s:Shared} {H0:Hp} {E:XK} (hr:zaq 2 (A.deeper (PyProof.Rows.envOfC "_law_units_added" (aw zbc) s.heap.objs.size f cdv))) :
  ∃ t,PSs (aV CX0 P w K mg base NUn "_law_units_added" (aw zbc) f cdv A outer s H0 E).nox (unB.drop 1) t ∧
   ∀(D:zbT) (H:Hp) (p tl al rl:Addr) (Tt:List Tm) (As:List At) (Rs:List (List Int)) (c k:Int),PrD K C H p tl al rl Tt As Rs→As.length≤100→Rs.length < 200→1≤k→k≤(As.length:Int) →
    (∀(H':Hp) (R':List (List Int)) (c':Int),PrD K C H' p tl al rl Tt As (Rs++R')→Fr2 H H' al rl→(∀ r∈R',zdS As.length r)→R'.length≤1→D.nx [some (.ref p),some (.int c'),some (.int k)] H')→t D [some (.ref p),some (.int c),some (.int k)] H:=by
 refine⟨_,(af (aL (au zaf (aq zad (pv 1) ad) ad)
     (ah (zak (zaN (pv 0) T.cl mR GR hr bR .nil zd0 (aa (zag (aa (zbk za1 (pv 2)) ac)) ac))))
     aA)
    (ah (aE (i:=1) zct.nd rfl (Or.inl rfl) (aq zau (pv 1) ad)))),?_⟩
 try dsimp only [Cx.nox,Cx.wish,aV]
 intro D H p tl al rl Tt As Rs c k S aN rN k1 k2 nx
 refine⟨_,rfl,_,_,rfl,rfl,(by show(0:Int) < 4;decide),rfl,_,rfl,aJ (λ_=>?_) (λ_=>⟨_,rfl,_,_,rfl,rfl,⟨by decide,by decide⟩,nx H [] _ (by rw[List.append_nil];exact S) (Fr2.of_same (ai.refl _)) (λr hr=>nomatch hr) (by decide)⟩)⟩
 obtain⟨dx,ho⟩:=S.pr.ob
 refine⟨_,rfl,p,dx,_,rfl,ho,zfw _ _ _,_,rfl,_,rfl,lS1,λl hl=>?_⟩
 have s1:=ag hl (.lst [V.int (-k)])
 refine zgY (ps:=[-k]) (S.same s1) (.inl (SqL.of ae)) (λx hx=>?_) (by simp) aN rN λH' r v S' f' rin _=>?_
 ·rw[mSq hx]
  exact⟨by omega,by omega,by omega⟩
 ·refine⟨_,rfl,_,_,rfl,rfl,⟨by decide,by decide⟩,nx H' [r] _ S' (λb o e n1 n2=>f' _ _ (s1 _ _ e) n1 n2) (λx hx=>?_) (by simp)⟩
  rw[mSq hx]
  exact rin
inductive zgO (K:W.Frag) (C:Addr):Sp|m{vs H Q E9} (p tl al rl:Addr) (T:List Tm) (As:List At) (Rs:List (List Int)) (c:Int):vs=[.ref p,.int c]→PrD K C H p tl al rl T As Rs→As.length≤20→Rs.length≤100→(∀(H':Hp) (R':List (List Int)),PrD K C H' p tl al rl T As (Rs++R')→Fr2 H H' al rl→(∀ r∈R',zdS As.length r)→R'.length≤2 * As.length→Q .non H')→zgO K C vs H Q E9
theorem zlC (F:Fun K "_law_units_added" "_law_units_added" zbc f fd) (T:Txt K mg aK C CN CT CP CM) (GR:aI P w K mg base (CX1 P w) 2 fR dR' ["self","parts"] (zgj K C CN CT CP CM)) (bR:aH K dR' ["self","parts"] []) (mR:zcp K C "add_row" fR):aI P w K mg base CX0 3 f fd ["_law_problem","_law_cell"] (zgO K C):=by
 refine F.ok zct (λvs H Q E h=>?_) (λcdv A outer s H vs Q E hr h=>?_)
 ·obtain⟨p,tl,al,rl,Tt,As,Rs,c,rfl,_⟩:=h
  rfl
 obtain⟨p,tl,al,rl,Tt,As,Rs,c,rfl,S,aN,rN,q⟩:=h
 obtain⟨t1,h1,g1⟩:=unit1 (f:=f) (cdv:=cdv) (A:=A) (outer:=outer) (s:=s) (H0:=H) (E:=E) T GR bR mR hr
 refine⟨_,(ah (zah PassesOwn.never rfl (zf3 rfl T.range (aa ad (aa (aq zal (ao ar rfl T.len PySem.boot_len (aa (zae (pv 0) rfl) ac)) ad) ac))) (zac (i:=2) zct.nd rfl (Or.inl rfl))
   (af (aL (au zaf (aq zad (pv 1) ad) ad)
     (ah (zak (zaN (pv 0) T.cl mR GR hr bR .nil zd0 (aa (zag (aa (pv 2) ac)) ac))))
     aA) h1))),?_⟩
 try dsimp only [Cx.nox,Cx.wish,aV]
 obtain⟨dx,ys,ho,hl,yl⟩:=S.pr.lenA
 refine⟨_,rfl,p,C,dx,_,_,rfl,ho,T.cl,T.nA,zai _ _ _,al,ys,rfl,.inl (SqL.of hl),_,_,rfl,rfl,_,_,rfl,(by refine⟨?_,?_,?_,?_⟩ <;> omega),zaL (lo:=1) (n:=((ys.length:Int)+1 - 1).toNat) (λi σ H'=>Fr2 H H' al rl∧∃(c:Int) (v2:Option V) (R':List (List Int)),σ=[some (.ref p),some (.int c),v2]∧PrD K C H' p tl al rl Tt As (Rs++R')∧(∀ r∈R',zdS As.length r)∧R'.length≤2 * i) ⟨Fr2.of_same (ai.refl _),c,_,[],rfl,by rw[List.append_nil];exact S,(λr hr=>nomatch hr),by simp⟩ ?_ ?_⟩
 ·rintro i σ H2 hi ⟨f2,c2,v2,R2,rfl,S2,r2,l2⟩
  have hi':i < As.length:=by omega
  have rl2:(Rs++R2).length≤140:=by rw[lAq];omega
  have fin:∀(H3:Hp) (R3:List (List Int)),Fr2 H2 H3 al rl→(∀ r∈R3,zdS As.length r)→R3.length≤1→∀(H4:Hp) (R4:List (List Int)) (c4:Int),PrD K C H4 p tl al rl Tt As (Rs++R2++R3++R4)→Fr2 H3 H4 al rl→(∀ r∈R4,zdS As.length r)→R4.length≤1 →
    (Fr2 H H4 al rl∧∃(c:Int) (v2:Option V) (R':List (List Int)),[some (V.ref p),some (V.int c4),some (V.int (1+(i:Int)))]=[some (.ref p),some (.int c),v2]∧PrD K C H4 p tl al rl Tt As (Rs++R')∧(∀ r∈R',zdS As.length r)∧R'.length≤2 * (i+1)):=λH3 R3 f3 r3 l3 H4 R4 c4 S4 f4 r4 l4 =>
   ⟨f2.trans (f3.trans f4),c4,_,R2++R3++R4,rfl,by rw[←List.append_assoc,←List.append_assoc];exact S4,λr hr=>by
    rcases mPq hr with hr | hr
    ·rcases mPq hr with hr | hr
     ·exact r2 r hr
     ·exact r3 r hr
    ·exact r4 r hr,by rw[lAq,lAq];omega⟩
  refine⟨_,rfl,_,_,rfl,rfl,(by show(0:Int) < 4;decide),rfl,_,rfl,aJ (λ_=>?_) (λ_=>g1 _ H2 p tl al rl Tt As (Rs++R2) c2 (1+(i:Int)) S2 (by omega) (by omega) (by omega) (by omega) λH4 R4 c4 S4 f4 r4 l4=>fin H2 [] (Fr2.of_same (ai.refl _)) (λr hr=>nomatch hr) (by simp) H4 R4 c4 (by rw[List.append_nil];exact S4) f4 r4 l4)⟩
  obtain⟨dx2,ho2⟩:=S2.pr.ob
  refine⟨_,rfl,p,dx2,_,rfl,ho2,zfw _ _ _,_,rfl,lS1,λl hl=>?_⟩
  have s1:=ag hl (.lst [V.int (1+(i:Int))])
  refine zgY (ps:=[1+(i:Int)]) (S2.same s1) (.inl (SqL.of ae)) (λx hx=>?_) (by simp) (by omega) (by omega) λH3 r v S3 f3 rin _=>?_
  ·rw[mSq hx]
   exact⟨by omega,by omega,by omega⟩
  ·have f23:Fr2 H2 H3 al rl:=λb o e n1 n2=>f3 _ _ (s1 _ _ e) n1 n2
   have r3:∀ x∈[r],zdS As.length x:=λx hx=>by rw[mSq hx];exact rin
   exact g1 _ H3 p tl al rl Tt As (Rs++R2++[r]) c2 (1+(i:Int)) S3 (by omega) (by rw[lAq,lS];omega) (by omega) (by omega) (fin H3 [r] f23 r3 (by simp))
 ·rintro σ H2 ⟨f2,c2,v2,R2,rfl,S2,r2,l2⟩
  exact q H2 R2 S2 f2 r2 (by omega)
theorem Fr2.seq {H H':Hp} {a z y:Addr} {xs:List V} (f:Fr2 H H' z y) (h:SqL K H a xs) (n1:a≠z) (n2:a≠y):SqL K H' a xs:=by
 rcases h with (h | ⟨o,h⟩) | h
 ·exact .inl (.inl (f _ _ h n1 n2))
 ·exact .inl (.inr ⟨o,f _ _ h n1 n2⟩)
 ·exact .inr h
theorem zaM:aO ["_law_problem","_law_script","_law_first","_law_many","_law_k","_law_cell","_law_row","_law_j","_law_part"] ["_law_problem","_law_script","_law_first","_law_many"] (aw zc1):=fsc
inductive zd3 (K:W.Frag) (C:Addr):Sp|m{vs H Q E9} (p tl al rl a:Addr) (T:List Tm) (As:List At) (Rs:List (List Int)) (ns:List Int) (fs n:Int):vs=[.ref p,.ref a,.int fs,.int n]→PrD K C H p tl al rl T As Rs→(∀ H',Fr2 H H' al rl→SqL K H' a (ns.map V.int))→ns.length≤1000→0≤fs→fs≤100→0≤n→n≤40→1≤As.length→As.length≤20→Rs.length≤100→(∀(H':Hp) (R':List (List Int)),PrD K C H' p tl al rl T As (Rs++R')→Fr2 H H' al rl→(∀ r∈R',zdS As.length r)→(R'.length:Int)=n→Q .non H')→zd3 K C vs H Q E9
theorem zjU (F:Fun K "_law_rows_added" "_law_rows_added" zc1 f fd) (T:Txt K mg aK C CN CT CP CM) (GR:aI P w K mg base (CX1 P w) 2 fR dR' ["self","parts"] (zgj K C CN CT CP CM)) (bR:aH K dR' ["self","parts"] []) (mR:zcp K C "add_row" fR) (BC:FB P w K mg base CX0 1 "_law_cell_at" fC dC ["_law_script","_law_k"] (zdd K)):aI P w K mg base CX0 3 f fd ["_law_problem","_law_script","_law_first","_law_many"] (zd3 K C):=by
 refine F.ok zaM (λvs H Q E h=>?_) (λcdv A outer s H vs Q E hr h=>?_)
 ·obtain⟨p,tl,al,rl,a,Tt,As,Rs,ns,fs,n,rfl,_⟩:=h
  rfl
 obtain⟨p,tl,al,rl,a,Tt,As,Rs,ns,fs,n,rfl,S,kS,n1000,fs0,fs1,n0,n1,a1,aN,rN,q⟩:=h
 have hr1:zaq 1 _:=hr.mono (by decide)
 refine⟨_,(ah (zah PassesOwn.never rfl (zaV rfl T.range (aa (pv 3) ac)) (zac (i:=4) zaM.nd rfl (Or.inl rfl))
   (af (aE (i:=5) zaM.nd rfl (Or.inl rfl) (aB BC.ok hr1 rfl BC.m BC.kp BC.b .nil aR (aa (pv 1) (aa (aq zal (pv 2) (pv 4)) ac))))
    (af (aE (i:=6) zaM.nd rfl (Or.inl rfl) (zag ac))
    (af (zah PassesOwn.never rfl (zaV rfl T.range (aa (aq zal ad (aq zad (pv 5) ad)) ac)) (zac (i:=7) zaM.nd rfl (Or.inl rfl))
     (af (aE (i:=8) zaM.nd rfl (Or.inl rfl) (aq zal ad (aq zad (aq zau (pv 5) ad) (ao ar rfl T.len PySem.boot_len (aa (zae (pv 0) rfl) ac)))))
      (af (aL (au zaf (aq zad (aq zau (pv 5) ad) ad) ad)
       (ah (aE (i:=8) zaM.nd rfl (Or.inl rfl) (zbk za1 (pv 8))))
       aA)
      (af (zak (zbt PySem.F.plainAttrs_list PySem.F.slot_list_append PySem.F.type_list_append zaE (pv 6) (aa (pv 8) ac)))
      (ah (aE (i:=5) zaM.nd rfl (Or.inl rfl) (aq zau (pv 5) ad)))))))
    (ah (zak (zaN (pv 0) T.cl mR GR hr bR .nil zd0 (aa (pv 6) ac))))))))),?_⟩
 try dsimp only [Cx.nox,Cx.wish,aV]
 refine⟨_,rfl,n,rfl,by omega,by omega,zaL (lo:=0) (n:=n.toNat) (λi σ H'=>Fr2 H H' al rl∧∃(v4 v5 v6 v7 v8:Option V) (R':List (List Int)),σ=[some (.ref p),some (.ref a),some (.int fs),some (.int n),v4,v5,v6,v7,v8]∧PrD K C H' p tl al rl Tt As (Rs++R')∧(∀ r∈R',zdS As.length r)∧R'.length=i) ⟨Fr2.of_same (ai.refl _),none,none,none,none,none,[],rfl,by rw[List.append_nil];exact S,(λr hr=>nomatch hr),rfl⟩ ?_ ?_⟩
 ·rintro i σ H2 hi ⟨f2,v4,v5,v6,v7,v8,R2,rfl,S2,r2,l2⟩
  have hi':i < n.toNat:=hi
  have hS2:SqL K H2 a (ns.map V.int):=kS H2 f2
  refine⟨_,rfl,_,rfl,_,rfl,_,_,rfl,rfl,a,ns,_,rfl,hS2,n1000,(by show(0:Int)≤fs+(0+(i:Int));omega),(by show fs+(0+(i:Int))≤1000;omega),λc=>?_⟩
  refine⟨lS0,λlw hlw=>?_⟩
  have s3:=ag hlw (.lst [])
  have n3:=ae (H:=H2) (a:=lw) (o:=.lst [])
  generalize upd H2 lw (.lst [])=H3 at s3 n3
  have b3:=zbH c (show(0:Int) < 3 by decide)
  refine⟨_,rfl,_,_,rfl,rfl,(by show(0:Int) < 3;decide),_,_,rfl,rfl,_,rfl,(by show -(2 ^ 62)≤1+c % 3;omega),(by show 1+c % 3 < 2 ^ 62;omega),zaL (lo:=0) (n:=(1+c % 3).toNat) (λj σ H'=>ai H2 H'∧∃(c':Int) (v7 v8:Option V) (ps:List Int),σ=[some (.ref p),some (.ref a),some (.int fs),some (.int n),some (.int (0+(i:Int))),some (.int c'),some (.ref lw),v7,v8]∧H' lw=some (.lst (ps.map V.int))∧ps.length=j∧∀ k∈ps,PIn As.length k) ⟨s3,c,_,_,[],rfl,n3,rfl,λk hk=>nomatch hk⟩ ?_ ?_⟩
  ·rintro j σ H4 hj ⟨s4,c4,w7,w8,ps,rfl,hw,pl,pin⟩
   have hj':j < (1+c % 3).toNat:=hj
   obtain⟨dx,ys,ho,hl,yl⟩:=(S2.same s4).pr.lenA
   have yp:(0:Int) < ((ys.length:Nat):Int):=by omega
   have bm:=zbH (c4 / 6) yp
   have fin:∀ k:Int,PIn As.length k→(ai H2 (upd H4 lw (.lst (ps.map V.int++[V.int k])))∧∃(c':Int) (v7 v8:Option V) (ps':List Int),[some (V.ref p),some (.ref a),some (.int fs),some (.int n),some (.int (0+(i:Int))),some (.int (c4 / 20)),some (.ref lw),some (.int (0+(j:Int))),some (.int k)]=[some (.ref p),some (.ref a),some (.int fs),some (.int n),some (.int (0+(i:Int))),some (.int c'),some (.ref lw),v7,v8]∧(upd H4 lw (.lst (ps.map V.int++[V.int k]))) lw=some (.lst (ps'.map V.int))∧ps'.length=j+1∧∀ k∈ps',PIn As.length k):=λk hk =>
    ⟨s4.upd hlw,_,_,_,ps++[k],rfl,by rw[ae,mAq];rfl,by rw[lAq,pl];rfl,λx hx=>by
     rcases mPq hx with hx | hx
     ·exact pin x hx
     ·rw[mSq hx];exact hk⟩
   have sm:(ps.map V.int).length < sizeLine:=zaC (by rw[lM];omega)
   refine⟨_,rfl,_,_,rfl,rfl,⟨by decide,by decide⟩,_,rfl,p,C,dx,_,_,rfl,ho,T.cl,T.nA,zai _ _ _,al,ys,rfl,.inl (SqL.of hl),_,_,rfl,rfl,yp,_,_,rfl,rfl,?_⟩
   refine⟨_,rfl,_,_,rfl,rfl,⟨by decide,by decide⟩,_,_,rfl,rfl,(by show(0:Int) < 2;decide),rfl,_,rfl,aJ (λ_=>?_) (λ_=>?_)⟩
   ·refine⟨_,rfl,_,rfl,?_⟩
    exact⟨_,rfl,.inl ⟨rfl,_,SqL.of hw⟩,_,rfl,lw,_,_,rfl,rfl,hw,sm,_,rfl,_,_,rfl,rfl,⟨by decide,by decide⟩,fin _ ⟨by omega,by omega,by omega⟩⟩
   ·exact⟨_,rfl,.inl ⟨rfl,_,SqL.of hw⟩,_,rfl,lw,_,_,rfl,rfl,hw,sm,_,rfl,_,_,rfl,rfl,⟨by decide,by decide⟩,fin _ ⟨by omega,by omega,by omega⟩⟩
  ·rintro σ H4 ⟨s4,c4,w7,w8,ps,rfl,hw,pl,pin⟩
   have S4:=S2.same s4
   obtain⟨dx,ho⟩:=S4.pr.ob
   refine⟨_,rfl,p,dx,_,rfl,ho,zfw _ _ _,_,rfl,?_⟩
   refine zgY (ps:=ps) S4 (.inl (SqL.of hw)) pin (by omega) (by omega) (by rw[lAq];omega) λH5 r v S5 f5 rin _=>?_
   refine⟨f2.trans (λb o e m1 m2=>f5 _ _ (s4 _ _ e) m1 m2),_,_,_,_,_,R2++[r],rfl,by rw[←List.append_assoc];exact S5,λx hx=>?_,by rw[lAq,l2];rfl⟩
   rcases mPq hx with hx | hx
   ·exact r2 x hx
   ·rw[mSq hx]
    exact rin
 ·rintro σ H2 ⟨f2,v4,v5,v6,v7,v8,R2,rfl,S2,r2,l2⟩
  exact q H2 R2 S2 f2 r2 (by omega)
def hpB (vs:List Int) (tp:Str→Bool) (As:List At) (k:Int):Bool:=match As.getD (((k.natAbs:Nat):Int) - 1).toNat (.plain "") with
 | .same x y=>decide (rf vs x=rf vs y) == decide (k > 0)
 | .plain z=>tp z == decide (k > 0)
theorem hp_neg {vs:List Int} {tp:Str→Bool} {As:List At} {k:Int} (h:k≠0) (e:hpB vs tp As (-k)=true):hpB vs tp As k=false:=by
 unfold hpB at e ⊢
 rw[Int.natAbs_neg]at e
 have key:∀ b:Bool,(b == decide (-k > 0))=true→(b == decide (k > 0))=false:=λb hb=>by
  rw[eq_of_beq hb]
  by_cases hk:k > 0
  ·rw[decide_eq_true hk,decide_eq_false (by omega)];rfl
  ·rw[decide_eq_false hk,decide_eq_true (by omega)];rfl
 split at e
 ·exact key _ e
 ·exact key _ e
theorem hp_no {vs:List Int} {tp:Str→Bool} {As:List At} {k:Int} (h:k≠0) (e:hpB vs tp As k=false):hpB vs tp As (-k)=true:=by
 unfold hpB at e ⊢
 rw[Int.natAbs_neg]
 have key:∀ b:Bool,(b == decide (k > 0))=false→(b == decide (-k > 0))=true:=λb hb=>by
  by_cases hk:k > 0
  ·rw[decide_eq_true hk]at hb
   rw[decide_eq_false (show ¬-k > 0 by omega)]
   cases b
   ·rfl
   ·cases hb
  ·rw[decide_eq_false hk]at hb
   rw[decide_eq_true (show -k > 0 by omega)]
   cases b
   ·cases hb
   ·rfl
 split at e
 ·exact key _ e
 ·exact key _ e
theorem zmB {vs:List Int} {tp:Str→Bool} {As:List At} {k:Int} (e:hpB vs tp As k=false):zez vs As k=false:=by
 revert e
 unfold hpB zez
 cases As.getD (((k.natAbs:Nat):Int) - 1).toNat (.plain "") with
 | same x y =>
  intro e
  refine decide_eq_false λz=>?_
  have e2:(decide (rf vs x=rf vs y) == decide (k > 0))=false:=e
  rw[z]at e2
  simp at e2
 | plain z =>
  intro _
  rfl
theorem soundL {Rs:List (List Int)} {h:Int→Bool} (hneg:∀ p,p≠0→h (-p)=true→h p=false) (hn:∀ r∈Rs,∀ x∈r,x≠0):∀(hs held:List Int),goL Rs held hs=true→(∀ i∈hs,(zaz Rs i).any h=true)→(∀ x∈held,h x=true)→False:=by
 have nz:∀(i:Int),∀ x∈zaz Rs i,x≠0:=λi=>by
  unfold zaz
  rw[List.getD_eq_getElem?_getD]
  cases e:Rs[i.toNat]? with
  | none=>exact λx hx=>nomatch hx
  | some r=>exact hn r (mOq e)
 have key:∀(i:Int) (held:List Int),(zaz Rs i).any h=true→(∀ x∈held,h x=true)→∃ p∈nf (zaz Rs i) held,h p=true:=λi held hh hb=>by
  obtain⟨p,hp,e⟩:=List.any_eq_true.mp hh
  refine⟨p,?_,e⟩
  unfold nf
  rw[L2.once_mem]
  refine .inr (List.mem_filter.mpr ⟨hp,decide_eq_true λz=>?_⟩)
  have:=hneg p (nz i p hp) (hb _ z)
  rw[e]at this
  cases this
 intro hs
 induction hs with
 | nil=>intro held g _ _;cases g
 | cons i t ih =>
  intro held g hh hb
  obtain⟨p,hp,e⟩:=key i held (hh i List.mem_cons_self) hb
  cases t with
  | nil =>
   have g':(nf (zaz Rs i) held).isEmpty=true:=g
   cases q:nf (zaz Rs i) held with
   | nil=>rw[q]at hp;cases hp
   | cons a u=>rw[q]at g';cases g'
  | cons y t =>
   unfold goL at g
   match q:nf (zaz Rs i) held,hp,g with
   | [],hp,_=>cases hp
   | a :: b :: u,_,g=>cases g
   | [a],hp,g =>
    have ea:p=a:=mSq hp
    subst ea
    have g2:(if p∈held then false else goL Rs (held++[p]) (y :: t))=true:=g
    by_cases z:p∈held
    ·rw[if_pos z]at g2
     cases g2
    ·rw[if_neg z]at g2
     refine ih (held++[p]) g2 (λx hx=>hh x (List.mem_cons_of_mem _ hx)) λx hx=>?_
     rcases mPq hx with hx | hx
     ·exact hb x hx
     ·rw[mSq hx]
      exact e
theorem zf4 {m:Nat}:∀(ps seen:List Int),zeV m seen ps=true→∀ x∈ps,x≠0
 | [],_,_=>λx hx=>nomatch hx
 | k :: r,seen,h=>by
  unfold zeV at h
  split at h
  ·cases h
  ·rename_i hk
   intro x hx
   rcases List.mem_cons.mp hx with rfl | hx
   ·exact λe=>hk (.inl e)
   ·exact zf4 r _ h x hx
theorem zj4 {g:Tm→Int} {T:List Tm} {As:List At} {vs:List Int} {tp:Str→Bool} {Rs:List (List Int)} {l:Ln} (D:Dom T As) (vl:vs.length=T.length) (vo:zd2 g T vs) (hn:∀ r∈Rs,∀ x∈r,x≠0) (hr:∀ r∈Rs,r.any (hpB vs tp As)=true) (lw:LnW T.length As.length l) (h:zca T As Rs l=true):l.ps.any (hpB vs tp As)=true∧∀ x∈l.ps,x≠0:=by
 cases l with
 | lrn ps hs =>
  unfold zca at h
  rw[Bool.and_eq_true,Bool.and_eq_true]at h
  obtain⟨h1,_,h3⟩:=h
  have nz:=zf4 ps [] h1
  refine⟨?_,nz⟩
  apply Classical.byContradiction
  intro no
  have no':∀ p∈ps,hpB vs tp As p=false:=λp hp=>Bool.eq_false_iff.mpr λe=>no (List.any_eq_true.mpr ⟨p,hp,e⟩)
  unfold zdC at h3
  split at h3
  ·cases h3
  ·rename_i bad
   refine soundL (h:=hpB vs tp As) (λp hp e=>hp_neg hp e) hn hs _ h3 (λi hi=>?_) (λx hx=>?_)
   ·have hb:=Bool.eq_false_iff.mpr bad
    unfold zci at hb
    rw[Bool.or_eq_false_iff,Bool.or_eq_false_iff]at hb
    obtain⟨⟨_,b1⟩,b2⟩:=hb
    have i0:¬i < 0:=λz=>by
     have:(hs.any λh=>decide (h < 0))=true:=List.any_eq_true.mpr ⟨i,hi,decide_eq_true z⟩
     rw[b1]at this
     cases this
    have i1:¬(Rs.length:Int)≤i:=λz=>by
     have:(hs.any λh=>decide ((Rs.length:Int)≤h))=true:=List.any_eq_true.mpr ⟨i,hi,decide_eq_true z⟩
     rw[b2]at this
     cases this
    have il:i.toNat < Rs.length:=by omega
    unfold zaz
    rw[List.getD_eq_getElem?_getD,gG il]
    exact hr _ (List.getElem_mem il)
   ·obtain⟨p,hp,rfl⟩:=List.mem_map.mp hx
    exact hp_no (nz p hp) (no' p hp)
 | eql ps ls =>
  unfold zca at h
  rw[Bool.and_eq_true]at h
  obtain⟨h1,h2⟩:=h
  refine⟨?_,zf4 ps [] h1⟩
  apply Classical.byContradiction
  intro no
  have no':∀ p∈ps,zez vs As p=false:=λp hp=>zmB (Bool.eq_false_iff.mpr λe=>no (List.any_eq_true.mpr ⟨p,hp,e⟩))
  rw[ziI D vl vo no' ls id lw.2.2 (λt u _ _ e=>by rw[show t=u from e])]at h2
  cases h2
theorem zgE {g:Tm→Int} {T:List Tm} {As:List At} {vs:List Int} {tp:Str→Bool} (D:Dom T As) (vl:vs.length=T.length) (vo:zd2 g T vs):∀(ls:List Ln) (Rs:List (List Int)),(∀ r∈Rs,∀ x∈r,x≠0)→(∀ r∈Rs,r.any (hpB vs tp As)=true)→(∀ l∈ls,LnW T.length As.length l)→zgK T As Rs ls=true→∀ l∈ls,l.ps.any (hpB vs tp As)=true
 | [],_,_,_,_,_=>λl hl=>nomatch hl
 | l :: ls,Rs,hn,hr,lw,h=>by
  unfold zgK at h
  split at h
  ·rename_i h1
   obtain⟨p1,p2⟩:=zj4 D vl vo hn hr (lw l (by simp)) h1
   have ih:=zgE D vl vo ls (Rs++[l.ps]) (λr hr'=>by
    rcases mPq hr' with hr' | hr'
    ·exact hn r hr'
    ·rw[mSq hr'];exact p2) (λr hr'=>by
    rcases mPq hr' with hr' | hr'
    ·exact hr r hr'
    ·rw[mSq hr'];exact p1) (λx hx=>lw x (List.mem_cons_of_mem _ hx)) h
   intro x hx
   rcases List.mem_cons.mp hx with rfl | hx
   ·exact p1
   ·exact ih x hx
  ·cases h
theorem zj5 {g:Tm→Int} {T:List Tm} {As:List At} {vs:List Int} {tp:Str→Bool} {Rs:List (List Int)} {ls:List Ln} (D:Dom T As) (vl:vs.length=T.length) (vo:zd2 g T vs) (hn:∀ r∈Rs,∀ x∈r,x≠0) (lw:∀ l∈ls,LnW T.length As.length l) (h:zc9 T As Rs ls=true):¬∀ r∈Rs,r.any (hpB vs tp As)=true:=λhr=>by
 unfold zc9 at h
 rw[Bool.and_eq_true]at h
 obtain⟨h1,h2⟩:=h
 unfold zhi at h2
 split at h2
 ·rename_i l e
  have:=zgE (tp:=tp) D vl vo ls Rs hn hr lw h1 l (List.mem_of_getLast? e)
  rw[List.isEmpty_iff.mp h2]at this
  cases this
 ·cases h2
def tpB (b1 b2:Bool) (z:Str):Bool:=if z="p" then b1 else b2
inductive zfW (K:W.Frag) (C:Addr):Sp|m{vs H Q E9} (p tl al rl q l t:Addr) (T:List Tm) (As:List At) (Rs:List (List Int)) (ps us:List Int) (b1 b2:Bool):vs=[.ref p,.ref q,.ref l,.ref t]→PrD K C H p tl al rl T As Rs→SqT K H q (ps.map V.int)→(∀ k∈ps,PIn As.length k)→(∀ y∈As,PlN y)→SqL K H l (us.map V.int)→us.length=T.length→SqT K H t [.bl b1,.bl b2]→(∀ H',ai H H'→Q (.bl (ps.any (hpB us (tpB b1 b2) As))) H')→zfW K C vs H Q E9
inductive zdA (K:W.Frag) (C:Addr):Sp|m{vs H Q E9} (p tl al rl l t:Addr) (T:List Tm) (As:List At) (Rs:List (List Int)) (us:List Int) (b1 b2:Bool):vs=[.ref p,.ref l,.ref t]→PrD K C H p tl al rl T As Rs→(∀ r∈Rs,∀ k∈r,PIn As.length k)→(∀ y∈As,PlN y)→SqL K H l (us.map V.int)→us.length=T.length→SqT K H t [.bl b1,.bl b2]→(∀ H',ai H H'→Q (.bl (Rs.all λr=>r.any (hpB us (tpB b1 b2) As))) H')→zdA K C vs H Q E9
theorem zfx:aO ["_law_problem","_law_values_here","_law_truths_here","_law_row"] ["_law_problem","_law_values_here","_law_truths_here"] (aw zet):=fsc
theorem zlN (F:Fun K "_law_every" "_law_every" zet f fd) (T:Txt K mg aK C CN CT CP CM) (BH:FB P w K mg base CX0 1 "_law_holds" fH dH ["_law_problem","_law_row","_law_values_here","_law_truths_here"] (zfW K C)):aI P w K mg base CX0 2 f fd ["_law_problem","_law_values_here","_law_truths_here"] (zdA K C):=by
 refine F.ok zfx (λvs H Q E h=>?_) (λcdv A outer s H vs Q E hr h=>?_)
 ·obtain⟨p,tl,al,rl,l,t,Tt,As,Rs,us,b1,b2,rfl,_⟩:=h
  rfl
 obtain⟨p,tl,al,rl,l,t,Tt,As,Rs,us,b1,b2,rfl,S,rin,pl,hl,ul,ht,q⟩:=h
 refine⟨_,(af (zah PassesOwn.never rfl (za6 (zae (pv 0) rfl)) (zac (i:=3) zfx.nd rfl (Or.inl rfl))
   (ah (aL (zbo (zaS (aB BH.ok hr rfl BH.m BH.kp BH.b .nil aR (aa (pv 0) (aa (pv 3) (aa (pv 1) (aa (pv 2) ac)))))))
     (ah (ay zam))
     aA)))
  (ah (ay zam))),?_⟩
 try dsimp only [Cx.nox,Cx.wish,aV]
 obtain⟨⟨dx,ho⟩,_,_,⟨ws,hw,hW⟩,_⟩:=id S.pr
 have wl:ws.length=Rs.length:=by rw[←hW.length,lM]
 refine⟨_,rfl,p,C,dx,_,_,rfl,ho,T.cl,T.nR,zb0 _ _ _,rl,rfl,⟨_,SqL.of hw⟩,zdm zb9 (λi σ H'=>ai H H'∧∃ v3:Option V,σ=[some (.ref p),some (.ref l),some (.ref t),v3]∧((Rs.take i).all λr=>r.any (hpB us (tpB b1 b2) As))=true) (λi σ H' ⟨s',_⟩=>SqL.of (s' _ _ hw)) ⟨ai.refl _,none,rfl,rfl⟩ ?_ ?_⟩
 ·rintro i σ H2 x H3 hi ⟨s3,v3,rfl,al3⟩ ⟨rfl,hx⟩
  obtain⟨r,qq,hr',rfl,sq⟩:=zgx (hW.keep s3.kt (zav _)) (hx _ (SqL.of (s3 _ _ hw)))
  have rm:=mOq hr'
  refine⟨_,rfl,_,rfl,_,rfl,_,rfl,p,tl,al,rl,qq,l,t,Tt,As,Rs,r,us,b1,b2,rfl,S.same s3,sq,rin r rm,pl,s3.seq hl,ul,s3.tup ht,λH4 s4=>⟨_,rfl,?_⟩⟩
  have s04:=s3.trans s4
  cases e:r.any (hpB us (tpB b1 b2) As) with
  | false =>
   refine zao ?_
   have ef:(Rs.all λr=>r.any (hpB us (tpB b1 b2) As))=false:=Bool.eq_false_iff.mpr λz=>by
    have:=List.all_eq_true.mp z r rm
    rw[e]at this
    cases this
   have:=q H4 s04
   rw[ef]at this
   exact this
  | true =>
   refine aY ⟨s04,_,rfl,?_⟩
   rw[zan hr',List.all_append,al3]
   simp [e]
 ·rintro σ H2 ⟨s2,v3,rfl,al2⟩
  rw[wl,List.take_length]at al2
  have:=q H2 s2
  rw[al2]at this
  exact this
theorem zdT:aO ["_law_problem","_law_row","_law_values_here","_law_truths_here","_law_part","_law_atom"] ["_law_problem","_law_row","_law_values_here","_law_truths_here"] (aw zes):=fsc
theorem zkX (F:Fun K "_law_holds" "_law_holds" zes f fd) (T:Txt K mg aK C CN CT CP CM) (mabs:mg "abs"=none):aI P w K mg base CX0 1 f fd ["_law_problem","_law_row","_law_values_here","_law_truths_here"] (zfW K C):=by
 refine F.ok zdT (λvs H Q E h=>?_) (λcdv A outer s H vs Q E hr h=>?_)
 ·obtain⟨p,tl,al,rl,q,l,t,T',As,Rs,ps,us,b1,b2,rfl,_⟩:=h
  rfl
 obtain⟨p,tl,al,rl,q,l,t,T',As,Rs,ps,us,b1,b2,rfl,S,hq,pin,pl,hl,ul,ht2,Q0⟩:=h
 have hu:=zeL hr
 refine⟨_,(af (zah PassesOwn.never rfl (zaU (pv 1)) (zac (i:=4) zdT.nd rfl (Or.inl rfl))
   (af (aE (i:=5) zdT.nd rfl (Or.inl rfl) (ap zab (zae (pv 0) rfl) (aq zbA (ao zb4 rfl mabs PyProof.Rows.Boot.abs (aa (pv 4) ac)) ad)))
    (af (aL (PW.pt (za2 (au zaf (ap az (pv 5) ad) aU) (za5 (au zaf (zaI zaf (ap zab (pv 2) (ap az (pv 5) ad)) (ap zab (pv 2) (ap az (pv 5) ad))) (zaI zcf (pv 4) ad)))))
     (ah (ay zam))
     aA)
    (ah (aL (PW.pt (za2 (au zaf (ap az (pv 5) ad) aU) (za5 (au zaf (ap az (pv 3) (zbt PySem.F.plainAttrs_list PySem.F.slot_list_index PySem.F.type_list_index (zeJ hu) (zag (aa aU (aa aU ac))) (aa (ap az (pv 5) ad) ac))) (zaI zcf (pv 4) ad)))))
     (ah (ay zam))
     aA)))))
  (ah (ay zam))),?_⟩
 try dsimp only [Cx.nox,Cx.wish,aV]
 obtain⟨⟨dx,ho⟩,⟨ts,ht,hT⟩,⟨ys,ha,hA⟩,_⟩:=id S.pr
 refine⟨_,rfl,q,rfl,⟨_,hq⟩,zcn (xs:=ps.map V.int) (λi σ H'=>ai H H'∧∃(v4 v5:Option V),σ=[some (.ref p),some (.ref q),some (.ref l),some (.ref t),v4,v5]∧(ps.take i).any (hpB us (tpB b1 b2) As)=false) ⟨ai.refl _,none,none,rfl,rfl⟩ (λi σ H' _ ⟨s',_⟩=>s'.tup hq) ?_ ?_⟩
 ·rintro i x σ H2 hx ⟨s2,v4,v5,rfl,no⟩
  obtain⟨k,hk,rfl⟩:=zaH hx
  have pk:=pin k (mOq hk)
  have km:=mOq hk
  obtain⟨x,a,x2,am,hax,ea⟩:=zjH (hA.keep s2.kt (zaK zdl _)) pk
  have ea':As.getD (((k.natAbs:Nat):Int) - 1).toNat (.plain "")=a:=by rw[List.getD_eq_getElem?_getD,ea];rfl
  have nx:hpB us (tpB b1 b2) As k=false→(ps.take (i+1)).any (hpB us (tpB b1 b2) As)=false:=λe=>by
   rw[zan hk,List.any_append,no]
   simp [e]
  have yes:∀ H',ai H H'→hpB us (tpB b1 b2) As k=true→Q (.bl true) H':=λH' s' e=>by
   have:=Q0 H' s'
   rw[List.any_eq_true.mpr ⟨k,km,e⟩]at this
   exact this
  refine⟨_,rfl,p,C,dx,_,_,rfl,s2 _ _ ho,T.cl,T.nA,zai _ _ _,_,rfl,_,rfl,_,_,rfl,rfl,al,_,_,_,rfl,rfl,SqL.of (s2 _ _ ha),x2,?_⟩
  cases a with
  | plain z =>
   obtain⟨qq,rfl,hqq⟩:=zce hax
   refine⟨_,rfl,qq,_,_,_,rfl,rfl,hqq,aF (j:=0) rfl,rfl,_,rfl,aJ (λc=>absurd (of_decide_eq_true c) (by decide +kernel)) (λc=>aY ?_)⟩
   refine⟨_,rfl,qq,_,_,_,rfl,rfl,hqq,aF (j:=0) rfl,rfl,_,rfl,aJ (λc=>?_) (λc=>absurd (decide_eq_true rfl) c)⟩
   have pz:=pl _ am
   have ep:hpB us (tpB b1 b2) As k=decide (V.bl (tpB b1 b2 z)=V.bl (decide (k > 0))):=by
    unfold hpB
    rw[ea']
    simp only[V.bl.injEq]
    generalize tpB b1 b2 z=u
    generalize decide (k > 0)=v
    cases u <;> cases v <;> rfl
   refine⟨_,rfl,lS2,λl5 hl5=>?_⟩
   have s5:=ag hl5 (.lst [V.str "p",V.str "a"])
   have n5:=ae (H:=H2) (a:=l5) (o:=.lst [V.str "p",V.str "a"])
   have hq5:=s5.tup hqq
   generalize upd H2 l5 (.lst [V.str "p",V.str "a"])=H5 at s5 n5 hq5
   have s05:=s2.trans s5
   have hj:∃ j:Nat,(∃ dj,[Dt.str "p",Dt.str "a"][j]?=some dj∧peq dj (.str z)=true)∧(∀ m dm,m < j→[Dt.str "p",Dt.str "a"][m]?=some dm→peq dm (.str z)=false)∧atI [V.bl b1,V.bl b2] ((j:Nat):Int)=some (.bl (tpB b1 b2 z)):=by
    rcases pz with rfl | rfl
    ·exact⟨0,⟨_,rfl,by decide +kernel⟩,λm dm hm=>absurd hm (Nat.not_lt_zero _),rfl⟩
    ·refine⟨1,⟨_,rfl,by decide +kernel⟩,λm dm hm e=>?_,rfl⟩
     have:m=0:=by omega
     subst this
     cases e
     decide +kernel
   obtain⟨j,j1,j2,j3⟩:=hj
   refine⟨.inl ⟨rfl,_,SqL.of n5⟩,_,rfl,qq,_,_,_,rfl,rfl,hq5,aF (j:=1) rfl,l5,_,[.str "p",.str "a"],_,.str z,j,rfl,rfl,n5,.cons Has.str' (.cons Has.str' .nil),Has.str',by decide,j1,j2,t,_,_,_,rfl,rfl,s05.tup ht2,j3,_,rfl,_,_,rfl,rfl,rfl,_,rfl,aJ (λc3=>yes _ s05 (by rw[ep];exact c3)) (λc3=>⟨s05,_,_,rfl,nx (by rw[ep];exact Bool.eq_false_iff.mpr c3)⟩)⟩
  | same x y =>
   obtain⟨qq,rfl,hqq⟩:=zcG hax
   obtain⟨i1,i2⟩:=S.dm.am x y am
   rw[←ul]at i1 i2
   have ep:hpB us (tpB b1 b2) As k=decide (V.bl (decide (V.int (rf us x)=V.int (rf us y)))=V.bl (decide (k > 0))):=by
    unfold hpB
    rw[ea']
    simp only[V.int.injEq,V.bl.injEq]
    generalize decide (rf us x=rf us y)=u
    generalize decide (k > 0)=v
    cases u <;> cases v <;> rfl
   refine⟨_,rfl,qq,_,_,_,rfl,rfl,hqq,aF (j:=0) rfl,rfl,_,rfl,aJ (λc=>⟨_,rfl,_,rfl,qq,_,_,_,rfl,rfl,hqq,aF (j:=1) rfl,l,_,_,_,rfl,rfl,s2.seq hl,zcg i1,_,rfl,_,rfl,qq,_,_,_,rfl,rfl,hqq,aF (j:=2) rfl,l,_,_,_,rfl,rfl,s2.seq hl,zcg i2,rfl,_,rfl,_,_,rfl,rfl,rfl,_,rfl,aJ (λc3=>yes _ s2 (by rw[ep];exact c3)) (λc3=>?_)⟩) (λc=>absurd (decide_eq_true rfl) c)⟩
   exact⟨_,rfl,qq,_,_,_,rfl,rfl,hqq,aF (j:=0) rfl,rfl,_,rfl,aJ (λc=>absurd (of_decide_eq_true c) (by decide +kernel)) (λc=>aY ⟨s2,_,_,rfl,nx (by rw[ep];exact Bool.eq_false_iff.mpr c3)⟩)⟩
 ·rintro σ H2 ⟨s2,v4,v5,rfl,no⟩
  rw[lM,tO (nRq _)]at no
  have:=Q0 H2 s2
  rw[no]at this
  exact this
theorem zfc {P:Program} {w:World} {K:W.Frag} {mg:Str→Option Value} {base:Heap} {CX:CXT} {k:Nat} {f:Addr} {fd:FuncData} {ps:List Str} {sp sp':Sp} (F:aI P w K mg base CX k f fd ps sp) (G:aI P w K mg base CX k f fd ps sp'):aI P w K mg base CX k f fd ps (λvs H Q E=>sp vs H Q E∨sp' vs H Q E) :=
 ⟨λvs H Q E q=>q.elim (F.len vs H Q E) (G.len vs H Q E),λA outer s H args us vs Q E hr he hb hv hs=>hs.elim (F.run A outer s H args us vs Q E hr he hb hv) (G.run A outer s H args us vs Q E hr he hb hv)⟩
theorem zdN {P:Program} {w:World} {K:W.Frag} {mg:Str→Option Value} {base:Heap} {CX:CXT} {k:Nat} {x:Str} {f:Addr} {fd:FuncData} {ps:List Str} {sp sp':Sp} (B:FB P w K mg base CX k x f fd ps sp) (h:∀ vs H Q E,sp' vs H Q E→sp vs H Q E):FB P w K mg base CX k x f fd ps sp':=⟨B.ok.imp h,B.b,B.kp,B.m⟩
abbrev orS (a b:Sp):Sp:=λvs H Q E=>a vs H Q E∨b vs H Q E
def IB (x:V):Prop:=(∃ n,x=.int n)∨∃ b,x=.bl b
def ze7:V→Bool
 | .int n=>decide (0≤n)
 | _=>false
inductive zhy:Sp|m{vs H Q E9} (b:Bool):vs=[.bl b]→Q (.bl false) H→zhy vs H Q E9
theorem zmt (F:Fun K "is_number" "is_number" zdJ f fd) (T:Txt K mg aK C CN CT CP CM) (TP:TxP K mg) (bi:W.kitOne K (.type "bool") (.type "int")=some true):aI P w K mg base CX0 1 f fd ["thing"] zhy:=by
 refine F.ok zgc (λvs H Q E h=>?_) (λcdv A outer s H vs Q E hr h=>?_)
 ·obtain⟨n,rfl,_⟩:=h
  rfl
 obtain⟨b,rfl,q⟩:=h
 refine⟨_,(ah (ay (zbf (ao zb5 rfl T.isi PyProof.Rows.Boot.isinstance (aa (pv 0) (aa (za7 (v:=.ty "int") rfl TP.int PyProof.Rows.Boot.int rfl) ac))) (zbe (zkg (ao zb5 rfl T.isi PyProof.Rows.Boot.isinstance (aa (pv 0) (aa (za7 (v:=.ty "bool") rfl T.bool PyProof.Rows.Boot.bool rfl) ac)))))))),?_⟩
 try dsimp only [Cx.nox,Cx.wish,aV]
 exact⟨_,rfl,_,.type "bool","int",true,rfl,zb7.bl _,bi,_,rfl,zao ⟨_,rfl,_,.type "bool","bool",true,rfl,zb7.bl _,zbp K "bool",_,rfl,q⟩⟩
abbrev zgp:Sp:=orS zfC zhy
inductive zfO (K:W.Frag):Sp|m{vs H Q E9} (p q:Addr) (b:Bool):vs=[.ref p,.ref q]→SqT K H q [.bl b]→(∀ H',ai H H'→Q (.bl false) H')→zfO K vs H Q E9
theorem zkP (F:Fun K "are_parts" "are_parts" zc6 f fd) (T:Txt K mg aK C CN CT CP CM) (BN:FB P w K mg base CX0 1 "is_number" fN dN ["thing"] zgp):aI P w K mg base CX0 2 f fd ["problem","parts"] (zfO K):=by
 refine F.ok zcc (λvs H Q E h=>?_) (λcdv A outer s H vs Q E hr h=>?_)
 ·obtain⟨p,q,b,rfl,_⟩:=h
  rfl
 obtain⟨p,q,b,rfl,hq,Q0⟩:=h
 have hu:=zfd hr
 refine⟨_,(af (aL (zbo (zaS (ao zbi rfl T.isi PyProof.Rows.Boot.isinstance (aa (pv 1) (aa (za7 (v:=.ty "tuple") rfl T.tuple PyProof.Rows.Boot.tuple rfl) ac)))))
   (ah (ay zam))
   aA)
  (af (aE (i:=2) zcc.nd rfl (Or.inl rfl) zfp)
  (af (zah PassesOwn.never rfl (zaU (pv 1)) (zac (i:=3) zcc.nd rfl (Or.inl rfl))
   (af (aL (PW.pt (zbd (zbo (zaS (aB BN.ok hr rfl BN.m BN.kp BN.b .nil aR (aa (pv 3) ac)))) (zbd (au zaf (pv 3) ad) (zbd (au zcf (ao zb4 rfl T.abs PyProof.Rows.Boot.abs (aa (pv 3) ac)) (ao ar rfl T.len PySem.boot_len (aa (zae (pv 0) rfl) ac))) (zbn (zhb (zit hu (ao zb4 rfl T.abs PyProof.Rows.Boot.abs (aa (pv 3) ac)) (pv 2))))))))
     (ah (ay zam))
     aA)
    (ah (ze0 hu (pv 2) (ao zb4 rfl T.abs PyProof.Rows.Boot.abs (aa (pv 3) ac)) zam rfl))))
  (ah (ay zam))))),?_⟩
 try dsimp only [Cx.nox,Cx.wish,aV]
 refine⟨_,rfl,q,_,"tuple",true,rfl,hq,zbp K "tuple",_,rfl,aY ?_⟩
 refine λd hd=>?_
 have s1:=ag hd (.dK [])
 generalize upd H d (.dK [])=H1 at s1
 refine⟨_,rfl,q,rfl,⟨_,s1.tup hq⟩,zcn (xs:=[V.bl b]) (λi σ H'=>i=0∧H'=H1∧σ=[some (.ref p),some (.ref q),some (.ref d),none]) ⟨rfl,rfl,rfl⟩ (λi σ H' _ ⟨_,e,_⟩=>by rw[e];exact s1.tup hq) ?_ ?_⟩
 ·rintro i x σ H2 hx ⟨rfl,rfl,rfl⟩
  cases hx
  exact⟨_,rfl,.inr ⟨b,rfl,_,rfl,zao (zao (Q0 _ s1))⟩⟩
 ·rintro σ H2 ⟨e,_⟩
  cases e
abbrev zfP (K:W.Frag) (C:Addr):Sp:=orS (zfg K C) (zfO K)
theorem zkQ (F:Fun K "are_parts" "are_parts" zc6 f fd) (T:Txt K mg aK C CN CT CP CM) (BN:FB P w K mg base CX0 1 "is_number" fN dN ["thing"] zgp):aI P w K mg base CX0 2 f fd ["problem","parts"] (zfP K C) :=
 zfc (zlH F T (zdN BN λ_ _ _ _ h=>.inl h)) (zkP F T BN)
inductive zeO (K:W.Frag):Sp|m{vs H Q E9} (q:Addr) (xs:List V):vs=[.ref q]→SqT K H q xs→xs.length≤1000→(∀ x∈xs,IB x)→(∀ H',ai H H'→Q (.bl (xs.all ze7)) H')→zeO K vs H Q E9
theorem zi7 (F:Fun K "are_numbers" "are_numbers" zck f fd) (T:Txt K mg aK C CN CT CP CM) (BN:FB P w K mg base CX0 1 "is_number" fN dN ["thing"] zgp):aI P w K mg base CX0 2 f fd ["things"] (zeO K):=by
 refine F.ok ze5 (λvs H Q E h=>?_) (λcdv A outer s H vs Q E hr h=>?_)
 ·obtain⟨q,hs,rfl,_⟩:=h
  rfl
 obtain⟨q,xs,rfl,hq,h1000,ib,Q0⟩:=h
 refine⟨_,(ah (ay (zbf (ao zbi rfl T.isi PyProof.Rows.Boot.isinstance (aa (pv 0) (aa (za7 (v:=.ty "tuple") rfl T.tuple PyProof.Rows.Boot.tuple rfl) ac))) (zbe (ao (zbJ rfl) rfl T.all PyProof.Rows.Boot.all (aa (zbQ (N':=["thing"]) (ix:=[]) rfl rfl (by decide +kernel) (by decide +kernel) rfl (λ_=>⟨[],za3 (by decide +kernel) (by decide +kernel)⟩) (by decide +kernel) rfl rfl (λj i h=>by simp at h) (zaU (pv 0)) (λ_ _ _ _=>(zbf (aB BN.ok hr rfl BN.m BN.kp BN.b .nil aR (aa (pv 0) ac)) (zbe (zaI zd1 (pv 0) ad))))) ac)))))),?_⟩
 try dsimp only [Cx.nox,Cx.wish,aV]
 refine⟨_,rfl,q,_,"tuple",true,rfl,hq,zbp K "tuple",_,rfl,zao ⟨_,rfl,q,rfl,⟨_,hq⟩,λD hD=>zbu zbl (λi us H'=>ai H H'∧us=((xs.take i).map ze7).map V.bl) (λi us H' ⟨s4,_⟩=>s4.tup hq) ⟨ag hD _,rfl⟩ ?_ ?_⟩⟩
 ·rintro i us H8 z H4 hi hly hDs ⟨s4,rfl⟩ ⟨rfl,hx⟩
  have hk:=hx _ (s4.tup hq)
  rcases ib z (mOq hk) with ⟨k,rfl⟩ | ⟨b,rfl⟩
  ·refine⟨_,rfl,.inl ⟨k,rfl,_,rfl,zao ⟨_,rfl,_,_,rfl,rfl,zaA (sz _ h1000) hi hly hDs ⟨s4.upd hD,?_⟩⟩⟩⟩
   rw[zan hk,mAq,mAq]
   rfl
  ·refine⟨_,rfl,.inr ⟨b,rfl,_,rfl,aY (zaA (sz _ h1000) hi hly hDs ⟨s4.upd hD,?_⟩)⟩⟩
   rw[zan hk,mAq,mAq]
   rfl
 rintro us H4 hDs ⟨s4,rfl⟩
 rw[tO (nRq _)]at hDs
 refine⟨D,_,rfl,SqL.of hDs,?_⟩
 rw[ziW]
 exact Q0 H4 s4
abbrev zc5 (K:W.Frag):Sp:=orS (zdo K) (zeO K)
theorem zi8 (F:Fun K "are_numbers" "are_numbers" zck f fd) (T:Txt K mg aK C CN CT CP CM) (BN:FB P w K mg base CX0 1 "is_number" fN dN ["thing"] zgp):aI P w K mg base CX0 2 f fd ["things"] (zc5 K) :=
 zfc (zjV F T (zdN BN λ_ _ _ _ h=>.inl h)) (zi7 F T BN)
inductive zfU (K:W.Frag):Sp|m{vs H Q E9} (q b:Addr) (x y z:V):vs=[.ref q]→SqT K H q [.ref b]→SqT K H b [x,y,z]→IB x→IB y→IB z→ze7 z=false→(∀ H',ai H H'→Q (.bl false) H')→zfU K vs H Q E9
theorem zkV (F:Fun K "are_links" "are_links" zc7 f fd) (T:Txt K mg aK C CN CT CP CM) (BA:FB P w K mg base CX0 2 "are_numbers" fA dA' ["things"] (zc5 K)):aI P w K mg base CX0 3 f fd ["things"] (zfU K):=by
 refine F.ok zgd (λvs H Q E h=>?_) (λcdv A outer s H vs Q E hr h=>?_)
 ·obtain⟨q,b,x,y,z,rfl,_⟩:=h
  rfl
 obtain⟨q,b,x,y,z,rfl,hq,hb,ix,iy,iz,nz,Q0⟩:=h
 refine⟨_,(ah (ay (zbf (ao zbi rfl T.isi PyProof.Rows.Boot.isinstance (aa (pv 0) (aa (za7 (v:=.ty "tuple") rfl T.tuple PyProof.Rows.Boot.tuple rfl) ac))) (zbe (ao (zbJ rfl) rfl T.all PyProof.Rows.Boot.all (aa (zbQ (N':=["thing"]) (ix:=[]) rfl rfl (by decide +kernel) (by decide +kernel) rfl (λ_=>⟨[],za3 (by decide +kernel) (by decide +kernel)⟩) (by decide +kernel) rfl rfl (λj i h=>by simp at h) (zaU (pv 0)) (λ_ _ _ _=>(zbf (aB BA.ok hr rfl BA.m BA.kp BA.b .nil aR (aa (pv 0) ac)) (zbe (zaI zaf (ao (r:=zib K) ar rfl T.len PySem.boot_len (aa (pv 0) ac)) ad))))) ac)))))),?_⟩
 try dsimp only [Cx.nox,Cx.wish,aV]
 have ea:[x,y,z].all ze7=false:=by
  simp [nz]
 refine⟨_,rfl,q,_,"tuple",true,rfl,hq,zbp K "tuple",_,rfl,zao ⟨_,rfl,q,rfl,⟨_,hq⟩,λD hD=>zbu zbl (λi us H'=>ai H H'∧us=(List.replicate i false).map V.bl) (λi us H' ⟨s4,_⟩=>s4.tup hq) ⟨ag hD _,rfl⟩ ?_ ?_⟩⟩
 ·rintro i us H8 v H4 hi hly hDs ⟨s4,rfl⟩ ⟨rfl,hx⟩
  have hk:=hx _ (s4.tup hq)
  have i0:i=0:=by
   have:i < 1:=hi
   omega
  subst i0
  cases hk
  refine⟨_,rfl,.inr ⟨b,_,rfl,s4.tup hb,(by show 3≤1000;decide),(λu hu=>?_),λH5 s5=>?_⟩⟩
  ·simp only[List.mem_cons,List.not_mem_nil,or_false]at hu
   rcases hu with rfl | rfl | rfl
   ·exact ix
   ·exact iy
   ·exact iz
  ·rw[ea]
   exact⟨_,rfl,aY (zaA (sz _ (by show 1≤1000;decide)) hi hly (s5 _ _ hDs) ⟨(s4.trans s5).upd hD,rfl⟩)⟩
 rintro us H4 hDs ⟨s4,rfl⟩
 exact⟨D,[false],rfl,SqL.of hDs,Q0 H4 s4⟩
abbrev zfV (K:W.Frag):Sp:=orS (zeC K) (zfU K)
theorem zkW (F:Fun K "are_links" "are_links" zc7 f fd) (T:Txt K mg aK C CN CT CP CM) (BA:FB P w K mg base CX0 2 "are_numbers" fA dA' ["things"] (zc5 K)):aI P w K mg base CX0 3 f fd ["things"] (zfV K) :=
 zfc (zlJ F T (zdN BA λ_ _ _ _ h=>.inl h)) (zkV F T BA)
def OddK (K:W.Frag) (H:Hp) (z:Str) (pq hq:Addr):Prop :=
 (∃ b,SqT K H pq [.bl b])∨∃ ps:List Int,SqT K H pq (ps.map V.int)∧ps.length≤100 ∧
  ((z≠"learnt"∧z≠"equal")∨(z="learnt"∧∃ xs,SqT K H hq xs∧xs.length≤1000∧(∀ x∈xs,IB x)∧xs.all ze7=false) ∨
   (z="equal"∧∃(b:Addr) (x y v:V),SqT K H hq [.ref b]∧SqT K H b [x,y,v]∧IB x∧IB y∧IB v∧ze7 v=false))
theorem OddK.same {H H':Hp} {z:Str} {pq hq:Addr} (h:OddK K H z pq hq) (s:ai H H'):OddK K H' z pq hq:=by
 rcases h with ⟨b,h⟩ | ⟨ps,h,l,h2⟩
 ·exact .inl ⟨b,s.tup h⟩
 ·refine .inr ⟨ps,s.tup h,l,?_⟩
  rcases h2 with h2 | ⟨e,xs,h3,r⟩ | ⟨e,b,x,y,v,h3,h4,r⟩
  ·exact .inl h2
  ·exact .inr (.inl ⟨e,xs,s.tup h3,r⟩)
  ·exact .inr (.inr ⟨e,b,x,y,v,s.tup h3,s.tup h4,r⟩)
def zfa (K:W.Frag) (H:Hp) (x:V):Prop:=∃(q pq hq:Addr) (z:Str),x=.ref q∧SqT K H q [.str z,.ref pq,.ref hq]∧OddK K H z pq hq
theorem zfa.same {H H':Hp} {x:V} (h:zfa K H x) (s:ai H H'):zfa K H' x:=by
 obtain⟨q,pq,hq,z,e,h1,h2⟩:=h
 exact⟨q,pq,hq,z,e,s.tup h1,h2.same s⟩
inductive zfM (K:W.Frag) (C:Addr):Sp|m{vs H Q E9} (p tl al rl r:Addr) (T:List Tm) (As:List At) (Rs:List (List Int)) (x:V):vs=[.ref p,.ref r,x]→PrD K C H p tl al rl T As Rs→zfa K H x→(∀ H',ai H H'→Q (.bl false) H')→zfM K C vs H Q E9
theorem zkM (F:Fun K "is_right" "is_right" zbC f fd) (T:Txt K mg aK C CN CT CP CM) (TP:TxP K mg) (BP:FB P w K mg base CX0 2 "are_parts" fA dA' ["problem","parts"] (zfP K C)) (BN:FB P w K mg base CX0 2 "are_numbers" fN dN ["things"] (zc5 K)) (BK:FB P w K mg base CX0 3 "are_links" fB dB ["things"] (zfV K)) (BL:FB P w K mg base CX0 3 "is_learnt" fL dL' ["rows","parts","hints"] (Ls36.sp_is_learnt K)) (BE:FB P w K mg base CX0 5 "is_equal" fE dE ["problem","parts","links"] (zei K C)):aI P w K mg base CX0 6 f fd ["problem","rows","line"] (zfM K C):=by
 refine F.ok zgb (λvs H Q E h=>?_) (λcdv A outer s H vs Q E hr h=>?_)
 ·obtain⟨p,tl,al,rl,r,T',As,Rs,x,rfl,_⟩:=h
  rfl
 obtain⟨p,tl,al,rl,r,T',As,Rs,x,rfl,S,⟨q,pq,hq,z,rfl,hq',od⟩,Q0⟩:=h
 have hr2:zaq 2 _:=hr.mono (by decide)
 have hr3:zaq 3 _:=hr.mono (by decide)
 refine⟨_,(af (aL (PW.pt (zbd (zbo (zaS (ao zbi rfl T.isi PyProof.Rows.Boot.isinstance (aa (pv 2) (aa (za7 (v:=.ty "tuple") rfl T.tuple PyProof.Rows.Boot.tuple rfl) ac))))) (zbn (au zcN (ao ar rfl T.len PySem.boot_len (aa (pv 2) ac)) ad))))
   (ah (ay zam))
   aA)
  (af (aL (PW.pt (zbd (zbo (zaS (ao zb5 rfl T.isi PyProof.Rows.Boot.isinstance (aa (ap az (pv 2) ad) (aa (za7 (v:=.ty "str") rfl TP.str PyProof.Rows.Boot.str rfl) ac))))) (zbn (zbo (zaS (aB BP.ok hr2 rfl BP.m BP.kp BP.b .nil aR (aa (pv 0) (aa (ap az (pv 2) ad) ac))))))))
   (ah (ay zam))
   aA)
  (af (aL (au zaf (ap az (pv 2) ad) aU)
   (ah (ay (zbf (aB BN.ok hr2 rfl BN.m BN.kp BN.b .nil aR (aa (ap az (pv 2) ad) ac)) (zbe (aB BL.ok hr3 rfl BL.m BL.kp BL.b .nil aR (aa (pv 1) (aa (ap az (pv 2) ad) (aa (ap az (pv 2) ad) ac))))))))
   aA)
  (af (aL (au zaf (ap az (pv 2) ad) aU)
   (ah (ay (zbf (aB BK.ok hr3 rfl BK.m BK.kp BK.b .nil aR (aa (ap az (pv 2) ad) ac)) (zbe (aB BE.ok hr rfl BE.m BE.kp BE.b .nil aR (aa (pv 0) (aa (ap az (pv 2) ad) (aa (ap az (pv 2) ad) ac))))))))
   aA)
  (ah (ay zam)))))),?_⟩
 try dsimp only [Cx.nox,Cx.wish,aV]
 have a0:atI [V.str z,.ref pq,.ref hq] 0=some (.str z):=aF (j:=0) rfl
 have a1:atI [V.str z,.ref pq,.ref hq] 1=some (.ref pq):=aF (j:=1) rfl
 have a2:atI [V.str z,.ref pq,.ref hq] 2=some (.ref hq):=aF (j:=2) rfl
 refine⟨_,rfl,q,_,"tuple",true,rfl,hq',zbp K "tuple",_,rfl,aY ⟨_,rfl,q,_,rfl,.inr hq',rfl,_,rfl,aY ?_⟩⟩
 refine⟨_,rfl,q,_,_,_,rfl,rfl,hq',a0,_,.type "str","str",true,rfl,zb7.str _,zbp K "str",_,rfl,aY ⟨_,rfl,_,rfl,q,_,_,_,rfl,rfl,hq',a1,?_⟩⟩
 rcases od with ⟨b,hb⟩ | ⟨ps,hp,p100,od⟩
 ·exact .inr ⟨p,pq,b,rfl,hb,λH1 s1=>⟨_,rfl,zao (Q0 H1 s1)⟩⟩
 refine .inl ⟨p,tl,al,rl,pq,T',As,Rs,ps,rfl,S.pr,hp,by omega,λH1 s1=>⟨_,rfl,?_⟩⟩
 cases e:zc3 As.length ps with
 | false=>exact zao (Q0 H1 s1)
 | true =>
  refine aY ?_
  rcases od with ⟨n1,n2⟩ | ⟨rfl,xs,hx,x1000,ib,xf⟩ | ⟨rfl,b,x,y,v,hb,hbb,ix,iy,iv,nv⟩
  ·refine⟨_,rfl,q,_,_,_,rfl,rfl,s1.tup hq',a0,rfl,_,rfl,aJ (λc=>absurd (of_decide_eq_true c) (λz'=>n1 (by injection z'))) (λc=>?_)⟩
   exact⟨_,rfl,q,_,_,_,rfl,rfl,s1.tup hq',a0,rfl,_,rfl,aJ (λc=>absurd (of_decide_eq_true c) (λz'=>n2 (by injection z'))) (λc=>Q0 H1 s1)⟩
  ·refine⟨_,rfl,q,_,_,_,rfl,rfl,s1.tup hq',a0,rfl,_,rfl,aJ (λc=>?_) (λc=>absurd (decide_eq_true rfl) c)⟩
   refine⟨_,rfl,q,_,_,_,rfl,rfl,s1.tup hq',a2,.inr ⟨hq,xs,rfl,s1.tup hx,x1000,ib,λH2 s2=>?_⟩⟩
   rw[xf]
   exact⟨_,rfl,aY (Q0 H2 (s1.trans s2))⟩
  ·refine⟨_,rfl,q,_,_,_,rfl,rfl,s1.tup hq',a0,rfl,_,rfl,aJ (λc=>absurd (of_decide_eq_true c) (show ¬V.str "equal"=V.str "learnt" by decide +kernel)) (λc=>?_)⟩
   refine⟨_,rfl,q,_,_,_,rfl,rfl,s1.tup hq',a0,rfl,_,rfl,aJ (λc=>?_) (λc=>absurd (decide_eq_true rfl) c)⟩
   exact⟨_,rfl,q,_,_,_,rfl,rfl,s1.tup hq',a2,.inr ⟨hq,b,x,y,v,rfl,s1.tup hb,s1.tup hbb,ix,iy,iv,nv,λH2 s2=>⟨_,rfl,aY (Q0 H2 (s1.trans s2))⟩⟩⟩
abbrev zfN (K:W.Frag) (C:Addr):Sp:=orS (zeB K C) (zfM K C)
theorem zkO (F:Fun K "is_right" "is_right" zbC f fd) (T:Txt K mg aK C CN CT CP CM) (TP:TxP K mg) (BP:FB P w K mg base CX0 2 "are_parts" fA dA' ["problem","parts"] (zfP K C)) (BN:FB P w K mg base CX0 2 "are_numbers" fN dN ["things"] (zc5 K)) (BK:FB P w K mg base CX0 3 "are_links" fB dB ["things"] (zfV K)) (BL:FB P w K mg base CX0 3 "is_learnt" fL dL' ["rows","parts","hints"] (Ls36.sp_is_learnt K)) (BE:FB P w K mg base CX0 5 "is_equal" fE dE ["problem","parts","links"] (zei K C)):aI P w K mg base CX0 6 f fd ["problem","rows","line"] (zfN K C) :=
 zfc (zkN F T TP (zdN BP λ_ _ _ _ h=>.inl h) (zdN BN λ_ _ _ _ h=>.inl h) (zdN BK λ_ _ _ _ h=>.inl h) BL BE) (zkM F T TP BP BN BK BL BE)
structure OddP (K:W.Frag) (H:Hp) (n m:Nat) (xs:List V):Prop where
 ex:∃(i:Nat) (x:V) (ls:List Ln),xs[i]?=some x∧zfa K H x∧aj K H (ls.map dLn) (xs.take i)∧ls.length≤300∧∀ l∈ls,LnW n m l
inductive zfY (K:W.Frag) (C:Addr):Sp|m{vs H Q E9} (p tl al rl q:Addr) (T:List Tm) (As:List At) (Rs:List (List Int)) (xs:List V):vs=[.ref p,.ref q]→PrD K C H p tl al rl T As Rs→SqL K H q xs→OddP K H T.length As.length xs→(∀ x∈Rs,x.length≤100)→Rs.length≤500→(∀ H' (n:Int),ai H H'→Q (.int n) H')→zfY K C vs H Q E9
theorem zk2 (F:Fun K "fault" "fault" zeZ f fd) (T:Txt K mg aK C CN CT CP CM) (TP:TxP K mg) (BR:FB P w K mg base CX0 6 "is_right_papers" fE dE ["problem","rows","line"] (zfN K C)):aI P w K mg base CX0 7 f fd ["problem","paper"] (zfY K C):=by
 refine F.ok zcE (λvs H Q E h=>?_) (λcdv A outer s H vs Q E hr h=>?_)
 ·obtain⟨p,tl,al,rl,q,T',As,Rs,xs,rfl,_⟩:=h
  rfl
 obtain⟨p,tl,al,rl,q,T',As,Rs,xs,rfl,S,hq,⟨i,x,ls,hi,od,hL,l300,lw⟩,r100,r500,Q2⟩:=h
 refine⟨_,(af (aL (zbo (zaS (ao zgg rfl T.isi PyProof.Rows.Boot.isinstance (aa (pv 1) (aa (za7 (v:=.ty "list") rfl TP.list PyProof.Rows.Boot.list rfl) ac)))))
   (ah (ay ad))
   aA)
  (af (aE (i:=2) zcE.nd rfl (Or.inl rfl) (zar zdq rfl TP.list PyProof.Rows.Boot.list (aa (zae (pv 0) rfl) ac)))
  (af (zah PassesOwn.never rfl (zjq rfl TP.enum (aa (pv 1) ac)) (zke rfl (zfn (zac (i:=3) zcE.nd rfl (Or.inl rfl)) (zfn (zac (i:=4) zcE.nd rfl (Or.inl rfl)) zjr)))
   (af (aL (zbo (zaS (aB BR.ok hr rfl BR.m BR.kp BR.b .nil aR (aa (pv 0) (aa (pv 2) (aa (pv 4) ac))))))
     (ah (ay (pv 3)))
     aA)
    (ah (zak (zbt PySem.F.plainAttrs_list PySem.F.slot_list_append PySem.F.type_list_append zaE (pv 2) (aa (ap az (pv 4) ad) ac))))))
  (af (aL (PW.pt (zbd (au zaf (ao ar rfl T.len PySem.boot_len (aa (pv 1) ac)) ad) (zbn (au zcf (ao ar rfl T.len PySem.boot_len (aa (ap az (ap zab (pv 1) (zbk za1 ad)) ad) ac)) ad))))
   (ah (ay (ao ar rfl T.len PySem.boot_len (aa (pv 1) ac))))
   aA)
  (ah (ay zb8)))))),?_⟩
 try dsimp only [Cx.nox,Cx.wish,aV]
 have ix:i < xs.length:=(gEq hi).1
 have il:i=ls.length:=by
  have:=hL.length
  rw[lM,List.length_take]at this
  omega
 obtain⟨⟨dx,ho⟩,_,_,⟨zs,hz,hZ⟩,_⟩:=id S.pr
 have zl:zs.length=Rs.length:=by rw[←hZ.length,lM]
 refine⟨_,rfl,q,_,"list",true,rfl,hq,zbp K "list",_,rfl,aY ?_⟩
 refine⟨_,rfl,p,C,dx,_,_,rfl,ho,T.cl,T.nR,zb0 _ _ _,rl,zs,rfl,.inl (SqL.of hz),λr hr'=>?_⟩
 have s1:=ag hr' (.lst zs)
 have n1:=ae (H:=H) (a:=r) (o:=.lst zs)
 have hZ1:=hZ.keep s1.kt (zav _)
 generalize upd H r (.lst zs)=H1 at s1 n1 hZ1
 refine⟨_,rfl,q,rfl,⟨_,s1.seq hq⟩,zdm zjf (λj σ H'=>∃(v3 v4:Option V) (us:List V) (Rs':List (List Int)),σ=[some (.ref p),some (.ref q),some (.ref r),v3,v4]∧ai H H'∧H' r=some (.lst us)∧aj K H' (Rs'.map dR) us∧(∀ x∈Rs',x.length≤100)∧Rs'.length=Rs.length+j∧j≤i) (λi σ H' ⟨_,_,_,_,_,s2,_⟩=>s2.seq hq) ⟨none,none,zs,Rs,rfl,s1,n1,hZ1,r100,rfl,Nat.zero_le _⟩ ?_ ?_⟩
 ·rintro j σ H2 x' H3 hj ⟨v3,v4,us,Rs',rfl,s2,n2,hL2,r2,rl2,ji⟩ ⟨pp,y,rfl,hpp,rfl,hy⟩
  have hy':=hy _ (s2.seq hq)
  have ul:us.length=Rs'.length:=by rw[←hL2.length,lM]
  have s3:=ag (H:=H2) hpp (.tup [.int j,y])
  have t3:=ae (H:=H2) (a:=pp) (o:=.tup [.int j,y])
  by_cases e:j=i
  ·subst e
   rw[hi]at hy'
   cases hy'
   refine⟨pp,_,rfl,SqT.of t3,rfl,_,_,rfl,_,_,rfl,rfl,?_⟩
   generalize upd H2 pp (.tup [.int j,x])=H3 at s3
   have s13:=s2.trans s3
   exact⟨_,rfl,_,rfl,_,rfl,.inr ⟨p,tl,al,rl,r,T',As,Rs,x,rfl,S.same s13,od.same s13,λH4 s4=>⟨_,rfl,zao ⟨_,rfl,Q2 H4 _ (s13.trans s4)⟩⟩⟩⟩
  ·have hyt:(xs.take i)[j]?=some y:=by
    rw[List.getElem?_take,if_pos (by omega)]
    exact hy'
   obtain⟨l,lq,pq,hq2,hl,rfl,h1,h2,h3⟩:=zcH hL hyt
   have lm:=mOq hl
   refine⟨pp,_,rfl,SqT.of t3,rfl,_,_,rfl,_,_,rfl,rfl,?_⟩
   generalize upd H2 pp (.tup [.int j,.ref lq])=H3 at s3
   have s13:=s2.trans s3
   refine⟨_,rfl,_,rfl,_,rfl,.inl ⟨p,tl,al,rl,r,lq,pq,hq2,T',As,Rs,Rs',us,l,rfl,S.same s13,SqL.of (s3 _ _ n2),hL2.keep s3.kt (zav _),r2,s13.tup h1,s13.tup h2,h3.same s13,lw l lm,λH4 s4=>⟨_,rfl,?_⟩⟩⟩
   cases er:zca T' As Rs' l with
   | false=>exact zao ⟨_,rfl,Q2 H4 _ (s13.trans s4)⟩
   | true =>
    have s14:=s13.trans s4
    have n4:=s4 _ _ (s3 _ _ n2)
    refine aY ⟨_,rfl,.inl ⟨rfl,_,SqL.of n4⟩,_,rfl,lq,_,_,_,rfl,rfl,s14.tup h1,aF (j:=1) rfl,r,_,_,rfl,rfl,n4,zaC (by omega),?_⟩
    have kt:=zaw.lst (ys:=us++[.ref pq]) n4
    refine⟨_,_,us++[.ref pq],Rs'++[l.ps],rfl,s14.upd hr',ae,?_,λx hx=>?_,by rw[lAq,lS,rl2];omega,by omega⟩
    ·rw[mAq]
     exact aj.append ((hL2.keep (s3.trans s4).kt (zav _)).keep kt (zav _)) (aj.one (Has.tup' (kt.sq (s14.tup h2)) (aj.ints l.ps)))
    ·rcases mPq hx with h | h
     ·exact r2 x h
     ·rw[mSq h]
      have:=lw l lm
      cases l <;> exact this.1
 ·rintro σ H2 ⟨v3,v4,us,Rs',rfl,s2,n2,hL2,r2,rl2,ji⟩
  omega
abbrev zfZ (K:W.Frag) (C:Addr):Sp:=orS (zfi K C) (zfY K C)
theorem zk3 (F:Fun K "fault" "fault" zeZ f fd) (T:Txt K mg aK C CN CT CP CM) (TP:TxP K mg) (BR:FB P w K mg base CX0 6 "is_right_papers" fE dE ["problem","rows","line"] (zfN K C)):aI P w K mg base CX0 7 f fd ["problem","paper"] (zfZ K C) :=
 zfc (zlM F T TP (zdN BR λ_ _ _ _ h=>.inl h)) (zk2 F T TP BR)
inductive zgQ (K:W.Frag) (C:Addr):Sp|m{vs H Q E9} (p tl al rl q:Addr) (T:List Tm) (As:List At) (Rs:List (List Int)) (xs:List V):vs=[.ref p,.ref q]→PrD K C H p tl al rl T As Rs→SqL K H q xs→OddP K H T.length As.length xs→(∀ x∈Rs,x.length≤100)→Rs.length≤500→(∀ H',ai H H'→Q (.bl false) H')→zgQ K C vs H Q E9
theorem zlK (F:Fun K "lets_by" "lets_by" zdP f fd) (BF:FB P w K mg base CX0 7 "fault" fE dE ["problem","paper"] (zfZ K C)):aI P w K mg base CX0 8 f fd ["problem","paper"] (zgQ K C):=by
 refine F.ok zhl (λvs H Q E h=>?_) (λcdv A outer s H vs Q E hr h=>?_)
 ·obtain⟨p,tl,al,rl,q,T',As,Rs,xs,rfl,_⟩:=h
  rfl
 obtain⟨p,tl,al,rl,q,T',As,Rs,xs,rfl,S,hq,od,r100,r500,Q0⟩:=h
 refine⟨_,(ah (ay (zaI zhf (aB BF.ok hr rfl BF.m BF.kp BF.b .nil aR (aa (pv 0) (aa (pv 1) ac))) zb8))),?_⟩
 try dsimp only [Cx.nox,Cx.wish,aV]
 exact⟨_,rfl,_,rfl,.inr ⟨p,tl,al,rl,q,T',As,Rs,xs,rfl,S,hq,od,r100,r500,λH' n s'=>⟨rfl,Q0 H' s'⟩⟩⟩
abbrev zfh (K:W.Frag) (C:Addr):Sp:=orS (zhA K C) (zgQ K C)
theorem zlL (F:Fun K "lets_by" "lets_by" zdP f fd) (BF:FB P w K mg base CX0 7 "fault" fE dE ["problem","paper"] (zfZ K C)):aI P w K mg base CX0 8 f fd ["problem","paper"] (zfh K C) :=
 zfc (zmv F (zdN BF λ_ _ _ _ h=>.inl h)) (zlK F BF)
theorem ok_no {P:Program} {w:World} {K:W.Frag} {mg:Str→Option Value} {base:Heap} {CX:CXT} {k:Nat} {f:Addr} {fd:FuncData} {ps:List Str} {sp:Sp} (h:∀ vs H Q E,¬sp vs H Q E):aI P w K mg base CX k f fd ps sp :=
 ⟨λvs H Q E q=>absurd q (h _ _ _ _),λA outer s H args us vs Q E _ _ _ _ hs=>absurd hs (h _ _ _ _)⟩
def RfL:Ln→Prop
 | .lrn ps hs=>ps.length≤20∧hs.length≤60
 | .eql _ _=>False
def zbD (ls:List Ln):List (List Int):=ls.map Ln.ps
theorem zdw {H:Hp} {q pq hq:Addr} {ps hs:List Int} (h:SqT K H q [.str "learnt",.ref pq,.ref hq]) (h1:SqT K H pq (ps.map V.int)) (h2:SqT K H hq (hs.map V.int)):Has K H (dLn (.lrn ps hs)) (.ref q) :=
 Has.tup' h (.cons .str' (.cons (Has.tup' h1 (aj.ints _)) (.cons (Has.tup' h2 (aj.ints _)) .nil)))
theorem zec {H:Hp} {q pq hq:Addr} {ps:List Int} {ls:List Lk} {xs:List V} (h:SqT K H q [.str "equal",.ref pq,.ref hq]) (h1:SqT K H pq (ps.map V.int)) (h2:SqT K H hq xs) (h3:aj K H (ls.map dL) xs):Has K H (dLn (.eql ps ls)) (.ref q) :=
 Has.tup' h (.cons .str' (.cons (Has.tup' h1 (aj.ints _)) (.cons (Has.tup' h2 h3) .nil)))
theorem zjN {H:Hp} {ls:List Ln} {i:Nat} {l:Ln} {us:List V} {D pq:Addr} (hD:H D=some (.lst us)) (g:aj K H ((zbD (ls.take i)).map dR) us) (hl:ls[i]?=some l) (hp:SqT K H pq (l.ps.map V.int)):aj K (upd H D (.lst (us++[.ref pq]))) ((zbD (ls.take (i+1))).map dR) (us++[.ref pq]):=by
 have kt:=zaw.lst (ys:=us++[.ref pq]) hD
 unfold zbD at g ⊢
 rw[zan hl,mAq,mAq]
 exact aj.append (g.keep kt (zav _)) (aj.one (Has.tup' (kt.sq hp) (aj.ints l.ps)))
inductive zie (K:W.Frag) (D:Nat):Sp|m{vs H Q E9} (d:Nat) (r a:Addr) (n:Int) (xs:List V) (Rs:List (List Int)) (pk:List Int):D=d+1→vs=[.ref r,.ref a,.int n]→H r=some (.lst xs)→aj K H (Rs.map dR) xs→H a=some (.lst (pk.map V.int))→n=((pk.length+d:Nat):Int)→(∀ r∈Rs,r.length≤100)→Rs.length+2 ^ D≤60→pk.length+d≤20→(∀(H':Hp) (l:Addr) (us:List V) (ls:List Ln),ai H H'→H l=none→H' l=some (.lst us)→aj K H' (ls.map dLn) us→(∀ y∈ls,RfL y)→ls.length+1≤2 ^ D→Q (.ref l) H')→zie K D vs H Q E9
abbrev NRf:List Str:=["_law_rows","_law_picked","_law_atoms","_law_parts","_law_hints_here","_law_first","_law_lines"]
theorem za4:aO NRf ["_law_rows","_law_picked","_law_atoms"] (aw zbr):=fsc
theorem zmk (T:Txt K mg aK C CN CT CP CM) {k:Nat} (BH:FB P w K mg base CX0 2 "_law_hints" fH dH ["_law_rows","_law_parts"] (Ls36.sp_hints K))
  {cdv:Value} {A:Around} {outer:List Env} {s:Shared} {H0:Hp} {E:XK} (hr:zaq 2 (A.deeper (PyProof.Rows.envOfC "_law_refuted" (aw zbr) s.heap.objs.size f cdv))) :
  ∃ t,PSs (aV CX0 P w K mg base NRf "_law_refuted" (aw zbr) f cdv A outer s H0 E).nox ((zaR zbr).drop 7) t ∧
   ∀(En:zbT) (H:Hp) (r a q fa la:Addr) (n:Int) (v4:Option V) (xs us1 us2:List V) (Rs:List (List Int)) (ps:List Int) (ls1 ls2:List Ln),H r=some (.lst xs)→aj K H (Rs.map dR) xs→SqT K H q (ps.map V.int)→H fa=some (.lst us1)→H la=some (.lst (us1++us2))→aj K H (ls1.map dLn) us1→aj K H (ls2.map dLn) us2→(∀ r∈Rs,r.length≤100)→(∀ y∈ls2,RfL y)→Rs.length+ls2.length≤60→ls1.length≤100→ps.length≤20 →
    (∀(H':Hp) (l:Addr) (us:List V) (hs:List Int),ai H H'→H l=none→H' l=some (.lst us)→aj K H' ((ls1++ls2++[Ln.lrn ps hs]).map dLn) us→hs.length≤60→En.rt (.ref l) H') →
    t En [some (.ref r),some (.ref a),some (.int n),some (.ref q),v4,some (.ref fa),some (.ref la)] H:=by
 refine⟨_,(af (aE (i:=0) za4.nd rfl (Or.inl rfl) (aq zaB (pv 0) (zbQ (N':=["_law_line"]) (ix:=[]) rfl rfl (by decide +kernel) (by decide +kernel) rfl (λ_=>⟨[],za3 (by decide +kernel) (by decide +kernel)⟩) (by decide +kernel) rfl rfl (λj i h=>by simp at h) (za6 (zaj zaG (pv 6) (zas (ao ar rfl T.len PySem.boot_len (aa (pv 5) ac))) zat)) (λ_ _ _ _=>(ap (r:=zee K) az (pv 0) ad)))))
  (af (aE (i:=4) za4.nd rfl (Or.inl rfl) (aB BH.ok hr rfl BH.m BH.kp BH.b .nil aR (aa (pv 0) (aa (pv 3) ac))))
  (ah (ay (aq zaB (pv 6) (zag (aa (aS (aa aU (aa (pv 3) (aa (zar zaD rfl T.tuple PyProof.Rows.Boot.tuple (aa (pv 4) ac)) ac)))) ac))))))),?_⟩
 try dsimp only [Cx.nox,Cx.wish,aV]
 intro En H r a q fa la n v4 xs us1 us2 Rs ps ls1 ls2 hR hL hq hf hla g1 g2 r100 rf2 bnd l100 p20 Q0
 have ul1:us1.length=ls1.length:=by rw[←g1.length,lM]
 have ul2:us2.length=ls2.length:=by rw[←g2.length,lM]
 have xl:xs.length=Rs.length:=by rw[←hL.length,lM]
 refine⟨_,rfl,_,rfl,_,rfl,fa,_,rfl,.inl (SqL.of hf),_,rfl,la,_,rfl,SqL.of hla,λc hc=>?_⟩
 have ec:aQ (us1++us2) (some ((us1.length:Nat):Int)) none=us2:=by
  unfold aQ
  rw[HT.sIx_nat,HT.sIx_none,lAq,Nat.min_eq_left (by omega),List.drop_left,tO (by omega)]
 rw[ec]
 have s1:=ag hc (.lst us2)
 have n1:=ae (H:=H) (a:=c) (o:=.lst us2)
 have g21:=g2.keep s1.kt (zax _)
 have hR1:=s1 _ _ hR
 have hL1:=hL.keep s1.kt (zav _)
 generalize upd H c (.lst us2)=H1 at s1 n1 g21 hR1 hL1
 refine⟨c,rfl,⟨_,SqL.of n1⟩,λD hD=>zbu zb9 (λi ys H'=>ai H1 H'∧aj K H' ((zbD (ls2.take i)).map dR) ys) (λi ys H' ⟨s4,_⟩=>SqL.of (s4 _ _ n1)) ⟨ag hD _,aj.nil⟩ ?_ ?_⟩
 ·rintro i ys H8 z H4 hi hly hDs ⟨s4,g⟩ ⟨rfl,hx⟩
  obtain⟨l,lq,pq,hq2,hl,rfl,h1,h2,h3⟩:=zcH g21 (hx _ (SqL.of (s4 _ _ n1)))
  exact⟨_,rfl,lq,_,_,_,rfl,rfl,s4.tup h1,aF (j:=1) rfl,zaA (sz _ (by omega)) hi hly hDs ⟨s4.upd hD,zjN hDs g hl (s4.tup h2)⟩⟩
 rintro ys H2 hDs ⟨s4,g⟩
 rw[ul2,List.take_length]at g
 have yl:ys.length=ls2.length:=by rw[←g.length,lM,zbD,lM]
 refine⟨r,D,_,_,rfl,rfl,s4 _ _ hR1,hDs,sz _ (by omega),λr2 hr2=>?_⟩
 have s5:=ag hr2 (.lst (xs++ys))
 have n5:=ae (H:=H2) (a:=r2) (o:=.lst (xs++ys))
 have g5:=g.keep s5.kt (zav _)
 have s15:=s4.trans s5
 generalize upd H2 r2 (.lst (xs++ys))=H3 at s5 n5 g5 s15
 have s03:=s1.trans s15
 have hRs:aj K H3 ((Rs++zbD ls2).map dR) (xs++ys):=by
  rw[mAq]
  exact aj.append (hL1.keep s15.kt (zav _)) g5
 have r100':∀ x∈Rs++zbD ls2,x.length≤100:=λx hx=>by
  rcases mPq hx with hx | hx
  ·exact r100 x hx
  ·obtain⟨y,hy,rfl⟩:=List.mem_map.mp hx
   have:=rf2 y hy
   cases y with
   | lrn ps hs=>exact Nat.le_trans this.1 (by decide)
   | eql ps ls=>exact this.elim
 refine⟨_,rfl,_,rfl,r2,q,_,Rs++zbD ls2,ps,rfl,SqL.of n5,hRs,s03.tup hq,r100',(by rw[lAq,zbD,lM];exact bnd),by omega,λH4 h4 hs s6 n6 hh4 _ hl4=>?_⟩
 have hl60:hs.length≤60:=by
  rw[lAq,zbD,lM]at hl4
  omega
 have s04:=s03.trans s6
 refine⟨_,rfl,_,rfl,_,rfl,h4,_,rfl,.inl ⟨SqL.of hh4,λt1 ht1=>⟨lS3,λt2 ht2=>⟨lS1,λt3 ht3=>?_⟩⟩⟩⟩
 have s7:=ag ht1 (.tup (hs.map V.int))
 have n7:=ae (H:=H4) (a:=t1) (o:=.tup (hs.map V.int))
 have s8:=ag ht2 (.tup [.str "learnt",.ref q,.ref t1])
 have n8:=ae (H:=upd H4 t1 (.tup (hs.map V.int))) (a:=t2) (o:=.tup [.str "learnt",.ref q,.ref t1])
 have s9:=ag ht3 (.lst [.ref t2])
 have n9:=ae (H:=upd (upd H4 t1 (.tup (hs.map V.int))) t2 (.tup [.str "learnt",.ref q,.ref t1])) (a:=t3) (o:=.lst [.ref t2])
 have n7':=s9 _ _ (s8 _ _ n7)
 have n8':=s9 _ _ n8
 have s49:=(s7.trans s8).trans s9
 generalize upd (upd (upd H4 t1 (.tup (hs.map V.int))) t2 (.tup [.str "learnt",.ref q,.ref t1])) t3 (.lst [.ref t2])=H5 at s49 n7' n8' n9
 have s05:=s04.trans s49
 refine⟨la,t3,_,_,rfl,rfl,s05 _ _ hla,n9,sz _ (by rw[lAq,lS];omega),λo ho=>?_⟩
 have s10:=ag ho (.lst (us1++us2++[.ref t2]))
 have s06:=s05.trans s10
 refine Q0 _ o _ hs s06 (s05.free ho) ae ?_ hl60
 rw[mAq,mAq]
 exact aj.append (aj.append (g1.keep s06.kt (zax _)) (g2.keep s06.kt (zax _))) (aj.one (zdw (SqT.of (s10 _ _ n8')) (s06.tup hq) (SqT.of (s10 _ _ n7'))))
theorem ziu (F:Fun K "_law_refuted" "_law_refuted" zbr f fd) (T:Txt K mg aK C CN CT CP CM) (BH:FB P w K mg base CX0 2 "_law_hints" fH dH ["_law_rows","_law_parts"] (Ls36.sp_hints K)) (BR:FB P w K mg base CX0 2 "_law_right" fR dR' ["_law_rows","_law_parts","_law_hints_here"] (Ls36.sp_right K)) (b:aH K fd ["_law_rows","_law_picked","_law_atoms"] []) (kp:W.keepIn K (.ref f)=true) (m:mg "_law_refuted"=some (.ref f)):∀ D,aI P w K mg base CX0 (D+2) f fd ["_law_rows","_law_picked","_law_atoms"] (zie K D)
 | 0=>ok_no λ_ _ _ _ h=>by
  obtain⟨_,_,_,_,_,_,_,h,_⟩:=h
  omega
 | D+1=>by
  have IH:=ziu F T BH BR b kp m D
  refine F.ok (k:=D+2) za4 (λvs H Q E h=>?_) (λcdv A outer s H vs Q E hr h=>?_)
  ·obtain⟨d,r,a,n,xs,Rs,pk,_,rfl,_⟩:=h
   rfl
  obtain⟨d,r,a,n,xs,Rs,pk,eD,rfl,hR,hL,hA,en,r100,bnd,pd,Q0⟩:=h
  have eD:D=d:=by omega
  subst eD
  have hr2:zaq 2 _:=hr.mono (by omega)
  have xl:xs.length=Rs.length:=by rw[←hL.length,lM]
  obtain⟨tE,hE,gE⟩:=zmk (P:=P) (w:=w) (base:=base) (f:=f) (k:=D) (cdv:=cdv) (A:=A) (outer:=outer) (s:=s) (H0:=H) (E:=E) T BH hr2
  refine⟨_,(af (aE (i:=3) za4.nd rfl (Or.inl rfl) (zar zaD rfl T.tuple PyProof.Rows.Boot.tuple (aa (zbQ (N':=["_law_part"]) (ix:=[]) rfl rfl (by decide +kernel) (by decide +kernel) rfl (λ_=>⟨[],za3 (by decide +kernel) (by decide +kernel)⟩) (by decide +kernel) rfl rfl (λj i h=>by simp at h) (za6 (pv 1)) (λ_ _ _ _=>(zbk za1 (pv 0)))) ac)))
  (af (aE (i:=4) za4.nd rfl (Or.inl rfl) (aB BH.ok hr2 rfl BH.m BH.kp BH.b .nil aR (aa (pv 0) (aa (pv 3) ac))))
  (af (aL (zaS (aB BR.ok hr2 rfl BR.m BR.kp BR.b .nil aR (aa (pv 0) (aa (pv 3) (aa (pv 4) ac)))))
   (ah (ay (zag (aa (aS (aa aU (aa (pv 3) (aa (zar zaD rfl T.tuple PyProof.Rows.Boot.tuple (aa (pv 4) ac)) ac)))) ac))))
   aA)
  (af (aL (au zaf (ao ar rfl T.len PySem.boot_len (aa (pv 1) ac)) (pv 2))
   (ah (ay (zag ac)))
   aA)
  (af (aE (i:=5) za4.nd rfl (Or.inl rfl) (aB IH hr rfl m kp b .nil aR (aa (pv 0) (aa (aq zaB (pv 1) (zag (aa (aq zal (ao ar rfl T.len PySem.boot_len (aa (pv 1) ac)) ad) ac))) (aa (pv 2) ac)))))
  (af (aE (i:=0) za4.nd rfl (Or.inl rfl) (aq zaB (pv 0) (zbQ (N':=["_law_line"]) (ix:=[]) rfl rfl (by decide +kernel) (by decide +kernel) rfl (λ_=>⟨[],za3 (by decide +kernel) (by decide +kernel)⟩) (by decide +kernel) rfl rfl (λj i h=>by simp at h) (za6 (pv 5)) (λ_ _ _ _=>(ap (r:=zee K) az (pv 0) ad)))))
  (af (aE (i:=6) za4.nd rfl (Or.inl rfl) (aq zaB (pv 5) (aB IH hr rfl m kp b .nil aR (aa (pv 0) (aa (aq zaB (pv 1) (zag (aa (aq zbA (zbk za1 (ao ar rfl T.len PySem.boot_len (aa (pv 1) ac))) ad) ac))) (aa (pv 2) ac))))))
  hE))))))),?_⟩
  try dsimp only [Cx.nox,Cx.wish,aV]
  refine⟨_,rfl,a,rfl,⟨_,SqL.of hA⟩,λN hN=>zbu zb9 (λi ys H'=>ai H H'∧ys=((pk.take i).map λp=>-p).map V.int) (λi ys H' ⟨s1,_⟩=>s1.seq (SqL.of hA)) ⟨ag hN _,rfl⟩ ?_ ?_⟩
  ·rintro i ys H' x H'' hi hly hDs ⟨s1,rfl⟩ ⟨rfl,hx⟩
   obtain⟨k,hk',rfl⟩:=zaH (hx _ (s1.seq (SqL.of hA)))
   refine⟨_,rfl,_,rfl,zaA (by rw[lM];exact bsz _ (by omega)) hi hly hDs ⟨s1.upd hN,?_⟩⟩
   rw[Ls36.neg_snoc hk',mAq]
   rfl
  rintro ys H1 hDs ⟨s1,rfl⟩
  rw[lM,List.take_length]at hDs
  refine⟨N,_,rfl,.inl ⟨SqL.of hDs,λq hq=>?_⟩⟩
  generalize eps:(pk.map λp=>-p)=ps at hDs
  have pl:ps.length=pk.length:=by rw[←eps,lM]
  have s2:=ag hq (.tup (ps.map V.int))
  have n2:=ae (H:=H1) (a:=q) (o:=.tup (ps.map V.int))
  have s02:=s1.trans s2
  generalize upd H1 q (.tup (ps.map V.int))=H2 at s2 n2 s02
  have bnd':Rs.length+2 ^ D+2 ^ D≤60:=by rw[Nat.pow_succ]at bnd;omega
  have one:1≤2 ^ D:=Nat.one_le_two_pow
  refine⟨_,rfl,_,rfl,r,q,_,Rs,ps,rfl,SqL.of (s02 _ _ hR),hL.keep s02.kt (zav _),SqT.of n2,r100,by omega,by omega,λH3 hh hs s3 n3 hh3 inr hsl=>?_⟩
  have s03:=s02.trans s3
  have hsl':hs.length≤60:=by omega
  refine⟨_,rfl,_,rfl,_,rfl,r,q,hh,_,Rs,ps,hs,rfl,SqL.of (s03 _ _ hR),hL.keep s03.kt (zav _),SqT.of (s3 _ _ n2),hh3,r100,by omega,by omega,inr,λH4 s4=>⟨_,rfl,?_⟩⟩
  have s04:=s03.trans s4
  have n2':=s4 _ _ (s3 _ _ n2)
  have hh4:=s4 _ _ hh3
  cases er:zdk Rs (ps.map λp=>-p) hs with
  | true =>
   refine zao ⟨_,rfl,_,rfl,hh,_,rfl,.inl ⟨SqL.of hh4,λt1 ht1=>⟨lS3,λt2 ht2=>⟨lS1,λt3 ht3=>?_⟩⟩⟩⟩
   have s7:=ag ht1 (.tup (hs.map V.int))
   have n7:=ae (H:=H4) (a:=t1) (o:=.tup (hs.map V.int))
   have s8:=ag ht2 (.tup [.str "learnt",.ref q,.ref t1])
   have n8:=ae (H:=upd H4 t1 (.tup (hs.map V.int))) (a:=t2) (o:=.tup [.str "learnt",.ref q,.ref t1])
   have s9:=ag ht3 (.lst [.ref t2])
   have s49:=(s7.trans s8).trans s9
   refine Q0 _ t3 [.ref t2] [.lrn ps hs] (s04.trans s49) ((s04.trans (s7.trans s8)).free ht3) ae (aj.one (zdw (SqT.of (s9 _ _ n8)) (SqT.of (s49 _ _ n2')) (SqT.of (s9 _ _ (s8 _ _ n7))))) (λy hy=>?_) ?_
   ·rw[mSq hy]
    exact⟨by omega,hsl'⟩
   ·rw[Nat.pow_succ]
    show 2≤_
    omega
  | false =>
   refine aY ⟨_,rfl,a,_,rfl,.inl (SqL.of (s04 _ _ hA)),_,rfl,rfl,_,rfl,aJ (λc=>?_) (λc=>?_)⟩
   ·refine⟨lS0,λo ho=>Q0 _ o [] [] (s04.trans (ag ho _)) (s04.free ho) ae .nil (λy hy=>nomatch hy) ?_⟩
    rw[Nat.pow_succ]
    show 1≤_
    omega
   have D1:D≠0:=λe=>c (decide_eq_true (by rw[en,e,lM,Nat.add_zero]))
   obtain⟨e,rfl⟩:∃ e,D=e+1:=⟨D - 1,by omega⟩
   have hA4:=s04 _ _ hA
   refine⟨_,rfl,_,rfl,_,rfl,a,_,rfl,.inl (SqL.of hA4),_,_,rfl,rfl,lS1,λb1 hb1=>?_⟩
   have s5:=ag hb1 (.lst [V.int (((pk.map V.int).length:Nat)+1)])
   have n5:=ae (H:=H4) (a:=b1) (o:=.lst [V.int (((pk.map V.int).length:Nat)+1)])
   refine⟨a,b1,_,_,rfl,rfl,s5 _ _ hA4,n5,sz _ (by rw[lM];show pk.length+1≤1000;omega),λb2 hb2=>?_⟩
   have s6:=ag hb2 (.lst (pk.map V.int++[V.int (((pk.map V.int).length:Nat)+1)]))
   have n6:=ae (H:=upd H4 b1 (.lst [V.int (((pk.map V.int).length:Nat)+1)])) (a:=b2) (o:=.lst (pk.map V.int++[V.int (((pk.map V.int).length:Nat)+1)]))
   have s06:=s04.trans (s5.trans s6)
   have n2'':=s6 _ _ (s5 _ _ n2')
   generalize upd (upd H4 b1 (.lst [V.int (((pk.map V.int).length:Nat)+1)])) b2 (.lst (pk.map V.int++[V.int (((pk.map V.int).length:Nat)+1)]))=H6 at n6 s06 n2''
   refine⟨_,rfl,e,r,b2,n,xs,Rs,pk++[(((pk.map V.int).length:Nat):Int)+1],rfl,rfl,s06 _ _ hR,hL.keep s06.kt (zav _),(by rw[mAq];exact n6),(by rw[en,lAq,lS];congr 1;omega),r100,by omega,(by rw[lAq,lS];omega),λH7 fa us1 ls1 s7 nfa hfa g1 rf1 ln1=>?_⟩
   have s07:=s06.trans s7
   have ul1:us1.length=ls1.length:=by rw[←g1.length,lM]
   refine⟨_,rfl,_,rfl,fa,rfl,⟨_,SqL.of hfa⟩,λM hM=>zbu zb9 (λi ys H'=>ai H7 H'∧aj K H' ((zbD (ls1.take i)).map dR) ys) (λi ys H' ⟨s8,_⟩=>SqL.of (s8 _ _ hfa)) ⟨ag hM _,aj.nil⟩ ?_ ?_⟩
   ·rintro i ys H8 z H9 hi hly hDs ⟨s8,g⟩ ⟨rfl,hx⟩
    obtain⟨l,lq,pq,hq2,hl,rfl,h1,h2,h3⟩:=zcH g1 (hx _ (SqL.of (s8 _ _ hfa)))
    exact⟨_,rfl,lq,_,_,_,rfl,rfl,s8.tup h1,aF (j:=1) rfl,zaA (sz _ (by omega)) hi hly hDs ⟨s8.upd hM,zjN hDs g hl (s8.tup h2)⟩⟩
   rintro ys1 H8 hMs ⟨s8,gy⟩
   rw[ul1,List.take_length]at gy
   have yl:ys1.length=ls1.length:=by rw[←gy.length,lM,zbD,lM]
   have s08:=s07.trans s8
   refine⟨r,M,_,_,rfl,rfl,s08 _ _ hR,hMs,sz _ (by omega),λr1 hr1=>?_⟩
   have s9:=ag hr1 (.lst (xs++ys1))
   have n9:=ae (H:=H8) (a:=r1) (o:=.lst (xs++ys1))
   have g9:=gy.keep s9.kt (zav _)
   have s09:=s08.trans s9
   have s79:=s8.trans s9
   generalize upd H8 r1 (.lst (xs++ys1))=H9 at s9 n9 g9 s09 s79
   have hRs:aj K H9 ((Rs++zbD ls1).map dR) (xs++ys1):=by
    rw[mAq]
    exact aj.append (hL.keep s09.kt (zav _)) g9
   have r100':∀ x∈Rs++zbD ls1,x.length≤100:=λx hx=>by
    rcases mPq hx with hx | hx
    ·exact r100 x hx
    ·obtain⟨y,hy,rfl⟩:=List.mem_map.mp hx
     have:=rf1 y hy
     cases y with
     | lrn ps hs=>exact Nat.le_trans this.1 (by decide)
     | eql ps ls=>exact this.elim
   have rl1:(Rs++zbD ls1).length=Rs.length+ls1.length:=by rw[lAq,zbD,lM]
   have hA9:=s09 _ _ hA
   refine⟨_,rfl,_,rfl,_,rfl,_,rfl,a,_,rfl,.inl (SqL.of hA9),_,rfl,_,_,rfl,rfl,lS1,λc1 hc1=>?_⟩
   have s10:=ag hc1 (.lst [V.int (-(((pk.map V.int).length:Nat):Int) - 1)])
   have n10:=ae (H:=H9) (a:=c1) (o:=.lst [V.int (-(((pk.map V.int).length:Nat):Int) - 1)])
   refine⟨a,c1,_,_,rfl,rfl,s10 _ _ hA9,n10,sz _ (by rw[lM];show pk.length+1≤1000;omega),λc2 hc2=>?_⟩
   have s11:=ag hc2 (.lst (pk.map V.int++[V.int (-(((pk.map V.int).length:Nat):Int) - 1)]))
   have n11:=ae (H:=upd H9 c1 (.lst [V.int (-(((pk.map V.int).length:Nat):Int) - 1)])) (a:=c2) (o:=.lst (pk.map V.int++[V.int (-(((pk.map V.int).length:Nat):Int) - 1)]))
   have s9b:=s10.trans s11
   generalize upd (upd H9 c1 (.lst [V.int (-(((pk.map V.int).length:Nat):Int) - 1)])) c2 (.lst (pk.map V.int++[V.int (-(((pk.map V.int).length:Nat):Int) - 1)]))=Hb at n11 s9b
   generalize (-(((pk.map V.int).length:Nat):Int) - 1)=z at n11
   have s0b:=s09.trans s9b
   refine⟨_,rfl,e,r1,c2,n,xs++ys1,Rs++zbD ls1,pk++[z],rfl,rfl,s9b _ _ n9,hRs.keep s9b.kt (zav _),(by rw[mAq];exact n11),(by rw[en,lAq,lS];congr 1;omega),r100',by omega,(by rw[lAq,lS];omega),λHc l2 us2 ls2 s12 nl2 hl2 g2 rf2 ln2=>?_⟩
   have s0c:=s0b.trans s12
   have s7c:=(s79.trans s9b).trans s12
   have ul2:us2.length=ls2.length:=by rw[←g2.length,lM]
   refine⟨fa,l2,_,_,rfl,rfl,s7c _ _ hfa,hl2,sz _ (by omega),λla hla=>?_⟩
   have s13:=ag hla (.lst (us1++us2))
   have n13:=ae (H:=Hc) (a:=la) (o:=.lst (us1++us2))
   have g2':=g2.keep s13.kt (zax _)
   have s9d:=(s9b.trans s12).trans s13
   have s7d:=s7c.trans s13
   have s0d:=s0c.trans s13
   have n2d:=(s7.trans s7d) _ _ n2''
   generalize upd Hc la (.lst (us1++us2))=Hd at n13 g2' s9d s7d s0d n2d
   refine gE _ Hd r1 a q fa la n _ (xs++ys1) us1 us2 (Rs++zbD ls1) ps ls1 ls2 (s9d _ _ n9) (hRs.keep s9d.kt (zav _)) (SqT.of n2d) (s7d _ _ hfa) n13 (g1.keep s7d.kt (zax _)) g2' r100' rf2 (by omega) (by omega) (by omega) λH' l us hs' s14 nl hl g hsl2=>?_
   refine Q0 H' l us _ (s0d.trans s14) (s0d.free nl) hl g (λy hy=>?_) ?_
   ·rcases mPq hy with hy | hy
    ·rcases mPq hy with hy | hy
     ·exact rf1 y hy
     ·exact rf2 y hy
    ·rw[mSq hy]
     exact⟨by omega,hsl2⟩
   ·rw[lAq,lAq,lS,Nat.pow_succ]
    omega
inductive zhx (K:W.Frag):Sp|m{vs H Q E} D:D≤4→zie K D vs H Q E→zhx K vs H Q E
theorem zmr (F:Fun K "_law_refuted" "_law_refuted" zbr f fd) (T:Txt K mg aK C CN CT CP CM) (BH:FB P w K mg base CX0 2 "_law_hints" fH dH ["_law_rows","_law_parts"] (Ls36.sp_hints K)) (BR:FB P w K mg base CX0 2 "_law_right" fR dR' ["_law_rows","_law_parts","_law_hints_here"] (Ls36.sp_right K)) (b:aH K fd ["_law_rows","_law_picked","_law_atoms"] []) (kp:W.keepIn K (.ref f)=true) (m:mg "_law_refuted"=some (.ref f)):aI P w K mg base CX0 6 f fd ["_law_rows","_law_picked","_law_atoms"] (zhx K) :=
 ⟨λvs H Q E ⟨D,hD,q⟩=>(ziu F T BH BR b kp m D).len vs H Q E q,λA outer s H args us vs Q E hr he hb hv ⟨D,hD,q⟩=>((ziu F T BH BR b kp m D).mono (by omega)).run A outer s H args us vs Q E hr he hb hv q⟩
def LnV (k n m:Nat):Ln→Prop
 | .lrn ps hs=>ps.length≤20+k∧hs.length≤60+k
 | .eql ps ls=>ps.length≤20∧(∀ x∈ps,PIn m x)∧ls.length+1≤8 * 2 ^ k∧∀ l∈ls,zb2 n m l
theorem LnV.lw {k n m:Nat} (hk:k≤3):∀ {l:Ln},LnV k n m l→LnW n m l
 | .lrn ps hs,h=>⟨by have:=h.1;omega,by have:=h.2;omega⟩
 | .eql ps ls,h=>by
  have h3:=h.2.2.1
  have:2 ^ k≤2 ^ 3:=Nat.pow_le_pow_right (by decide) hk
  exact⟨by have:=h.1;omega,by omega,h.2.2.2⟩
theorem LnV.up {k j n m:Nat} (hk:k≤j):∀ {l:Ln},LnV k n m l→LnV j n m l
 | .lrn ps hs,h=>⟨by have:=h.1;omega,by have:=h.2;omega⟩
 | .eql ps ls,h=>by
  have h3:=h.2.2.1
  have:2 ^ k≤2 ^ j:=Nat.pow_le_pow_right (by decide) hk
  exact⟨h.1,h.2.1,by omega,h.2.2.2⟩
theorem atom0 {H:Hp} {As:List At} {ys:List V} {j:Int} (hA:aj K H (As.map dA) ys) (h0:0≤j) (h1:j < (ys.length:Int)):∃(b:Addr) (z:Str) (r:List V),atI ys j=some (.ref b)∧SqT K H b (.str z :: r):=by
 obtain⟨x,x1,x2⟩:=zbB h0 h1
 obtain⟨d,e1,e2⟩:=hA.get x1
 rw[List.getElem?_map]at e1
 obtain⟨a,e3,rfl⟩:=Option.map_eq_some_iff.mp e1
 cases a with
 | plain z =>
  obtain⟨q,rfl,hq⟩:=zce e2
  exact⟨q,_,_,x2,hq⟩
 | same u v =>
  obtain⟨q,rfl,hq⟩:=zcG e2
  exact⟨q,_,_,x2,hq⟩
inductive zha (K:W.Frag) (C:Addr):Sp|m{vs H Q E9} (p tl al rl:Addr) (T:List Tm) (As:List At) (Rs:List (List Int)):vs=[.ref p]→PrD K C H p tl al rl T As Rs→As.length≤3→T.length≤6→Rs.length≤40→(∀ r∈Rs,r.length≤100)→(∀(H':Hp) (l:Addr) (us:List V) (ls:List Ln),ai H H'→H l=none→H' l=some (.lst us)→aj K H' (ls.map dLn) us→(∀ y∈ls,LnV 0 T.length As.length y)→ls.length+1≤20→Q (.ref l) H')→zha K C vs H Q E9
theorem zbs:aO ["_law_problem","_law_lines","_law_part","_law_parts","_law_bonds","_law_rows"] ["_law_problem"] (aw zcB):=fsc
theorem ok_pby (F:Fun K "_law_paper_by" "_law_paper_by" zcB f fd) (T:Txt K mg aK C CN CT CP CM) (BL:FB P w K mg base CX0 3 "_law_links" fL dL' ["_law_problem","_law_parts"] (zfT K C)) (BE:FB P w K mg base CX0 3 "_law_equal" fE dE ["_law_problem","_law_parts","_law_bonds"] (zfX K C)) (BR:FB P w K mg base CX0 6 "_law_refuted" fR dR' ["_law_rows","_law_picked","_law_atoms"] (zhx K)):aI P w K mg base CX0 7 f fd ["_law_problem"] (zha K C):=by
 refine F.ok zbs (λvs H Q E h=>?_) (λcdv A outer s H vs Q E hr h=>?_)
 ·obtain⟨p,tl,al,rl,T',As,Rs,rfl,_⟩:=h
  rfl
 obtain⟨p,tl,al,rl,T',As,Rs,rfl,S,a3,t6,r40,r100,Q0⟩:=h
 have hr3:zaq 3 _:=hr.mono (by decide)
 refine⟨_,(af (aE (i:=1) zbs.nd rfl (Or.inl rfl) (zag ac))
  (af (zah PassesOwn.never rfl (zf3 rfl T.range (aa ad (aa (aq zal (ao ar rfl T.len PySem.boot_len (aa (zae (pv 0) rfl) ac)) ad) ac))) (zac (i:=2) zbs.nd rfl (Or.inr rfl))
   (af (aE (i:=3) zbs.nd rfl (Or.inl rfl) (zar zaD rfl T.tuple PyProof.Rows.Boot.tuple (aa (aq zaB (zag (aa (pv 2) ac)) (zhe (N':=["_law_atom","_law_part"]) (ix:=[2]) rfl rfl (by decide +kernel) (by decide +kernel) rfl (λok=>zc4 (sc:=aw zcB) ok rfl (by decide +kernel) (by decide +kernel)) (by decide +kernel) rfl rfl (λj i h=>match j,h with | 0,h=>by cases h;exact⟨_,rfl,rfl,.inl rfl,.inl rfl⟩ | n+1,h=>by simp at h) (zf3 rfl T.range (aa ad (aa (aq zal (ao ar rfl T.len PySem.boot_len (aa (zae (pv 0) rfl) ac)) ad) ac))) (λ_ _ _ _=>(au zcN (pv 0) (pv 1))) (λ_ _ _ _=>(zbk za1 (pv 0))))) ac)))
    (af (aE (i:=4) zbs.nd rfl (Or.inl rfl) (aB BL.ok hr3 rfl BL.m BL.kp BL.b .nil aR (aa (pv 0) (aa (pv 3) ac))))
    (ah (aL (PW.pt (za2 (au zaf (ap az (ap zab (zae (pv 0) rfl) (aq zbA (pv 2) ad)) ad) aU) (za5 (zaS (aB BE.ok hr3 rfl BE.m BE.kp BE.b .nil aR (aa (pv 0) (aa (pv 3) (aa (pv 4) ac))))))))
     (ah (zak (zbt PySem.F.plainAttrs_list PySem.F.slot_list_append PySem.F.type_list_append zaE (pv 1) (aa (aS (aa aU (aa (pv 3) (aa (zar zaD rfl T.tuple PyProof.Rows.Boot.tuple (aa (pv 4) ac)) ac)))) ac))))
     aA)))))
  (af (aE (i:=5) zbs.nd rfl (Or.inl rfl) (aq zaB (zae (pv 0) rfl) (zbQ (N':=["_law_line"]) (ix:=[]) rfl rfl (by decide +kernel) (by decide +kernel) rfl (λ_=>⟨[],za3 (by decide +kernel) (by decide +kernel)⟩) (by decide +kernel) rfl rfl (λj i h=>by simp at h) (za6 (pv 1)) (λ_ _ _ _=>(ap (r:=zee K) az (pv 0) ad)))))
  (ah (ay (aq zaB (pv 1) (aB BR.ok hr rfl BR.m BR.kp BR.b .nil aR (aa (pv 5) (aa (zag ac) (aa (ao ar rfl T.len PySem.boot_len (aa (zae (pv 0) rfl) ac)) ac)))))))))),?_⟩
 try dsimp only [Cx.nox,Cx.wish,aV]
 obtain⟨⟨dx,ho⟩,_,⟨ys,ha,hA⟩,⟨zs,hz,hZ⟩,_⟩:=id S.pr
 have yl:ys.length=As.length:=by rw[←hA.length,lM]
 have zl:zs.length=Rs.length:=by rw[←hZ.length,lM]
 refine⟨lS0,λL hL=>?_⟩
 have s1:=ag hL (.lst [])
 have n1:=ae (H:=H) (a:=L) (o:=.lst [])
 generalize upd H L (.lst [])=H1 at s1 n1
 refine⟨_,rfl,p,C,dx,_,_,rfl,s1 _ _ ho,T.cl,T.nA,zai _ _ _,al,ys,rfl,.inl (SqL.of (s1 _ _ ha)),_,_,rfl,rfl,_,_,rfl,(by refine⟨?_,?_,?_,?_⟩ <;> omega),zaL (lo:=1) (n:=((ys.length:Int)+1 - 1).toNat) (λi σ H'=>ai H H'∧∃(v2 v3 v4:Option V) (us:List V) (ls:List Ln),σ=[some (.ref p),some (.ref L),v2,v3,v4,none]∧H' L=some (.lst us)∧aj K H' (ls.map dLn) us∧(∀ y∈ls,LnV 0 T'.length As.length y∧y.ps.length≤100)∧ls.length≤i) ⟨s1,none,none,none,[],[],rfl,n1,.nil,(λy hy=>nomatch hy),nRq _⟩ ?_ ?_⟩
 ·rintro i σ H2 hi ⟨s2,v2,v3,v4,us,ls,rfl,hL2,g2,lv,ll⟩
  have hi':i < As.length:=by omega
  have ul:us.length=ls.length:=by rw[←g2.length,lM]
  generalize ek:(1:Int)+(i:Int)=k
  have pk:PIn As.length k:=⟨by omega,by omega,by omega⟩
  refine⟨_,rfl,lS1,λl1 hl1=>?_⟩
  have s3:=ag hl1 (.lst [V.int k])
  have n3:=ae (H:=H2) (a:=l1) (o:=.lst [V.int k])
  have s03:=s2.trans s3
  show(λH3:Hp=>_) (upd H2 l1 (.lst [V.int k]))
  generalize upd H2 l1 (.lst [V.int k])=H3 at s3 n3 s03
  refine⟨_,rfl,p,C,dx,_,_,rfl,s03 _ _ ho,T.cl,T.nA,zai _ _ _,al,ys,rfl,.inl (SqL.of (s03 _ _ ha)),_,_,rfl,rfl,_,_,rfl,(by refine⟨?_,?_,?_,?_⟩ <;> omega),λD hD=>zhh zln (λj vs H'=>ai H3 H'∧∃ ns:List Int,vs=ns.map V.int∧ns.length≤j∧∀ x∈ns,PIn As.length x) (λ_ _ _ _=>trivial) ⟨ag hD _,[],rfl,nRq _,λx hx=>nomatch hx⟩ ?_ ?_⟩
  ·rintro j vs H8 x H4 hj hly hDs ⟨s4,ns,rfl,nl,np⟩ ⟨rfl,rfl⟩
   have hj':j < As.length:=by
    have:j < ((ys.length:Int)+1 - 1).toNat:=hj
    omega
   refine⟨_,rfl,_,rfl,rfl,_,rfl,aJ (λc=>?_) (λc=>zgu hj hly hDs ⟨s4,ns,rfl,by omega,np⟩)⟩
   refine⟨_,rfl,_,rfl,zaA (sz _ (by omega)) hj hly hDs ⟨s4.upd hD,ns++[-(1+(j:Int))],by rw[mAq];rfl,by rw[lAq,lS];omega,λx hx=>?_⟩⟩
   rcases mPq hx with hx | hx
   ·exact np x hx
   ·rw[mSq hx]
    exact⟨by omega,by omega,by omega⟩
  rintro vs H4 hDs ⟨s4,ns,rfl,nl,np⟩
  have nl':ns.length≤3:=by omega
  have s04:=s03.trans s4
  refine⟨l1,D,_,_,rfl,rfl,s4 _ _ n3,hDs,sz _ (by rw[lM];show 1+ns.length≤1000;omega),λl2 hl2=>?_⟩
  have ec:[V.int k]++ns.map V.int=(k :: ns).map V.int:=rfl
  rw[ec]
  have pin:∀ x∈k :: ns,PIn As.length x:=λx hx=>by
   rcases List.mem_cons.mp hx with rfl | hx
   ·exact pk
   ·exact np x hx
  have pl:(k :: ns).length≤20:=by rw[List.length_cons];omega
  generalize k :: ns=ps at pin pl
  have s5:=ag hl2 (.lst (ps.map V.int))
  refine⟨l2,_,rfl,.inl ⟨SqL.of ae,λq hq=>?_⟩⟩
  have s6:=ag hq (.tup (ps.map V.int))
  have n6:=ae (H:=upd H4 l2 (.lst (ps.map V.int))) (a:=q) (o:=.tup (ps.map V.int))
  have s46:=s5.trans s6
  generalize upd (upd H4 l2 (.lst (ps.map V.int))) q (.tup (ps.map V.int))=H6 at n6 s46
  have s06:=s04.trans s46
  have s26:=(s3.trans s4).trans s46
  refine⟨_,rfl,_,rfl,p,tl,al,rl,q,T',As,Rs,ps,rfl,S.same s06,.inr (SqT.of n6),pin,λH7 bl bus bls s7 nbl hbl gb lin blen=>?_⟩
  have s07:=s06.trans s7
  have s27:=s26.trans s7
  have hq7:SqT K H7 q (ps.map V.int):=SqT.of (s7 _ _ n6)
  obtain⟨b,z,rr,x2,hb⟩:=atom0 (hA.keep s07.kt (zaK zdl _)) (show 0≤k - 1 by omega) (show k - 1 < (ys.length:Int) by omega)
  have skip:∀ H':Hp,ai H2 H'→∀ v3 v4:Option V,(ai H H'∧∃(v2 v3' v4':Option V) (us:List V) (ls:List Ln),[some (V.ref p),some (.ref L),some (.int k),v3,v4,none]=[some (.ref p),some (.ref L),v2,v3',v4',none]∧H' L=some (.lst us)∧aj K H' (ls.map dLn) us∧(∀ y∈ls,LnV 0 T'.length As.length y∧y.ps.length≤100)∧ls.length≤i+1):=λH' s' v3 v4=>⟨s2.trans s',_,_,_,us,ls,rfl,s' _ _ hL2,g2.keep s'.kt (zax _),lv,by omega⟩
  refine⟨_,rfl,p,C,dx,_,_,rfl,s07 _ _ ho,T.cl,T.nA,zai _ _ _,_,rfl,_,_,rfl,rfl,al,_,_,_,rfl,rfl,SqL.of (s07 _ _ ha),x2,b,_,_,_,rfl,rfl,hb,aF (j:=0) rfl,rfl,_,rfl,aJ (λ_=>?_) (λ_=>aY (skip H7 s27 _ _))⟩
  refine⟨_,rfl,_,rfl,_,rfl,p,tl,al,rl,q,bl,T',As,Rs,ps,bus,bls,rfl,S.same s07,.inr hq7,pin,SqL.of hbl,gb,lin,λH8 s8=>⟨_,rfl,?_⟩⟩
  have s28:=s27.trans s8
  have s08:=s07.trans s8
  cases eqF rtm ps T' As bls (λt=>t) with
  | false=>exact aY (skip H8 s28 _ _)
  | true =>
   have hL8:=s28 _ _ hL2
   refine zao ⟨_,rfl,.inl ⟨rfl,_,SqL.of hL8⟩,_,rfl,_,rfl,bl,_,rfl,.inl ⟨SqL.of (s8 _ _ hbl),λt1 ht1=>⟨lS3,λt2 ht2=>?_⟩⟩⟩
   have s9:=ag ht1 (.tup bus)
   have n9:=ae (H:=H8) (a:=t1) (o:=.tup bus)
   have s10:=ag ht2 (.tup [.str "equal",.ref q,.ref t1])
   have n10:=ae (H:=upd H8 t1 (.tup bus)) (a:=t2) (o:=.tup [.str "equal",.ref q,.ref t1])
   have n9':=s10 _ _ n9
   have s8x:=s9.trans s10
   generalize upd (upd H8 t1 (.tup bus)) t2 (.tup [.str "equal",.ref q,.ref t1])=H9 at n10 n9' s8x
   have hL9:=s8x _ _ hL8
   have s29:=s28.trans s8x
   refine⟨L,_,_,rfl,rfl,hL9,zaC (by omega),?_⟩
   have kt:=zaw.lst (ys:=us++[.ref t2]) hL9
   refine⟨(s2.trans s29).upd hL,_,_,_,us++[.ref t2],ls++[.eql ps bls],rfl,ae,?_,λy hy=>?_,by rw[lAq,lS];omega⟩
   ·rw[mAq]
    exact aj.append ((g2.keep s29.kt (zax _)).keep kt (zax _)) (aj.one (zec (kt.sq (SqT.of n10)) (kt.sq ((s8.trans s8x).tup hq7)) (kt.sq (SqT.of n9')) ((gb.keep (s8.trans s8x).kt (zaJ _)).keep kt (zaJ _))))
   ·rcases mPq hy with hy | hy
    ·exact lv y hy
    ·rw[mSq hy]
     exact⟨⟨pl,pin,by omega,lin⟩,Nat.le_trans pl (by decide)⟩
 ·rintro σ H2 ⟨s2,v2,v3,v4,us,ls,rfl,hL2,g2,lv,ll⟩
  have ll':ls.length≤3:=by omega
  have ul:us.length=ls.length:=by rw[←g2.length,lM]
  refine⟨_,rfl,p,C,dx,_,_,rfl,s2 _ _ ho,T.cl,T.nR,zb0 _ _ _,_,rfl,L,rfl,⟨_,SqL.of hL2⟩,λM hM=>zbu zb9 (λi vs H'=>ai H2 H'∧aj K H' ((zbD (ls.take i)).map dR) vs) (λi vs H' ⟨s8,_⟩=>SqL.of (s8 _ _ hL2)) ⟨ag hM _,aj.nil⟩ ?_ ?_⟩
  ·rintro i vs H8 z H9 hi hly hDs ⟨s8,g⟩ ⟨rfl,hx⟩
   obtain⟨l,lq,pq,hq2,hl,rfl,h1,h2,h3⟩:=zcH g2 (hx _ (SqL.of (s8 _ _ hL2)))
   exact⟨_,rfl,lq,_,_,_,rfl,rfl,s8.tup h1,aF (j:=1) rfl,zaA (sz _ (by omega)) hi hly hDs ⟨s8.upd hM,zjN hDs g hl (s8.tup h2)⟩⟩
  rintro vs H3 hMs ⟨s3,gy⟩
  rw[ul,List.take_length]at gy
  have vl:vs.length=ls.length:=by rw[←gy.length,lM,zbD,lM]
  have s03:=s2.trans s3
  refine⟨rl,M,_,_,rfl,rfl,s03 _ _ hz,hMs,sz _ (by omega),λr1 hr1=>?_⟩
  have s4:=ag hr1 (.lst (zs++vs))
  have n4:=ae (H:=H3) (a:=r1) (o:=.lst (zs++vs))
  have g4:=gy.keep s4.kt (zav _)
  have s34:=s3.trans s4
  generalize upd H3 r1 (.lst (zs++vs))=H4 at s4 n4 g4 s34
  have s04:=s2.trans s34
  have hRs:aj K H4 ((Rs++zbD ls).map dR) (zs++vs):=by
   rw[mAq]
   exact aj.append (hZ.keep s04.kt (zav _)) g4
  have r100':∀ x∈Rs++zbD ls,x.length≤100:=λx hx=>by
   rcases mPq hx with hx | hx
   ·exact r100 x hx
   ·obtain⟨y,hy,rfl⟩:=List.mem_map.mp hx
    exact(lv y hy).2
  have p2:2 ^ (As.length+1)≤2 ^ 4:=Nat.pow_le_pow_right (by decide) (by omega)
  refine⟨_,rfl,_,rfl,lS0,λe he=>?_⟩
  have s5:=ag he (.lst [])
  have n5:=ae (H:=H4) (a:=e) (o:=.lst [])
  have s05:=s04.trans s5
  have s25:=s34.trans s5
  show(λH5:Hp=>_) (upd H4 e (.lst []))
  generalize upd H4 e (.lst [])=H5 at s5 n5 s05 s25
  refine⟨_,rfl,p,C,dx,_,_,rfl,s05 _ _ ho,T.cl,T.nA,zai _ _ _,al,ys,rfl,.inl (SqL.of (s05 _ _ ha)),As.length+1,by omega,As.length,r1,e,_,zs++vs,Rs++zbD ls,[],rfl,rfl,s5 _ _ n4,hRs.keep s5.kt (zav _),n5,(by rw[yl,List.length_nil,Nat.zero_add]),r100',(by rw[lAq,zbD,lM];omega),(by rw[List.length_nil];omega),λH6 l2 us2 ls2 s6 nl2 hl2 g6 rf6 ln6=>?_⟩
  have ul2:us2.length=ls2.length:=by rw[←g6.length,lM]
  have s26:=s25.trans s6
  refine⟨L,l2,_,_,rfl,rfl,s26 _ _ hL2,hl2,sz _ (by omega),λo ho'=>?_⟩
  have s7:=ag ho' (.lst (us++us2))
  have s27:=s26.trans s7
  refine Q0 _ o _ (ls++ls2) (s2.trans s27) ((s2.trans s26).free ho') ae ?_ (λy hy=>?_) (by rw[lAq];omega)
  ·rw[mAq]
   exact aj.append (g2.keep s27.kt (zax _)) (g6.keep s7.kt (zax _))
  ·rcases mPq hy with hy | hy
   ·exact(lv y hy).1
   ·have:=rf6 y hy
    cases y with
    | lrn ps hs=>exact⟨this.1,this.2⟩
    | eql ps ls=>exact this.elim
abbrev NPt:List Str:=["_law_problem","_law_paper","_law_at","_law_again","_law_lines","_law_k","_law_line","_law_behind"]
theorem zbI:aO NPt ["_law_problem","_law_paper","_law_at","_law_again"] (aw zbX):=fsc
abbrev ptB:List Stmt:=forB ((zaR zbX).getD 1 (.Pass ⟨0,0,0,0⟩))
theorem HasLn.snoc {H:Hp} {ms:List Ln} {y:Ln} {vs:List V} {x:V} {L:Addr} (h:H L=some (.lst vs)) (g:aj K H (ms.map dLn) vs) (hx:Has K H (dLn y) x):aj K (upd H L (.lst (vs++[x]))) ((ms++[y]).map dLn) (vs++[x]):=by
 have kt:=zaw.lst (ys:=vs++[x]) h
 rw[mAq]
 exact aj.append (g.keep kt (zax _)) (aj.one (hx.keep kt (zcR _)))
theorem put1 (T:Txt K mg aK C CN CT CP CM) (TP:TxP K mg)
  {cdv:Value} {A:Around} {outer:List Env} {s:Shared} {H0:Hp} {E:XK} :
  ∃ t,PSs (aV CX0 P w K mg base NPt "_law_put_in" (aw zbX) f cdv A outer s H0 E).nox (ptB.drop 1) t ∧
   ∀(D:zbT) (H Ho:Hp) (p tl al rl a L:Addr) (Tt:List Tm) (As:List At) (Rs:List (List Int)) (at_:Int) (v3:V) (v6 v7:Option V) (us vs:List V) (ls ms:List Ln) (k b n m:Nat),PrD K C H p tl al rl Tt As Rs→H a=some (.lst us)→aj K H (ls.map dLn) us→(∀ y∈ls,LnV k n m y)→ls.length≤300→k≤100→b < ls.length→ai Ho H→Ho L=none→H L=some (.lst vs)→aj K H (ms.map dLn) vs→(∀ y∈ms,LnV k n m y)→ms.length≤2 * b+1 →
    (∀(H':Hp) (v6 v7:Option V) (vs:List V) (ms:List Ln),ai Ho H'→H' L=some (.lst vs)→aj K H' (ms.map dLn) vs→(∀ y∈ms,LnV k n m y)→ms.length≤2 * (b+1)→D.nx [some (.ref p),some (.ref a),some (.int at_),some v3,some (.ref L),some (.int ((0:Int)+(b:Int))),v6,v7] H') →
    t D [some (.ref p),some (.ref a),some (.int at_),some v3,some (.ref L),some (.int ((0:Int)+(b:Int))),v6,v7] H:=by
 refine⟨_,(af (aE (i:=6) zbI.nd rfl (Or.inl rfl) (ap zab (pv 1) (pv 5)))
    (af (aL (PW.pt (za2 (au zd1 (pv 5) (pv 2)) (za5 (au zaf (ap az (pv 6) ad) aU))))
     (af (aE (i:=7) zbI.nd rfl (Or.inr rfl) (aq zal (ao ar rfl T.len PySem.boot_len (aa (zae (pv 0) rfl) ac)) (pv 2)))
      (ah (aE (i:=6) zbI.nd rfl (Or.inl rfl) (aS (aa aU (aa (ap az (pv 6) ad) (aa (zar zaD rfl T.tuple PyProof.Rows.Boot.tuple (aa (zbQ (N':=["_law_hint","_law_behind"]) (ix:=[7]) rfl rfl (by decide +kernel) (by decide +kernel) rfl (λok=>zc4 (sc:=aw zbX) ok rfl (by decide +kernel) (by decide +kernel)) (by decide +kernel) rfl rfl (λj i h=>match j,h with | 0,h=>by cases h;exact⟨_,rfl,rfl,.inl rfl,.inl rfl⟩ | n+1,h=>by simp at h) (zaU (ap az (pv 6) ad)) (λ_ _ _ _=>(aq zal (pv 0) (zar zlh rfl TP.int PyProof.Rows.Boot.int (aa (zaI zd1 (pv 0) (pv 1)) ac))))) ac)) ac)))))))
     aA)
    (ah (zak (zbt PySem.F.plainAttrs_list PySem.F.slot_list_append PySem.F.type_list_append zaE (pv 4) (aa (pv 6) ac)))))),?_⟩
 try dsimp only [Cx.nox,Cx.wish,aV]
 intro D H Ho p tl al rl a L Tt As Rs at_ v3 v6 v7 us vs ls ms k b n m S ha hL lv l300 k100 hb so nL hLs g mv ml nx
 have ul:us.length=ls.length:=by rw[←hL.length,lM]
 have vl:vs.length=ms.length:=by rw[←g.length,lM]
 obtain⟨x,x1,x2⟩:=zbB (xs:=us) (i:=(0:Int)+(b:Int)) (by omega) (by omega)
 obtain⟨l,lq,pq,hq,hl,rfl,h1,h2,h3⟩:=zcH hL x1
 have lm:=lv l (mOq hl)
 have hxl:Has K H (dLn l) (.ref lq):=by
  obtain⟨d,e1,e2⟩:=hL.get x1
  rw[List.getElem?_map,hl]at e1
  cases e1
  exact e2
 refine⟨_,rfl,_,rfl,a,_,_,_,rfl,rfl,SqL.of ha,x2,?_⟩
 have fin:∀(H':Hp) (y:Ln) (x:V),ai H H'→Has K H' (dLn y) x→LnV k n m y→ai Ho (upd H' L (.lst (vs++[x])))∧aj K (upd H' L (.lst (vs++[x]))) ((ms++[y]).map dLn) (vs++[x])∧(∀ y'∈ms++[y],LnV k n m y')∧(ms++[y]).length≤2 * (b+1):=λH' y x s' hx hy=>by
  refine⟨(so.trans s').upd nL,HasLn.snoc (s' _ _ hLs) (g.keep s'.kt (zax _)) hx,λy' hy'=>?_,by rw[lAq,lS];omega⟩
  rcases mPq hy' with hy' | hy'
  ·exact mv y' hy'
  ·rw[mSq hy'];exact hy
 refine⟨_,rfl,_,rfl,_,_,rfl,rfl,_,rfl,aJ (λc1=>⟨_,rfl,lq,_,_,_,rfl,rfl,h1,aF (j:=0) rfl,rfl,_,rfl,aJ (λc2=>?_) (λc2=>?_)⟩) (λc1=>aY ?_)⟩
 ·cases l with
  | eql ps ls=>exact absurd (of_decide_eq_true c2) (show ¬V.str "equal"=V.str "learnt" by decide +kernel)
  | lrn ps hs =>
   obtain⟨⟨dx,ho⟩,_,_,⟨zs,hz,hZ⟩,_⟩:=id S.pr
   have h3':SqT K H hq (hs.map V.int):=h3
   have hl2:hs.length≤160:=by have:=lm.2;omega
   refine⟨_,rfl,p,C,dx,_,_,rfl,ho,T.cl,T.nR,zb0 _ _ _,rl,zs,rfl,.inl (SqL.of hz),_,rfl,_,_,rfl,rfl,?_⟩
   refine⟨_,rfl,lq,_,_,_,rfl,rfl,h1,aF (j:=1) rfl,_,rfl,lq,_,_,_,rfl,rfl,h1,aF (j:=2) rfl,hq,rfl,⟨_,h3'⟩,λM hM=>zbu zbl (λi ys H'=>ai H H'∧∃ ns:List Int,ys=ns.map V.int∧ns.length=i) (λi ys H' ⟨s1,_⟩=>s1.tup h3') ⟨ag hM _,[],rfl,rfl⟩ ?_ ?_⟩
   ·rintro i ys H8 z H4 hi hly hDs ⟨s4,ns,rfl,nl⟩ ⟨rfl,hx⟩
    obtain⟨h,hh,rfl⟩:=zaH (hx _ (s4.tup h3'))
    refine⟨_,rfl,_,rfl,_,rfl,_,_,rfl,rfl,.inr ⟨_,rfl,_,_,rfl,rfl,zaA (sz _ (by rw[lM];omega)) hi hly hDs ⟨s4.upd hM,ns++[_],by rw[mAq];rfl,by rw[lAq,lS,nl]⟩⟩⟩
   rintro ys H4 hDs ⟨s4,ns,rfl,nl⟩
   rw[lM]at nl
   refine⟨M,_,rfl,.inl ⟨SqL.of hDs,λt1 ht1=>⟨lS3,λt2 ht2=>?_⟩⟩⟩
   have s5:=ag ht1 (.tup (ns.map V.int))
   have n5:=ae (H:=H4) (a:=t1) (o:=.tup (ns.map V.int))
   have s6:=ag ht2 (.tup [.str "learnt",.ref pq,.ref t1])
   have n6:=ae (H:=upd H4 t1 (.tup (ns.map V.int))) (a:=t2) (o:=.tup [.str "learnt",.ref pq,.ref t1])
   have n5':=s6 _ _ n5
   have s06:=(s4.trans s5).trans s6
   generalize upd (upd H4 t1 (.tup (ns.map V.int))) t2 (.tup [.str "learnt",.ref pq,.ref t1])=H6 at n6 n5' s06
   have hL6:=s06 _ _ hLs
   obtain⟨f1,f2,f3,f4⟩:=fin H6 (.lrn ps ns) (.ref t2) s06 (zdw (SqT.of n6) (s06.tup h2) (SqT.of n5')) ⟨lm.1,by rw[nl];exact lm.2⟩
   exact⟨_,rfl,.inl ⟨rfl,_,SqL.of hL6⟩,_,rfl,L,_,_,rfl,rfl,hL6,zaC (by omega),nx _ _ _ _ _ f1 ae f2 f3 f4⟩
 all_goals
  obtain⟨f1,f2,f3,f4⟩:=fin H l (.ref lq) (ai.refl _) hxl lm
  exact⟨_,rfl,.inl ⟨rfl,_,SqL.of hLs⟩,_,rfl,L,_,_,rfl,rfl,hLs,zaC (by omega),nx _ _ _ _ _ f1 ae f2 f3 f4⟩
inductive zif (K:W.Frag) (C:Addr):Sp|m{vs H Q E9} (p tl al rl a:Addr) (T:List Tm) (As:List At) (Rs:List (List Int)) (at_:Int) (x:V) (us:List V) (ls:List Ln) (y:Ln) (k:Nat):vs=[.ref p,.ref a,.int at_,x]→PrD K C H p tl al rl T As Rs→H a=some (.lst us)→aj K H (ls.map dLn) us→(∀ y∈ls,LnV k T.length As.length y)→ls.length≤300→k≤100→Has K H (dLn y) x→LnV k T.length As.length y→(∀(H':Hp) (l:Addr) (us':List V) (ls':List Ln),ai H H'→H l=none→H' l=some (.lst us')→aj K H' (ls'.map dLn) us'→(∀ y∈ls',LnV k T.length As.length y)→ls'.length≤2 * ls.length→Q (.ref l) H')→zif K C vs H Q E9
theorem ok_put (F:Fun K "_law_put_in" "_law_put_in" zbX f fd) (T:Txt K mg aK C CN CT CP CM) (TP:TxP K mg):aI P w K mg base CX0 1 f fd ["_law_problem","_law_paper","_law_at","_law_again"] (zif K C):=by
 refine F.ok zbI (λvs H Q E h=>?_) (λcdv A outer s H vs Q E hr h=>?_)
 ·obtain⟨p,tl,al,rl,a,T',As,Rs,at_,x,us,ls,y,k,rfl,_⟩:=h
  rfl
 obtain⟨p,tl,al,rl,a,T',As,Rs,at_,x,us,ls,y,k,rfl,S,ha,hL,lv,l300,k100,hx,yv,Q0⟩:=h
 obtain⟨t1,h1,g1⟩:=put1 (P:=P) (w:=w) (base:=base) (f:=f) (cdv:=cdv) (A:=A) (outer:=outer) (s:=s) (H0:=H) (E:=E) T TP
 refine⟨_,(af (aE (i:=4) zbI.nd rfl (Or.inl rfl) (zag ac))
  (af (zah PassesOwn.never rfl (zaV rfl T.range (aa (ao ar rfl T.len PySem.boot_len (aa (pv 1) ac)) ac)) (zac (i:=5) zbI.nd rfl (Or.inl rfl))
   (af (aL (au zaf (pv 5) (pv 2))
     (ah (zak (zbt PySem.F.plainAttrs_list PySem.F.slot_list_append PySem.F.type_list_append zaE (pv 4) (aa (pv 3) ac))))
     aA) h1))
  (ah (ay (pv 4))))),?_⟩
 try dsimp only [Cx.nox,Cx.wish,aV]
 have ul:us.length=ls.length:=by rw[←hL.length,lM]
 refine⟨lS0,λL nL=>?_⟩
 have s1:=ag nL (.lst [])
 have n1:=ae (H:=H) (a:=L) (o:=.lst [])
 generalize upd H L (.lst [])=H1 at s1 n1
 refine⟨_,rfl,a,_,rfl,.inl (SqL.of (s1 _ _ ha)),_,rfl,by omega,by omega,zaL (lo:=0) (n:=(((us.length:Nat):Int)).toNat) (λi σ H'=>ai H H'∧∃(v5 v6 v7:Option V) (vs:List V) (ms:List Ln),σ=[some (.ref p),some (.ref a),some (.int at_),some x,some (.ref L),v5,v6,v7]∧H' L=some (.lst vs)∧aj K H' (ms.map dLn) vs∧(∀ y∈ms,LnV k T'.length As.length y)∧ms.length≤2 * i) ⟨s1,none,none,none,[],[],rfl,n1,.nil,(λy hy=>nomatch hy),nRq _⟩ ?_ ?_⟩
 ·rintro i σ H2 hi ⟨s2,v5,v6,v7,vs,ms,rfl,hL2,g2,mv,ml⟩
  have hi':i < ls.length:=by omega
  have vl:vs.length=ms.length:=by rw[←g2.length,lM]
  refine⟨_,rfl,_,rfl,rfl,_,rfl,aJ (λc=>?_) (λc=>?_)⟩
  ·refine⟨_,rfl,.inl ⟨rfl,_,SqL.of hL2⟩,_,rfl,L,_,_,rfl,rfl,hL2,zaC (by omega),?_⟩
   have kt:=zaw.lst (ys:=vs++[x]) hL2
   have s3:=s2.upd (o:=.lst (vs++[x])) nL
   refine g1 _ _ H p tl al rl a L T' As Rs at_ x v6 v7 us (vs++[x]) ls (ms++[y]) k i _ _ (S.same s3) (s3 _ _ ha) (hL.keep s3.kt (zax _)) lv l300 k100 hi' s3 nL ae (HasLn.snoc hL2 g2 (hx.keep s2.kt (zcR _))) (λy' hy'=>?_) (by rw[lAq,lS];omega) λH' v6 v7 vs' ms' s' h' g' mv' ml'=>⟨s',_,_,_,vs',ms',rfl,h',g',mv',ml'⟩
   rcases mPq hy' with hy' | hy'
   ·exact mv y' hy'
   ·rw[mSq hy'];exact yv
  ·exact g1 _ _ H p tl al rl a L T' As Rs at_ x v6 v7 us vs ls ms k i _ _ (S.same s2) (s2 _ _ ha) (hL.keep s2.kt (zax _)) lv l300 k100 hi' s2 nL hL2 g2 mv (by omega) λH' v6 v7 vs' ms' s' h' g' mv' ml'=>⟨s',_,_,_,vs',ms',rfl,h',g',mv',ml'⟩
 ·rintro σ H2 ⟨s2,v5,v6,v7,vs,ms,rfl,hL2,g2,mv,ml⟩
  exact⟨_,rfl,Q0 H2 L vs ms s2 nL hL2 g2 mv (by omega)⟩
def trV (h:Int):V:=if h < 2 then .bl (h != 0) else .int h
theorem trV_ib (h:Int):IB (trV h):=by
 unfold trV
 split
 ·exact .inr ⟨_,rfl⟩
 ·exact .inl ⟨_,rfl⟩
theorem zjg:∀ hs:List Int,(hs.map trV=hs.map V.int)∨(hs.map trV).all ze7=false
 | []=>.inl rfl
 | h :: hs=>by
  rcases zjg hs with e | e
  ·by_cases c:h < 2
   ·refine .inr ?_
    rw[List.map_cons,List.all_cons]
    have:ze7 (trV h)=false:=by unfold trV;rw[if_pos c];rfl
    rw[this,Bool.false_and]
   ·refine .inl ?_
    rw[List.map_cons,List.map_cons,e]
    congr 1
    unfold trV
    rw[if_neg c]
  ·refine .inr ?_
   rw[List.map_cons,List.all_cons,e,Bool.and_false]
inductive zfL (K:W.Frag):Sp|m{vs H Q E9} (x:V) (y:Ln) (n m:Nat):vs=[x]→Has K H (dLn y) x→LnW n m y→(∀(H':Hp) (o:Addr),ai H H'→(Has K H' (dLn y) (.ref o)∨zfa K H' (.ref o))→Q (.ref o) H')→zfL K vs H Q E9
theorem zdF:aO ["_law_line","_law_things"] ["_law_line"] (aw zdW):=fsc
theorem zkK (F:Fun K "_law_truths" "_law_truths" zdW f fd) (T:Txt K mg aK C CN CT CP CM) (TP:TxP K mg) (ti:W.kitOne K (.type "tuple") (.type "int")=some false):aI P w K mg base CX0 1 f fd ["_law_line"] (zfL K):=by
 refine F.ok zdF (λvs H Q E h=>?_) (λcdv A outer s H vs Q E hr h=>?_)
 ·obtain⟨x,y,n,m,rfl,_⟩:=h
  rfl
 obtain⟨x,y,n,m,rfl,hx,yw,Q0⟩:=h
 obtain⟨q,pq,hq,rfl,h1,h2,h3⟩:=ziw hx
 cases y with
 | lrn ps hs =>
  have h3':SqT K H hq (hs.map V.int):=h3
  refine⟨_,(af (zfm (i:=1) (N':=["_law_thing"]) (ix:=[]) zdF.nd rfl (Or.inl rfl) rfl rfl (by decide +kernel) (by decide +kernel) rfl (λ_=>⟨[],za3 (by decide +kernel) (by decide +kernel)⟩) (by decide +kernel) rfl rfl (λj i h=>by simp at h) (zaU (ap az (pv 0) ad)) (λ_ _ _ _=>(zfo (PW.pt (za2 (zaS (ao (r:=rIs K) zb5 rfl T.isi PyProof.Rows.Boot.isinstance (aa (pv 0) (aa (za7 (v:=.ty "int") rfl TP.int PyProof.Rows.Boot.int rfl) ac)))) (za5 (au zbR (pv 0) ad)))) (zar zhq rfl T.bool PyProof.Rows.Boot.bool (aa (pv 0) ac)) (pv 0))))
  (ah (ay (aS (aa (ap az (pv 0) ad) (aa (ap az (pv 0) ad) (aa (zar zaD rfl T.tuple PyProof.Rows.Boot.tuple (aa (pv 1) ac)) ac))))))),?_⟩
  try dsimp only [Cx.nox,Cx.wish,aV]
  refine⟨_,rfl,q,_,_,_,rfl,rfl,h1,aF (j:=2) rfl,hq,rfl,⟨_,h3'⟩,λM hM=>zbu zbl (λi ys H'=>ai H H'∧ys=(hs.take i).map trV) (λi ys H' ⟨s1,_⟩=>s1.tup h3') ⟨ag hM _,rfl⟩ ?_ ?_⟩
  ·rintro i ys H8 z H4 hi hly hDs ⟨s4,rfl⟩ ⟨rfl,hx⟩
   obtain⟨h,hh,rfl⟩:=zaH (hx _ (s4.tup h3'))
   have h100:=yw.2
   refine⟨_,rfl,_,.type "int","int",true,rfl,zb7.int _,zbp K "int",_,rfl,zao ⟨_,rfl,_,_,rfl,rfl,_,rfl,aJ (λc=>⟨_,rfl,.inl ⟨_,rfl,?_⟩⟩) (λc=>⟨_,rfl,?_⟩)⟩⟩
   ·refine zaA (sz _ (by rw[lM];omega)) hi hly hDs ⟨s4.upd hM,?_⟩
    rw[zan hh,mAq]
    congr 1
    show [_]=[trV h]
    unfold trV
    rw[if_pos (of_decide_eq_true c)]
   ·refine zaA (sz _ (by rw[lM];omega)) hi hly hDs ⟨s4.upd hM,?_⟩
    rw[zan hh,mAq]
    congr 1
    show [_]=[trV h]
    unfold trV
    rw[if_neg (λz=>c (decide_eq_true z))]
  rintro ys H4 hDs ⟨s4,rfl⟩
  rw[lM,List.take_length]at hDs
  refine⟨_,rfl,q,_,_,_,rfl,rfl,s4.tup h1,aF (j:=0) rfl,_,rfl,q,_,_,_,rfl,rfl,s4.tup h1,aF (j:=1) rfl,_,rfl,M,_,rfl,.inl ⟨SqL.of hDs,λt1 ht1=>⟨lS3,λt2 ht2=>?_⟩⟩⟩
  have s5:=ag ht1 (.tup (hs.map trV))
  have n5:=ae (H:=H4) (a:=t1) (o:=.tup (hs.map trV))
  have s6:=ag ht2 (.tup [.str "learnt",.ref pq,.ref t1])
  have n6:=ae (H:=upd H4 t1 (.tup (hs.map trV))) (a:=t2) (o:=.tup [.str "learnt",.ref pq,.ref t1])
  have s06:=(s4.trans s5).trans s6
  refine Q0 _ t2 s06 ?_
  rcases zjg hs with e | e
  ·rw[e]at n5
   refine .inl ?_
   rw[e]at s6 s06 n6 ⊢
   exact zdw (SqT.of n6) (s06.tup h2) (SqT.of (s6 _ _ n5))
  ·refine .inr ⟨t2,pq,t1,"learnt",rfl,SqT.of n6,.inr ⟨ps,s06.tup h2,yw.1,.inr (.inl ⟨rfl,_,SqT.of (s6 _ _ n5),?_,λv hv=>?_,e⟩)⟩⟩
   ·rw[lM]
    have:=yw.2
    omega
   ·obtain⟨h,_,rfl⟩:=List.mem_map.mp hv
    exact trV_ib h
 | eql ps lk =>
  obtain⟨xs,h3',hX⟩:∃ xs,SqT K H hq xs∧aj K H (lk.map dL) xs:=h3
  have xl:xs.length=lk.length:=by rw[←hX.length,lM]
  refine⟨_,(af (zfm (i:=1) (N':=["_law_thing"]) (ix:=[]) zdF.nd rfl (Or.inl rfl) rfl rfl (by decide +kernel) (by decide +kernel) rfl (λ_=>⟨[],za3 (by decide +kernel) (by decide +kernel)⟩) (by decide +kernel) rfl rfl (λj i h=>by simp at h) (zaU (ap az (pv 0) ad)) (λ_ _ _ _=>(zfo (PW.pt (za2 (zaS (ao (r:=rIsT K) zbi rfl T.isi PyProof.Rows.Boot.isinstance (aa (pv 0) (aa (za7 (v:=.ty "int") rfl TP.int PyProof.Rows.Boot.int rfl) ac)))) (za5 (au zbR (pv 0) ad)))) (zar zhq rfl T.bool PyProof.Rows.Boot.bool (aa (pv 0) ac)) (pv 0))))
  (ah (ay (aS (aa (ap az (pv 0) ad) (aa (ap az (pv 0) ad) (aa (zar zaD rfl T.tuple PyProof.Rows.Boot.tuple (aa (pv 1) ac)) ac))))))),?_⟩
  try dsimp only [Cx.nox,Cx.wish,aV]
  refine⟨_,rfl,q,_,_,_,rfl,rfl,h1,aF (j:=2) rfl,hq,rfl,⟨_,h3'⟩,λM hM=>zbu zbl (λi ys H'=>ai H H'∧ys=xs.take i) (λi ys H' ⟨s1,_⟩=>s1.tup h3') ⟨ag hM _,rfl⟩ ?_ ?_⟩
  ·rintro i ys H8 z H4 hi hly hDs ⟨s4,rfl⟩ ⟨rfl,hx⟩
   have hk:=hx _ (s4.tup h3')
   obtain⟨lk',b,hlk,rfl,hb⟩:=ziP hX hk
   have:=yw.2.1
   refine⟨_,rfl,b,_,"int",false,rfl,s4.tup hb,ti,_,rfl,aY (aY ⟨_,rfl,zaA (sz _ (by omega)) hi hly hDs ⟨s4.upd hM,?_⟩⟩)⟩
   rw[zan hk]
  rintro ys H4 hDs ⟨s4,rfl⟩
  rw[List.take_length]at hDs
  refine⟨_,rfl,q,_,_,_,rfl,rfl,s4.tup h1,aF (j:=0) rfl,_,rfl,q,_,_,_,rfl,rfl,s4.tup h1,aF (j:=1) rfl,_,rfl,M,_,rfl,.inl ⟨SqL.of hDs,λt1 ht1=>⟨lS3,λt2 ht2=>?_⟩⟩⟩
  have s5:=ag ht1 (.tup xs)
  have n5:=ae (H:=H4) (a:=t1) (o:=.tup xs)
  have s6:=ag ht2 (.tup [.str "equal",.ref pq,.ref t1])
  have n6:=ae (H:=upd H4 t1 (.tup xs)) (a:=t2) (o:=.tup [.str "equal",.ref pq,.ref t1])
  have s06:=(s4.trans s5).trans s6
  exact Q0 _ t2 s06 (.inl (zec (SqT.of n6) (s06.tup h2) (SqT.of (s6 _ _ n5)) (hX.keep s06.kt (zaJ _))))
def Lnx (K:W.Frag) (H:Hp) (d:Addr) (pv kv:List V):Prop:=∃ a b c:Addr,SqT K H d [.str "equal",.ref a,.ref c]∧SqT K H a pv∧SqT K H c [.ref b]∧SqT K H b kv
theorem Lnx.same {H H':Hp} {d:Addr} {pv kv:List V} (h:Lnx K H d pv kv) (s:ai H H'):Lnx K H' d pv kv:=by
 obtain⟨a,b,c,h1,h2,h3,h4⟩:=h
 exact⟨a,b,c,s.tup h1,s.tup h2,s.tup h3,s.tup h4⟩
theorem zeb {H:Hp} {a b c d:Addr} {pv kv:List V} (ha:H a=none) (hb:upd H a (.tup pv) b=none) (hc:upd (upd H a (.tup pv)) b (.tup kv) c=none) (hd:upd (upd (upd H a (.tup pv)) b (.tup kv)) c (.tup [.ref b]) d=none) :
  ai H (upd (upd (upd (upd H a (.tup pv)) b (.tup kv)) c (.tup [.ref b])) d (.tup [.str "equal",.ref a,.ref c]))∧Lnx K (upd (upd (upd (upd H a (.tup pv)) b (.tup kv)) c (.tup [.ref b])) d (.tup [.str "equal",.ref a,.ref c])) d pv kv:=by
 have s1:=ag ha (.tup pv)
 have n1:=ae (H:=H) (a:=a) (o:=.tup pv)
 have s2:=ag hb (.tup kv)
 have n2:=ae (H:=upd H a (.tup pv)) (a:=b) (o:=.tup kv)
 have s3:=ag hc (.tup [.ref b])
 have n3:=ae (H:=upd (upd H a (.tup pv)) b (.tup kv)) (a:=c) (o:=.tup [.ref b])
 have s4:=ag hd (.tup [.str "equal",.ref a,.ref c])
 exact⟨((s1.trans s2).trans s3).trans s4,a,b,c,SqT.of ae,SqT.of (s4 _ _ (s3 _ _ (s2 _ _ n1))),SqT.of (s4 _ _ n3),SqT.of (s4 _ _ (s3 _ _ n2))⟩
def GdX (K:W.Frag) (H:Hp) (n m:Nat) (x:V):Prop:=(∃ y,LnW n m y∧Has K H (dLn y) x)∨zfa K H x
theorem Lnx.good {H:Hp} {d:Addr} {ps:List Int} {lk:Lk} {n m:Nat} (h:Lnx K H d (ps.map V.int) [.int lk.1,.int lk.2.1,.int lk.2.2]) (pl:ps.length≤100) (li:zb2 n m lk):GdX K H n m (.ref d):=by
 obtain⟨a,b,c,h1,h2,h3,h4⟩:=h
 refine .inl ⟨.eql ps [lk],⟨pl,by show 1≤1000;decide,λl hl=>?_⟩,zec h1 h2 h3 (aj.one (Has.link h4))⟩
 rw[mSq hl]
 exact li
theorem Lnx.oddL {H:Hp} {d:Addr} {ps:List Int} {x y v:V} {n m:Nat} (h:Lnx K H d (ps.map V.int) [x,y,v]) (pl:ps.length≤100) (ix:IB x) (iy:IB y) (iv:IB v) (nv:ze7 v=false):GdX K H n m (.ref d):=by
 obtain⟨a,b,c,h1,h2,h3,h4⟩:=h
 exact .inr ⟨d,a,c,"equal",rfl,h1,.inr ⟨ps,h2,pl,.inr (.inr ⟨rfl,b,x,y,v,h3,h4,ix,iy,iv,nv⟩)⟩⟩
theorem Lnx.oddP {H:Hp} {d:Addr} {u:Bool} {kv:List V} {n m:Nat} (h:Lnx K H d [.bl u] kv):GdX K H n m (.ref d):=by
 obtain⟨a,b,c,h1,h2,h3,h4⟩:=h
 exact .inr ⟨d,a,c,"equal",rfl,h1,.inl ⟨u,h2⟩⟩
inductive zfQ (K:W.Frag) (C:Addr):Sp|m{vs H Q E9} (p tl al rl:Addr) (T:List Tm) (As:List At) (Rs:List (List Int)) (c:Int):vs=[.ref p,.int c]→PrD K C H p tl al rl T As Rs→1≤As.length→(∀(H':Hp) (x:V),ai H H'→GdX K H' T.length As.length x→Q x H')→zfQ K C vs H Q E9
abbrev NNe:List Str:=["_law_problem","_law_cell","_law_atom","_law_same","_law_one","_law_other","_law_nearly_here"]
theorem zbb:aO NNe ["_law_problem","_law_cell"] (aw zcl):=fsc
theorem near5 {cdv:Value} {A:Around} {outer:List Env} {s:Shared} {H0:Hp} {E:XK} :
  ∃ t,PSs (aV CX0 P w K mg base NNe "_law_nearly" (aw zcl) f cdv A outer s H0 E).nox ((zaR zcl).drop 7) t ∧
   ∀(D:zbT) (H:Hp) (v0 v3:V) (c k x y:Int) (nl d1 d2 d3 d4:Addr) (n m:Nat),H nl=some (.lst [.ref d1,.ref d2,.ref d3,.ref d4])→GdX K H n m (.ref d1)→GdX K H n m (.ref d2)→GdX K H n m (.ref d3)→GdX K H n m (.ref d4)→InR n x→InR n y→0≤k→k≤(m:Int) →
    (∀(H':Hp) (x:V),ai H H'→GdX K H' n m x→D.rt x H') →
    t D [some v0,some (.int c),some (.int k),some v3,some (.int x),some (.int y),some (.ref nl)] H:=by
 refine⟨_,(af (aE (i:=6) zbb.nd rfl (Or.inl rfl) (aq zaB (pv 6) (zag (aa (aS (aa aU (aa (aS (aa zam ac)) (aa (aS (aa (aS (aa (pv 4) (aa (pv 5) (aa ad ac)))) ac)) ac)))) (aa (aS (aa aU (aa (aS (aa (pv 2) (aa (pv 2) ac))) (aa (aS (aa (aS (aa (pv 4) (aa (pv 5) (aa ad ac)))) ac)) ac)))) ac)))))
  (ah (ay (ap zab (pv 6) (aq zad (pv 1) ad))))),?_⟩
 try dsimp only [Cx.nox,Cx.wish,aV]
 intro D H v0 v3 c k x y nl d1 d2 d3 d4 n m hn g1 g2 g3 g4 ix iy k0 k1 Q0
 refine⟨_,rfl,lS1,λa ha=>⟨_,rfl,_,rfl,lS3,λb hb=>⟨lS1,λe he=>⟨lS3,λd5 hd5=>?_⟩⟩⟩⟩
 obtain⟨s1,l5⟩:=zeb (K:=K) ha hb he hd5
 show(λH1:Hp=>_) (upd (upd (upd (upd H a (.tup [.bl true])) b (.tup [.int x,.int y,.int 0])) e (.tup [.ref b])) d5 (.tup [.str "equal",.ref a,.ref e]))
 generalize upd (upd (upd (upd H a (.tup [.bl true])) b (.tup [.int x,.int y,.int 0])) e (.tup [.ref b])) d5 (.tup [.str "equal",.ref a,.ref e])=H1 at s1 l5
 refine⟨_,rfl,_,rfl,lS2,λa2 ha2=>⟨_,rfl,_,rfl,lS3,λb2 hb2=>⟨lS1,λe2 he2=>⟨lS3,λd6 hd6=>?_⟩⟩⟩⟩
 obtain⟨s2,l6⟩:=zeb (K:=K) ha2 hb2 he2 hd6
 show(λH2:Hp=>_) (upd (upd (upd (upd H1 a2 (.tup [.int k,.int k])) b2 (.tup [.int x,.int y,.int 0])) e2 (.tup [.ref b2])) d6 (.tup [.str "equal",.ref a2,.ref e2]))
 generalize upd (upd (upd (upd H1 a2 (.tup [.int k,.int k])) b2 (.tup [.int x,.int y,.int 0])) e2 (.tup [.ref b2])) d6 (.tup [.str "equal",.ref a2,.ref e2])=H2 at s2 l6
 refine⟨lS2,λl7 hl7=>?_⟩
 have s3:=ag hl7 (.lst [.ref d5,.ref d6])
 have n3:=ae (H:=H2) (a:=l7) (o:=.lst [.ref d5,.ref d6])
 have s03:=(s1.trans s2).trans s3
 have l5':=l5.same (s2.trans s3)
 have l6':=l6.same s3
 generalize upd H2 l7 (.lst [.ref d5,.ref d6])=H3 at n3 s03 l5' l6'
 refine⟨nl,l7,_,_,rfl,rfl,s03 _ _ hn,n3,(by show 6≤sizeLine;decide),λo ho=>?_⟩
 have s4:=ag ho (.lst [V.ref d1,.ref d2,.ref d3,.ref d4,.ref d5,.ref d6])
 have n4:=ae (H:=H3) (a:=o) (o:=.lst [V.ref d1,.ref d2,.ref d3,.ref d4,.ref d5,.ref d6])
 have s04:=s03.trans s4
 have l5'':=l5'.same s4
 have l6'':=l6'.same s4
 show(λH4:Hp=>_) (upd H3 o (.lst [V.ref d1,.ref d2,.ref d3,.ref d4,.ref d5,.ref d6]))
 generalize upd H3 o (.lst [V.ref d1,.ref d2,.ref d3,.ref d4,.ref d5,.ref d6])=H4 at n4 s04 l5'' l6''
 have b6:=zbH c (show(0:Int) < 6 by decide)
 have gs:∀ {z:V},GdX K H n m z→GdX K H4 n m z:=λ{z} h=>by
  rcases h with ⟨y',w',h'⟩ | h'
  ·exact .inl ⟨y',w',h'.keep s04.kt (zcR _)⟩
  ·exact .inr (h'.same s04)
 have g5:GdX K H4 n m (.ref d5):=l5''.oddP
 have g6:GdX K H4 n m (.ref d6):=Lnx.good (ps:=[k,k]) (lk:=(x,y,0)) l6'' (by show 2≤100;decide) ⟨ix,iy,Int.le_refl _,by show(0:Int)≤(m:Int);omega⟩
 have fin:∀(j:Nat) (z:V),c % 6=(j:Int)→[V.ref d1,.ref d2,.ref d3,.ref d4,.ref d5,.ref d6][j]?=some z→GdX K H4 n m z→∃ v,atI [V.ref d1,.ref d2,.ref d3,.ref d4,.ref d5,.ref d6] (c % 6)=some v∧D.rt v H4:=λj z e h g=>⟨z,by rw[e];exact aF h,Q0 H4 z s04 g⟩
 have key:∃ v,atI [V.ref d1,.ref d2,.ref d3,.ref d4,.ref d5,.ref d6] (c % 6)=some v∧D.rt v H4:=by
  have:c % 6=0∨c % 6=1∨c % 6=2∨c % 6=3∨c % 6=4∨c % 6=5:=by omega
  rcases this with e | e | e | e | e | e
  ·exact fin 0 _ e rfl (gs g1)
  ·exact fin 1 _ e rfl (gs g2)
  ·exact fin 2 _ e rfl (gs g3)
  ·exact fin 3 _ e rfl (gs g4)
  ·exact fin 4 _ e rfl g5
  ·exact fin 5 _ e rfl g6
 obtain⟨v,k1',k2'⟩:=key
 exact⟨_,rfl,_,rfl,_,_,rfl,rfl,(by show(0:Int) < 6;decide),o,_,_,v,rfl,rfl,SqL.of n4,k1',k2'⟩
theorem zkR (F:Fun K "_law_nearly" "_law_nearly" zcl f fd) (T:Txt K mg aK C CN CT CP CM):aI P w K mg base CX0 1 f fd ["_law_problem","_law_cell"] (zfQ K C):=by
 refine F.ok zbb (λvs H Q E h=>?_) (λcdv A outer s H vs Q E hr h=>?_)
 ·obtain⟨p,tl,al,rl,T',As,Rs,c,rfl,_⟩:=h
  rfl
 obtain⟨p,tl,al,rl,T',As,Rs,c,rfl,S,a1,Q0⟩:=h
 obtain⟨t5,h5,g5⟩:=near5 (P:=P) (w:=w) (K:=K) (mg:=mg) (base:=base) (f:=f) (cdv:=cdv) (A:=A) (outer:=outer) (s:=s) (H0:=H) (E:=E)
 refine⟨_,(af (aE (i:=2) zbb.nd rfl (Or.inl rfl) (aq zal ad (aq zad (aq zau (pv 1) ad) (ao ar rfl T.len PySem.boot_len (aa (zae (pv 0) rfl) ac)))))
  (af (aE (i:=3) zbb.nd rfl (Or.inl rfl) (ap zab (zae (pv 0) rfl) (aq zbA (pv 2) ad)))
  (af (aL (au zcN (ap az (pv 3) ad) aU)
   (ah (ay (aS (aa aU (aa (aS (aa (pv 2) ac)) (aa (aS ac) ac))))))
   aA)
  (af (aE (i:=4) zbb.nd rfl (Or.inl rfl) (ap az (pv 3) ad))
  (af (aE (i:=5) zbb.nd rfl (Or.inl rfl) (ap az (pv 3) ad))
  (af (aE (i:=6) zbb.nd rfl (Or.inl rfl) (zag (aa (aS (aa aU (aa (aS (aa (pv 2) (aa (zbk za1 (pv 2)) ac))) (aa (aS (aa (aS (aa (pv 4) (aa (pv 5) (aa (pv 2) ac)))) ac)) ac)))) (aa (aS (aa aU (aa (aS (aa (pv 2) ac)) (aa (aS (aa (aS (aa (pv 4) (aa (pv 5) (aa (zbk za1 ad) ac)))) ac)) ac)))) ac))))
  (af (aE (i:=6) zbb.nd rfl (Or.inl rfl) (aq zaB (pv 6) (zag (aa (aS (aa aU (aa (aS (aa (pv 2) ac)) (aa (aS (aa (aS (aa (pv 4) (aa (pv 5) (aa (pv 2) ac)))) ac)) ac)))) (aa (aS (aa aU (aa (aS (aa (pv 2) ac)) (aa (aS (aa (aS (aa (pv 4) (aa (pv 5) (aa zam ac)))) ac)) ac)))) ac)))))
  h5))))))),?_⟩
 try dsimp only [Cx.nox,Cx.wish,aV]
 obtain⟨⟨dx,ho⟩,_,⟨ys,ha,hA⟩,_⟩:=id S.pr
 have yl:ys.length=As.length:=by rw[←hA.length,lM]
 have yp:(0:Int) < ((ys.length:Nat):Int):=by omega
 have bm:=zbH (c / 6) yp
 refine⟨_,rfl,_,_,rfl,rfl,⟨by decide,by decide⟩,_,rfl,p,C,dx,_,_,rfl,ho,T.cl,T.nA,zai _ _ _,al,ys,rfl,.inl (SqL.of ha),_,_,rfl,rfl,yp,_,_,rfl,rfl,?_⟩
 show zda 2 (V.int (1+c / 6 % ((ys.length:Nat):Int))) _ _ _
 generalize ek:1+c / 6 % ((ys.length:Nat):Int)=k
 obtain⟨v,x1,x2⟩:=zbB (xs:=ys) (i:=k - 1) (by omega) (by omega)
 obtain⟨d,e1,e2⟩:=hA.get x1
 rw[List.getElem?_map]at e1
 obtain⟨at_,e3,rfl⟩:=Option.map_eq_some_iff.mp e1
 have am:=mOq e3
 refine⟨_,rfl,p,C,dx,_,_,rfl,ho,T.cl,T.nA,zai _ _ _,_,rfl,_,_,rfl,rfl,al,_,_,_,rfl,rfl,SqL.of ha,x2,?_⟩
 cases at_ with
 | plain z =>
  obtain⟨q,rfl,hq⟩:=zce e2
  refine⟨_,rfl,q,_,_,_,rfl,rfl,hq,aF (j:=0) rfl,rfl,_,rfl,aJ (λ_=>?_) (λcc=>absurd (by decide +kernel) cc)⟩
  refine⟨_,rfl,lS1,λa ha'=>⟨lS0,λb hb=>⟨lS3,λo ho'=>?_⟩⟩⟩
  have s1:=ag ha' (.tup [.int k])
  have n1:=ae (H:=H) (a:=a) (o:=.tup [.int k])
  have s2:=ag hb (.tup [])
  have n2:=ae (H:=upd H a (.tup [.int k])) (a:=b) (o:=.tup [])
  have s3:=ag ho' (.tup [.str "equal",.ref a,.ref b])
  exact Q0 _ _ ((s1.trans s2).trans s3) (.inl ⟨.eql [k] [],⟨by show 1≤100;decide,by show 0≤1000;decide,λl hl=>nomatch hl⟩,zec (SqT.of ae) (SqT.of (s3 _ _ (s2 _ _ n1))) (SqT.of (s3 _ _ n2)) .nil⟩)
 | same x y =>
  obtain⟨q,rfl,hq⟩:=zcG e2
  obtain⟨ix,iy⟩:=S.dm.am x y am
  refine⟨_,rfl,q,_,_,_,rfl,rfl,hq,aF (j:=0) rfl,rfl,_,rfl,aJ (λcc=>absurd cc (by decide +kernel)) (λ_=>?_)⟩
  refine⟨_,rfl,q,_,_,_,rfl,rfl,hq,aF (j:=1) rfl,?_⟩
  refine⟨_,rfl,q,_,_,_,rfl,rfl,hq,aF (j:=2) rfl,?_⟩
  refine⟨_,rfl,_,rfl,_,rfl,lS2,λa ha1=>⟨_,rfl,_,rfl,_,rfl,lS3,λb hb=>⟨lS1,λe he=>⟨lS3,λd1 hd1=>?_⟩⟩⟩⟩
  obtain⟨s1,l1⟩:=zeb (K:=K) ha1 hb he hd1
  show(λH1:Hp=>_) (upd (upd (upd (upd H a (.tup [.int k,.int (-k)])) b (.tup [.int x,.int y,.int k])) e (.tup [.ref b])) d1 (.tup [.str "equal",.ref a,.ref e]))
  generalize upd (upd (upd (upd H a (.tup [.int k,.int (-k)])) b (.tup [.int x,.int y,.int k])) e (.tup [.ref b])) d1 (.tup [.str "equal",.ref a,.ref e])=H1 at s1 l1
  refine⟨_,rfl,lS1,λa2 ha2=>⟨_,rfl,_,rfl,_,rfl,lS3,λb2 hb2=>⟨lS1,λe2' he2=>⟨lS3,λd2 hd2=>?_⟩⟩⟩⟩
  obtain⟨s2,l2⟩:=zeb (K:=K) ha2 hb2 he2 hd2
  show(λH2:Hp=>_) (upd (upd (upd (upd H1 a2 (.tup [.int k])) b2 (.tup [.int x,.int y,.int (-1)])) e2' (.tup [.ref b2])) d2 (.tup [.str "equal",.ref a2,.ref e2']))
  generalize upd (upd (upd (upd H1 a2 (.tup [.int k])) b2 (.tup [.int x,.int y,.int (-1)])) e2' (.tup [.ref b2])) d2 (.tup [.str "equal",.ref a2,.ref e2'])=H2 at s2 l2
  refine⟨lS2,λnl hnl=>?_⟩
  have s3:=ag hnl (.lst [.ref d1,.ref d2])
  have n3:=ae (H:=H2) (a:=nl) (o:=.lst [.ref d1,.ref d2])
  have s03:=(s1.trans s2).trans s3
  have l1:=l1.same (s2.trans s3)
  have l2:=l2.same s3
  show(λH3:Hp=>_) (upd H2 nl (.lst [.ref d1,.ref d2]))
  generalize upd H2 nl (.lst [.ref d1,.ref d2])=H3 at n3 s03 l1 l2
  refine⟨_,rfl,_,rfl,lS1,λa3 ha3=>⟨_,rfl,_,rfl,_,rfl,lS3,λb3 hb3=>⟨lS1,λe3' he3=>⟨lS3,λd3 hd3=>?_⟩⟩⟩⟩
  obtain⟨s4,l3⟩:=zeb (K:=K) ha3 hb3 he3 hd3
  show(λH4:Hp=>_) (upd (upd (upd (upd H3 a3 (.tup [.int k])) b3 (.tup [.int x,.int y,.int k])) e3' (.tup [.ref b3])) d3 (.tup [.str "equal",.ref a3,.ref e3']))
  generalize upd (upd (upd (upd H3 a3 (.tup [.int k])) b3 (.tup [.int x,.int y,.int k])) e3' (.tup [.ref b3])) d3 (.tup [.str "equal",.ref a3,.ref e3'])=H4 at s4 l3
  refine⟨_,rfl,lS1,λa4 ha4=>⟨_,rfl,_,rfl,lS3,λb4 hb4=>⟨lS1,λe4' he4=>⟨lS3,λd4 hd4=>?_⟩⟩⟩⟩
  obtain⟨s5,l4⟩:=zeb (K:=K) ha4 hb4 he4 hd4
  show(λH5:Hp=>_) (upd (upd (upd (upd H4 a4 (.tup [.int k])) b4 (.tup [.int x,.int y,.bl false])) e4' (.tup [.ref b4])) d4 (.tup [.str "equal",.ref a4,.ref e4']))
  generalize upd (upd (upd (upd H4 a4 (.tup [.int k])) b4 (.tup [.int x,.int y,.bl false])) e4' (.tup [.ref b4])) d4 (.tup [.str "equal",.ref a4,.ref e4'])=H5 at s5 l4
  refine⟨lS2,λm2 hm2=>?_⟩
  have s6:=ag hm2 (.lst [.ref d3,.ref d4])
  have n6:=ae (H:=H5) (a:=m2) (o:=.lst [.ref d3,.ref d4])
  have s36:=(s4.trans s5).trans s6
  have l3:=l3.same (s5.trans s6)
  have l4:=l4.same s6
  generalize upd H5 m2 (.lst [.ref d3,.ref d4])=H6 at n6 s36 l3 l4
  refine⟨nl,m2,_,_,rfl,rfl,s36 _ _ n3,n6,lS4,λo ho'=>?_⟩
  have s7:=ag ho' (.lst [V.ref d1,.ref d2,.ref d3,.ref d4])
  have n7:=ae (H:=H6) (a:=o) (o:=.lst [V.ref d1,.ref d2,.ref d3,.ref d4])
  have s37:=s36.trans s7
  have l1:=l1.same s37
  have l2:=l2.same s37
  have l3:=l3.same s7
  have l4:=l4.same s7
  have s07:=s03.trans s37
  show(λH7:Hp=>_) (upd H6 o (.lst [V.ref d1,.ref d2,.ref d3,.ref d4]))
  generalize upd H6 o (.lst [V.ref d1,.ref d2,.ref d3,.ref d4])=H7 at n7 s07 l1 l2 l3 l4
  have lkk:zb2 T'.length As.length (x,y,k):=⟨ix,iy,by show 0≤k;omega,by show k≤_;omega⟩
  exact g5 _ H7 _ _ c k x y o d1 d2 d3 d4 T'.length As.length n7 (Lnx.good (ps:=[k,-k]) (lk:=(x,y,k)) l1 (by show 2≤100;decide) lkk) (Lnx.oddL (ps:=[k]) l2 (by show 1≤100;decide) (.inl ⟨_,rfl⟩) (.inl ⟨_,rfl⟩) (.inl ⟨_,rfl⟩) rfl) (Lnx.good (ps:=[k]) (lk:=(x,y,k)) l3 (by show 1≤100;decide) lkk) (Lnx.oddL (ps:=[k]) l4 (by show 1≤100;decide) (.inl ⟨_,rfl⟩) (.inl ⟨_,rfl⟩) (.inr ⟨_,rfl⟩) rfl) ix iy (by omega) (by omega) λH' x' s' g'=>Q0 H' x' (s07.trans s') g'
theorem zjl {H:Hp} {q:Addr} {xs:List V} {lo hi:Option Int} {Q:VK} (h:SqT K H q xs) (k:∀(H':Hp) (r:Addr),ai H H'→SqT K H' r (aQ xs lo hi)→Q (.ref r) H'):rSlTA K (.ref q) lo hi H Q:=by
 by_cases c:HT.sIx xs.length 0 lo=0∧HT.sIx xs.length xs.length hi=xs.length
 ·refine .inr ⟨q,xs,rfl,h,c,k H q (ai.refl _) ?_⟩
  unfold aQ
  rw[c.1,c.2,Nat.sub_zero,List.drop_zero,List.take_length]
  exact h
 ·exact .inl ⟨q,xs,rfl,h,c,λp hp=>k _ p (ag hp _) (SqT.of ae)⟩
inductive zig (K:W.Frag) (C:Addr):Sp|m{vs H Q E9} (p tl al rl:Addr) (T:List Tm) (As:List At) (Rs:List (List Int)) (x:V) (y:Ln) (mn c:Int) (k:Nat):vs=[.ref p,x,.int mn,.int c]→PrD K C H p tl al rl T As Rs→1≤T.length→1≤As.length→As.length≤20→0≤mn→Has K H (dLn y) x→LnV k T.length As.length y→k≤2→(∀(H':Hp) (o:Addr) (y':Ln),ai H H'→Has K H' (dLn y') (.ref o)→LnV (k+1) T.length As.length y'→Q (.ref o) H')→zig K C vs H Q E9
theorem zcu:aO ["_law_problem","_law_line","_law_many","_law_cell","_law_part","_law_bonds"] ["_law_problem","_law_line","_law_many","_law_cell"] (aw zcM):=fsc
theorem ok_lsp (F:Fun K "_law_line_spoilt" "_law_line_spoilt" zcM f fd) (T:Txt K mg aK C CN CT CP CM) (TP:TxP K mg) (BH:FB P w K mg base CX0 1 "_law_spoilt" fH dH ["_law_hints_here","_law_many","_law_cell"] Ls36.sp_spoilt) (BL:FB P w K mg base CX0 2 "_law_links_spoilt" fL dL' ["_law_problem","_law_parts","_law_bonds","_law_cell"] (sp_spoilt K C)):aI P w K mg base CX0 3 f fd ["_law_problem","_law_line","_law_many","_law_cell"] (zig K C):=by
 refine F.ok zcu (λvs H Q E h=>?_) (λcdv A outer s H vs Q E hr h=>?_)
 ·obtain⟨p,tl,al,rl,T',As,Rs,x,y,mn,c,k,rfl,_⟩:=h
  rfl
 obtain⟨p,tl,al,rl,T',As,Rs,x,y,mn,c,k,rfl,S,t1,a1,a20,mn0,hx,yv,k2,Q0⟩:=h
 have hr1:zaq 1 _:=hr.mono (by decide)
 refine⟨_,(af (aL (au zaf (ap az (pv 1) ad) aU)
   (af (aL (au zaf (aq zad (pv 3) ad) ad)
     (ah (ay (aS (aa aU (aa (ap az (pv 1) ad) (aa (zar zaD rfl T.tuple PyProof.Rows.Boot.tuple (aa (aB BH.ok hr1 rfl BH.m BH.kp BH.b .nil aR (aa (zar zdq rfl TP.list PyProof.Rows.Boot.list (aa (ap az (pv 1) ad) ac)) (aa (pv 2) (aa (aq zau (pv 3) ad) ac)))) ac)) ac))))))
     aA)
    (af (aE (i:=4) zcu.nd rfl (Or.inl rfl) (aq zal ad (aq zad (aq zau (pv 3) ad) (ao ar rfl T.len PySem.boot_len (aa (zae (pv 0) rfl) ac)))))
    (af (aL (PW.pt (za2 (au zaf (aq zad (pv 3) ad) ad) (za2 (au zbO (pv 4) (ap az (pv 1) ad) rfl) (za5 (au zbO (zbk za1 (pv 4)) (ap az (pv 1) ad) rfl)))))
     (ah (ay (aS (aa aU (aa (aq zjt (ap az (pv 1) ad) (aS (aa (pv 4) ac))) (aa (ap az (pv 1) ad) ac))))))
     aA)
    (ah (ay (aS (aa aU (aa (zaj zjh (ap az (pv 1) ad) (zas ad) zat) (aa (ap az (pv 1) ad) ac)))))))))
   aA)
  (af (aL (au zaf (aq zad (pv 3) ad) ad)
   (ah (ay (aS (aa aU (aa (zaj zjh (ap az (pv 1) ad) zat (zas (zbk za1 ad))) (aa (ap az (pv 1) ad) ac))))))
   aA)
  (af (aE (i:=5) zcu.nd rfl (Or.inl rfl) (aB BL.ok hr rfl BL.m BL.kp BL.b .nil aR (aa (pv 0) (aa (ap az (pv 1) ad) (aa (zar zdq rfl TP.list PyProof.Rows.Boot.list (aa (ap az (pv 1) ad) ac)) (aa (aq zau (pv 3) ad) ac))))))
  (ah (ay (aS (aa aU (aa (ap az (pv 1) ad) (aa (zar zaD rfl T.tuple PyProof.Rows.Boot.tuple (aa (pv 5) ac)) ac))))))))),?_⟩
 try dsimp only [Cx.nox,Cx.wish,aV]
 obtain⟨⟨dx,ho⟩,_,⟨ys,ha,hA⟩,_⟩:=id S.pr
 have yl:ys.length=As.length:=by rw[←hA.length,lM]
 have yp:(0:Int) < ((ys.length:Nat):Int):=by omega
 obtain⟨q,pq,hq,rfl,h1,h2,h3⟩:=ziw hx
 have b1:atI [V.str (kdL y),.ref pq,.ref hq] 1=some (.ref pq):=aF (j:=1) rfl
 have b2:atI [V.str (kdL y),.ref pq,.ref hq] 2=some (.ref hq):=aF (j:=2) rfl
 cases y with
 | lrn ps hs =>
  have h3':SqT K H hq (hs.map V.int):=h3
  have h2':SqT K H pq (ps.map V.int):=h2
  have hp:=yv.1
  have hh:=yv.2
  refine⟨_,rfl,q,_,_,_,rfl,rfl,h1,aF (j:=0) rfl,rfl,_,rfl,aJ (λ_=>?_) (λc=>absurd (decide_eq_true rfl) c)⟩
  refine⟨_,rfl,_,_,rfl,rfl,(by show(0:Int) < 3;decide),rfl,_,rfl,aJ (λ_=>?_) (λ_=>?_)⟩
  ·refine⟨_,rfl,q,_,_,_,rfl,rfl,h1,b1,_,rfl,q,_,_,_,rfl,rfl,h1,b2,hq,_,rfl,.inr h3',λl hl=>?_⟩
   have s1:=ag hl (.lst (hs.map V.int))
   have n1:=ae (H:=H) (a:=l) (o:=.lst (hs.map V.int))
   obtain⟨N,rfl⟩:=Int.eq_ofNat_of_zero_le mn0
   refine⟨_,rfl,_,rfl,_,_,rfl,rfl,⟨by decide,by decide⟩,l,hs,N,_,rfl,n1,(λ_ _=>trivial),by omega,λH2 l' hs' s2 hl' _ len'=>?_⟩
   refine⟨l',_,rfl,.inl ⟨SqL.of hl',λu1 hu1=>⟨lS3,λu2 hu2=>?_⟩⟩⟩
   have s3:=ag hu1 (.tup (hs'.map V.int))
   have n3:=ae (H:=H2) (a:=u1) (o:=.tup (hs'.map V.int))
   have s4:=ag hu2 (.tup [.str "learnt",.ref pq,.ref u1])
   have s04:=((s1.trans s2).trans s3).trans s4
   exact Q0 _ u2 (.lrn ps hs') s04 (zdw (SqT.of ae) (s04.tup h2') (SqT.of (s4 _ _ n3))) ⟨by omega,by omega⟩
  have bm:=zbH (c / 3) yp
  refine⟨_,rfl,_,_,rfl,rfl,⟨by decide,by decide⟩,_,rfl,p,C,dx,_,_,rfl,ho,T.cl,T.nA,zai _ _ _,al,ys,rfl,.inl (SqL.of ha),_,_,rfl,rfl,yp,_,_,rfl,rfl,?_⟩
  dsimp only [zda]
  refine zed (λn hn=>⟨_,rfl,_,_,rfl,rfl,(by show(0:Int) < 3;decide),rfl,_,rfl,aJ (λ_=>⟨_,rfl,_,rfl,q,_,_,_,rfl,rfl,h1,b1,pq,_,rfl,.inr h2',rfl,zdi _,_,rfl,aJ (λ_=>⟨_,rfl,_,rfl,_,rfl,q,_,_,_,rfl,rfl,h1,b1,pq,_,rfl,.inr h2',rfl,zdi _,_,rfl,aJ (λ_=>?_) (λ_=>hn)⟩) (λ_=>aY hn)⟩) (λ_=>aY hn)⟩) ?_
  ·refine⟨_,rfl,q,_,_,_,rfl,rfl,h1,b1,_,rfl,lS1,λu hu=>?_⟩
   have s1:=ag hu (.tup [.int (1+c / 3 % ((ys.length:Nat):Int))])
   have n1:=ae (H:=H) (a:=u) (o:=.tup [.int (1+c / 3 % ((ys.length:Nat):Int))])
   refine⟨pq,u,_,_,rfl,rfl,s1.tup h2',SqT.of n1,sz _ (by rw[lM];show ps.length+1≤1000;omega),λH2 r s2 hr'=>?_⟩
   have s02:=s1.trans s2
   refine⟨_,rfl,q,_,_,_,rfl,rfl,s02.tup h1,b2,lS3,λo ho'=>?_⟩
   have s3:=ag ho' (.tup [.str "learnt",.ref r,.ref hq])
   have s03:=s02.trans s3
   have er:ps.map V.int++[V.int (1+c / 3 % ((ys.length:Nat):Int))]=(ps++[(1+c / 3 % ((ys.length:Nat):Int))]).map V.int:=by rw[mAq];rfl
   rw[er]at hr'
   exact Q0 _ o (.lrn (ps++[(1+c / 3 % ((ys.length:Nat):Int))]) hs) s03 (zdw (SqT.of ae) (s3.tup hr') (s03.tup h3')) ⟨by rw[lAq,lS];omega,by omega⟩
  all_goals
   refine⟨_,rfl,q,_,_,_,rfl,rfl,h1,b1,_,rfl,zjl h2' λH2 r s2 hr'=>?_⟩
   obtain⟨ms,em,ml,_⟩:=cutIs ps (some 1) none
   rw[em]at hr'
   refine⟨_,rfl,q,_,_,_,rfl,rfl,s2.tup h1,b2,lS3,λo ho'=>?_⟩
   have s3:=ag ho' (.tup [.str "learnt",.ref r,.ref hq])
   have s03:=s2.trans s3
   exact Q0 _ o (.lrn ms hs) s03 (zdw (SqT.of ae) (s3.tup hr') (s03.tup h3')) ⟨by omega,by omega⟩
 | eql ps ls =>
  obtain⟨xs,h3',hX⟩:∃ xs,SqT K H hq xs∧aj K H (ls.map dL) xs:=h3
  have h2':SqT K H pq (ps.map V.int):=h2
  obtain⟨p20,pin,l8,lin⟩:=yv
  have pw2:2 ^ k≤2 ^ 2:=Nat.pow_le_pow_right (by decide) k2
  refine⟨_,rfl,q,_,_,_,rfl,rfl,h1,aF (j:=0) rfl,rfl,_,rfl,aJ (λc=>absurd (of_decide_eq_true c) (show ¬V.str "equal"=V.str "learnt" by decide +kernel)) (λ_=>?_)⟩
  refine⟨_,rfl,_,_,rfl,rfl,(by show(0:Int) < 3;decide),rfl,_,rfl,aJ (λ_=>?_) (λ_=>?_)⟩
  ·refine⟨_,rfl,q,_,_,_,rfl,rfl,h1,b1,_,rfl,_,rfl,zjl h2' λH2 r s2 hr'=>?_⟩
   obtain⟨ms,em,ml,mm⟩:=cutIs ps none (some (-1))
   rw[em]at hr'
   refine⟨_,rfl,q,_,_,_,rfl,rfl,s2.tup h1,b2,lS3,λo ho'=>?_⟩
   have s3:=ag ho' (.tup [.str "equal",.ref r,.ref hq])
   have s03:=s2.trans s3
   exact Q0 _ o (.eql ms ls) s03 (zec (SqT.of ae) (s3.tup hr') (s03.tup h3') (hX.keep s03.kt (zaJ _))) ⟨by omega,λz hz=>pin z (mm z hz),by rw[Nat.pow_succ];omega,lin⟩
  ·refine⟨_,rfl,_,rfl,q,_,_,_,rfl,rfl,h1,b1,_,rfl,q,_,_,_,rfl,rfl,h1,b2,hq,_,rfl,.inr h3',λl hl=>?_⟩
   have s1:=ag hl (.lst xs)
   have n1:=ae (H:=H) (a:=l) (o:=.lst xs)
   have g1:=hX.keep s1.kt (zaJ _)
   have S1:=S.same s1
   show(λH1:Hp=>_) (upd H l (.lst xs))
   generalize upd H l (.lst xs)=H1 at s1 n1 g1 S1
   refine⟨_,rfl,_,_,rfl,rfl,⟨by decide,by decide⟩,p,tl,al,rl,pq,l,T',As,Rs,ps,_,xs,ls,rfl,S1,.inr (s1.tup h2'),pin,t1,by omega,n1,g1,lin,by omega,λH2 l' us' ls' s2 _ hl' g' lin' len'=>?_⟩
   have s02:=s1.trans s2
   refine⟨_,rfl,q,_,_,_,rfl,rfl,s02.tup h1,b1,_,rfl,l',_,rfl,.inl ⟨SqL.of hl',λu1 hu1=>⟨lS3,λu2 hu2=>?_⟩⟩⟩
   have s3:=ag hu1 (.tup us')
   have n3:=ae (H:=H2) (a:=u1) (o:=.tup us')
   have s4:=ag hu2 (.tup [.str "equal",.ref pq,.ref u1])
   have s04:=(s02.trans s3).trans s4
   exact Q0 _ u2 (.eql ps ls') s04 (zec (SqT.of ae) (s04.tup h2') (SqT.of (s4 _ _ n3)) (g'.keep (s3.trans s4).kt (zaJ _))) ⟨p20,pin,by rw[Nat.pow_succ];omega,lin'⟩
theorem zgm {H:Hp} {ls:List Ln} {us:List V} (h:aj K H (ls.map dLn) us) (lo hi:Option Int):∃ ls':List Ln,aj K H (ls'.map dLn) (aQ us lo hi)∧ls'.length≤ls.length∧∀ l∈ls',l∈ls:=by
 unfold aQ
 refine⟨_,by have:=aj.takeD (HT.sIx us.length us.length hi - HT.sIx us.length 0 lo) (aj.dropD (HT.sIx us.length 0 lo) h);rw[←List.map_drop,←List.map_take]at this;exact this,?_,λl hl=>List.mem_of_mem_drop (List.mem_of_mem_take hl)⟩
 rw[List.length_take,List.length_drop]
 omega
def PapE (K:W.Frag) (H:Hp) (n m:Nat) (us:List V):Prop:=(∃ ls:List Ln,aj K H (ls.map dLn) us∧(∀ y∈ls,LnW n m y)∧ls.length≤300)∨OddP K H n m us
def ze9 (K:W.Frag) (H:Hp) (n m k:Nat) (us:List V):Prop:=∃ ls:List Ln,aj K H (ls.map dLn) us∧(∀ y∈ls,LnV k n m y)∧ls.length+1≤20 * 2 ^ k
theorem ze9.same {H H':Hp} {n m k:Nat} {us:List V} (h:ze9 K H n m k us) (s:ai H H'):ze9 K H' n m k us:=by
 obtain⟨ls,g,v,l⟩:=h
 exact⟨ls,g.keep s.kt (zax _),v,l⟩
theorem ze9.e {H:Hp} {n m k:Nat} {us:List V} (h:ze9 K H n m k us) (hk:k≤3):PapE K H n m us:=by
 obtain⟨ls,g,v,l⟩:=h
 have:2 ^ k≤2 ^ 3:=Nat.pow_le_pow_right (by decide) hk
 exact .inl ⟨ls,g,λy hy=>(v y hy).lw hk,by omega⟩
theorem wd_at {i:Int} (h0:0≤i) (h1:i < 7):∃ z:Str,atI [V.str "learn",.str "learnts",.str "l",.str "equals",.str "e",.str "Equal",.str ""] i=some (.str z)∧z≠"learnt"∧z≠"equal":=by
 obtain⟨x,x1,x2⟩:=zbB (xs:=[V.str "learn",.str "learnts",.str "l",.str "equals",.str "e",.str "Equal",.str ""]) h0 h1
 have m:=mOq x1
 simp only[List.mem_cons,List.not_mem_nil,or_false]at m
 rcases m with rfl | rfl | rfl | rfl | rfl | rfl | rfl <;> exact⟨_,x2,by decide +kernel,by decide +kernel⟩
theorem zmx {H:Hp} {ls:List Ln} {us vs:List V} {x:V} {n m k:Nat} {lo hi:Option Int} (h:aj K H (ls.map dLn) us) (lv:∀ y∈ls,LnV k n m y) (k3:k≤3) (l300:ls.length≤300) (ox:zfa K H x):OddP K H n m (aQ us lo hi++[x]++vs):=by
 obtain⟨ls',g,gl,gm⟩:=zgm h lo hi
 refine⟨(aQ us lo hi).length,x,ls',?_,ox,?_,by omega,λy hy=>(lv y (gm y hy)).lw k3⟩
 ·rw[List.append_assoc,List.getElem?_append_right (nRq _),Nat.sub_self]
  rfl
 ·rw[List.append_assoc,List.take_left]
  exact g
theorem ziQ {H:Hp} {ls:List Ln} {us:List V} {x:V} {y:Ln} {lo hi lo' hi':Option Int} (h:aj K H (ls.map dLn) us) (hx:Has K H (dLn y) x):∃ ls':List Ln,aj K H (ls'.map dLn) (aQ us lo hi++[x]++aQ us lo' hi')∧ls'.length≤2 * ls.length+1∧∀ z∈ls',z=y∨z∈ls:=by
 obtain⟨l1,g1,gl1,gm1⟩:=zgm h lo hi
 obtain⟨l2,g2,gl2,gm2⟩:=zgm h lo' hi'
 refine⟨l1++[y]++l2,?_,?_,λz hz=>?_⟩
 ·rw[mAq,mAq]
  exact aj.append (aj.append g1 (aj.one hx)) g2
 ·rw[lAq,lAq,lS]
  omega
 ·rcases mPq hz with hz | hz
  ·rcases mPq hz with hz | hz
   ·exact .inr (gm1 z hz)
   ·exact .inl (mSq hz)
  ·exact .inr (gm2 z hz)
inductive zg9 (K:W.Frag) (C:Addr):Sp|m{vs H Q E9} (p tl al rl a:Addr) (T:List Tm) (As:List At) (Rs:List (List Int)) (c:Int) (us:List V) (k:Nat):vs=[.ref p,.ref a,.int c]→PrD K C H p tl al rl T As Rs→1≤T.length→1≤As.length→As.length≤20→H a=some (.lst us)→ze9 K H T.length As.length k us→k≤2→(∀(H':Hp) (l:Addr) (us':List V),ai H H'→H' l=some (.lst us')→(ze9 K H' T.length As.length (k+1) us'∨((3≤c % 9∧c % 9≤6)∧PapE K H' T.length As.length us'))→Q (.ref l) H')→zg9 K C vs H Q E9
theorem zaP:aO ["_law_problem","_law_paper","_law_cell","_law_at","_law_rest","_law_line","_law_word"] ["_law_problem","_law_paper","_law_cell"] (aw zcv):=fsc
theorem ok_psp (F:Fun K "_law_paper_spoilt" "_law_paper_spoilt" zcv f fd) (T:Txt K mg aK C CN CT CP CM) (BS:FB P w K mg base CX0 3 "_law_line_spoilt" fS dS ["_law_problem","_law_line","_law_many","_law_cell"] (zig K C)) (BN:FB P w K mg base CX0 1 "_law_nearly" fN dN ["_law_problem","_law_cell"] (zfQ K C)) (BT:FB P w K mg base CX0 1 "_law_truths" fT dT' ["_law_line"] (zfL K)) (BP:FB P w K mg base CX0 1 "_law_put_in" fP dP' ["_law_problem","_law_paper","_law_at","_law_again"] (zif K C)):aI P w K mg base CX0 4 f fd ["_law_problem","_law_paper","_law_cell"] (zg9 K C):=by
 refine F.ok zaP (λvs H Q E h=>?_) (λcdv A outer s H vs Q E hr h=>?_)
 ·obtain⟨p,tl,al,rl,a,T',As,Rs,c,us,k,rfl,_⟩:=h
  rfl
 obtain⟨p,tl,al,rl,a,T',As,Rs,c,us,k,rfl,S,t1,a1,a20,ha,⟨ls,hL,lv,ll⟩,k2,Q0⟩:=h
 have hr1:zaq 1 _:=hr.mono (by decide)
 refine⟨_,(af (aE (i:=3) zaP.nd rfl (Or.inl rfl) (aq zad (aq zau (pv 2) ad) (aq zal (ao ar rfl T.len PySem.boot_len (aa (pv 1) ac)) ad)))
  (af (aE (i:=4) zaP.nd rfl (Or.inl rfl) (aq zau (aq zau (pv 2) ad) (aq zal (ao ar rfl T.len PySem.boot_len (aa (pv 1) ac)) ad)))
  (af (aL (PW.pt (za2 (au zaf (aq zad (pv 2) ad) ad) (za5 (au zbR (pv 3) (ao ar rfl T.len PySem.boot_len (aa (pv 1) ac))))))
   (af (aE (i:=5) zaP.nd rfl (Or.inl rfl) (aB BS.ok hr rfl BS.m BS.kp BS.b .nil aR (aa (pv 0) (aa (ap zab (pv 1) (pv 3)) (aa (aq zal (ao ar rfl T.len PySem.boot_len (aa (zae (pv 0) rfl) ac)) (pv 3)) (aa (pv 4) ac))))))
    (ah (ay (aq zaB (aq zaB (zaj zaG (pv 1) zat (zas (pv 3))) (zag (aa (pv 5) ac))) (zaj zaG (pv 1) (zas (aq zal (pv 3) ad)) zat)))))
   aA)
  (af (aL (au zaf (aq zad (pv 2) ad) ad)
   (ah (ay (aq zaB (zaj zaG (pv 1) zat (zas (pv 3))) (zaj zaG (pv 1) (zas (aq zal (pv 3) ad)) zat))))
   aA)
  (af (aL (au zaf (aq zad (pv 2) ad) ad)
   (ah (ay (zaj zaG (pv 1) zat (zas (pv 3)))))
   aA)
  (af (aL (au zf5 (aq zad (pv 2) ad) (aS (aa ad (aa ad ac))) rfl)
   (ah (ay (aq zaB (aq zaB (zaj zaG (pv 1) zat (zas (pv 3))) (zag (aa (aB BN.ok hr1 rfl BN.m BN.kp BN.b .nil aR (aa (pv 0) (aa (pv 4) ac))) ac))) (zaj zaG (pv 1) (zas (pv 3)) zat))))
   aA)
  (af (aL (PW.pt (za2 (au zaf (aq zad (pv 2) ad) ad) (za5 (au zbR (pv 3) (ao ar rfl T.len PySem.boot_len (aa (pv 1) ac))))))
   (af (aE (i:=5) zaP.nd rfl (Or.inl rfl) (aB BT.ok hr1 rfl BT.m BT.kp BT.b .nil aR (aa (ap zab (pv 1) (pv 3)) ac)))
    (af (aL (au zaf (aq zad (pv 4) ad) ad)
     (af (aE (i:=6) zaP.nd rfl (Or.inl rfl) (ap zab (zag (aa aU (aa aU (aa aU (aa aU (aa aU (aa aU (aa aU ac)))))))) (aq zad (aq zau (pv 4) ad) ad)))
      (ah (aE (i:=5) zaP.nd rfl (Or.inl rfl) (aS (aa (pv 6) (aa (ap az (ap zab (pv 1) (pv 3)) ad) (aa (ap az (ap zab (pv 1) (pv 3)) ad) ac)))))))
     aA)
    (ah (ay (aq zaB (aq zaB (zaj zaG (pv 1) zat (zas (pv 3))) (zag (aa (pv 5) ac))) (zaj zaG (pv 1) (zas (aq zal (pv 3) ad)) zat))))))
   aA)
  (af (aL (PW.pt (za2 (au zcf (aq zad (pv 2) ad) ad) (za5 (zlw zbR zbR ad (pv 3) (ao ar rfl T.len PySem.boot_len (aa (pv 1) ac))))))
   (ah (ay (aB BP.ok hr1 rfl BP.m BP.kp BP.b .nil aR (aa (pv 0) (aa (pv 1) (aa (pv 3) (aa (ap zab (pv 1) (aq zad (pv 4) (pv 3))) ac)))))))
   aA)
  (ah (ay (pv 1))))))))))),?_⟩
 try dsimp only [Cx.nox,Cx.wish,aV]
 have pw2:2 ^ k≤2 ^ 2:=Nat.pow_le_pow_right (by decide) k2
 have pwS:2 ^ (k+1)=2 ^ k * 2:=Nat.pow_succ ..
 have l80:ls.length < 80:=by omega
 have ul:us.length=ls.length:=by rw[←hL.length,lM]
 obtain⟨⟨dx,ho⟩,_,_,⟨zs,hz,hZ⟩,_⟩:=id S.pr
 refine⟨_,rfl,_,_,rfl,rfl,⟨by decide,by decide⟩,_,rfl,a,_,rfl,.inl (SqL.of ha),_,_,rfl,rfl,_,_,rfl,rfl,(by show(0:Int) < ((us.length:Nat):Int)+1;omega),?_⟩
 have b4:=zbH (c / 9) (show(0:Int) < ((us.length:Nat):Int)+1 by omega)
 show zda 3 (V.int (c / 9 % (((us.length:Nat):Int)+1))) _ _ _
 generalize c / 9 % (((us.length:Nat):Int)+1)=at_ at b4 ⊢
 refine⟨_,rfl,_,_,rfl,rfl,⟨by decide,by decide⟩,_,rfl,a,_,rfl,.inl (SqL.of ha),_,_,rfl,rfl,_,_,rfl,rfl,⟨by show(0:Int) < ((us.length:Nat):Int)+1;omega,by show((us.length:Nat):Int)+1 < 1073741824;omega⟩,?_⟩
 show zda 4 (V.int (c / 9 / (((us.length:Nat):Int)+1))) _ _ _
 generalize c / 9 / (((us.length:Nat):Int)+1)=rs
 have lineAt:at_ < ((us.length:Nat):Int)→∃(l:Ln) (lq pq hq:Addr),l∈ls∧atI us at_=some (.ref lq)∧Has K H (dLn l) (.ref lq)∧SqT K H lq [.str (kdL l),.ref pq,.ref hq]∧SqT K H pq (l.ps.map V.int):=λh=>by
  obtain⟨x,x1,x2⟩:=zbB b4.1 h
  obtain⟨l,lq,pq,hq,hl,rfl,h1,h2,h3⟩:=zcH hL x1
  refine⟨l,lq,pq,hq,mOq hl,x2,?_,h1,h2⟩
  obtain⟨d,e1,e2⟩:=hL.get x1
  rw[List.getElem?_map,hl]at e1
  cases e1
  exact e2
 have finV:∀(Hf:Hp) (o:Addr) (x:V) (y:Ln) (lo:Option Int),ai H Hf→Hf o=some (.lst (aQ us none (some at_)++[x]++aQ us lo none))→Has K Hf (dLn y) x→LnV (k+1) T'.length As.length y→Q (.ref o) Hf:=λHf o x y lo sf ho hx yv=>by
  obtain⟨ls',g,gl,gm⟩:=ziQ (lo:=none) (hi:=some at_) (lo':=lo) (hi':=none) (hL.keep sf.kt (zax _)) hx
  refine Q0 Hf o _ sf ho (.inl ⟨ls',g,λz hz=>?_,by omega⟩)
  rcases gm z hz with rfl | h
  ·exact yv
  ·exact(lv z h).up (by omega)
 have finE:∀(Hf:Hp) (o:Addr) (x:V) (lo:Option Int),ai H Hf→Hf o=some (.lst (aQ us none (some at_)++[x]++aQ us lo none))→GdX K Hf T'.length As.length x→3≤c % 9→c % 9≤6→Q (.ref o) Hf:=λHf o x lo sf ho gx c3 c6=>by
  refine Q0 Hf o _ sf ho (.inr ⟨⟨c3,c6⟩,?_⟩)
  rcases gx with ⟨y,yw,hx⟩ | ox
  ·obtain⟨ls',g,gl,gm⟩:=ziQ (lo:=none) (hi:=some at_) (lo':=lo) (hi':=none) (hL.keep sf.kt (zax _)) hx
   refine .inl ⟨ls',g,λz hz=>?_,by omega⟩
   rcases gm z hz with rfl | h
   ·exact yw
   ·exact(lv z h).lw (by omega)
  ·exact .inr (zmx (hL.keep sf.kt (zax _)) lv (by omega) (by omega) ox)
 have zb1:∀(H':Hp),ai H H'→ze9 K H' T'.length As.length (k+1) us:=λH' s'=>⟨ls,hL.keep s'.kt (zax _),λy hy=>(lv y hy).up (by omega),by omega⟩
 dsimp only [zda]
 refine zed (λn hn=>⟨_,rfl,_,_,rfl,rfl,(by show(0:Int) < 9;decide),rfl,_,rfl,aJ (λ_=>⟨_,rfl,_,rfl,a,_,rfl,.inl (SqL.of ha),_,_,rfl,rfl,_,rfl,aJ (λc2=>?_) (λ_=>hn)⟩) (λ_=>aY hn)⟩) ?_
 ·obtain⟨l,lq,pq,hq,lm,x2,hx,h1,h2⟩:=lineAt (of_decide_eq_true c2)
  refine⟨_,rfl,_,rfl,_,rfl,a,_,_,_,rfl,rfl,SqL.of ha,x2,_,rfl,p,C,dx,_,_,rfl,ho,T.cl,T.nR,zb0 _ _ _,rl,zs,rfl,.inl (SqL.of hz),_,rfl,_,_,rfl,rfl,_,rfl,p,tl,al,rl,T',As,Rs,.ref lq,l,_,rs,k,rfl,S,t1,a1,a20,(by show(0:Int)≤((zs.length:Nat):Int)+at_;omega),hx,lv l lm,k2,λH1 o1 y1 s1 hy1 yv1=>?_⟩
  refine⟨_,rfl,_,rfl,_,rfl,a,_,rfl,SqL.of (s1 _ _ ha),λd hd=>⟨_,rfl,lS1,λe he=>⟨d,e,_,_,rfl,rfl,ag he _ _ _ ae,ae,sz _ (by have:=zap us none (some at_);show(aQ us none (some at_)).length+1≤1000;omega),λg hg=>⟨_,rfl,_,rfl,_,_,rfl,rfl,_,rfl,a,_,rfl,SqL.of ((s1.trans ((ag hd _).trans ((ag he _).trans (ag hg _)))) _ _ ha),λi hi=>⟨g,i,_,_,rfl,rfl,ag hi _ _ _ ae,ae,sz _ (by have:=zap us none (some at_);have:=zap us (some (at_+1)) none;rw[lAq];show(aQ us none (some at_)).length+1+_≤1000;omega),λo ho'=>?_⟩⟩⟩⟩⟩
  have sF:=(ag hd _).trans ((ag he _).trans ((ag hg _).trans ((ag hi _).trans (ag ho' (.lst (aQ us none (some at_)++[.ref o1]++aQ us (some (at_+1)) none))))))
  exact finV _ o _ y1 _ (s1.trans sF) ae (hy1.keep sF.kt (zcR _)) yv1
 all_goals
  refine zed (λn hn=>⟨_,rfl,_,_,rfl,rfl,(by show(0:Int) < 9;decide),rfl,_,rfl,aJ (λ_=>?_) (λ_=>hn)⟩) (zed (λn hn=>⟨_,rfl,_,_,rfl,rfl,(by show(0:Int) < 9;decide),rfl,_,rfl,aJ (λ_=>?_) (λ_=>hn)⟩) ?_)
  ·refine⟨_,rfl,_,rfl,_,rfl,a,_,rfl,SqL.of ha,λd hd=>⟨_,rfl,_,rfl,_,_,rfl,rfl,_,rfl,a,_,rfl,SqL.of (ag hd _ _ _ ha),λe he=>⟨d,e,_,_,rfl,rfl,ag he _ _ _ ae,ae,sz _ (by have:=zap us none (some at_);have:=zap us (some (at_+1)) none;omega),λo ho'=>?_⟩⟩⟩
   have sF:=(ag hd _).trans ((ag he _).trans (ag ho' (.lst (aQ us none (some at_)++aQ us (some (at_+1)) none))))
   obtain⟨l1,g1,gl1,gm1⟩:=zgm (hL.keep sF.kt (zax _)) none (some at_)
   obtain⟨l2,g2,gl2,gm2⟩:=zgm (hL.keep sF.kt (zax _)) (some (at_+1)) none
   refine Q0 _ o _ sF ae (.inl ⟨l1++l2,by rw[mAq];exact aj.append g1 g2,λy hy=>?_,by rw[lAq];omega⟩)
   rcases mPq hy with hy | hy
   ·exact(lv y (gm1 y hy)).up (by omega)
   ·exact(lv y (gm2 y hy)).up (by omega)
  ·refine⟨_,rfl,_,rfl,_,rfl,a,_,rfl,SqL.of ha,λd hd=>?_⟩
   have sF:=ag hd (.lst (aQ us none (some at_)))
   obtain⟨l1,g1,gl1,gm1⟩:=zgm (hL.keep sF.kt (zax _)) none (some at_)
   exact Q0 _ d _ sF ae (.inl ⟨l1,g1,λy hy=>(lv y (gm1 y hy)).up (by omega),by omega⟩)
  refine⟨_,rfl,_,_,rfl,rfl,(by show(0:Int) < 9;decide),lS2,λu hu=>?_⟩
  have sU:=ag hu (.tup [.int 4,.int 5])
  have nU:=ae (H:=H) (a:=u) (o:=.tup [.int 4,.int 5])
  have SU:=S.same sU
  have hoU:=sU _ _ ho
  have haU:=sU _ _ ha
  show(λHU:Hp=>_) (upd H u (.tup [.int 4,.int 5]))
  generalize upd H u (.tup [.int 4,.int 5])=HU at sU nU SU hoU haU
  refine⟨u,_,rfl,.inr (SqT.of nU),rfl,rfl,_,rfl,aJ (λc4=>?_) (λ_=>?_)⟩
  ·have c45:c % 9=4∨c % 9=5:=by
    have:inV (.int (c % 9)) ([4,5].map V.int)=true:=c4
    rw[zbN]at this
    have:=of_decide_eq_true this
    simpa using this
   refine⟨_,rfl,_,rfl,_,rfl,a,_,rfl,SqL.of haU,λd hd=>?_⟩
   have sD:=ag hd (.lst (aQ us none (some at_)))
   have nD:=ae (H:=HU) (a:=d) (o:=.lst (aQ us none (some at_)))
   have S3:=SU.same sD
   have sUD:=sU.trans sD
   show(λH3:Hp=>_) (upd HU d (.lst (aQ us none (some at_))))
   generalize upd HU d (.lst (aQ us none (some at_)))=H3 at sD nD S3 sUD
   refine⟨_,rfl,_,rfl,p,tl,al,rl,T',As,Rs,rs,rfl,S3,a1,λH4 x4 s4 g4=>⟨lS1,λe he=>⟨d,e,_,_,rfl,rfl,ag he _ _ _ (s4 _ _ nD),ae,sz _ (by have:=zap us none (some at_);show(aQ us none (some at_)).length+1≤1000;omega),λg hg=>⟨_,rfl,_,rfl,_,rfl,a,_,rfl,SqL.of (((sUD.trans s4).trans ((ag he _).trans (ag hg _))) _ _ ha),λi hi=>⟨g,i,_,_,rfl,rfl,ag hi _ _ _ ae,ae,sz _ (by have:=zap us none (some at_);have:=zap us (some at_) none;rw[lAq];show(aQ us none (some at_)).length+1+_≤1000;omega),λo ho'=>?_⟩⟩⟩⟩⟩
   have sF:=(ag he _).trans ((ag hg _).trans ((ag hi _).trans (ag ho' (.lst (aQ us none (some at_)++[x4]++aQ us (some at_) none)))))
   refine finE _ o x4 _ ((sUD.trans s4).trans sF) ae ?_ (by omega) (by omega)
   rcases g4 with ⟨y,yw,hy⟩ | oy
   ·exact .inl ⟨y,yw,hy.keep sF.kt (zcR _)⟩
   ·exact .inr (oy.same sF)
  dsimp only [tNext]
  refine zed (λn hn=>⟨_,rfl,_,_,rfl,rfl,(by show(0:Int) < 9;decide),rfl,_,rfl,aJ (λc6=>⟨_,rfl,_,rfl,a,_,rfl,.inl (SqL.of haU),_,_,rfl,rfl,_,rfl,aJ (λc2=>?_) (λ_=>hn)⟩) (λ_=>aY hn)⟩) ?_
  ·have e6:c % 9=6:=by
    have:=of_decide_eq_true c6
    injection this
   obtain⟨l,lq,pq,hq,lm,x2,hx,h1,h2⟩:=lineAt (of_decide_eq_true c2)
   have lwl:=(lv l lm).lw (show k≤3 by omega)
   have p100:l.ps.length≤100:=by cases l <;> exact lwl.1
   refine⟨_,rfl,_,rfl,a,_,_,_,rfl,rfl,SqL.of haU,x2,.ref lq,l,T'.length,As.length,rfl,hx.keep sU.kt (zcR _),lwl,λH1 o1 s1' ox1=>?_⟩
   have s1:=sU.trans s1'
   refine⟨_,rfl,_,_,rfl,rfl,(by show(0:Int) < 2;decide),rfl,_,rfl,aJ (λ_=>?_) (λ_=>?_)⟩
   ·have m7:=zbH (rs / 2) (show(0:Int) < 7 by decide)
    obtain⟨z,z1,z2,z3⟩:=wd_at m7.1 m7.2
    refine⟨(by show 7≤sizeLine;decide),λwl hwl=>?_⟩
    have s2:=ag hwl (.lst [V.str "learn",.str "learnts",.str "l",.str "equals",.str "e",.str "Equal",.str ""])
    have n2:=ae (H:=H1) (a:=wl) (o:=.lst [V.str "learn",.str "learnts",.str "l",.str "equals",.str "e",.str "Equal",.str ""])
    have s02:=s1.trans s2
    show(λH2:Hp=>_) (upd H1 wl (.lst [V.str "learn",.str "learnts",.str "l",.str "equals",.str "e",.str "Equal",.str ""]))
    generalize upd H1 wl (.lst [V.str "learn",.str "learnts",.str "l",.str "equals",.str "e",.str "Equal",.str ""])=H2 at s2 n2 s02
    refine⟨_,rfl,_,_,rfl,rfl,⟨by decide,by decide⟩,_,_,rfl,rfl,(by show(0:Int) < 7;decide),wl,_,_,_,rfl,rfl,SqL.of n2,z1,?_⟩
    refine⟨_,rfl,_,rfl,_,rfl,a,_,_,_,rfl,rfl,SqL.of (s02 _ _ ha),x2,lq,_,_,_,rfl,rfl,s02.tup h1,aF (j:=1) rfl,_,rfl,_,rfl,a,_,_,_,rfl,rfl,SqL.of (s02 _ _ ha),x2,lq,_,_,_,rfl,rfl,s02.tup h1,aF (j:=2) rfl,lS3,λt ht=>?_⟩
    have s3:=ag ht (.tup [.str z,.ref pq,.ref hq])
    have n3:=ae (H:=H2) (a:=t) (o:=.tup [.str z,.ref pq,.ref hq])
    have s03:=s02.trans s3
    show(λH3:Hp=>_) (upd H2 t (.tup [.str z,.ref pq,.ref hq]))
    generalize upd H2 t (.tup [.str z,.ref pq,.ref hq])=H3 at s3 n3 s03
    have ot:zfa K H3 (.ref t):=⟨t,pq,hq,z,rfl,SqT.of n3,.inr ⟨l.ps,s03.tup h2,p100,.inl ⟨z2,z3⟩⟩⟩
    refine⟨_,rfl,_,rfl,_,rfl,a,_,rfl,SqL.of (s03 _ _ ha),λd hd=>⟨_,rfl,lS1,λe he=>⟨d,e,_,_,rfl,rfl,ag he _ _ _ ae,ae,sz _ (by have:=zap us none (some at_);show(aQ us none (some at_)).length+1≤1000;omega),λg hg=>⟨_,rfl,_,rfl,_,_,rfl,rfl,_,rfl,a,_,rfl,SqL.of ((s03.trans ((ag hd _).trans ((ag he _).trans (ag hg _)))) _ _ ha),λi hi=>⟨g,i,_,_,rfl,rfl,ag hi _ _ _ ae,ae,sz _ (by have:=zap us none (some at_);have:=zap us (some (at_+1)) none;rw[lAq];show(aQ us none (some at_)).length+1+_≤1000;omega),λo ho'=>?_⟩⟩⟩⟩⟩
    have sF:=(ag hd _).trans ((ag he _).trans ((ag hg _).trans ((ag hi _).trans (ag ho' (.lst (aQ us none (some at_)++[.ref t]++aQ us (some (at_+1)) none))))))
    exact finE _ o _ _ (s03.trans sF) ae (.inr (ot.same sF)) (by omega) (by omega)
   ·refine⟨_,rfl,_,rfl,_,rfl,a,_,rfl,SqL.of (s1 _ _ ha),λd hd=>⟨_,rfl,lS1,λe he=>⟨d,e,_,_,rfl,rfl,ag he _ _ _ ae,ae,sz _ (by have:=zap us none (some at_);show(aQ us none (some at_)).length+1≤1000;omega),λg hg=>⟨_,rfl,_,rfl,_,_,rfl,rfl,_,rfl,a,_,rfl,SqL.of ((s1.trans ((ag hd _).trans ((ag he _).trans (ag hg _)))) _ _ ha),λi hi=>⟨g,i,_,_,rfl,rfl,ag hi _ _ _ ae,ae,sz _ (by have:=zap us none (some at_);have:=zap us (some (at_+1)) none;rw[lAq];show(aQ us none (some at_)).length+1+_≤1000;omega),λo ho'=>?_⟩⟩⟩⟩⟩
    have sF:=(ag hd _).trans ((ag he _).trans ((ag hg _).trans ((ag hi _).trans (ag ho' (.lst (aQ us none (some at_)++[.ref o1]++aQ us (some (at_+1)) none))))))
    refine finE _ o _ _ (s1.trans sF) ae ?_ (by omega) (by omega)
    rcases ox1 with h | h
    ·exact .inl ⟨l,lwl,h.keep sF.kt (zcR _)⟩
    ·exact .inr (h.same sF)
  all_goals
   have last:Q (.ref a) HU:=Q0 HU a us sU haU (.inl (zb1 HU sU))
   refine⟨_,rfl,_,_,rfl,rfl,(by show(0:Int) < 9;decide),_,_,rfl,rfl,_,rfl,aJ (λ_=>⟨_,rfl,_,_,rfl,rfl,_,rfl,aJ (λg0=>⟨_,rfl,a,_,rfl,.inl (SqL.of haU),_,_,rfl,rfl,_,rfl,aJ (λg1=>?_) (λ_=>⟨_,rfl,last⟩)⟩) (λ_=>⟨_,rfl,aY ⟨_,rfl,last⟩⟩)⟩) (λ_=>aY ⟨_,rfl,last⟩)⟩
   have g0':(0:Int) < at_:=of_decide_eq_true g0
   have g1':at_ < ((us.length:Nat):Int):=of_decide_eq_true g1
   have mm:=zbH rs g0'
   obtain⟨x,x1,x2⟩:=zbB (xs:=us) (i:=rs % at_) mm.1 (by omega)
   obtain⟨d,e1,e2⟩:=hL.get x1
   rw[List.getElem?_map]at e1
   obtain⟨l,hl,rfl⟩:=Option.map_eq_some_iff.mp e1
   have lm:=mOq hl
   refine⟨_,rfl,_,rfl,_,rfl,_,rfl,_,rfl,_,rfl,_,_,rfl,rfl,g0',a,_,_,_,rfl,rfl,SqL.of haU,x2,p,tl,al,rl,a,T',As,Rs,at_,x,us,ls,l,k,rfl,SU,haU,hL.keep sU.kt (zax _),lv,by omega,by omega,e2.keep sU.kt (zcR _),lv l lm,λH' l' us' ls' s' n' h' g' lv' len'=>?_⟩
   exact Q0 H' l' us' (sU.trans s') h' (.inl ⟨ls',g',λy hy=>(lv' y hy).up (by omega),by omega⟩)
abbrev NL:List Str:=["_law_script","_law_problem","_law_paper","_law_k","_law_cell","_law_size","_law_slots_here","_law_table","_law_values_here","_law_truths_here"]
inductive zeh (K:W.Frag):Sp|m{vs H Q E9} (a:Addr) (ns:List Int):vs=[.ref a]→SqL K H a (ns.map V.int)→ns.length≤63→(∀ H',Q (.bl true) H')→zeh K vs H Q E9
theorem zcj:aO NL ["_law_script"] (aw zc8):=fsc
structure PrL (K:W.Frag) (C:Addr) (H:Hp) (p tl al rl:Addr) (T:List Tm) (As:List At) (Rs:List (List Int)) (r:Nat):Prop where
 d:PrD K C H p tl al rl T As Rs
 wf:Wf T
 ws:zcX T≤12
 t2:2≤T.length
 t6:T.length≤6
 a1:1≤As.length
 a3:As.length≤3
 pl:∀ y∈As,PlN y
 ri:∀ x∈Rs,zdS As.length x
 rn:Rs.length≤r
theorem PrL.same {H H':Hp} {p tl al rl:Addr} {T:List Tm} {As:List At} {Rs:List (List Int)} {r:Nat} (h:PrL K C H p tl al rl T As Rs r) (s:ai H H'):PrL K C H' p tl al rl T As Rs r:=⟨h.d.same s,h.wf,h.ws,h.t2,h.t6,h.a1,h.a3,h.pl,h.ri,h.rn⟩
theorem PrL.rows {H H':Hp} {p tl al rl:Addr} {T:List Tm} {As:List At} {Rs R:List (List Int)} {r q:Nat} (h:PrL K C H p tl al rl T As Rs r) (d:PrD K C H' p tl al rl T As (Rs++R)) (ri:∀ x∈R,zdS As.length x) (rn:R.length≤q):PrL K C H' p tl al rl T As (Rs++R) (r+q):=⟨d,h.wf,h.ws,h.t2,h.t6,h.a1,h.a3,h.pl,λx hx=>(mPq hx).elim (h.ri x) (ri x),by rw[lAq];have:=h.rn;omega⟩
theorem law8 (T:Txt K mg aK C CN CT CP CM) (BX:FB P w K mg base CX0 2 "_law_slots" fX dX ["_law_terms","_law_size"] (zdy K)) (BY:FB P w K mg base CX0 1 "_law_tables" fY dY ["_law_slots_here","_law_size"] (zdh K)) (BZ:FB P w K mg base CX0 1 "_law_values" fZ dZ ["_law_terms","_law_slots_here","_law_table"] (zdz K)) (BE:FB P w K mg base CX0 2 "_law_every" fE dE ["_law_problem","_law_values_here","_law_truths_here"] (zdA K C))
  {cdv:Value} {A:Around} {outer:List Env} {s:Shared} {H0:Hp} {E:XK} (hr:zaq 8 (A.deeper (PyProof.Rows.envOfC "law" (aw zc8) s.heap.objs.size f cdv))) :
  ∃ t',PSs (aV CX0 P w K mg base NL "law" (aw zc8) f cdv A outer s H0 E).nox ((zaR zc8).drop 8) t' ∧
   ∀(D:zbT) (H:Hp) (v0 v2 v3 v4:Option V) (n r:Nat) (p tl al rl:Addr) (T':List Tm) (As:List At) (Rs:List (List Int)) (ls:List Ln),n≤3→PrL K C H p tl al rl T' As Rs r→(∀ l∈ls,LnW T'.length As.length l)→zc9 T' As Rs ls=true→(∀ H',D.rt (.bl true) H')→t' D [v0,some (.ref p),v2,v3,v4,some (.int (n:Int)),none,none,none,none] H:=by
 have hr1:=hr.mono (show 1≤8 by decide)
 have hr2:=hr.mono (show 2≤8 by decide)
 refine⟨_,(af (aE (i:=6) zcj.nd rfl (Or.inl rfl) (aB BX.ok hr2 rfl BX.m BX.kp BX.b .nil aR (aa (zae (pv 1) rfl) (aa (pv 5) ac))))
  (af (zah PassesOwn.never rfl (za6 (aB BY.ok hr1 rfl BY.m BY.kp BY.b .nil aR (aa (pv 6) (aa (pv 5) ac)))) (zac (i:=7) zcj.nd rfl (Or.inl rfl))
   (af (aE (i:=8) zcj.nd rfl (Or.inl rfl) (aB BZ.ok hr1 rfl BZ.m BZ.kp BZ.b .nil aR (aa (zae (pv 1) rfl) (aa (pv 6) (aa (pv 7) ac)))))
    (ah (zah PassesOwn.never rfl (za6 (zag (aa (aS (aa zam (aa zam ac))) (aa (aS (aa zam (aa zam ac))) (aa (aS (aa zam (aa zam ac))) (aa (aS (aa zam (aa zam ac))) ac)))))) (zac (i:=9) zcj.nd rfl (Or.inl rfl))
     (ah (aL (zaS (aB BE.ok hr2 rfl BE.m BE.kp BE.b .nil aR (aa (pv 1) (aa (pv 8) (aa (pv 9) ac)))))
       (ah (ay zam))
       aA))))))
  (ah (ay zam)))),?_⟩
 try dsimp only [Cx.nox,Cx.wish,aV]
 intro D H v0 v2 v3 v4 n r p tl al rl T' As Rs ls n3 S lw eq Q0
 obtain⟨⟨dx,ho⟩,⟨ts,ht,hT⟩,_⟩:=id S.d.pr
 refine⟨_,rfl,p,C,dx,_,_,rfl,ho,T.cl,T.nT,zaO _ _ _,_,rfl,tl,n,ts,T',rfl,SqL.of ht,hT,n3,S.ws,λH1 sl us S' s1 fsl hsl hS' S12 cv=>?_⟩
 have usl:us.length=S'.length:=by rw[←hS'.length,lM]
 refine⟨_,rfl,_,rfl,sl,n,us,rfl,SqL.of hsl,n3,by omega,λH2 l ws s2 hl tb=>?_⟩
 have s02:=s1.trans s2
 refine⟨l,rfl,⟨_,SqL.of hl⟩,zby (xs:=ws) (λi σ H'=>∃(v7 v8 v9:Option V),σ=[v0,some (.ref p),v2,v3,v4,some (.int (n:Int)),some (.ref sl),v7,v8,v9]∧ai H2 H') ⟨none,none,none,rfl,ai.refl _⟩ (λi σ H' _ ⟨_,_,_,_,s3⟩=>SqL.of (s3 _ _ hl)) ?_ ?_⟩
 ·rintro i x σ H3 hx ⟨v7,v8,v9,rfl,s3⟩
  obtain⟨a,tb',rfl,na,ha,tl',tv⟩:=(tb x (mOq hx)).same s3
  have s03:=s02.trans s3
  have S3:=S.same s03
  obtain⟨⟨dx3,ho3⟩,⟨ts3,ht3,hT3⟩,_⟩:=id S3.d.pr
  refine⟨_,rfl,p,C,dx3,_,_,rfl,ho3,T.cl,T.nT,zaO _ _ _,_,rfl,_,rfl,tl,sl,a,n,ts3,us,T',S',tb',rfl,SqL.of ht3,hT3,S.wf,S.d.t3,S.d.tN,s3 _ _ (s2 _ _ hsl),hS'.keep (s2.trans s3).kt (zbh _),cv,SqL.of ha,(by rw[tl',usl]),tv,λH4 vl vs g s4 hv vll vo=>?_⟩
  have no:∀ b1 b2:Bool,(Rs.all λr=>r.any (hpB vs (tpB b1 b2) As))=false:=λb1 b2=>Bool.eq_false_iff.mpr λz=>zj5 (tp:=tpB b1 b2) S.d.dm vll vo (λr hr x hx=>((S.ri r hr).1 x hx).1) lw eq (λr hr=>List.all_eq_true.mp z r hr)
  refine⟨lS2,λt1 h1=>?_⟩
  have q1:=ag h1 (.tup [.bl false,.bl false])
  have m1:=SqT.of (K:=K) (ae (H:=H4) (a:=t1) (o:=.tup [.bl false,.bl false]))
  show(λG1:Hp=>_) (upd H4 t1 (.tup [.bl false,.bl false]))
  generalize upd H4 t1 (.tup [.bl false,.bl false])=G1 at q1 m1
  refine⟨lS2,λt2 h2=>?_⟩
  have q2:=ag h2 (.tup [.bl false,.bl true])
  have m2:=SqT.of (K:=K) (ae (H:=G1) (a:=t2) (o:=.tup [.bl false,.bl true]))
  show(λG2:Hp=>_) (upd G1 t2 (.tup [.bl false,.bl true]))
  generalize upd G1 t2 (.tup [.bl false,.bl true])=G2 at q2 m2
  refine⟨lS2,λt3 h3=>?_⟩
  have q3:=ag h3 (.tup [.bl true,.bl false])
  have m3:=SqT.of (K:=K) (ae (H:=G2) (a:=t3) (o:=.tup [.bl true,.bl false]))
  show(λG3:Hp=>_) (upd G2 t3 (.tup [.bl true,.bl false]))
  generalize upd G2 t3 (.tup [.bl true,.bl false])=G3 at q3 m3
  refine⟨lS2,λt4 h4=>?_⟩
  have q4:=ag h4 (.tup [.bl true,.bl true])
  have m4:=SqT.of (K:=K) (ae (H:=G3) (a:=t4) (o:=.tup [.bl true,.bl true]))
  show(λG4:Hp=>_) (upd G3 t4 (.tup [.bl true,.bl true]))
  generalize upd G3 t4 (.tup [.bl true,.bl true])=G4 at q4 m4
  refine⟨lS4,λt5 h5=>?_⟩
  have q5:=ag h5 (.lst [.ref t1,.ref t2,.ref t3,.ref t4])
  have m5:=ae (H:=G4) (a:=t5) (o:=.lst [.ref t1,.ref t2,.ref t3,.ref t4])
  have q45:=q4.trans q5
  have q35:=q3.trans q45
  have q25:=q2.trans q35
  have q15:=q1.trans q25
  have el:∀ x∈[V.ref t1,.ref t2,.ref t3,.ref t4],∃(t:Addr) (b1 b2:Bool),x=.ref t∧SqT K (upd G4 t5 (.lst [.ref t1,.ref t2,.ref t3,.ref t4])) t [.bl b1,.bl b2]:=λx hx=>by
   simp only[List.mem_cons,List.not_mem_nil,or_false]at hx
   rcases hx with rfl | rfl | rfl | rfl
   ·exact⟨t1,_,_,rfl,q25.tup m1⟩
   ·exact⟨t2,_,_,rfl,q35.tup m2⟩
   ·exact⟨t3,_,_,rfl,q45.tup m3⟩
   ·exact⟨t4,_,_,rfl,q5.tup m4⟩
  show(λG5:Hp=>_) (upd G4 t5 (.lst [.ref t1,.ref t2,.ref t3,.ref t4]))
  generalize upd G4 t5 (.lst [.ref t1,.ref t2,.ref t3,.ref t4])=G5 at m5 q15 el
  have s05:=s03.trans (s4.trans q15)
  refine⟨t5,rfl,⟨_,SqL.of m5⟩,zby (xs:=[.ref t1,.ref t2,.ref t3,.ref t4]) (λi σ H'=>∃(v9:Option V),σ=[v0,some (.ref p),v2,v3,v4,some (.int (n:Int)),some (.ref sl),some (.ref a),some (.ref vl),v9]∧ai G5 H') ⟨_,rfl,ai.refl _⟩ (λi σ H' _ ⟨_,_,s6⟩=>SqL.of (s6 _ _ m5)) ?_ ?_⟩
  ·rintro j x σ H6 hx ⟨v9,rfl,s6⟩
   obtain⟨t,b1,b2,rfl,ht⟩:=el x (mOq hx)
   refine⟨_,rfl,_,rfl,_,rfl,p,tl,al,rl,vl,t,T',As,Rs,vs,b1,b2,rfl,(S.same (s05.trans s6)).d,(λr hr=>(S.ri r hr).1),S.pl,SqL.of (s6 _ _ (q15 _ _ hv)),vll,s6.tup ht,λH7 s7=>?_⟩
   rw[no]
   exact⟨_,rfl,aY ⟨_,rfl,s6.trans s7⟩⟩
  ·rintro σ H6 ⟨v9,rfl,s6⟩
   exact⟨_,_,_,rfl,s3.trans (s4.trans (q15.trans s6))⟩
 ·rintro σ H3 ⟨v7,v8,v9,rfl,s3⟩
  exact Q0 _
theorem law5 (T:Txt K mg aK C CN CT CP CM) (BC:FB P w K mg base CX0 1 "_law_cell_at" fC dC ["_law_script","_law_k"] (zdd K)) (BL:FB P w K mg base CX0 8 "lets_by" fL dL' ["problem","paper"] (zfh K C)) (BX:FB P w K mg base CX0 2 "_law_slots" fX dX ["_law_terms","_law_size"] (zdy K)) (BY:FB P w K mg base CX0 1 "_law_tables" fY dY ["_law_slots_here","_law_size"] (zdh K)) (BZ:FB P w K mg base CX0 1 "_law_values" fZ dZ ["_law_terms","_law_slots_here","_law_table"] (zdz K)) (BE:FB P w K mg base CX0 2 "_law_every" fE dE ["_law_problem","_law_values_here","_law_truths_here"] (zdA K C))
  {cdv:Value} {A:Around} {outer:List Env} {s:Shared} {H0:Hp} {E:XK} (hr:zaq 8 (A.deeper (PyProof.Rows.envOfC "law" (aw zc8) s.heap.objs.size f cdv))) :
  ∃ t',PSs (aV CX0 P w K mg base NL "law" (aw zc8) f cdv A outer s H0 E).nox ((zaR zc8).drop 5) t' ∧
   ∀(D:zbT) (H:Hp) (v3 v4:Option V) (r:Nat) (a p tl al rl l:Addr) (ns:List Int) (us:List V) (T':List Tm) (As:List At) (Rs:List (List Int)),SqL K H a (ns.map V.int)→ns.length≤63→r≤100→PrL K C H p tl al rl T' As Rs r→H l=some (.lst us)→PapE K H T'.length As.length us→(∀ H',D.rt (.bl true) H')→t' D [some (.ref a),some (.ref p),some (.ref l),v3,v4,none,none,none,none,none] H:=by
 have hu:=zeL hr
 have hr1:=hr.mono (show 1≤8 by decide)
 obtain⟨t8,h8,q8⟩:=law8 (f:=f) (outer:=outer) (H0:=H0) (E:=E) T BX BY BZ BE hr
 refine⟨_,(af (aL (au zkI (aB BL.ok hr rfl BL.m BL.kp BL.b .nil aR (aa (pv 1) (aa (pv 2) ac))) zam)
   (ah (ay zam))
   aA)
  (af (aE (i:=5) zcj.nd rfl (Or.inl rfl) ad)
  (af (aL (PW.pt (za2 (au zbR (ao ar rfl T.len PySem.boot_len (aa (zhe (N':=["_law_term"]) (ix:=[]) rfl rfl (by decide +kernel) (by decide +kernel) rfl (λ_=>⟨[],za3 (by decide +kernel) (by decide +kernel)⟩) (by decide +kernel) rfl rfl (λj i h=>by simp at h) (za6 (zae (pv 1) rfl)) (λ_ _ _ _=>(au (r:=rEqD K) (zeW hu) (ap (r:=zee K) az (pv 0) ad) (aS ac) rfl)) (λ_ _ _ _=>(pv 0))) ac)) ad) (za5 (au zaf (aq zad (aB BC.ok hr1 rfl BC.m BC.kp BC.b .nil aR (aa (pv 0) (aa ad ac))) ad) ad))))
   (ah (aE (i:=5) zcj.nd rfl (Or.inl rfl) ad))
   aA)
  h8))),?_⟩
 try dsimp only [Cx.nox,Cx.wish,aV]
 intro D H v3 v4 r a p tl al rl l ns us T' As Rs hS n63 r100 S hl pe Q0
 have n1000:ns.length≤1000:=by omega
 have rl100:∀ x∈Rs,x.length≤100:=λx hx=>Nat.le_trans (S.ri x hx).2 (by decide)
 have r500:Rs.length≤500:=by have:=S.rn;omega
 rcases pe with ⟨ls,g,lw,l300⟩ | od
 ·refine⟨_,rfl,_,rfl,.inl ⟨p,tl,al,rl,l,T',As,Rs,us,ls,rfl,S.d,SqL.of hl,g,rl100,r500,l300,lw,λH6 s6=>?_⟩⟩
  refine⟨_,_,rfl,rfl,_,rfl,aJ (λ_=>Q0 _) (λc=>?_)⟩
  have eq:zc9 T' As Rs ls=true:=by
   cases h:zc9 T' As Rs ls with
   | true=>rfl
   | false=>rw[h]at c;exact absurd rfl c
  have S6:=S.same s6
  have hS6:=s6.seq hS
  obtain⟨⟨dx,ho⟩,⟨ts,ht,hT⟩,_⟩:=id S6.d.pr
  refine⟨_,rfl,p,C,dx,_,_,rfl,ho,T.cl,T.nT,zaO _ _ _,tl,rfl,⟨_,SqL.of ht⟩,λN hN=>zhh zb9 (λi ys H'=>ai H6 H') (λi ys H' z=>SqL.of (z _ _ ht)) (ag hN _) ?_ ?_⟩
  ·rintro i ys H8 x H7 hi hly hDs s7 ⟨rfl,hx⟩
   obtain⟨t,tq,r',ht',rfl,htq,hr'⟩:=zdx (hT.keep s7.kt (zbh _)) (hx _ (SqL.of (s7 _ _ ht)))
   refine⟨_,rfl,tq,_,_,_,rfl,rfl,htq,aF (j:=1) rfl,lS0,λe he=>?_⟩
   have s8:=ag he (.tup [])
   refine⟨_,_,Has.tup' (s8.tup hr') (aj.ints _),Has.tup' (SqT.of ae) (aj.ints []),(by simp only[dep,zcJ];decide),_,rfl,aJ (λ_=>?_) (λ_=>?_)⟩
   ·exact⟨_,rfl,zaA (szM (by have:=S6.d.tN;have:=hT.length;rw[lM]at this;omega)) hi hly (s8 _ _ hDs) ((s7.trans s8).upd hN)⟩
   ·exact zgu hi hly (s8 _ _ hDs) (s7.trans s8)
  rintro ys H7 hDs s7
  have done:∀(D':zbT) (H8:Hp) (n:Nat),(∀ H',D'.rt (.bl true) H')→n≤3→ai H6 H8→t8 D' [some (.ref a),some (.ref p),some (.ref l),v3,v4,some (.int (n:Int)),none,none,none,none] H8:=λD' H8 n q0 n3 s8=>q8 D' H8 _ _ _ _ n r p tl al rl T' As Rs ls n3 (S6.same s8) lw eq q0
  refine⟨N,ys,rfl,.inl (SqL.of hDs),_,_,rfl,rfl,_,rfl,aJ (λ_=>?_) (λ_=>aY (done _ H7 2 Q0 (by decide) s7))⟩
  refine⟨_,rfl,a,ns,3,rfl,s7.seq hS6,n1000,by decide,by decide,λc4=>⟨_,_,rfl,rfl,(by show(0:Int) < 3;decide),rfl,_,rfl,aJ (λ_=>done _ H7 3 Q0 (by decide) s7) (λ_=>done _ H7 2 Q0 (by decide) s7)⟩⟩
 ·refine⟨_,rfl,_,rfl,.inr ⟨p,tl,al,rl,l,T',As,Rs,us,rfl,S.d,SqL.of hl,od,rl100,r500,λH6 s6=>?_⟩⟩
  exact⟨_,_,rfl,rfl,_,rfl,zao (Q0 _)⟩
theorem law2 (T:Txt K mg aK C CN CT CP CM) (BC:FB P w K mg base CX0 1 "_law_cell_at" fC dC ["_law_script","_law_k"] (zdd K)) (BR:FB P w K mg base CX0 3 "_law_rows_added" fR dR' ["_law_problem","_law_script","_law_first","_law_many"] (zd3 K C)) (BB:FB P w K mg base CX0 7 "_law_paper_by" fB dB ["_law_problem"] (zha K C)) (BS:FB P w K mg base CX0 4 "_law_paper_spoilt" fS dS ["_law_problem","_law_paper","_law_cell"] (zg9 K C)) (BL:FB P w K mg base CX0 8 "lets_by" fL dL' ["problem","paper"] (zfh K C)) (BX:FB P w K mg base CX0 2 "_law_slots" fX dX ["_law_terms","_law_size"] (zdy K)) (BY:FB P w K mg base CX0 1 "_law_tables" fY dY ["_law_slots_here","_law_size"] (zdh K)) (BZ:FB P w K mg base CX0 1 "_law_values" fZ dZ ["_law_terms","_law_slots_here","_law_table"] (zdz K)) (BE:FB P w K mg base CX0 2 "_law_every" fE dE ["_law_problem","_law_values_here","_law_truths_here"] (zdA K C))
  {cdv:Value} {A:Around} {outer:List Env} {s:Shared} {H0:Hp} {E:XK} (hr:zaq 8 (A.deeper (PyProof.Rows.envOfC "law" (aw zc8) s.heap.objs.size f cdv))) :
  ∃ t',PSs (aV CX0 P w K mg base NL "law" (aw zc8) f cdv A outer s H0 E).nox ((zaR zc8).drop 2) t' ∧
   ∀(D:zbT) (Hs H:Hp) (a p tl al rl:Addr) (ns:List Int) (T':List Tm) (As:List At) (Rs:List (List Int)),SqL K Hs a (ns.map V.int)→ns.length≤63→ai Hs H→Hs al=none→Hs rl=none→PrL K C H p tl al rl T' As Rs 20→(∀ H',D.rt (.bl true) H')→t' D [some (.ref a),some (.ref p),none,none,none,none,none,none,none,none] H:=by
 have hr1:=hr.mono (show 1≤8 by decide)
 have hr3:=hr.mono (show 3≤8 by decide)
 have hr4:=hr.mono (show 4≤8 by decide)
 have hr7:=hr.mono (show 7≤8 by decide)
 obtain⟨t5,h5,q5⟩:=law5 (f:=f) (outer:=outer) (H0:=H0) (E:=E) T BC BL BX BY BZ BE hr
 refine⟨_,(af (zak (aB BR.ok hr3 rfl BR.m BR.kp BR.b .nil aR (aa (pv 1) (aa (pv 0) (aa ad (aa (aq zal ad (aq zad (aB BC.ok hr1 rfl BC.m BC.kp BC.b .nil aR (aa (pv 0) (aa ad ac))) ad)) ac))))))
  (af (aE (i:=2) zcj.nd rfl (Or.inl rfl) (aB BB.ok hr7 rfl BB.m BB.kp BB.b .nil aR (aa (pv 1) ac)))
  (af (zah PassesOwn.never rfl (zaV rfl T.range (aa (aq zau (aq zad (aB BC.ok hr1 rfl BC.m BC.kp BC.b .nil aR (aa (pv 0) (aa ad ac))) ad) ad) ac)) (zac (i:=3) zcj.nd rfl (Or.inl rfl))
   (af (aE (i:=4) zcj.nd rfl (Or.inl rfl) (aB BC.ok hr1 rfl BC.m BC.kp BC.b .nil aR (aa (pv 0) (aa (aq zal ad (pv 3)) ac))))
    (af (aE (i:=2) zcj.nd rfl (Or.inl rfl) (aB BS.ok hr4 rfl BS.m BS.kp BS.b .nil aR (aa (pv 1) (aa (pv 2) (aa (pv 4) ac)))))
    (ah (aL (au zf5 (aq zad (pv 4) ad) (aS (aa ad (aa ad (aa ad (aa ad ac))))) rfl)
     (ah zlx)
     aA)))))
  h5))),?_⟩
 try dsimp only [Cx.nox,Cx.wish,aV]
 intro D Hs H a p tl al rl ns T' As Rs hS n63 s0 na nr S Q0
 have n1000:ns.length≤1000:=by omega
 refine⟨_,rfl,_,rfl,_,rfl,a,ns,1,rfl,s0.seq hS,n1000,by decide,by decide,λc1=>⟨_,_,rfl,rfl,(by show(0:Int) < 8;decide),_,_,rfl,rfl,?_⟩⟩
 have b1:=zbH c1 (show(0:Int) < 8 by decide)
 have a1:=S.a1
 have a3:=S.a3
 have rn:=S.rn
 refine⟨p,tl,al,rl,a,T',As,Rs,ns,16,1+c1 % 8,rfl,S.d,(λH' f'=>(f'.fresh s0 na nr).seq hS),n1000,by decide,by decide,by omega,by omega,a1,by omega,by omega,λH1 R1 S1 f1 r1 l1=>?_⟩
 have s1:ai Hs H1:=f1.fresh s0 na nr
 have SL:=S.rows S1 r1 (show R1.length≤8 by omega)
 refine⟨_,rfl,p,tl,al,rl,T',As,Rs++R1,rfl,SL.d,a3,S.t6,Nat.le_trans SL.rn (by decide),(λx hx=>Nat.le_trans (SL.ri x hx).2 (by decide)),λH2 l us ls s2 nl hl g lv ll=>?_⟩
 have s02:=s1.trans s2
 have S2:=SL.same s2
 refine⟨_,rfl,a,ns,2,rfl,s02.seq hS,n1000,by decide,by decide,λc2=>⟨_,_,rfl,rfl,(by show(0:Int) < 8;decide),_,_,rfl,rfl,⟨by decide,by decide⟩,?_⟩⟩
 have b2:=zbH c2 (show(0:Int) < 8 by decide)
 refine⟨_,rfl,(by show -(2 ^ 62)≤c2 % 8 / 2;omega),(by show c2 % 8 / 2 < 2 ^ 62;omega),zaL (lo:=0) (n:=(c2 % 8 / 2).toNat) (λi σ H'=>ai H2 H'∧∃(v3 v4:Option V) (l:Addr) (us:List V),σ=[some (.ref a),some (.ref p),some (.ref l),v3,v4,none,none,none,none,none]∧H' l=some (.lst us)∧ze9 K H' T'.length As.length i us) ⟨ai.refl _,none,none,l,us,rfl,hl,ls,g,lv,by show ls.length+1≤20 * 2 ^ 0;omega⟩ ?_ ?_⟩
 ·rintro i σ H3 hi ⟨s3,v3,v4,l3,us3,rfl,hl3,pv3⟩
  have hi2:i≤2:=by omega
  have s03:=s02.trans s3
  refine⟨_,rfl,_,rfl,_,_,rfl,rfl,a,ns,_,rfl,s03.seq hS,n1000,(by show(0:Int)≤28+(0+(i:Int));omega),(by show 28+(0+(i:Int))≤1000;omega),λc=>?_⟩
  refine⟨_,rfl,_,rfl,_,rfl,p,tl,al,rl,l3,T',As,Rs++R1,c,us3,i,rfl,(S2.same s3).d,(by have:=S.t2;omega),a1,by omega,hl3,pv3,hi2,λH4 l4 us4 s4 hl4 r4=>?_⟩
  have s24:=s3.trans s4
  refine⟨_,rfl,_,_,rfl,rfl,(by show(0:Int) < 9;decide),lS4,λu hu=>?_⟩
  have sU:=ag hu (.tup [.int 3,.int 4,.int 5,.int 6])
  have nU:=ae (H:=H4) (a:=u) (o:=.tup [.int 3,.int 4,.int 5,.int 6])
  show(λHU:Hp=>_) (upd H4 u (.tup [.int 3,.int 4,.int 5,.int 6]))
  have pE:PapE K (upd H4 u (.tup [.int 3,.int 4,.int 5,.int 6])) T'.length As.length us4:=by
   rcases r4 with h | ⟨_,h⟩
   ·exact(h.same sU).e (by omega)
   ·rcases h with ⟨ls',g',w',n'⟩ | ⟨j,x,ls',e1,e2,e3,e4,e5⟩
    ·exact .inl ⟨ls',g'.keep sU.kt (zax _),w',n'⟩
    ·exact .inr ⟨j,x,ls',e1,e2.same sU,e3.keep sU.kt (zax _),e4,e5⟩
  have hl5:=sU _ _ hl4
  generalize upd H4 u (.tup [.int 3,.int 4,.int 5,.int 6])=HU at sU nU pE hl5
  refine⟨u,_,rfl,.inr (SqT.of nU),rfl,rfl,_,rfl,aJ (λ_=>?_) (λcc=>?_)⟩
  ·exact q5 D HU _ _ 28 a p tl al rl l4 ns us4 T' As (Rs++R1) ((s02.trans (s24.trans sU)).seq hS) n63 (by decide) (S2.same (s24.trans sU)) hl5 pE Q0
  ·rcases r4 with h | ⟨⟨h3,h6⟩,_⟩
   ·exact⟨s24.trans sU,_,_,l4,us4,rfl,hl5,h.same sU⟩
   ·refine absurd ?_ cc
    show inV (.int (c % 9)) ([3,4,5,6].map V.int)=true
    rw[zbN]
    refine decide_eq_true ?_
    have:c % 9=3∨c % 9=4∨c % 9=5∨c % 9=6:=by omega
    rcases this with e | e | e | e <;> rw[e] <;> decide
 ·rintro σ H3 ⟨s3,v3,v4,l3,us3,rfl,hl3,pv3⟩
  exact q5 D H3 _ _ 28 a p tl al rl l3 ns us3 T' As (Rs++R1) ((s02.trans s3).seq hS) n63 (by decide) (S2.same s3) hl3 (pv3.e (by omega)) Q0
theorem ok_law (F:Fun K "law" "law" zc8 f fd) (T:Txt K mg aK C CN CT CP CM) (BC:FB P w K mg base CX0 1 "_law_cell_at" fC dC ["_law_script","_law_k"] (zdd K)) (BP:FB P w K mg base CX0 5 "_law_small_by" fP dP ["_law_script","_law_first","_law_atoms"] (zgP K C)) (BU:FB P w K mg base CX0 3 "_law_units_added" fU dU ["_law_problem","_law_cell"] (zgO K C)) (BR:FB P w K mg base CX0 3 "_law_rows_added" fR dR' ["_law_problem","_law_script","_law_first","_law_many"] (zd3 K C)) (BB:FB P w K mg base CX0 7 "_law_paper_by" fB dB ["_law_problem"] (zha K C)) (BS:FB P w K mg base CX0 4 "_law_paper_spoilt" fS dS ["_law_problem","_law_paper","_law_cell"] (zg9 K C)) (BL:FB P w K mg base CX0 8 "lets_by" fL dL' ["problem","paper"] (zfh K C)) (BX:FB P w K mg base CX0 2 "_law_slots" fX dX ["_law_terms","_law_size"] (zdy K)) (BY:FB P w K mg base CX0 1 "_law_tables" fY dY ["_law_slots_here","_law_size"] (zdh K)) (BZ:FB P w K mg base CX0 1 "_law_values" fZ dZ ["_law_terms","_law_slots_here","_law_table"] (zdz K)) (BE:FB P w K mg base CX0 2 "_law_every" fE dE ["_law_problem","_law_values_here","_law_truths_here"] (zdA K C)):aI P w K mg base CX0 9 f fd ["_law_script"] (zeh K):=by
 refine F.ok zcj (λvs H Q E h=>?_) (λcdv A outer s H vs Q E hr h=>?_)
 ·obtain⟨a,ns,rfl,_⟩:=h
  rfl
 obtain⟨a,ns,rfl,hS,n63,Q0⟩:=h
 have n1000:ns.length≤1000:=by omega
 have hr1:zaq 1 _:=hr.mono (by decide)
 have hr3:zaq 3 _:=hr.mono (by decide)
 have hr5:zaq 5 _:=hr.mono (by decide)
 obtain⟨t2,h2,q2⟩:=law2 (f:=f) (outer:=outer) (H0:=H) (E:=E) T BC BR BB BS BL BX BY BZ BE hr
 refine⟨_,(af (aE (i:=1) zcj.nd rfl (Or.inl rfl) (aB BP.ok hr5 rfl BP.m BP.kp BP.b .nil aR (aa (pv 0) (aa ad (aa (aq zal ad (aq zad (aB BC.ok hr1 rfl BC.m BC.kp BC.b .nil aR (aa (pv 0) (aa ad ac))) ad)) ac)))))
  (af (aL (au zaf (aq zad (aB BC.ok hr1 rfl BC.m BC.kp BC.b .nil aR (aa (pv 0) (aa ad ac))) ad) ad)
   (ah (zak (aB BU.ok hr3 rfl BU.m BU.kp BU.b .nil aR (aa (pv 1) (aa (aq zau (aB BC.ok hr1 rfl BC.m BC.kp BC.b .nil aR (aa (pv 0) (aa ad ac))) ad) ac)))))
   aA)
  h2)),?_⟩
 try dsimp only [Cx.nox,Cx.wish,aV]
 refine⟨_,rfl,_,rfl,a,ns,0,rfl,hS,n1000,by decide,by decide,λc1=>⟨_,_,rfl,rfl,(by show(0:Int) < 3;decide),_,_,rfl,rfl,?_⟩⟩
 have b1:=zbH c1 (show(0:Int) < 3 by decide)
 refine⟨a,ns,4,1+c1 % 3,rfl,hS,n1000,by decide,by decide,by omega,by omega,λH1 p tl al rl T' As s1 np ft fa fr S1 t2 t6 aN a1 pl=>?_⟩
 have SL:PrL K C H1 p tl al rl T' As [] 0:=⟨S1.d,S1.wf,S1.ws,t2,t6,a1 (by omega),by omega,pl,(λx hx=>nomatch hx),nRq _⟩
 refine⟨_,rfl,a,ns,15,rfl,s1.seq hS,n1000,by decide,by decide,λc2=>⟨_,_,rfl,rfl,(by show(0:Int) < 2;decide),rfl,_,rfl,aJ (λ_=>?_) (λ_=>?_)⟩⟩
 ·refine⟨_,rfl,_,rfl,a,ns,15,rfl,s1.seq hS,n1000,by decide,by decide,λc3=>⟨_,_,rfl,rfl,⟨by decide,by decide⟩,p,tl,al,rl,T',As,[],c3 / 2,rfl,S1.d,by omega,by decide,λH2 R2 S2 f2 r2 l2=>?_⟩⟩
  have SL2:=SL.rows S2 r2 l2
  exact q2 _ H H2 a p tl al rl ns T' As ([]++R2) hS n63 (f2.fresh s1 fa fr) fa fr ⟨SL2.d,SL2.wf,SL2.ws,SL2.t2,SL2.t6,SL2.a1,SL2.a3,SL2.pl,SL2.ri,Nat.le_trans SL2.rn (by omega)⟩ Q0
 ·exact q2 _ H H1 a p tl al rl ns T' As [] hS n63 s1 fa fr ⟨SL.d,SL.wf,SL.ws,SL.t2,SL.t6,SL.a1,SL.a3,SL.pl,SL.ri,Nat.zero_le _⟩ Q0
theorem all_mk {l:W.OpenLaw} {w:World} {K:W.Frag} {h:Heap} {mg:Str→Option Value} {fa aK C CN CT CP CM CG f1 f2 f3 f4 f5 f6 f7 f8 f9 f10 f11 f12 f13 f14 f15 f16 f17 f18 f19 f20 f21 f22 f23 f24 f25 f26 f27 f28 f29 f30 f31 f32 f33 f34 f35 f36 f37 f38 f39 f40 f41 f42 f43 f44 f45 f46 f47 f48 f49 f50 f51 f52 f53 f54 f55 f56 f57 f58 f59 f60 f61:Addr} (X:K.In h) (G:h.Ns mainGlobals mg) (hfa:mg "law"=some (.ref fa))
  {d1 d2 d3 d4 d5 d6 d7 d8 d9 d10 d11 d12 d13 d14 d15 d16 d17 d18 d19 d20 d21 d22 d23 d24 d25 d26 d27 d28 d29 d30 d31 d32 d33 d34 d35 d36 d37 d38 d39 d40 d41 d42 d43 d44 d45 d46 d47 d48 d49 d50 d51 d52 d53 d54 d55 d56 d57 d58 d59 d60 d61:FuncData} {odK:Option Addr} {slK:Array (Option Value)} {t1 t2 t3 t4 t5 t6 t7 u1 u2 u3 u4 u5 u6 u7 u8:Tok} {nK:Nat}
  (aC:W.nsIn K mainGlobals "Problem"=some (some (.ref C)))
  (aN:W.nsIn K mainGlobals "BadName"=some (some (.ref CN)))
  (aT:W.nsIn K mainGlobals "BadTerm"=some (some (.ref CT)))
  (aP:W.nsIn K mainGlobals "BadPart"=some (some (.ref CP)))
  (aM:W.nsIn K mainGlobals "TooMany"=some (some (.ref CM)))
  (aG:W.nsIn K mainGlobals "Groups"=some (some (.ref CG)))
  (y1:FT K "is_word" "is_word" zhB f1 d1)
  (y2:FT K "is_name" "is_name" zhC f2 d2)
  (y3:FT K "ask_name" "ask_name" zgX f3 d3)
  (y4:FT K "once_each" "once_each" sOnce f4 d4)
  (y5:FT K "place_of" "place_of" ziq f5 d5)
  (y6:FT K "not_failing" "not_failing" s_not_failing f6 d6)
  (y7:FT K "is_learnt" "is_learnt" s_is_learnt f7 d7)
  (y8:FT K "sameness" "sameness" zft f8 d8)
  (y9:FT K "is_told" "is_told" zf2 f9 d9)
  (y10:FT K "is_alike" "is_alike" zd6 f10 d10)
  (y11:FT K "is_right_lines" "is_right" zfu f11 d11)
  (y12:FT K "says_joined" "says_joined" zdV f12 d12)
  (y13:FT K "is_equal" "is_equal" zd5 f13 d13)
  (y14:FT K "is_number" "is_number" zdJ f14 d14)
  (y15:FT K "are_parts" "are_parts" zc6 f15 d15)
  (y16:FT K "are_numbers" "are_numbers" zck f16 d16)
  (y17:FT K "are_links" "are_links" zc7 f17 d17)
  (y18:FT K "is_right_papers" "is_right" zbC f18 d18)
  (y19:FT K "fault" "fault" zeZ f19 d19)
  (y20:FT K "lets_by" "lets_by" zdP f20 d20)
  (y21:FT K "_law_cell_at" "_law_cell_at" sCell f21 d21)
  (y22:FT K "_law_small_by" "_law_small_by" zdr f22 d22)
  (y23:FT K "_law_units_added" "_law_units_added" zbc f23 d23)
  (y24:FT K "_law_rows_added" "_law_rows_added" zc1 f24 d24)
  (y25:FT K "_law_merged" "_law_merged" zdc f25 d25)
  (y26:FT K "_law_alike" "_law_alike" zcL f26 d26)
  (y27:FT K "_law_next" "_law_next" zeR f27 d27)
  (y28:FT K "_law_links" "_law_links" zer f28 d28)
  (y29:FT K "_law_aim" "_law_aim" zfv f29 d29)
  (y30:FT K "_law_links_spoilt" "_law_links_spoilt" zcw f30 d30)
  (y31:FT K "_law_link_right" "_law_link_right" zc2 f31 d31)
  (y32:FT K "_law_equal" "_law_equal" zeu f32 d32)
  (y33:FT K "_law_left" "_law_left" s__law_left f33 d33)
  (y34:FT K "_law_hints" "_law_hints" s__law_hints f34 d34)
  (y35:FT K "_law_right" "_law_right" s__law_right f35 d35)
  (y36:FT K "_law_spoilt" "_law_spoilt" s__law_spoilt f36 d36)
  (y37:FT K "_law_refuted" "_law_refuted" zbr f37 d37)
  (y38:FT K "_law_paper_by" "_law_paper_by" zcB f38 d38)
  (y39:FT K "_law_nearly" "_law_nearly" zcl f39 d39)
  (y40:FT K "_law_put_in" "_law_put_in" zbX f40 d40)
  (y41:FT K "_law_truths" "_law_truths" zdW f41 d41)
  (y42:FT K "_law_line_spoilt" "_law_line_spoilt" zcM f42 d42)
  (y43:FT K "_law_paper_spoilt" "_law_paper_spoilt" zcv f43 d43)
  (y44:FT K "_law_slots" "_law_slots" zeq f44 d44)
  (y45:FT K "_law_longer" "_law_longer" zdY f45 d45)
  (y46:FT K "_law_tables" "_law_tables" zdX f46 d46)
  (y47:FT K "_law_values" "_law_values" zdb f47 d47)
  (y48:FT K "_law_holds" "_law_holds" zes f48 d48)
  (y49:FT K "_law_every" "_law_every" zet f49 d49)
  (y50:FT K "law" "law" zc8 f50 d50)
  (y51:FM K C "__init__" "Problem.__init__" zjL f51 d51)
  (y52:FM K C "ask_term" "Problem.ask_term" zgV f52 d52)
  (y53:FM K C "ask_part" "Problem.ask_part" zgW f53 d53)
  (y54:FM K C "add_term" "Problem.add_term" sAdd f54 d54)
  (y55:FM K C "add_plain" "Problem.add_plain" zio f55 d55)
  (y56:FM K C "add_same" "Problem.add_same" zjK f56 d56)
  (y57:FM K C "add_row" "Problem.add_row" sRow f57 d57)
  (y58:FM K CG "__init__" "Groups.__init__" zim f58 d58)
  (y59:FM K CG "head" "Groups.head" zin f59 d59)
  (y60:FM K CG "together" "Groups.together" zfs f60 d60)
  (y61:FM K CG "merge" "Groups.merge" zd8 f61 d61)
  (s1:W.nsIn K mainGlobals "SMALL_LETTERS"=some (some (.str abc t1)))
  (s2:W.nsIn K mainGlobals "LONGEST_NAME"=some (some (.int 8 t2)))
  (s3:W.nsIn K mainGlobals "MOST_TERM_PARTS"=some (some (.int 3 t3)))
  (s4:W.nsIn K mainGlobals "MOST_TERMS"=some (some (.int 60 t4)))
  (s5:W.nsIn K mainGlobals "MOST_ATOMS"=some (some (.int 40 t5)))
  (s6:W.nsIn K mainGlobals "MOST_ROW_PARTS"=some (some (.int 20 t6)))
  (s7:W.nsIn K mainGlobals "MOST_ROWS"=some (some (.int 200 t7)))
  (s8:W.nsIn K mainGlobals "KEPT_WORDS"=some (some (.ref aK)))
  (s9:K.lookup aK=some ⟨.type "tuple",odK,.seq #[.str "or" u1,.str "and" u2,.str "not" u3,.str "never" u4,.str "always" u5,.str "then" u6,.str "as" u7,.str "unlike" u8] nK,slK⟩)
  (z_len:W.nsIn K mainGlobals "len"=some none)
  (z_all:W.nsIn K mainGlobals "all"=some none)
  (z_range:W.nsIn K mainGlobals "range"=some none)
  (z_isinstance:W.nsIn K mainGlobals "isinstance"=some none)
  (z_bool:W.nsIn K mainGlobals "bool"=some none)
  (z_tuple:W.nsIn K mainGlobals "tuple"=some none)
  (z_abs:W.nsIn K mainGlobals "abs"=some none)
  (z_min:W.nsIn K mainGlobals "min"=some none)
  (z_max:W.nsIn K mainGlobals "max"=some none)
  (z_zip:W.nsIn K mainGlobals "zip"=some none)
  (z_any:W.nsIn K mainGlobals "any"=some none)
  (z_list:W.nsIn K mainGlobals "list"=some none)
  (z_dict:W.nsIn K mainGlobals "dict"=some none)
  (z_sorted:W.nsIn K mainGlobals "sorted"=some none)
  (z_enumerate:W.nsIn K mainGlobals "enumerate"=some none)
  (z_int:W.nsIn K mainGlobals "int"=some none)
  (z_str:W.nsIn K mainGlobals "str"=some none)
  (pg:W.plainGet K C Str.empty=true)
  (hd:W.hasDictIn K C=true)
  (po:W.plainOver K C=true)
  (sa:W.findIn K (.ref C) "__setattr__"=some (some (.builtin "object.__setattr__")))
  (mk:W.makesIn K C=true)
  (kc:W.keepIn K (.ref C)=true)
  (nT:W.findIn K (.ref C) "terms"=some none)
  (nA:W.findIn K (.ref C) "atoms"=some none)
  (nR:W.findIn K (.ref C) "rows"=some none)
  (xN:W.excIn K CN bmV "ValueError.__new__"=true)
  (xT:W.excIn K CT bmV "ValueError.__new__"=true)
  (xP:W.excIn K CP bmV "ValueError.__new__"=true)
  (xM:W.excIn K CM bmV "ValueError.__new__"=true)
  (pgG:W.plainGet K CG Str.empty=true)
  (hdG:W.hasDictIn K CG=true)
  (poG:W.plainOver K CG=true)
  (saG:W.findIn K (.ref CG) "__setattr__"=some (some (.builtin "object.__setattr__")))
  (mkG:W.makesIn K CG=true)
  (kcG:W.keepIn K (.ref CG)=true)
  (nL:W.findIn K (.ref CG) "least"=some none)
  (nG:W.findIn K (.ref CG) "gathered"=some none)
  (z_ib:W.kitOne K (.type "int") (.type "bool")=some false)
  (z_bi:W.kitOne K (.type "bool") (.type "int")=some true)
  (z_ti:W.kitOne K (.type "tuple") (.type "int")=some false)
  : ∃ fd:FuncData,(∀(s:Shared) (v:Value),BindsTo s fd ⟨[v],[]⟩ [("_law_script",v)])∧∀ base:Heap,K.In base→base.Ns mainGlobals mg→aI l.prog w K mg base CX0 9 fa fd ["_law_script"] (zeh K):=by
 have e:=hfa.symm.trans (y50.m X G)
 cases e
 have T:Txt K mg aK C CN CT CP CM:=⟨⟨_,W.mg_of X G s1⟩,⟨_,W.mg_of X G s2⟩,⟨_,W.mg_of X G s3⟩,⟨_,W.mg_of X G s4⟩,⟨_,W.mg_of X G s5⟩,⟨_,W.mg_of X G s6⟩,⟨_,W.mg_of X G s7⟩,W.mg_of X G s8,λH=>.inr ⟨_,_,_,s9,rfl,rfl,(by show 8≤sizeLine;decide),.cons ⟨_,rfl⟩ (.cons ⟨_,rfl⟩ (.cons ⟨_,rfl⟩ (.cons ⟨_,rfl⟩ (.cons ⟨_,rfl⟩ (.cons ⟨_,rfl⟩ (.cons ⟨_,rfl⟩ (.cons ⟨_,rfl⟩ .nil)))))))⟩,W.mg_none_of X G z_len,W.mg_none_of X G z_all,W.mg_none_of X G z_range,W.mg_none_of X G z_isinstance,W.mg_none_of X G z_bool,W.mg_none_of X G z_tuple,W.mg_none_of X G z_abs,W.mg_of X G aN,W.mg_of X G aT,W.mg_of X G aP,W.mg_of X G aM,xN,xT,xP,xM,⟨pg,hd,po,sa⟩,nT,nA,nR⟩
 have TG:TxG K mg CG:=⟨⟨pgG,hdG,poG,saG⟩,nL,nG,W.mg_none_of X G z_min,W.mg_none_of X G z_max,W.mg_none_of X G z_range⟩
 have TL:Ls36.Txt K mg:=⟨W.mg_none_of X G z_len,W.mg_none_of X G z_min,W.mg_none_of X G z_max,W.mg_none_of X G z_dict⟩
 have TX:Ls36.TxL K mg:=⟨W.mg_none_of X G z_len,W.mg_none_of X G z_range,W.mg_none_of X G z_tuple,W.mg_none_of X G z_list⟩
 have TP:TxP K mg:=⟨W.mg_none_of X G z_int,W.mg_none_of X G z_str,W.mg_none_of X G z_list,W.mg_none_of X G z_enumerate,z_ib⟩
 have b1:aH K d1 ["text"] []:=y1.F.b1 λ_ _ _ _ _ _ _=>rfl
 have b2:aH K d2 ["word"] []:=y2.F.b1 λ_ _ _ _ _ _ _=>rfl
 have b3:aH K d3 ["word"] []:=y3.F.b1 λ_ _ _ _ _ _ _=>rfl
 have b4:aH K d4 ["parts"] []:=y4.F.b1 λ_ _ _ _ _ _ _=>rfl
 have b5:aH K d5 ["thing","things","most"] []:=y5.F.b3 λ_ _ _ _ _ _ _ _ _=>rfl
 have b6:aH K d6 ["row","held"] []:=y6.F.b2 λ_ _ _ _ _ _ _ _=>rfl
 have b7:aH K d7 ["rows","parts","hints"] []:=y7.F.b3 λ_ _ _ _ _ _ _ _ _=>rfl
 have b8:aH K d8 ["problem","number"] []:=y8.F.b2 λ_ _ _ _ _ _ _ _=>rfl
 have b9:aH K d9 ["problem","parts","link"] []:=y9.F.b3 λ_ _ _ _ _ _ _ _ _=>rfl
 have b10:aH K d10 ["terms","link","groups"] []:=y10.F.b3 λ_ _ _ _ _ _ _ _ _=>rfl
 have b11:aH K d11 ["problem","parts","link","groups"] []:=y11.F.b4 λ_ _ _ _ _ _ _ _ _ _=>rfl
 have b12:aH K d12 ["problem","part","groups"] []:=y12.F.b3 λ_ _ _ _ _ _ _ _ _=>rfl
 have b13:aH K d13 ["problem","parts","links"] []:=y13.F.b3 λ_ _ _ _ _ _ _ _ _=>rfl
 have b14:aH K d14 ["thing"] []:=y14.F.b1 λ_ _ _ _ _ _ _=>rfl
 have b15:aH K d15 ["problem","parts"] []:=y15.F.b2 λ_ _ _ _ _ _ _ _=>rfl
 have b16:aH K d16 ["things"] []:=y16.F.b1 λ_ _ _ _ _ _ _=>rfl
 have b17:aH K d17 ["things"] []:=y17.F.b1 λ_ _ _ _ _ _ _=>rfl
 have b18:aH K d18 ["problem","rows","line"] []:=y18.F.b3 λ_ _ _ _ _ _ _ _ _=>rfl
 have b19:aH K d19 ["problem","paper"] []:=y19.F.b2 λ_ _ _ _ _ _ _ _=>rfl
 have b20:aH K d20 ["problem","paper"] []:=y20.F.b2 λ_ _ _ _ _ _ _ _=>rfl
 have b21:aH K d21 ["_law_script","_law_k"] []:=y21.F.b2 λ_ _ _ _ _ _ _ _=>rfl
 have b22:aH K d22 ["_law_script","_law_first","_law_atoms"] []:=y22.F.b3 λ_ _ _ _ _ _ _ _ _=>rfl
 have b23:aH K d23 ["_law_problem","_law_cell"] []:=y23.F.b2 λ_ _ _ _ _ _ _ _=>rfl
 have b24:aH K d24 ["_law_problem","_law_script","_law_first","_law_many"] []:=y24.F.b4 λ_ _ _ _ _ _ _ _ _ _=>rfl
 have b25:aH K d25 ["_law_roots","_law_one","_law_other"] []:=y25.F.b3 λ_ _ _ _ _ _ _ _ _=>rfl
 have b26:aH K d26 ["_law_terms","_law_roots","_law_one","_law_other"] []:=y26.F.b4 λ_ _ _ _ _ _ _ _ _ _=>rfl
 have b27:aH K d27 ["_law_problem","_law_parts","_law_roots"] []:=y27.F.b3 λ_ _ _ _ _ _ _ _ _=>rfl
 have b28:aH K d28 ["_law_problem","_law_parts"] []:=y28.F.b2 λ_ _ _ _ _ _ _ _=>rfl
 have b29:aH K d29 ["_law_problem","_law_parts"] []:=y29.F.b2 λ_ _ _ _ _ _ _ _=>rfl
 have b30:aH K d30 ["_law_problem","_law_parts","_law_bonds","_law_cell"] []:=y30.F.b4 λ_ _ _ _ _ _ _ _ _ _=>rfl
 have b31:aH K d31 ["_law_problem","_law_parts","_law_roots","_law_link"] []:=y31.F.b4 λ_ _ _ _ _ _ _ _ _ _=>rfl
 have b32:aH K d32 ["_law_problem","_law_parts","_law_bonds"] []:=y32.F.b3 λ_ _ _ _ _ _ _ _ _=>rfl
 have b33:aH K d33 ["_law_row","_law_held"] []:=y33.F.b2 λ_ _ _ _ _ _ _ _=>rfl
 have b34:aH K d34 ["_law_rows","_law_parts"] []:=y34.F.b2 λ_ _ _ _ _ _ _ _=>rfl
 have b35:aH K d35 ["_law_rows","_law_parts","_law_hints_here"] []:=y35.F.b3 λ_ _ _ _ _ _ _ _ _=>rfl
 have b36:aH K d36 ["_law_hints_here","_law_many","_law_cell"] []:=y36.F.b3 λ_ _ _ _ _ _ _ _ _=>rfl
 have b37:aH K d37 ["_law_rows","_law_picked","_law_atoms"] []:=y37.F.b3 λ_ _ _ _ _ _ _ _ _=>rfl
 have b38:aH K d38 ["_law_problem"] []:=y38.F.b1 λ_ _ _ _ _ _ _=>rfl
 have b39:aH K d39 ["_law_problem","_law_cell"] []:=y39.F.b2 λ_ _ _ _ _ _ _ _=>rfl
 have b40:aH K d40 ["_law_problem","_law_paper","_law_at","_law_again"] []:=y40.F.b4 λ_ _ _ _ _ _ _ _ _ _=>rfl
 have b41:aH K d41 ["_law_line"] []:=y41.F.b1 λ_ _ _ _ _ _ _=>rfl
 have b42:aH K d42 ["_law_problem","_law_line","_law_many","_law_cell"] []:=y42.F.b4 λ_ _ _ _ _ _ _ _ _ _=>rfl
 have b43:aH K d43 ["_law_problem","_law_paper","_law_cell"] []:=y43.F.b3 λ_ _ _ _ _ _ _ _ _=>rfl
 have b44:aH K d44 ["_law_terms","_law_size"] []:=y44.F.b2 λ_ _ _ _ _ _ _ _=>rfl
 have b45:aH K d45 ["_law_rows","_law_size"] []:=y45.F.b2 λ_ _ _ _ _ _ _ _=>rfl
 have b46:aH K d46 ["_law_slots_here","_law_size"] []:=y46.F.b2 λ_ _ _ _ _ _ _ _=>rfl
 have b47:aH K d47 ["_law_terms","_law_slots_here","_law_table"] []:=y47.F.b3 λ_ _ _ _ _ _ _ _ _=>rfl
 have b48:aH K d48 ["_law_problem","_law_row","_law_values_here","_law_truths_here"] []:=y48.F.b4 λ_ _ _ _ _ _ _ _ _ _=>rfl
 have b49:aH K d49 ["_law_problem","_law_values_here","_law_truths_here"] []:=y49.F.b3 λ_ _ _ _ _ _ _ _ _=>rfl
 have b51:aH K d51 ["self"] []:=y51.F.b1 λ_ _ _ _ _ _ _=>rfl
 have b52:aH K d52 ["self","number"] []:=y52.F.b2 λ_ _ _ _ _ _ _ _=>rfl
 have b53:aH K d53 ["self","part"] []:=y53.F.b2 λ_ _ _ _ _ _ _ _=>rfl
 have b54:aH K d54 ["self","name","parts"] []:=y54.F.b3 λ_ _ _ _ _ _ _ _ _=>rfl
 have b55:aH K d55 ["self","name"] []:=y55.F.b2 λ_ _ _ _ _ _ _ _=>rfl
 have b56:aH K d56 ["self","one","other"] []:=y56.F.b3 λ_ _ _ _ _ _ _ _ _=>rfl
 have b57:aH K d57 ["self","parts"] []:=y57.F.b2 λ_ _ _ _ _ _ _ _=>rfl
 have b58:aH K d58 ["self"] []:=y58.F.b1 λ_ _ _ _ _ _ _=>rfl
 have b59:aH K d59 ["self","term"] []:=y59.F.b2 λ_ _ _ _ _ _ _ _=>rfl
 have b60:aH K d60 ["self","one","other"] []:=y60.F.b3 λ_ _ _ _ _ _ _ _ _=>rfl
 have b61:aH K d61 ["self","one","other"] []:=y61.F.b3 λ_ _ _ _ _ _ _ _ _=>rfl
 refine⟨_,y50.F.top λ_ _ _ _ _ _ _=>rfl,λbase _ _=>?_⟩
 have G1:=zk0 (P:=l.prog) (w:=w) (base:=base) y1.F T
 have G2:=zk1 y2.F T G1 b1 y1.k (y1.m X G)
 have G3:=zjZ y3.F T G2 b2 y2.k (y2.m X G)
 have G4:=zms (P:=l.prog) (w:=w) (base:=base) y4.F T
 have G5:=zlG (P:=l.prog) (w:=w) (base:=base) y5.F T
 have G51:=ok_init (P:=l.prog) (w:=w) (base:=base) y51.F T
 have G52:=zjX (P:=l.prog) (w:=w) (base:=base) y52.F T
 have G53:=zjY (P:=l.prog) (w:=w) (base:=base) y53.F T
 have G54:=ok_add y54.F T G3 b3 y3.k (y3.m X G) G52 b52 y52.M G5 b5 y5.k (y5.m X G)
 have G55:=zlF y55.F T G3 b3 y3.k (y3.m X G) G5 b5 y5.k (y5.m X G)
 have G56:=zmq y56.F T G52 b52 y52.M G5 b5 y5.k (y5.m X G)
 have G57:=ok_row y57.F T G53 b53 y53.M G4 b4 y4.k (y4.m X G)
 have GR4:=G57.mono (k:=4) (by decide)
 have GS4:=G56.mono (k:=4) (by decide)
 have MKI:Mk K C f51:=⟨mk,y51.a,y51.i,kc⟩
 have OW:Own l.prog w K mg base C CN CT CP CM f51 f54 f55 f56 _ _ _ _:=⟨G51,b51,MKI,W.mg_of X G aC,G54,b54,y54.M,G55,b55,y55.M,GS4,b56,y56.M⟩
 have MKG:Mk K CG f58:=⟨mkG,y58.a,y58.i,kcG⟩
 have G58:=Gp.ok_init (P:=l.prog) (w:=w) (base:=base) y58.F TG
 have G59:=Gp.ok_head (P:=l.prog) (w:=w) (base:=base) y59.F TG
 have G60:=Gp.ok_together y60.F TG y59.M G59 b59
 have G61:=Gp.ok_merge y61.F TG y59.M G59 b59
 have OE:=Ls36.ok_once_each (P:=l.prog) (w:=w) (base:=base) y4.F (W.mg_none_of X G z_tuple)
 have G6:=Ls36.ok_not_failing y6.F ⟨OE,b4,y4.k,(y4.m X G)⟩
 have G7:=Ls36.ok_is_learnt y7.F TL ⟨G6,b6,y6.k,(y6.m X G)⟩
 have G8:=zi6 (P:=l.prog) (w:=w) (base:=base) y8.F T
 have G9:=zmo y9.F T (y8.m X G) G8 b8 y8.k
 have G10:=zlQ y10.F T TG (W.mg_none_of X G z_zip) (W.mg_none_of X G z_all) y60.M G60 b60
 have G11:=ok_right y11.F T TG (y9.m X G) G9 b9 y9.k (y10.m X G) G10 b10 y10.k
 have G12:=zmp y12.F TG (y8.m X G) G8 b8 y8.k y60.M G60 b60
 have G13:=zlO y13.F T TG (W.mg_none_of X G z_any) MKG (W.mg_of X G aG) G58 b58 y61.M G61 b61 (y11.m X G) G11 b11 y11.k (y12.m X G) G12 b12 y12.k
 have G14:=zfc (ok_num (P:=l.prog) (w:=w) (base:=base) y14.F T TP) (zmt (P:=l.prog) (w:=w) (base:=base) y14.F T TP z_bi)
 have G15:=zkQ y15.F T ⟨G14,b14,y14.k,(y14.m X G)⟩
 have G16:=zi8 y16.F T ⟨G14,b14,y14.k,(y14.m X G)⟩
 have G17:=zkW y17.F T ⟨G16,b16,y16.k,(y16.m X G)⟩
 have G18:=zkO y18.F T TP ⟨G15,b15,y15.k,(y15.m X G)⟩ ⟨G16,b16,y16.k,(y16.m X G)⟩ ⟨G17,b17,y17.k,(y17.m X G)⟩ ⟨G7,b7,y7.k,(y7.m X G)⟩ ⟨G13,b13,y13.k,(y13.m X G)⟩
 have G19:=zk3 y19.F T TP ⟨G18,b18,y18.k,(y18.m X G)⟩
 have G20:=zlL y20.F ⟨G19,b19,y19.k,(y19.m X G)⟩
 have G21:=zlP (P:=l.prog) (w:=w) (base:=base) y21.F T
 have G22:=zlD y22.F T (W.mg_none_of X G z_range) (W.mg_none_of X G z_max) OW ⟨G21,b21,y21.k,(y21.m X G)⟩
 have G23:=zlC y23.F T G57 b57 y57.M
 have G24:=zjU y24.F T G57 b57 y57.M ⟨G21,b21,y21.k,(y21.m X G)⟩
 have G25:=zjW (P:=l.prog) (w:=w) (base:=base) (mg:=mg) y25.F
 have G26:=zkZ (P:=l.prog) (w:=w) (base:=base) y26.F T
 have G27:=zmu y27.F T (W.mg_none_of X G z_range) (W.mg_none_of X G z_abs) ⟨G26,b26,y26.k,(y26.m X G)⟩
 have G28:=zkU y28.F T (W.mg_none_of X G z_list) (W.mg_none_of X G z_range) ⟨G27,b27,y27.k,(y27.m X G)⟩ ⟨G25,b25,y25.k,(y25.m X G)⟩
 have G29:=ok_aim (P:=l.prog) (w:=w) (base:=base) y29.F T
 have G30:=ok_spoilt y30.F T ⟨G29,b29,y29.k,(y29.m X G)⟩
 have G31:=zkS y31.F T (W.mg_none_of X G z_sorted) (y26.m X G) G26 b26 y26.k
 have G32:=zkY y32.F T (W.mg_none_of X G z_list) (W.mg_none_of X G z_range) (W.mg_none_of X G z_abs) (y31.m X G) G31 b31 y31.k (y25.m X G) G25 b25 y25.k
 have G33:=Ls36.ok_left (mg:=mg) (P:=l.prog) (w:=w) (base:=base) y33.F
 have G34:=Ls36.ok_hints y34.F TX ⟨G33,b33,y33.k,(y33.m X G)⟩
 have G35:=Ls36.ok_right y35.F TX ⟨G33,b33,y33.k,(y33.m X G)⟩
 have G36:=Ls36.ok_spoilt (P:=l.prog) (w:=w) (base:=base) y36.F TX
 have G37:=zmr y37.F T ⟨G34,b34,y34.k,(y34.m X G)⟩ ⟨G35,b35,y35.k,(y35.m X G)⟩ b37 y37.k (y37.m X G)
 have G38:=ok_pby y38.F T ⟨G28,b28,y28.k,(y28.m X G)⟩ ⟨G32,b32,y32.k,(y32.m X G)⟩ ⟨G37,b37,y37.k,(y37.m X G)⟩
 have G39:=zkR (P:=l.prog) (w:=w) (base:=base) y39.F T
 have G40:=ok_put (P:=l.prog) (w:=w) (base:=base) y40.F T TP
 have G41:=zkK (P:=l.prog) (w:=w) (base:=base) y41.F T TP z_ti
 have G42:=ok_lsp y42.F T TP ⟨G36,b36,y36.k,(y36.m X G)⟩ ⟨G30,b30,y30.k,(y30.m X G)⟩
 have G43:=ok_psp y43.F T ⟨G42,b42,y42.k,(y42.m X G)⟩ ⟨G39,b39,y39.k,(y39.m X G)⟩ ⟨G41,b41,y41.k,(y41.m X G)⟩ ⟨G40,b40,y40.k,(y40.m X G)⟩
 have G45:=zkT (P:=l.prog) (w:=w) (base:=base) y45.F (W.mg_none_of X G z_range)
 have G44:=zlE y44.F ⟨G45,b45,y45.k,(y45.m X G)⟩
 have G46:=zkL (P:=l.prog) (w:=w) (base:=base) y46.F (W.mg_none_of X G z_range)
 have G47:=zlI (P:=l.prog) (w:=w) (base:=base) y47.F (W.mg_none_of X G z_tuple)
 have G48:=zkX (P:=l.prog) (w:=w) (base:=base) y48.F T (W.mg_none_of X G z_abs)
 have G49:=zlN y49.F T ⟨G48,b48,y48.k,(y48.m X G)⟩
 exact ok_law y50.F T ⟨G21,b21,y21.k,(y21.m X G)⟩ ⟨G22,b22,y22.k,(y22.m X G)⟩ ⟨G23,b23,y23.k,(y23.m X G)⟩ ⟨G24,b24,y24.k,(y24.m X G)⟩ ⟨G38,b38,y38.k,(y38.m X G)⟩ ⟨G43,b43,y43.k,(y43.m X G)⟩ ⟨G20,b20,y20.k,(y20.m X G)⟩ ⟨G44,b44,y44.k,(y44.m X G)⟩ ⟨G46,b46,y46.k,(y46.m X G)⟩ ⟨G47,b47,y47.k,(y47.m X G)⟩ ⟨G49,b49,y49.k,(y49.m X G)⟩
theorem walk {l:W.OpenLaw} {q:Program} {loose:List Str} {XP:(Str→Option Value)→Heap→Prop} {YP:World→Heap→Prop} {d:DefRec} {K:Params→W.Frag} (hn:l.most=some 63) (hdf:d.params.defaults=[])
  (hY:∀(w:World) (h:Heap),YP w h→(K w.params).In h)
  (F:∀(w:World) (mg:Str→Option Value) (fa:Addr) (h:Heap),(K w.params).In h→h.Ns mainGlobals mg→mg d.name=some (.ref fa) →
   ∃ fd:FuncData,(∀(s:Shared) (u:Value),BindsTo s fd ⟨[u],[]⟩ [("_law_script",u)])∧∀ base:Heap,(K w.params).In base→base.Ns mainGlobals mg→aI l.prog w (K w.params) mg base CX0 9 fa fd ["_law_script"] (zeh (K w.params))) :
  W.WalkO q loose XP YP l.row.toRowW d [] (λf vs=>PySem.call f vs) :=
 L2.walk_of (n:=63) (k:=9) (x:="_law_script") (CX:=λ_=>CX0) (sp:=λw=>zeh (K w.params)) hn (by decide) hdf ⟨rfl,by decide,by decide,rfl⟩ hY F (λ_ _ a ns hl _ hS=>⟨a,ns,rfl,hS,hl,λ_=>rfl⟩) λ_ _ _ _ _ z=>z
end K36
inductive PySem.W.Fast:Prop|tw10335731249885081140|tw7744046859281701173|tw535312022747295040|tw2529693167549324149|tw6599078883120467404|tw14723975183883811881|tw6548319300520245306|tw5233984338025201660|tw2503721554314764759|tw129286534209350825|tw6865753841298605802|tw6575187225615735849|tw9099381700991721371|tw1760319659838233491|tw8229619141681361429|tw16109473935656604331|tw18065215622363394671|tw16808781236152251257|tw8842957108359765472|tw15994732614672895800|tw16221554308446278004|tw4238332478265499586|tw2514631912184697246|tw17710835575419148279|tw108673384057920421|tw17317120843401653307|tw17154591197763574666|tw4624994543330683355|tw18293456903608278736|tw13619769075108093133|tw905953867667327965|tw12225939724018920085|tw3966384699994001693|tw3615511951443737645|tw9292320227691071726|tw12223899265738507704|tw15326548125427310101|tw4639730019213208590|tw5778549946049188760|tw14369536845159051292|tw7053186211611994778|tw10807590003046188019|tw2396004271506146748|tw3864518650610865173|tw17770390982751095164|tw3855396724775700383|tw17065767714255003016|tw4398132592356734731|tw11711182516239383854|tw6369710705001835623|tw7114457043630131943|tw5251966235150829730|tw12384120700176987536|tw11127228503802457985|tw2409307038646116021|tw2453217661357443864|tw9175203258590183331|tw4371997585443561011|tw8802368173275181791|tw14034318378999417524
namespace PySem.W.Fast
def tw612570314002399371:=0
def tw1978006541028048646:=0
def tw16220267824744673444:=0
def tw15713927256996182371:=0
def tw9462922662270967226:=0
def tw12034292673646492821:=0
def tw8635986182274910080:=0
def tw2727201011183662406:=0
def tw9454604731072430839:=0
def tw14063478847422381275:=0
def tw7208058293022730795:=0
def tw14749264509702335501:=0
def tw166711559041545063:=0
def tw13663085982960321278:=0
def tw11101206007420808088:=0
def tw4641599644648898441:=0
def tw6432455195467454085:=0
def tw5215824116674842071:=0
def tw17805080222459187748:=0
def tw6171519031492122418:=0
def tw302319169770194237:=0
def tw12573834971483189689:=0
def tw5226208094435725579:=0
def tw9269093832899345001:=0
def tw15772055803345529699:=0
def tw15632462716064175019:=0
def tw13922489747143798785:=0
def tw1151006159589774741:=0
def tw11033085241467540834:=0
def tw13657235293220888717:=0
def tw16210948785613908090:=0
def tw11645502877550496689:=0
def tw11892312851763136948:=0
def tw16395281480398830590:=0
def tw12861965590484266111:=0
def tw10947966642155676067:=0
def tw16828503309656630728:=0
def tw11152537725107449319:=0
def tw8176546511308834849:=0
def tw16357885145100966389:=0
def tw13290154287203314616:=0
def tw6919222377035466097:=0
def tw2118221909027219103:=0
def tw2740879897259855440:=0
def tw13730781010690938681:=0
def tw10708603758434674362:=0
def tw5093200410669730402:=0
def tw325510793105366045:=0
def tw14988420045042182864:=0
def tw10748771531393322765:=0
def tw12636396744833686223:=0
def tw5635519574022786854:=0
def tw18146893667133570384:=0
def tw6701021256323773974:=0
def tw10664260618610895829:=0
def tw7077695742944838304:=0
def tw7842440891754197822:=0
def tw16352421653074599096:=0
def tw13834128909000124894:=0
def tw15315087911254521959:=0
def tw9662997292008018478:=0
def tw9826767212665158428:=0
def tw13152519549964317212:=0
def tw5077855773110226943:=0
def tw12685934611275844511:=0
def tw11602677016919650750:=0
def tw10200810479033093917:=0
def tw8054135475238353465:=0
def tw10531057370835071456:=0
def tw9899870795289907994:=0
def tw8695059867624239533:=0
def tw10804750630186589852:=0
def tw10962403015122637917:=0
def tw11062573223425391779:=0
def tw5022291885304827337:=0
def tw3716395123919569528:=0
def tw459581141825149995:=0
def tw324921991751649096:=0
def tw11496969611668627637:=0
def tw10300351089881064448:=0
def tw6475845806279210257:=0
def tw819204487637817062:=0
def tw386526159470354979:=0
def tw14230242534466565980:=0
def tw337501984391795388:=0
def tw940674735730167393:=0
def tw16279353753646665541:=0
def tw16628539010519474782:=0
def tw16819326356152593699:=0
def tw7076758977931237541:=0
def tw10751951870985584577:=0
def tw2889987302697266867:=0
def tw9696331451368846305:=0
def tw5863975130881912529:=0
def tw5046718601758116214:=0
def tw4195238594055101618:=0
def tw14349149046307437737:=0
def tw2994488092012397952:=0
def tw18310687187643697907:=0
def tw3933568343945268072:=0
def tw16560860866945801922:=0
def tw9099636293227605229:=0
def tw5483353445819395941:=0
def tw11110251670664441715:=0
def tw11421461138354505654:=0
def tw14789716568606540492:=0
def tw16493833970537623677:=0
def tw13697831227998393833:=0
def tw1329367149531266160:=0
def tw3111908657917165653:=0
def tw12933508327711656964:=0
def tw12259931627929781233:=0
def tw255960319068979852:=0
def tw5432266643516569635:=0
def tw4356194541752153709:=0
def tw5713119456101173581:=0
def tw7357845159875211637:=0
def tw17015157979868851597:=0
def tw12367381238330110944:=0
def tw7554047989614774906:=0
def tw9698752306785416169:=0
def tw6797135961543147908:=0
def tw6909766456640212963:=0
def tw9153132983145200293:=0
def tw15447994275388612578:=0
def tw13083052444371924090:=0
def tw3608291008786415271:=0
def tw18150793831102009560:=0
def tw7043776401265613120:=0
def tw12995471283996926879:=0
def tw6344798857010839370:=0
def tw2509447809394006234:=0
def tw17735984269420530278:=0
def tw8349684974105323262:=0
def tw5434430647668853442:=0
def tw10837404610150838353:=0
def tw13260230859192192904:=0
def tw10913085170947044456:=0
def tw12290572919792334423:=0
def tw8169862638969371052:=0
def tw10765544200288006755:=0
def tw12237011299459831472:=0
def tw5966310038974177298:=0
def tw3374714018997892069:=0
def tw9244761890510542726:=0
def tw17025938906290273586:=0
def tw11969102721019184067:=0
def tw2023504439134525304:=0
def tw14794486219442935702:=0
def tw2116254984589132502:=0
def tw3689984075935569592:=0
def tw11953852605190055204:=0
def tw12130637148832103384:=0
def tw14609662641273742620:=0
def tw7151693773579940241:=0
def tw11189318176232738095:=0
def tw15394886023175045046:=0
def tw12493765625936249050:=0
def tw13652257482177398670:=0
def tw16307180192953927029:=0
def tw4686150437977532851:=0
def tw11381551969233767495:=0
def tw6292849807393031743:=0
def tw2533583702516590408:=0
def tw4782915776917543428:=0
def tw4320420653221625902:=0
def tw8901748020314096128:=0
def tw12349432291773544837:=0
def tw3022056682638571296:=0
def tw8871838371267331309:=0
def tw1827814608442264058:=0
def tw619033422126649984:=0
def tw14742144698370076326:=0
def tw12822473789385939412:=0
def tw16158488201626718146:=0
def tw16597498543536131184:=0
def tw2780216066921491361:=0
def tw180259214621422327:=0
def tw13733778549228817074:=0
def tw3938368257049564915:=0
def tw11850110172772045877:=0
def tw7495712447539921468:=0
def tw11345273424334346772:=0
def tw2047318432081493413:=0
def tw7936510065571779305:=0
def tw10888201407244654292:=0
def tw4012847818002301618:=0
def tw7327430924523171863:=0
def tw15730967897615793947:=0
def tw10312248145426572674:=0
def tw16485089826363133486:=0
def tw2057935449282693923:=0
def tw3745433332675192684:=0
def tw1719182542575204332:=0
def tw17581260154132753118:=0
def tw9180272615063234634:=0
def tw17815436220385484994:=0
def tw12682941149569994476:=0
def tw12313985497112268484:=0
def tw8448531779510714454:=0
def tw5775372346120399028:=0
def tw5691926089532747700:=0
def tw8782979162315594133:=0
def tw3622148744318895031:=0
def tw12888237384612850953:=0
def tw3385292540076706202:=0
def tw3406099259198464251:=0
def tw5116330024278936386:=0
def tw14491337929557015252:=0
def tw8033171996177023507:=0
def tw1226634709495077955:=0
def tw12876635916455396428:=0
def tw17649164281388143011:=0
def tw952604017885377732:=0
def tw17489014095391885519:=0
def tw4452304819327071154:=0
def tw8685334941767896291:=0
def tw7209125209193681406:=0
def tw7986232545466199805:=0
def tw6704542339896522998:=0
def tw18305725600058730124:=0
def tw12614930114655601739:=0
def tw13157497774806813262:=0
def tw20700357025354084:=0
def tw8361298289107253594:=0
def tw3389541264489884546:=0
def tw18265636478193791945:=0
def tw15960073487794948190:=0
def tw7995974686990694834:=0
def tw5156491812129582691:=0
def tw75548834431761707:=0
def tw16893862181203537778:=0
def tw14175066147056917876:=0
def tw14946145461676738238:=0
def tw1663024768919407105:=0
def tw12099587210213312851:=0
def tw1570653375920300688:=0
def tw3936992365594365826:=0
def tw5657365602746693482:=0
def tw10705642608999863424:=0
def tw14076887227142124272:=0
def tw9753667099835119299:=0
def tw9873314389132662194:=0
def tw5565175959145339177:=0
def tw9600973934709876292:=0
def tw9860980448872541268:=0
def tw2338088500985933620:=0
def tw1881789262900188395:=0
def tw16040319776566863815:=0
def tw16931572916468281195:=0
def tw10620058325506828955:=0
def tw7618028297127075972:=0
def tw16061856924939338440:=0
def tw17495998217140629974:=0
def tw12424118579362314776:=0
def tw15133360208811860410:=0
def tw16353080160755604070:=0
def tw9474531419009230547:=0
def tw12397017000045978507:=0
def tw11430993472764135183:=0
def tw8840954226079165270:=0
def tw870529505563919439:=0
def tw15142220114933444304:=0
def tw309566504535708821:=0
def tw7507490399670079852:=0
def tw17861011902676965732:=0
def tw5227987908497168333:=0
def tw1209496089416125768:=0
def tw2542629319064503201:=0
def tw3423772691352345918:=0
def tw13288415799246907988:=0
def tw10622644729751822774:=0
def tw276535843697043589:=0
def tw8089542000330684320:=0
def tw11169721405200920296:=0
def tw1706921924968609858:=0
def tw5451183579339414197:=0
def tw15847919363260297708:=0
def tw59619288621446004:=0
def tw18246869544091193753:=0
def tw5282018057068403433:=0
def tw7372416139255547117:=0
def tw10842323367237762583:=0
def tw18164498999767064461:=0
def tw12244531468025993291:=0
def tw16727872285863580164:=0
def tw4590633587963630555:=0
def tw1864683339976714462:=0
def tw8443108253250336029:=0
def tw6045152170087048009:=0
def tw6772700463326664981:=0
def tw10801458097450412733:=0
def tw3768579558014034048:=0
def tw12626811532142762899:=0
def tw6040359359991688205:=0
def tw4552609552063320919:=0
def tw2511333708061935781:=0
def tw527115998167926959:=0
def tw2628799152189239832:=0
def tw8001351298840074428:=0
def tw17314059917158109804:=0
def tw4321421829455693579:=0
def tw10269419398596459503:=0
def tw10169772590208634618:=0
def tw10085577372702803568:=0
def tw4996150790679194894:=0
def tw12192985505713357793:=0
def tw9325612699081441376:=0
def tw14945254736088018473:=0
def tw17104399519090299539:=0
def tw3844027649368519301:=0
def tw14879289734048151805:=0
def tw9966598368784604850:=0
def tw16558203546393818743:=0
def tw13164626920884631863:=0
def tw7650232137848051218:=0
def tw10924093969947234230:=0
def tw10408773192806532463:=0
def tw14880726350794161426:=0
def tw4674442069811896598:=0
def tw14243083309759995070:=0
def tw411107532648505524:=0
def tw2572698738330929346:=0
def tw3635738006047972567:=0
def tw4878065162430112791:=0
def tw10874917506707423344:=0
def tw3212993739107312953:=0
def tw16307633315829610142:=0
def tw7005801908368819463:=0
def tw8273938513787652253:=0
def tw5899301162332309437:=0
def tw15213085089949444630:=0
def tw10798179382683840097:=0
def tw8920934058047015276:=0
def tw6646606707275618473:=0
def tw12217350492152060567:=0
def tw14024809237031442896:=0
def tw302980652863348368:=0
def tw14064795107138496798:=0
def tw13825096671984909685:=0
def tw1060995582195937211:=0
def tw6140676191127546432:=0
def tw373196949194945382:=0
def tw9268501087392713408:=0
def tw124217808716799121:=0
def tw12922394158541510775:=0
def tw3261674885161000469:=0
def tw5041241277107615303:=0
def tw7496913305599264198:=0
def tw14663736655274085781:=0
def tw4373760751079743412:=0
def tw5774545170608516409:=0
def tw4701220641234032425:=0
def tw15071976598809052012:=0
def tw11060111008627722990:=0
def tw901510580829706381:=0
def tw18197717566885250920:=0
def tw14685925433369742587:=0
def tw4983606451338955657:=0
def tw5178289817935919853:=0
def tw14321237042638990530:=0
def tw11555584993058260296:=0
def tw9288164062545760582:=0
def tw5175558628496392153:=0
def tw15526243552498170290:=0
def tw15844649574170635616:=0
def tw5587729240222125950:=0
def tw1075443561439628386:=0
def tw666866447635072413:=0
def tw9709192872332115877:=0
def tw8462888441090746643:=0
def tw17397748022495654628:=0
def tw1742338978285001684:=0
def tw5055399727687872027:=0
def tw13815992764448682313:=0
def tw1303324540416306296:=0
def tw9923868497755971893:=0
def tw12949735851821785509:=0
def tw17227146642858809316:=0
def tw7491190241994497581:=0
def tw5412695330217304771:=0
def tw15942029291489008467:=0
def tw6961543557269677451:=0
def tw18104623527339793779:=0
def tw10351559456802934784:=0
def tw18330876441837799806:=0
def tw3952001328673400590:=0
def tw9129955357743446223:=0
def tw8233419423189711401:=0
def tw16822849810211899630:=0
def tw5448185331759212223:=0
def tw17156034335398299247:=0
def tw1928504315785643124:=0
def tw5929610186850233011:=0
def tw1516423855355165146:=0
def tw13064077578462936700:=0
def tw6850809286802860659:=0
def tw15876454142955812045:=0
end PySem.W.Fast
open PySem PySem.W PyProof.Rows
set_option maxRecDepth 100000 in
set_option maxHeartbeats 0 in
theorem PySem.Challenge.cw_yesorno_k36_whole_let_by_holds : PySem.Challenge.rw_yesorno_k36_whole_let_by.Holds := by
 w_on;o_law;k_head;(case hw=>w_witness2)
 k_fill
 refine K36.walk (l:=PySem.Challenge.rw_yesorno_k36_whole_let_by) rfl rfl (λw h Y=>W.kIn_of Y) ?F
 case F =>
  intro w mg fa h KX G hmg
  refine' K36.all_mk KX G hmg ?aC ?aN ?aT ?aP ?aM ?aG ?y1 ?y2 ?y3 ?y4 ?y5 ?y6 ?y7 ?y8 ?y9 ?y10 ?y11 ?y12 ?y13 ?y14 ?y15 ?y16 ?y17 ?y18 ?y19 ?y20 ?y21 ?y22 ?y23 ?y24 ?y25 ?y26 ?y27 ?y28 ?y29 ?y30 ?y31 ?y32 ?y33 ?y34 ?y35 ?y36 ?y37 ?y38 ?y39 ?y40 ?y41 ?y42 ?y43 ?y44 ?y45 ?y46 ?y47 ?y48 ?y49 ?y50 ?y51 ?y52 ?y53 ?y54 ?y55 ?y56 ?y57 ?y58 ?y59 ?y60 ?y61 ?s1 ?s2 ?s3 ?s4 ?s5 ?s6 ?s7 ?s8 ?s9 ?z_len ?z_all ?z_range ?z_isinstance ?z_bool ?z_tuple ?z_abs ?z_min ?z_max ?z_zip ?z_any ?z_list ?z_dict ?z_sorted ?z_enumerate ?z_int ?z_str ?pg ?hd ?po ?sa ?mk ?kc ?nT ?nA ?nR ?xN ?xT ?xP ?xM ?pgG ?hdG ?poG ?saG ?mkG ?kcG ?nL ?nG ?z_ib ?z_bi ?z_ti
  (case aC=>k_is)
  (case aN=>k_is)
  (case aT=>k_is)
  (case aP=>k_is)
  (case aM=>k_is)
  (case aG=>k_is)
  (case y1=>exact L2.ft_in (by k_is) (by k_is) (by k_is) (by k_is))
  (case y2=>exact L2.ft_in (by k_is) (by k_is) (by k_is) (by k_is))
  (case y3=>exact L2.ft_in (by k_is) (by k_is) (by k_is) (by k_is))
  (case y4=>exact L2.ft_in (by k_is) (by k_is) (by k_is) (by k_is))
  (case y5=>exact L2.ft_in (by k_is) (by k_is) (by k_is) (by k_is))
  (case y6=>exact L2.ft_in (by k_is) (by k_is) (by k_is) (by k_is))
  (case y7=>exact L2.ft_in (by k_is) (by k_is) (by k_is) (by k_is))
  (case y8=>exact L2.ft_in (by k_is) (by k_is) (by k_is) (by k_is))
  (case y9=>exact L2.ft_in (by k_is) (by k_is) (by k_is) (by k_is))
  (case y10=>exact L2.ft_in (by k_is) (by k_is) (by k_is) (by k_is))
  (case y11=>exact L2.ft_in (by k_is) (by k_is) (by k_is) (by k_is))
  (case y12=>exact L2.ft_in (by k_is) (by k_is) (by k_is) (by k_is))
  (case y13=>exact L2.ft_in (by k_is) (by k_is) (by k_is) (by k_is))
  (case y14=>exact L2.ft_in (by k_is) (by k_is) (by k_is) (by k_is))
  (case y15=>exact L2.ft_in (by k_is) (by k_is) (by k_is) (by k_is))
  (case y16=>exact L2.ft_in (by k_is) (by k_is) (by k_is) (by k_is))
  (case y17=>exact L2.ft_in (by k_is) (by k_is) (by k_is) (by k_is))
  (case y18=>exact L2.ft_in (by k_is) (by k_is) (by k_is) (by k_is))
  (case y19=>exact L2.ft_in (by k_is) (by k_is) (by k_is) (by k_is))
  (case y20=>exact L2.ft_in (by k_is) (by k_is) (by k_is) (by k_is))
  (case y21=>exact L2.ft_in (by k_is) (by k_is) (by k_is) (by k_is))
  (case y22=>exact L2.ft_in (by k_is) (by k_is) (by k_is) (by k_is))
  (case y23=>exact L2.ft_in (by k_is) (by k_is) (by k_is) (by k_is))
  (case y24=>exact L2.ft_in (by k_is) (by k_is) (by k_is) (by k_is))
  (case y25=>exact L2.ft_in (by k_is) (by k_is) (by k_is) (by k_is))
  (case y26=>exact L2.ft_in (by k_is) (by k_is) (by k_is) (by k_is))
  (case y27=>exact L2.ft_in (by k_is) (by k_is) (by k_is) (by k_is))
  (case y28=>exact L2.ft_in (by k_is) (by k_is) (by k_is) (by k_is))
  (case y29=>exact L2.ft_in (by k_is) (by k_is) (by k_is) (by k_is))
  (case y30=>exact L2.ft_in (by k_is) (by k_is) (by k_is) (by k_is))
  (case y31=>exact L2.ft_in (by k_is) (by k_is) (by k_is) (by k_is))
  (case y32=>exact L2.ft_in (by k_is) (by k_is) (by k_is) (by k_is))
  (case y33=>exact L2.ft_in (by k_is) (by k_is) (by k_is) (by k_is))
  (case y34=>exact L2.ft_in (by k_is) (by k_is) (by k_is) (by k_is))
  (case y35=>exact L2.ft_in (by k_is) (by k_is) (by k_is) (by k_is))
  (case y36=>exact L2.ft_in (by k_is) (by k_is) (by k_is) (by k_is))
  (case y37=>exact L2.ft_in (by k_is) (by k_is) (by k_is) (by k_is))
  (case y38=>exact L2.ft_in (by k_is) (by k_is) (by k_is) (by k_is))
  (case y39=>exact L2.ft_in (by k_is) (by k_is) (by k_is) (by k_is))
  (case y40=>exact L2.ft_in (by k_is) (by k_is) (by k_is) (by k_is))
  (case y41=>exact L2.ft_in (by k_is) (by k_is) (by k_is) (by k_is))
  (case y42=>exact L2.ft_in (by k_is) (by k_is) (by k_is) (by k_is))
  (case y43=>exact L2.ft_in (by k_is) (by k_is) (by k_is) (by k_is))
  (case y44=>exact L2.ft_in (by k_is) (by k_is) (by k_is) (by k_is))
  (case y45=>exact L2.ft_in (by k_is) (by k_is) (by k_is) (by k_is))
  (case y46=>exact L2.ft_in (by k_is) (by k_is) (by k_is) (by k_is))
  (case y47=>exact L2.ft_in (by k_is) (by k_is) (by k_is) (by k_is))
  (case y48=>exact L2.ft_in (by k_is) (by k_is) (by k_is) (by k_is))
  (case y49=>exact L2.ft_in (by k_is) (by k_is) (by k_is) (by k_is))
  (case y50=>exact L2.ft_in (by k_is) (by k_is) (by k_is) (by k_is))
  (case y51=>exact L2.fm_in (by k_is) (by k_is) (by k_is) (by k_is) (by k_is))
  (case y52=>exact L2.fm_in (by k_is) (by k_is) (by k_is) (by k_is) (by k_is))
  (case y53=>exact L2.fm_in (by k_is) (by k_is) (by k_is) (by k_is) (by k_is))
  (case y54=>exact L2.fm_in (by k_is) (by k_is) (by k_is) (by k_is) (by k_is))
  (case y55=>exact L2.fm_in (by k_is) (by k_is) (by k_is) (by k_is) (by k_is))
  (case y56=>exact L2.fm_in (by k_is) (by k_is) (by k_is) (by k_is) (by k_is))
  (case y57=>exact L2.fm_in (by k_is) (by k_is) (by k_is) (by k_is) (by k_is))
  (case y58=>exact L2.fm_in (by k_is) (by k_is) (by k_is) (by k_is) (by k_is))
  (case y59=>exact L2.fm_in (by k_is) (by k_is) (by k_is) (by k_is) (by k_is))
  (case y60=>exact L2.fm_in (by k_is) (by k_is) (by k_is) (by k_is) (by k_is))
  (case y61=>exact L2.fm_in (by k_is) (by k_is) (by k_is) (by k_is) (by k_is))
  (case s1=>k_is)
  (case s2=>k_is)
  (case s3=>k_is)
  (case s4=>k_is)
  (case s5=>k_is)
  (case s6=>k_is)
  (case s7=>k_is)
  (case s8=>k_is)
  (case s9=>k_is)
  (case z_len=>k_is)
  (case z_all=>k_is)
  (case z_range=>k_is)
  (case z_isinstance=>k_is)
  (case z_bool=>k_is)
  (case z_tuple=>k_is)
  (case z_abs=>k_is)
  (case z_min=>k_is)
  (case z_max=>k_is)
  (case z_zip=>k_is)
  (case z_any=>k_is)
  (case z_list=>k_is)
  (case z_dict=>k_is)
  (case z_sorted=>k_is)
  (case z_enumerate=>k_is)
  (case z_int=>k_is)
  (case z_str=>k_is)
  (case pg=>k_is)
  (case hd=>k_is)
  (case po=>k_is)
  (case sa=>k_is)
  (case mk=>k_is)
  (case kc=>k_is)
  (case nT=>k_is)
  (case nA=>k_is)
  (case nR=>k_is)
  (case xN=>k_exc)
  (case xT=>k_exc)
  (case xP=>k_exc)
  (case xM=>k_exc)
  (case pgG=>k_is)
  (case hdG=>k_is)
  (case poG=>k_is)
  (case saG=>k_is)
  (case mkG=>k_is)
  (case kcG=>k_is)
  (case nL=>k_is)
  (case nG=>k_is)
  (case z_ib=>kit_is)
  (case z_bi=>kit_is)
  (case z_ti=>kit_is)
