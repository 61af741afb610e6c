import PyProof.Rows.All
import Wide.All
import OpenK.AllK
import Wide.FinOn
import Lean
import PyProof.EqAt
import PyProof.EqKinds
import PyProof.TupleCall
import PySem.Challenge.RW_yesorno_k74_named_problem
set_option Elab.async false
set_option linter.all false
set_option maxRecDepth 100000
namespace L2
open PySem PySem.Spec PyProof.Rows
abbrev Key:=Sum Int Str
def zfn:Key→Value→Bool
  | .inl k,v=>Value.isInt k v
  | .inr x,v=>Value.isStrOf x v
def keyH (w:World):Key→Int
  | .inl k=>hashInt k
  | .inr x=>hashStr w x
theorem zbm:∀ {k:Key} {v:Value},zfn k v=true→(∃ i t,k=Sum.inl i∧v=Value.int i t)∨(∃ x t,k=Sum.inr x∧v=Value.str x t)
  | .inl i,v,h=>by
    obtain⟨t,e⟩:=Value.isInt_shape (k:=i) (v:=v) h
    exact .inl ⟨i,t,rfl,e⟩
  | .inr x,v,h=>by
    obtain⟨t,e⟩:=Value.isStrOf_shape (x:=x) (v:=v) h
    exact .inr ⟨x,t,rfl,e⟩
theorem zko (i:Int) (t:Tok):zfn (.inl i) (.int i t)=true:=by simp [zfn,Value.isInt]
theorem zkn (x:Str) (t:Tok):zfn (.inr x) (.str x t)=true:=by simp [zfn,Value.isStrOf]
theorem key_ll (a b:Int):decide ((Sum.inl a:Key)=Sum.inl b)=(a == b):=by
  by_cases e:a=b
  · subst e;simp
  · have h:¬(Sum.inl a:Key)=Sum.inl b:=fun q=>e (Sum.inl.inj q)
    rw[decide_eq_false h]
    exact(beq_eq_false_iff_ne.mpr e).symm
theorem key_rr (a b:Str):decide ((Sum.inr a:Key)=Sum.inr b)=decide (a=b):=by
  by_cases e:a=b
  · subst e;simp
  · have h:¬(Sum.inr a:Key)=Sum.inr b:=fun q=>e (Sum.inr.inj q)
    rw[decide_eq_false h,decide_eq_false e]
theorem key_lr (a:Int) (b:Str):decide ((Sum.inl a:Key)=Sum.inr b)=false:=decide_eq_false (fun q=>nomatch q)
theorem key_rl (a:Str) (b:Int):decide ((Sum.inr a:Key)=Sum.inl b)=false:=decide_eq_false (fun q=>nomatch q)
def zbh (prog:Program) (w:World):PySem.KeyKind prog w Key where
  is:=zfn
  hash:=keyH w
  inj:=fun v a b ha hb=>by
    rcases zbm ha with ⟨i,t,rfl,rfl⟩ | ⟨x,t,rfl,rfl⟩
    · rcases zbm hb with ⟨j,u,rfl,e⟩ | ⟨y,u,rfl,e⟩
      · injection e with e1 _;rw[e1]
      · exact nomatch e
    · rcases zbm hb with ⟨j,u,rfl,e⟩ | ⟨y,u,rfl,e⟩
      · exact nomatch e
      · injection e with e1 _;rw[e1]
  byValue:=fun k v h=>by
    rcases zbm h with ⟨i,t,rfl,rfl⟩ | ⟨x,t,rfl,rfl⟩ <;> rfl
  pyHash:=fun hv h=>by
    rcases zbm hv with ⟨i,t,rfl,rfl⟩ | ⟨x,t,rfl,rfl⟩
    · exact wpAny_pyHash_int h
    · exact wpAny_pyHash_str h
  eqBool:=fun hu hv h=>by
    rcases zbm hu with ⟨i,t,rfl,rfl⟩ | ⟨x,t,rfl,rfl⟩
    · rcases zbm hv with ⟨j,u,rfl,rfl⟩ | ⟨y,u,rfl,rfl⟩
      · rw[key_ll]at h;exact wpAny_eqBool_int h
      · rw[key_lr]at h;exact SeqAt.EqAt.int_str i t y u _ _ _ _ h
    · rcases zbm hv with ⟨j,u,rfl,rfl⟩ | ⟨y,u,rfl,rfl⟩
      · rw[key_rl]at h;exact SeqAt.EqAt.str_int x t j u _ _ _ _ h
      · rw[key_rr]at h;exact wpAny_eqBool_str h
  «strs»:=fun k x t v h=>by
    rcases zbm h with ⟨i,u,rfl,e⟩ | ⟨y,u,rfl,e⟩
    · exact nomatch e
    · injection e with e1 _
      subst e1
      cases v <;> rfl
theorem ziw (prog:Program) (w:World) (i:Int) (t:Tok):(zbh prog w).is (.inl i) (.int i t)=true:=zko i t
theorem ziv (prog:Program) (w:World) (x:Str) (t:Tok):(zbh prog w).is (.inr x) (.str x t)=true:=zkn x t
end L2
namespace L2
open PySem PySem.Spec PyProof.Rows
inductive V where
  | non | bl (b:Bool) | int (i:Int) | str (x:Str) | byt (b:Array UInt8) | flt (b:UInt64) | ref (a:Addr) | ty (n:String)
  deriving DecidableEq
def aR:V→Value→Prop
  | .non,u=>u=Value.none
  | .bl b,u=>u=Value.bool b
  | .int i,u=>∃ t,u=Value.int i t
  | .str x,u=>∃ t,u=Value.str x t
  | .byt b,u=>∃ t,u=Value.bytes b t
  | .flt b,u=>∃ t,u=Value.float b t
  | .ref a,u=>u=Value.ref a
  | .ty n,u=>u=Value.type n
abbrev aQ:List V→List Value→Prop:=Paired aR
theorem aQ.length {xs:List V} {us:List Value} (r:aQ xs us):xs.length=us.length:=Paired.length r
theorem aQ.get:∀ {xs:List V} {us:List Value} {i:Nat} {x:V},aQ xs us→xs[i]?=some x→∃ u,us[i]?=some u∧aR x u
  | _,_,_,_,.nil,e=>by simp at e
  | _,_,0,_,.cons r _,e=>by simp at e;subst e;exact⟨_,rfl,r⟩
  | _,_,i+1,x,.cons _ t,e=>by
    obtain⟨u,h1,h2⟩:=aQ.get (i:=i) (x:=x) t (by simpa using e)
    exact⟨u,by simpa using h1,h2⟩
theorem aQ.append:∀ {xs ys:List V} {us ws:List Value},aQ xs us→aQ ys ws→aQ (xs++ys) (us++ws)
  | _,_,_,_,.nil,s=>s
  | _,_,_,_,.cons r t,s=>.cons r (aQ.append t s)
theorem aQ.take:∀ {xs:List V} {us:List Value} (n:Nat),aQ xs us→aQ (xs.take n) (us.take n)
  | _,_,0,_=>.nil
  | _,_,_+1,.nil=>.nil
  | _,_,n+1,.cons r t=>.cons r (aQ.take n t)
theorem aQ.drop:∀ {xs:List V} {us:List Value} (n:Nat),aQ xs us→aQ (xs.drop n) (us.drop n)
  | _,_,0,r=>r
  | _,_,_+1,.nil=>.nil
  | _,_,n+1,.cons _ t=>aQ.drop n t
def zcT:Option V→Option Value→Prop
  | some v,some u=>aR v u
  | none,none=>True
  | _,_=>False
def KV {κ:Type}:List (κ × V)→List (κ × Value)→Prop:=Paired fun(p:κ × V) (q:κ × Value)=>p.1=q.1∧aR p.2 q.2
def kV:Key→V
  | .inl i=>.int i
  | .inr x=>.str x
inductive HO where
    | lst (xs:List V)
    | tup (xs:List V)
    | dK (kvs:List (Key × V)) | dT (kvs:List (List Key × V))
    | set (S:Int→Bool) (n:Nat)
    | ins (C dx:Addr) (fs:List (Str × V))
    | own (x:Addr)
    | xd (fs:List (Str × V))
    | met (f x:Addr)
    | rng (lo hi:Int)
    | frz (o:Obj) (u:HO)
    | tbl (ps:Array Value)
    | ext (φ:Heap→Prop)
abbrev Hp:=Addr→Option HO
def upd (H:Hp) (a:Addr) (o:HO):Hp:=fun b=>if b=a then some o else H b
theorem ad {H:Hp} {a:Addr} {o:HO}:upd H a o a=some o:=by unfold upd;rw[if_pos rfl]
theorem ao {H:Hp} {a b:Addr} {o:HO} (h:b≠a):upd H a o b=H b:=by unfold upd;rw[if_neg h]
theorem ziA {H:Hp} {a:Addr} {o u:HO}:upd (upd H a o) a u=upd H a u:=by
  funext b;unfold upd;split <;> rfl
theorem zdq {H:Hp} {a b:Addr} {o u:HO} (h:H a=some o) (h':H b=some u) (d:o≠u):a≠b:=by
  intro e;subst e;rw[h]at h';exact d (Option.some.inj h')
theorem zaa {H:Hp} {a b:Addr} {o:HO} (h:H a=some o) (h':H b=none):a≠b:=by
  intro e;subst e;rw[h]at h';cases h'
section
variable (P:Program) (w:World)
def zaY (H:Hp) (h:Heap) (a:Addr):HO→Prop
  | .lst xs=>xs.length≤sizeLine∧∃(its:List Value) (n:Nat),aQ xs its∧h.get? a=some { cls:=.type "list",data:=.seq its.toArray n }
  | .tup xs=>xs.length≤sizeLine∧∃ its:List Value,aQ xs its∧IsTup h a its.toArray
  | .dK kvs=>kvs.length≤sizeLine∧(a == sysModules)=false∧∃ vs,KV kvs vs∧h.DictOf (zbh P w) a vs
  | .dT kvs=>kvs.length≤sizeLine∧(a == sysModules)=false∧∃ xs:List (List Key × Addr × Value),
      Paired (fun(p:List Key × V) (q:List Key × Addr × Value)=>p.1=q.1∧H q.2.1=some (.tup (p.1.map kV))∧aR p.2 q.2.2) kvs xs ∧
      ∃ o es ep,h.get? a=some o∧o.ExactDict∧o.data=.dict es ep∧es.toList=xs.map (entryOfKey (tupleKind (zbh P w)))∧(xs.map (·.1)).Nodup
  | .set S n=>h.SetOf (intKind P w) a S n
  | .ins C dx fs=>H dx=some (.own a)∧fs.length≤1000∧dx≠a∧h.get? a=some (PySem.W.instObj C dx) ∧
      ∃ mA,h.Ns1 dx mA∧(∀ f,zcT (fs.lookup f) (mA f))∧PySem.Within mA (fs.map (·.1))
  | .own _=>∃ o,h.get? a=some o
  | .xd fs=>∃ mA,h.Ns1 a mA∧∀ f,zcT (fs.lookup f) (mA f)
  | .rng lo hi=>∃ t u v,h.get? a=some { cls:=.type "range",data:=.fields #[.int lo t,.int hi u,.int 1 v] }
  | .frz o u=>h.get? a=some o∧zaY H h a u
  | .tbl ps=>h.get? a=some { cls:=.none,data:=.fields ps }
  | .met f x=>h.get? a=some (PySem.W.methodObj (.ref f) (.ref x))
  | .ext φ=>φ h∧(∃ o,h.get? a=some o)∧∀ h1 h2:Heap,φ h1→(∀ o,h1.get? a=some o→h2.get? a=some o)→φ h2
def HOk (H:Hp) (h:Heap):Prop:=∀ a o,H a=some o→zaY P w H h a o
end
section
variable {P:Program} {w:World} {H H':Hp} {h h':Heap} {a:Addr} {o:HO}
theorem zaY.lt (x:zaY P w H h a o):a < h.objs.size:=by
  cases o with
  | lst xs=>obtain⟨_,_,_,_,e⟩:=x;exact Heap.lt_size e
  | tup xs=>obtain⟨_,_,_,p⟩:=x;exact p.lt
  | dK kvs=>obtain⟨_,_,_,_,o,_,_,e,_⟩:=x;exact Heap.lt_size e
  | dT kvs=>obtain⟨_,_,_,_,o,_,_,e,_⟩:=x;exact Heap.lt_size e
  | set S n=>obtain⟨o,_,_,_,e,_⟩:=x;exact Heap.lt_size e
  | ins C dx fs=>obtain⟨_,_,_,e,_⟩:=x;exact Heap.lt_size e
  | own y=>obtain⟨_,e⟩:=x;exact Heap.lt_size e
  | xd fs=>obtain⟨_,⟨_,_,_,e,_⟩,_⟩:=x;exact Heap.lt_size e
  | rng lo hi=>obtain⟨_,_,_,e⟩:=x;exact Heap.lt_size e
  | frz ob u=>obtain⟨e,_⟩:=x;exact Heap.lt_size e
  | tbl ps=>exact Heap.lt_size (show h.get? a=some _ from x)
  | met f y=>exact Heap.lt_size (show h.get? a=some _ from x)
  | ext φ=>obtain⟨_,⟨_,e⟩,_⟩:=x;exact Heap.lt_size e
theorem Paired.mapP {α β:Type} {F G:α→β→Prop}:∀ {l₁:List α} {l₂:List β},Paired F l₁ l₂→(∀ a b,F a b→G a b)→Paired G l₁ l₂
  | _,_,.nil,_=>.nil
  | _,_,.cons r t,f=>.cons (f _ _ r) (Paired.mapP t f)
theorem zaY.stay (x:zaY P w H h a o) (k:∀ b u,(b=a∨H b=some (.own a))→h.get? b=some u→h'.get? b=some u)
    (ho:∀ b,H b=some (.own a)→H' b=some (.own a)) (ht:∀ b xs,H b=some (.tup xs)→H' b=some (.tup xs)):zaY P w H' h' a o:=by
  induction o with
  | lst xs=>obtain⟨z,its,n,r,e⟩:=x;exact⟨z,its,n,r,k _ _ (.inl rfl) e⟩
  | tup xs=>obtain⟨z,its,r,ob,e,c⟩:=x;exact⟨z,its,r,ob,k _ _ (.inl rfl) e,c⟩
  | dK kvs=>obtain⟨z,y,vs,r,ob,es,ep,e,c⟩:=x;exact⟨z,y,vs,r,ob,es,ep,k _ _ (.inl rfl) e,c⟩
  | dT kvs =>
    obtain⟨z,y,xs,r,ob,es,ep,e,c⟩:=x
    exact⟨z,y,xs,Paired.mapP r fun p q z=>⟨z.1,ht _ _ z.2.1,z.2.2⟩,ob,es,ep,k _ _ (.inl rfl) e,c⟩
  | set S n=>obtain⟨ob,es,ep,t,e,c⟩:=x;exact⟨ob,es,ep,t,k _ _ (.inl rfl) e,c⟩
  | ins C dx fs =>
    obtain⟨d,z,ne,e,mA,⟨od,es,ep,e2,c⟩,r⟩:=x
    exact⟨ho _ d,z,ne,k _ _ (.inl rfl) e,mA,⟨od,es,ep,k _ _ (.inr d) e2,c⟩,r⟩
  | own y=>obtain⟨ob,e⟩:=x;exact⟨ob,k _ _ (.inl rfl) e⟩
  | xd fs=>obtain⟨mA,⟨od,es,ep,e,c⟩,r⟩:=x;exact⟨mA,⟨od,es,ep,k _ _ (.inl rfl) e,c⟩,r⟩
  | rng lo hi=>obtain⟨t,u,v,e⟩:=x;exact⟨t,u,v,k _ _ (.inl rfl) e⟩
  | frz ob u ih=>obtain⟨e,q⟩:=x;exact⟨k _ _ (.inl rfl) e,ih q⟩
  | tbl ps =>
    have e:h.get? a=some { cls:=.none,data:=.fields ps }:=x
    show h'.get? a=some { cls:=.none,data:=.fields ps }
    exact k a _ (.inl rfl) e
  | met f y =>
    have e:h.get? a=some (PySem.W.methodObj (.ref f) (.ref y)):=x
    show h'.get? a=some (PySem.W.methodObj (.ref f) (.ref y))
    exact k a _ (.inl rfl) e
  | ext φ=>obtain⟨p,⟨o,e⟩,st⟩:=x;exact⟨st _ _ p fun o q=>k _ _ (.inl rfl) q,⟨o,k _ _ (.inl rfl) e⟩,st⟩
theorem HOk.lt (x:HOk P w H h) (e:H a=some o):a < h.objs.size:=(x a o e).lt
theorem HOk.fresh (x:HOk P w H h) (e:h.objs.size≤a):H a=none:=by
  cases q:H a with
  | none=>rfl
  | some u=>exact absurd (Nat.lt_of_lt_of_le (x.lt q) e) (Nat.lt_irrefl _)
theorem HOk.kept (x:HOk P w H h) (k:∀ b u,h.get? b=some u→h'.get? b=some u):HOk P w H h':=fun a o e =>
  (x a o e).stay (fun b u _ q=>k b u q) (fun _ q=>q) fun _ _ q=>q
theorem HOk.laid (x:HOk P w H h) (k:∀ b u,h.get? b=some u→h'.get? b=some u) (hp:h.objs.size≤a) (new:zaY P w (upd H a o) h' a o):HOk P w (upd H a o) h':=fun b u e=>by
  have hn:=x.fresh hp
  by_cases hb:b=a
  · subst hb;rw[ad]at e;cases e;exact new
  · rw[ao hb]at e
    exact(x b u e).stay (fun c v _ q=>k c v q) (fun c q=>by rw[ao (zaa q hn)];exact q) fun c xs q=>by rw[ao (zaa q hn)];exact q
end
def Rd (H:Hp) (a:Addr) (u:HO):Prop:=H a=some u∨∃ o,H a=some (.frz o u)
theorem Rd.ok {P:Program} {w:World} {H:Hp} {h:Heap} {a:Addr} {u:HO} (r:Rd H a u) (x:HOk P w H h):zaY P w H h a u:=by
  rcases r with r | ⟨o,r⟩
  · exact x a u r
  · obtain⟨_,q⟩:=x a _ r
    exact q
def Mut:Option HO→Prop
  | some (.lst _)=>True
  | some (.dK _)=>True
  | some (.dT _)=>True
  | some (.set _ _)=>True
  | some (.ins _ _ _)=>True
  | some (.ext _)=>True
  | _=>False
section
variable {P:Program} {w:World} {H:Hp} {h h':Heap} {x e:Addr} {o':HO}
theorem HOk.write (ok:HOk P w H h) (mu:Mut (H x)) (he:e=x∨H e=some (.own x)) (k:∀ b u,b≠e→h.get? b=some u→h'.get? b=some u) (heo:∃ u,h'.get? e=some u)
    (new:zaY P w (upd H x o') h' x o'):HOk P w (upd H x o') h':=fun b u q=>by
  have nown:∀ c y,H c=some (.own y)→c≠x:=fun c y r z=>by subst z;rw[r]at mu;exact mu
  have ntup:∀ c xs,H c=some (.tup xs)→c≠x:=fun c xs r z=>by subst z;rw[r]at mu;exact mu
  by_cases hb:b=x
  · subst hb;rw[ad]at q;cases q;exact new
  · rw[ao hb]at q
    by_cases hbe:b=e
    · have q':H b=some (.own x):=by
        rcases he with z | z
        · exact absurd (hbe.trans z) hb
        · rw[hbe];exact z
      rw[q]at q';cases q'
      obtain⟨v,hv⟩:=heo
      exact⟨v,by rw[hbe];exact hv⟩
    · refine(ok b u q).stay (fun c v hc r=>k c v ?_ r) (fun c r=>by rw[ao (nown c b r)];exact r) fun c xs r=>by rw[ao (ntup c xs r)];exact r
      rcases hc with rfl | hc
      · exact hbe
      · rintro rfl
        rcases he with z | z
        · exact nown c b hc z
        · rw[hc]at z;cases z;exact hb rfl
end
structure Un (fs ex:List Addr) (H H':Hp) (h h':Heap):Prop where
  keep:∀ b o,h.get? b=some o→H b=none→b∉fs→b∉ex→h'.get? b=some o
  slot:∀ b o,h.get? b=some o→H b=none→b∈fs→b∉ex→∃ sl,h'.get? b=some { o with slots:=sl }
  free:∀ b o,h.get? b=some o→H b=none→b∉ex→H' b=none
  there:∀ b o,h.get? b=some o→b∉ex→∃ o',h'.get? b=some o'
  tups:∀ b xs,H b=some (.tup xs)→H' b=some (.tup xs)
  frzs:∀ b o u,H b=some (.frz o u)→H' b=some (.frz o u)
  tbls:∀ b ps,H b=some (.tbl ps)→∃ more,H' b=some (.tbl (ps++more))
section
variable {fs fs' ex ex':List Addr} {H H1 H2:Hp} {h h1 h2 h':Heap} {a x e:Addr} {o:HO}
theorem Un.any (u:Un fs ex H H1 h h1) {b:Addr} {ob:Obj} (q:h.get? b=some ob) (n:H b=none) (hx:b∉ex):∃ sl,h1.get? b=some { ob with slots:=sl }:=by
  by_cases hb:b∈fs
  · exact u.slot b ob q n hb hx
  · exact⟨ob.slots,u.keep b ob q n hb hx⟩
theorem Un.trans (a:Un fs ex H H1 h h1) (b:Un fs ex H1 H2 h1 h2):Un fs ex H H2 h h2 where
  keep:=fun c ob q n hc hx=>b.keep c ob (a.keep c ob q n hc hx) (a.free c ob q n hx) hc hx
  slot:=fun c ob q n hc hx=>by
    obtain⟨sl,e1⟩:=a.slot c ob q n hc hx
    obtain⟨sl',e2⟩:=b.slot c _ e1 (a.free c ob q n hx) hc hx
    exact⟨sl',e2⟩
  free:=fun c ob q n hx=>by
    obtain⟨o',e1⟩:=a.there c ob q hx
    exact b.free c o' e1 (a.free c ob q n hx) hx
  there:=fun c ob q hx=>by
    obtain⟨o',e1⟩:=a.there c ob q hx
    exact b.there c o' e1 hx
  tups:=fun c xs q=>b.tups c xs (a.tups c xs q)
  frzs:=fun c ob xs q=>b.frzs c ob xs (a.frzs c ob xs q)
  tbls:=fun c ps q=>by
    obtain⟨m1,e1⟩:=a.tbls c ps q
    obtain⟨m2,e2⟩:=b.tbls c _ e1
    exact⟨m1++m2,by rw[e2,Array.append_assoc]⟩
theorem Un.kept (k:∀ b u,h.get? b=some u→h'.get? b=some u):Un fs ex H H h h' :=
  ⟨fun b ob q _ _ _=>k b ob q,fun b ob q _ _ _=>⟨ob.slots,k b ob q⟩,fun _ _ _ n _=>n,fun b ob q _=>⟨ob,k b ob q⟩,fun _ _ q=>q,fun _ _ _ q=>q,fun _ ps q=>⟨#[],by rw[q];simp⟩⟩
theorem Un.refl:Un fs ex H H h h:=Un.kept fun _ _ q=>q
theorem Un.laid (k:∀ b u,h.get? b=some u→h'.get? b=some u) (hp:h.objs.size≤a) (hn:H a=none):Un fs ex H (upd H a o) h h' where
  keep:=fun b u q _ _ _=>k b u q
  slot:=fun b u q _ _ _=>⟨u.slots,k b u q⟩
  free:=fun b u q n _=>by rw[ao (Nat.ne_of_lt (Nat.lt_of_lt_of_le (Heap.lt_size q) hp))];exact n
  there:=fun b u q _=>⟨u,k b u q⟩
  tups:=fun b xs q=>by rw[ao (zaa q hn)];exact q
  frzs:=fun b u xs q=>by rw[ao (zaa q hn)];exact q
  tbls:=fun b ps q=>⟨#[],by rw[ao (zaa q hn),q];simp⟩
theorem Un.write (mu:Mut (H x)) (he:e=x∨H e=some (.own x)) (k:∀ b u,b≠e→h.get? b=some u→h'.get? b=some u) (heo:∃ u,h'.get? e=some u):Un fs ex H (upd H x o) h h':=by
  have hx:∀ b,H b=none→b≠x:=fun b n z=>by subst z;rw[n]at mu;exact mu
  have hb:∀ b,H b=none→b≠e:=fun b n z=>by
    subst z
    rcases he with r | r
    · exact hx b n r
    · rw[n]at r;cases r
  have hm:∀ b u,H b=some u→¬Mut (some u)→b≠x:=fun b u q nm z=>by subst z;rw[q]at mu;exact nm mu
  refine⟨fun b u q n _ _=>k b u (hb b n) q,fun b u q n _ _=>⟨u.slots,k b u (hb b n) q⟩,fun b u q n _=>by rw[ao (hx b n)];exact n,fun b u q _=>?_,
    fun b xs q=>by rw[ao (hm b _ q fun z=>z)];exact q,fun b u xs q=>by rw[ao (hm b _ q fun z=>z)];exact q,fun b ps q=>⟨#[],by rw[ao (hm b _ q fun z=>z),q];simp⟩⟩
  by_cases hbe:b=e
  · subst hbe;exact heo
  · exact⟨u,k b u hbe q⟩
end
def trk (h:Heap) (H:Hp):List Addr:=(List.range h.objs.size).filter fun a=>(H a).isSome
def zey (h:Heap) (H:Hp):Heap:=PySem.W.hideAll h (trk h H)
theorem zkq (h:Heap) (H:Hp):(zey h H).objs.size=h.objs.size:=PySem.W.hideAll_size _ _
theorem zkZ {h:Heap} {H:Hp} {b:Addr} {o:Obj} (e:h.get? b=some o) (n:H b=none):(zey h H).get? b=some o :=
  PySem.W.hideAll_get _ e fun hm=>by
    have q:(H b).isSome=true:=(List.mem_filter.mp hm).2
    rw[n]at q;simp at q
theorem zlB {h:Heap} {H:Hp} {b:Addr} {o:Obj} (e:(zey h H).get? b=some o):h.get? b=some o∧H b=none:=by
  have e':h.get? b=some o:=PySem.W.of_hideAll (trk h H) e
  refine⟨e',?_⟩
  cases q:H b with
  | none=>rfl
  | some x =>
    have hm:b∈trk h H:=List.mem_filter.mpr ⟨List.mem_range.mpr (Heap.lt_size e'),by simp [q]⟩
    have z:(zey h H).get? b=none:=PySem.W.hideAll_none (trk h H) hm
    rw[z]at e;cases e
def zlN (g h:Heap) (L:Addr):List (Addr × Obj):=(List.range h.objs.size).filterMap fun a=>if a=L∨(g.get? a).isSome=true then none else(h.get? a).map fun o=>(a,o)
def zbs (g h:Heap) (L d:Addr):List (Addr × Obj):=(zlN g h L).filter fun p=>decide (p.1≠d)
end L2
namespace L2
open PySem PySem.Spec PyProof.Rows
structure Mod (K:PySem.W.Frag) (mg:Str→Option Value) (base:Heap):Prop where
  kin:K.In base
  glob:base.Ns mainGlobals mg
  blt:∃ mb,base.Ns builtinsNs mb∧∀ x:Str,x≠"__name__"→mb x=bootBuiltins x
  nolimit:base.NoLimit
structure Cx where
  prog:Program
  w:World
  K:PySem.W.Frag
  mg:Str→Option Value
  base:Heap
  A:Around
  N:List Str
  s₀:Shared
  H₀:Hp
  env:Env
  outer:List Env
  stack:List Env
  ex:List Addr
  fn:Str→Bool
  calm:Bool
  pn:List (Addr × Obj)
  xe:Value→Shared→Prop
def frs (l:List Env):List Addr:=l.filterMap (·.frame)
abbrev Cx.fs (X:Cx):List Addr:=frs X.outer
def Vis (sc:Scope) (x:Str):Prop:=sc.names.lookup x=some .local∨sc.names.lookup x=some .cell∨sc.names.lookup x=some .free
def Loc (sc:Scope) (x:Str):Prop:=sc.names.lookup x=some .local∨sc.names.lookup x=some .cell
def Look (env:Env) (h:Heap) (m:Str→Option Value) (x:Str) (u:Value):Prop :=
  (env.kindOf x=some .local∧m x=some u)∨((env.kindOf x=some .cell∨env.kindOf x=some .free)∧∃ c,env.cells.lookup x=some c∧h.IsCell c (some u))
structure Cx.Ok (X:Cx):Prop where
  mod:Mod X.K X.mg X.base
  kind:X.env.scope.kind=.function
  glob:X.env.globals=mainGlobals
  blt:X.env.builtins=builtinsNs
  above:X.s₀.heap.objs.size≤X.env.locals
  inj:∀ x y c,X.env.cells.lookup x=some c→X.env.cells.lookup y=some c→x=y
  has:∀ x,(X.env.kindOf x=some .cell∨X.env.kindOf x=some .free)→∃ c,X.env.cells.lookup x=some c
  cab:∀ x c,X.fn x=true→X.env.cells.lookup x=some c→X.s₀.heap.objs.size≤c
  hd:X.calm=true→X.A.handled=none
  frames:X.A.frames=some X.stack
  stk:X.stack=X.outer∨(X.stack=X.env :: X.outer∧X.env.frame=some X.env.locals)
  exf:∀ b∈X.ex,b≠X.env.locals∧∀ x c,X.env.cells.lookup x=some c→c≠b
  bs:∀ b o,X.base.get? b=some o→X.s₀.heap.get? b=some o∧X.H₀ b=none
  bsz:X.base.objs.size≤X.s₀.heap.objs.size
  noex:∀ b o,X.base.get? b=some o→b∉X.ex
  exfs:∀ b∈X.ex,b∉X.fs
  funs:X.s₀.heap.FunFrames X.base X.outer
  frf:∀ b∈X.fs,X.H₀ b=none
structure Inv (X:Cx) (pins:List (Addr × Obj)) (σ:List (Option V)) (H:Hp) (s:Shared):Prop where
  ok:X.Ok
  os:s.os=X.s₀.os
  bare:AllBare s.gens
  base:Un X.fs X.ex X.H₀ H X.s₀.heap s.heap
  loc:∃ m,s.heap.Ns X.env.locals m∧∀(i:Nat) (x:Str) (v:V),X.N[i]?=some x→σ[i]?=some (some v)→Vis X.env.scope x→∃ u,aR v u∧Look X.env s.heap m x u
  cell:∀ x c,X.env.cells.lookup x=some c→∃ v,s.heap.IsCell c v
  free:H X.env.locals=none
  freeC:∀ x c,X.env.cells.lookup x=some c→H c=none
  pin:∀ p∈X.pn++pins,s.heap.get? p.1=some p.2∧H p.1=none∧p.1≠X.env.locals∧p.1∉X.fs∧∀ v,p.2.data≠.cell v
  hok:HOk X.prog X.w H s.heap
  len:σ.length=X.N.length
section
variable {X:Cx} {pins:List (Addr × Obj)} {σ:List (Option V)} {H H':Hp} {s:Shared} {h':Heap}
theorem Cx.Ok.nofr (ok:X.Ok) {b:Addr} {o:Obj} (e:X.base.get? b=some o):b∉X.fs:=fun hb=>by
  have:=(ok.funs.mem hb).1
  rw[e]at this;cases this
theorem Inv.bs (I:Inv X pins σ H s):∀ b o,X.base.get? b=some o→s.heap.get? b=some o∧H b=none:=fun b o e =>
  ⟨I.base.keep b o (I.ok.bs b o e).1 (I.ok.bs b o e).2 (I.ok.nofr e) (I.ok.noex b o e),I.base.free b o (I.ok.bs b o e).1 (I.ok.bs b o e).2 (I.ok.noex b o e)⟩
theorem Inv.bk (I:Inv X pins σ H s):∀ b o,X.base.get? b=some o→s.heap.get? b=some o:=fun b o e=>(I.bs b o e).1
theorem Inv.mod (I:Inv X pins σ H s):Mod X.K X.mg X.base:=I.ok.mod
theorem Inv.kIn (I:Inv X pins σ H s):X.K.In s.heap:=I.ok.mod.kin.keeps I.bk
theorem Inv.fr (I:Inv X pins σ H s):∃ m,Fr X.base X.env.locals s.heap m :=
  let ⟨m,hn,_⟩:=I.loc
  ⟨m,hn,I.bk,Nat.le_trans I.ok.bsz I.ok.above⟩
theorem Inv.lt (I:Inv X pins σ H s):X.env.locals < s.heap.objs.size:=let ⟨_,hn,_⟩:=I.loc;hn.lt
theorem Inv.sz (I:Inv X pins σ H s):X.s₀.heap.objs.size≤s.heap.objs.size:=Nat.le_trans I.ok.above (Nat.le_of_lt I.lt)
theorem Inv.nofs (I:Inv X pins σ H s) {a:Addr} (h:s.heap.objs.size≤a):a∉X.fs:=fun hb=>by
  obtain⟨_,o,ho,_⟩:=I.ok.funs.mem hb
  exact absurd (Nat.lt_of_lt_of_le (Heap.lt_size ho) (Nat.le_trans I.sz h)) (Nat.lt_irrefl _)
theorem Inv.cne (I:Inv X pins σ H s):∀ x c,X.env.cells.lookup x=some c→c≠X.env.locals:=fun x c e z=>by
  obtain⟨v,o,ho,hd⟩:=I.cell x c e
  obtain⟨m,⟨o',es,ep,ho',hd',_⟩,_⟩:=I.loc
  rw[z,ho']at ho;cases ho;rw[hd']at hd;cases hd
theorem Inv.funs (I:Inv X pins σ H s):s.heap.FunFrames X.base X.outer:=by
  have all:∀(l:List Env),(∀ b∈frs l,b∈X.fs)→X.s₀.heap.FunFrames X.base l→s.heap.FunFrames X.base l:=by
    intro l
    induction l with
    | nil=>intro _ _;trivial
    | cons env r ih =>
      intro hs hl
      obtain⟨hk,⟨L,o,hf,hn,ho,hd⟩,hr⟩:=hl
      have hL:L∈X.fs:=hs L (by unfold frs;rw[List.filterMap_cons,hf];exact List.mem_cons_self)
      obtain⟨sl,e⟩:=I.base.slot L o ho (I.ok.frf L hL) hL fun z=>I.ok.exfs L z hL
      exact⟨hk,⟨L,_,hf,hn,e,hd⟩,ih (fun b hb=>hs b (by unfold frs;rw[List.filterMap_cons,hf];exact List.mem_cons_of_mem _ hb)) hr⟩
  exact all X.outer (fun _ hb=>hb) I.ok.funs
theorem Inv.stack (I:Inv X pins σ H s):s.heap.FunFrames X.base X.stack:=by
  rcases I.ok.stk with e | ⟨e,hf⟩
  · rw[e];exact I.funs
  · rw[e]
    obtain⟨m,hn,_⟩:=I.loc
    refine .cons (by rw[I.ok.kind];decide) hf hn ?_ I.funs
    exact Heap.get?_none_of_le (Nat.le_trans I.ok.bsz I.ok.above)
theorem Inv.stkSub (I:Inv X pins σ H s):∀ b∈frs X.stack,b∈X.env.locals :: X.fs:=fun b hb=>by
  rcases I.ok.stk with e | ⟨e,hf⟩
  · rw[e]at hb;exact List.mem_cons_of_mem _ hb
  · rw[e]at hb
    unfold frs at hb
    rw[List.filterMap_cons,hf]at hb
    exact hb
theorem Inv.stkFree (I:Inv X pins σ H s):∀ b∈frs X.stack,H b=none:=fun b hb=>by
  rcases List.mem_cons.mp (I.stkSub b hb) with e | hb
  · rw[e];exact I.free
  · obtain⟨_,o,ho,_⟩:=I.ok.funs.mem hb
    exact I.base.free b o ho (I.ok.frf b hb) fun z=>I.ok.exfs b z hb
theorem Inv.step {g':Array GenState} {t':Nat} {d':Drawn} {ch:List Addr} (I:Inv X pins σ H s)
    (hch:∀ b∈ch,(b∈X.ex∨X.s₀.heap.objs.size≤b)∧b≠X.env.locals∧(∀ x c,X.env.cells.lookup x=some c→c≠b)∧∀ p∈X.pn++pins,p.1≠b)
    (keep:∀ b o,b≠X.env.locals→b∉X.fs→b∉ch→s.heap.get? b=some o→H b=none→h'.get? b=some o)
    (slot:∀ b o,b≠X.env.locals→b∈X.fs→b∉ch→s.heap.get? b=some o→H b=none→∃ sl,h'.get? b=some { o with slots:=sl }) (free:∀ b o,b∉ch→s.heap.get? b=some o→H b=none→H' b=none)
    (there:∀ b o,b∉ch→s.heap.get? b=some o→∃ o',h'.get? b=some o')
    (tups:∀ b xs,H b=some (.tup xs)→H' b=some (.tup xs)) (frzs:∀ b o u,H b=some (.frz o u)→H' b=some (.frz o u)) (tbls:∀ b ps,H b=some (.tbl ps)→∃ more,H' b=some (.tbl (ps++more)))
    (ns:∀ m,s.heap.Ns X.env.locals m→h'.Ns X.env.locals m) (hok:HOk X.prog X.w H' h') (hg:AllBare g') :
    Inv X pins σ H' { s with heap:=h',gens:=g',drawn:=d',toks:=t' }:=by
  have neL:∀ b o,X.s₀.heap.get? b=some o→b≠X.env.locals:=fun b o e=>Nat.ne_of_lt (Nat.lt_of_lt_of_le (Heap.lt_size e) I.ok.above)
  have neC:∀ b o,X.s₀.heap.get? b=some o→b∉X.ex→b∉ch:=fun b o e hx hb=>by
    rcases(hch b hb).1 with z | z
    · exact hx z
    · exact absurd (Nat.lt_of_lt_of_le (Heap.lt_size e) z) (Nat.lt_irrefl _)
  have cellK:∀ x c,X.env.cells.lookup x=some c→∀ v,s.heap.IsCell c v→h'.IsCell c v:=fun x c e v ⟨o,ho,hd⟩=>by
    have nch:c∉ch:=fun z=>(hch c z).2.2.1 x c e rfl
    by_cases hc:c∈X.fs
    · obtain⟨sl,q⟩:=slot c o (I.cne x c e) hc nch ho (I.freeC x c e)
      exact⟨_,q,hd⟩
    · exact⟨o,keep c o (I.cne x c e) hc nch ho (I.freeC x c e),hd⟩
  refine⟨I.ok,I.os,hg,⟨fun b o e n hb hx=>?_,fun b o e n hb hx=>?_,fun b o e n hx=>?_,fun b o e hx=>?_,fun b xs e=>tups b xs (I.base.tups b xs e),fun b o xs e=>frzs b o xs (I.base.frzs b o xs e),fun b ps e=>?_⟩,?_,fun x c e=>?_,?_,fun x c e=>?_,fun p hp=>?_,hok,I.len⟩
  · exact keep b o (neL b o e) hb (neC b o e hx) (I.base.keep b o e n hb hx) (I.base.free b o e n hx)
  · obtain⟨sl,e1⟩:=I.base.slot b o e n hb hx
    obtain⟨sl',e2⟩:=slot b _ (neL b o e) hb (neC b o e hx) e1 (I.base.free b o e n hx)
    exact⟨sl',e2⟩
  · obtain⟨o',e1⟩:=I.base.there b o e hx
    exact free b o' (neC b o e hx) e1 (I.base.free b o e n hx)
  · obtain⟨o',e1⟩:=I.base.there b o e hx
    exact there b o' (neC b o e hx) e1
  · obtain⟨m1,e1⟩:=I.base.tbls b ps e
    obtain⟨m2,e2⟩:=tbls b _ e1
    exact⟨m1++m2,by rw[e2,Array.append_assoc]⟩
  · obtain⟨m,hn,hl⟩:=I.loc
    refine⟨m,ns m hn,fun i x v e1 e2 e3=>?_⟩
    obtain⟨u,r,l⟩:=hl i x v e1 e2 e3
    refine⟨u,r,?_⟩
    rcases l with l | ⟨k,c,e,z⟩
    · exact .inl l
    · exact .inr ⟨k,c,e,cellK x c e _ z⟩
  · obtain⟨v,z⟩:=I.cell x c e
    exact⟨v,cellK x c e v z⟩
  · obtain⟨m,⟨o,_,_,ho,_⟩,_⟩:=I.loc
    exact free _ o (fun z=>(hch _ z).2.1 rfl) ho I.free
  · obtain⟨v,o,ho,hd⟩:=I.cell x c e
    exact free c o (fun z=>(hch c z).2.2.1 x c e rfl) ho (I.freeC x c e)
  · obtain⟨e,n,ne,nf,d⟩:=I.pin p hp
    have nch:p.1∉ch:=fun z=>(hch p.1 z).2.2.2 p hp rfl
    exact⟨keep p.1 p.2 ne nf nch e n,free p.1 p.2 nch e n,ne,nf,d⟩
theorem Inv.un {t':Nat} (I:Inv X pins σ H s) (u:Un X.fs [] H H' s.heap h') (hok:HOk X.prog X.w H' h'):Inv X pins σ H' { s with heap:=h',toks:=t' }:=by
  obtain⟨m,⟨o,es,ep,ho,r⟩,_⟩:=id I.loc
  obtain⟨sl,hL⟩:=u.any ho I.free (by simp)
  exact I.step (g':=s.gens) (d':=s.drawn) (ch:=[]) (fun _ z=>nomatch z) (fun b o _ hb _ e n=>u.keep b o e n hb (by simp)) (fun b o _ hb _ e n=>u.slot b o e n hb (by simp)) (fun b o _ e n=>u.free b o e n (by simp)) (fun b o _ e=>u.there b o e (by simp)) u.tups u.frzs u.tbls (fun m' hm=>by
    obtain⟨o',es',ep',ho',r'⟩:=hm
    rw[ho]at ho';cases ho'
    exact⟨_,es',ep',hL,r'⟩) hok I.bare
theorem Inv.call {g':Array GenState} {t':Nat} {d':Drawn} {ch:List Addr} (I:Inv X pins σ H s) (u:Un (frs X.stack) ch H H' s.heap h') (hok:HOk X.prog X.w H' h') (hg:AllBare g')
    (hch:∀ b∈ch,(b∈X.ex∨X.s₀.heap.objs.size≤b)∧b≠X.env.locals∧(∀ x c,X.env.cells.lookup x=some c→c≠b)∧∀ p∈X.pn++pins,p.1≠b) :
    Inv X pins σ H' { s with heap:=h',gens:=g',drawn:=d',toks:=t' }:=by
  obtain⟨m,⟨o,es,ep,ho,r⟩,_⟩:=id I.loc
  obtain⟨sl,hL⟩:=u.any ho I.free fun z=>(hch _ z).2.1 rfl
  exact I.step (ch:=ch) hch (fun b o hL hb hc e n=>u.keep b o e n (fun z=>(List.mem_cons.mp (I.stkSub b z)).elim hL hb) hc) (fun b o _ _ hc e n=>u.any e n hc) (fun b o hc e n=>u.free b o e n hc) (fun b o hc e=>u.there b o e hc) u.tups u.frzs u.tbls (fun m' hm=>by
    obtain⟨o',es',ep',ho',r'⟩:=hm
    rw[ho]at ho';cases ho'
    exact⟨_,es',ep',hL,r'⟩) hok hg
theorem Inv.turned {t':Nat} {it:Addr} (I:Inv X pins σ H s) (k:∀ b o,b≠it→s.heap.get? b=some o→h'.get? b=some o) (hn:H it=none) (hL:it≠X.env.locals)
    (h1:it∈X.ex∨X.s₀.heap.objs.size≤it) (h2:∀ x c,X.env.cells.lookup x=some c→c≠it) (h3:∀ p∈X.pn++pins,p.1≠it):Inv X pins σ H { s with heap:=h',toks:=t' }:=by
  have nit:∀ b u,H b=some u→b≠it:=fun b u e z=>by rw[z,hn]at e;cases e
  refine I.step (g':=s.gens) (d':=s.drawn) (ch:=[it]) (fun b hb=>?_) (fun b o _ _ hc e _=>k b o (fun z=>hc (by simp [z])) e) (fun b o _ _ hc e _=>⟨o.slots,k b o (fun z=>hc (by simp [z])) e⟩) (fun _ _ _ _ n=>n)
    (fun b o hc e=>⟨o,k b o (fun z=>hc (by simp [z])) e⟩) (fun _ _ e=>e) (fun _ _ _ e=>e) (fun b ps e=>⟨#[],by rw[e];simp⟩) (fun m hm=>?_) (fun b u e=>?_) I.bare
  · have e:b=it:=by simpa using hb
    subst e
    exact⟨h1,hL,h2,h3⟩
  · obtain⟨o,es,ep,ho,r⟩:=hm
    exact⟨o,es,ep,k _ o (Ne.symm hL) ho,r⟩
  · refine(I.hok b u e).stay (fun c v hc q=>k c v ?_ q) (fun _ q=>q) fun _ _ q=>q
    rcases hc with z | z
    · rw[z];exact nit b u e
    · exact nit c _ z
theorem Inv.tok (I:Inv X pins σ H s) (t:Nat):Inv X pins σ H { s with toks:=t }:=I.un (h':=s.heap) (t':=t) Un.refl I.hok
theorem Inv.kept {t':Nat} (I:Inv X pins σ H s) (k:∀ b u,s.heap.get? b=some u→h'.get? b=some u):Inv X pins σ H { s with heap:=h',toks:=t' }:=I.un (Un.kept k) (I.hok.kept k)
theorem Inv.laid {a:Addr} {o:HO} {t':Nat} (I:Inv X pins σ H s) (k:∀ b u,s.heap.get? b=some u→h'.get? b=some u) (hp:s.heap.objs.size≤a) (new:zaY X.prog X.w (upd H a o) h' a o) :
    Inv X pins σ (upd H a o) { s with heap:=h',toks:=t' }:=I.un (Un.laid k hp (I.hok.fresh hp)) (I.hok.laid k hp new)
theorem Inv.write {x e:Addr} {o:HO} {t':Nat} (I:Inv X pins σ H s) (mu:Mut (H x)) (he:e=x∨H e=some (.own x)) (k:∀ b u,b≠e→s.heap.get? b=some u→h'.get? b=some u) (heo:∃ u,h'.get? e=some u)
    (new:zaY X.prog X.w (upd H x o) h' x o):Inv X pins σ (upd H x o) { s with heap:=h',toks:=t' }:=I.un (Un.write mu he k heo) (I.hok.write mu he k heo new)
theorem Inv.pins_of {pins':List (Addr × Obj)} (I:Inv X pins σ H s) (h:∀ p∈pins',s.heap.get? p.1=some p.2∧H p.1=none∧p.1≠X.env.locals∧p.1∉X.fs∧∀ v,p.2.data≠.cell v):Inv X pins' σ H s :=
  ⟨I.ok,I.os,I.bare,I.base,I.loc,I.cell,I.free,I.freeC,fun p hp=>(List.mem_append.mp hp).elim (fun z=>I.pin p (List.mem_append_left _ z)) (h p),I.hok,I.len⟩
theorem zh2 {N:List Str} (hN:N.Nodup) {i j:Nat} {x:Str} (a:N[i]?=some x) (b:N[j]?=some x):i=j:=by
  obtain⟨h1,e1⟩:=List.getElem?_eq_some_iff.mp a
  obtain⟨h2,e2⟩:=List.getElem?_eq_some_iff.mp b
  exact(List.getElem_inj hN).mp (e1.trans e2.symm)
theorem ze8 {M:Model} {A:Around} {E:Value→Shared→Prop} {i:Nat} {x:Str} {v:V} {u:Value} {Q:Unit→Shared→Prop} (I:Inv X pins σ H s) (hN:X.N.Nodup) (hi:X.N[i]?=some x) (hx:Loc X.env.scope x) (r:aR v u)
    (h:∀ s',Inv X pins (σ.set i (some v)) H s'→(∃ a,Heap.SameBut a s.heap s'.heap∧(a=X.env.locals∨X.env.cells.lookup x=some a))→Q () s') (hf:X.fn x=true∨X.env.scope.names.lookup x=some .local:=by first | exact .inl rfl | exact .inr rfl | assumption):wpAny M A (storeName X.env x u) Q E s:=by
  obtain⟨m,hn,hl⟩:=id I.loc
  have hcls:(X.env.scope.kind == .class||(X.env.scope.kind == .module&&X.env.locals != X.env.globals))=false:=by rw[I.ok.kind];rfl
  have hiσ:i < σ.length:=by rw[I.len];exact(List.getElem?_eq_some_iff.mp hi).1
  have cne:=I.cne
  have tracked:∀ {a:Addr} {h':Heap},(∃ o,s.heap.get? a=some o∧H a=none)→Heap.SameBut a s.heap h'→HOk X.prog X.w H h':=fun {a h'} ha hs b ob e=>by
    obtain⟨_,_,hfree⟩:=ha
    refine(I.hok b ob e).stay (fun c w' hc q=>(hs.2 c ?_).trans q) (fun _ q=>q) fun _ _ q=>q
    rintro rfl
    rcases hc with rfl | hc
    · rw[hfree]at e;cases e
    · rw[hfree]at hc;cases hc
  rcases hx with hk | hk
  · refine wpAny_storeName_local hk hn (fun h' hn' hs=>?_) hcls
    obtain⟨oL,_,_,hoL,_⟩:=id hn
    refine h _ ⟨I.ok,I.os,I.bare,⟨fun b o e n hb hx=>?_,fun b o e n hb hx=>?_,I.base.free,fun b o e hx=>?_,I.base.tups,I.base.frzs,I.base.tbls⟩,⟨_,hn',fun j y v' e1 e2 e3=>?_⟩,fun y c e=>?_,I.free,I.freeC,fun p hp=>?_,tracked ⟨oL,hoL,I.free⟩ hs,by simpa using I.len⟩ ⟨_,hs,.inl rfl⟩
    · exact(hs.2 b (Nat.ne_of_lt (Nat.lt_of_lt_of_le (Heap.lt_size e) I.ok.above))).trans (I.base.keep b o e n hb hx)
    · obtain⟨sl,e1⟩:=I.base.slot b o e n hb hx
      exact⟨sl,(hs.2 b (Nat.ne_of_lt (Nat.lt_of_lt_of_le (Heap.lt_size e) I.ok.above))).trans e1⟩
    · obtain⟨o',e1⟩:=I.base.there b o e hx
      exact⟨o',(hs.2 b (Nat.ne_of_lt (Nat.lt_of_lt_of_le (Heap.lt_size e) I.ok.above))).trans e1⟩
    · by_cases hj:j=i
      · subst hj
        rw[hi]at e1;cases e1
        rw[List.getElem?_set_self hiσ]at e2
        cases e2
        exact⟨u,r,.inl ⟨hk,by simp⟩⟩
      · rw[List.getElem?_set_ne (Ne.symm hj)]at e2
        obtain⟨u',r',q⟩:=hl j y v' e1 e2 e3
        refine⟨u',r',?_⟩
        rcases q with ⟨k,e⟩ | ⟨k,c,e,z⟩
        · refine .inl ⟨k,?_⟩
          have:y≠x:=fun e=>hj (zh2 hN e1 (e ▸ hi))
          simp [this,e]
        · exact .inr ⟨k,c,e,z.sameBut hs (cne y c e)⟩
    · obtain⟨w',z⟩:=I.cell y c e
      exact⟨w',z.sameBut hs (cne y c e)⟩
    · obtain⟨e,n,ne,nf,d⟩:=I.pin p hp
      exact⟨(hs.2 p.1 ne).trans e,n,ne,nf,d⟩
  · have hfn:X.fn x=true:=by
      rcases hf with z | z
      · exact z
      · rw[z]at hk;cases hk
    obtain⟨c,hc⟩:=I.ok.has x (.inl hk)
    obtain⟨w',z⟩:=I.cell x c hc
    refine wpAny_storeName_cell I.ok.kind hk hc z (fun h' hc' hs=>?_)
    obtain⟨oc,hoc,hocd⟩:=id z
    refine h { s with heap:=h' } ⟨I.ok,I.os,I.bare,⟨fun b o e n hb hx=>?_,fun b o e n hb hx=>?_,I.base.free,fun b o e hx=>?_,I.base.tups,I.base.frzs,I.base.tbls⟩,⟨m,hn.sameBut hs (Ne.symm (cne x c hc)),fun j y v' e1 e2 e3=>?_⟩,fun y c' e=>?_,I.free,I.freeC,fun p hp=>?_,tracked ⟨oc,hoc,I.freeC x c hc⟩ hs,by simpa using I.len⟩ ⟨c,hs,.inr hc⟩
    · exact(hs.2 b (Nat.ne_of_lt (Nat.lt_of_lt_of_le (Heap.lt_size e) (I.ok.cab x c hfn hc)))).trans (I.base.keep b o e n hb hx)
    · obtain⟨sl,e1⟩:=I.base.slot b o e n hb hx
      exact⟨sl,(hs.2 b (Nat.ne_of_lt (Nat.lt_of_lt_of_le (Heap.lt_size e) (I.ok.cab x c hfn hc)))).trans e1⟩
    · obtain⟨o',e1⟩:=I.base.there b o e hx
      exact⟨o',(hs.2 b (Nat.ne_of_lt (Nat.lt_of_lt_of_le (Heap.lt_size e) (I.ok.cab x c hfn hc)))).trans e1⟩
    · by_cases hj:j=i
      · subst hj
        rw[hi]at e1;cases e1
        rw[List.getElem?_set_self hiσ]at e2
        cases e2
        exact⟨u,r,.inr ⟨.inl hk,c,hc,hc'⟩⟩
      · rw[List.getElem?_set_ne (Ne.symm hj)]at e2
        obtain⟨u',r',q⟩:=hl j y v' e1 e2 e3
        refine⟨u',r',?_⟩
        rcases q with q | ⟨k,c',e,z'⟩
        · exact .inl q
        · refine .inr ⟨k,c',e,z'.sameBut hs ?_⟩
          rintro rfl
          exact hj (zh2 hN e1 (I.ok.inj _ _ _ e hc ▸ hi))
    · by_cases hcc:c'=c
      · subst hcc;exact⟨_,hc'⟩
      · obtain⟨w2,z2⟩:=I.cell y c' e
        exact⟨w2,z2.sameBut hs hcc⟩
    · obtain⟨e,n,ne,nf,d⟩:=I.pin p hp
      refine⟨(hs.2 p.1 ?_).trans e,n,ne,nf,d⟩
      intro q
      rw[q,hoc]at e
      have q':oc=p.2:=Option.some.inj e
      exact d w' (by rw[←q'];exact hocd)
theorem zfL {M:Model} {A:Around} {E:Value→Shared→Prop} {i:Nat} {x:Str} {v:V} {u:Value} {Q:Unit→Shared→Prop} (I:Inv X pins σ H s) (hN:X.N.Nodup) (hi:X.N[i]?=some x) (hx:Loc X.env.scope x) (r:aR v u)
    (h:∀ s',Inv X pins (σ.set i (some v)) H s'→Q () s') (hf:X.fn x=true∨X.env.scope.names.lookup x=some .local:=by first | exact .inl rfl | exact .inr rfl | assumption):wpAny M A (storeName X.env x u) Q E s :=
  ze8 I hN hi hx r (fun s' I' _=>h s' I') hf
theorem Inv.call' {s':Shared} {ch:List Addr} (I:Inv X pins σ H s) (ho:s'.os=s.os) (u:Un (frs X.stack) ch H H' s.heap s'.heap) (hok:HOk X.prog X.w H' s'.heap) (hg:AllBare s'.gens)
    (hch:∀ b∈ch,(b∈X.ex∨X.s₀.heap.objs.size≤b)∧b≠X.env.locals∧(∀ x c,X.env.cells.lookup x=some c→c≠b)∧∀ p∈X.pn++pins,p.1≠b):Inv X pins σ H' s':=by
  obtain⟨h',g',d',t',o'⟩:=s'
  have e:o'=s.os:=ho
  subst e
  exact I.call (g':=g') (t':=t') (d':=d') u hok hg hch
end
abbrev XK:=Value→Option Addr→Hp→Prop
abbrev St:=List (Option V)
abbrev VK:=V→Hp→Prop
abbrev TE:=St→Hp→VK→Prop
abbrev TT:=St→Hp→(Bool→Hp→Prop)→Prop
abbrev TA:=St→Hp→(List V→Hp→Prop)→Prop
structure za3 where
  nx:St→Hp→Prop
  rt:VK
  bk:St→Hp→Prop:=fun _ _=>False
  ct:St→Hp→Prop:=fun _ _=>False
abbrev TS:=za3→St→Hp→Prop
def EP (X:Cx) (pins:List (Addr × Obj)) (σ:St) (Q:VK) (u:Value) (s':Shared):Prop:=∃ v H',Inv X pins σ H' s'∧aR v u∧Q v H'
def TP (X:Cx) (pins:List (Addr × Obj)) (σ:St) (Q:Bool→Hp→Prop) (b:Bool) (s':Shared):Prop:=∃ H',Inv X pins σ H' s'∧Q b H'
def AP (X:Cx) (pins:List (Addr × Obj)) (σ:St) (Q:List V→Hp→Prop) (us:List Value) (s':Shared):Prop:=∃ vs H',Inv X pins σ H' s'∧aQ vs us∧Q vs H'
def SP (X:Cx) (pins:List (Addr × Obj)) (D:za3) (f:Flow) (s':Shared):Prop :=
  match f with
  | .next=>∃ σ' H',Inv X pins σ' H' s'∧D.nx σ' H'
  | .brk=>∃ σ' H',Inv X pins σ' H' s'∧D.bk σ' H'
  | .cont=>∃ σ' H',Inv X pins σ' H' s'∧D.ct σ' H'
  | .ret u=>∃ v σ' H',Inv X pins σ' H' s'∧aR v u∧D.rt v H'
def PE (X:Cx) (e:Expr) (t:TE):Prop :=
  ∀(pins:List (Addr × Obj)) (s:Shared) (σ:St) (H:Hp) (Q:VK),Inv X pins σ H s→t σ H Q→wpAny (model X.prog X.w) X.A (eval e X.env) (EP X pins σ Q) X.xe s
def PT (X:Cx) (e:Expr) (t:TT):Prop :=
  ∀(pins:List (Addr × Obj)) (s:Shared) (σ:St) (H:Hp) (Q:Bool→Hp→Prop),Inv X pins σ H s→t σ H Q→wpAny (model X.prog X.w) X.A (isTrue e X.env (eval e X.env)) (TP X pins σ Q) X.xe s
def PW (X:Cx) (e:Expr) (t:TT):Prop :=
  ∀(whole:Sem Value) (pins:List (Addr × Obj)) (s:Shared) (σ:St) (H:Hp) (Q:Bool→Hp→Prop),Inv X pins σ H s→t σ H Q→wpAny (model X.prog X.w) X.A (isTrue e X.env whole) (TP X pins σ Q) X.xe s
theorem PW.pt {X:Cx} {e:Expr} {t:TT} (h:PW X e t):PT X e t:=h _
def PA (X:Cx) (es:List Expr) (t:TA):Prop :=
  ∀(pos:Pos) (pins:List (Addr × Obj)) (s:Shared) (σ:St) (H:Hp) (Q:List V→Hp→Prop),Inv X pins σ H s→t σ H Q→wpAny (model X.prog X.w) X.A (spliced (backTo pos (starEach es X.env))) (AP X pins σ Q) X.xe s
def PS (X:Cx) (st:Stmt) (t:TS):Prop :=
  ∀(pins:List (Addr × Obj)) (s:Shared) (σ:St) (H:Hp) (D:za3),Inv X pins σ H s→t D σ H→wpAny (model X.prog X.w) X.A (exec st X.env) (SP X pins D) X.xe s
def PSs (X:Cx) (st:List Stmt) (t:TS):Prop :=
  ∀(pins:List (Addr × Obj)) (s:Shared) (σ:St) (H:Hp) (D:za3),Inv X pins σ H s→t D σ H→wpAny (model X.prog X.w) X.A (execs st X.env) (SP X pins D) X.xe s
theorem thn {α:Type} {t:Sem α} {Q Q':α→Shared→Prop} {M:Model} {A:Around} {E:Value→Shared→Prop} {s:Shared} (h:wpAny M A t Q E s) (hQ:∀ a s,Q a s→Q' a s):wpAny M A t Q' E s:=wpAny_mono h hQ fun _ _ x=>x
end L2
namespace L2
open PySem PySem.Spec PyProof.Rows
section
variable {X:Cx}
theorem bin {a b:Expr} {ta tb:TE} (ha:PE X a ta) (hb:PE X b tb) {pins:List (Addr × Obj)} {s:Shared} {σ:St} {H:Hp} {R:V→V→Hp→Prop} (I:Inv X pins σ H s) (h:ta σ H fun x H1=>tb σ H1 fun y H2=>R x y H2)
    {α:Type} {Q:α→Shared→Prop} {f:Value→Value→Sem α}
    (hf:∀ v u s2 x y H2,Inv X pins σ H2 s2→aR x v→aR y u→R x y H2→wpAny (model X.prog X.w) X.A (f v u) Q X.xe s2) :
    wpAny (model X.prog X.w) X.A (eval a X.env) (fun v s₁=>wpAny (model X.prog X.w) X.A (eval b X.env) (fun u s₂=>wpAny (model X.prog X.w) X.A (f v u) Q X.xe s₂) X.xe s₁) X.xe s:=by
  refine thn (ha pins s σ H _ I h) fun v s1 ⟨x,H1,I1,r1,q1⟩=>?_
  refine thn (hb pins s1 σ H1 _ I1 q1) fun u s2 ⟨y,H2,I2,r2,q2⟩=>?_
  exact hf v u s2 x y H2 I2 r1 r2 q2
def tVar (i:Nat):TE:=fun σ H Q=>∃ v,σ[i]?=some (some v)∧Q v H
def tC (v:V):TE:=fun _ H Q=>Q v H
theorem pe_var {i:Nat} {x:Str} {pos:Pos} (hN:X.N[i]?=some x) (hv:Vis X.env.scope x) (hd:(x == ("__debug__":Str))=false:=by decide) (hcd:(x == ("__classdict__":Str))=false:=by decide):PE X (.Name x pos) (tVar i):=by
  intro pins s σ H Q I h
  obtain⟨v,e,h⟩:=h
  obtain⟨m,hn,hl⟩:=I.loc
  obtain⟨u,r,l⟩:=hl i x v hN e hv
  have fin:EP X pins σ Q u s:=⟨v,H,I,r,h⟩
  rcases l with ⟨hk,hm⟩ | ⟨hk,c,hc,hcell⟩
  · exact wpAny_Name (wpAny_loadName_local I.ok.kind hk hn hm fin) hd
  · rcases hk with hk | hk
    · exact wpAny_Name (wpAny_loadName_cell I.ok.kind hk hc hcell fin) hd
    · exact wpAny_Name (wpAny_loadName_free I.ok.kind hk hc hcell fin hcd) hd
theorem ag {i j pos}:PE X (.Constant (.int i) j pos) (tC (.int i)):=fun _ _ _ H _ I h=>wpAny_Constant_int ⟨.int i,H,I.tok _,⟨_,rfl⟩,h⟩
theorem zhq {b j pos}:PE X (.Constant (.bool b) j pos) (tC (.bl b)):=fun _ _ _ H _ I h=>Constant_bool ⟨.bl b,H,I,rfl,h⟩
theorem au {x j pos}:PE X (.Constant (.str x) j pos) (tC (.str x)):=fun _ _ _ H _ I h=>Calls.Constant_str ⟨.str x,H,I.tok _,⟨_,rfl⟩,h⟩
def Gl (X:Cx) (x:Str):Prop:=X.env.kindOf x=some .globalImplicit
theorem zcI {E:Value→Shared→Prop} {pins:List (Addr × Obj)} {s:Shared} {σ:St} {H:Hp} {x:Str} {u:Value} {pos:Pos} {Q:Value→Shared→Prop} (I:Inv X pins σ H s) (hg:Gl X x) (hm:X.mg x=some u) (h:Q u s)
    (hd:(x == ("__debug__":Str))=false:=by decide):wpAny (model X.prog X.w) X.A (eval (.Name x pos) X.env) Q E s :=
  Calls.Name_function_global I.ok.kind hg (Calls.loadGlobal_global (by rw[I.ok.glob];exact I.mod.glob.keeps I.bk) hm h) hd
theorem ze3 {E:Value→Shared→Prop} {pins:List (Addr × Obj)} {s:Shared} {σ:St} {H:Hp} {x:Str} {u:Value} {pos:Pos} {Q:Value→Shared→Prop} (I:Inv X pins σ H s) (hg:Gl X x) (hm:X.mg x=none) (hv:bootBuiltins x=some u) (h:Q u s)
    (hn:x≠"__name__":=by decide) (hd:(x == ("__debug__":Str))=false:=by decide):wpAny (model X.prog X.w) X.A (eval (.Name x pos) X.env) Q E s:=by
  obtain⟨mb,h1,h2⟩:=I.mod.blt
  exact Calls.Name_function_global I.ok.kind hg (Calls.loadGlobal_builtin (by rw[I.ok.glob];exact I.mod.glob.keeps I.bk) hm (by rw[I.ok.blt];exact h1.keeps I.bk) ((h2 x hn).trans hv) h) hd
theorem zbc {x:Str} {v:V} {u:Value} {pos:Pos} (hg:Gl X x) (hm:X.mg x=some u) (r:aR v u) (hd:(x == ("__debug__":Str))=false:=by decide):PE X (.Name x pos) (tC v) :=
  fun _ _ _ H _ I h=>zcI I hg hm ⟨v,H,I,r,h⟩ hd
theorem zlp {x:Str} {v:V} {u:Value} {pos:Pos} (hg:Gl X x) (hm:X.mg x=none) (hv:bootBuiltins x=some u) (r:aR v u) (hn:x≠"__name__":=by decide) (hd:(x == ("__debug__":Str))=false:=by decide):PE X (.Name x pos) (tC v) :=
  fun _ _ _ H _ I h=>ze3 I hg hm hv ⟨v,H,I,r,h⟩ hn hd
variable {a b:Expr} {ta tb:TE} {pos:Pos}
def PC (X:Cx) (op:CmpOp) (a b:Expr) (t:TE):Prop :=
  ∀(pins:List (Addr × Obj)) (s:Shared) (σ:St) (H:Hp) (Q:VK),Inv X pins σ H s→t σ H Q →
    wpAny (model X.prog X.w) X.A (eval a X.env) (fun v s₁=>wpAny (model X.prog X.w) X.A (eval b X.env) (fun u s₂=>wpAny (model X.prog X.w) X.A (compareOp op v u) (EP X pins σ Q) X.xe s₂) X.xe s₁) X.xe s
def tB (t:TE):TT:=fun σ H Q=>t σ H fun x H1=>∃ c,x=.bl c∧Q c H1
theorem pt_cmp {op:CmpOp} {t:TE} (h:PC X op a b t) (h1:behindInMarks op b=false:=by first | exact nobehind _ (by decide) (by decide) | rfl):PT X (.Compare a [op] [b] pos) (tB t):=by
  intro pins s σ H Q I hw
  refine wpAny_isTrue_Compare1 (thn (h pins s σ H _ I hw) fun v s1 h1=>thn h1 fun u s2 h2=>thn h2 fun c s3 ⟨x,H1,I1,r1,q1⟩=>?_) h1
  obtain⟨d,rfl,q⟩:=q1
  cases r1
  exact wpAny_truthy_bool ⟨H1,I1,q⟩
theorem zjD {e:Expr} {t:TE} (h:PE X e t) (he:∀ whole,isTrue e X.env whole=(do let v ←whole;standAt e.pos;holding [v] (truthy v)):=by intro _;rfl):PT X e (tB t):=by
  intro pins s σ H Q I hw
  refine isTrue_plain (thn (h pins s σ H _ I hw) fun v s1 ⟨x,H1,I1,r1,q1⟩=>?_) (he _)
  obtain⟨d,rfl,q⟩:=q1
  cases r1
  exact wpAny_truthy_bool ⟨H1,I1,q⟩
variable {tA tB':TT} {zbs:List Expr}
def tAnd (t u:TT):TT:=fun σ H Q=>t σ H fun c H1=>if c=true then u σ H1 Q else Q false H1
def tOr (t u:TT):TT:=fun σ H Q=>t σ H fun c H1=>if c=true then Q true H1 else u σ H1 Q
def tNot (t:TT):TT:=fun σ H Q=>t σ H fun c H1=>Q (!c) H1
theorem ziH (ha:PT X a tA):PW X (.BoolOp .And [a] pos) tA:=by
  intro wh pins s σ H Q I h
  refine isTrue_and (thn (ha pins s σ H Q I h) fun c s1 e=>?_)
  cases c with
  | true=>exact isTrue_and_nil e
  | false=>exact e
theorem zdG (ha:PT X a tA):PW X (.BoolOp .Or [a] pos) tA:=by
  intro wh pins s σ H Q I h
  refine isTrue_or (thn (ha pins s σ H Q I h) fun c s1 e=>?_)
  cases c with
  | false=>exact isTrue_or_nil e
  | true=>exact e
theorem zhx (ha:PT X a tA) (hb:PW X (.BoolOp .And (b :: zbs) pos) tB'):PW X (.BoolOp .And (a :: b :: zbs) pos) (tAnd tA tB'):=by
  intro wh pins s σ H Q I h
  refine isTrue_and (thn (ha pins s σ H _ I h) fun c s1 ⟨H1,I1,q1⟩=>?_)
  cases c with
  | true=>exact hb wh pins s1 σ H1 Q I1 q1
  | false=>exact⟨H1,I1,q1⟩
theorem zdp (ha:PT X a tA) (hb:PW X (.BoolOp .Or (b :: zbs) pos) tB'):PW X (.BoolOp .Or (a :: b :: zbs) pos) (tOr tA tB'):=by
  intro wh pins s σ H Q I h
  refine isTrue_or (thn (ha pins s σ H _ I h) fun c s1 ⟨H1,I1,q1⟩=>?_)
  cases c with
  | true=>exact⟨H1,I1,q1⟩
  | false=>exact hb wh pins s1 σ H1 Q I1 q1
theorem zjE (ha:PT X a tA):PT X (.UnaryOp .Not a pos) (tNot tA):=by
  intro pins s σ H Q I h
  exact isTrue_not (ha pins s σ H (fun c H1=>Q (!c) H1) I h)
def tAndV (ta tb:TE):TE:=fun σ H Q=>ta σ H fun x H1=>∃ c,x=.bl c∧if c=true then tb σ H1 Q else Q (.bl false) H1
def tOrV (ta tb:TE):TE:=fun σ H Q=>ta σ H fun x H1=>∃ c,x=.bl c∧if c=true then Q (.bl true) H1 else tb σ H1 Q
theorem zeZ {op} {t:TE} (h:PE X a t):PE X (.BoolOp op [a] pos) t:=fun pins s σ H Q I hw=>BoolOp_one (h pins s σ H Q I hw)
theorem zen (ha:PE X a ta) (hb:PE X (.BoolOp .And (b :: zbs) pos) tb):PE X (.BoolOp .And (a :: b :: zbs) pos) (tAndV ta tb):=by
  intro pins s σ H Q I h
  refine BoolOp_and (thn (ha pins s σ H _ I h) fun v s1 ⟨x,H1,I1,r1,q1⟩=>?_)
  obtain⟨c,rfl,q1⟩:=q1
  cases r1
  refine wpAny_truthy_bool ?_
  cases c with
  | true=>exact hb pins s1 σ H1 Q I1 q1
  | false=>exact⟨.bl false,H1,I1,rfl,q1⟩
theorem pe_or (ha:PE X a ta) (hb:PE X (.BoolOp .Or (b :: zbs) pos) tb):PE X (.BoolOp .Or (a :: b :: zbs) pos) (tOrV ta tb):=by
  intro pins s σ H Q I h
  refine BoolOp_or (thn (ha pins s σ H _ I h) fun v s1 ⟨x,H1,I1,r1,q1⟩=>?_)
  obtain⟨c,rfl,q1⟩:=q1
  cases r1
  refine wpAny_truthy_bool ?_
  cases c with
  | false=>exact hb pins s1 σ H1 Q I1 q1
  | true=>exact⟨.bl true,H1,I1,rfl,q1⟩
def tIf (t:TT) (ta tb:TE):TE:=fun σ H Q=>t σ H fun c H1=>if c=true then ta σ H1 Q else tb σ H1 Q
theorem zfU {c:Expr} (hc:PT X c tA) (ha:PE X a ta) (hb:PE X b tb):PE X (.IfExp c a b pos) (tIf tA ta tb):=by
  intro pins s σ H Q I h
  refine wpAny_IfExp (thn (hc pins s σ H _ I h) fun d s1 ⟨H1,I1,q1⟩=>?_)
  cases d with
  | true=>exact ha pins s1 σ H1 Q I1 q1
  | false=>exact hb pins s1 σ H1 Q I1 q1
end
end L2
namespace L2
open PySem PySem.Spec PyProof.Rows
def SqL (K:PySem.W.Frag) (H:Hp) (a:Addr) (xs:List V):Prop :=
  Rd H a (.lst xs) ∨
    ∃(o:Obj) (its:Array Value) (n:Nat),K.lookup a=some o∧o.cls=.type "list"∧o.dict=none∧o.data=.seq its n∧its.size≤sizeLine∧aQ xs its.toList
def SqT (K:PySem.W.Frag) (H:Hp) (a:Addr) (xs:List V):Prop :=
  Rd H a (.tup xs) ∨
    ∃(o:Obj) (its:Array Value) (n:Nat),K.lookup a=some o∧o.cls=.type "tuple"∧o.data=.seq its n∧its.size≤sizeLine∧aQ xs its.toList
def absV:Value→Option V
  | .none=>some .non
  | .bool b=>some (.bl b)
  | .int i _=>some (.int i)
  | .str x _=>some (.str x)
  | .bytes b _=>some (.byt b)
  | .float b _=>some (.flt b)
  | .ref a=>some (.ref a)
  | .type n=>some (.ty n)
  | _=>none
theorem aR.abs {x:V} {u:Value} (r:aR x u):absV u=some x:=by
  cases x with
  | non=>cases r;rfl
  | bl _=>cases r;rfl
  | int _=>obtain⟨t,rfl⟩:=r;rfl
  | str _=>obtain⟨t,rfl⟩:=r;rfl
  | byt _=>obtain⟨t,rfl⟩:=r;rfl
  | flt _=>obtain⟨t,rfl⟩:=r;rfl
  | ref _=>cases r;rfl
  | ty _=>cases r;rfl
theorem aR.inj {x y:V} {u:Value} (r:aR x u) (q:aR y u):x=y:=Option.some.inj (r.abs.symm.trans q.abs)
theorem aQ.inj:∀ {xs ys:List V} {us:List Value},aQ xs us→aQ ys us→xs=ys
  | _,_,_,.nil,.nil=>rfl
  | _,_,_,.cons r t,.cons r' t'=>by rw[r.inj r',aQ.inj t t']
section
variable {X:Cx} {pins:List (Addr × Obj)} {σ:St} {H:Hp} {s:Shared} {a:Addr} {xs ys:List V}
theorem SqL.of {K:PySem.W.Frag} (h:H a=some (.lst xs)):SqL K H a xs:=.inl (.inl h)
theorem SqT.of {K:PySem.W.Frag} (h:H a=some (.tup xs)):SqT K H a xs:=.inl (.inl h)
theorem Inv.list (I:Inv X pins σ H s) (h:SqL X.K H a xs):∃ its:List Value,aQ xs its∧PlainL s.heap a its.toArray∧xs.length≤sizeLine:=by
  rcases h with h | ⟨o,its,n,hk,hc,hd,hs,hz,r⟩
  · obtain⟨z,its,n,r,e⟩:=h.ok I.hok
    exact⟨its,r,⟨_,n,e,rfl,rfl,rfl⟩,z⟩
  · refine⟨its.toList,r,⟨o,n,I.kIn a o hk,hc,hd,by simpa using hs⟩,?_⟩
    have e:=r.length
    simp only[Array.length_toList]at e
    omega
theorem Inv.tuple (I:Inv X pins σ H s) (h:SqT X.K H a xs):∃ its:List Value,aQ xs its∧IsTup s.heap a its.toArray∧xs.length≤sizeLine:=by
  rcases h with h | ⟨o,its,n,hk,hc,hs,hz,r⟩
  · obtain⟨z,its,r,p⟩:=h.ok I.hok
    exact⟨its,r,p,z⟩
  · refine⟨its.toList,r,⟨o,I.kIn a o hk,hc,n,by simpa using hs⟩,?_⟩
    have e:=r.length
    simp only[Array.length_toList]at e
    omega
theorem Inv.list_inj (I:Inv X pins σ H s) (h:SqL X.K H a xs) (h':SqL X.K H a ys):xs=ys:=by
  obtain⟨its,r,⟨o,n,e,_,_,d⟩,_⟩:=I.list h
  obtain⟨its',r',⟨o',n',e',_,_,d'⟩,_⟩:=I.list h'
  rw[e]at e';cases e'
  rw[d]at d'
  injection d' with d1 _
  have:its=its':=by simpa using congrArg Array.toList d1
  subst this
  exact r.inj r'
theorem Inv.tuple_inj (I:Inv X pins σ H s) (h:SqT X.K H a xs) (h':SqT X.K H a ys):xs=ys:=by
  obtain⟨its,r,⟨o,e,_,n,d⟩,_⟩:=I.tuple h
  obtain⟨its',r',⟨o',e',_,n',d'⟩,_⟩:=I.tuple h'
  rw[e]at e';cases e'
  rw[d]at d'
  injection d' with d1 _
  have:its=its':=by simpa using congrArg Array.toList d1
  subst this
  exact r.inj r'
end
abbrev Cx.wish (X:Cx) (E:Value→Shared→Prop):Cx:={ X with xe:=E }
abbrev Cx.nox (X:Cx):Cx:=X.wish fun _ _=>False
theorem Cx.Ok.wish {X:Cx} (ok:X.Ok) (E:Value→Shared→Prop):(X.wish E).Ok :=
  ⟨ok.mod,ok.kind,ok.glob,ok.blt,ok.above,ok.inj,ok.has,ok.cab,ok.hd,ok.frames,ok.stk,ok.exf,ok.bs,ok.bsz,ok.noex,ok.exfs,ok.funs,ok.frf⟩
theorem Cx.Ok.unwish {X:Cx} {E:Value→Shared→Prop} (ok:(X.wish E).Ok):X.Ok :=
  ⟨ok.mod,ok.kind,ok.glob,ok.blt,ok.above,ok.inj,ok.has,ok.cab,ok.hd,ok.frames,ok.stk,ok.exf,ok.bs,ok.bsz,ok.noex,ok.exfs,ok.funs,ok.frf⟩
section
variable {X:Cx} {pins:List (Addr × Obj)} {σ:St} {H:Hp} {s:Shared} {E:Value→Shared→Prop}
theorem Inv.wish (I:Inv X pins σ H s) (E:Value→Shared→Prop):Inv (X.wish E) pins σ H s:=⟨I.ok.wish E,I.os,I.bare,I.base,I.loc,I.cell,I.free,I.freeC,I.pin,I.hok,I.len⟩
theorem Inv.unwish (I:Inv (X.wish E) pins σ H s):Inv X pins σ H s:=⟨I.ok.unwish,I.os,I.bare,I.base,I.loc,I.cell,I.free,I.freeC,I.pin,I.hok,I.len⟩
theorem SP.unwish {D:za3} {f:Flow} {s':Shared} (h:SP (X.wish E) pins D f s'):SP X pins D f s':=by
  cases f with
  | next=>obtain⟨σ',H',I,q⟩:=h;exact⟨σ',H',I.unwish,q⟩
  | brk=>obtain⟨σ',H',I,q⟩:=h;exact⟨σ',H',I.unwish,q⟩
  | cont=>obtain⟨σ',H',I,q⟩:=h;exact⟨σ',H',I.unwish,q⟩
  | ret u=>obtain⟨v,σ',H',I,r,q⟩:=h;exact⟨v,σ',H',I.unwish,r,q⟩
theorem PSs.nox {st:List Stmt} {t:TS} (h:PSs X.nox st t):PSs X st t:=fun pins s σ H D I hw =>
  wpAny_mono (h pins s σ H D (I.wish _) hw) (fun _ _ q=>q.unwish) fun _ _ z=>False.elim z
end
section
variable {X:Cx} {st:Stmt} {zbs:List Stmt} {t u:TS} {e:Expr} {te:TE} {pos:Pos}
def tNext:TS:=fun D σ H=>D.nx σ H
def tSeq (t u:TS):TS:=fun D σ H=>t { D with nx:=u D } σ H
theorem zad:PSs X [] tNext:=fun _ _ σ H _ I h=>wpAny_execs_nil ⟨σ,H,I,h⟩
theorem ae (h1:PS X st t) (h2:PSs X zbs u):PSs X (st :: zbs) (tSeq t u):=by
  intro pins s σ H D I h
  refine wpAny_execs_cons (thn (h1 pins s σ H { D with nx:=u D } I h) fun f s1 q=>?_)
  cases f with
  | next =>
    obtain⟨σ',H',I',q⟩:=q
    exact h2 pins s1 σ' H' D I' q
  | ret v=>exact q
  | brk=>exact q
  | cont=>exact q
theorem ai (h1:PS X st t):PSs X [st] t:=by
  intro pins s σ H D I h
  refine wpAny_execs_cons (thn (h1 pins s σ H D I h) fun f s1 q=>?_)
  cases f with
  | next=>exact wpAny_execs_nil q
  | ret v=>exact q
  | brk=>exact q
  | cont=>exact q
theorem Inv.quiet {pins:List (Addr × Obj)} {σ:St} {H:Hp} {s:Shared} (I:Inv X pins σ H s):interactive X.env=false:=by simp [interactive,I.ok.kind]
def tDrop (te:TE):TS:=fun D σ H=>te σ H fun _ H1=>D.nx σ H1
theorem zau (he:PE X e te) (hs:swapsWith e none pos.line X.env=pure false:=by rfl):PS X (.Expr e pos) (tDrop te):=by
  intro pins s σ H D I h
  exact wpAny_Expr_any (thn (he pins s σ H _ I h) fun v s1 ⟨x,H1,I1,r1,q1⟩=>⟨σ,H1,I1,q1⟩) I.quiet hs
def tRet (te:TE):TS:=fun D σ H=>te σ H D.rt
theorem ay (he:PE X e te):PS X (.Return (some e) pos) (tRet te):=by
  intro pins s σ H D I h
  exact wpAny_Return_some (thn (he pins s σ H _ I h) fun v s1 ⟨x,H1,I1,r1,q1⟩=>⟨x,σ,H1,I1,r1,q1⟩)
def tIfS (c:TT) (t u:TS):TS:=fun D σ H=>c σ H fun b H1=>if b=true then t D σ H1 else u D σ H1
theorem zal {c:Expr} {a b:List Stmt} {tc:TT} (hc:PT X c tc) (ha:PSs X a t) (hb:PSs X b u):PS X (.If c a b pos) (tIfS tc t u):=by
  intro pins s σ H D I h
  refine wpAny_If (thn (hc pins s σ H _ I h) fun d s1 ⟨H1,I1,q1⟩=>?_)
  cases d with
  | true=>exact ha pins s1 σ H1 D I1 q1
  | false=>exact hb pins s1 σ H1 D I1 q1
def tNever:TS:=fun _ _ _=>False
end
abbrev TG:=V→St→Hp→(St→Hp→Prop)→Prop
abbrev TGs:=List V→St→Hp→(St→Hp→Prop)→Prop
def PG (X:Cx) (target:Expr) (t:TG):Prop :=
  ∀(pins:List (Addr × Obj)) (s:Shared) (σ:St) (H:Hp) (v:V) (u:Value) (Q:St→Hp→Prop),Inv X pins σ H s→aR v u→t v σ H Q →
    wpAny (model X.prog X.w) X.A (assign target X.env u) (fun _ s'=>∃ σ' H',Inv X pins σ' H' s'∧Q σ' H') X.xe s
def PGs (X:Cx) (ts:List Expr) (t:TGs):Prop :=
  ∀(pins:List (Addr × Obj)) (s:Shared) (σ:St) (H:Hp) (vs:List V) (us:List Value) (Q:St→Hp→Prop),Inv X pins σ H s→aQ vs us→t vs σ H Q →
    wpAny (model X.prog X.w) X.A (assignInOrder ((assignEach ts X.env).map (·.2)) us) (fun _ s'=>∃ σ' H',Inv X pins σ' H' s'∧Q σ' H') X.xe s
section
variable {X:Cx} {pos:Pos}
def zde (i:Nat):TG:=fun v σ H Q=>Q (σ.set i (some v)) H
theorem zaO {i:Nat} {x:Str} (hN:X.N.Nodup) (hi:X.N[i]?=some x) (hx:Loc X.env.scope x) (hf:X.fn x=true∨X.env.scope.names.lookup x=some .local:=by first | exact .inl rfl | exact .inr rfl | assumption):PG X (.Name x pos) (zde i):=by
  intro pins s σ H v u Q I r h
  exact wpAny_assign_Name (zfL I hN hi hx r (fun s' I'=>⟨_,H,I',h⟩) hf)
def gNil:TGs:=fun vs σ H Q=>vs=[]∧Q σ H
def gCons (t:TG) (u:TGs):TGs:=fun vs σ H Q=>∃ v r,vs=v :: r∧t v σ H fun σ' H'=>u r σ' H' Q
theorem zll:PGs X [] gNil:=by
  intro pins s σ H vs us Q I r h
  obtain⟨e,h⟩:=h
  subst e
  cases r
  exact assignInOrder_nil ⟨σ,H,I,h⟩
theorem zhX {e:Expr} {es:List Expr} {t:TG} {u:TGs} (h1:PG X e t) (h2:PGs X es u)
    (hs:(assignEach (e :: es) X.env).map (·.2)=assign e X.env :: (assignEach es X.env).map (·.2):=by rfl):PGs X (e :: es) (gCons t u):=by
  intro pins s σ H vs us Q I r h
  obtain⟨v,vr,e1,h⟩:=h
  subst e1
  cases r with
  | cons r rr =>
    rw[hs]
    refine assignInOrder_cons (thn (h1 pins s σ H _ _ _ I r h) fun _ s1 ⟨σ1,H1,I1,q1⟩=>?_)
    exact h2 pins s1 σ1 H1 _ _ Q I1 rr q1
def gTup (K:PySem.W.Frag) (n:Nat) (t:TGs):TG:=fun v σ H Q=>∃ a xs,v=.ref a∧SqT K H a xs∧xs.length=n∧t xs σ H Q
theorem pg_tup {es:List Expr} {k:Nat} {t:TGs} {n:Nat} (hc:X.calm=true) (h:PGs X es t)
    (hn:(assignEach es X.env).length=n:=by rfl) (hst:(assignEach es X.env).findIdx? (·.1)=none:=by rfl):PG X (.Tuple es k pos) (gTup X.K n t):=by
  intro pins s σ H v u Q I r hw
  obtain⟨a,xs,e1,hq,hl,hw⟩:=hw
  subst e1
  cases r
  obtain⟨its,rv,ht,hz⟩:=I.tuple hq
  refine assign_Tuple_tuple (I.ok.hd hc) ht (by simp [hn,←hl,rv.length]) hst fun h' hx=>?_
  have I1:Inv X pins σ H { s with heap:=h' }:=I.kept (t':=s.toks) fun b o e=>hx b o (Nat.ne_of_lt (Heap.lt_size e)) e
  exact h pins _ σ H xs _ Q I1 (by simpa using rv) hw
def tAsg (te:TE) (g:TG):TS:=fun D σ H=>te σ H fun x H1=>g x σ H1 D.nx
theorem az {i:Nat} {x:Str} {e:Expr} {te:TE} {pos':Pos} (hN:X.N.Nodup) (hi:X.N[i]?=some x) (hx:Loc X.env.scope x) (he:PE X e te) (hs:swapsWith e (some (.Name x pos')) pos.line X.env=pure false:=by rfl) (hf:X.fn x=true∨X.env.scope.names.lookup x=some .local:=by first | exact .inl rfl | exact .inr rfl | assumption) :
    PS X (.Assign [.Name x pos'] e pos) (tAsg te (zde i)):=by
  intro pins s σ H D I h
  refine wpAny_Assign_Name (thn (he pins s σ H _ I h) fun v s1 ⟨y,H1,I1,r1,q1⟩=>?_) hs
  exact zfL I1 hN hi hx r1 (fun s2 I2=>⟨_,H1,I2,q1⟩) hf
end
section
variable {X:Cx} {pos:Pos}
def tWhile (c:TT) (tb:TS):TS:=fun D σ H=>∃ W:Nat→St→Hp→Prop,(∃ m,W m σ H)∧∀ m σ H,W m σ H →
  c σ H fun b H1=>if b=true then ∃ N:St→Hp→Prop,(∀ σ' H',N σ' H'→∃ m',m' < m∧W m' σ' H')∧tb { D with nx:=N,ct:=N,bk:=D.nx } σ H1 else D.nx σ H1
theorem zfR {c:Expr} {body:List Stmt} {tc:TT} {tb:TS} (hp:PassesOwn (model X.prog X.w) X.A X.env X.xe) (hc:PT X c tc) (hb:PSs X body tb):PS X (.While c body [] pos) (tWhile tc tb):=by
  intro pins s σ H D I h
  obtain⟨W,⟨m0,w0⟩,turn⟩:=h
  refine wpAny_While (codeAny_whileLoop (fun n s'=>∃ σ' H',Inv X pins σ' H' s'∧W n σ' H') ?_ m0 ⟨σ,H,I,w0⟩)
  rintro n s1 ⟨σ1,H1,I1,w1⟩
  refine wpAny_passesOwn hp (thn (hc pins s1 σ1 H1 _ I1 (turn n σ1 H1 w1)) fun b s2 ⟨H2,I2,q2⟩=>?_)
  cases b with
  | true =>
    obtain⟨N,hN,q2⟩:=q2
    rw[if_pos rfl]
    refine wpAny_passesOwn hp (thn (hb pins s2 σ1 H2 _ I2 q2) fun f s3 q3=>?_)
    cases f with
    | next =>
      obtain⟨σ3,H3,I3,n3⟩:=q3
      obtain⟨m',hm,w3⟩:=hN σ3 H3 n3
      exact⟨m',hm,σ3,H3,I3,w3⟩
    | cont =>
      obtain⟨σ3,H3,I3,n3⟩:=q3
      obtain⟨m',hm,w3⟩:=hN σ3 H3 n3
      exact⟨m',hm,σ3,H3,I3,w3⟩
    | brk=>exact q3
    | ret v=>exact q3
  | false =>
    rw[if_neg Bool.false_ne_true]
    exact wpAny_execs_nil ⟨σ1,H2,I2,q2⟩
end
structure It where
  go:Nat→Hp→Prop
  yld:Nat→Hp→V→Hp→Prop
  stop:Nat→Hp→Prop
def zbT (X:Cx) (pins:List (Addr × Obj)) (H:Hp) (b:Addr):Prop :=
  H b=none∧b≠X.env.locals∧b∉X.fs∧(b∈X.ex∨X.s₀.heap.objs.size≤b)∧(∀ x c,X.env.cells.lookup x=some c→c≠b)∧∀ p∈X.pn++pins,p.1≠b
theorem Inv.fpOk {X:Cx} {pins:List (Addr × Obj)} {σ:St} {H H':Hp} {s:Shared} {b:Addr} (I:Inv X pins σ H s) (hb:s.heap.objs.size≤b) (hn:H' b=none):zbT X pins H' b:=by
  refine⟨hn,Nat.ne_of_gt (Nat.lt_of_lt_of_le I.lt hb),I.nofs hb,.inr (Nat.le_trans I.sz hb),fun x c e z=>?_,fun p hp z=>?_⟩
  · obtain⟨v,q⟩:=I.cell x c e
    exact absurd (Nat.lt_of_lt_of_le q.lt (by rw[z];exact hb)) (Nat.lt_irrefl _)
  · exact absurd (Nat.lt_of_lt_of_le (Heap.lt_size (I.pin p hp).1) (by rw[z];exact hb)) (Nat.lt_irrefl _)
structure Turn (P:Program) (w:World) (K:PySem.W.Frag) (tg:Expr) (J:It) (fp:List Addr) (it:Addr) (tn:Nat→Heap→Prop):Prop where
  mem:it∈fp
  obj:∀ i h,tn i h→∀ b∈fp,∃ o,h.get? b=some o∧∀ v,o.data≠.cell v
  keep:∀ i h h',tn i h→(∀ b∈fp,∀ o,h.get? b=some o→h'.get? b=some o)→tn i h'
  item:∀(X:Cx),X.prog=P→X.w=w→X.K=K→X.calm=true→∀(i:Nat) (pins:List (Addr × Obj)) (s:Shared) (σ:St) (H:Hp) (E:Value→Shared→Prop),Inv X pins σ H s→(∀ b∈fp,zbT X pins H b)→tn i s.heap→J.go i H →
    wpAny (model P w) X.A (pyNext (.ref it)) (fun r s1=>∃ u,r=some u ∧
      wpAny (model P w) X.A (letOwnedTupleGo tg (.ref it) u) (fun _ s2=>∃ x H',Inv X pins σ H' s2∧aR x u∧J.yld i H x H'∧tn (i+1) s2.heap∧∀ b∈fp,H' b=none) E s1) E s
  done:∀(X:Cx),X.prog=P→X.w=w→X.K=K→X.calm=true→∀(i:Nat) (pins:List (Addr × Obj)) (s:Shared) (σ:St) (H:Hp) (E:Value→Shared→Prop),Inv X pins σ H s→(∀ b∈fp,zbT X pins H b)→tn i s.heap→J.stop i H →
    wpAny (model P w) X.A (pyNext (.ref it)) (fun r s1=>r=none∧Inv X pins σ H s1) E s
  self:∀(A:Around) (i:Nat) (s:Shared) (Q:Value→Shared→Prop) (E:Value→Shared→Prop),tn i s.heap→Q (.ref it) s→wpAny (model P w) A (pyIter (.ref it)) Q E s
abbrev TI:=St→Hp→(It→Hp→Prop)→Prop
def PIE (X:Cx) (pins:List (Addr × Obj)) (σ:St) (tg:Expr) (R:It→Hp→Prop) (itv:Value) (s2:Shared):Prop :=
  ∃(it:Addr) (fp:List Addr) (tn:Nat→Heap→Prop) (J:It) (H':Hp),itv=.ref it∧Inv X pins σ H' s2∧Turn X.prog X.w X.K tg J fp it tn∧tn 0 s2.heap∧(∀ b∈fp,zbT X pins H' b)∧R J H'
def PI (X:Cx) (tg iter:Expr) (wi:TI):Prop :=
  ∀(pins:List (Addr × Obj)) (s:Shared) (σ:St) (H:Hp) (R:It→Hp→Prop),Inv X pins σ H s→wi σ H R →
    wpAny (model X.prog X.w) X.A (eval iter X.env) (fun v s1=>wpAny (model X.prog X.w) X.A (pyIter v) (PIE X pins σ tg R) X.xe s1) X.xe s
theorem zf3 {M:Model} {A:Around} {E:Value→Shared→Prop} {s:Shared} {tg:Expr} {it:Addr} {u:Value} {o:Obj} {n:String} {vs:Array Value} {Q:Unit→Shared→Prop} (ho:s.heap.get? it=some o) (hc:o.cls=.type n) (hd:o.data=.fields vs)
    (hn:["enumerate","zip","dict_itemiterator","dict_reverseitemiterator","odict_iterator","itertools.zip_longest","itertools.pairwise"].contains n=false) (hQ:Q () s):wpAny M A (letOwnedTupleGo tg (.ref it) u) Q E s:=by
  unfold letOwnedTupleGo
  cases tg <;> first
    | exact wpAny_pure hQ
    | (cases u <;> first
        | exact wpAny_pure hQ
        | (refine wpAny_bind (wpAny_load ho ?_)
           rw[hc,hd]
           show wpAny M A (if(["enumerate","zip","dict_itemiterator","dict_reverseitemiterator","odict_iterator","itertools.zip_longest","itertools.pairwise"].contains n&&vs[0]? == some (rawInt _))=true then _ else _) Q E s
           rw[if_neg (by intro h;rw[hn,Bool.false_and]at h;cases h)]
           exact wpAny_pure hQ))
def Itl (K:PySem.W.Frag) (a:Addr):It :=
  ⟨fun i H=>∃ xs x,SqL K H a xs∧xs[i]?=some x,fun i H x H'=>H'=H∧∀ xs,SqL K H a xs→xs[i]?=some x,fun i H=>∃ xs,SqL K H a xs∧xs.length≤i⟩
def Itt (K:PySem.W.Frag) (a:Addr):It :=
  ⟨fun i H=>∃ xs x,SqT K H a xs∧xs[i]?=some x,fun i H x H'=>H'=H∧∀ xs,SqT K H a xs→xs[i]?=some x,fun i H=>∃ xs,SqT K H a xs∧xs.length≤i⟩
def Itr (lo:Int) (n:Nat):It:=⟨fun i _=>i < n,fun i H x H'=>H'=H∧x=.int (lo+i),fun i _=>n≤i⟩
theorem zgZ {P:Program} {w:World} {K:PySem.W.Frag} {tg:Expr} (a it:Addr):Turn P w K tg (Itl K a) [it] it (fun i h=>h.IsListIter it a i) where
  mem:=by simp
  obj:=fun i h st b hb=>by
    have e:b=it:=by simpa using hb
    subst e
    obtain⟨o,e,c,d⟩:=st
    exact⟨o,e,fun v z=>by rw[d]at z;cases z⟩
  keep:=fun i h h' st k=>st.at fun o e=>k it (by simp) o e
  item:=by
    intro X hP hw hK hc i pins s σ H E I hf st hg
    subst hP hw hK
    obtain⟨xs,x,hq,hx⟩:=hg
    obtain⟨its,rv,p,hz⟩:=I.list hq
    obtain⟨u,hu,ru⟩:=rv.get hx
    obtain⟨f0,f1,f2,f3,f4,f5⟩:=hf it (by simp)
    refine wpAny_pyNext_list_item st p.isList (x:=u) (by simpa using hu) fun h' st' sb=>?_
    have I1:Inv X pins σ H { s with heap:=h' }:=I.turned (t':=s.toks) (fun b o hb e=>(sb.2 b hb).trans e) f0 f1 f3 f4 f5
    obtain⟨o,e,c,d⟩:=id st'
    exact⟨u,rfl,zf3 (s:={ s with heap:=h' }) e c d (by decide) ⟨x,H,I1,ru,⟨rfl,fun ys hy=>by rw[I.list_inj hy hq];exact hx⟩,st',fun b hb=>(hf b hb).1⟩⟩
  done:=by
    intro X hP hw hK hc i pins s σ H E I hf st hg
    subst hP hw hK
    obtain⟨xs,hq,hx⟩:=hg
    obtain⟨its,rv,p,hz⟩:=I.list hq
    obtain⟨f0,f1,f2,f3,f4,f5⟩:=hf it (by simp)
    have hl:=rv.length
    exact wpAny_pyNext_list_end (I.ok.hd hc) st p.isList (by simp;omega) fun h' eb=>⟨rfl,I.turned (t':=s.toks) (fun b o hb e=>eb b o hb e) f0 f1 f3 f4 f5⟩
  self:=fun _ _ _ _ _ st h=>wpAny_pyIter_listiter st h
theorem zgg {P:Program} {w:World} {K:PySem.W.Frag} {tg:Expr} (a it:Addr):Turn P w K tg (Itt K a) [it] it (fun i h=>h.IsTupleIter it a i) where
  mem:=by simp
  obj:=fun i h st b hb=>by
    have e:b=it:=by simpa using hb
    subst e
    obtain⟨o,e,c,d⟩:=st
    exact⟨o,e,fun v z=>by rw[d]at z;cases z⟩
  keep:=fun i h h' st k=>st.at fun o e=>k it (by simp) o e
  item:=by
    intro X hP hw hK hc i pins s σ H E I hf st hg
    subst hP hw hK
    obtain⟨xs,x,hq,hx⟩:=hg
    obtain⟨its,rv,p,hz⟩:=I.tuple hq
    obtain⟨u,hu,ru⟩:=rv.get hx
    obtain⟨f0,f1,f2,f3,f4,f5⟩:=hf it (by simp)
    refine wpAny_pyNext_tuple_item st (show s.heap.IsTuple a its.toArray from p) (x:=u) (by simpa using hu) fun h' st' sb=>?_
    have I1:Inv X pins σ H { s with heap:=h' }:=I.turned (t':=s.toks) (fun b o hb e=>(sb.2 b hb).trans e) f0 f1 f3 f4 f5
    obtain⟨o,e,c,d⟩:=id st'
    exact⟨u,rfl,zf3 (s:={ s with heap:=h' }) e c d (by decide) ⟨x,H,I1,ru,⟨rfl,fun ys hy=>by rw[I.tuple_inj hy hq];exact hx⟩,st',fun b hb=>(hf b hb).1⟩⟩
  done:=by
    intro X hP hw hK hc i pins s σ H E I hf st hg
    subst hP hw hK
    obtain⟨xs,hq,hx⟩:=hg
    obtain⟨its,rv,p,hz⟩:=I.tuple hq
    obtain⟨f0,f1,f2,f3,f4,f5⟩:=hf it (by simp)
    have hl:=rv.length
    exact wpAny_pyNext_tuple_end (I.ok.hd hc) st (show s.heap.IsTuple a its.toArray from p) (by simp;omega) fun h' eb=>⟨rfl,I.turned (t':=s.toks) (fun b o hb e=>eb b o hb e) f0 f1 f3 f4 f5⟩
  self:=fun _ _ _ _ _ st h=>wpAny_pyIter_tupleiter st h
theorem zjd {P:Program} {w:World} {K:PySem.W.Frag} {tg:Expr} (it:Addr) (lo:Int) (n:Nat):Turn P w K tg (Itr lo n) [it] it (fun i h=>IsRangeIter h it (lo+(i:Nat) * 1) ((n:Int) - (i:Nat)) 1) where
  mem:=by simp
  obj:=fun i h st b hb=>by
    have e:b=it:=by simpa using hb
    subst e
    exact⟨_,st,fun v z=>by
      have z':Data.fields _=Data.cell v:=z
      cases z'⟩
  keep:=fun i h h' st k=>k it (by simp) _ st
  item:=by
    intro X hP hw hK hc i pins s σ H E I hf st hg
    subst hP hw hK
    obtain⟨f0,f1,f2,f3,f4,f5⟩:=hf it (by simp)
    have W:=Walks.range (prog:=X.prog) (w:=X.w) (I.ok.hd hc) it lo 1 n
    refine W.item i s _ _ hg st fun v h' tk hv st' kk=>?_
    obtain⟨t,rfl⟩:=hv
    have I1:Inv X pins σ H { s with heap:=h',toks:=tk }:=I.turned (fun b o hb e=>kk b o (by simpa using hb) e) f0 f1 f3 f4 f5
    refine⟨_,rfl,zf3 (s:={ s with heap:=h',toks:=tk }) (n:="range_iterator") st' rfl rfl (by decide) ⟨.int (lo+i),H,I1,⟨t,?_⟩,⟨rfl,rfl⟩,st',fun b hb=>(hf b hb).1⟩⟩
    rw[Int.mul_one]
  done:=by
    intro X hP hw hK hc i pins s σ H E I hf st hg
    subst hP hw hK
    obtain⟨f0,f1,f2,f3,f4,f5⟩:=hf it (by simp)
    exact wpAny_pyNext_range_end (I.ok.hd hc) st (by have:n≤i:=hg;omega) fun h' eb=>⟨rfl,I.turned (t':=s.toks) (fun b o hb e=>eb b o hb e) f0 f1 f3 f4 f5⟩
  self:=fun _ _ _ _ _ st h=>wpAny_pyIter_rangeiter st h
end L2
namespace L2
open PySem PySem.Spec PyProof.Rows
section
variable {X:Cx} {tg:Expr}
def iList (K:PySem.W.Frag) (tl:TE):TI:=fun σ H R=>tl σ H fun x H1=>∃ a,x=.ref a∧(∃ xs,SqL K H1 a xs)∧R (Itl K a) H1
def iTup (K:PySem.W.Frag) (tl:TE):TI:=fun σ H R=>tl σ H fun x H1=>∃ a,x=.ref a∧(∃ xs,SqT K H1 a xs)∧R (Itt K a) H1
theorem zbJ {l:Expr} {tl:TE} (hl:PE X l tl):PI X tg l (iList X.K tl):=by
  intro pins s σ H R I h
  refine thn (hl pins s σ H _ I h) fun v s1 ⟨x,H1,I1,r1,q1⟩=>?_
  obtain⟨a,e,⟨xs,hq⟩,q⟩:=q1
  subst e
  cases r1
  obtain⟨its,rv,p,hz⟩:=I1.list hq
  refine wpAny_pyIter_list p.isList ?_
  refine⟨s1.heap.objs.size,[s1.heap.objs.size],_,_,H1,rfl,I1.kept (t':=s1.toks) fun b o e=>Heap.get?_push_of_some _ e,zgZ a _,⟨_,Heap.get?_push_size _ rfl,rfl,rfl⟩,fun b hb=>?_,q⟩
  have e:b=s1.heap.objs.size:=by simpa using hb
  subst e
  exact I1.fpOk (Nat.le_refl _) (I1.hok.fresh (Nat.le_refl _))
theorem zf8 {l:Expr} {tl:TE} (hl:PE X l tl):PI X tg l (iTup X.K tl):=by
  intro pins s σ H R I h
  refine thn (hl pins s σ H _ I h) fun v s1 ⟨x,H1,I1,r1,q1⟩=>?_
  obtain⟨a,e,⟨xs,hq⟩,q⟩:=q1
  subst e
  cases r1
  obtain⟨its,rv,p,hz⟩:=I1.tuple hq
  refine wpAny_pyIter_tuple (show s1.heap.IsTuple a its.toArray from p) ?_
  refine⟨s1.heap.objs.size,[s1.heap.objs.size],_,_,H1,rfl,I1.kept (t':=s1.toks) fun b o e=>Heap.get?_push_of_some _ e,zgg a _,⟨_,Heap.get?_push_size _ rfl,rfl,rfl⟩,fun b hb=>?_,q⟩
  have e:b=s1.heap.objs.size:=by simpa using hb
  subst e
  exact I1.fpOk (Nat.le_refl _) (I1.hok.fresh (Nat.le_refl _))
theorem zkE {pins:List (Addr × Obj)} {σ:St} {H:Hp} {s:Shared} {R:It→Hp→Prop} {E:Value→Shared→Prop} {lo hi:Int} {t u v:Tok} {tk:Nat} (I:Inv X pins σ H s) (h1:-(2 ^ 62)≤lo) (h2:lo < 2 ^ 62) (h3:-(2 ^ 62)≤hi) (h4:hi < 2 ^ 62)
    (q:R (Itr lo (hi - lo).toNat) H):wpAny (model X.prog X.w) X.A (pyIter (.ref s.heap.objs.size)) (PIE X pins σ tg R) E { s with heap:=s.heap.push { cls:=.type "range",data:=.fields #[.int lo t,.int hi u,.int 1 v] },toks:=tk }:=by
  refine wpAny_pyIter_range (IsRange.new ..) (small_one h1 h2 h3 h4) ?_
  have I1:Inv X pins σ H { s with heap:=s.heap.push { cls:=.type "range",data:=.fields #[.int lo t,.int hi u,.int 1 v] },toks:=tk }:=I.kept fun b o e=>Heap.get?_push_of_some _ e
  refine⟨(s.heap.push { cls:=.type "range",data:=.fields #[.int lo t,.int hi u,.int 1 v] }).objs.size,[(s.heap.push { cls:=.type "range",data:=.fields #[.int lo t,.int hi u,.int 1 v] }).objs.size],_,_,H,rfl,
    I1.kept (t':=tk) fun b o e=>Heap.get?_push_of_some _ e,zjd _ lo (hi - lo).toNat,?_,fun b hb=>?_,q⟩
  · have e1:lo+((0:Nat):Int) * 1=lo:=by simp
    have e2:(((hi - lo).toNat:Nat):Int) - ((0:Nat):Int)=Builtin.Range.rangeSize lo hi 1:=by rw[rangeSize_one];split <;> omega
    show IsRangeIter _ _ (lo+((0:Nat):Int) * 1) ((((hi - lo).toNat:Nat):Int) - ((0:Nat):Int)) 1
    rw[e1,e2]
    exact Heap.get?_push_size _ rfl
  · have e:b=(s.heap.push { cls:=.type "range",data:=.fields #[.int lo t,.int hi u,.int 1 v] }).objs.size:=by simpa using hb
    subst e
    exact I1.fpOk (Nat.le_refl _) (I1.hok.fresh (Nat.le_refl _))
def iRng1 (ta:TA):TI:=fun σ H R=>ta σ H fun vs H1=>∃ j:Int,vs=[.int j]∧-(2 ^ 62)≤j∧j < 2 ^ 62∧R (Itr 0 j.toNat) H1
theorem zcN {a:Expr} {ta:TA} {p pos:Pos} (hg:Gl X "range") (hm:X.mg "range"=none) (ha:PA X [a] ta) (hs:starEach [a] X.env=[(false,eval a X.env)]:=by rfl):PI X tg (.Call (.Name "range" p) [a] [] pos) (iRng1 ta):=by
  intro pins s σ H R I h
  refine Call_ (ze3 I hg hm boot_range (PyProof.Rows.callWith_type1 (thn (ha pos pins s σ H _ I h) fun us s1 ⟨vs,H1,I1,r1,q1⟩=>?_) hs rfl))
  obtain⟨j,e,q1,q2,q⟩:=q1
  subst e
  cases r1 with
  | cons r rr =>
    cases rr
    obtain⟨t,rfl⟩:=r
    exact call_range_1 (zkE I1 (by omega) (by omega) q1 q2 (by simpa using q))
def tFor (wi:TI) (g:TG) (tb:TS):TS:=fun D σ H=>wi σ H fun J H1=>∃ W:Nat→Nat→St→Hp→Prop,(∃ m,W 0 m σ H1)∧∀ i m σ H,W i m σ H →
  (J.stop i H∧D.nx σ H)∨(J.go i H∧∃ N:St→Hp→Prop,(∀ σ' H',N σ' H'→∃ m',m' < m∧W (i+1) m' σ' H')∧∀ x H',J.yld i H x H'→g x σ H' fun σ2 H2=>tb { D with nx:=N,ct:=N,bk:=D.nx } σ2 H2)
def zf7 (fp:List Addr) (h:Heap):List (Addr × Obj):=fp.filterMap fun b=>(h.get? b).map fun o=>(b,o)
theorem zbl {fp:List Addr} {h:Heap} {b:Addr} {o:Obj} (hb:b∈fp) (e:h.get? b=some o):(b,o)∈zf7 fp h:=List.mem_filterMap.mpr ⟨b,hb,by rw[e];rfl⟩
theorem zkf {fp:List Addr} {h:Heap} {p:Addr × Obj} (hp:p∈zf7 fp h):p.1∈fp∧h.get? p.1=some p.2:=by
  obtain⟨b,hb,e⟩:=List.mem_filterMap.mp hp
  cases q:h.get? b with
  | none=>rw[q]at e;cases e
  | some o =>
    rw[q]at e
    have e':(b,o)=p:=Option.some.inj e
    subst e'
    exact⟨hb,q⟩
theorem Inv.pinned {pins:List (Addr × Obj)} {σ:St} {H:Hp} {s:Shared} {fp:List Addr} (I:Inv X pins σ H s) (hf:∀ b∈fp,zbT X pins H b) (ho:∀ b∈fp,∃ o,s.heap.get? b=some o∧∀ v,o.data≠.cell v):Inv X (pins++zf7 fp s.heap) σ H s :=
  I.pins_of fun p hp=>(List.mem_append.mp hp).elim (fun z=>I.pin p (List.mem_append_right _ z)) fun z=>by
    obtain⟨hb,e⟩:=zkf z
    obtain⟨f0,f1,f2,_⟩:=hf p.1 hb
    obtain⟨o,e',d⟩:=ho p.1 hb
    rw[e]at e';cases e'
    exact⟨e,f0,f1,f2,d⟩
theorem Inv.unpinned {pins pl:List (Addr × Obj)} {σ:St} {H:Hp} {s:Shared} (I:Inv X (pins++pl) σ H s):Inv X pins σ H s:=I.pins_of fun p hp=>I.pin p (List.mem_append_right _ (List.mem_append_left _ hp))
theorem zbp {iter:Expr} {body:List Stmt} {wi:TI} {g:TG} {tb:TS} {pos:Pos} (hp:PassesOwn (model X.prog X.w) X.A X.env X.xe) (hc:X.calm=true) (hi:PI X tg iter wi) (hg:PG X tg g) (hb:PSs X body tb)
    (hs:∀ x,foldedSetIterable iter X.env x=pure x:=by intro _;rfl):PS X (.For tg iter body [] pos) (tFor wi g tb):=by
  intro pins s σ H D I h
  refine wpAny_For (thn (hi pins s σ H _ I h) fun v s1 h1=>thn h1 fun itv s2 h2=>?_) hs
  obtain⟨it,fp,tn,J,H2,e,I2,T,st2,f2,W,⟨m0,w0⟩,turn⟩:=h2
  subst e
  have stat:∀ {H':Hp},(∀ b∈fp,H' b=none)→∀ b∈fp,zbT X pins H' b:=fun hn b hb=>⟨hn b hb,(f2 b hb).2⟩
  refine codeAny_forLoop_any (fun n s'=>∃ i σ' H',Inv X pins σ' H' s'∧tn i s'.heap∧(∀ b∈fp,H' b=none)∧W i n σ' H') ?_ m0 ⟨0,σ,H2,I2,st2,fun b hb=>(f2 b hb).1,w0⟩
  rintro n s3 ⟨i,σ3,H3,I3,st3,fr3,w3⟩
  rcases turn i n σ3 H3 w3 with ⟨stop,qn⟩ | ⟨go,N,hN,step⟩
  · refine wpAny_passesOwn hp (thn (T.done X rfl rfl rfl hc i pins s3 σ3 H3 X.xe I3 (stat fr3) st3 stop) fun r s4 ⟨hr,I4⟩=>?_)
    subst hr
    exact wpAny_execs_nil ⟨σ3,H3,I4,qn⟩
  · refine wpAny_passesOwn hp (thn (T.item X rfl rfl rfl hc i pins s3 σ3 H3 X.xe I3 (stat fr3) st3 go) fun r s4 ⟨u,hr,h4⟩=>?_)
    subst hr
    refine wpAny_passesOwn hp (thn h4 fun _ s5 ⟨x,H5,I5,r5,y5,st5,fr5⟩=>?_)
    have I5':=I5.pinned (stat fr5) (T.obj _ _ st5)
    refine wpAny_passesOwn hp (thn (hg _ s5 σ3 H5 x u _ I5' r5 (step x H5 y5)) fun _ s6 ⟨σ6,H6,I6,q6⟩=>?_)
    refine wpAny_passesOwn hp (thn (hb _ s6 σ6 H6 _ I6 q6) fun f s7 q7=>?_)
    have again:∀ {σ7:St} {H7:Hp},Inv X (pins++zf7 fp s5.heap) σ7 H7 s7→N σ7 H7→∃ m,m < n∧∃ i σ' H',Inv X pins σ' H' s7∧tn i s7.heap∧(∀ b∈fp,H' b=none)∧W i m σ' H':=fun {σ7 H7} I7 n7=>by
      obtain⟨m',hm,w7⟩:=hN σ7 H7 n7
      refine⟨m',hm,i+1,σ7,H7,I7.unpinned,T.keep _ _ _ st5 fun b hb o e=>(I7.pin (b,o) (List.mem_append_right _ (List.mem_append_right _ (zbl hb e)))).1,fun b hb=>?_,w7⟩
      obtain⟨o,e,d⟩:=T.obj _ _ st5 b hb
      exact(I7.pin (b,o) (List.mem_append_right _ (List.mem_append_right _ (zbl hb e)))).2.1
    cases f with
    | next=>obtain⟨σ7,H7,I7,n7⟩:=q7;exact again I7 n7
    | cont=>obtain⟨σ7,H7,I7,n7⟩:=q7;exact again I7 n7
    | brk=>obtain⟨σ7,H7,I7,q7⟩:=q7;exact⟨σ7,H7,I7.unpinned,q7⟩
    | ret v=>obtain⟨x7,σ7,H7,I7,r7,q7⟩:=q7;exact⟨x7,σ7,H7,I7.unpinned,r7,q7⟩
end
theorem zeK {K:PySem.W.Frag} {a:Addr} {xs:List V} {g:TG} {tb:TS} {D:za3} {σ:St} {H:Hp} (Pv:Nat→St→Hp→Prop) (h0:Pv 0 σ H) (hl:∀ i σ H,i≤xs.length→Pv i σ H→SqL K H a xs)
    (hs:∀ i x σ H,xs[i]?=some x→Pv i σ H→g x σ H fun σ2 H2=>tb { D with nx:=Pv (i+1),ct:=Pv (i+1),bk:=D.nx } σ2 H2) (hd:∀ σ H,Pv xs.length σ H→D.nx σ H) :
    ∃ W:Nat→Nat→St→Hp→Prop,(∃ m,W 0 m σ H)∧∀ i m σ H,W i m σ H →
      ((Itl K a).stop i H∧D.nx σ H)∨((Itl K a).go i H∧∃ N:St→Hp→Prop,(∀ σ' H',N σ' H'→∃ m',m' < m∧W (i+1) m' σ' H')∧∀ x H',(Itl K a).yld i H x H'→g x σ H' fun σ2 H2=>tb { D with nx:=N,ct:=N,bk:=D.nx } σ2 H2):=by
  refine⟨fun i m σ H=>m=xs.length - i∧i≤xs.length∧Pv i σ H,⟨xs.length,by simp,Nat.zero_le _,h0⟩,?_⟩
  rintro i m σ H ⟨rfl,hi,p⟩
  have q:=hl i σ H hi p
  by_cases hlt:i < xs.length
  · refine .inr ⟨⟨xs,xs[i],q,by simp [hlt]⟩,Pv (i+1),fun σ' H' p'=>⟨xs.length - (i+1),by omega,rfl,hlt,p'⟩,fun x H' y=>?_⟩
    obtain⟨e,y⟩:=y
    subst e
    exact hs i x σ _ (y xs q) p
  · have e:i=xs.length:=by omega
    subst e
    exact .inl ⟨⟨xs,q,Nat.le_refl _⟩,hd σ H p⟩
theorem zfs {K:PySem.W.Frag} {a:Addr} {xs:List V} {g:TG} {tb:TS} {D:za3} {σ:St} {H:Hp} (Pv:Nat→St→Hp→Prop) (h0:Pv 0 σ H) (hl:∀ i σ H,i≤xs.length→Pv i σ H→SqT K H a xs)
    (hs:∀ i x σ H,xs[i]?=some x→Pv i σ H→g x σ H fun σ2 H2=>tb { D with nx:=Pv (i+1),ct:=Pv (i+1),bk:=D.nx } σ2 H2) (hd:∀ σ H,Pv xs.length σ H→D.nx σ H) :
    ∃ W:Nat→Nat→St→Hp→Prop,(∃ m,W 0 m σ H)∧∀ i m σ H,W i m σ H →
      ((Itt K a).stop i H∧D.nx σ H)∨((Itt K a).go i H∧∃ N:St→Hp→Prop,(∀ σ' H',N σ' H'→∃ m',m' < m∧W (i+1) m' σ' H')∧∀ x H',(Itt K a).yld i H x H'→g x σ H' fun σ2 H2=>tb { D with nx:=N,ct:=N,bk:=D.nx } σ2 H2):=by
  refine⟨fun i m σ H=>m=xs.length - i∧i≤xs.length∧Pv i σ H,⟨xs.length,by simp,Nat.zero_le _,h0⟩,?_⟩
  rintro i m σ H ⟨rfl,hi,p⟩
  have q:=hl i σ H hi p
  by_cases hlt:i < xs.length
  · refine .inr ⟨⟨xs,xs[i],q,by simp [hlt]⟩,Pv (i+1),fun σ' H' p'=>⟨xs.length - (i+1),by omega,rfl,hlt,p'⟩,fun x H' y=>?_⟩
    obtain⟨e,y⟩:=y
    subst e
    exact hs i x σ _ (y xs q) p
  · have e:i=xs.length:=by omega
    subst e
    exact .inl ⟨⟨xs,q,Nat.le_refl _⟩,hd σ H p⟩
theorem zd9 {lo:Int} {n:Nat} {g:TG} {tb:TS} {D:za3} {σ:St} {H:Hp} (Pv:Nat→St→Hp→Prop) (h0:Pv 0 σ H)
    (hs:∀ i σ H,i < n→Pv i σ H→g (.int (lo+i)) σ H fun σ2 H2=>tb { D with nx:=Pv (i+1),ct:=Pv (i+1),bk:=D.nx } σ2 H2) (hd:∀ σ H,Pv n σ H→D.nx σ H) :
    ∃ W:Nat→Nat→St→Hp→Prop,(∃ m,W 0 m σ H)∧∀ i m σ H,W i m σ H →
      ((Itr lo n).stop i H∧D.nx σ H)∨((Itr lo n).go i H∧∃ N:St→Hp→Prop,(∀ σ' H',N σ' H'→∃ m',m' < m∧W (i+1) m' σ' H')∧∀ x H',(Itr lo n).yld i H x H'→g x σ H' fun σ2 H2=>tb { D with nx:=N,ct:=N,bk:=D.nx } σ2 H2):=by
  refine⟨fun i m σ H=>m=n - i∧i≤n∧Pv i σ H,⟨n,by simp,Nat.zero_le _,h0⟩,?_⟩
  rintro i m σ H ⟨rfl,hi,p⟩
  by_cases hlt:i < n
  · refine .inr ⟨hlt,Pv (i+1),fun σ' H' p'=>⟨n - (i+1),by omega,rfl,hlt,p'⟩,fun x H' y=>?_⟩
    obtain⟨e,y⟩:=y
    subst e y
    exact hs i σ _ hlt p
  · have e:i=n:=by omega
    subst e
    exact .inl ⟨Nat.le_refl _,hd σ H p⟩
end L2
namespace L2
open PySem PySem.Spec PyProof.Rows
abbrev R2:=V→V→Hp→VK→Prop
def OpR (X:Cx) (f:Value→Value→Sem Value) (r:R2):Prop :=
  ∀(pins:List (Addr × Obj)) (s:Shared) (σ:St) (H:Hp) (x y:V) (v u:Value) (Q:VK),Inv X pins σ H s→aR x v→aR y u→r x y H Q →
    wpAny (model X.prog X.w) X.A (f v u) (EP X pins σ Q) X.xe s
def UnR (X:Cx) (f:Value→Sem Value) (r:V→Hp→VK→Prop):Prop :=
  ∀(pins:List (Addr × Obj)) (s:Shared) (σ:St) (H:Hp) (x:V) (v:Value) (Q:VK),Inv X pins σ H s→aR x v→r x H Q →
    wpAny (model X.prog X.w) X.A (f v) (EP X pins σ Q) X.xe s
def zbW (X:Cx) (f:Value) (r:List V→Hp→VK→Prop):Prop :=
  ∀(pins:List (Addr × Obj)) (s:Shared) (σ:St) (H:Hp) (xs:List V) (us:List Value) (Q:VK),Inv X pins σ H s→aQ xs us→r xs H Q →
    wpAny (model X.prog X.w) X.A (call f us) (EP X pins σ Q) X.xe s
def tOp (r:R2) (ta tb:TE):TE:=fun σ H Q=>ta σ H fun x H1=>tb σ H1 fun y H2=>r x y H2 Q
def tUn (r:V→Hp→VK→Prop) (ta:TE):TE:=fun σ H Q=>ta σ H fun x H1=>r x H1 Q
def rI (C:Int→Int→Prop) (g:Int→Int→V):R2:=fun x y H Q=>∃ i j,x=.int i∧y=.int j∧C i j∧Q (g i j) H
def rI0 (g:Int→Int→V):R2:=fun x y H Q=>∃ i j,x=.int i∧y=.int j∧Q (g i j) H
def rU (g:Int→V):V→Hp→VK→Prop:=fun x H Q=>∃ i,x=.int i∧Q (g i) H
section
variable {X:Cx} {a b c:Expr} {ta tb tc:TE} {pos:Pos}
theorem binT (ha:PE X a ta) (hb:PE X b tb) {pins:List (Addr × Obj)} {s:Shared} {σ:St} {H:Hp} {R:V→V→Hp→Prop} (I:Inv X pins σ H s)
    (h:ta σ H fun x H1=>tb σ H1 fun y H2=>R x y H2) {Q:Value→Shared→Prop} {f:Value→Value→Sem Value}
    (hf:∀ v u s2 x y H2,Inv X pins σ H2 s2→aR x v→aR y u→R x y H2→wpAny (model X.prog X.w) X.A (f v u) Q X.xe s2) :
    wpAny (model X.prog X.w) X.A (eval a X.env) (fun v s₁=>wpAny (model X.prog X.w) X.A (eval b X.env) (fun u s₂=>wpAny (model X.prog X.w) X.A (f v u) Q X.xe s₂) X.xe s₁) X.xe s:=by
  refine thn (ha pins s σ H _ I h) fun v s1 ⟨x,H1,I1,r1,q1⟩=>?_
  refine thn (hb pins s1 σ H1 _ I1 q1) fun u s2 ⟨y,H2,I2,r2,q2⟩=>?_
  exact hf v u s2 x y H2 I2 r1 r2 q2
theorem aw {op:Operator} {r:R2} (ho:OpR X (binaryOp op) r) (ha:PE X a ta) (hb:PE X b tb):PE X (.BinOp a op b pos) (tOp r ta tb):=by
  intro pins s σ H Q I h
  exact wpAny_BinOp (binT ha hb I h fun v u s2 x y H2 I2 rx ry q=>ho pins s2 σ H2 x y v u Q I2 rx ry q)
theorem zas {op:UnaryOp} {r:V→Hp→VK→Prop} (ho:UnR X (unaryOp op) r) (ha:PE X a ta):PE X (.UnaryOp op a pos) (tUn r ta):=by
  intro pins s σ H Q I h
  exact UnaryOp_ (thn (ha pins s σ H _ I h) fun v s1 ⟨x,H1,I1,r1,q1⟩=>ho pins s1 σ H1 x v Q I1 r1 q1)
theorem opI {f:Value→Value→Sem Value} {C:Int→Int→Prop} {g:Int→Int→Int}
    (rule:∀(i j:Int) (t u:Tok) (s:Shared) (Q:Value→Shared→Prop) (E:Value→Shared→Prop),C i j→Q (.int (g i j) s.toks) { s with toks:=s.toks+1 }→wpAny (model X.prog X.w) X.A (f (.int i t) (.int j u)) Q E s) :
    OpR X f (rI C fun i j=>.int (g i j)):=by
  intro pins s σ H x y v u Q I rx ry h
  obtain⟨i,j,rfl,rfl,hc,q⟩:=h
  obtain⟨t,rfl⟩:=rx
  obtain⟨t',rfl⟩:=ry
  exact rule i j t t' s _ _ hc ⟨.int (g i j),H,I.tok _,⟨_,rfl⟩,q⟩
theorem opI0 {f:Value→Value→Sem Value} {g:Int→Int→Int}
    (rule:∀(i j:Int) (t u:Tok) (s:Shared) (Q:Value→Shared→Prop) (E:Value→Shared→Prop),Q (.int (g i j) s.toks) { s with toks:=s.toks+1 }→wpAny (model X.prog X.w) X.A (f (.int i t) (.int j u)) Q E s) :
    OpR X f (rI0 fun i j=>.int (g i j)):=by
  intro pins s σ H x y v u Q I rx ry h
  obtain⟨i,j,rfl,rfl,q⟩:=h
  obtain⟨t,rfl⟩:=rx
  obtain⟨t',rfl⟩:=ry
  exact rule i j t t' s _ _ ⟨.int (g i j),H,I.tok _,⟨_,rfl⟩,q⟩
theorem opB0 {f:Value→Value→Sem Value} {g:Int→Int→Bool}
    (rule:∀(i j:Int) (t u:Tok) (s:Shared) (Q:Value→Shared→Prop) (E:Value→Shared→Prop),Q (.bool (g i j)) s→wpAny (model X.prog X.w) X.A (f (.int i t) (.int j u)) Q E s) :
    OpR X f (rI0 fun i j=>.bl (g i j)):=by
  intro pins s σ H x y v u Q I rx ry h
  obtain⟨i,j,rfl,rfl,q⟩:=h
  obtain⟨t,rfl⟩:=rx
  obtain⟨t',rfl⟩:=ry
  exact rule i j t t' s _ _ ⟨.bl (g i j),H,I,rfl,q⟩
def CDiv (i j:Int):Prop:=0 < j∧j < 1073741824
def CMul (i j:Int):Prop:=(-(2 ^ 64) < i∧i < 2 ^ 64)∨(-(2 ^ 64) < j∧j < 2 ^ 64)
theorem CMul.ok {i j:Int} (h:CMul i j):IntMulOk i j:=by
  rcases h with ⟨h1,h2⟩ | ⟨h1,h2⟩
  · exact .of_left (intBits_le_64 h1 h2)
  · exact .of_right (intBits_le_64 h1 h2)
theorem za9:OpR X (binaryOp .Add) (rI0 fun i j=>.int (i+j)):=opI0 fun _ _ _ _ _ _ _ q=>add_int q
theorem ze0:OpR X (binaryOp .Sub) (rI0 fun i j=>.int (i - j)):=opI0 fun _ _ _ _ _ _ _ q=>sub_int q
theorem zga:OpR X (binaryOp .Mult) (rI CMul fun i j=>.int (i * j)):=opI fun _ _ _ _ _ _ _ hc q=>mul_int q hc.ok
theorem za6:OpR X (binaryOp .FloorDiv) (rI CDiv fun i j=>.int (i / j)):=opI fun i j _ _ _ _ _ hc q=>by
  have h1:(0:Int) < j:=hc.1
  have h2:j < 1073741824:=hc.2
  exact floordiv_int (by omega) (by rw[Int.fdiv_eq_ediv_of_nonneg i (by omega)];exact q) (.inl (PyProof.noPylong_small (by omega)))
theorem zaM:OpR X (binaryOp .Mod) (rI (fun _ j=>0 < j) fun i j=>.int (i % j)):=opI fun i j _ _ _ _ _ hc q=>by
  have h1:(0:Int) < j:=hc
  exact mod_int' (by omega) (by rw[Int.fmod_eq_emod_of_nonneg i (by omega)];exact q)
theorem unI {f:Value→Sem Value} {g:Int→Int}
    (rule:∀(i:Int) (t:Tok) (s:Shared) (Q:Value→Shared→Prop) (E:Value→Shared→Prop),Q (.int (g i) s.toks) { s with toks:=s.toks+1 }→wpAny (model X.prog X.w) X.A (f (.int i t)) Q E s) :
    UnR X f (rU fun i=>.int (g i)):=by
  intro pins s σ H x v Q I rx h
  obtain⟨i,rfl,q⟩:=h
  obtain⟨t,rfl⟩:=rx
  exact rule i t s _ _ ⟨.int (g i),H,I.tok _,⟨_,rfl⟩,q⟩
theorem zak:UnR X (unaryOp .USub) (rU fun i=>.int (-i)):=unI fun _ _ _ _ _ q=>neg_int q
end
def scal:V→V→Bool
  | .non,.non=>true | .non,.int _=>true | .int _,.non=>true | .non,.bl _=>true | .bl _,.non=>true | .non,.str _=>true | .str _,.non=>true
  | .int _,.int _=>true | .bl _,.bl _=>true | .str _,.str _=>true | .byt _,.byt _=>true
  | .int _,.str _=>true | .str _,.int _=>true | .bl _,.str _=>true | .str _,.bl _=>true
  | _,_=>false
def rEq:R2:=fun x y H Q=>scal x y=true∧Q (.bl (decide (x=y))) H
theorem zlI {i j:Int}:decide (V.int i=V.int j)=(i == j):=by
  rw[Bool.eq_iff_iff]
  simp
theorem dec_bl {i j:Bool}:decide (V.bl i=V.bl j)=(i == j):=by
  rw[Bool.eq_iff_iff]
  simp
theorem zlH {i j:Str}:decide (V.str i=V.str j)=(i == j):=by
  rw[Bool.eq_iff_iff]
  simp
theorem zlJ {i j:Array UInt8}:decide (V.byt i=V.byt j)=(i.toList == j.toList):=by
  rw[Bool.eq_iff_iff]
  cases i
  cases j
  simp
section
variable {X:Cx} {a b c:Expr} {ta tb tc:TE} {pos:Pos}
theorem zbv {pins:List (Addr × Obj)} {σ:St} {H:Hp} {s:Shared} {Q:VK} {k k':Bool} (I:Inv X pins σ H s) (q:Q (.bl k) H) (e:k=k'):EP X pins σ Q (.bool k') s:=by
  subst e
  exact⟨.bl k,H,I,rfl,q⟩
theorem zaE:OpR X (compareOp .Eq) rEq:=by
  intro pins s σ H x y v u Q I rx ry h
  obtain⟨hs,q⟩:=h
  cases x with
  | non =>
    cases rx
    cases y with
    | non=>cases ry;exact PySem.EqNone.eq_none_none (zbv I q (by simp))
    | bl j=>cases ry;exact PySem.EqNone.eq_none_bool (zbv I q (by simp))
    | int j=>obtain⟨t',rfl⟩:=ry;exact PySem.EqNone.eq_none_int (zbv I q (by simp))
    | str j=>obtain⟨t',rfl⟩:=ry;exact PySem.EqNone.eq_none_str (zbv I q (by simp))
    | _=>exact absurd (show false=true from hs) Bool.false_ne_true
  | bl i =>
    cases rx
    cases y with
    | non=>cases ry;exact PySem.EqNone.eq_bool_none (zbv I q (by simp))
    | bl j=>cases ry;exact eq_bool (zbv I q dec_bl)
    | str j=>obtain⟨t',rfl⟩:=ry;exact PySem.EqMixed.eq_bool_str (zbv I q (by simp))
    | _=>exact absurd (show false=true from hs) Bool.false_ne_true
  | int i =>
    obtain⟨t,rfl⟩:=rx
    cases y with
    | non=>cases ry;exact PySem.EqNone.eq_int_none (zbv I q (by simp))
    | int j=>obtain⟨t',rfl⟩:=ry;exact eq_int (zbv I q zlI)
    | str j=>obtain⟨t',rfl⟩:=ry;exact PySem.EqMixed.eq_int_str (zbv I q (by simp))
    | _=>exact absurd (show false=true from hs) Bool.false_ne_true
  | str i =>
    obtain⟨t,rfl⟩:=rx
    cases y with
    | non=>cases ry;exact PySem.EqNone.eq_str_none (zbv I q (by simp))
    | bl j=>cases ry;exact PySem.EqMixed.eq_str_bool (zbv I q (by simp))
    | int j=>obtain⟨t',rfl⟩:=ry;exact PySem.EqMixed.eq_str_int (zbv I q (by simp))
    | str j=>obtain⟨t',rfl⟩:=ry;exact eq_str (zbv I q zlH)
    | _=>exact absurd (show false=true from hs) Bool.false_ne_true
  | byt i =>
    obtain⟨t,rfl⟩:=rx
    cases y with
    | byt j=>obtain⟨t',rfl⟩:=ry;exact PySem.W.eq_bytes (zbv I q zlJ)
    | _=>exact absurd (show false=true from hs) Bool.false_ne_true
  | _=>cases y <;> exact absurd (show false=true from hs) Bool.false_ne_true
theorem zf2:OpR X (compareOp .Lt) (rI0 fun i j=>.bl (decide (i < j))):=opB0 fun _ _ _ _ _ _ _ q=>lt_int q
theorem op_le:OpR X (compareOp .LtE) (rI0 fun i j=>.bl (decide (i≤j))):=opB0 fun _ _ _ _ _ _ _ q=>le_int q
theorem zbM:OpR X (compareOp .Gt) (rI0 fun i j=>.bl (decide (j < i))):=opB0 fun _ _ _ _ _ _ _ q=>gt_int q
theorem zi6:OpR X (compareOp .GtE) (rI0 fun i j=>.bl (decide (j≤i))):=opB0 fun _ _ _ _ _ _ _ q=>ge_int q
theorem zj8:OpR X (compareOp .In) (fun x y H Q=>∃ i j,x=.str i∧y=.str j∧Q (.bl (!(Builtin.Str.occurrences j i 0 j.length 1).isEmpty)) H):=by
  intro pins s σ H x y v u Q I rx ry h
  obtain⟨i,j,rfl,rfl,q⟩:=h
  obtain⟨t,rfl⟩:=rx
  obtain⟨t',rfl⟩:=ry
  exact in_str (zbv I q rfl)
theorem OpR.or {f:Value→Value→Sem Value} {r r':R2} (h:OpR X f r) (h':OpR X f r'):OpR X f (fun x y H Q=>r x y H Q∨r' x y H Q):=by
  intro pins s σ H x y v u Q I rx ry q
  rcases q with q | q
  · exact h pins s σ H x y v u Q I rx ry q
  · exact h' pins s σ H x y v u Q I rx ry q
theorem aD (b:Expr) {op:CmpOp} (h:op≠.In:=by decide) (h2:op≠.NotIn:=by decide):behindInMarks op b=false:=by
  have e1:(op == CmpOp.In)=false:=by cases op <;> first | rfl | exact absurd rfl h
  have e2:(op == CmpOp.NotIn)=false:=by cases op <;> first | rfl | exact absurd rfl h2
  cases b <;> simp [behindInMarks,e1,e2]
theorem zbA {op:CmpOp} {r:R2} (ho:OpR X (compareOp op) r) (ha:PE X a ta) (hb:PE X b tb) (hm:behindInMarks op b=false):PE X (.Compare a [op] [b] pos) (tOp r ta tb):=by
  intro pins s σ H Q I h
  exact wpAny_Compare1 (binT ha hb I h fun v u s2 x y H2 I2 rx ry q=>ho pins s2 σ H2 x y v u Q I2 rx ry q) hm
def tTest (t:TE):TT:=fun σ H Q=>t σ H fun x H'=>∃ k,x=.bl k∧Q k H'
theorem av {op:CmpOp} {r:R2} (ho:OpR X (compareOp op) r) (ha:PE X a ta) (hb:PE X b tb) (hm:behindInMarks op b=false):PT X (.Compare a [op] [b] pos) (tTest (tOp r ta tb)):=by
  intro pins s σ H Q I h
  refine wpAny_isTrue_Compare1 (thn (ha pins s σ H _ I h) fun v s1 ⟨x,H1,I1,r1,q1⟩=>thn (hb pins s1 σ H1 _ I1 q1) fun u s2 ⟨y,H2,I2,r2,q2⟩ =>
    thn (ho pins s2 σ H2 x y v u _ I2 r1 r2 q2) fun c s3 ⟨z,H3,I3,r3,k,e,q3⟩=>?_) hm
  subst e
  cases r3
  exact wpAny_truthy_bool ⟨H3,I3,q3⟩
theorem ze1:(sizeLine:Nat) < 2 ^ 63:=by rw[sizeLine_eq];decide
theorem zbQ:OpR X (binaryOp .Add) (fun x y H Q=>∃ i j,x=.str i∧y=.str j∧i.length+j.length≤sizeLine∧Q (.str (i++j)) H):=by
  intro pins s σ H x y v u Q I rx ry h
  obtain⟨i,j,rfl,rfl,hz,q⟩:=h
  obtain⟨t,rfl⟩:=rx
  obtain⟨t',rfl⟩:=ry
  exact add_str (fun t' tk=>⟨.str (i++j),H,I.tok _,⟨_,rfl⟩,q⟩) hz
theorem zdX {x:V} {us:List Value} (r:aQ [x] us):∃ u,us=[u]∧aR x u:=by
  cases r with
  | cons r1 r2=>cases r2;exact⟨_,rfl,r1⟩
theorem zi2 {x y:V} {us:List Value} (r:aQ [x,y] us):∃ u w',us=[u,w']∧aR x u∧aR y w':=by
  cases r with
  | cons r1 r2 =>
    cases r2 with
    | cons r3 r4=>cases r4;exact⟨_,_,rfl,r1,r3⟩
theorem zk4:zbW X (.builtin "abs") (fun xs H Q=>∃ i,xs=[.int i]∧Q (.int (if i < 0 then -i else i)) H):=by
  intro pins s σ H xs us Q I r h
  obtain⟨i,rfl,q⟩:=h
  obtain⟨u,rfl,t,rfl⟩:=zdX r
  exact call_abs_int fun u tk=>⟨.int (if i < 0 then -i else i),H,I.tok _,⟨_,rfl⟩,q⟩
theorem zfj:zbW X (.type "int") (fun xs H Q=>(∃ i,xs=[.int i]∧Q (.int i) H)∨∃ k,xs=[.bl k]∧Q (.int (if k then 1 else 0)) H):=by
  intro pins s σ H xs us Q I r h
  rcases h with ⟨i,rfl,q⟩ | ⟨k,rfl,q⟩
  · obtain⟨u,rfl,t,rfl⟩:=zdX r
    exact call_int_int ⟨.int i,H,I,⟨_,rfl⟩,q⟩
  · obtain⟨u,rfl,r1⟩:=zdX r
    cases r1
    exact call_int_bool ⟨.int (if k then 1 else 0),H,I.tok _,⟨_,rfl⟩,q⟩
theorem ziy:zbW X (.builtin "divmod") (fun xs H Q=>∃ i j,xs=[.int i,.int j]∧CDiv i j∧∀ p,H p=none→Q (.ref p) (upd H p (.tup [.int (i / j),.int (i % j)]))):=by
  intro pins s σ H xs us Q I r h
  obtain⟨i,j,rfl,⟨h1,h2⟩,q⟩:=h
  obtain⟨u,w',rfl,⟨t,rfl⟩,⟨t',rfl⟩⟩:=zi2 r
  refine divmod_int (by omega) ?_ (.inl (PyProof.noPylong_small (by omega)))
  rw[Int.fdiv_eq_ediv_of_nonneg i (by omega),Int.fmod_eq_emod_of_nonneg i (by omega)]
  have hn:H s.heap.objs.size=none:=I.hok.fresh (Nat.le_refl _)
  refine⟨.ref s.heap.objs.size,_,?_,rfl,q _ hn⟩
  refine I.laid (fun b o e=>Heap.get?_push_of_some _ e) (Nat.le_refl _) ⟨by simp only[List.length_cons,List.length_nil];rw[sizeLine_eq];decide,[.int (i / j) s.toks,.int (i % j) (s.toks+1)],.cons ⟨_,rfl⟩ (.cons ⟨_,rfl⟩ .nil),?_⟩
  exact⟨_,Heap.get?_push_size s.heap rfl,rfl,0,rfl⟩
end
end L2
namespace L2
open PySem PySem.Spec PyProof.Rows
structure zfE (h:Heap) (x dx C:Addr) (mA:Str→Option Value):Prop where
  obj:h.get? x=some (PySem.W.instObj C dx)
  ns:h.Ns1 dx mA
  ne:dx≠x
theorem zkm {h:Heap} {dx:Addr} {mA:Str→Option Value} (n:h.Ns1 dx mA):∃ od,h.get? dx=some od∧∀ name,PySem.W.lookIn name od=some (mA name):=by
  obtain⟨o,es,ep,ho,hd,hk,_,hm⟩:=n
  refine⟨o,ho,fun name=>?_⟩
  have e:=hm name
  unfold nsFind findBy at e
  rw[←Array.find?_toList]at e
  unfold PySem.W.lookIn
  rw[hd]
  dsimp only
  split
  · rename_i y q
    rw[q]at e
    exact congrArg some e
  · rename_i q
    rw[q]at e
    have a:es.toList.any (·.refKey)=false:=by
      rw[List.any_eq_false]
      intro y hy
      obtain⟨z,t,hkey⟩:=hk y (Array.mem_toList_iff.mp hy)
      simp [DictEntry.refKey,hkey]
    have a':¬es.toList.any (·.refKey)=true:=by rw[a];exact Bool.false_ne_true
    rw[if_neg a']
    exact congrArg some e
theorem zfE.look {h:Heap} {x dx C:Addr} {mA:Str→Option Value} (I:zfE h x dx C mA):∃ od,PySem.W.InstAt h x (PySem.W.instObj C dx) C (some od)∧∀ name,PySem.W.lookIn name od=some (mA name) :=
  let ⟨od,ho,hl⟩:=zkm I.ns
  ⟨od,⟨I.obj,rfl,rfl,ho⟩,hl⟩
section
variable {prog:Program} {w:World} {A:Around} {E:Value→Shared→Prop} {s:Shared} {K:PySem.W.Frag} {x dx C f:Addr} {mA:Str→Option Value} {name:Str} {v:Value}
theorem zlG {expr:Bool} {Q:Value→Shared→Prop} (X:K.In s.heap) (I:zfE s.heap x dx C mA) (hg:PySem.W.plainGet K C name=true) (hh:PySem.W.hasDictIn K C=true)
    (ha:PySem.W.findIn K (.ref C) name=some none) (hv:mA name=some v) (hv':PySem.W.handedIn v=true) (h:Q v { s with toks:=s.toks+1 }) :
    wpAny (model prog w) A (getAttr (.ref x) name expr) Q E s:=by
  obtain⟨od,J,hl⟩:=I.look
  exact PySem.W.get_value X J (PySem.W.plainGet_of hg).1 (PySem.W.findObj_own hh ha rfl (by rw[hl,hv])) hv' h
theorem zk0 {pl:Sem Bool} {Q:Value × List Value→Shared→Prop} (X:K.In s.heap) (I:zfE s.heap x dx C mA) (hg:PySem.W.plainGet K C name=true)
    (hf:PySem.W.findIn K (.ref C) name=some (some (.ref f))) (ht:PySem.W.isFn K (.ref f)=true) (hv:mA name=none) (h:Q (.ref f,[.ref x]) s) :
    wpAny (model prog w) A (getMethod (.ref x) name pl) Q E s:=by
  obtain⟨od,J,hl⟩:=I.look
  exact PySem.W.method_fn X J (PySem.W.plainGet_of hg).1 (PySem.W.plainGet_of hg).2 hf (beq_iff_eq.mp ht) (by show(PySem.W.lookIn name od).map (·.isSome)=some false;rw[hl,hv];rfl) h
theorem zlc {ns:List Str} {Q:Unit→Shared→Prop} (X:K.In s.heap) (I:zfE s.heap x dx C mA)
    (hs:PySem.W.findIn K (.ref C) "__setattr__"=some (some (.builtin "object.__setattr__"))) (hp:PySem.W.plainOver K C=true) (ht:PySem.W.takerIn K C name=some none) (hh:PySem.W.hasDictIn K C=true)
    (hw:PySem.Within mA ns) (hsz:ns.length≤sizeLine)
    (h:∀ h',zfE h' x dx C (fun y=>if y=name then some v else mA y)→Heap.SameBut dx s.heap h'→Q () { s with heap:=h',toks:=s.toks+2 }) :
    wpAny (model prog w) A (setAttr (.ref x) name v) Q E s:=by
  obtain⟨od,J,hl⟩:=I.look
  refine PySem.W.set_plain X J hs (PySem.W.osa_open (s:={ s with toks:=s.toks+1 }) (r:=none) X J hp ht fun b=>?_)
  obtain⟨cd,hc,hd'⟩:=PySem.W.any_some hh
  have hx:s.heap.get? x=some ⟨.ref C,some dx,.plain,#[]⟩:=I.obj
  refine wpAny_bind (wpAny_pure (wpAny_bind (wpAny_bind (wpAny_loadPart hx (wpAny_bind (PySem.W.Looks.here (s:={ s with toks:=s.toks+1 }) (PySem.W.looks_clsIn X hc) ?_))))))
  rw[hd']
  refine wpAny_pure (a:=some dx) (wpAny_bind (wpAny_pure (wpAny_bind ?_)))
  refine wpAny_nsSet1 (s:={ s with toks:=s.toks+1 }) I.ns fun h' hn2 hs2=>?_
  obtain⟨oD,esD,epD,hoD,hdD,hcD⟩:=hn2.count (PySem.Within.cons name v hw)
  refine wpAny_bind (wpAny_lookBehind hoD (by rw[hdD];exact pastItsLine_dict (Nat.le_trans hcD (by rw[List.length_cons];omega))) ?_)
  exact wpAny_pure (h _ ⟨(hs2.2 _ (Ne.symm I.ne)).trans I.obj,hn2,I.ne⟩ hs2)
theorem zkV {R:Result→Shared→Prop} {vs:List Value} {kw:List (Str × Value)} (X:K.In s.heap) (hm:PySem.W.makesIn K C=true)
    (hi:PySem.W.findIn K (.ref C) "__init__"=some (some (.ref f))) (hf:PySem.W.typeIn K (.ref f)=some (.type "function"))
    (h:codeAny (model prog w) (A.under (.builtin "type.__call__" ⟨.ref C :: vs,kw⟩)) (.call (.ref f) ⟨.ref (s.heap.objs.size+1) :: vs,kw⟩) (PySem.W.InitBack (s.heap.objs.size+1) R)
      { s with heap:=(s.heap.push PySem.W.emptyDict).push (PySem.W.instObj C s.heap.objs.size) }) :
    codeAny (model prog w) A (.call (.ref C) ⟨vs,kw⟩) R s:=by
  obtain⟨hh,g,d,t,os⟩:=s
  exact PySem.W.make_core (PySem.W.makes_of X hm) (PySem.W.looks_findIn X hi) (fun self=>PySem.W.bind_fn X self hf) (.inl rfl) h
end
def zat (f:Str) (v:V):List (Str × V)→List (Str × V)
  | []=>[(f,v)]
  | (g,x) :: r=>if g=f then(g,v) :: r else(g,x) :: zat f v r
theorem zar (f g:Str) (v:V):∀ fs:List (Str × V),(zat f v fs).lookup g=if g=f then some v else fs.lookup g
  | []=>by
    show List.lookup g [(f,v)]=_
    by_cases h:g=f
    · have hb:(g == f)=true:=beq_iff_eq.mpr h
      simp only[List.lookup,hb,if_pos h]
    · have hb:(g == f)=false:=beq_eq_false_iff_ne.mpr h
      simp only[List.lookup,hb,if_neg h]
  | (k,x) :: r=>by
    have ih:=zar f g v r
    rw[show zat f v ((k,x) :: r)=(if k=f then(k,v) :: r else(k,x) :: zat f v r) from rfl]
    by_cases hk:k=f
    · rw[if_pos hk]
      by_cases h:g=k
      · have hb:(g == k)=true:=beq_iff_eq.mpr h
        simp only[List.lookup,hb,if_pos (h.trans hk)]
      · have hb:(g == k)=false:=beq_eq_false_iff_ne.mpr h
        simp only[List.lookup,hb,if_neg (fun e:g=f=>h (e.trans hk.symm))]
    · rw[if_neg hk]
      by_cases h:g=k
      · have hb:(g == k)=true:=beq_iff_eq.mpr h
        simp only[List.lookup,hb,if_neg (fun e:g=f=>hk (h.symm.trans e))]
      · have hb:(g == k)=false:=beq_eq_false_iff_ne.mpr h
        simp only[List.lookup,hb]
        exact ih
theorem zfi (f:Str) (v:V):∀ fs:List (Str × V),f∈(zat f v fs).map (·.1)∧∀ g,g∈fs.map (·.1)→g∈(zat f v fs).map (·.1)
  | []=>⟨by simp [zat],fun g h=>by simp at h⟩
  | (k,x) :: r=>by
    obtain⟨i1,i2⟩:=zfi f v r
    rw[show zat f v ((k,x) :: r)=(if k=f then(k,v) :: r else(k,x) :: zat f v r) from rfl]
    by_cases hk:k=f
    · rw[if_pos hk]
      subst hk
      exact⟨by simp,fun g h=>by simpa using h⟩
    · rw[if_neg hk]
      refine⟨?_,fun g h=>?_⟩
      · rw[List.map_cons]
        exact List.mem_cons_of_mem _ i1
      · rw[List.map_cons]at h ⊢
        rcases List.mem_cons.mp h with e | e
        · exact List.mem_cons.mpr (.inl e)
        · exact List.mem_cons_of_mem _ (i2 g e)
theorem zfy (f:Str) (v:V):∀ fs:List (Str × V),(zat f v fs).length≤fs.length+1
  | []=>by simp [zat]
  | (k,x) :: r=>by
    have ih:=zfy f v r
    rw[show zat f v ((k,x) :: r)=(if k=f then(k,v) :: r else(k,x) :: zat f v r) from rfl]
    by_cases hk:k=f
    · rw[if_pos hk,List.length_cons,List.length_cons];omega
    · rw[if_neg hk,List.length_cons,List.length_cons];omega
theorem zcT.some_of {v:V} {o:Option Value} (r:zcT (some v) o):∃ u,o=some u∧aR v u:=by
  cases o with
  | none=>exact(show False from r).elim
  | some u=>exact⟨u,rfl,r⟩
theorem zcT.none_of {o:Option Value} (r:zcT none o):o=none:=by
  cases o with
  | none=>rfl
  | some u=>exact(show False from r).elim
theorem zkr {v:V} {u:Value} (r:aR v u):PySem.W.handedIn u=true:=by
  cases v with
  | non=>cases (show u=Value.none from r);rfl
  | bl b=>cases (show u=Value.bool b from r);rfl
  | int i=>obtain⟨t,e⟩:=(show ∃ t,u=Value.int i t from r);cases e;rfl
  | str x=>obtain⟨t,e⟩:=(show ∃ t,u=Value.str x t from r);cases e;rfl
  | byt b=>obtain⟨t,e⟩:=(show ∃ t,u=Value.bytes b t from r);cases e;rfl
  | flt b=>obtain⟨t,e⟩:=(show ∃ t,u=Value.float b t from r);cases e;rfl
  | ref a=>cases (show u=Value.ref a from r);rfl
  | ty n=>cases (show u=Value.type n from r);rfl
section
variable {P:Program} {w:World} {H H':Hp} {h h':Heap} {a C dx:Addr} {fs fs':List (Str × V)}
theorem zgM (hok:HOk P w H h) (e:H a=some (.ins C dx fs)):∃ mA,zfE h a dx C mA∧(∀ f,zcT (fs.lookup f) (mA f))∧PySem.Within mA (fs.map (·.1))∧fs.length≤1000∧H dx=some (.own a):=by
  obtain⟨d,z,ne,ob,mA,n,r,q⟩:=(show zaY P w H h a (.ins C dx fs) from hok a _ e)
  exact⟨mA,⟨ob,n,ne⟩,r,q,z,d⟩
end
structure Cls (K:PySem.W.Frag) (C:Addr):Prop where
  pg:PySem.W.plainGet K C Str.empty=true
  hd:PySem.W.hasDictIn K C=true
  po:PySem.W.plainOver K C=true
  sa:PySem.W.findIn K (.ref C) "__setattr__"=some (some (.builtin "object.__setattr__"))
theorem Cls.get {K:PySem.W.Frag} {C:Addr} (c:Cls K C) (f:Str):PySem.W.plainGet K C f=true:=c.pg
def zbZ (K:PySem.W.Frag) (C:Addr) (f:Str):Prop:=PySem.W.findIn K (.ref C) f=some none
theorem zbZ.taker {K:PySem.W.Frag} {C:Addr} {f:Str} (n:zbZ K C f):PySem.W.takerIn K C f=some none:=by
  unfold PySem.W.takerIn
  rw[show PySem.W.findIn K (.ref C) f=some none from n]
  rfl
structure zbo (K:PySem.W.Frag) (C:Addr) (m:Str) (f:Addr):Prop where
  at_:PySem.W.findIn K (.ref C) m=some (some (.ref f))
  fn:PySem.W.isFn K (.ref f)=true
  kp:PySem.W.keepIn K (.ref f)=true
section
variable {X:Cx} {pins:List (Addr × Obj)} {σ:St} {H:Hp} {s:Shared} {a C dx:Addr} {fs:List (Str × V)} {f:Str} {v:V} {A:Around} {E:Value→Shared→Prop}
theorem zgr {b:Bool} {Q:Value→Shared→Prop} (I:Inv X pins σ H s) (e:H a=some (.ins C dx fs)) (c:Cls X.K C) (n:zbZ X.K C f) (l:fs.lookup f=some v)
    (h:∀ u s',Inv X pins σ H s'→aR v u→Q u s'):wpAny (model X.prog X.w) A (getAttr (.ref a) f b) Q E s:=by
  obtain⟨mA,O,r,_,_,_⟩:=zgM I.hok e
  obtain⟨u,hu,ru⟩:=zcT.some_of (v:=v) (o:=mA f) (by rw[←l];exact r f)
  exact zlG I.kIn O (c.get f) c.hd n hu (zkr ru) (h u _ (I.tok _) ru)
theorem zeS {m:Str} {g:Addr} {pl:Sem Bool} {Q:Value × List Value→Shared→Prop} (I:Inv X pins σ H s) (e:H a=some (.ins C dx fs)) (c:Cls X.K C) (k:zbo X.K C m g) (l:fs.lookup m=none)
    (h:Q (.ref g,[.ref a]) s):wpAny (model X.prog X.w) A (getMethod (.ref a) m pl) Q E s:=by
  obtain⟨mA,O,r,_,_,_⟩:=zgM I.hok e
  have hn:mA m=none:=zcT.none_of (by rw[←l];exact r m)
  exact zk0 I.kIn O (c.get m) k.at_ k.fn hn h
theorem zgl {y:V} {u:Value} {Q:Unit→Shared→Prop} (I:Inv X pins σ H s) (e:H a=some (.ins C dx fs)) (c:Cls X.K C) (n:zbZ X.K C f) (hl:fs.length < 1000) (ry:aR y u)
    (h:∀ s',Inv X pins σ (upd H a (.ins C dx (zat f y fs))) s'→Q () s'):wpAny (model X.prog X.w) A (setAttr (.ref a) f u) Q E s:=by
  obtain⟨mA,O,r,wi,_,ho⟩:=zgM I.hok e
  have hz:(fs.map (·.1)).length≤sizeLine:=by rw[List.length_map,sizeLine_eq];omega
  refine zlc I.kIn O c.sa c.po n.taker c.hd wi hz fun h' O' sb=>h _ ?_
  have hd:∃ o,h'.get? dx=some o:=let ⟨o,_,_,e',_⟩:=O'.ns;⟨o,e'⟩
  refine I.write (x:=a) (e:=dx) (by rw[e];exact True.intro) (.inr ho) (fun b q hb z=>(sb.2 b hb).trans z) hd ?_
  refine⟨by rw[ao O.ne];exact ho,?_,O.ne,O'.obj,_,O'.ns,fun g=>?_,fun g hg=>?_⟩
  · have:=zfy f y fs;omega
  · show zcT ((zat f y fs).lookup g) (if g=f then some u else mA g)
    rw[zar]
    by_cases q:g=f
    · rw[if_pos q,if_pos q];exact ry
    · rw[if_neg q,if_neg q];exact r g
  · by_cases q:g=f
    · rw[q];exact(zfi f y fs).1
    · refine(zfi f y fs).2 g (wi g fun z=>hg ?_)
      show(if g=f then some u else mA g)=none
      rw[if_neg q];exact z
theorem Inv.made (I:Inv X pins σ H s):Inv X pins σ (upd (upd H s.heap.objs.size (.own (s.heap.objs.size+1))) (s.heap.objs.size+1) (.ins C s.heap.objs.size []))
    { s with heap:=(s.heap.push PySem.W.emptyDict).push (PySem.W.instObj C s.heap.objs.size) }:=by
  have e1:(s.heap.push PySem.W.emptyDict).get? s.heap.objs.size=some PySem.W.emptyDict:=Heap.get?_push_size s.heap rfl
  have e2:((s.heap.push PySem.W.emptyDict).push (PySem.W.instObj C s.heap.objs.size)).get? (s.heap.objs.size+1)=some (PySem.W.instObj C s.heap.objs.size):=by
    have:=Heap.get?_push_size (s.heap.push PySem.W.emptyDict) (o:=PySem.W.instObj C s.heap.objs.size) rfl
    rwa [Heap.size_push]at this
  have e3:(s.heap.push PySem.W.emptyDict).Ns s.heap.objs.size (fun _=>none):=⟨PySem.W.emptyDict,#[],_,e1,rfl,(fun e he=>absurd he (by simp)),fun _=>rfl⟩
  have I1:=I.laid (a:=s.heap.objs.size) (o:=.own (s.heap.objs.size+1)) (h':=s.heap.push PySem.W.emptyDict) (t':=s.toks) (fun b u q=>Heap.get?_push_of_some _ q) (Nat.le_refl _) ⟨_,e1⟩
  refine I1.laid (a:=s.heap.objs.size+1) (o:=.ins C s.heap.objs.size []) (t':=s.toks) (fun b u q=>Heap.get?_push_of_some _ q) (Nat.le_of_eq (Heap.size_push _ _)) ?_
  have ne:s.heap.objs.size≠s.heap.objs.size+1:=Nat.ne_of_lt (Nat.lt_succ_self _)
  refine⟨by rw[ao ne,ad],Nat.zero_le _,ne,e2,fun _=>none,(Heap.Ns1.of_empty e3).at fun o q=>Heap.get?_push_of_some _ q,fun _=>True.intro,fun y hy=>absurd rfl hy⟩
theorem zlL {prog:Program} {w:World} {env:Env} {e:Expr} {f:Str} {pos:Pos} {s:Shared} {Q:Value→Shared→Prop} (hb:attributeBase e f env (eval e env)=eval e env)
    (h:wpAny (model prog w) A (eval e env) (fun o s₁=>wpAny (model prog w) A (getAttr o f true) Q E s₁) E s):wpAny (model prog w) A (eval (.Attribute e f pos) env) Q E s :=
  Attribute_any_ h (by rw[arm_eval_Attribute,hb])
end
def tFld (K:PySem.W.Frag) (ta:TE) (f:Str):TE:=fun σ H Q=>ta σ H fun x H1=>∃ a C dx fs v,x=.ref a∧H1 a=some (.ins C dx fs)∧Cls K C∧zbZ K C f∧fs.lookup f=some v∧Q v H1
def sFld (K:PySem.W.Frag) (ta tv:TE) (f:Str):TS:=fun D σ H=>tv σ H fun y H1=>ta σ H1 fun x H2=>∃ a C dx fs,x=.ref a∧H2 a=some (.ins C dx fs)∧Cls K C∧zbZ K C f∧fs.length < 1000 ∧
  D.nx σ (upd H2 a (.ins C dx (zat f y fs)))
def InOp (X:Cx) (op:Operator) (rd:V→V→Hp→VK→Prop):Prop :=
  ∀(pins:List (Addr × Obj)) (s:Shared) (σ:St) (H:Hp) (x y:V) (u v:Value) (Q:VK),Inv X pins σ H s→aR x u→aR y v→rd x y H Q→wpAny (model X.prog X.w) X.A (inplaceOp op u v) (EP X pins σ Q) X.xe s
def zld (K:PySem.W.Frag) (ta tv:TE) (rd:V→V→Hp→VK→Prop) (f:Str):TS:=fun D σ H=>ta σ H fun x H1=>∃ a C dx fs v,x=.ref a∧H1 a=some (.ins C dx fs)∧Cls K C∧zbZ K C f∧fs.lookup f=some v ∧
  tv σ H1 fun y H2=>rd v y H2 fun z H3=>∃ dx' fs',H3 a=some (.ins C dx' fs')∧fs'.length < 1000∧D.nx σ (upd H3 a (.ins C dx' (zat f z fs')))
section
variable {X:Cx} {o e value:Expr} {f:Str} {pos pos' tpos:Pos} {ta tv:TE}
theorem zaU (he:PE X e ta) (hb:attributeBase e f X.env (eval e X.env)=eval e X.env):PE X (.Attribute e f pos) (tFld X.K ta f):=by
  intro pins s σ H Q I h
  refine zlL hb (thn (he pins s σ H _ I h) fun u s1 ⟨x,H1,I1,rx,a,C,dx,fs,v,ex,ea,c,n,l,q⟩=>?_)
  subst ex
  obtain rfl:u=Value.ref a:=rx
  exact zgr I1 ea c n l fun u' s2 I2 ru=>⟨v,H1,I2,ru,q⟩
theorem zem (ha:PE X o ta) (hv:PE X value tv) (hs:swapsWith value (some (.Attribute o f pos')) pos.line X.env=pure false):PS X (.Assign [.Attribute o f pos'] value pos) (sFld X.K ta tv f):=by
  intro pins s σ H D I h
  refine plainObj_wpAny_Assign_Attribute (thn (hv pins s σ H _ I h) fun u s1 ⟨y,H1,I1,ry,q⟩=>thn (ha pins s1 σ H1 _ I1 q) fun ov s2 ⟨x,H2,I2,rx,a,C,dx,fs,ex,ea,c,n,l,q2⟩=>?_) hs
  subst ex
  obtain rfl:ov=Value.ref a:=rx
  exact zgl I2 ea c n l ry fun s3 I3=>⟨σ,_,I3,q2⟩
theorem zg4 {op:Operator} {rd:V→V→Hp→VK→Prop} (ha:PE X o ta) (hv:PE X value tv) (hop:InOp X op rd):PS X (.AugAssign (.Attribute o f tpos) op value pos) (zld X.K ta tv rd f):=by
  intro pins s σ H D I h
  refine wpAny_AugAssign_AttributeAny (thn (ha pins s σ H _ I h) fun ov s1 ⟨x,H1,I1,rx,a,C,dx,fs,v,ex,ea,c,n,l,q⟩=>?_)
  subst ex
  obtain rfl:ov=Value.ref a:=rx
  refine zgr I1 ea c n l fun u s2 I2 ru=>thn (hv pins s2 σ H1 _ I2 q) fun w3 s3 ⟨y,H2,I3,ry,q3⟩=>thn (hop pins s3 σ H2 v y u w3 _ I3 ru ry q3) fun w4 s4 ⟨z,H3,I4,rz,dx',fs',ea',l',q4⟩=>?_
  exact zgl I4 ea' c n l' rz fun s5 I5=>⟨σ,_,I5,q4⟩
def rAdd:V→V→Hp→VK→Prop:=fun x y H Q=>∃ i j,x=.int i∧y=.int j∧Q (.int (i+j)) H
theorem zjP:InOp X .Add rAdd:=by
  rintro pins s σ H x y u v Q I rx ry ⟨i,j,rfl,rfl,q⟩
  obtain⟨t,rfl⟩:=(show ∃ t,u=Value.int i t from rx)
  obtain⟨t',rfl⟩:=(show ∃ t',v=Value.int j t' from ry)
  exact PyProof.Rows.iadd_int ⟨.int (i+j),H,I.tok _,⟨_,rfl⟩,q⟩
theorem zlS {pl:Sem Bool} {m:Str} {apos:Pos} {args:List Expr} {pins:List (Addr × Obj)} {s:Shared} {σ:St} {H:Hp} {Q:Value→Shared→Prop} {te:TE} (he:PE X e te) (I:Inv X pins σ H s)
    (h:te σ H fun x H1=>∃ a C dx fs g,x=.ref a∧H1 a=some (.ins C dx fs)∧Cls X.K C∧zbo X.K C m g∧fs.lookup m=none ∧
      ∀ s1,Inv X pins σ H1 s1→wpAny (model X.prog X.w) X.A (callWith pos (.ref g) [.ref a] (backTo pos (starEach args X.env)) (backToKw pos (keywordEach [] X.env))) Q X.xe s1)
    (ht:eval (.Call (.Attribute e m apos) args [] pos) X.env=(do
      let ov ←eval e X.env
      standAt apos.atName
      let (f,first) ←holding [ov] (getMethod ov m pl)
      callWith pos f first (backTo pos (starEach args X.env)) (backToKw pos (keywordEach [] X.env)))) :
    wpAny (model X.prog X.w) X.A (eval (.Call (.Attribute e m apos) args [] pos) X.env) Q X.xe s:=by
  refine PySem.W.methodCall_KW (pl:=pl) (thn (he pins s σ H _ I h) fun u s1 ⟨x,H1,I1,rx,a,C,dx,fs,g,ex,ea,c,k,l,q⟩=>?_) ht
  subst ex
  obtain rfl:u=Value.ref a:=rx
  exact zeS I1 ea c k l (q s1 I1)
end
section
variable {X:Cx} {pins:List (Addr × Obj)} {σ:St} {H:Hp} {s:Shared} {A:Around} {E:Value→Shared→Prop} {Q:Value→Shared→Prop} {c:Value} {b:Bool}
end
end L2
namespace L2
open PySem PySem.Spec PyProof.Rows
structure aH (k:Nat) (A:Around):Prop where
  hd:A.handled=none
  dp:A.depth+3 * k+5 < recursionLimit
  un:A.units+16 * k+200 < cLine
  gd:A.guards=some []
theorem aH.mono {j k:Nat} {A:Around} (r:aH k A) (h:j≤k):aH j A:=⟨r.hd,by have:=r.dp;omega,by have:=r.un;omega,r.gd⟩
theorem aH.deeper {k:Nat} {A:Around} (r:aH (k+1) A) (env:Env):aH k (A.deeper env) :=
  ⟨r.hd,by have:=r.dp;show A.depth+1+3 * k+5 < _;omega,by have:=r.un;show A.units+3+16 * k+200 < _;omega,r.gd⟩
theorem zjn {A:Around} {C:Addr} {us:List Value} {kw:List (Str × Value)}:(A.under (.builtin "type.__call__" ⟨.ref C :: us,kw⟩)).depth=A.depth+1:=by
  first | rfl | simp [Around.under,Code.weight,Code.isCreation,Code.isGuard,Code.isCaller,Code.frames,Code.isFrame,guardIds]
theorem zjm {A:Around} {C:Addr} {us:List Value} {kw:List (Str × Value)}:(A.under (.builtin "type.__call__" ⟨.ref C :: us,kw⟩)).units=A.units+1:=by
  first | rfl | simp [Around.under,Code.cUnits,Code.frames,Code.isFrame]
theorem zix {A:Around} {C:Addr} {us:List Value} {kw:List (Str × Value)} (h:A.guards=some []):(A.under (.builtin "type.__call__" ⟨.ref C :: us,kw⟩)).guards=some []:=by
  first | exact h | simp [Around.under,Code.guards,Code.isGuard,guardIds,pushGuards,h]
theorem aH.make {k:Nat} {A:Around} (r:aH (k+1) A) (C:Addr) (us:List Value) (kw:List (Str × Value)):aH k (A.under (.builtin "type.__call__" ⟨.ref C :: us,kw⟩)) :=
  ⟨r.hd,by have:=r.dp;rw[zjn];omega,by have:=r.un;rw[zjm];omega,zix r.gd⟩
theorem aH.depth {k:Nat} {A:Around} (r:aH k A):A.depth < recursionLimit:=by have:=r.dp;omega
theorem aH.units {k:Nat} {A:Around} (r:aH k A):A.units+64 < cLine:=by have:=r.un;omega
def tNil:TA:=fun _ H Q=>Q [] H
def zhp (ta:TE) (tr:TA):TA:=fun σ H Q=>ta σ H fun x H1=>tr σ H1 fun xs H2=>Q (x :: xs) H2
section
variable {X:Cx} {e:Expr} {es:List Expr} {te:TE} {t:TA} {pos:Pos}
theorem ac:PA X [] tNil:=fun _ _ _ _ H Q I h=>Calls.spliced_nil ⟨[],H,I,.nil,h⟩
theorem aa (ha:PE X e te) (hr:PA X es t) (hs:starEach (e :: es) X.env=(false,eval e X.env) :: starEach es X.env:=by rfl):PA X (e :: es) (zhp te t):=by
  intro pos pins s σ H Q I h
  rw[hs]
  show wpAny _ _ (spliced ((false,eval e X.env) :: backTo pos (starEach es X.env))) _ _ s
  refine Calls.spliced_cons (thn (ha pins s σ H _ I h) fun u s1 ⟨x,H1,I1,r1,q1⟩=>?_)
  exact thn (hr pos pins s1 σ H1 _ I1 q1) fun us s2 ⟨xs,H2,I2,r2,q2⟩=>⟨x :: xs,H2,I2,.cons r1 r2,q2⟩
def tTup (t:TA):TE:=fun σ H Q=>t σ H fun xs H1=>xs.length≤sizeLine∧∀ p,H1 p=none→Q (.ref p) (upd H1 p (.tup xs))
def tLst (t:TA):TE:=fun σ H Q=>t σ H fun xs H1=>xs.length≤sizeLine∧∀ p,H1 p=none→Q (.ref p) (upd H1 p (.lst xs))
theorem zae {x1} (h:PA X es t):PE X (.Tuple es x1 pos) (tTup t):=by
  intro pins s σ H Q I hq
  refine wpAny_Tuple_spliced (thn (h pos pins s σ H _ I hq) fun us s1 ⟨xs,H1,I1,r,z,q⟩=>⟨by rw[←r.length];exact z,?_⟩)
  have hf:H1 s1.heap.objs.size=none:=I1.hok.fresh (Nat.le_refl _)
  refine⟨.ref s1.heap.objs.size,upd H1 s1.heap.objs.size (.tup xs),I1.laid (t':=s1.toks) (fun b u e=>Heap.get?_push_of_some _ e) (Nat.le_refl _) ?_,rfl,q _ hf⟩
  exact⟨z,us,r,⟨_,Heap.get?_push_size _ rfl,rfl,_,rfl⟩⟩
theorem zag (h:PA X es t):PE X (.List es pos) (tLst t):=by
  intro pins s σ H Q I hq
  refine wpAny_List_spliced (thn (h pos pins s σ H _ I hq) fun us s1 ⟨xs,H1,I1,r,z,q⟩=>⟨by rw[←r.length];exact z,?_⟩)
  have hf:H1 s1.heap.objs.size=none:=I1.hok.fresh (Nat.le_refl _)
  refine⟨.ref s1.heap.objs.size,upd H1 s1.heap.objs.size (.lst xs),I1.laid (t':=s1.toks) (fun b u e=>Heap.get?_push_of_some _ e) (Nat.le_refl _) ?_,rfl,q _ hf⟩
  exact⟨z,us,0,r,Heap.get?_push_size _ rfl⟩
end
abbrev Sp:=List V→Hp→VK→XK→Prop
abbrev CXT:=List Env→Hp→Shared→XK→Value→Shared→Prop
structure zfF (P:Program) (w:World) (K:PySem.W.Frag) (mg:Str→Option Value) (base:Heap) (A:Around) (outer:List Env) (s:Shared) (H:Hp):Prop where
  frames:A.frames=some outer
  mod:Mod K mg base
  bs:∀ b o,base.get? b=some o→s.heap.get? b=some o∧H b=none
  bsz:base.objs.size≤s.heap.objs.size
  funs:s.heap.FunFrames base outer
  frf:∀ b∈frs outer,H b=none
  hok:HOk P w H s.heap
  bare:AllBare s.gens
def CE (outer:List Env) (P:Program) (w:World) (H:Hp) (s:Shared) (Q:VK) (u:Value) (s':Shared):Prop :=
  ∃ v H',s'.os=s.os∧AllBare s'.gens∧Un (frs outer) [] H H' s.heap s'.heap∧HOk P w H' s'.heap∧aR v u∧Q v H'
def CR (CX:CXT) (outer:List Env) (P:Program) (w:World) (H:Hp) (s:Shared) (Q:VK) (E:XK) (r:Result) (s':Shared):Prop :=
  match r with
  | .ok (.ret u)=>CE outer P w H s Q u s'
  | .ok _=>False
  | .error e=>CX outer H s E e s'
structure FnOk (P:Program) (w:World) (K:PySem.W.Frag) (mg:Str→Option Value) (base:Heap) (CX:CXT) (k:Nat) (f:Addr) (fd:FuncData) (ps:List Str) (sp:Sp):Prop where
  len:∀ vs H Q E,sp vs H Q E→vs.length=ps.length
  run:∀(A:Around) (outer:List Env) (s:Shared) (H:Hp) (args:Args) (us:List Value) (vs:List V) (Q:VK) (E:XK),aH k A→zfF P w K mg base A outer s H→BindsTo s fd args (ps.zip us)→aQ vs us→sp vs H Q E →
    codeAny (model P w) A (.call (.ref f) args) (CR CX outer P w H s Q E) s
theorem FnOk.mono {P:Program} {w:World} {K:PySem.W.Frag} {mg:Str→Option Value} {base:Heap} {CX:CXT} {j k:Nat} {f:Addr} {fd:FuncData} {ps:List Str} {sp:Sp} (F:FnOk P w K mg base CX j f fd ps sp) (h:j≤k) :
    FnOk P w K mg base CX k f fd ps sp:=⟨F.len,fun A outer s H args us vs Q E hr=>F.run A outer s H args us vs Q E (hr.mono h)⟩
theorem zfF.make {P:Program} {w:World} {K:PySem.W.Frag} {mg:Str→Option Value} {base:Heap} {A:Around} {outer:List Env} {s:Shared} {H:Hp} (e:zfF P w K mg base A outer s H) (C:Addr) (us:List Value) (kw:List (Str × Value)) :
    zfF P w K mg base (A.under (.builtin "type.__call__" ⟨.ref C :: us,kw⟩)) outer s H:=⟨by first | exact e.frames | (simpa [Around.under,Code.envs,Code.isFrame,pushEnvs] using e.frames),e.mod,e.bs,e.bsz,e.funs,e.frf,e.hok,e.bare⟩
section
variable {X:Cx} {pins:List (Addr × Obj)} {σ:St} {H:Hp} {s s':Shared}
theorem Inv.env0 (I:Inv X pins σ H s):zfF X.prog X.w X.K X.mg X.base X.A X.stack s H :=
  ⟨I.ok.frames,I.ok.mod,I.bs,Nat.le_trans I.ok.bsz I.sz,I.stack,I.stkFree,I.hok,I.bare⟩
theorem Inv.after {Q:VK} {u:Value} (I:Inv X pins σ H s) (h:CE X.stack X.prog X.w H s Q u s'):EP X pins σ Q u s':=by
  obtain⟨v,H',os,bare,un,hok,r,q⟩:=h
  obtain⟨hh,g,d,t,os'⟩:=s'
  obtain rfl:os'=s.os:=os
  exact⟨v,H',I.call (h':=hh) (g':=g) (d':=d) (t':=t) (ch:=[]) un hok bare (fun b z=>absurd z (by simp)),r,q⟩
end
def tCall (sp:Sp) (dvs:List V) (E:XK) (t:TA):TE:=fun σ H Q=>t σ H fun vs H1=>sp (vs++dvs) H1 Q E
def tMeth (C:Addr) (m:Str) (sp:Sp) (dvs:List V) (E:XK) (ta:TE) (t:TA):TE:=fun σ H Q=>ta σ H fun x H1=>∃ a dx fs,x=.ref a∧H1 a=some (.ins C dx fs)∧fs.lookup m=none ∧
  t σ H1 fun vs H2=>sp (x :: (vs++dvs)) H2 Q E
def tMake (C:Addr) (sp:Sp) (dvs:List V) (E:XK) (t:TA):TE:=fun σ H Q=>t σ H fun vs H1=>∀ x dx,H1 x=none→H1 dx=none→dx≠x →
  sp (.ref x :: (vs++dvs)) (upd (upd H1 dx (.own x)) x (.ins C dx [])) (fun v H2=>v=.non∧Q (.ref x) H2) E
def ar (K:PySem.W.Frag) (fd:FuncData) (ps:List Str) (ds:List Value):Prop :=
  ∀(s:Shared) (us:List Value),K.In s.heap→(us++ds).length=ps.length→BindsTo s fd ⟨us,[]⟩ (ps.zip (us++ds))
theorem ar.all {K:PySem.W.Frag} {fd:FuncData} {ps:List Str} (h:∀ us:List Value,us.length=ps.length→bindArgs fd ⟨us,[]⟩=pure (ps.zip us)):ar K fd ps []:=fun s us _ hl=>by
  rw[List.append_nil]at hl ⊢
  exact .of_eq (h us hl)
def zbC (CX:CXT) (X:Cx) (E:XK):Prop:=∀(pins:List (Addr × Obj)) (σ:St) (H:Hp) (s:Shared) (e:Value) (s':Shared),Inv X pins σ H s→CX X.stack H s E e s'→X.xe e s'
section
variable {X:Cx} {CX:CXT} {k:Nat} {f C:Addr} {fd:FuncData} {ps:List Str} {sp:Sp} {dvs:List V} {ds:List Value} {E:XK} {x m:Str} {p pos apos:Pos} {e o:Expr} {es:List Expr} {ta:TE} {t:TA}
theorem zhw {pins:List (Addr × Obj)} {σ:St} {H:Hp} {s:Shared} {Q:VK} {us:List Value} {vs:List V} (F:FnOk X.prog X.w X.K X.mg X.base CX k f fd ps sp) (hr:aH k X.A) (hb:ar X.K fd ps ds) (hd:aQ dvs ds) (hx:zbC CX X E)
    (I:Inv X pins σ H s) (r:aQ vs us) (h:sp (vs++dvs) H Q E):wpAny (model X.prog X.w) X.A (call (.ref f) us) (EP X pins σ Q) X.xe s:=by
  have r2:aQ (vs++dvs) (us++ds):=r.append hd
  have hl:(us++ds).length=ps.length:=by rw[←r2.length];exact F.len _ _ _ _ h
  refine wpAny_call (codeAny_mono (F.run X.A X.stack s H ⟨us,[]⟩ (us++ds) (vs++dvs) Q E hr I.env0 (hb s us I.kIn hl) r2 h) fun r s' hq=>?_)
  cases r with
  | error e=>exact hx pins σ H s e s' I hq
  | ok fl =>
    cases fl with
    | ret u=>exact I.after hq
    | next=>exact False.elim hq
    | brk=>exact False.elim hq
    | cont=>exact False.elim hq
theorem aq (F:FnOk X.prog X.w X.K X.mg X.base CX k f fd ps sp) (hr:aH k X.A) (hg:Gl X x) (hm:X.mg x=some (.ref f)) (hk:PySem.W.keepIn X.K (.ref f)=true) (hb:ar X.K fd ps ds) (hd:aQ dvs ds) (hx:zbC CX X E)
    (ha:PA X (e :: es) t) (hdb:(x == ("__debug__":Str))=false:=by decide) (he:starEach (e :: es) X.env=(false,eval e X.env) :: starEach es X.env:=by rfl) (hpl:(backTo pos (starEach es X.env)).any (·.1)=false:=by rfl) :
    PE X (.Call (.Name x p) (e :: es) [] pos) (tCall sp dvs E t):=by
  intro pins s σ H Q I h
  refine wpAny_Call_Name_kw (zcI I hg hm ?_ hdb)
  refine PySem.W.callWith_K (h₀:=X.base) I.ok.mod.kin hk (thn (ha pos pins s σ H _ I h) fun us s1 ⟨vs,H1,I1,r,q⟩=>⟨I1.kIn,?_⟩) he hpl
  exact zhw F hr hb hd hx I1 r q
theorem zaG {pl:Sem Bool} (he:PE X o ta) (c:Cls X.K C) (hm:zbo X.K C m f) (F:FnOk X.prog X.w X.K X.mg X.base CX k f fd ps sp) (hr:aH k X.A) (hb:ar X.K fd ps ds) (hd:aQ dvs ds) (hx:zbC CX X E) (ha:PA X (e :: es) t)
    (hst:starEach (e :: es) X.env=(false,eval e X.env) :: starEach es X.env:=by rfl) (hpl:(backTo pos (starEach es X.env)).any (·.1)=false:=by rfl)
    (ht:eval (.Call (.Attribute o m apos) (e :: es) [] pos) X.env=(do
      let ov ←eval o X.env
      standAt apos.atName
      let (f,first) ←holding [ov] (getMethod ov m pl)
      callWith pos f first (backTo pos (starEach (e :: es) X.env)) (backToKw pos (keywordEach [] X.env))):=by rfl) :
    PE X (.Call (.Attribute o m apos) (e :: es) [] pos) (tMeth C m sp dvs E ta t):=by
  intro pins s σ H Q I h
  refine PySem.W.methodCall_KW (pl:=pl) (thn (he pins s σ H _ I h) fun u s1 ⟨x,H1,I1,rx,a,dx,fs,ex,ea,l,q⟩=>?_) ht
  subst ex
  obtain rfl:u=Value.ref a:=rx
  refine zeS I1 ea c hm l ?_
  refine PySem.W.callWith_K (first:=[.ref a]) (h₀:=X.base) I.ok.mod.kin hm.kp (thn (ha pos pins s1 σ H1 _ I1 q) fun us s2 ⟨vs,H2,I2,r,q2⟩=>⟨I2.kIn,?_⟩) hst hpl
  exact zhw (us:=.ref a :: us) (vs:=.ref a :: vs) F hr hb hd hx I2 (.cons rfl r) q2
theorem zfT {pl:Sem Bool} (he:PE X o ta) (c:Cls X.K C) (hm:zbo X.K C m f) (F:FnOk X.prog X.w X.K X.mg X.base CX k f fd ps sp) (hr:aH k X.A) (hb:ar X.K fd ps ds) (hd:aQ dvs ds) (hx:zbC CX X E)
    (ht:eval (.Call (.Attribute o m apos) [] [] pos) X.env=(do
      let ov ←eval o X.env
      standAt apos.atName
      let (f,first) ←holding [ov] (getMethod ov m pl)
      callWith pos f first (backTo pos (starEach [] X.env)) (backToKw pos (keywordEach [] X.env))):=by rfl) :
    PE X (.Call (.Attribute o m apos) [] [] pos) (tMeth C m sp dvs E ta tNil):=by
  intro pins s σ H Q I h
  refine PySem.W.methodCall_KW (pl:=pl) (thn (he pins s σ H _ I h) fun u s1 ⟨x,H1,I1,rx,a,dx,fs,ex,ea,l,q⟩=>?_) ht
  subst ex
  obtain rfl:u=Value.ref a:=rx
  refine zeS I1 ea c hm l ?_
  exact PySem.W.callWith_K0 (first:=[.ref a]) I1.kIn hm.kp (zhw (us:=[.ref a]) (vs:=[.ref a]) F hr hb hd hx I1 (.cons rfl .nil) q)
structure Mk (K:PySem.W.Frag) (C f:Addr):Prop where
  makes:PySem.W.makesIn K C=true
  init:PySem.W.findIn K (.ref C) "__init__"=some (some (.ref f))
  fn:PySem.W.isFn K (.ref f)=true
  kp:PySem.W.keepIn K (.ref C)=true
theorem zhU {pins:List (Addr × Obj)} {σ:St} {H:Hp} {s:Shared} {Q:VK} {us:List Value} {vs:List V} (M:Mk X.K C f) (F:FnOk X.prog X.w X.K X.mg X.base CX k f fd ps sp) (hr:aH (k+1) X.A) (hb:ar X.K fd ps ds) (hd:aQ dvs ds)
    (hx:zbC CX X E) (I:Inv X pins σ H s) (r:aQ vs us)
    (h:∀ x dx,H x=none→H dx=none→dx≠x→sp (.ref x :: (vs++dvs)) (upd (upd H dx (.own x)) x (.ins C dx [])) (fun v H2=>v=.non∧Q (.ref x) H2) E) :
    wpAny (model X.prog X.w) X.A (call (.ref C) us) (EP X pins σ Q) X.xe s:=by
  have hq:=h (s.heap.objs.size+1) s.heap.objs.size (I.hok.fresh (Nat.le_succ _)) (I.hok.fresh (Nat.le_refl _)) (Nat.ne_of_lt (Nat.lt_succ_self _))
  have I2:=Inv.made (C:=C) I
  have r2:aQ (V.ref (s.heap.objs.size+1) :: (vs++dvs)) (Value.ref (s.heap.objs.size+1) :: (us++ds)):=.cons rfl (r.append hd)
  have hl:(Value.ref (s.heap.objs.size+1) :: us++ds).length=ps.length:=by
    have e:=r2.length
    rw[F.len _ _ _ _ hq]at e
    exact e.symm
  refine wpAny_call (zkV (f:=f) I.kIn M.makes M.init (beq_iff_eq.mp M.fn) (codeAny_mono (F.run _ X.stack _ _ ⟨Value.ref (s.heap.objs.size+1) :: us,[]⟩ (Value.ref (s.heap.objs.size+1) :: (us++ds)) _ _ E (hr.make C us [])
    (I2.env0.make C us []) (hb _ (Value.ref (s.heap.objs.size+1) :: us) I2.kIn hl) r2 hq) fun r s' hq'=>?_))
  cases r with
  | error e=>exact hx pins σ _ _ e s' I2 hq'
  | ok fl =>
    cases fl with
    | ret u =>
      obtain⟨v,H',I3,rv,ev,q3⟩:=I2.after hq'
      subst ev
      exact⟨rv,⟨V.ref (s.heap.objs.size+1),H',I3,rfl,q3⟩⟩
    | next=>exact False.elim hq'
    | brk=>exact False.elim hq'
    | cont=>exact False.elim hq'
theorem zlo (M:Mk X.K C f) (F:FnOk X.prog X.w X.K X.mg X.base CX k f fd ps sp) (hr:aH (k+1) X.A) (hg:Gl X x) (hm:X.mg x=some (.ref C)) (hb:ar X.K fd ps ds) (hd:aQ dvs ds) (hx:zbC CX X E)
    (ha:PA X (e :: es) t) (hdb:(x == ("__debug__":Str))=false:=by decide) (he:starEach (e :: es) X.env=(false,eval e X.env) :: starEach es X.env:=by rfl) (hpl:(backTo pos (starEach es X.env)).any (·.1)=false:=by rfl) :
    PE X (.Call (.Name x p) (e :: es) [] pos) (tMake C sp dvs E t):=by
  intro pins s σ H Q I h
  refine wpAny_Call_Name_kw (zcI I hg hm ?_ hdb)
  refine PySem.W.callWith_K (h₀:=X.base) I.ok.mod.kin M.kp (thn (ha pos pins s σ H _ I h) fun us s1 ⟨vs,H1,I1,r,q⟩=>⟨I1.kIn,?_⟩) he hpl
  exact zhU M F hr hb hd hx I1 r q
theorem zkI (M:Mk X.K C f) (F:FnOk X.prog X.w X.K X.mg X.base CX k f fd ps sp) (hr:aH (k+1) X.A) (hg:Gl X x) (hm:X.mg x=some (.ref C)) (hb:ar X.K fd ps ds) (hd:aQ dvs ds) (hx:zbC CX X E)
    (hdb:(x == ("__debug__":Str))=false:=by decide):PE X (.Call (.Name x p) [] [] pos) (tMake C sp dvs E tNil):=by
  intro pins s σ H Q I h
  refine wpAny_Call_Name_kw (zcI I hg hm ?_ hdb)
  exact PySem.W.callWith_K0 I.kIn M.kp (zhU (us:=[]) M F hr hb hd hx I .nil h)
end
section
variable {X:Cx} {CX:CXT} {k:Nat} {f C:Addr} {fd:FuncData} {ps ks:List Str} {sp:Sp} {E:XK} {x m:Str} {p pos apos kpos:Pos} {e o:Expr} {es:List Expr} {kws:List Keyword} {te ta:TE} {t tk:TA} {nm:Option Str}
variable {g:List Value→List Value→List Value} {gV:List V→List V→List V}
end
structure zac (N P:List Str) (sc:Scope):Prop where
  kind:sc.kind=.function
  co:sc.isCoroutine=false
  gen:sc.isGenerator=false
  nd:N.Nodup
  pre:N.take P.length=P
  par:∀ x∈P,sc.names.lookup x=some .local∨sc.names.lookup x=some .cell
  nofree:∀ y∈sc.names,y.2≠.free
theorem zhg {kindOf:Str→Option NameKind} {x:Str}:∀ {binds:List (Str × Value)} {m:Str→Option Value},(∀ v,(x,v)∉binds)→bindL kindOf binds m x=m x
  | [],_,_=>rfl
  | (n,v) :: r,m,h=>by
    unfold bindL
    rw[zhg fun w hw=>h w (List.mem_cons_of_mem _ hw)]
    split
    · have:x≠n:=by rintro rfl;exact h v List.mem_cons_self
      simp [this]
    · rfl
theorem zhi {kindOf:Str→Option NameKind} {x:Str}:∀ {binds:List (Str × Value)} {m:Str→Option Value},(∀ v,(x,v)∉binds)→bindC kindOf binds m x=m x
  | [],_,_=>rfl
  | (n,v) :: r,m,h=>by
    unfold bindC
    rw[zhi fun w hw=>h w (List.mem_cons_of_mem _ hw)]
    split
    · rfl
    · have:x≠n:=by rintro rfl;exact h v List.mem_cons_self
      simp [this]
theorem zhh {kindOf:Str→Option NameKind} {x:Str} {v:Value}:∀ {P:List Str} {vs:List Value} {i:Nat} {m:Str→Option Value},P.Nodup→P[i]?=some x→vs[i]?=some v→kindOf x=some .local →
    bindL kindOf (P.zip vs) m x=some v
  | [],_,_,_,_,h,_,_=>by simp at h
  | _ :: _,[],_,_,_,_,h,_=>by simp at h
  | p :: P,w :: vs,0,m,nd,h1,h2,hk=>by
    simp at h1 h2;subst h1;subst h2
    show bindL kindOf ((p,w) :: P.zip vs) m p=_
    unfold bindL
    rw[zhg fun v hv=>(List.nodup_cons.mp nd).1 (List.of_mem_zip hv).1,if_pos hk]
    simp
  | p :: P,w :: vs,i+1,m,nd,h1,h2,hk=>by
    show bindL kindOf ((p,w) :: P.zip vs) m x=_
    unfold bindL
    exact zhh (i:=i) (List.nodup_cons.mp nd).2 (by simpa using h1) (by simpa using h2) hk
theorem zhj {kindOf:Str→Option NameKind} {x:Str} {v:Value}:∀ {P:List Str} {vs:List Value} {i:Nat} {m:Str→Option Value},P.Nodup→P[i]?=some x→vs[i]?=some v→kindOf x≠some .local →
    bindC kindOf (P.zip vs) m x=some v
  | [],_,_,_,_,h,_,_=>by simp at h
  | _ :: _,[],_,_,_,_,h,_=>by simp at h
  | p :: P,w :: vs,0,m,nd,h1,h2,hk=>by
    simp at h1 h2;subst h1;subst h2
    show bindC kindOf ((p,w) :: P.zip vs) m p=_
    unfold bindC
    rw[zhi fun v hv=>(List.nodup_cons.mp nd).1 (List.of_mem_zip hv).1,if_neg hk]
    simp
  | p :: P,w :: vs,i+1,m,nd,h1,h2,hk=>by
    show bindC kindOf ((p,w) :: P.zip vs) m x=_
    unfold bindC
    exact zhj (i:=i) (List.nodup_cons.mp nd).2 (by simpa using h1) (by simpa using h2) hk
def zdo (N:List Str) (vs:List V):St:=vs.map some++List.replicate (N.length - vs.length) none
def zbg (CX:CXT) (P:Program) (w:World) (K:PySem.W.Frag) (mg:Str→Option Value) (base:Heap) (N:List Str) (qual:Str) (scope:Scope) (f:Addr) (cd:Value) (A:Around) (outer:List Env) (s:Shared) (H:Hp) (E:XK):Cx where
  prog:=P
  w:=w
  K:=K
  mg:=mg
  base:=base
  A:=A.deeper (envOfC qual scope s.heap.objs.size f cd)
  N:=N
  s₀:=s
  H₀:=H
  env:=envOfC qual scope s.heap.objs.size f cd
  outer:=outer
  stack:=envOfC qual scope s.heap.objs.size f cd :: outer
  ex:=[]
  calm:=true
  fn:=fun _=>true
  pn:=[]
  xe:=fun e s'=>wpAny (model P w) (A.deeper (envOfC qual scope s.heap.objs.size f cd)) (leaving (envOfC qual scope s.heap.objs.size f cd) e) (fun _ s''=>CX outer H s E e s'') (fun e' s''=>CX outer H s E e' s'') s'
theorem zie {sc:Scope} {n:Nat} {x:Str} (h:sc.names.lookup x=some .cell):∃ c,(cellsFrom n sc.names []).lookup x=some c:=by
  have q:=PySem.W.cellsFrom_some sc.names n [] (.inl h)
  exact Option.isSome_iff_exists.mp q
theorem zkp {CX:CXT} {P:Program} {w:World} {K:PySem.W.Frag} {mg:Str→Option Value} {base:Heap} {N ps:List Str} {qual:Str} {scope:Scope} {f:Addr} {cd:Value} {A:Around} {outer:List Env} {s s1:Shared} {H:Hp} {E:XK} {us:List Value} {vs:List V}
    (S:zac N ps scope) (hd:A.handled=none) (e0:zfF P w K mg base A outer s H) (hl:vs.length=ps.length) (r:aQ vs us)
    (x:InCallC s s.heap.objs.size (bindL (envOfC qual scope s.heap.objs.size f cd).kindOf (ps.zip us) fun _=>none) (cellsFrom (s.heap.objs.size+1) scope.names []) (bindC (envOfC qual scope s.heap.objs.size f cd).kindOf (ps.zip us) fun _=>none) s1) :
    Inv (zbg CX P w K mg base N qual scope f cd A outer s H E) [] (zdo N vs) H s1:=by
  have hpl:ps.length≤N.length:=by have:=congrArg List.length S.pre;rw[List.length_take]at this;omega
  obtain⟨h1,tk,rfl,hk⟩:=x.done
  have noA:∀ b:Addr,b∉(zbg CX P w K mg base N qual scope f cd A outer s H E).ex:=fun b z=>absurd (show b∈([]:List Addr) from z) (by simp)
  refine⟨⟨e0.mod,S.kind,rfl,rfl,Nat.le_refl _,fun y z c h1 h2=>?_,fun y hy=>?_,fun y c _ h=>?_,fun _=>hd,Around.frames_deeper e0.frames,.inr ⟨rfl,rfl⟩,fun b z=>absurd z (noA b),e0.bs,e0.bsz,fun b _ _=>noA b,fun b z=>absurd z (noA b),e0.funs,e0.frf⟩,
    rfl,e0.bare,Un.kept hk,⟨_,x.toInCall.ns,fun i y v h1 h2 h3=>?_⟩,fun y c h=>⟨_,x.cell y c h⟩,e0.hok.fresh (Nat.le_refl _),fun y c h=>?_,fun p hp=>absurd (show p∈([]:List (Addr × Obj)) from hp) (by simp),e0.hok.kept hk,?_⟩
  · exact name_of_addr x.apart (PySem.mem_of_lookup h1) (PySem.mem_of_lookup h2)
  · have hy:scope.names.lookup y=some .cell∨scope.names.lookup y=some .free:=hy
    rcases hy with hy | hy
    · exact zie hy
    · exact absurd rfl (S.nofree _ (PySem.mem_of_lookup hy))
  · exact Nat.le_of_lt (x.above y c (PySem.mem_of_lookup h))
  · have hi:i < vs.length:=by
      unfold zdo at h2
      by_cases hi:i < vs.length
      · exact hi
      · rw[List.getElem?_append_right (by simpa using hi)]at h2
        rw[List.getElem?_replicate]at h2
        split at h2 <;> cases h2
    have ha:vs[i]?=some v:=by
      unfold zdo at h2
      rw[List.getElem?_append_left (by simpa using hi),List.getElem?_map]at h2
      cases e:vs[i]? with
      | none=>rw[e]at h2;cases h2
      | some a=>rw[e]at h2;cases h2;rfl
    obtain⟨u,hu,rv⟩:=r.get ha
    have hp:ps[i]?=some y:=by
      rw[←S.pre,List.getElem?_take_of_lt (by omega)];exact h1
    have ndP:ps.Nodup:=by rw[←S.pre];exact S.nd.sublist (List.take_sublist _ _)
    refine⟨u,rv,?_⟩
    rcases S.par y (List.mem_of_getElem? hp) with k | k
    · exact .inl ⟨k,zhh ndP hp hu k⟩
    · obtain⟨c,e⟩:=zie (n:=s.heap.objs.size+1) k
      refine .inr ⟨.inl k,c,e,?_⟩
      have q:=x.cell y c e
      rw[zhj ndP hp hu (by show scope.names.lookup y≠_;rw[k];decide)]at q
      exact q
  · exact e0.hok.fresh (Nat.le_of_lt (x.above y c (PySem.mem_of_lookup h)))
  · unfold zdo
    show _=N.length
    rw[List.length_append,List.length_map,List.length_replicate]
    omega
theorem fn_of {CX:CXT} {P:Program} {w:World} {K:PySem.W.Frag} {mg:Str→Option Value} {base:Heap} {k:Nat} {f:Addr} {name qual:Str} {params:Arguments} {body:List Stmt} {scope:Scope} {dV kV doc pm cdv ct oc:Value} {an od:Option Addr}
    {osl:Array (Option Value)} {N ps:List Str} {sp:Sp} (lk:K.lookup f=some ⟨oc,od,.func (PySem.W.fnOf name qual params body scope dV kV doc pm an cdv ct),osl⟩) (hcd:PySem.W.codeIn K cdv qual=true) (S:zac N ps scope)
    (len:∀ vs H Q E,sp vs H Q E→vs.length=ps.length)
    (hbody:∀(A:Around) (outer:List Env) (s:Shared) (H:Hp) (vs:List V) (Q:VK) (E:XK),aH k (A.deeper (envOfC qual scope s.heap.objs.size f cdv))→sp vs H Q E →
      ∃ t,PSs (zbg CX P w K mg base N qual scope f cdv A outer s H E) body t∧t { nx:=fun _ H'=>Q .non H',rt:=Q } (zdo N vs) H) :
    FnOk P w K mg base CX (k+1) f (PySem.W.fnOf name qual params body scope dV kV doc pm an cdv ct) ps sp:=by
  refine⟨len,fun A outer s H args us vs Q E hr e0 hb r hsp=>?_⟩
  have hl:=len _ _ _ _ hsp
  have KX:K.In s.heap:=e0.mod.kin.keeps fun b o e=>(e0.bs b o e).1
  have lim:s.heap.NoLimit:=e0.mod.nolimit.keeps fun b o e=>(e0.bs b o e).1
  have hkind:∀ y∈ps.zip us,scope.names.lookup y.1=some .local∨(scope.names.lookup y.1=some .cell∧((cellsFrom (s.heap.objs.size+1) scope.names []).lookup y.1).isSome=true):=fun⟨n,v⟩ hy=>by
    rcases S.par n (List.of_mem_zip hy).1 with q | q
    · exact .inl q
    · exact .inr ⟨q,PySem.W.cellsFrom_some _ _ _ (.inl q)⟩
  refine codeAny_call_function hr.depth (KX _ _ lk) rfl S.co S.gen rfl (PySem.W.codeRec_of KX hcd) (hb _ _ _ _ ?_)
  refine wpAny_newFunctionEnv_cells S.kind hkind fun env he s1 x=>?_
  subst he
  refine⟨lim.keeps x.toInCall.keep,codeAny_func ?_⟩
  obtain⟨t,ht,hq⟩:=hbody A outer s H vs Q E (hr.deeper _) hsp
  have I:Inv (zbg CX P w K mg base N qual scope f cdv A outer s H E) [] (zdo N vs) H s1:=zkp S hr.hd e0 hl r x
  refine wpAny_mono (ht [] s1 (zdo N vs) H _ I hq) (fun fl s' hs=>?_) fun e s' hs=>hs
  have fin:∀ {σ':St} {H':Hp} {v:V} {u:Value},Inv (zbg CX P w K mg base N qual scope f cdv A outer s H E) [] σ' H' s'→aR v u→Q v H'→CE outer P w H s Q u s' :=
    fun {σ' H' v u} J rv q=>⟨v,H',J.os,J.bare,J.base,J.hok,rv,q⟩
  cases fl with
  | ret u =>
    obtain⟨v,σ',H',J,rv,q⟩:=hs
    exact fin J rv q
  | next =>
    obtain⟨σ',H',J,q⟩:=hs
    exact fin (v:=V.non) (u:=Value.none) J rfl q
  | brk =>
    obtain⟨_,_,_,q⟩:=hs
    exact False.elim q
  | cont =>
    obtain⟨_,_,_,q⟩:=hs
    exact False.elim q
end L2
namespace L2
open PySem PySem.Spec PyProof.Rows
section
variable {X:Cx} {x:Str} {p pos:Pos} {e:Expr} {es:List Expr} {t:TA} {id T:String} {r:List V→Hp→VK→Prop}
def tCB (r:List V→Hp→VK→Prop) (t:TA):TE:=fun σ H Q=>t σ H fun vs H1=>r vs H1 Q
theorem zam (hc:zbW X (.builtin id) r) (hg:Gl X x) (hm:X.mg x=none) (hv:bootBuiltins x=some (.builtin id)) (ha:PA X (e :: es) t) (hn:x≠"__name__":=by decide) (hdb:(x == ("__debug__":Str))=false:=by decide)
    (he:starEach (e :: es) X.env=(false,eval e X.env) :: starEach es X.env:=by rfl) (hpl:(backTo pos (starEach es X.env)).any (·.1)=false:=by rfl):PE X (.Call (.Name x p) (e :: es) [] pos) (tCB r t):=by
  intro pins s σ H Q I h
  refine wpAny_Call_Name_kw (ze3 I hg hm hv ?_ hn hdb)
  exact PyProof.Rows.callWith_builtin1 (thn (ha pos pins s σ H _ I h) fun us s1 ⟨vs,H1,I1,r1,q1⟩=>hc pins s1 σ H1 vs us Q I1 r1 q1) he hpl
theorem za7 (hc:zbW X (.type T) r) (hg:Gl X x) (hm:X.mg x=none) (hv:bootBuiltins x=some (.type T)) (ha:PA X (e :: es) t) (hn:x≠"__name__":=by decide) (hdb:(x == ("__debug__":Str))=false:=by decide)
    (he:starEach (e :: es) X.env=(false,eval e X.env) :: starEach es X.env:=by rfl) (hpl:(backTo pos (starEach es X.env)).any (·.1)=false:=by rfl):PE X (.Call (.Name x p) (e :: es) [] pos) (tCB r t):=by
  intro pins s σ H Q I h
  refine wpAny_Call_Name_kw (ze3 I hg hm hv ?_ hn hdb)
  exact PyProof.Rows.callWith_type1 (thn (ha pos pins s σ H _ I h) fun us s1 ⟨vs,H1,I1,r1,q1⟩=>hc pins s1 σ H1 vs us Q I1 r1 q1) he hpl
end
end L2
namespace HT
open PySem PyProof.Rows
section
open PySem.SeqAt
open PySem.AutoSeq1 (wpAny_loadPart')
open PySem.MeetsSeq PySem.MeetsSeq2 PySem.MeetsSeq3
end
section
variable {prog:Program} {w:World} {A:Around} {E:Value→Shared→Prop} {s:Shared}
def sIx (n d:Nat):Option Int→Nat
  | none=>d
  | some v=>if v < 0 then(v+(n:Int)).toNat else min v.toNat n
theorem sIx_none (n d:Nat):sIx n d none=d:=rfl
theorem sIx_nat (n d k:Nat):sIx n d (some (k:Int))=min k n:=by
  show(if(k:Int) < 0 then((k:Int)+(n:Int)).toNat else min (k:Int).toNat n)=min k n
  rw[if_neg (by omega),Int.toNat_natCast]
theorem sIx_le (n d:Nat) (hd:d≤n) (o:Option Int):sIx n d o≤n:=by
  cases o with
  | none=>exact hd
  | some v =>
    show(if v < 0 then(v+(n:Int)).toNat else min v.toNat n)≤n
    by_cases hv:v < 0
    · rw[if_pos hv];omega
    · rw[if_neg hv];exact Nat.min_le_right _ _
theorem ziY (v:Int) (n d:Nat):(if v < 0 then max (v+(n:Int)) 0 else min v (n:Int))=((sIx n d (some v):Nat):Int):=by
  show(if v < 0 then max (v+(n:Int)) 0 else min v (n:Int))=(((if v < 0 then(v+(n:Int)).toNat else min v.toNat n):Nat):Int)
  by_cases hv:v < 0
  · simp only[if_pos hv];omega
  · simp only[if_neg hv];omega
theorem zjx (lo hi:Option Int) (n:Nat):Builtin.Slice.sliceAdjust lo hi 1 (n:Int)=(((sIx n 0 lo:Nat):Int),((sIx n n hi:Nat):Int)):=by
  have h1:¬((1:Int) < 0):=by omega
  unfold Builtin.Slice.sliceAdjust
  simp only[h1,if_false]
  refine Prod.ext ?_ ?_
  · cases lo with
    | none=>rfl
    | some v=>exact ziY v n 0
  · cases hi with
    | none=>rfl
    | some v=>exact ziY v n n
theorem zjg (i j:Nat):Builtin.Slice.slicePlaces (i:Int) (j:Int) 1=j - i:=by
  unfold Builtin.Slice.slicePlaces
  have h1:(1:Int) > 0:=by omega
  simp only[h1,if_true,Int.ediv_one]
  split <;> omega
theorem zgk {v:Value} {o:Option Int} {Q:Option Int→Shared→Prop} (p:IsPart v o) (h:Q o s):wpAny (model prog w) A (Builtin.Slice.slicePartIndex v) Q E s:=by
  cases p with
  | none=>exact slicePart_none h
  | int i t=>exact slicePart_int h
theorem zf0 {sl:Addr} {vl vu:Value} {lo hi:Option Int} {n:Nat} {Q:Int × Int × Nat→Shared→Prop} (hs:s.heap.IsSliceOf sl vl vu .none) (pl:IsPart vl lo) (pu:IsPart vu hi)
    (h:Q (((sIx n 0 lo:Nat):Int),1,sIx n n hi - sIx n 0 lo) s):wpAny (model prog w) A (Builtin.Slice.sliceApplied (.ref sl) (pure (n:Int))) Q E s:=by
  obtain⟨os,hos,hcs,hds⟩:=id hs
  unfold Builtin.Slice.sliceApplied Builtin.Slice.sliceFields
  refine wpAny_bind (wpAny_bind (wpAny_field hos hds (x:=vl) rfl (wpAny_bind (wpAny_field hos hds (x:=vu) rfl (wpAny_bind (wpAny_field hos hds (x:=.none) rfl (wpAny_pure ?_)))))))
  refine wpAny_bind (slicePart_none ?_)
  show wpAny _ _ (if((1:Int) == 0)=true then _ else _) _ _ s
  rw[if_neg (by decide)]
  refine wpAny_bind (zgk pl (wpAny_bind (zgk pu (wpAny_bind (wpAny_pure ?_)))))
  show wpAny _ _ (match Builtin.Slice.sliceAdjust lo hi 1 (n:Int) with | (lo,hi)=>pure (lo,(1:Int),Builtin.Slice.slicePlaces lo hi 1)) _ _ s
  rw[zjx lo hi n]
  show wpAny _ _ (pure (((sIx n 0 lo:Nat):Int),(1:Int),Builtin.Slice.slicePlaces ((sIx n 0 lo:Nat):Int) ((sIx n n hi:Nat):Int) 1)) _ _ s
  rw[zjg]
  exact wpAny_pure h
theorem zkG (xs:Array Value) (i k:Nat):((List.range k).filterMap fun(m:Nat)=>xs[((i:Int)+(m:Int) * 1).toNat]?).toArray=((xs.toList.drop i).take k).toArray:=by
  have e:(fun(m:Nat)=>xs[((i:Int)+(m:Int) * 1).toNat]?)=fun m=>xs[i+m]?:=by
    funext m
    have:((i:Int)+(m:Int) * 1).toNat=i+m:=by omega
    rw[this]
  rw[e]
  have:=pick_run xs i k
  rw[List.filterMap_map]at this
  have e2:((fun x=>xs[x]?) ∘ fun x=>i+x)=fun m=>xs[i+m]?:=rfl
  rw[e2]at this
  rw[this]
theorem getItem_tuple_cut {t sl:Addr} {items:Array Value} {vl vu:Value} {lo hi:Option Int} {Q:Value→Shared→Prop} (ht:IsTup s.heap t items) (hs:s.heap.IsSliceOf sl vl vu .none) (pl:IsPart vl lo) (pu:IsPart vu hi)
    (hw:¬(sIx items.size 0 lo=0∧sIx items.size items.size hi=items.size))
    (h:Q (.ref s.heap.objs.size) { s with heap:=s.heap.push { cls:=.type "tuple",data:=.seq ((items.toList.drop (sIx items.size 0 lo)).take (sIx items.size items.size hi - sIx items.size 0 lo)).toArray } })
    (hsz:items.size≤sizeLine):wpAny (model prog w) A (getItem (.ref t) (.ref sl)) Q E s:=by
  have htake:sizeOk (.seq ((items.toList.drop (sIx items.size 0 lo)).take (sIx items.size items.size hi - sIx items.size 0 lo)).toArray):=by
    show((items.toList.drop (sIx items.size 0 lo)).take (sIx items.size items.size hi - sIx items.size 0 lo)).toArray.size≤sizeLine
    rw[List.size_toArray,List.length_take,List.length_drop,Array.length_toList]
    omega
  have hj:sIx items.size items.size hi≤items.size:=sIx_le _ _ (Nat.le_refl _) hi
  obtain⟨os,hos,hcs,hds⟩:=id hs
  have hTs:s.TypeIs (.ref sl) "slice":=⟨os,hos,hcs⟩
  unfold getItem
  try with_reducible refine wpAny_holding ?_
  first | refine wpAny_bind (wpAny_pure ?_) | skip
  refine wpAny_bind (wpAny_sequenceKey ht.typeIs (by decide) ?_)
  refine wpAny_bind (wpAny_callSpecial?_slot (name:=Str.ofString "__getitem__") ht.typeIs PyProof.Rows.slot_tuple_getitem
    (wpAny_call_entry PyProof.Rows.slot_tuple_getitem ht.typeIs entry_tuple_getitem ?_ (args_tuple_getitem _ _)))
  show wpAny _ _ (Builtin.Tuple.tupleItemsOf (.ref t) >>= _) _ _ s
  refine wpAny_bind (tupleItemsOf_ ht ?_)
  refine wpAny_bind (wpAny_typeOf hTs ?_)
  rw[if_pos (by decide)]
  refine wpAny_bind (zf0 hs pl pu ?_)
  have hno:¬((((sIx items.size 0 lo:Nat):Int) == 0&&(1:Int) == 1&&(sIx items.size items.size hi - sIx items.size 0 lo) == items.size)=true):=by
    intro q
    rw[Bool.and_eq_true,Bool.and_eq_true]at q
    have q1:((sIx items.size 0 lo:Nat):Int)=0:=eq_of_beq q.1.1
    have q2:sIx items.size items.size hi - sIx items.size 0 lo=items.size:=eq_of_beq q.2
    exact hw ⟨by omega,by omega⟩
  show wpAny _ _ (if(((sIx items.size 0 lo:Nat):Int) == 0&&(1:Int) == 1&&(sIx items.size items.size hi - sIx items.size 0 lo) == items.size)=true then _ else _) _ _ s
  rw[if_neg hno,zkG]
  first
    | exact wpAny_bind (m:=Builtin.Tuple.tupleExact _) (wpAny_newObj_type (wpAny_pure ⟨_,rfl,wpAny_pure h⟩) htake)
    | exact wpAny_bind (m:=Builtin.Tuple.tupleExact _) (wpAny_newObj_type (wpAny_bind (wpAny_pure (wpAny_pure ⟨_,rfl,wpAny_pure h⟩))) htake)
    | exact wpAny_bind (wpAny_bind (m:=Builtin.Tuple.tupleExact _) (wpAny_newObj_type (wpAny_pure (wpAny_pure ⟨_,rfl,wpAny_pure h⟩)) htake))
    | exact wpAny_bind (wpAny_bind (m:=Builtin.Tuple.tupleExact _) (wpAny_newObj_type (wpAny_pure ⟨_,rfl,wpAny_pure h⟩) htake))
end
end HT
namespace L2
open PySem PySem.Spec PyProof.Rows
abbrev TO:=St→Hp→(Option Int→Hp→Prop)→Prop
def PO (X:Cx) (e:Option Expr) (t:TO):Prop :=
  ∀(pins:List (Addr × Obj)) (s:Shared) (σ:St) (H:Hp) (Q:Option Int→Hp→Prop),Inv X pins σ H s→t σ H Q →
    wpAny (model X.prog X.w) X.A (evalPart e X.env) (fun u s'=>∃ o H',Inv X pins σ H' s'∧IsPart u o∧Q o H') X.xe s
def zla:TO:=fun _ H Q=>Q none H
def tPart (t:TE):TO:=fun σ H Q=>t σ H fun x H1=>∃ i,x=.int i∧Q (some i) H1
section
variable {X:Cx} {e:Expr} {te:TE} {lo hi:Option Expr} {tl th:TO} {pos p2:Pos}
theorem zbr:PO X none zla:=by
  intro pins s σ H Q I h
  rw[evalPart_none]
  exact wpAny_pure ⟨none,H,I,.none,h⟩
theorem zbq (h:PE X e te):PO X (some e) (tPart te):=by
  intro pins s σ H Q I hw
  rw[evalPart_some]
  refine thn (h pins s σ H _ I hw) fun u s1 ⟨x,H1,I1,r1,q1⟩=>?_
  obtain⟨i,rfl,q⟩:=q1
  obtain⟨t,rfl⟩:=r1
  exact⟨some i,H1,I1,.int i t,q⟩
def SlR (X:Cx) (r:V→Option Int→Option Int→Hp→VK→Prop):Prop :=
  ∀(pins:List (Addr × Obj)) (s:Shared) (σ:St) (H:Hp) (x:V) (v vl vu:Value) (lo hi:Option Int) (sl:Addr) (Q:VK),Inv X pins σ H s→aR x v→s.heap.IsSliceOf sl vl vu .none→IsPart vl lo→IsPart vu hi→r x lo hi H Q →
    ∃ T id,typeLookup (.type T) "__getitem__"=pure (some (.builtin id))∧s.TypeIs v T∧wpAny (model X.prog X.w) X.A (getItem v (.ref sl)) (EP X pins σ Q) X.xe s
theorem SlR.or {r r':V→Option Int→Option Int→Hp→VK→Prop} (h:SlR X r) (h':SlR X r'):SlR X (fun x lo hi H Q=>r x lo hi H Q∨r' x lo hi H Q):=by
  intro pins s σ H x v vl vu lo hi sl Q I rx hs pl pu q
  rcases q with q | q
  · exact h pins s σ H x v vl vu lo hi sl Q I rx hs pl pu q
  · exact h' pins s σ H x v vl vu lo hi sl Q I rx hs pl pu q
def tSl (r:V→Option Int→Option Int→Hp→VK→Prop) (te:TE) (tl th:TO):TE:=fun σ H Q=>te σ H fun x H1=>tl σ H1 fun l H2=>th σ H2 fun u H3=>r x l u H3 Q
theorem zba {r:V→Option Int→Option Int→Hp→VK→Prop} (hr:SlR X r) (he:PE X e te) (hl:PO X lo tl) (hu:PO X hi th):PE X (.Subscript e (.Slice lo hi none p2) pos) (tSl r te tl th):=by
  intro pins s σ H Q I h
  refine Subscript_ (thn (he pins s σ H _ I h) fun v s1 ⟨x,H1,I1,r1,q1⟩=>?_)
  refine wpAny_Slice (thn (hl pins s1 σ H1 _ I1 q1) fun vl s2 ⟨l,H2,I2,pl,q2⟩=>thn (hu pins s2 σ H2 _ I2 q2) fun vu s3 ⟨u,H3,I3,pu,q3⟩=>?_)
  rw[evalPart_none]
  refine wpAny_pure ?_
  have I4:Inv X pins σ H3 { s3 with heap:=s3.heap.push { cls:=.type "slice",data:=.fields #[vl,vu,.none] } }:=I3.kept (t':=s3.toks) fun b ob q=>Heap.get?_push_of_some _ q
  obtain⟨T,id,hT,ht,hg⟩:=hr pins { s3 with heap:=s3.heap.push { cls:=.type "slice",data:=.fields #[vl,vu,.none] } } σ H3 x v vl vu l u s3.heap.objs.size Q I4 r1 (Heap.IsSliceOf.new ..) pl pu q3
  show wpAny (model X.prog X.w) X.A (subscriptTail e (.Slice lo hi none p2) v (.ref s3.heap.objs.size)) (EP X pins σ Q) X.xe { s3 with heap:=s3.heap.push { cls:=.type "slice",data:=.fields #[vl,vu,.none] } }
  exact tail_any (ops:=[.ref s3.heap.objs.size,v]) ht hT hg (by with_unfolding_all rfl)
def zbx (xs:List V) (lo hi:Option Int):List V:=(xs.drop (HT.sIx xs.length 0 lo)).take (HT.sIx xs.length xs.length hi - HT.sIx xs.length 0 lo)
theorem zfz (xs:List V) (lo hi:Option Int):(zbx xs lo hi).length≤xs.length:=by
  unfold zbx
  rw[List.length_take,List.length_drop]
  omega
def rSlT (K:PySem.W.Frag):V→Option Int→Option Int→Hp→VK→Prop:=fun x lo hi H Q=>∃ a xs,x=.ref a∧SqT K H a xs ∧
  ¬(HT.sIx xs.length 0 lo=0∧HT.sIx xs.length xs.length hi=xs.length)∧∀ p,H p=none→Q (.ref p) (upd H p (.tup (zbx xs lo hi)))
theorem zht:SlR X (rSlT X.K):=by
  intro pins s σ H x v vl vu lo hi sl Q I rx hs pl pu h
  obtain⟨a,xs,rfl,hx,hw,q⟩:=h
  cases rx
  obtain⟨its,r,ht,hz⟩:=I.tuple hx
  have hlen:its.toArray.size=xs.length:=by rw[List.size_toArray];exact r.length.symm
  refine⟨"tuple",_,PyProof.Rows.slot_tuple_getitem.lookup,ht.typeIs,?_⟩
  refine HT.getItem_tuple_cut ht hs pl pu (by rw[hlen];exact hw) ?_ (by rw[hlen];exact hz)
  rw[hlen]
  refine⟨.ref s.heap.objs.size,_,I.laid (t':=s.toks) (o:=.tup (zbx xs lo hi)) (fun b ob q=>Heap.get?_push_of_some _ q) (Nat.le_refl _) ?_,rfl,q _ (I.hok.fresh (Nat.le_refl _))⟩
  exact⟨Nat.le_trans (zfz xs lo hi) hz,_,(r.drop (HT.sIx xs.length 0 lo)).take (HT.sIx xs.length xs.length hi - HT.sIx xs.length 0 lo),IsTup.new _ _⟩
end
end L2
namespace L2
open PySem PySem.Spec PyProof.Rows
def ixN (n:Nat) (i:Int):Option Nat:=if 0≤i then(if i < n then some i.toNat else none) else if -(n:Int)≤i then some (i+n).toNat else none
def atI {α:Type} (xs:List α) (i:Int):Option α:=(ixN xs.length i).bind fun j=>xs[j]?
theorem zlE {n:Nat} {i:Int} {j:Nat} (h:ixN n i=some j):seqIndex? i n=some j∧j < n∧-(n:Int)≤i∧i < n:=by
  unfold ixN at h
  by_cases h0:0≤i
  · rw[if_pos h0]at h
    by_cases h1:i < n
    · rw[if_pos h1]at h
      have e:i.toNat=j:=Option.some.inj h
      exact⟨by rw[seqIndex_of h0 h1,e],by omega,by omega,h1⟩
    · rw[if_neg h1]at h;cases h
  · rw[if_neg h0]at h
    by_cases h1:-(n:Int)≤i
    · rw[if_pos h1]at h
      have e:(i+n).toNat=j:=Option.some.inj h
      exact⟨by rw[seqIndex_neg (by omega) h1,e],by omega,h1,by omega⟩
    · rw[if_neg h1]at h;cases h
theorem zev {α:Type} {xs:List α} {i:Int} {v:α} (h:atI xs i=some v):∃ j,seqIndex? i xs.length=some j∧xs[j]?=some v∧j < xs.length∧-(xs.length:Int)≤i∧i < xs.length:=by
  unfold atI at h
  cases e:ixN xs.length i with
  | none=>rw[e]at h;cases h
  | some j =>
    rw[e]at h
    obtain⟨h1,h2,h3,h4⟩:=zlE e
    exact⟨j,h1,h,h2,h3,h4⟩
theorem zah {α:Type} {xs:List α} {j:Nat} {v:α} (h:xs[j]?=some v):atI xs (j:Int)=some v:=by
  have hj:j < xs.length:=(List.getElem?_eq_some_iff.mp h).1
  have e:ixN xs.length (j:Int)=some j:=by
    unfold ixN
    rw[if_pos (by omega),if_pos (by omega)];simp
  unfold atI;rw[e];exact h
theorem zif {α:Type} (xs:List α) (v:α):atI (xs++[v]) (-1)=some v:=by
  have hl:(xs++[v]).length=xs.length+1:=by simp
  have e:ixN (xs++[v]).length (-1)=some xs.length:=by
    unfold ixN
    rw[hl,if_neg (by decide),if_pos (by omega)]
    congr 1
    omega
  unfold atI
  rw[e]
  show(xs++[v])[xs.length]?=some v
  simp
def zlR (b:Expr):Prop:=∀ o i,subscripted b false o i=operate [o,i] (getItem o i)
def IxR (X:Cx) (r:R2):Prop :=
  ∀(value slice:Expr) (pins:List (Addr × Obj)) (s:Shared) (σ:St) (H:Hp) (x y:V) (v u:Value) (Q:VK),Inv X pins σ H s→aR x v→aR y u→r x y H Q →
    subscripted slice false v u=operate [v,u] (getItem v u)→wpAny (model X.prog X.w) X.A (subscriptTail value slice v u) (EP X pins σ Q) X.xe s
def MtR (X:Cx) (id:String) (r:V→List V→Hp→VK→Prop):Prop :=
  ∀(pins:List (Addr × Obj)) (s:Shared) (σ:St) (H:Hp) (x:V) (xs:List V) (v:Value) (us:List Value) (Q:VK),Inv X pins σ H s→aR x v→aQ xs us→r x xs H Q →
    wpAny (model X.prog X.w) X.A (call (.builtin id) (v :: us)) (EP X pins σ Q) X.xe s
section
variable {X:Cx} {a b:Expr} {ta tb:TE} {pos:Pos}
theorem IxR.or {r r':R2} (h:IxR X r) (h':IxR X r'):IxR X (fun x y H Q=>r x y H Q∨r' x y H Q):=by
  intro value slice pins s σ H x y v u Q I rx ry q hs
  rcases q with q | q
  · exact h value slice pins s σ H x y v u Q I rx ry q hs
  · exact h' value slice pins s σ H x y v u Q I rx ry q hs
theorem MtR.or {id:String} {r r':V→List V→Hp→VK→Prop} (h:MtR X id r) (h':MtR X id r'):MtR X id (fun x xs H Q=>r x xs H Q∨r' x xs H Q):=by
  intro pins s σ H x xs v us Q I rx rs q
  rcases q with q | q
  · exact h pins s σ H x xs v us Q I rx rs q
  · exact h' pins s σ H x xs v us Q I rx rs q
theorem aA {r:R2} (hr:IxR X r) (ha:PE X a ta) (hb:PE X b tb) (hs:zlR b):PE X (.Subscript a b pos) (tOp r ta tb):=by
  intro pins s σ H Q I h
  exact Subscript_ (binT ha hb I h fun v u s2 x y H2 I2 rx ry q=>hr a b pins s2 σ H2 x y v u Q I2 rx ry q (hs _ _))
def rIxL (K:PySem.W.Frag):R2:=fun x y H Q=>∃ p xs i v,x=.ref p∧y=.int i∧SqL K H p xs∧atI xs i=some v∧Q v H
def rIxT (K:PySem.W.Frag):R2:=fun x y H Q=>∃ p xs i v,x=.ref p∧y=.int i∧SqT K H p xs∧atI xs i=some v∧Q v H
def rIxS:R2:=fun x y H Q=>∃ z i c,x=.str z∧y=.int i∧z.length≤sizeLine∧atI z.cps.toList i=some c∧Q (.str ⟨#[c]⟩) H
theorem zaT:IxR X (rIxL X.K):=by
  intro value slice pins s σ H x y v u Q I rx ry h hs
  obtain⟨p,xs,i,z,rfl,rfl,hq,he,q⟩:=h
  cases rx
  obtain⟨t,rfl⟩:=ry
  obtain⟨its,r,pl,hz⟩:=I.list hq
  obtain⟨j,h1,h2,h3,h4,h5⟩:=zev he
  obtain⟨w,ew,rw'⟩:=r.get h2
  have hl:=r.length
  have hn:=ze1
  have fin:EP X pins σ Q w s:=⟨z,H,I,rw',q⟩
  by_cases h0:0≤i
  · have hj:i.toNat=j:=by
      rw[seqIndex_of h0 h5]at h1
      exact Option.some.inj h1
    exact item_listR pl.isList h0 (by omega) (by rw[hj];simpa using ew) fin hs
  · have hj:(i+(its.toArray.size:Int)).toNat=j:=by
      rw[seqIndex_neg (by omega) h4]at h1
      rw[List.size_toArray,←hl]
      exact Option.some.inj h1
    exact subscriptTail_builtinR (x:=w) pl.isList.typeIs slot_list_getitem.lookup
      (wpAny_getItem_list_neg (Q:=fun r s'=>r=w∧EP X pins σ Q r s') pl.isList (by omega) (by rw[List.size_toArray] <;> omega) (by omega) (by rw[hj];simpa using ew) ⟨rfl,fin⟩) hs
theorem zaf:IxR X (rIxT X.K):=by
  intro value slice pins s σ H x y v u Q I rx ry h hs
  obtain⟨p,xs,i,z,rfl,rfl,hq,he,q⟩:=h
  cases rx
  obtain⟨t,rfl⟩:=ry
  obtain⟨its,r,pl,hz⟩:=I.tuple hq
  obtain⟨j,h1,h2,h3,h4,h5⟩:=zev he
  obtain⟨w,ew,rw'⟩:=r.get h2
  have hl:=r.length
  have hn:=ze1
  have fin:EP X pins σ Q w s:=⟨z,H,I,rw',q⟩
  exact subscriptTail_builtinR (x:=w) pl.typeIs slot_tuple_getitem.lookup
    (getItem_tuple (j:=j) (Q:=fun r s'=>r=w∧EP X pins σ Q r s') pl (by omega) (by omega) (by rw[List.size_toArray,←hl];exact h1) (by simpa using ew) ⟨rfl,fin⟩) hs
theorem ze4:IxR X rIxS:=by
  intro value slice pins s σ H x y v u Q I rx ry h hs
  obtain⟨z,i,c,rfl,rfl,hz,he,q⟩:=h
  obtain⟨t,rfl⟩:=rx
  obtain⟨t',rfl⟩:=ry
  obtain⟨j,h1,h2,h3,h4,h5⟩:=zev he
  have hl:z.cps.toList.length=z.length:=by simp [Str.length]
  rw[hl]at h1 h4 h5
  have hn:=ze1
  exact tail_any (typeIs_str s z t) slot_str_getitem.lookup (getItem_str (c:=c) (by
    have e1:decide (i < -(2 ^ 63:Int))=false:=decide_eq_false (by omega)
    have e2:decide (i≥2 ^ 63)=false:=decide_eq_false (by omega)
    rw[e1,e2,Bool.or_false]) (by rw[h1];simpa using h2) ⟨.str ⟨#[c]⟩,H,I.tok _,⟨_,rfl⟩,q⟩) hs
theorem zii (lo hi:Option Int) (n:Nat):(sliceBounds lo hi none n).1=((HT.sIx n 0 lo:Nat):Int)∧(sliceBounds lo hi none n).2.1=((HT.sIx n n hi:Nat):Int)∧(sliceBounds lo hi none n).2.2=1:=by
  refine⟨?_,?_,rfl⟩
  · cases lo with
    | none=>simp [sliceBounds,HT.sIx]
    | some i =>
      simp only[sliceBounds,HT.sIx,Option.getD_none,show(1:Int) > 0 by decide,if_true]
      by_cases h:i < 0
      · simp only[h,if_true] <;> omega
      · simp only[h,if_false] <;> omega
  · cases hi with
    | none=>simp [sliceBounds,HT.sIx]
    | some i =>
      simp only[sliceBounds,HT.sIx,Option.getD_none,show(1:Int) > 0 by decide,if_true]
      by_cases h:i < 0
      · simp only[h,if_true] <;> omega
      · simp only[h,if_false] <;> omega
theorem zhm (its:List Value) (lo hi:Option Int):slicePick its.toArray lo hi none=((its.drop (HT.sIx its.length 0 lo)).take (HT.sIx its.length its.length hi - HT.sIx its.length 0 lo)).toArray:=by
  obtain⟨h1,h2,h3⟩:=zii lo hi its.toArray.size
  unfold slicePick
  rw[h1,h2,h3]
  simp only[sliceRange_one,pick_run,List.size_toArray] <;> rfl
def rSlL (K:PySem.W.Frag):V→Option Int→Option Int→Hp→VK→Prop:=fun x lo hi H Q=>∃ a xs,x=.ref a∧SqL K H a xs∧∀ p,H p=none→Q (.ref p) (upd H p (.lst (zbx xs lo hi)))
theorem zco:SlR X (rSlL X.K):=by
  intro pins s σ H x v vl vu lo hi sl Q I rx hs pl pu h
  obtain⟨a,xs,rfl,hx,q⟩:=h
  cases rx
  obtain⟨its,r,ht,hz⟩:=I.list hx
  have hlen:=r.length
  refine⟨"list",_,slot_list_getitem.lookup,ht.isList.typeIs,?_⟩
  refine wpAny_getItem_list_slice ht.isList hs pl pu .none (by simp) ?_ (by rw[List.size_toArray] <;> omega)
  rw[zhm,←hlen]
  refine⟨.ref s.heap.objs.size,_,I.laid (t':=s.toks) (o:=.lst (zbx xs lo hi)) (fun b ob q=>Heap.get?_push_of_some _ q) (Nat.le_refl _) ?_,rfl,q _ (I.hok.fresh (Nat.le_refl _))⟩
  exact⟨Nat.le_trans (zfz xs lo hi) hz,_,0,(r.drop (HT.sIx xs.length 0 lo)).take (HT.sIx xs.length xs.length hi - HT.sIx xs.length 0 lo),Heap.get?_push_size _ rfl⟩
def zcz:V→Bool
  | .non=>true
  | .bl _=>true
  | .int _=>true
  | .str _=>true
  | _=>false
def eqV:V→V→Bool
  | .non,.non=>true
  | .bl a,.bl b=>a == b
  | .bl a,.int b=>(if a then 1 else 0) == b
  | .int a,.bl b=>a == (if b then 1 else 0)
  | .int a,.int b=>a == b
  | .str a,.str b=>a == b
  | _,_=>false
theorem ze6 {A:Around} {s:Shared} {y x:V} {u v:Value} (ry:aR y u) (rx:aR x v) (fy:zcz y=true) (fx:zcz x=true):SeqAt.EqAt A s u v (eqV y x):=by
  cases y with
  | non =>
    cases ry
    cases x with
    | non=>cases rx;exact SeqAt.EqAt.same _
    | bl b=>cases rx;exact SeqAt.EqAt.none_bool b
    | int b=>obtain⟨t,rfl⟩:=rx;exact SeqAt.EqAt.none_int b t
    | str b=>obtain⟨t,rfl⟩:=rx;exact SeqAt.EqAt.none_str b t
    | _=>exact absurd (show false=true from fx) Bool.false_ne_true
  | bl a =>
    cases ry
    cases x with
    | non=>cases rx;exact SeqAt.EqAt.bool_none a
    | bl b=>cases rx;exact SeqAt.EqAt.bool_bool a b
    | int b=>obtain⟨t,rfl⟩:=rx;exact SeqAt.EqAt.bool_int a b t
    | str b=>obtain⟨t,rfl⟩:=rx;exact SeqAt.EqAt.bool_str a b t
    | _=>exact absurd (show false=true from fx) Bool.false_ne_true
  | int a =>
    obtain⟨t',rfl⟩:=ry
    cases x with
    | non=>cases rx;exact SeqAt.EqAt.int_none a t'
    | bl b=>cases rx;exact SeqAt.EqAt.int_bool a t' b
    | int b=>obtain⟨t,rfl⟩:=rx;exact SeqAt.EqAt.int_int a t' b t
    | str b=>obtain⟨t,rfl⟩:=rx;exact SeqAt.EqAt.int_str a t' b t
    | _=>exact absurd (show false=true from fx) Bool.false_ne_true
  | str a =>
    obtain⟨t',rfl⟩:=ry
    cases x with
    | non=>cases rx;exact SeqAt.EqAt.str_none a t'
    | bl b=>cases rx;exact SeqAt.EqAt.str_bool a t' b
    | int b=>obtain⟨t,rfl⟩:=rx;exact SeqAt.EqAt.str_int a t' b t
    | str b=>obtain⟨t,rfl⟩:=rx;exact SeqAt.EqAt.str_str a t' b t
    | _=>exact absurd (show false=true from fx) Bool.false_ne_true
  | _=>exact absurd (show false=true from fy) Bool.false_ne_true
def eqU (x:V) (u:Value):Bool:=match u with
  | .none=>eqV .non x
  | .bool b=>eqV (.bl b) x
  | .int i _=>eqV (.int i) x
  | .str z _=>eqV (.str z) x
  | _=>false
theorem zjS {x y:V} {u:Value} (r:aR y u) (f:zcz y=true):eqU x u=eqV y x:=by
  cases y with
  | non=>cases r;rfl
  | bl b=>cases r;rfl
  | int i=>obtain⟨t,rfl⟩:=r;rfl
  | str z=>obtain⟨t,rfl⟩:=r;rfl
  | _=>exact absurd (show false=true from f) Bool.false_ne_true
theorem zew {x:V}:∀ {xs:List V} {us:List Value},aQ xs us→xs.all zcz=true→us.any (eqU x)=xs.any fun y=>eqV y x
  | _,_,.nil,_=>rfl
  | y :: xs,u :: us,.cons r t,f=>by
    rw[List.all_cons,Bool.and_eq_true]at f
    rw[List.any_cons,List.any_cons,zjS r f.1,zew t f.2]
theorem zdN {A:Around} {s:Shared} {x:V} {v:Value} (rx:aR x v) (fx:zcz x=true):∀ {xs:List V} {us:List Value},aQ xs us→xs.all zcz=true→∀ u∈us,SeqAt.EqAt A s u v (eqU x u)
  | _,_,.nil,_=>fun u hu=>by cases hu
  | y :: xs,u :: us,.cons r t,f=>fun u' hu=>by
    rw[List.all_cons,Bool.and_eq_true]at f
    rcases List.mem_cons.mp hu with rfl | hu
    · rw[zjS r f.1];exact ze6 r rx f.1 fx
    · exact zdN rx fx t f.2 u' hu
def inV (x:V) (xs:List V):Bool:=xs.any fun y=>eqV y x
def rIn (K:PySem.W.Frag) (neg:Bool):R2:=fun x y H Q=>∃ p xs,y=.ref p∧(SqL K H p xs∨SqT K H p xs)∧zcz x=true∧xs.all zcz=true∧Q (.bl (if neg then !inV x xs else inV x xs)) H
theorem zff:OpR X (compareOp .In) (rIn X.K false):=by
  intro pins s σ H x y v u Q I rx ry h
  obtain⟨p,xs,rfl,hq,fx,fs,q⟩:=h
  cases ry
  rcases hq with hq | hq
  · obtain⟨its,r,pl,hz⟩:=I.list hq
    refine SeqAt.in_listAt (eqU x) pl.isList (fun w hw=>zdN rx fx r fs w (by simpa using hw)) ⟨.bl _,H,I,rfl,?_⟩
    rw[show its.toArray.any (eqU x)=its.any (eqU x) by simp,zew r fs]
    exact q
  · obtain⟨its,r,pl,hz⟩:=I.tuple hq
    refine SeqAt.in_tupleAt (eqU x) pl (fun w hw=>zdN rx fx r fs w (by simpa using hw)) ⟨.bl _,H,I,rfl,?_⟩
    rw[show its.toArray.any (eqU x)=its.any (eqU x) by simp,zew r fs]
    exact q
theorem zil:OpR X (compareOp .NotIn) (rIn X.K true):=by
  intro pins s σ H x y v u Q I rx ry h
  obtain⟨p,xs,rfl,hq,fx,fs,q⟩:=h
  cases ry
  rcases hq with hq | hq
  · obtain⟨its,r,pl,hz⟩:=I.list hq
    refine SeqAt.notIn_listAt (eqU x) pl.isList (fun w hw=>zdN rx fx r fs w (by simpa using hw)) ⟨.bl _,H,I,rfl,?_⟩
    rw[show its.toArray.any (eqU x)=its.any (eqU x) by simp,zew r fs]
    exact q
  · obtain⟨its,r,pl,hz⟩:=I.tuple hq
    refine SeqAt.notIn_tupleAt (eqU x) pl (fun w hw=>zdN rx fx r fs w (by simpa using hw)) ⟨.bl _,H,I,rfl,?_⟩
    rw[show its.toArray.any (eqU x)=its.any (eqU x) by simp,zew r fs]
    exact q
theorem zai:zbW X (.builtin "len") (fun xs H Q=>∃ p ys,xs=[.ref p]∧(SqL X.K H p ys∨SqT X.K H p ys)∧Q (.int ys.length) H):=by
  intro pins s σ H xs us Q I r h
  obtain⟨p,ys,rfl,hq,q⟩:=h
  obtain⟨u,rfl,rx⟩:=zdX r
  cases rx
  have hn:=ze1
  rcases hq with hq | hq
  · obtain⟨its,r',pl,hz⟩:=I.list hq
    have hlen:=r'.length
    exact Calls.call_len_list pl.isList (by simp only[List.size_toArray] <;> omega) ⟨.int ys.length,H,I.tok _,⟨s.toks+1,by rw[List.size_toArray,hlen]⟩,q⟩
  · obtain⟨its,r',pl,hz⟩:=I.tuple hq
    have hlen:=r'.length
    exact len_tuple pl (by simp only[List.size_toArray] <;> omega) ⟨.int ys.length,H,I.tok _,⟨s.toks+1,by rw[List.size_toArray,hlen]⟩,q⟩
theorem zdW:zbW X (.builtin "len") (fun xs H Q=>∃ z,xs=[.str z]∧z.length≤sizeLine∧Q (.int z.length) H):=by
  intro pins s σ H xs us Q I r h
  obtain⟨z,rfl,hz,q⟩:=h
  obtain⟨u,rfl,t,rfl⟩:=zdX r
  have hn:=ze1
  exact len_str (by omega) ⟨.int z.length,H,I.tok _,⟨_,rfl⟩,q⟩
theorem zbW.or {f:Value} {r r':List V→Hp→VK→Prop} (h:zbW X f r) (h':zbW X f r'):zbW X f (fun xs H Q=>r xs H Q∨r' xs H Q):=by
  intro pins s σ H xs us Q I rs q
  rcases q with q | q
  · exact h pins s σ H xs us Q I rs q
  · exact h' pins s σ H xs us Q I rs q
theorem zcX:zbW X (.type "list") (fun xs H Q=>∃ p ys,xs=[.ref p]∧(SqL X.K H p ys∨SqT X.K H p ys)∧∀ l,H l=none→Q (.ref l) (upd H l (.lst ys))):=by
  intro pins s σ H xs us Q I r h
  obtain⟨p,ys,rfl,hq,q⟩:=h
  obtain⟨u,rfl,rx⟩:=zdX r
  cases rx
  have fin:∀(its:List Value),aQ ys its→ys.length≤sizeLine→∀(h':Heap) (c':Nat),(∀ b o',s.heap.get? b=some o'→h'.get? b=some o') →
      h'.get? s.heap.objs.size=some { cls:=.type "list",dict:=none,data:=.seq its.toArray c',slots:=#[] }→EP X pins σ Q (.ref s.heap.objs.size) { s with heap:=h' }:=fun its r' hz h' c' kp e =>
    ⟨.ref s.heap.objs.size,_,I.laid (t':=s.toks) kp (Nat.le_refl _) (show zaY X.prog X.w _ h' _ (.lst ys) from⟨hz,its,c',r',e⟩),rfl,q _ (I.hok.fresh (Nat.le_refl _))⟩
  rcases hq with hq | hq
  · obtain⟨its,r',pl,hz⟩:=I.list hq
    have hlen:=r'.length
    obtain⟨o,ho,hc,n,hd⟩:=pl.isList
    exact call_list_seq p (.inl rfl) ho hc hd (fun h' c' kp e=>fin its r' hz h' c' kp e) (by simp only[List.size_toArray] <;> omega)
  · obtain⟨its,r',pl,hz⟩:=I.tuple hq
    have hlen:=r'.length
    obtain⟨o,ho,hc,n,hd⟩:=pl
    exact call_list_seq p (.inr rfl) ho hc hd (fun h' c' kp e=>fin its r' hz h' c' kp e) (by simp only[List.size_toArray] <;> omega)
theorem zbK:zbW X (.type "tuple") (fun xs H Q=>∃ p ys,xs=[.ref p]∧((SqL X.K H p ys∧∀ l,H l=none→Q (.ref l) (upd H l (.tup ys)))∨(SqT X.K H p ys∧Q (.ref p) H))):=by
  intro pins s σ H xs us Q I r h
  obtain⟨p,ys,rfl,h⟩:=h
  obtain⟨u,rfl,rx⟩:=zdX r
  cases rx
  rcases h with ⟨hq,q⟩ | ⟨hq,q⟩
  · obtain⟨its,r',pl,hz⟩:=I.list hq
    have hlen:=r'.length
    refine call_tuple_list pl.isList (fun h' kp=>?_) (by simp only[List.size_toArray] <;> omega)
    have I1:Inv X pins σ H { s with heap:=h' }:=I.kept (t':=s.toks) kp
    have I2:Inv X pins σ (upd H h'.objs.size (.tup ys)) { s with heap:=h'.push { cls:=.type "tuple",data:=.seq its.toArray } } :=
      I1.laid (t':=s.toks) (fun b o e=>Heap.get?_push_of_some _ e) (Nat.le_refl _) (show zaY X.prog X.w _ _ _ (.tup ys) from⟨hz,its,r',IsTup.new _ _⟩)
    exact⟨.ref h'.objs.size,_,I2,rfl,q _ (I1.hok.fresh (Nat.le_refl _))⟩
  · obtain⟨its,r',pl,hz⟩:=I.tuple hq
    exact call_tuple_same pl ⟨.ref p,H,I,rfl,q⟩
def tyV (K:PySem.W.Frag) (T:String) (x:V) (H:Hp):Prop:=match x with
  | .str _=>T="str"
  | .int _=>T="int"
  | .ref p=>(T="list"∧∃ xs,SqL K H p xs)∨(T="tuple"∧∃ o,K.lookup p=some o∧o.cls=.type "tuple"∧o.dict=none) ∨
      (T="dict"∧((∃ kvs,H p=some (.dK kvs))∨∃ kvs,H p=some (.dT kvs)))∨(T="set"∧∃ S n,H p=some (.set S n))
  | _=>False
theorem tyV_is {pins:List (Addr × Obj)} {σ:St} {H:Hp} {s:Shared} {T:String} {x:V} {v:Value} (I:Inv X pins σ H s) (r:aR x v) (ty:tyV X.K T x H) :
    s.TypeIs v T∧∀ a,v=.ref a→∃ ob,s.heap.get? a=some ob∧ob.dict=none:=by
  cases x with
  | str z =>
    obtain⟨t,rfl⟩:=r
    cases (show T="str" from ty)
    exact⟨typeIs_str s z t,fun _ e=>nomatch e⟩
  | int i =>
    obtain⟨t,rfl⟩:=r
    cases (show T="int" from ty)
    exact⟨typeIs_int s i t,fun _ e=>nomatch e⟩
  | ref p =>
    cases r
    rcases ty with ⟨rfl,xs,hq⟩ | ⟨rfl,o,hk,hc,hd⟩ | ⟨rfl,hk⟩ | ⟨rfl,S,n,hk⟩
    · obtain⟨its,_,pl,_⟩:=I.list hq
      refine⟨pl.isList.typeIs,fun a e=>?_⟩
      cases e
      obtain⟨o,n,e,c,hd,_⟩:=pl
      exact⟨o,e,hd⟩
    · refine⟨⟨o,I.kIn p o hk,hc⟩,fun a e=>?_⟩
      cases e
      exact⟨o,I.kIn _ o hk,hd⟩
    · have z:∃ o,s.heap.get? p=some o∧o.ExactDict:=by
        rcases hk with ⟨kvs,hk⟩ | ⟨kvs,hk⟩
        · obtain⟨_,_,_,_,o,_,_,e,ex,_⟩:=I.hok p _ hk
          exact⟨o,e,ex⟩
        · obtain⟨_,_,_,_,o,_,_,e,ex,_⟩:=I.hok p _ hk
          exact⟨o,e,ex⟩
      obtain⟨o,e,ex⟩:=z
      refine⟨⟨o,e,ex.1⟩,fun a e2=>?_⟩
      cases e2
      exact⟨o,e,ex.2.1⟩
    · obtain⟨o,_,_,_,e,ex,_⟩:=I.hok p _ hk
      refine⟨⟨o,e,ex.1⟩,fun a e2=>?_⟩
      cases e2
      exact⟨o,e,ex.2.1⟩
  | _=>exact False.elim ty
def tBM (K:PySem.W.Frag) (T:String) (r:V→List V→Hp→VK→Prop) (to:TE) (t:TA):TE:=fun σ H Q=>to σ H fun x H1=>tyV K T x H1∧t σ H1 fun xs H2=>r x xs H2 Q
variable {o e:Expr} {es:List Expr} {to:TE} {t:TA} {name:Str} {apos cpos:Pos} {T id:String} {r:V→List V→Hp→VK→Prop}
theorem zbH (pa:PlainAttrs T) (slot:Slot T name id) (hty:typeOf (.builtin id)=pure (.type "method_descriptor")) (hm:MtR X id r) (ho:PE X o to) (ha:PA X (e :: es) t)
    (hbase:attributeBase o name X.env (eval o X.env)=eval o X.env:=by rfl)
    (hfew:((backTo cpos (starEach (e :: es) X.env)).all (fun x=>!x.1)&&(backToKw cpos (keywordEach [] X.env)).all (fun x=>x.1.isSome)
      && decide ((e :: es).length+([]:List Keyword).length+(if([]:List Keyword).isEmpty then 0 else 1) < 30))=true:=by rfl)
    (hline:(apos.endLine == cpos.line)=true:=by rfl) (hs:starEach (e :: es) X.env=(false,eval e X.env) :: starEach es X.env:=by rfl) (hplain:(backTo cpos (starEach es X.env)).any (·.1)=false:=by rfl) :
    PE X (.Call (.Attribute o name apos) (e :: es) [] cpos) (tBM X.K T r to t):=by
  intro pins s σ H Q I h
  refine wpAny_Call_method_late hbase hfew hline rfl (thn (ho pins s σ H _ I h) fun v s1 ⟨x,H1,I1,r1,ty,q1⟩=>?_)
  obtain⟨h1,h2⟩:=tyV_is I1 r1 ty
  refine⟨T,id,pa,slot,hty,h1,h2,?_⟩
  have hA:=ha cpos pins s1 σ H1 _ I1 q1
  rw[hs]at hA ⊢
  refine Calls.callWith_builtin (by show(false||(backTo cpos (starEach es X.env)).any (·.1))=false;rw[hplain] <;> rfl) (Calls.evalArgs_plain ?_)
  exact thn hA fun us s2 ⟨vs,H2,I2,r2,q2⟩=>hm pins s2 σ H2 x vs v us Q I2 r1 r2 q2
end
end L2
namespace L2
open PySem PySem.Spec PyProof.Rows
def MtM (X:Cx) (id:String) (r:V→List V→Hp→VK→Prop):Prop :=
  ∀(pins:List (Addr × Obj)) (s:Shared) (σ:St) (H:Hp) (x:V) (xs:List V) (v:Value) (us:List Value) (Q:VK),Inv X pins σ H s→aR x v→aQ xs us→r x xs H Q →
    wpAny (model X.prog X.w) X.A (call (.builtin id) (v :: us)) (EP X pins σ Q) X.xe s
theorem aQ.one:∀ {x:V} {us:List Value},aQ [x] us→∃ u,us=[u]∧aR x u
  | _,_,.cons r .nil=>⟨_,rfl,r⟩
theorem aQ.two:∀ {x y:V} {us:List Value},aQ [x,y] us→∃ u v,us=[u,v]∧aR x u∧aR y v
  | _,_,_,.cons r (.cons q .nil)=>⟨_,_,rfl,r,q⟩
theorem aQ.rep {xs:List V} {us:List Value} (h:aQ xs us):∀ k:Nat,aQ (List.replicate k xs).flatten (List.replicate k us).flatten
  | 0=>.nil
  | k+1=>by
    rw[List.replicate_succ,List.replicate_succ,List.flatten_cons,List.flatten_cons]
    exact aQ.append h (aQ.rep h k)
theorem zhe (its:List Value):∀(k:Nat) (acc:List Value),
    List.foldl (fun x1 x2=>x1++x2) acc.toArray (List.replicate k its.toArray)=(acc++(List.replicate k its).flatten).toArray
  | 0,acc=>by simp
  | k+1,acc=>by
    have e:acc.toArray++its.toArray=(acc++its).toArray:=by simp
    have e2:(acc++its)++(List.replicate k its).flatten=acc++(List.replicate (k+1) its).flatten:=by
      rw[List.replicate_succ,List.flatten_cons,List.append_assoc]
    rw[←e2,←zhe its k (acc++its),←e,List.replicate_succ,List.foldl_cons]
section
variable {X:Cx} {pins:List (Addr × Obj)} {σ:St} {H:Hp} {s:Shared} {l b:Addr} {xs ys zs:List V}
theorem Inv.lset {its its':List Value} {n:Nat} {f:Array Value→Array Value} {t':Nat} (I:Inv X pins σ H s) (hH:H l=some (.lst xs))
    (e:s.heap.get? l=some { cls:=.type "list",data:=.seq its.toArray n }) (hf:f its.toArray=its'.toArray) (hv:aQ ys its') (hz:ys.length≤sizeLine) :
    Inv X pins σ (upd H l (.lst ys)) { s with heap:=s.heap.update l (Obj.mapSeq f),toks:=t' }:=by
  have q:=PySem.IsL.update e f
  rw[hf]at q
  refine I.write (x:=l) (e:=l) (by rw[hH];exact trivial) (.inl rfl) (fun b' u hb hu=>(Heap.get?_update_other s.heap (Obj.mapSeq f) (Ne.symm hb)).trans hu) ⟨_,q⟩ ?_
  exact⟨hz,its',_,hv,q⟩
theorem Inv.lnew {its:List Value} {t':Nat} (I:Inv X pins σ H s) (hv:aQ ys its) (hz:ys.length≤sizeLine) :
    Inv X pins σ (upd H s.heap.objs.size (.lst ys)) { s with heap:=s.heap.push { cls:=.type "list",data:=.seq its.toArray },toks:=t' } :=
  I.laid (fun _ _ q=>Heap.get?_push_of_some _ q) (Nat.le_refl _) ⟨hz,its,0,hv,Heap.get?_push_size _ rfl⟩
theorem Inv.fresh (I:Inv X pins σ H s):H s.heap.objs.size=none:=I.hok.fresh (Nat.le_refl _)
theorem Inv.lstM (I:Inv X pins σ H s) (hH:H l=some (.lst xs)):xs.length≤sizeLine∧∃(its:List Value) (n:Nat),aQ xs its∧xs.length=its.length∧s.heap.get? l=some { cls:=.type "list",data:=.seq its.toArray n }:=by
  obtain⟨z,its,n,r,e⟩:=I.hok l _ hH
  exact⟨z,its,n,r,r.length,e⟩
theorem zh1 {n:Nat} (h:n≤sizeLine):Builtin.List.listTooLong n=false:=by
  unfold Builtin.List.listTooLong
  exact decide_eq_false (by omega)
end
section
variable {X:Cx}
def zlh:V→List V→Hp→VK→Prop:=fun x vs H Q=>∃ l xs y,x=.ref l∧vs=[y]∧H l=some (.lst xs)∧xs.length < sizeLine∧Q .non (upd H l (.lst (xs++[y])))
theorem zaZ:MtM X "list.append" zlh:=by
  intro pins s σ H x vs v us Q I rx rv h
  obtain⟨l,xs,y,rfl,rfl,hH,hz,q⟩:=h
  cases rx
  obtain⟨u,rfl,ru⟩:=rv.one
  obtain⟨z,its,n,r,hl,e⟩:=I.lstM hH
  refine call_meets F.slot_list_append ⟨_,e,rfl⟩ F.entry_list_append (F.args_list_append_2 _ _) (PySem.list_append l its.toArray n u (by rw[List.size_toArray];omega)) ⟨e,?_⟩
  refine⟨.non,_,I.lset (its':=its++[u]) hH e (by simp) (r.append (.cons ru .nil)) ?_,rfl,q⟩
  rw[List.length_append,List.length_singleton]
  omega
def zlg:V→List V→Hp→VK→Prop:=fun x vs H Q=>∃ l b xs zs,x=.ref l∧vs=[.ref b]∧H l=some (.lst xs)∧H b=some (.lst zs)∧xs.length+zs.length≤sizeLine∧Q .non (upd H l (.lst (xs++zs)))
theorem zkl:MtM X "list.extend" zlg:=by
  intro pins s σ H x vs v us Q I rx rv h
  obtain⟨l,b,xs,zs,rfl,rfl,hH,hB,hz,q⟩:=h
  cases rx
  obtain⟨u,rfl,ru⟩:=rv.one
  cases ru
  obtain⟨z,its,n,r,hl,e⟩:=I.lstM hH
  obtain⟨z2,its2,n2,r2,hl2,e2⟩:=I.lstM hB
  have hsz:its.toArray.size+its2.toArray.size≤sizeLine:=by rw[List.size_toArray,List.size_toArray];omega
  have hlong:¬(!its.toArray.isEmpty&&Builtin.List.listTooLong (its.toArray.size+its2.toArray.size))=true:=by
    rw[zh1 hsz,Bool.and_false]
    exact Bool.false_ne_true
  refine call_meets F.slot_list_extend ⟨_,e,rfl⟩ F.entry_list_extend (F.args_list_extend_2 _ _)
    (AutoSeq1.list_extend_list_list_0 l its.toArray n b its2.toArray n2 hlong (by rw[List.size_toArray];omega) (by omega)) ⟨e,e2,?_⟩
  refine⟨.non,_,I.lset (its':=its++its2) hH e (by simp) (r.append r2) ?_,rfl,q⟩
  rw[List.length_append]
  omega
def rCat:R2:=fun x y H Q=>∃ l b xs zs,x=.ref l∧y=.ref b∧H l=some (.lst xs)∧H b=some (.lst zs)∧xs.length+zs.length≤sizeLine∧∀ p,H p=none→Q (.ref p) (upd H p (.lst (xs++zs)))
theorem zbO:OpR X (binaryOp .Add) rCat:=by
  intro pins s σ H x y v u Q I rx ry h
  obtain⟨l,b,xs,zs,rfl,rfl,hH,hB,hz,q⟩:=h
  cases rx
  cases ry
  obtain⟨z,its,n,r,hl,e⟩:=I.lstM hH
  obtain⟨z2,its2,n2,r2,hl2,e2⟩:=I.lstM hB
  refine PySem.P.add_list e e2 ?_ (by rw[List.size_toArray,List.size_toArray];omega)
  have ea:its.toArray++its2.toArray=(its++its2).toArray:=by simp
  rw[ea]
  exact⟨.ref _,_,I.lnew (t':=s.toks) (r.append r2) (by rw[List.length_append];omega),rfl,q _ I.fresh⟩
def rRep:R2:=fun x y H Q=>∃ l k xs,x=.ref l∧y=.int k∧H l=some (.lst xs)∧-(2 ^ 63)≤k∧k < 2 ^ 63∧xs.length * k.toNat≤sizeLine ∧
  ∀ p,H p=none→Q (.ref p) (upd H p (.lst (List.replicate k.toNat xs).flatten))
theorem ziR {α:Type} (xs:List α) (k:Nat):(List.replicate k xs).flatten.length=k * xs.length:=by
  induction k with
  | zero=>simp
  | succ k ih=>rw[List.replicate_succ,List.flatten_cons,List.length_append,ih,Nat.succ_mul,Nat.add_comm]
theorem op_rep:OpR X (binaryOp .Mult) rRep:=by
  intro pins s σ H x y v u Q I rx ry h
  obtain⟨l,k,xs,rfl,rfl,hH,h1,h2,hz,q⟩:=h
  cases rx
  obtain⟨t,rfl⟩:=ry
  obtain⟨z,its,n,r,hl,e⟩:=I.lstM hH
  have hlen:its.toArray.size * k.toNat≤sizeLine:=by rw[List.size_toArray,←hl];exact hz
  have hcap:¬its.toArray.size * k.toNat > (2 ^ 63 - 1) / 8:=by
    have:(sizeLine:Nat)≤(2 ^ 63 - 1) / 8:=by decide
    omega
  have hfit:¬(!Builtin.List.listFitsIndex k)=true:=by
    rw[fitsIndex_both h1 h2]
    exact Bool.false_ne_true
  have hlong:¬Builtin.List.listTooLong (its.toArray.size * k.toNat)=true:=by
    rw[zh1 hlen]
    exact Bool.false_ne_true
  have hnew:List.foldl (fun x1 x2=>x1++x2) #[] (List.replicate (if its.toArray.isEmpty=true then 0 else k.toNat) its.toArray)=(List.replicate k.toNat its).flatten.toArray:=by
    have f0:∀ m:Nat,List.foldl (fun x1 x2=>x1++x2) #[] (List.replicate m its.toArray)=(List.replicate m its).flatten.toArray:=fun m=>by
      have:=zhe its m []
      rw[List.nil_append]at this
      exact this
    rw[f0]
    cases its with
    | nil=>simp
    | cons a r'=>rw[if_neg (by simp)]
  refine wpAny_binaryOp_repeat_ref (T:="list") (U:="int") (by decide) ⟨_,e,rfl⟩ (fun s'=>typeIs_int s' k t) noFill_list_mul F.fills_int_mul F.slot_int_rmul repeat_list F.slot_int_index.lookup
    (call_meets F.slot_int_rmul (typeIs_int s k t) F.entry_int_rmul (F.args_int_rmul_2 _ _) (int___rmul___int_list k t l its.toArray n)
      ⟨e,rfl,⟨_,e,rfl⟩,call_meets F.slot_list_mul ⟨_,e,rfl⟩ F.entry_list_mul (F.args_list_mul_2 _ _) (AutoListH.list___mul___list_int_3 l its.toArray n k t hfit hcap hlong) ⟨e,?_⟩⟩)
  rw[hnew]
  exact⟨.ref _,_,I.lnew (t':=s.toks) (r.rep k.toNat) (by rw[ziR,Nat.mul_comm];exact hz),rfl,q _ I.fresh⟩
end
section
variable {prog:Program} {w:World} {A:Around} {E:Value→Shared→Prop} {s:Shared}
end
section
variable {X:Cx}
end
end L2
namespace Att
open PySem PySem.W PySem.Calls PyProof.Rows
theorem zgu {P:Params} {h:Heap}:∀(ns:List Int) (vs:List Value),WellAll P h vs (ns.map WData.int)→IntsAre vs ns:=by
  intro ns
  induction ns with
  | nil =>
    intro vs w
    rw[List.map_nil]at w
    cases w
    exact .nil
  | cons n ns ih =>
    intro vs w
    rw[List.map_cons]at w
    cases w with
    | cons a b =>
      cases a
      exact .cons _ _ (ih _ b)
theorem zj4 {l:OpenLaw} {n:Nat} (hn:l.most=some n) {P:Params} {h:Heap} {args:List WData} {vals:List Value}
    (hpre:l.row.toRowW.claim.pre args=true) (hwl:WellAll P h vals args) :
    ∃ a vs ns,vals=[Value.ref a]∧args=[WData.list (ns.map WData.int)]∧h.get? a=some { cls:=.type "list",data:=.seq vs.toArray }∧IntsAre vs ns∧ns.length≤n:=by
  have hsh:WShape.hasAll [] args [.list .int]=true:=(pre_splitW hpre).1
  have hc:l.pre.holds [] { args:=args }=true:=(pre_splitW hpre).2
  obtain⟨d,r,rfl,h1,h2⟩:=hasAllW_cons hsh
  obtain rfl:=hasAllW_nil h2
  obtain⟨xs,rfl,h3⟩:=hasW_list h1
  obtain⟨ns,rfl⟩:=items_int h3
  have hlen:ns.length≤n:=by
    unfold OpenLaw.pre at hc
    have h4:(WTm.not (.lt (.lit (.int (n:Int))) (.len (.arg 0)))).holds [] { args:=[.list (ns.map .int)] }=true:=by
      have h4:=(holds_andW hc).1
      rw[hn]at h4
      exact h4
    have h5:=condW_of h4 (w_not (w_lt w_lit (w_len_list (w_arg rfl))))
    rw[List.length_map]at h5
    refine Nat.le_of_not_lt fun q=>?_
    have q':(n:Int) < ((ns.length:Nat):Int):=by omega
    first
      | (rw[decide_eq_true q']at h5;exact absurd h5 (by decide))
      | (simp at h5;omega)
  cases hwl with
  | cons w1 w2 =>
    cases w2
    cases w1 with
    | list ho hall=>exact⟨_,_,ns,rfl,rfl,ho,zgu ns _ hall,hlen⟩
theorem zj7 (l:OpenLaw) (args:List WData):l.row.toRowW.claim.post args (.bool true) args=true :=
  postW_of (r:=l.row.toRowW) (X:=(true == true))
    (show WShape.has [] (.bool true) .bool=true by first | rfl | decide | simp [WShape.has,WShape.arms,WShape.armsAll])
    (show(WTm.eq .res (.lit (.bool true))).value [] { args:=args,res:=some (.bool true),after:=args }=some (.bool (true == true)) from w_eq_bool (w_res rfl) w_lit) rfl
theorem attach_call {l:OpenLaw} {n:Nat} {q:Program} {loose:List Str} {XP:(Str→Option Value)→Heap→Prop} {YP:World→Heap→Prop} {d:DefRec}
    (hn:l.most=some n) (hdf:d.params.defaults=[])
    (call:∀(w:World) (s₀ s₁:Shared) (mg mb:Str→Option Value) (fa:Addr) (o:Obj) (pm cd doc:Value) (a:Addr) (vs:List Value) (ns:List Int),
      Ground q loose [] XP w s₀ mg mb s₁.heap→YP w s₁.heap →
      s₁.heap.get? fa=some o→o.data=.func (docDef d.name d.params d.body d.scope pm cd doc)→s₁.heap.CodeRec cd d.name→mg d.name=some (.ref fa) →
      s₁.heap.get? a=some { cls:=.type "list",data:=.seq vs.toArray }→IntsAre vs ns→ns.length≤n→s₁.gens=#[] →
      codeAny (model l.prog w) callerA (.call (.ref fa) ⟨[.ref a],[]⟩) (fun r s'=>r=.ok (.ret (.bool true))∧OldK s₁.heap s'.heap∧s'.os=s₁.os∧AllBare s'.gens) s₁) :
    WalkO q loose XP YP l.row.toRowW d [] (fun f vs=>PySem.call f vs):=by
  intro w s₀ s₁ mg mb G Y fa o pm cd doc dV kV ho hd hcd hD hmg hg args vals as hpre hlay hrd hwl hlo
  obtain rfl:dV=.none:=Dflts.none hD hdf
  obtain rfl:kV=.none:=Dflts.noKw hD
  obtain⟨a,vs,ns,rfl,rfl,hobj,hints,hlen⟩:=zj4 hn hpre hwl
  refine enter_call (codeAny_mono (call w s₀ s₁ mg mb fa o pm cd doc a vs ns G Y ho (fd_plain hd) hcd hmg hobj hints hlen hg) fun r s' hq=>?_)
  obtain⟨rfl,h2,h3,h4⟩:=hq
  exact⟨.inl ⟨.bool true,.bool true,[],rfl,fun _=>rfl,.bool true,zj7 l _,fun _=>⟨List.Pairwise.nil,fun _ hm=>(nomatch hm)⟩⟩,h2,h3,h4⟩
section
variable {prog:Program} {w:World} {A:Around} {E:Value→Shared→Prop} {s:Shared} {K:Frag}
def ledger (h:Heap) (L d:Addr):List (Addr × Obj):=(List.range h.objs.size).filterMap fun a=>if a=L∨a=d then none else(h.get? a).map fun o=>(a,o)
end
end Att
namespace L2
open PySem PySem.Spec PyProof.Rows
theorem zgX:∀ {vs:List Value} {ns:List Int},IntsAre vs ns→aQ (ns.map V.int) vs
  | _,_,.nil=>.nil
  | _,_,.cons n t h=>.cons ⟨t,rfl⟩ (zgX h)
def Only (H:Hp):Prop:=∀ b,H b=none∨∃ o xs,H b=some (.frz o (.lst xs))
theorem zkW {P:Program} {w:World} {K:PySem.W.Frag} {mg mb:Str→Option Value} {CX:CXT} {k:Nat} {fa a:Addr} {fd:FuncData} {x:Str} {sp:Sp} {s₁:Shared} {vs:List Value} {ns:List Int}
    (KX:K.In s₁.heap) (hns:s₁.heap.Ns mainGlobals mg) (hb:s₁.heap.Ns builtinsNs mb) (hbb:∀ x:Str,x≠"__name__"→mb x=bootBuiltins x) (hlim:s₁.heap.NoLimit) (hg:s₁.gens=#[])
    (ha:s₁.heap.get? a=some { cls:=.type "list",data:=.seq vs.toArray }) (hi:IntsAre vs ns) (hl:ns.length≤sizeLine) (hr:aH k callerA)
    (F:∀ base:Heap,K.In base→base.Ns mainGlobals mg→FnOk P w K mg base CX k fa fd [x] sp) (hbind:∀(s:Shared) (u:Value),BindsTo s fd ⟨[u],[]⟩ [(x,u)])
    (hsp:∀ H:Hp,Only H→SqL K H a (ns.map V.int)→sp [.ref a] H (fun v _=>v=.bl true) fun _ _ _=>False)
    (hCX:∀ H e s',CX [] H s₁ (fun _ _ _=>False) e s'→False) :
    codeAny (model P w) callerA (.call (.ref fa) ⟨[.ref a],[]⟩) (fun r s'=>r=.ok (.ret (.bool true))∧OldK s₁.heap s'.heap∧s'.os=s₁.os∧AllBare s'.gens) s₁:=by
  have rv:=zgX hi
  have lenV:=hi.length
  have core:∀ H:Hp,Only H→SqL K H a (ns.map V.int)→HOk P w H s₁.heap→(∀ b,H b≠none→b=a)→(H a≠none→K.lookup a=none) →
      codeAny (model P w) callerA (.call (.ref fa) ⟨[.ref a],[]⟩) (fun r s'=>r=.ok (.ret (.bool true))∧OldK s₁.heap s'.heap∧s'.os=s₁.os∧AllBare s'.gens) s₁:=by
    intro H hO hS hok hA hK
    have base_of:∀ {b:Addr} {o:Obj},s₁.heap.get? b=some o→H b=none→(zey s₁.heap H).get? b=some o:=fun e n=>zkZ e n
    have noA:∀ {b:Addr} {o:Obj} {es:Array DictEntry} {ep:Nat},s₁.heap.get? b=some o→o.data=.dict es ep→H b=none:=fun {b o es ep} e d=>by
      cases q:H b with
      | none=>rfl
      | some u =>
        have e':b=a:=hA b (by rw[q];simp)
        subst e'
        rw[ha]at e;cases e
        have d':Data.seq vs.toArray _=Data.dict es ep:=d
        cases d'
    have nsK:∀ {b:Addr} {m:Str→Option Value},s₁.heap.Ns b m→(zey s₁.heap H).Ns b m:=fun {b m} ⟨o,es,ep,e,d,r⟩=>⟨o,es,ep,base_of e (noA e d),d,r⟩
    have hKb:K.In (zey s₁.heap H):=fun b o e=>base_of (KX b o e) (by
      cases q:H b with
      | none=>rfl
      | some u =>
        have e':b=a:=hA b (by rw[q];simp)
        subst e'
        rw[hK (by rw[q];simp)]at e;cases e)
    have hM:Mod K mg (zey s₁.heap H):=⟨hKb,nsK hns,⟨mb,nsK hb,hbb⟩,let ⟨mc,h1,h2⟩:=hlim;⟨mc,nsK h1,h2⟩⟩
    have e0:zfF P w K mg (zey s₁.heap H) callerA [] s₁ H:=⟨rfl,hM,fun b o e=>zlB e,Nat.le_of_eq (zkq _ _),trivial,fun b hb=>absurd (show b∈([]:List Addr) from hb) (by simp),hok,.of_eq hg⟩
    refine codeAny_mono ((F _ hKb (nsK hns)).run callerA [] s₁ H ⟨[.ref a],[]⟩ [.ref a] [.ref a] _ _ hr e0 (hbind s₁ (.ref a)) (.cons rfl .nil) (hsp H hO hS)) fun r s' h=>?_
    cases r with
    | error e=>exact(hCX H e s' h).elim
    | ok fl =>
      cases fl with
      | next=>exact False.elim h
      | brk=>exact False.elim h
      | cont=>exact False.elim h
      | ret u =>
        obtain⟨v,H',os,bare,un,hok',r',q⟩:=h
        have q':v=.bl true:=q
        subst q'
        obtain rfl:u=Value.bool true:=r'
        refine⟨rfl,OldK.of_keep fun b o e=>?_,os,bare⟩
        cases q:H b with
        | none=>exact un.keep b o e q (by intro z;exact absurd (show b∈([]:List Addr) from z) (by simp)) (by simp)
        | some u =>
          rcases hO b with z | ⟨ob,xs,z⟩
          · rw[q]at z;cases z
          · have z2:=un.frzs b ob _ z
            obtain⟨e1,_⟩:=hok b _ z
            obtain⟨e2,_⟩:=hok' b _ z2
            rw[e]at e1;cases e1
            exact e2
  cases hk:K.lookup a with
  | some o =>
    have e:=KX a o hk
    rw[ha]at e
    cases e
    refine core (fun _=>none) (fun _=>.inl rfl) (.inr ⟨_,vs.toArray,_,hk,rfl,rfl,rfl,by rw[List.size_toArray,lenV];exact hl,by simpa using rv⟩) (fun b u z=>by have z':(none:Option HO)=some u:=z;cases z') (fun b z=>absurd rfl z) fun z=>absurd rfl z
  | none =>
    refine core (fun b=>if b=a then some (.frz { cls:=.type "list",data:=.seq vs.toArray } (.lst (ns.map V.int))) else none) (fun b=>?_) (.inl (.inr ⟨{ cls:=.type "list",data:=.seq vs.toArray },if_pos rfl⟩)) (fun b u z=>?_) (fun b z=>?_) fun _=>hk
    · by_cases hb:b=a
      · exact .inr ⟨_,_,if_pos hb⟩
      · exact .inl (if_neg hb)
    · by_cases hb:b=a
      · have z':=(if_pos hb).symm.trans z
        cases z'
        subst hb
        exact⟨ha,by rw[List.length_map];exact hl,vs,_,rv,ha⟩
      · have z':=(if_neg hb).symm.trans z
        cases z'
    · by_cases hb:b=a
      · exact hb
      · exact absurd (if_neg hb) z
end L2
namespace L2
open PySem PySem.Spec PyProof.Rows
abbrev KOf {K:PySem.W.Frag} {h:Heap} (_:K.In h):PySem.W.Frag:=K
theorem walk_of {l:PySem.W.OpenLaw} {n k:Nat} {q:Program} {loose:List Str} {XP:(Str→Option Value)→Heap→Prop} {YP:World→Heap→Prop} {d:DefRec} {K:Params→PySem.W.Frag} {CX:World→CXT} {sp:World→Sp} {x:Str}
    (hn:l.most=some n) (hn2:n≤sizeLine) (hdf:d.params.defaults=[]) (hr:aH k callerA)
    (hY:∀(w:World) (h:Heap),YP w h→(K w.params).In h)
    (F:∀(w:World) (mg:Str→Option Value) (fa:Addr) (h:Heap),(K w.params).In h→h.Ns mainGlobals mg→mg d.name=some (.ref fa) →
      ∃ fd:FuncData,(∀(s:Shared) (u:Value),BindsTo s fd ⟨[u],[]⟩ [(x,u)]) ∧
        ∀ base:Heap,(K w.params).In base→base.Ns mainGlobals mg→FnOk l.prog w (K w.params) mg base (CX w) k fa fd [x] (sp w))
    (hsp:∀(w:World) (H:Hp) (a:Addr) (ns:List Int),ns.length≤n→Only H→SqL (K w.params) H a (ns.map V.int)→sp w [.ref a] H (fun v _=>v=.bl true) fun _ _ _=>False)
    (hCX:∀(w:World) (H:Hp) (s:Shared) (e:Value) (s':Shared),CX w [] H s (fun _ _ _=>False) e s'→False) :
    PySem.W.WalkO q loose XP YP l.row.toRowW d [] (fun f vs=>PySem.call f vs):=by
  refine Att.attach_call hn hdf fun w s₀ s₁ mg mb fa o pm cd doc a vs ns G Y ho hd hcd hmg hobj hints hlen hg=>?_
  have KX:=hY w _ Y
  obtain⟨fd,hb,hF⟩:=F w mg fa _ KX G.T.g hmg
  exact zkW KX G.T.g G.T.b G.T.builtins G.T.nolimit hg hobj hints (Nat.le_trans hlen hn2) hr hF hb (fun H hO hS=>hsp w H a ns hlen hO hS) fun H e s'=>hCX w H s₁ e s'
end L2
namespace L2
open PySem PySem.Spec PyProof.Rows
def zbi (s:Stmt) (j:Nat):Stmt:=match s with
  | .ClassDef _ _ _ body _ _ _ _ _ _ _=>body.getD j (.Pass ⟨0,0,0,0⟩)
  | _=>.Pass ⟨0,0,0,0⟩
def zcp (s:Stmt):Arguments:=match s with
  | .FunctionDef _ a _ _ _ _ _ _ _ _=>a
  | _=>{ posonlyargs:=[],args:=[],vararg:=none,kwonlyargs:=[],kw_defaults:=[],kwarg:=none,defaults:=[] }
def zaw (s:Stmt):List Stmt:=match s with
  | .FunctionDef _ _ b _ _ _ _ _ _ _=>b
  | _=>[]
def aj (s:Stmt):Scope:=match s with
  | .FunctionDef _ _ _ _ _ _ sc _ _ _=>sc
  | _=>{ kind:=.function,names:=[],isGenerator:=false,isCoroutine:=false }
abbrev CX0:CXT:=fun _ _ _ _ _ _=>False
abbrev E0:XK:=fun _ _ _=>False
theorem aJ {X:Cx}:zbC CX0 X E0:=fun _ _ _ _ _ _ _ h=>h.elim
structure Fun (K:PySem.W.Frag) (x qual:Str) (st:Stmt) (f:Addr) (fd:FuncData):Prop where
  ex:∃(oc:Value) (od:Option Addr) (kV doc pm:Value) (an:Option Addr) (cdv ct:Value) (osl:Array (Option Value)),
    fd=PySem.W.fnOf x qual (zcp st) (zaw st) (aj st) .none kV doc pm an cdv ct∧K.lookup f=some ⟨oc,od,.func fd,osl⟩∧PySem.W.codeIn K cdv qual=true
  kp:PySem.W.keepIn K (.ref f)=true
section
variable {P:Program} {w:World} {K:PySem.W.Frag} {mg:Str→Option Value} {base:Heap}
theorem Fun.ok {x qual:Str} {st:Stmt} {f:Addr} {fd:FuncData} {N ps:List Str} {k:Nat} {sp:Sp} (F:Fun K x qual st f fd) (S:zac N ps (aj st)) (len:∀ vs H Q E,sp vs H Q E→vs.length=ps.length)
    (hbody:∀(cdv:Value) (A:Around) (outer:List Env) (s:Shared) (H:Hp) (vs:List V) (Q:VK) (E:XK),aH k (A.deeper (envOfC qual (aj st) s.heap.objs.size f cdv))→sp vs H Q E →
      ∃ t,PSs (zbg CX0 P w K mg base N qual (aj st) f cdv A outer s H E).nox (zaw st) t∧t { nx:=fun _ H'=>Q .non H',rt:=Q } (zdo N vs) H):FnOk P w K mg base CX0 (k+1) f fd ps sp:=by
  obtain⟨oc,od,kV,doc,pm,an,cdv,ct,osl,rfl,lk,hcd⟩:=F.ex
  refine fn_of lk hcd S len fun A outer s H vs Q E hr hsp=>?_
  obtain⟨t,h,q⟩:=hbody cdv A outer s H vs Q E hr hsp
  exact⟨t,h.nox,q⟩
theorem Fun.binds {x qual:Str} {st:Stmt} {f:Addr} {fd:FuncData} {ps:List Str} (F:Fun K x qual st f fd)
    (h:∀(kV doc pm:Value) (an:Option Addr) (cdv ct:Value) (us:List Value),us.length=ps.length→bindArgs (PySem.W.fnOf x qual (zcp st) (zaw st) (aj st) .none kV doc pm an cdv ct) ⟨us,[]⟩=pure (ps.zip us)):ar K fd ps []:=by
  obtain⟨oc,od,kV,doc,pm,an,cdv,ct,osl,rfl,lk,hcd⟩:=F.ex
  exact .all (h kV doc pm an cdv ct)
theorem zjR {x qual:Str} {st:Stmt} {f:Addr} {oc:Value} {od an:Option Addr} {osl:Array (Option Value)} {kV doc pm cdv ct:Value} (l:K.lookup f=some ⟨oc,od,.func (PySem.W.fnOf x qual (zcp st) (zaw st) (aj st) .none kV doc pm an cdv ct),osl⟩)
    (c:PySem.W.codeIn K cdv qual=true) (k:PySem.W.keepIn K (.ref f)=true):Fun K x qual st f (PySem.W.fnOf x qual (zcp st) (zaw st) (aj st) .none kV doc pm an cdv ct):=⟨⟨oc,od,kV,doc,pm,an,cdv,ct,osl,rfl,l,c⟩,k⟩
end
theorem hu_of {A:Around} {k:Nat} (hr:aH k A):A.units+1 < cLine:=Nat.lt_of_le_of_lt (Nat.add_le_add_left (by decide:1≤64) _) hr.units
theorem zdj {n:Nat} (h:n≤1000):n < sizeLine:=Nat.lt_of_le_of_lt h (by decide)
section
variable {X:Cx}
theorem pv (i:Nat) {x:Str} {pos:Pos} (hN:X.N[i]?=some x:=by rfl) (hv:Vis X.env.scope x:=by first | exact Or.inl rfl | exact Or.inr (Or.inl rfl) | exact Or.inr (Or.inr rfl)) (hd:(x == ("__debug__":Str))=false:=by decide)
    (hcd:(x == ("__classdict__":Str))=false:=by decide):PE X (.Name x pos) (tVar i):=pe_var hN hv hd hcd
end
theorem zeX {A B:Prop} (h:B):if false=true then A else B:=by
  rw[if_neg Bool.false_ne_true]
  exact h
theorem zc1 {A B:Prop} (h:A):if true=true then A else B:=by
  rw[if_pos rfl]
  exact h
theorem aG {c A B:Prop} [Decidable c] (h1:c→A) (h2:¬c→B):if c then A else B:=by
  by_cases h:c
  · rw[if_pos h]
    exact h1 h
  · rw[if_neg h]
    exact h2 h
def ap (H H':Hp):Prop:=∀ b o,H b=some o→H' b=some o
theorem ap.refl (H:Hp):ap H H:=fun _ _ h=>h
theorem ap.trans {H H1 H2:Hp} (a:ap H H1) (b:ap H1 H2):ap H H2:=fun c o h=>b c o (a c o h)
theorem ap.free {H H':Hp} (e:ap H H') {l:Addr} (h:H' l=Option.none):H l=Option.none:=by
  cases q:H l with
  | none=>rfl
  | some o =>
    rw[e l o q]at h
    cases h
theorem ap.seq {K:PySem.W.Frag} {H H':Hp} {a:Addr} {xs:List V} (e:ap H H') (h:SqL K H a xs):SqL K H' a xs:=by
  rcases h with (h | ⟨o,h⟩) | h
  · exact .inl (.inl (e _ _ h))
  · exact .inl (.inr ⟨o,e _ _ h⟩)
  · exact .inr h
end L2
theorem lS0:0≤PySem.sizeLine:=by decide
theorem lS1:1≤PySem.sizeLine:=by decide
theorem lS2:2≤PySem.sizeLine:=by decide
theorem lS3:3≤PySem.sizeLine:=by decide
theorem lS4:4≤PySem.sizeLine:=by decide
namespace L2
open PySem PySem.Spec PyProof.Rows
section
variable {X:Cx} {e l:Expr} {te tl:TE} {pos:Pos} {tg:Expr}
def rSlS:V→Option Int→Option Int→Hp→VK→Prop:=fun x lo hi H Q=>∃ z,x=.str z∧z.length≤sizeLine∧Q (.str (Txt.slice z lo hi)) H
theorem ziL {v:Value} {o:Option Int} (p:IsPart v o):∃ q:Option (Int × Tok),v=partValue q∧q.map (·.1)=o:=by
 cases p with
 | none=>exact⟨none,rfl,rfl⟩
 | int i t=>exact⟨some (i,t),rfl,rfl⟩
theorem zjB:SlR X rSlS:=by
 intro pins s σ H x v vl vu lo hi sl Q I rx hs pl pu h
 obtain⟨z,rfl,hz,q⟩:=h
 obtain⟨t,rfl⟩:=rx
 obtain⟨ql,rfl,rfl⟩:=ziL pl
 obtain⟨qu,rfl,rfl⟩:=ziL pu
 obtain⟨o,ho,hc,hd⟩:=hs
 refine⟨"str",_,F.slot_str_getitem.lookup,typeIs_str _ _ _,?_⟩
 refine wpAny_getItem_str_slice (l:=ql) (u:=qu) (st:=none) ⟨o,ho,hc,hd⟩ rfl ?_
 exact post_val_or_str ⟨Nat.le_trans (Txt.slice_le z _ _) hz,fun t' k=>⟨.str (Txt.slice z (ql.map (·.1)) (qu.map (·.1))),H,I.tok _,⟨_,rfl⟩,q⟩⟩
def Its (z:Str):It:=⟨fun i _=>i < z.length,fun i H x H'=>H'=H∧∃ c,z.cps[i]?=some c∧x=.str ⟨#[c]⟩,fun i _=>z.length≤i⟩
theorem zhM {P:Program} {w:World} {K:W.Frag} {ty:String} (hty:ty="str_ascii_iterator"∨ty="str_iterator") (it:Addr) (z:Str) (t:Tok):Turn P w K tg (Its z) [it] it (fun i h=>h.IsStrIter it ty z t i) where
 mem:=by simp
 obj:=fun i h st b hb=>by
  have e:b=it:=by simpa using hb
  subst e
  obtain⟨o,e,c,d⟩:=st
  exact⟨o,e,fun v z=>by rw[d]at z;cases z⟩
 keep:=fun i h h' st k=>by
  obtain⟨o,e,r⟩:=st
  exact⟨o,k it (by simp) o e,r⟩
 item:=by
  intro X hP hw hK hc i pins s σ H E I hf st hg
  subst hP hw hK
  have hi:i < z.cps.size:=hg
  have hx:z.cps[i]?=some z.cps[i]:=by simp [hi]
  obtain⟨f0,f1,f2,f3,f4,f5⟩:=hf it (by simp)
  rcases hty with rfl | rfl
  ·refine wpAny_pyNext_ascii_item st hx fun h' st' sb=>?_
   have I1:Inv X pins σ H { s with heap:=h',toks:=s.toks+1 }:=I.turned (t':=s.toks+1) (fun b o hb e=>(sb.2 b hb).trans e) f0 f1 f3 f4 f5
   obtain⟨o,e,c,d⟩:=id st'
   exact⟨_,rfl,zf3 (s:={ s with heap:=h',toks:=s.toks+1 }) e c d (by decide) ⟨.str ⟨#[z.cps[i]]⟩,H,I1,⟨_,rfl⟩,⟨rfl,_,hx,rfl⟩,st',fun b hb=>(hf b hb).1⟩⟩
  ·refine wpAny_pyNext_wide_item st hx fun h' st' sb=>?_
   have I1:Inv X pins σ H { s with heap:=h',toks:=s.toks+1 }:=I.turned (t':=s.toks+1) (fun b o hb e=>(sb.2 b hb).trans e) f0 f1 f3 f4 f5
   obtain⟨o,e,c,d⟩:=id st'
   exact⟨_,rfl,zf3 (s:={ s with heap:=h',toks:=s.toks+1 }) e c d (by decide) ⟨.str ⟨#[z.cps[i]]⟩,H,I1,⟨_,rfl⟩,⟨rfl,_,hx,rfl⟩,st',fun b hb=>(hf b hb).1⟩⟩
 done:=by
  intro X hP hw hK hc i pins s σ H E I hf st hg
  subst hP hw hK
  have hi:z.cps.size≤i:=hg
  have hx:z.cps[i]?=none:=by simp [hi]
  obtain⟨f0,f1,f2,f3,f4,f5⟩:=hf it (by simp)
  rcases hty with rfl | rfl
  ·exact wpAny_pyNext_ascii_end (I.ok.hd hc) st hx fun h' eb=>⟨rfl,I.turned (t':=s.toks) (fun b o hb e=>eb b o hb e) f0 f1 f3 f4 f5⟩
  ·exact wpAny_pyNext_wide_end (I.ok.hd hc) st hx fun h' eb=>⟨rfl,I.turned (t':=s.toks) (fun b o hb e=>eb b o hb e) f0 f1 f3 f4 f5⟩
 self:=fun _ _ _ _ _ st h=>by
  rcases hty with rfl | rfl
  ·exact wpAny_pyIter_striter_ascii st h
  ·exact wpAny_pyIter_striter_wide st h
def iStr (tl:TE):TI:=fun σ H R=>tl σ H fun x H1=>∃ z,x=.str z∧R (Its z) H1
theorem zjG (hl:PE X l tl):PI X tg l (iStr tl):=by
 intro pins s σ H R I h
 refine thn (hl pins s σ H _ I h) fun v s1 ⟨x,H1,I1,r1,q1⟩=>?_
 obtain⟨z,e,q⟩:=q1
 subst e
 obtain⟨t,rfl⟩:=r1
 have fp:∀ b∈[s1.heap.objs.size],zbT X pins H1 b:=fun b hb=>by
  have e:b=s1.heap.objs.size:=by simpa using hb
  subst e
  exact I1.fpOk (Nat.le_refl _) (I1.hok.fresh (Nat.le_refl _))
 cases ha:z.cps.all (· < 128) with
 | true =>
  refine wpAny_pyIter_ascii ha ?_
  exact⟨s1.heap.objs.size,[s1.heap.objs.size],_,_,H1,rfl,I1.kept (t':=s1.toks) fun b o e=>Heap.get?_push_of_some _ e,zhM (.inl rfl) _ z t,⟨_,Heap.get?_push_size _ rfl,rfl,rfl⟩,fp,q⟩
 | false =>
  refine wpAny_pyIter_wide ha ?_
  exact⟨s1.heap.objs.size,[s1.heap.objs.size],_,_,H1,rfl,I1.kept (t':=s1.toks) fun b o e=>Heap.get?_push_of_some _ e,zhM (.inr rfl) _ z t,⟨_,Heap.get?_push_size _ rfl,rfl,rfl⟩,fp,q⟩
theorem zgW (hc:X.calm=true):zbW X (.builtin "all") (fun xs H Q=>∃(p:Addr) (bs:List Bool),xs=[.ref p]∧SqL X.K H p (bs.map V.bl)∧Q (.bl (bs.all id)) H):=by
 intro pins s σ H xs us Q I r h
 obtain⟨p,bs,rfl,hq,q⟩:=h
 obtain⟨u,rfl,rx⟩:=zdX r
 cases rx
 obtain⟨its,rv,pl,hz⟩:=I.list hq
 have hl:=rv.length
 rw[List.length_map]at hl
 have hp:p < s.heap.objs.size:=by
  obtain⟨o,ho,_⟩:=pl.isList
  exact Heap.lt_size ho
 have hne:p≠s.heap.objs.size:=Nat.ne_of_lt hp
 refine call_all_walk (wpAny_pyIter_list pl.isList ?_)
 refine⟨s.heap.objs.size,[s.heap.objs.size,p],[s.heap.objs.size],its.toArray.size,_,_,fun i=>bs.getD i true,rfl,Walks.list (show X.A.in1.handled=none from I.ok.hd hc) _ p hne its.toArray,⟨⟨_,Heap.get?_push_size _ rfl,rfl,rfl⟩,pl.isList.push _⟩,?_,fun h' tk hk=>?_⟩
 ·intro i v s' Q' E' hv hQ
  have hv':its[i]?=some v:=by simpa using hv
  have hi:i < its.length:=(List.getElem?_eq_some_iff.mp hv').1
  have hb:bs[i]?=some (bs.getD i true):=by
   rw[List.getD_eq_getElem?_getD,List.getElem?_eq_getElem (by omega)]
   rfl
  obtain⟨w',e1,e2⟩:=rv.get (i:=i) (x:=.bl (bs.getD i true)) (by rw[List.getElem?_map,hb];rfl)
  rw[hv']at e1
  cases e1
  cases (show v=Value.bool _ from e2)
  exact wpAny_truthy_bool hQ
 ·have e:(List.range its.toArray.size).all (fun i=>bs.getD i true)=bs.all id:=by
   rw[Bool.eq_iff_iff,List.all_eq_true,List.all_eq_true]
   constructor
   ·intro h x hx
    obtain⟨i,hi,rfl⟩:=List.mem_iff_getElem.mp hx
    have:=h i (List.mem_range.mpr (by simp only[List.size_toArray];omega))
    rw[List.getD_eq_getElem?_getD,List.getElem?_eq_getElem hi]at this
    exact this
   ·intro h i hi
    have hi':i < bs.length:=by have:=List.mem_range.mp hi;simp only[List.size_toArray]at this;omega
    rw[List.getD_eq_getElem?_getD,List.getElem?_eq_getElem hi']
    exact h _ (List.getElem_mem hi')
  refine⟨.bl (bs.all id),H,I.kept (t':=tk) fun b o eb=>hk b o ?_ (Heap.get?_push_of_some _ eb),congrArg Value.bool e,q⟩
  intro hm
  have:b=s.heap.objs.size:=by simpa using hm
  exact absurd (Heap.lt_size eb) (by rw[this];exact Nat.lt_irrefl _)
end
structure Clo (X:Cx) (scope:Scope) (cl:List (Str × Addr)):Prop where
 eq:closureFor scope X.env=pure cl
 sub:∀ y c,cl.lookup y=some c→X.env.cells.lookup y=some c
 has:∀ y,((relabel scope X.env).names.lookup y=some .cell∨(relabel scope X.env).names.lookup y=some .free)→∃ c,cl.lookup y=some c
theorem zid {X:Cx} {scope:Scope} (hfree:∀ x∈scope.names,x.2≠.free) (hcell:∀ x∈scope.names,x.2≠.cell):Clo X scope []:=by
 refine⟨closureFor_none hfree,fun y c h=>by simp at h,fun y h=>?_⟩
 have e:(relabel scope X.env).names=scope.names:=by
  unfold relabel
  refine map_eq_self (fun x hx=>?_)
  obtain⟨n,k⟩:=x
  have:(k == NameKind.free)=false:=by simpa using hfree _ hx
  simp [this]
 rw[e]at h
 rcases h with h | h
 ·exact absurd rfl (hcell _ (PySem.mem_of_lookup h))
 ·exact absurd rfl (hfree _ (PySem.mem_of_lookup h))
def zao (X:Cx) (N':List Str) (scope:Scope) (cl:List (Str × Addr)) (fp:List Addr) (s₃:Shared) (H₃:Hp):Cx where
 prog:=X.prog
 w:=X.w
 K:=X.K
 mg:=X.mg
 base:=X.base
 A:=X.A
 N:=N'
 s₀:=s₃
 H₀:=H₃
 env:=compEnvC scope cl s₃.heap.objs.size X.env
 outer:=X.stack
 stack:=X.stack
 ex:=fp
 calm:=X.calm
 fn:=fun _=>false
 pn:=[]
 xe:=fun _ _=>False
def fvs (σ:St) (ix:List Nat):St:=ix.map fun i=>(σ[i]?).join
def tLC (wi:TI) (ix:List Nat) (te:TE):TE:=fun σ H Q=>wi σ H fun J H1=>∀ D,H1 D=none →
 ∃ W:Nat→Nat→List V→Hp→Prop,(∃ m,W 0 m [] (upd H1 D (.lst []))) ∧
  ∀ i m ys H',W i m ys H'→H' D=some (.lst ys) ∧
   ((J.stop i H'∧Q (.ref D) H')∨(J.go i H'∧∀ x H'',J.yld i H' x H''→te (some x :: fvs σ ix) H'' fun y H3 =>
    H3 D=some (.lst ys)∧ys.length < sizeLine∧∃ m',m' < m∧W (i+1) m' (ys++[y]) (upd H3 D (.lst (ys++[y])))))
theorem zdi {prog:Program} {w:World} {A:Around} {R:Result→Shared→Prop} {s:Shared} {elt target iter:Expr} {scope:Scope} {pos:Pos} {it acc:Value} {env:Env} (I:Nat→Shared→Prop)
  (turn:∀ n s,I n s→wpAny (model prog w) A (pyNext it) (fun r s₁=>match r with
   | none=>R (.ok .next) s₁
   | some v=>wpAny (model prog w) A (letOwnedTupleGo target it v) (fun _ s₁'=>wpAny (model prog w) A (assign target env v) (fun _ s₂=>wpAny (model prog w) A (eval elt env) (fun x s₃ =>
     wpAny (model prog w) A (call (.builtin "list.append") [acc,x]) (fun _ s₄=>∃ m,m < n∧I m s₄) (notedBy (model prog w) A env fun e s'=>R (.error e) s') s₃)
     (notedBy (model prog w) A env fun e s'=>R (.error e) s') s₂) (notedBy (model prog w) A env fun e s'=>R (.error e) s') s₁') (notedBy (model prog w) A env fun e s'=>R (.error e) s') s₁) (notedBy (model prog w) A env fun e s'=>R (.error e) s') s)
  (n:Nat) (h:I n s) :
  codeAny (model prog w) A (.compLoop (.ListComp elt [⟨target,iter,[],0⟩] scope pos) 0 it acc env) R s:=by
 refine codeAny_loop rfl I (fun n s hI=>?_) n h
 show wpAny _ _ ((compTurn (.ListComp elt [⟨target,iter,[],0⟩] scope pos) 0 it acc env).onRaise (fun x=>do noteFrame x env;theTreesLotGoes x)) _ _ s
 refine wpAny_noted ?_
 rw[compTurn_list1]
 refine wpAny_bind (wpAny_standAt (wpAny_bind (wpAny_mono (turn n s hI) (fun r s₁ h₁=>?_) fun _ _ h'=>h')))
 cases r with
 | none=>exact wpAny_pure h₁
 | some v =>
  refine wpAny_bind (wpAny_mono h₁ (fun _ s₁' h₁'=>?_) fun _ _ h'=>h')
  exact wpAny_bind (wpAny_mono h₁' (fun _ s₂ h₂=>wpAny_bind (wpAny_bind (wpAny_mono h₂ (fun x s₃ h₃=>wpAny_bind (wpAny_mono h₃
   (fun _ s₄ h₄=>wpAny_pure (wpAny_pure ⟨rfl,h₄⟩)) fun _ _ h'=>h')) fun _ _ h'=>h'))) fun _ _ h'=>h')
section
variable {X:Cx} {N':List Str} {scope:Scope} {cl:List (Str × Addr)} {fp:List Addr} {pins:List (Addr × Obj)} {σ:St} {H:Hp} {s:Shared}
theorem zcq (I:Inv X pins σ H s) (C:Clo X scope cl) (hkind:scope.kind=.function) (hf:∀ b∈fp,zbT X pins H b) (hlt:∀ b∈fp,b < s.heap.objs.size):(zao X N' scope cl fp s H).Ok where
 mod:=I.ok.mod
 kind:=hkind
 glob:=I.ok.glob
 blt:=I.ok.blt
 above:=Nat.le_refl _
 inj:=fun x y c h1 h2=>I.ok.inj x y c (C.sub x c h1) (C.sub y c h2)
 has:=fun x h=>C.has x h
 cab:=fun x c h=>by cases (show false=true from h)
 hd:=I.ok.hd
 frames:=I.ok.frames
 stk:=.inl rfl
 exf:=fun b hb=>⟨Nat.ne_of_lt (hlt b hb),fun x c h=>(hf b hb).2.2.2.2.1 x c (C.sub x c h)⟩
 bs:=fun b o h=>I.bs b o h
 bsz:=Nat.le_trans I.ok.bsz I.sz
 noex:=fun b o h hb=>by
  rcases(hf b hb).2.2.2.1 with z | z
  ·exact I.ok.noex b o h z
  ·exact absurd (Nat.lt_of_lt_of_le (Heap.lt_size h) (Nat.le_trans I.ok.bsz z)) (Nat.lt_irrefl _)
 exfs:=fun b hb hs=>by
  rcases List.mem_cons.mp (I.stkSub b hs) with z | z
  ·exact(hf b hb).2.1 z
  ·exact(hf b hb).2.2.1 z
 funs:=I.stack
 frf:=I.stkFree
theorem zdu {ix:List Nat} {h₁:Heap} {t':Nat} {m:Str→Option Value} (I:Inv X pins σ H s) (C:Clo X scope cl) (hkind:scope.kind=.function) (hf:∀ b∈fp,zbT X pins H b) (hlt:∀ b∈fp,b < s.heap.objs.size)
  (hlen:N'.length=ix.length+1) (hix:∀(j i:Nat),ix[j]?=some i→∃ y,X.N[i]?=some y∧N'[j+1]?=some y∧(X.env.kindOf y=some .cell∨X.env.kindOf y=some .free)∧((relabel scope X.env).names.lookup y=some .cell∨(relabel scope X.env).names.lookup y=some .free))
  (hn:h₁.Ns s.heap.objs.size m) (hk:∀ b o,s.heap.get? b=some o→h₁.get? b=some o):Inv (zao X N' scope cl fp s H) [] (none :: fvs σ ix) H { s with heap:=h₁,toks:=t' }:=by
 have cellK:∀ x c,cl.lookup x=some c→∃ v,h₁.IsCell c v:=fun x c h=>by
  obtain⟨v,o,ho,hd⟩:=I.cell x c (C.sub x c h)
  exact⟨v,o,hk c o ho,hd⟩
 refine⟨zcq I C hkind hf hlt,rfl,I.bare,Un.kept hk,⟨m,hn,fun i y v h1 h2 h3=>?_⟩,cellK,I.hok.fresh (Nat.le_refl _),fun x c h=>I.freeC x c (C.sub x c h),fun p hp=>absurd (show p∈([]:List (Addr × Obj)) from hp) (by simp),I.hok.kept hk,?_⟩
 ·cases i with
  | zero=>cases (show some (none:Option V)=some (some v) from h2)
  | succ j =>
   have h2':(fvs σ ix)[j]?=some (some v):=h2
   unfold fvs at h2'
   rw[List.getElem?_map]at h2'
   cases e:ix[j]? with
   | none=>rw[e]at h2';cases h2'
   | some i =>
    rw[e]at h2'
    have h4:(σ[i]?).join=some v:=Option.some.inj h2'
    have h5:σ[i]?=some (some v):=by
     cases e':σ[i]? with
     | none=>rw[e']at h4;cases h4
     | some q =>
      rw[e']at h4
      have h6:q=some v:=h4
      rw[h6]
    obtain⟨y',n1,n2,k1,k2⟩:=hix j i e
    have ey:y'=y:=Option.some.inj (n2.symm.trans h1)
    subst ey
    obtain⟨m0,hn0,hl0⟩:=I.loc
    have hv0:Vis X.env.scope y':=k1.elim (fun z=>.inr (.inl z)) fun z=>.inr (.inr z)
    obtain⟨u,ru,l⟩:=hl0 i y' v n1 h5 hv0
    refine⟨u,ru,.inr ⟨k2,?_⟩⟩
    rcases l with ⟨k,_⟩ | ⟨_,c,ec,o,ho,hd⟩
    ·rcases k1 with z | z
     ·rw[z]at k;cases k
     ·rw[z]at k;cases k
    ·obtain⟨c',ec'⟩:=C.has y' k2
     have:c'=c:=Option.some.inj ((C.sub _ _ ec').symm.trans ec)
     subst this
     exact⟨c',ec',o,hk c' o ho,hd⟩
 ·show(none :: fvs σ ix:St).length=N'.length
  rw[hlen]
  simp [fvs]
theorem zdP {σ':St} {H':Hp} {s':Shared} {h':Heap} (I:Inv X pins σ H s) (J:Inv (zao X N' scope cl fp s H) [] σ' H' s') (hf:∀ b∈fp,zbT X pins H b) (hs:Heap.SameBut s.heap.objs.size s'.heap h'):Inv X pins σ H' { s' with heap:=h' }:=by
 have ne:∀ b o,s.heap.get? b=some o→b≠s.heap.objs.size:=fun b o e=>Nat.ne_of_lt (Heap.lt_size e)
 have eq:∀ b,b≠s.heap.objs.size→h'.get? b=s'.heap.get? b:=fun b hb=>hs.2 b hb
 have B:=J.base
 have u:Un (frs X.stack) fp H H' s.heap h' :=
  ⟨fun b o e n h1 h2=>(eq b (ne b o e)).trans (B.keep b o e n h1 h2),fun b o e n h1 h2=>by
   obtain⟨sl,q⟩:=B.slot b o e n h1 h2
   exact⟨sl,(eq b (ne b o e)).trans q⟩,fun b o e n h1=>B.free b o e n h1,fun b o e h1=>by
   obtain⟨o',q⟩:=B.there b o e h1
   exact⟨o',(eq b (ne b o e)).trans q⟩,B.tups,B.frzs,B.tbls⟩
 have hfree:H' s.heap.objs.size=none:=J.free
 have hok:HOk X.prog X.w H' h':=fun b ob e=>by
  refine(J.hok b ob e).stay (fun c w' hc q=>(eq c ?_).trans q) (fun _ q=>q) fun _ _ q=>q
  rintro rfl
  rcases hc with z | z
  ·rw[←z,hfree]at e;cases e
  ·rw[hfree]at z;cases z
 exact I.call' (s':={ s' with heap:=h' }) (ch:=fp) J.os u hok J.bare fun b hb=>⟨(hf b hb).2.2.2.1,(hf b hb).2.1,(hf b hb).2.2.2.2.1,(hf b hb).2.2.2.2.2⟩
end
section
variable {X:Cx} {N':List Str} {scope:Scope} {elt iter:Expr} {x:Str} {px pos:Pos} {wi:TI} {te:TE} {ix:List Nat}
theorem zfm (hc:X.calm=true) (hkind:scope.kind=.function) (hcell:∀ y∈scope.names,y.2≠.cell) (hnames:∀ y∈scope.names,y.2=.local→scope.names.lookup y.1=some .local) (hx:scope.names.lookup x=some .local)
  (hclo:X.Ok→∃ cl,Clo X scope cl) (hN:N'.Nodup) (hN0:N'[0]?=some x) (hlen:N'.length=ix.length+1)
  (hix:∀(j i:Nat),ix[j]?=some i→∃ y,X.N[i]?=some y∧N'[j+1]?=some y∧(X.env.kindOf y=some .cell∨X.env.kindOf y=some .free)∧((relabel scope X.env).names.lookup y=some .cell∨(relabel scope X.env).names.lookup y=some .free))
  (hi:PI X (.Name x px) iter wi) (he:∀ cl fp s₃ H₃,PE (zao X N' scope cl fp s₃ H₃) elt te) (hs:∀ v,foldedSetIterable iter X.env v=pure v:=by intro _;rfl) :
  PE X (.ListComp elt [⟨.Name x px,iter,[],0⟩] scope pos) (tLC wi ix te):=by
 intro pins s σ H Q I h
 obtain⟨cl,C⟩:=hclo I.ok
 rw[eval_ListComp]
 refine wpAny_comprehension_free (use:=none) rfl hs C.eq hkind hnames (thn (hi pins s σ H _ I h) fun v s1 h1=>thn h1 fun itv s2 h2=>?_)
 obtain⟨it,fp,tn,J,H2,e,I2,T,st2,f2,q2⟩:=h2
 subst e
 have hD:H2 s2.heap.objs.size=none:=I2.fresh
 obtain⟨W,⟨m0,w0⟩,turn⟩:=q2 s2.heap.objs.size hD
 refine wpAny_newObj_type (wpAny_newFunctionEnv hcell (by intro y hy;simp at hy) (fun h₁ hns₁ hsb₁=>?_) hkind)
 dsimp only at hns₁ hsb₁ ⊢
 have I3:Inv X pins σ (upd H2 s2.heap.objs.size (.lst [])) { s2 with heap:=s2.heap.push { cls:=.type "list",data:=.seq ([]:List Value).toArray },toks:=s2.toks }:=I2.lnew .nil (Nat.zero_le _)
 generalize hs3:({ s2 with heap:=s2.heap.push { cls:=.type "list",data:=.seq ([]:List Value).toArray },toks:=s2.toks }:Shared)=s3 at I3
 have e3:s3.heap=s2.heap.push { cls:=.type "list",data:=.seq ([]:List Value).toArray }:=by rw[←hs3]
 generalize hDD:s2.heap.objs.size=D at *
 generalize hH3:upd H2 D (.lst [])=H3 at *
 have lt2:∀ b∈fp,b < s2.heap.objs.size:=fun b hb=>by
  obtain⟨o,ho,_⟩:=T.obj 0 _ st2 b hb
  exact Heap.lt_size ho
 have neD:∀ b∈fp,b≠D:=fun b hb=>by rw[←hDD];exact Nat.ne_of_lt (lt2 b hb)
 have f3:∀ b∈fp,zbT X pins H3 b:=fun b hb=>⟨by rw[←hH3,ao (neD b hb)];exact(f2 b hb).1,(f2 b hb).2⟩
 have sz3:s3.heap.objs.size=D+1:=by rw[e3,Heap.size_push,hDD]
 have lt3:∀ b∈fp,b < s3.heap.objs.size:=fun b hb=>by have q:=lt2 b hb;rw[sz3];rw[hDD]at q;exact Nat.lt_succ_of_lt q
 have old:∀ b o,s3.heap.get? b=some o→h₁.get? b=some o:=fun b o eb=>by
  have hb:b < D+1:=by rw[←sz3];exact Heap.lt_size eb
  refine hsb₁.extBut b o ?_ (Heap.get?_push_of_some _ (by rw[←e3];exact eb))
  rw[Heap.size_push,hDD]
  exact Nat.ne_of_lt hb
 have szC:(s2.heap.push { cls:=.type "list",data:=.seq ([]:List Value).toArray }).objs.size=s3.heap.objs.size:=by rw[e3]
 have os3:s3.os=s2.os:=by rw[←hs3]
 rw[szC]at hns₁ hsb₁
 have I4:Inv (zao X N' scope cl fp s3 H3) [] (none :: fvs σ ix) H3 { s3 with heap:=h₁,toks:=s2.toks+([]:List (Str × Value)).length }:=zdu I3 C hkind f3 lt3 hlen hix hns₁ old
 have st4:tn 0 h₁:=T.keep 0 _ _ st2 fun b hb o eb=>old b o (by rw[e3];exact Heap.get?_push_of_some _ eb)
 have stat:∀ {H':Hp},(∀ b∈fp,H' b=none)→∀ b∈fp,zbT (zao X N' scope cl fp s3 H3) [] H' b:=fun hn b hb =>
  ⟨hn b hb,Nat.ne_of_lt (lt3 b hb),fun hs'=>(zcq (N':=N') I3 C hkind f3 lt3).exfs b hb hs',.inl hb,fun y c hy=>((zcq (N':=N') I3 C hkind f3 lt3).exf b hb).2 y c hy,fun p hp=>absurd (show p∈([]:List (Addr × Obj)) from hp) (by simp)⟩
 have loop:∀ s4:Shared,s4={ s3 with heap:=h₁,toks:=s2.toks+([]:List (Str × Value)).length } →
   codeAny (model X.prog X.w) X.A (.compLoop (.ListComp elt [⟨.Name x px,iter,[],0⟩] scope pos) 0 (.ref it) (.ref D) (compEnvC scope cl s3.heap.objs.size X.env))
    (compPost (model X.prog X.w) X.A X.xe none (EP X pins σ Q) (.ref D) s3.heap.objs.size) s4:=by
  rintro s4 rfl
  refine zdi (fun n s'=>∃ i σ0 H' ys,Inv (zao X N' scope cl fp s3 H3) [] (σ0 :: fvs σ ix) H' s'∧tn i s'.heap∧(∀ b∈fp,H' b=none)∧W i n ys H') ?_ m0 ⟨0,none,H3,[],I4,st4,fun b hb=>(f3 b hb).1,w0⟩
  rintro n s5 ⟨i,σ0,H5,ys,I5,st5,fr5,w5⟩
  obtain⟨hD5,alt⟩:=turn i n ys H5 w5
  rcases alt with ⟨stop,q⟩ | ⟨go,step⟩
  ·refine thn (T.done (zao X N' scope cl fp s3 H3) rfl rfl rfl hc i [] s5 _ H5 _ I5 (stat fr5) st5 stop) fun r s6 ⟨hr,I6⟩=>?_
   subst hr
   obtain⟨m,hn,_⟩:=I6.loc
   exact⟨m,hn,fun h' hsb=>⟨.ref D,H5,zdP I3 I6 f3 hsb,rfl,q⟩⟩
  ·refine thn (T.item (zao X N' scope cl fp s3 H3) rfl rfl rfl hc i [] s5 _ H5 _ I5 (stat fr5) st5 go) fun r s6 ⟨u,hr,h6⟩=>?_
   subst hr
   refine thn h6 fun _ s7 ⟨y7,H7,I7,r7,yl7,st7,fr7⟩=>?_
   have I7':=I7.pinned (stat fr7) (T.obj _ _ st7)
   have G:PG (zao X N' scope cl fp s3 H3) (.Name x px) (zde 0):=zaO hN hN0 (.inl (lookup_relabel_local hx)) (.inr (lookup_relabel_local hx))
   refine wpAny_mono (G _ s7 _ H7 y7 u (fun σ' H'=>σ'=some y7 :: fvs σ ix∧H'=H7) I7' r7 ⟨rfl,rfl⟩) (fun _ s8 h8=>?_) fun _ _ f=>False.elim f
   obtain⟨σ8,H8,I8,rfl,rfl⟩:=h8
   refine wpAny_mono (he cl fp s3 H3 _ s8 _ H8 _ I8 (step y7 H8 yl7)) (fun yv s9 h9=>?_) fun _ _ f=>False.elim f
   obtain⟨y9,H9,I9,r9,hD9,hl9,m',hm',w9⟩:=h9
   refine wpAny_mono (zaZ (X:=zao X N' scope cl fp s3 H3) _ s9 _ H9 (.ref D) [y9] (.ref D) [yv] (fun _ H'=>H'=upd H9 D (.lst (ys++[y9]))) I9 rfl (.cons r9 .nil) ⟨D,ys,y9,rfl,rfl,hD9,hl9,rfl⟩) (fun _ s10 h10=>?_) fun _ _ f=>False.elim f
   obtain⟨_,H10,I10,_,rfl⟩:=h10
   refine⟨m',hm',i+1,some y7,_,ys++[y9],I10.unpinned,T.keep _ _ _ st7 fun b hb o eb=>(I10.pin (b,o) (List.mem_append_right _ (List.mem_append_right _ (zbl hb eb)))).1,fun b hb=>?_,w9⟩
   obtain⟨o,eb,d⟩:=T.obj _ _ st7 b hb
   exact(I10.pin (b,o) (List.mem_append_right _ (List.mem_append_right _ (zbl hb eb)))).2.1
 subst hs3
 have fin:=codeAny_compStart_list (loop _ rfl) (T.self X.A 0 _ _ _ st4 (loop _ rfl))
 exact fin
end
end L2
namespace L2
open PySem PySem.Spec PyProof.Rows
section
variable {X:Cx} {e l:Expr} {es:List Expr} {te tl:TE} {pos:Pos} {tg:Expr}
def tFmt (te:TE):TE:=fun σ H Q=>te σ H fun x H1=>(∃ z,x=.str z∧z.length≤sizeLine∧Q (.str z) H1)∨∃ i:Int,x=.int i∧i.natAbs.log2 < 1920∧Q (.str (toString i)) H1
theorem zez (he:PE X e te):PE X (.FormattedValue e (-1) none pos) (tFmt te):=by
 intro pins s σ H Q I h
 refine FormattedValue_plain (thn (he pins s σ H _ I h) fun v s1 ⟨x,H1,I1,r1,q1⟩=>?_)
 rcases q1 with ⟨z,rfl,hz,q⟩ | ⟨i,rfl,hi,q⟩
 ·obtain⟨t,rfl⟩:=r1
  exact formatField_str (fun t' tk=>⟨.str z,H1,I1.tok _,⟨_,rfl⟩,q⟩) hz
 ·obtain⟨t,rfl⟩:=r1
  exact formatField_int_small hi ⟨.str _,H1,I1.tok _,⟨_,rfl⟩,q⟩
def tRepr (te:TE):TE:=fun σ H Q=>te σ H fun x H1=>∃ z,x=.str z∧(reprText z).length≤sizeLine∧Q (.str (reprText z)) H1
theorem pe_fvr (he:PE X e te):PE X (.FormattedValue e 114 none pos) (tRepr te):=by
 intro pins s σ H Q I h
 refine wpAny_FormattedValue_repr (thn (he pins s σ H _ I h) fun v s1 ⟨x,H1,I1,r1,q1⟩=>?_)
 obtain⟨z,rfl,hz,q⟩:=q1
 obtain⟨t,rfl⟩:=r1
 refine wpAny_pyReprObj_str ?_ hz
 exact formatField_str (fun t' tk=>⟨.str (reprText z),H1,I1.tok _,⟨_,rfl⟩,q⟩) hz
abbrev TJ:=St→Hp→Str→(Str→Hp→Prop)→Prop
def PJ (X:Cx) (es:List Expr) (t:TJ):Prop :=
 ∀(pins:List (Addr × Obj)) (s:Shared) (σ:St) (H:Hp) (acc:Str) (Q:Str→Hp→Prop) (R:Str→Shared→Prop),Inv X pins σ H s→t σ H acc Q→(∀ out s1 H1,Inv X pins σ H1 s1→Q out H1→R out s1)→Joins (model X.prog X.w) X.A X.xe (evalEach es X.env) acc R s
def jNil:TJ:=fun _ H acc Q=>Q acc H
def jCons (te:TE) (t:TJ):TJ:=fun σ H acc Q=>te σ H fun x H1=>∃ y,x=.str y∧(acc++y).length≤sizeLine∧t σ H1 (acc++y) Q
theorem zdH:PJ X [] jNil:=fun _ _ _ _ _ _ _ I h k=>k _ _ _ I h
theorem zaS {t:TJ} (he:PE X e te) (hr:PJ X es t):PJ X (e :: es) (jCons te t):=by
 intro pins s σ H acc Q R I h k
 refine thn (he pins s σ H _ I h) fun v s1 ⟨x,H1,I1,r1,q1⟩=>?_
 obtain⟨y,rfl,hz,q⟩:=q1
 obtain⟨t,rfl⟩:=r1
 exact⟨y,_,rfl,hz,hr pins s1 σ H1 _ Q R I1 q k⟩
def zlb (t:TJ):TE:=fun σ H Q=>t σ H Str.empty fun out H1=>out.length≤sizeLine∧Q (.str out) H1
theorem zcj {v1 v2:Expr} {t:TJ} (h:PJ X (v1 :: v2 :: es) t):PE X (.JoinedStr (v1 :: v2 :: es) pos) (zlb t):=by
 intro pins s σ H Q I hw
 exact wpAny_JoinedStr (h pins s σ H _ _ _ I hw fun out s1 H1 I1 q=>⟨q.1,.str out,H1,I1.tok _,⟨_,rfl⟩,q.2⟩)
def iSeq (K:W.Frag) (tl:TE):TI:=fun σ H R=>tl σ H fun x H1=>∃ a,x=.ref a∧(((∃ xs,SqL K H1 a xs)∧R (Itl K a) H1)∨((∃ xs,SqT K H1 a xs)∧R (Itt K a) H1))
theorem zf9 (hl:PE X l tl):PI X tg l (iSeq X.K tl):=by
 intro pins s σ H R I h
 refine thn (hl pins s σ H _ I h) fun v s1 ⟨x,H1,I1,r1,q1⟩=>?_
 obtain⟨a,rfl,q⟩:=q1
 cases r1
 have fp:∀ b∈[s1.heap.objs.size],zbT X pins H1 b:=fun b hb=>by
  have e:b=s1.heap.objs.size:=by simpa using hb
  subst e
  exact I1.fpOk (Nat.le_refl _) (I1.hok.fresh (Nat.le_refl _))
 rcases q with ⟨⟨xs,hq⟩,q⟩ | ⟨⟨xs,hq⟩,q⟩
 ·obtain⟨its,rv,p,hz⟩:=I1.list hq
  refine wpAny_pyIter_list p.isList ?_
  exact⟨s1.heap.objs.size,[s1.heap.objs.size],_,_,H1,rfl,I1.kept (t':=s1.toks) fun b o e=>Heap.get?_push_of_some _ e,zgZ a _,⟨_,Heap.get?_push_size _ rfl,rfl,rfl⟩,fp,q⟩
 ·obtain⟨its,rv,p,hz⟩:=I1.tuple hq
  refine wpAny_pyIter_tuple (show s1.heap.IsTuple a its.toArray from p) ?_
  exact⟨s1.heap.objs.size,[s1.heap.objs.size],_,_,H1,rfl,I1.kept (t':=s1.toks) fun b o e=>Heap.get?_push_of_some _ e,zgg a _,⟨_,Heap.get?_push_size _ rfl,rfl,rfl⟩,fp,q⟩
end
theorem zfX {env:Env}:∀(l:List (Str × NameKind)) (acc:List (Str × Addr)),(∀ y∈l,y.2=.free→∃ c,env.cells.lookup y.1=some c) →
  ∃ cl,(forIn l acc (fun(y:Str × NameKind) cs=>if(y.2 == NameKind.free)=true then do let c ←cellOf env y.1;pure (ForInStep.yield ((y.1,c) :: cs)) else pure (ForInStep.yield cs)):Sem (List (Str × Addr)))=pure cl ∧
   (∀ y c,cl.lookup y=some c→acc.lookup y=some c∨env.cells.lookup y=some c)∧∀ y,((y,NameKind.free)∈l∨∃ c,acc.lookup y=some c)→∃ c,cl.lookup y=some c
 | [],acc,_=>⟨acc,rfl,fun _ _ h=>.inl h,fun y h=>h.elim (fun z=>by cases z) fun z=>z⟩
 | (n,k) :: r,acc,hf=>by
  by_cases hk:k=.free
  ·subst hk
   obtain⟨c,hc⟩:=hf (n,.free) List.mem_cons_self rfl
   obtain⟨cl,e1,e2,e3⟩:=zfX r ((n,c) :: acc) fun y hy=>hf y (List.mem_cons_of_mem _ hy)
   refine⟨cl,?_,fun y d h=>?_,fun y h=>?_⟩
   ·rw[List.forIn_cons]
    have ec:cellOf env n=pure c:=by unfold cellOf;rw[show env.cells.lookup n=some c from hc]
    have eb:(NameKind.free == NameKind.free)=true:=rfl
    simp only[eb,if_true,ec,pure_bind]
    exact e1
   ·rcases e2 y d h with z | z
    ·by_cases hy:y=n
     ·subst hy
      rw[List.lookup_cons,beq_self_eq_true]at z
      cases z
      exact .inr hc
     ·rw[List.lookup_cons,beq_eq_false_iff_ne.mpr hy]at z
      exact .inl z
    ·exact .inr z
   ·refine e3 y ?_
    by_cases hy:y=n
    ·subst hy
     exact .inr ⟨c,by rw[List.lookup_cons,beq_self_eq_true]⟩
    ·rcases h with z | ⟨d,z⟩
     ·rcases List.mem_cons.mp z with z | z
      ·exact absurd (congrArg Prod.fst z) hy
      ·exact .inl z
     ·exact .inr ⟨d,by rw[List.lookup_cons,beq_eq_false_iff_ne.mpr hy];exact z⟩
  ·obtain⟨cl,e1,e2,e3⟩:=zfX r acc fun y hy=>hf y (List.mem_cons_of_mem _ hy)
   refine⟨cl,?_,e2,fun y h=>e3 y ?_⟩
   ·rw[List.forIn_cons]
    have hb:(k == NameKind.free)=false:=by simpa using hk
    simp only[hb,Bool.false_eq_true,if_false,pure_bind]
    exact e1
   ·rcases h with z | z
    ·rcases List.mem_cons.mp z with z | z
     ·exact absurd (congrArg Prod.snd z).symm hk
     ·exact .inl z
    ·exact .inr z
theorem zcx {X:Cx} {scope sc:Scope} (ok:X.Ok) (hsc:X.env.scope=sc) (hcell:∀ x∈scope.names,x.2≠.cell)
  (hf:∀ y∈scope.names,y.2=.free→sc.names.lookup y.1=some .cell∨sc.names.lookup y.1=some .free):∃ cl,Clo X scope cl:=by
 obtain⟨cl,e1,e2,e3⟩:=zfX (env:=X.env) scope.names [] fun y hy h=>ok.has y.1 (by
  show X.env.scope.names.lookup y.1=_∨X.env.scope.names.lookup y.1=_
  rw[hsc]
  exact hf y hy h)
 refine⟨cl,?_,fun y c h=>(e2 y c h).elim (fun z=>by cases z) fun z=>z,fun y h=>e3 y (.inl ?_)⟩
 ·unfold closureFor
  have e0:(forIn scope.names ([]:List (Str × Addr)) (fun(x:Str × NameKind) cs=>match x with
    | (name,kind)=>if(kind == NameKind.free)=true then do let c ←cellOf X.env name;pure (ForInStep.yield ((name,c) :: cs)) else pure (ForInStep.yield cs)):Sem (List (Str × Addr)))=pure cl:=e1
  show(forIn scope.names ([]:List (Str × Addr)) _ >>= fun z=>pure z)=pure cl
  rw[bind_pure]
  exact e0
 ·have m:∃ k,(k=.cell∨k=.free)∧(y,k)∈(relabel scope X.env).names:=by
   rcases h with h | h
   ·exact⟨_,.inl rfl,PySem.mem_of_lookup h⟩
   ·exact⟨_,.inr rfl,PySem.mem_of_lookup h⟩
  obtain⟨k,hk,hm⟩:=m
  unfold relabel at hm
  obtain⟨⟨n0,k0⟩,h0,ez⟩:=List.mem_map.mp hm
  by_cases hc:(k0 == NameKind.free&&X.env.scope.kind == .function&&X.env.kindOf n0 == some .cell)=true
  ·dsimp only at ez
   rw[if_pos hc]at ez
   have en:n0=y:=congrArg Prod.fst ez
   have ef:k0=.free:=by
    rw[Bool.and_eq_true,Bool.and_eq_true]at hc
    simpa using hc.1.1
   rw[en,ef]at h0
   exact h0
  ·dsimp only at ez
   rw[if_neg hc]at ez
   have en:n0=y:=congrArg Prod.fst ez
   have ek:k0=k:=congrArg Prod.snd ez
   rw[en,ek]at h0
   rcases hk with z | z
   ·exact absurd z (hcell _ h0)
   ·rw[z]at h0
    exact h0
section
variable {X:Cx} {N':List Str} {scope:Scope} {elt iter c:Expr} {x:Str} {px pos:Pos} {wi:TI} {tc:TT} {te:TE} {ix:List Nat}
end
end L2
namespace L2
open PySem PySem.Spec PyProof.Rows
theorem Inv.skip {X:Cx} {pins:List (Addr × Obj)} {σ:St} {H:Hp} {s:Shared} {h':Heap} {C:Addr} (I:Inv X pins σ H s) (hs:Heap.SameBut C s.heap h') (hC:X.s₀.heap.objs.size≤C) (hl:C≠X.env.locals) (hcl:∀ x c,X.env.cells.lookup x=some c→c≠C) (hp:∀ p∈X.pn++pins,p.1≠C) (hf:H C=none) :
  Inv X pins σ H { s with heap:=h' }:=by
 have eq:∀ b,b≠C→h'.get? b=s.heap.get? b:=fun b hb=>hs.2 b hb
 have nm:∀ {b:Addr},b∉[C]→b≠C:=fun h z=>h (by rw[z];exact List.mem_cons_self)
 have u:Un (frs X.stack) [C] H H s.heap h':=⟨fun b o e _ _ h2=>(eq b (nm h2)).trans e,fun b o e _ _ h2=>⟨o.slots,(eq b (nm h2)).trans e⟩,fun b o e n _=>n,fun b o e h1=>⟨o,(eq b (nm h1)).trans e⟩,fun _ _ q=>q,fun _ _ _ q=>q,fun _ ps q=>⟨#[],by rw[q];simp⟩⟩
 have hok:HOk X.prog X.w H h':=fun b ob e=>by
  refine(I.hok b ob e).stay (fun c w' hq q=>(eq c ?_).trans q) (fun _ q=>q) fun _ _ q=>q
  rintro rfl
  rcases hq with z | z
  ·rw[←z,hf]at e;cases e
  ·rw[hf]at z;cases z
 refine I.call' (s':={ s with heap:=h' }) (ch:=[C]) rfl u hok I.bare fun b hb=>?_
 have e:b=C:=List.mem_singleton.mp hb
 subst e
 exact⟨.inr hC,hl,hcl,hp⟩
section
variable {X:Cx} {N':List Str} {scope:Scope} {elt iter:Expr} {x:Str} {px pos:Pos} {wi:TI} {te:TE} {ix:List Nat}
theorem zhV {i:Nat} {y0:Str} {py spos:Pos} (hNy:X.N.Nodup) (hiy:X.N[i]?=some y0) (hy:Loc X.env.scope y0) (hc:X.calm=true) (hkind:scope.kind=.function) (hcell:∀ y∈scope.names,y.2≠.cell) (hnames:∀ y∈scope.names,y.2=.local→scope.names.lookup y.1=some .local) (hx:scope.names.lookup x=some .local)
  (hclo:X.Ok→∃ cl,Clo X scope cl) (hN:N'.Nodup) (hN0:N'[0]?=some x) (hlen:N'.length=ix.length+1)
  (hix:∀(j i:Nat),ix[j]?=some i→∃ y,X.N[i]?=some y∧N'[j+1]?=some y∧(X.env.kindOf y=some .cell∨X.env.kindOf y=some .free)∧((relabel scope X.env).names.lookup y=some .cell∨(relabel scope X.env).names.lookup y=some .free))
  (hi:PI X (.Name x px) iter wi) (he:∀ cl fp s₃ H₃,PE (zao X N' scope cl fp s₃ H₃) elt te) (hsw:swapsWith (.ListComp elt [⟨.Name x px,iter,[],0⟩] scope pos) (some (.Name y0 py)) spos.line X.env=pure true:=by rfl)
  (hf:X.fn y0=true∨X.env.scope.names.lookup y0=some .local:=by first | exact .inl rfl | exact .inr rfl | assumption) (hs:∀ v,foldedSetIterable iter X.env v=pure v:=by intro _;rfl) :
  PS X (.Assign [.Name y0 py] (.ListComp elt [⟨.Name x px,iter,[],0⟩] scope pos) spos) (tAsg (tLC wi ix te) (zde i)):=by
 intro pins s σ H Dn I h
 obtain⟨cl,C⟩:=hclo I.ok
 rw[exec_Assign_Name_used _ _ _ _ hsw]
 refine wpAny_bind (wpAny_standAt (wpAny_bind ?_))
 rw[arm_evalThenUse_ListComp]
 refine wpAny_bind (wpAny_mono (wpAny_comprehension_free (use:=some (assign (.Name y0 py) X.env)) (Q:=fun _ s'=>∃ σ' H',Inv X pins σ' H' s'∧Dn.nx σ' H') rfl hs C.eq hkind hnames (thn (hi pins s σ H _ I h) fun v s1 h1=>thn h1 fun itv s2 h2=>?_)) (fun _ s' h'=>wpAny_pure (wpAny_pure h')) fun _ _ z=>z)
 obtain⟨it,fp,tn,J,H2,e,I2,T,st2,f2,q2⟩:=h2
 subst e
 have hD:H2 s2.heap.objs.size=none:=I2.fresh
 obtain⟨W,⟨m0,w0⟩,turn⟩:=q2 s2.heap.objs.size hD
 refine wpAny_newObj_type (wpAny_newFunctionEnv hcell (by intro y hy;simp at hy) (fun h₁ hns₁ hsb₁=>?_) hkind)
 dsimp only at hns₁ hsb₁ ⊢
 have I3:Inv X pins σ (upd H2 s2.heap.objs.size (.lst [])) { s2 with heap:=s2.heap.push { cls:=.type "list",data:=.seq ([]:List Value).toArray },toks:=s2.toks }:=I2.lnew .nil (Nat.zero_le _)
 generalize hs3:({ s2 with heap:=s2.heap.push { cls:=.type "list",data:=.seq ([]:List Value).toArray },toks:=s2.toks }:Shared)=s3 at I3
 have e3:s3.heap=s2.heap.push { cls:=.type "list",data:=.seq ([]:List Value).toArray }:=by rw[←hs3]
 generalize hDD:s2.heap.objs.size=D at *
 generalize hH3:upd H2 D (.lst [])=H3 at *
 have lt2:∀ b∈fp,b < s2.heap.objs.size:=fun b hb=>by
  obtain⟨o,ho,_⟩:=T.obj 0 _ st2 b hb
  exact Heap.lt_size ho
 have neD:∀ b∈fp,b≠D:=fun b hb=>by rw[←hDD];exact Nat.ne_of_lt (lt2 b hb)
 have f3:∀ b∈fp,zbT X pins H3 b:=fun b hb=>⟨by rw[←hH3,ao (neD b hb)];exact(f2 b hb).1,(f2 b hb).2⟩
 have sz3:s3.heap.objs.size=D+1:=by rw[e3,Heap.size_push,hDD]
 have lt3:∀ b∈fp,b < s3.heap.objs.size:=fun b hb=>by have q:=lt2 b hb;rw[sz3];rw[hDD]at q;exact Nat.lt_succ_of_lt q
 have old:∀ b o,s3.heap.get? b=some o→h₁.get? b=some o:=fun b o eb=>by
  have hb:b < D+1:=by rw[←sz3];exact Heap.lt_size eb
  refine hsb₁.extBut b o ?_ (Heap.get?_push_of_some _ (by rw[←e3];exact eb))
  rw[Heap.size_push,hDD]
  exact Nat.ne_of_lt hb
 have szC:(s2.heap.push { cls:=.type "list",data:=.seq ([]:List Value).toArray }).objs.size=s3.heap.objs.size:=by rw[e3]
 have os3:s3.os=s2.os:=by rw[←hs3]
 rw[szC]at hns₁ hsb₁
 have I4:Inv (zao X N' scope cl fp s3 H3) [] (none :: fvs σ ix) H3 { s3 with heap:=h₁,toks:=s2.toks+([]:List (Str × Value)).length }:=zdu I3 C hkind f3 lt3 hlen hix hns₁ old
 have st4:tn 0 h₁:=T.keep 0 _ _ st2 fun b hb o eb=>old b o (by rw[e3];exact Heap.get?_push_of_some _ eb)
 have stat:∀ {H':Hp},(∀ b∈fp,H' b=none)→∀ b∈fp,zbT (zao X N' scope cl fp s3 H3) [] H' b:=fun hn b hb =>
  ⟨hn b hb,Nat.ne_of_lt (lt3 b hb),fun hs'=>(zcq (N':=N') I3 C hkind f3 lt3).exfs b hb hs',.inl hb,fun y c hy=>((zcq (N':=N') I3 C hkind f3 lt3).exf b hb).2 y c hy,fun p hp=>absurd (show p∈([]:List (Addr × Obj)) from hp) (by simp)⟩
 have loop:∀ s4:Shared,s4={ s3 with heap:=h₁,toks:=s2.toks+([]:List (Str × Value)).length } →
   codeAny (model X.prog X.w) X.A (.compLoop (.ListComp elt [⟨.Name x px,iter,[],0⟩] scope pos) 0 (.ref it) (.ref D) (compEnvC scope cl s3.heap.objs.size X.env))
    (compPost (model X.prog X.w) X.A X.xe (some (assign (.Name y0 py) X.env)) (fun _ s'=>∃ σ' H',Inv X pins σ' H' s'∧Dn.nx σ' H') (.ref D) s3.heap.objs.size) s4:=by
  rintro s4 rfl
  refine zdi (fun n s'=>∃ i σ0 H' ys,Inv (zao X N' scope cl fp s3 H3) [] (σ0 :: fvs σ ix) H' s'∧tn i s'.heap∧(∀ b∈fp,H' b=none)∧W i n ys H') ?_ m0 ⟨0,none,H3,[],I4,st4,fun b hb=>(f3 b hb).1,w0⟩
  rintro n s5 ⟨i,σ0,H5,ys,I5,st5,fr5,w5⟩
  obtain⟨hD5,alt⟩:=turn i n ys H5 w5
  rcases alt with ⟨stop,q⟩ | ⟨go,step⟩
  ·refine thn (T.done (zao X N' scope cl fp s3 H3) rfl rfl rfl hc i [] s5 _ H5 _ I5 (stat fr5) st5 stop) fun r s6 ⟨hr,I6⟩=>?_
   subst hr
   obtain⟨m,hn,_⟩:=I6.loc
   have Io:Inv X pins σ H5 s6:=zdP (h':=s6.heap) I3 I6 f3 ⟨rfl,fun _ _=>rfl⟩
   refine wpAny_assign_Name (ze8 (v:=.ref D) Io hNy hiy hy rfl (fun s7 I7 ⟨a,sb,ha⟩=>?_) hf)
   have ltC:∀ x c,X.env.cells.lookup x=some c→c < s3.heap.objs.size:=fun x c e=>by
    obtain⟨v,hv⟩:=I3.cell x c e
    exact hv.lt
   have hCa:s3.heap.objs.size≠a:=by
    rintro rfl
    rcases ha with z | z
    ·exact absurd I3.lt (by rw[←z];exact Nat.lt_irrefl _)
    ·exact absurd (ltC _ _ z) (Nat.lt_irrefl _)
   refine⟨m,hn.sameBut sb hCa,fun h' hsb=>⟨_,H5,?_,q⟩⟩
   exact I7.skip hsb I3.sz (Nat.ne_of_gt I3.lt) (fun x c e=>Nat.ne_of_lt (ltC x c e)) (fun p hp=>Nat.ne_of_lt (Heap.lt_size (I3.pin p hp).1)) I6.free
  ·refine thn (T.item (zao X N' scope cl fp s3 H3) rfl rfl rfl hc i [] s5 _ H5 _ I5 (stat fr5) st5 go) fun r s6 ⟨u,hr,h6⟩=>?_
   subst hr
   refine thn h6 fun _ s7 ⟨y7,H7,I7,r7,yl7,st7,fr7⟩=>?_
   have I7':=I7.pinned (stat fr7) (T.obj _ _ st7)
   have G:PG (zao X N' scope cl fp s3 H3) (.Name x px) (zde 0):=zaO hN hN0 (.inl (lookup_relabel_local hx)) (.inr (lookup_relabel_local hx))
   refine wpAny_mono (G _ s7 _ H7 y7 u (fun σ' H'=>σ'=some y7 :: fvs σ ix∧H'=H7) I7' r7 ⟨rfl,rfl⟩) (fun _ s8 h8=>?_) fun _ _ f=>False.elim f
   obtain⟨σ8,H8,I8,rfl,rfl⟩:=h8
   refine wpAny_mono (he cl fp s3 H3 _ s8 _ H8 _ I8 (step y7 H8 yl7)) (fun yv s9 h9=>?_) fun _ _ f=>False.elim f
   obtain⟨y9,H9,I9,r9,hD9,hl9,m',hm',w9⟩:=h9
   refine wpAny_mono (zaZ (X:=zao X N' scope cl fp s3 H3) _ s9 _ H9 (.ref D) [y9] (.ref D) [yv] (fun _ H'=>H'=upd H9 D (.lst (ys++[y9]))) I9 rfl (.cons r9 .nil) ⟨D,ys,y9,rfl,rfl,hD9,hl9,rfl⟩) (fun _ s10 h10=>?_) fun _ _ f=>False.elim f
   obtain⟨_,H10,I10,_,rfl⟩:=h10
   refine⟨m',hm',i+1,some y7,_,ys++[y9],I10.unpinned,T.keep _ _ _ st7 fun b hb o eb=>(I10.pin (b,o) (List.mem_append_right _ (List.mem_append_right _ (zbl hb eb)))).1,fun b hb=>?_,w9⟩
   obtain⟨o,eb,d⟩:=T.obj _ _ st7 b hb
   exact(I10.pin (b,o) (List.mem_append_right _ (List.mem_append_right _ (zbl hb eb)))).2.1
 subst hs3
 have fin:=codeAny_compStart_list (loop _ rfl) (T.self X.A 0 _ _ _ st4 (loop _ rfl))
 exact fin
end
section
variable {X:Cx} {N':List Str} {scope:Scope} {elt iter c:Expr} {x:Str} {px pos:Pos} {wi:TI} {tc:TT} {te:TE} {ix:List Nat}
end
end L2
namespace L2
open PySem PySem.Spec PyProof.Rows
inductive Dt where
 | non | bl (b:Bool) | int (i:Int) | str (x:Str) | tup (xs:List Dt) | lst (xs:List Dt)
mutual
def peq:Dt→Dt→Bool
 | .non,.non=>true
 | .bl a,.bl b=>a == b
 | .bl a,.int b=>(if a then 1 else 0) == b
 | .int a,.bl b=>a == (if b then 1 else 0)
 | .int a,.int b=>a == b
 | .str a,.str b=>a == b
 | .tup xs,.tup ys=>zbS xs ys
 | .lst xs,.lst ys=>zbS xs ys
 | _,_=>false
def zbS:List Dt→List Dt→Bool
 | [],[]=>true
 | x :: xs,y :: ys=>peq x y&&zbS xs ys
 | _,_=>false
end
mutual
def dep:Dt→Nat
 | .tup xs=>zaB xs+1
 | .lst xs=>zaB xs+1
 | _=>0
def zaB:List Dt→Nat
 | []=>0
 | x :: xs=>max (dep x) (zaB xs)
end
mutual
def nob:Dt→Bool
 | .bl _=>false
 | .tup xs=>zdA xs
 | .lst xs=>zdA xs
 | _=>true
def zdA:List Dt→Bool
 | []=>true
 | x :: xs=>nob x&&zdA xs
end
mutual
theorem zbt:∀ d:Dt,peq d d=true
 | .non=>rfl
 | .bl _=>by simp [peq]
 | .int _=>by simp [peq]
 | .str _=>by simp [peq]
 | .tup xs=>by simp only[peq];exact zfe xs
 | .lst xs=>by simp only[peq];exact zfe xs
theorem zfe:∀ d:List Dt,zbS d d=true
 | []=>by simp [zbS]
 | x :: xs=>by simp only[zbS,zbt x,zfe xs,Bool.and_self]
end
mutual
theorem zhz:∀ d e:Dt,nob d=true→nob e=true→peq d e=true→d=e
 | .non,e,_,_,h=>by cases e <;> first | rfl | (simp [peq]at h)
 | .bl _,e,h,_,_=>by simp [nob]at h
 | .int _,e,_,h2,h=>by cases e <;> first | (simp [nob]at h2;done) | (simp [peq]at h;done) | (simp [peq]at h;rw[h])
 | .str _,e,_,h2,h=>by cases e <;> first | (simp [peq]at h;done) | (simp [peq]at h;rw[h])
 | .tup xs,e,h1,h2,h=>by
  cases e with
  | tup ys=>simp only[peq]at h;simp only[nob]at h1 h2;rw[zgE xs ys h1 h2 h]
  | _=>simp [peq]at h
 | .lst xs,e,h1,h2,h=>by
  cases e with
  | lst ys=>simp only[peq]at h;simp only[nob]at h1 h2;rw[zgE xs ys h1 h2 h]
  | _=>simp [peq]at h
theorem zgE:∀ d e:List Dt,zdA d=true→zdA e=true→zbS d e=true→d=e
 | [],e,_,_,h=>by cases e <;> first | rfl | (simp [zbS]at h)
 | x :: xs,e,h1,h2,h=>by
  cases e with
  | nil=>simp [zbS]at h
  | cons y ys =>
   simp only[zbS,Bool.and_eq_true]at h
   simp only[zdA,Bool.and_eq_true]at h1 h2
   rw[zhz x y h1.1 h2.1 h.1,zgE xs ys h1.2 h2.2 h.2]
end
mutual
def Has (K:W.Frag) (H:Hp):Dt→V→Prop
 | .non,v=>v=.non
 | .bl b,v=>v=.bl b
 | .int i,v=>v=.int i
 | .str x,v=>v=.str x
 | .tup ds,v=>∃ a xs,v=.ref a∧SqT K H a xs∧HasL K H ds xs
 | .lst ds,v=>∃ a xs,v=.ref a∧SqL K H a xs∧HasL K H ds xs
def HasL (K:W.Frag) (H:Hp):List Dt→List V→Prop
 | [],vs=>vs=[]
 | d :: ds,vs=>∃ v r,vs=v :: r∧Has K H d v∧HasL K H ds r
end
theorem HasL.length {K:W.Frag} {H:Hp}:∀ {ds:List Dt} {vs:List V},HasL K H ds vs→ds.length=vs.length
 | [],vs,h=>by simp only[HasL]at h;rw[h];rfl
 | d :: ds,vs,h=>by
  simp only[HasL]at h
  obtain⟨v,r,rfl,_,h2⟩:=h
  rw[List.length_cons,List.length_cons,HasL.length h2]
theorem HasL.get {K:W.Frag} {H:Hp}:∀ {ds:List Dt} {vs:List V} {i:Nat} {v:V},HasL K H ds vs→vs[i]?=some v→∃ d,ds[i]?=some d∧Has K H d v
 | [],vs,i,v,h,e=>by simp only[HasL]at h;rw[h]at e;simp at e
 | d :: ds,vs,i,v,h,e=>by
  simp only[HasL]at h
  obtain⟨v0,r,rfl,h1,h2⟩:=h
  cases i with
  | zero=>simp at e;subst e;exact⟨d,rfl,h1⟩
  | succ i =>
   obtain⟨d',e1,e2⟩:=HasL.get (i:=i) h2 (by simpa using e)
   exact⟨d',by simpa using e1,e2⟩
theorem HasL.getD {K:W.Frag} {H:Hp}:∀ {ds:List Dt} {vs:List V} {i:Nat} {d:Dt},HasL K H ds vs→ds[i]?=some d→∃ v,vs[i]?=some v∧Has K H d v
 | [],vs,i,d,h,e=>by simp at e
 | d0 :: ds,vs,i,d,h,e=>by
  simp only[HasL]at h
  obtain⟨v0,r,rfl,h1,h2⟩:=h
  cases i with
  | zero=>simp at e;subst e;exact⟨v0,rfl,h1⟩
  | succ i =>
   obtain⟨v,e1,e2⟩:=HasL.getD (i:=i) h2 (by simpa using e)
   exact⟨v,by simpa using e1,e2⟩
theorem HasL.append {K:W.Frag} {H:Hp}:∀ {ds es:List Dt} {vs ws:List V},HasL K H ds vs→HasL K H es ws→HasL K H (ds++es) (vs++ws)
 | [],es,vs,ws,h,h'=>by simp only[HasL]at h;rw[h];exact h'
 | d :: ds,es,vs,ws,h,h'=>by
  simp only[HasL]at h
  obtain⟨v,r,rfl,h1,h2⟩:=h
  show HasL K H (d :: (ds++es)) (v :: (r++ws))
  simp only[HasL]
  exact⟨v,r++ws,rfl,h1,HasL.append h2 h'⟩
theorem HasL.one {K:W.Frag} {H:Hp} {d:Dt} {v:V} (h:Has K H d v):HasL K H [d] [v]:=by
 simp only[HasL]
 exact⟨v,[],rfl,h,rfl⟩
theorem HasL.ints {K:W.Frag} {H:Hp}:∀ ns:List Int,HasL K H (ns.map Dt.int) (ns.map V.int)
 | []=>by simp [HasL]
 | n :: ns=>by
  simp only[List.map_cons,HasL]
  exact⟨_,_,rfl,by simp only[Has],HasL.ints ns⟩
mutual
def nol:Dt→Bool
 | .lst _=>false
 | .tup xs=>zbw xs
 | _=>true
def zbw:List Dt→Bool
 | []=>true
 | x :: xs=>nol x&&zbw xs
end
def zaj (H H':Hp):Prop:=∀ b xs,Rd H b (.tup xs)→Rd H' b (.tup xs)
theorem zaj.sq {K:W.Frag} {H H':Hp} {a:Addr} {xs:List V} (k:zaj H H') (h:SqT K H a xs):SqT K H' a xs:=h.elim (fun z=>.inl (k a xs z)) .inr
theorem zaj.trans {H H1 H2:Hp} (a:zaj H H1) (b:zaj H1 H2):zaj H H2:=fun c xs h=>b c xs (a c xs h)
theorem zaj.of_same {H H':Hp} (e:ap H H'):zaj H H':=fun b xs h=>by
 rcases h with h | ⟨o,h⟩
 ·exact .inl (e _ _ h)
 ·exact .inr ⟨o,e _ _ h⟩
theorem zaj.lst {H:Hp} {l:Addr} {xs ys:List V} (h:H l=some (.lst xs)):zaj H (upd H l (.lst ys)):=fun b zs q=>by
 rcases q with q | ⟨o,q⟩
 ·exact .inl (by rw[ao (zdq q h (fun z=>by cases z))];exact q)
 ·exact .inr ⟨o,by rw[ao (zdq q h (fun z=>by cases z))];exact q⟩
mutual
theorem Has.keep {K:W.Frag} {H H':Hp} (k:zaj H H'):∀ {d:Dt} {v:V},nol d=true→Has K H d v→Has K H' d v
 | .non,v,_,h=>by simp only[Has]at h ⊢;exact h
 | .bl _,v,_,h=>by simp only[Has]at h ⊢;exact h
 | .int _,v,_,h=>by simp only[Has]at h ⊢;exact h
 | .str _,v,_,h=>by simp only[Has]at h ⊢;exact h
 | .tup ds,v,n,h=>by
  simp only[Has]at h ⊢
  simp only[nol]at n
  obtain⟨a,xs,e,h1,h2⟩:=h
  exact⟨a,xs,e,k.sq h1,HasL.keep k n h2⟩
 | .lst _,v,n,h=>by simp [nol]at n
theorem HasL.keep {K:W.Frag} {H H':Hp} (k:zaj H H'):∀ {ds:List Dt} {vs:List V},zbw ds=true→HasL K H ds vs→HasL K H' ds vs
 | [],vs,_,h=>by simp only[HasL]at h ⊢;exact h
 | d :: ds,vs,n,h=>by
  simp only[HasL]at h ⊢
  simp only[zbw,Bool.and_eq_true]at n
  obtain⟨v,r,e,h1,h2⟩:=h
  exact⟨v,r,e,Has.keep k n.1 h1,HasL.keep k n.2 h2⟩
end
section
variable {X:Cx} {pins:List (Addr × Obj)} {σ:St} {H:Hp} {s:Shared}
theorem zhN (I:Inv X pins σ H s) {a:Addr} {xs ys:List V} (h:SqL X.K H a xs) (h':SqT X.K H a ys):False:=by
 obtain⟨its,_,p,_⟩:=I.list h
 obtain⟨jts,_,q,_⟩:=I.tuple h'
 obtain⟨o,e,c,_⟩:=p.isList
 obtain⟨o',e',c',_⟩:=q
 rw[e]at e'
 cases e'
 rw[c]at c'
 exact absurd (Value.type.inj c') (by decide)
mutual
theorem Has.inj (I:Inv X pins σ H s):∀(d e:Dt) (v:V),Has X.K H d v→Has X.K H e v→d=e
 | .non,e,v,h,h'=>by
  simp only[Has]at h
  subst h
  cases e <;> simp only[Has]at h' <;> first | rfl | (cases h';done) | (obtain⟨_,_,z,_⟩:=h';cases z)
 | .bl b,e,v,h,h'=>by
  simp only[Has]at h
  subst h
  cases e <;> simp only[Has]at h' <;> first | (cases h';done) | (cases h';rfl) | (obtain⟨_,_,z,_⟩:=h';cases z)
 | .int b,e,v,h,h'=>by
  simp only[Has]at h
  subst h
  cases e <;> simp only[Has]at h' <;> first | (cases h';done) | (cases h';rfl) | (obtain⟨_,_,z,_⟩:=h';cases z)
 | .str b,e,v,h,h'=>by
  simp only[Has]at h
  subst h
  cases e <;> simp only[Has]at h' <;> first | (cases h';done) | (cases h';rfl) | (obtain⟨_,_,z,_⟩:=h';cases z)
 | .tup ds,e,v,h,h'=>by
  simp only[Has]at h
  obtain⟨a,xs,rfl,h1,h2⟩:=h
  cases e with
  | tup es =>
   simp only[Has]at h'
   obtain⟨a',ys,z,h3,h4⟩:=h'
   cases z
   rw[I.tuple_inj h3 h1]at h4
   rw[HasL.inj I ds es xs h2 h4]
  | lst es =>
   simp only[Has]at h'
   obtain⟨a',ys,z,h3,h4⟩:=h'
   cases z
   exact(zhN I h3 h1).elim
  | _=>simp only[Has]at h';cases h'
 | .lst ds,e,v,h,h'=>by
  simp only[Has]at h
  obtain⟨a,xs,rfl,h1,h2⟩:=h
  cases e with
  | lst es =>
   simp only[Has]at h'
   obtain⟨a',ys,z,h3,h4⟩:=h'
   cases z
   rw[I.list_inj h3 h1]at h4
   rw[HasL.inj I ds es xs h2 h4]
  | tup es =>
   simp only[Has]at h'
   obtain⟨a',ys,z,h3,h4⟩:=h'
   cases z
   exact(zhN I h1 h3).elim
  | _=>simp only[Has]at h';cases h'
theorem HasL.inj (I:Inv X pins σ H s):∀(ds es:List Dt) (vs:List V),HasL X.K H ds vs→HasL X.K H es vs→ds=es
 | [],es,vs,h,h'=>by
  simp only[HasL]at h
  subst h
  cases es with
  | nil=>rfl
  | cons e es=>simp only[HasL]at h';obtain⟨_,_,z,_⟩:=h';cases z
 | d :: ds,es,vs,h,h'=>by
  simp only[HasL]at h
  obtain⟨v,r,rfl,h1,h2⟩:=h
  cases es with
  | nil=>simp only[HasL]at h';cases h'
  | cons e es =>
   simp only[HasL]at h'
   obtain⟨v',r',z,h3,h4⟩:=h'
   cases z
   rw[Has.inj I d e v h1 h3,HasL.inj I ds es r h2 h4]
end
def zcn (ds es:List Dt) (j:Nat):Bool:=match ds[j]?,es[j]? with
 | some d,some e=>peq d e
 | _,_=>true
theorem zjv (d e:Dt) (ds es:List Dt):zcn (d :: ds) (e :: es) 0=peq d e:=rfl
theorem zft:∀(ds es:List Dt),((List.range (min ds.length es.length)).all (zcn ds es)&&ds.length == es.length)=zbS ds es
 | [],[]=>by simp [zbS]
 | [],e :: es=>by simp [zbS]
 | d :: ds,[]=>by simp [zbS]
 | d :: ds,e :: es=>by
  have ih:=zft ds es
  have e1:min (d :: ds).length (e :: es).length=min ds.length es.length+1:=by simp only[List.length_cons];omega
  rw[e1,List.range_succ_eq_map,List.all_cons,zjv,List.all_map]
  have e2:(zcn (d :: ds) (e :: es) ∘ Nat.succ)=zcn ds es:=by funext j;rfl
  rw[e2,List.length_cons,List.length_cons]
  simp only[zbS]
  rw[←ih,Bool.and_assoc]
  congr 2
  simp
theorem zk6 {ds es:List Dt} (h:ds.length=es.length):(List.range ds.length).all (zcn ds es)=zbS ds es:=by
 rw[←zft,←h,Nat.min_self]
 simp
theorem zkH {ds es:List Dt} (h:ds.length≠es.length):zbS ds es=false:=by
 rw[←zft]
 have:(ds.length == es.length)=false:=by simpa using h
 rw[this,Bool.and_false]
theorem zcc (I:Inv X pins σ H s) {a:Addr} {xs:List V} {ds:List Dt} (h:SqT X.K H a xs) (g:HasL X.K H ds xs):∃ its:List Value,aQ xs its∧s.heap.IsTuple a its.toArray∧its.toArray.size=ds.length:=by
 obtain⟨its,r,p,_⟩:=I.tuple h
 exact⟨its,r,p,by rw[List.size_toArray,←r.length,←g.length]⟩
theorem zcd (I:Inv X pins σ H s) {a:Addr} {xs:List V} {ds:List Dt} (h:SqL X.K H a xs) (g:HasL X.K H ds xs):∃ its:List Value,aQ xs its∧s.heap.IsList a its.toArray∧its.toArray.size=ds.length:=by
 obtain⟨its,r,p,_⟩:=I.list h
 exact⟨its,r,p.isList,by rw[List.size_toArray,←r.length,←g.length]⟩
def zi1 (s:Shared) (A:Around) (ds es:List Dt) (xs ys:List V):Prop :=
 ∀(us zs:List Value),aQ xs us→aQ ys zs→∀(j:Nat) (u z:Value),us[j]?=some u→zs[j]?=some z→SeqAt.EqAt A.in1 s u z (zcn ds es j)
theorem rcTT (I:Inv X pins σ H s) {A:Around} {a b:Addr} {xs ys:List V} {ds es:List Dt} (h1:SqT X.K H a xs) (g1:HasL X.K H ds xs) (h2:SqT X.K H b ys) (g2:HasL X.K H es ys) (hu:A.units < cLine)
  (he:zi1 s A ds es xs ys):SeqAt.RcAt A s (.ref a) (.ref b) (zbS ds es)∧SeqAt.RcNeAt A s (.ref a) (.ref b) (!zbS ds es):=by
 obtain⟨its,r1,p1,z1⟩:=zcc I h1 g1
 obtain⟨jts,r2,p2,z2⟩:=zcc I h2 g2
 have q:∀ j (k1:j < its.toArray.size) (k2:j < jts.toArray.size),SeqAt.EqAt A.in1 s its.toArray[j] jts.toArray[j] (zcn ds es j):=fun j k1 k2=>he its jts r1 r2 j _ _ (by simp at k1 ⊢) (by simp at k2 ⊢)
 have t1:=SeqAt.RcAt.tuples (e:=zcn ds es) p1 p2 hu q
 have t2:=SeqAt.RcNeAt.tuples (e:=zcn ds es) p1 p2 hu q
 rw[z1,z2,zft]at t1 t2
 exact⟨t1,t2⟩
theorem rcLL (I:Inv X pins σ H s) {A:Around} {a b:Addr} {xs ys:List V} {ds es:List Dt} (h1:SqL X.K H a xs) (g1:HasL X.K H ds xs) (h2:SqL X.K H b ys) (g2:HasL X.K H es ys) (hu:A.units < cLine)
  (he:zi1 s A ds es xs ys):SeqAt.RcAt A s (.ref a) (.ref b) (zbS ds es)∧SeqAt.RcNeAt A s (.ref a) (.ref b) (!zbS ds es):=by
 obtain⟨its,r1,p1,z1⟩:=zcd I h1 g1
 obtain⟨jts,r2,p2,z2⟩:=zcd I h2 g2
 by_cases hl:ds.length=es.length
 ·have q:∀ j (k1:j < its.toArray.size) (k2:j < jts.toArray.size),SeqAt.EqAt A.in1 s its.toArray[j] jts.toArray[j] (zcn ds es j):=fun j k1 k2=>he its jts r1 r2 j _ _ (by simp at k1 ⊢) (by simp at k2 ⊢)
  have t1:=SeqAt.RcAt.lists (e:=zcn ds es) p1 p2 (by rw[z1,z2,hl]) hu q
  have t2:=SeqAt.RcNeAt.lists (e:=zcn ds es) p1 p2 (by rw[z1,z2,hl]) hu q
  rw[z1,zk6 hl]at t1 t2
  exact⟨t1,t2⟩
 ·have hne:(its.toArray.size != jts.toArray.size)=true:=by rw[z1,z2];simpa using hl
  rw[zkH hl]
  exact⟨SeqAt.RcAt.lists_lengths p1 p2 hne hu,SeqAt.RcNeAt.lists_lengths p1 p2 hne hu⟩
theorem zc6 {A:Around} {d:Dt} (h:A.units+dep d < cLine):A.units < cLine:=Nat.lt_of_le_of_lt (Nat.le_add_right _ _) h
mutual
theorem zjT (I:Inv X pins σ H s):∀(d e:Dt) (v w:V) (u z:Value) (A:Around),Has X.K H d v→Has X.K H e w→aR v u→aR w z→A.units+dep d < cLine→SeqAt.EqAt A s u z (peq d e)
 | .non,e,v,w,u,z,A,h,h',r,r',hu=>by
  have hu':=zc6 hu
  simp only[Has]at h
  subst h
  cases e with
  | tup es =>
   simp only[Has]at h'
   obtain⟨b,ys,rfl,h3,h4⟩:=h'
   obtain⟨_,_,p,_⟩:=zcc I h3 h4
   cases (show z=Value.ref b from r')
   cases (show u=Value.none from r)
   exact SeqAt.EqAt.none_tuple p hu'
  | lst es =>
   simp only[Has]at h'
   obtain⟨b,ys,rfl,h3,h4⟩:=h'
   obtain⟨_,_,p,_⟩:=zcd I h3 h4
   cases (show z=Value.ref b from r')
   cases (show u=Value.none from r)
   exact SeqAt.EqAt.none_list p hu'
  | _=>simp only[Has]at h';subst h';exact ze6 r r' rfl rfl
 | .bl k,e,v,w,u,z,A,h,h',r,r',hu=>by
  have hu':=zc6 hu
  simp only[Has]at h
  subst h
  cases e with
  | tup es =>
   simp only[Has]at h'
   obtain⟨b,ys,rfl,h3,h4⟩:=h'
   obtain⟨_,_,p,_⟩:=zcc I h3 h4
   cases (show z=Value.ref b from r')
   cases (show u=Value.bool k from r)
   exact SeqAt.EqAt.bool_tuple k p hu'
  | lst es =>
   simp only[Has]at h'
   obtain⟨b,ys,rfl,h3,h4⟩:=h'
   obtain⟨_,_,p,_⟩:=zcd I h3 h4
   cases (show z=Value.ref b from r')
   cases (show u=Value.bool k from r)
   exact SeqAt.EqAt.bool_list k p hu'
  | _=>simp only[Has]at h';subst h';exact ze6 r r' rfl rfl
 | .int k,e,v,w,u,z,A,h,h',r,r',hu=>by
  have hu':=zc6 hu
  simp only[Has]at h
  subst h
  cases e with
  | tup es =>
   simp only[Has]at h'
   obtain⟨b,ys,rfl,h3,h4⟩:=h'
   obtain⟨_,_,p,_⟩:=zcc I h3 h4
   cases (show z=Value.ref b from r')
   obtain⟨t,rfl⟩:=r
   exact SeqAt.EqAt.int_tuple k t p hu'
  | lst es =>
   simp only[Has]at h'
   obtain⟨b,ys,rfl,h3,h4⟩:=h'
   obtain⟨_,_,p,_⟩:=zcd I h3 h4
   cases (show z=Value.ref b from r')
   obtain⟨t,rfl⟩:=r
   exact SeqAt.EqAt.int_list k t p hu'
  | _=>simp only[Has]at h';subst h';exact ze6 r r' rfl rfl
 | .str k,e,v,w,u,z,A,h,h',r,r',hu=>by
  have hu':=zc6 hu
  simp only[Has]at h
  subst h
  cases e with
  | tup es =>
   simp only[Has]at h'
   obtain⟨b,ys,rfl,h3,h4⟩:=h'
   obtain⟨_,_,p,_⟩:=zcc I h3 h4
   cases (show z=Value.ref b from r')
   obtain⟨t,rfl⟩:=r
   exact SeqAt.EqAt.str_tuple k t p hu'
  | lst es =>
   simp only[Has]at h'
   obtain⟨b,ys,rfl,h3,h4⟩:=h'
   obtain⟨_,_,p,_⟩:=zcd I h3 h4
   cases (show z=Value.ref b from r')
   obtain⟨t,rfl⟩:=r
   exact SeqAt.EqAt.str_list k t p hu'
  | _=>simp only[Has]at h';subst h';exact ze6 r r' rfl rfl
 | .tup ds,e,v,w,u,z,A,h,h',r,r',hu=>by
  have hu':=zc6 hu
  have hd:=h
  simp only[Has]at h
  obtain⟨a,xs,rfl,h1,h2⟩:=h
  cases (show u=Value.ref a from r)
  obtain⟨_,_,p,_⟩:=zcc I h1 h2
  have hi:A.in1.units+zaB ds < cLine:=by simp only[dep]at hu;rw[Around.in1_units];omega
  cases e with
  | tup es =>
   have he:=h'
   simp only[Has]at h'
   obtain⟨b,ys,rfl,h3,h4⟩:=h'
   cases (show z=Value.ref b from r')
   by_cases hab:a=b
   ·subst hab
    rw[Has.inj I _ _ _ hd he,zbt]
    exact SeqAt.EqAt.same _
   ·have q:=(rcTT I h1 h2 h3 h4 hu' fun us zs ru rz j u z e1 e2=>ze7 I ds es xs ys us zs A.in1 h2 h4 ru rz hi j u z e1 e2).1
    simp only[peq]
    exact SeqAt.EqAt.of_refs hab q
  | lst es =>
   simp only[Has]at h'
   obtain⟨b,ys,rfl,h3,h4⟩:=h'
   cases (show z=Value.ref b from r')
   obtain⟨_,_,p',_⟩:=zcd I h3 h4
   exact SeqAt.EqAt.tuple_list p p' hu'
  | non=>simp only[Has]at h';subst h';cases (show z=Value.none from r');exact SeqAt.EqAt.tuple_none p hu'
  | bl k=>simp only[Has]at h';subst h';cases (show z=Value.bool k from r');exact SeqAt.EqAt.tuple_bool k p hu'
  | int k=>simp only[Has]at h';subst h';obtain⟨t,rfl⟩:=r';exact SeqAt.EqAt.tuple_int k t p hu'
  | str k=>simp only[Has]at h';subst h';obtain⟨t,rfl⟩:=r';exact SeqAt.EqAt.tuple_str k t p hu'
 | .lst ds,e,v,w,u,z,A,h,h',r,r',hu=>by
  have hu':=zc6 hu
  have hd:=h
  simp only[Has]at h
  obtain⟨a,xs,rfl,h1,h2⟩:=h
  cases (show u=Value.ref a from r)
  obtain⟨_,_,p,_⟩:=zcd I h1 h2
  have hi:A.in1.units+zaB ds < cLine:=by simp only[dep]at hu;rw[Around.in1_units];omega
  cases e with
  | lst es =>
   have he:=h'
   simp only[Has]at h'
   obtain⟨b,ys,rfl,h3,h4⟩:=h'
   cases (show z=Value.ref b from r')
   by_cases hab:a=b
   ·subst hab
    rw[Has.inj I _ _ _ hd he,zbt]
    exact SeqAt.EqAt.same _
   ·have q:=(rcLL I h1 h2 h3 h4 hu' fun us zs ru rz j u z e1 e2=>ze7 I ds es xs ys us zs A.in1 h2 h4 ru rz hi j u z e1 e2).1
    simp only[peq]
    exact SeqAt.EqAt.of_refs hab q
  | tup es =>
   simp only[Has]at h'
   obtain⟨b,ys,rfl,h3,h4⟩:=h'
   cases (show z=Value.ref b from r')
   obtain⟨_,_,p',_⟩:=zcc I h3 h4
   exact SeqAt.EqAt.list_tuple p p' hu'
  | non=>simp only[Has]at h';subst h';cases (show z=Value.none from r');exact SeqAt.EqAt.list_none p hu'
  | bl k=>simp only[Has]at h';subst h';cases (show z=Value.bool k from r');exact SeqAt.EqAt.list_bool k p hu'
  | int k=>simp only[Has]at h';subst h';obtain⟨t,rfl⟩:=r';exact SeqAt.EqAt.list_int k t p hu'
  | str k=>simp only[Has]at h';subst h';obtain⟨t,rfl⟩:=r';exact SeqAt.EqAt.list_str k t p hu'
theorem ze7 (I:Inv X pins σ H s):∀(ds es:List Dt) (vs ws:List V) (us zs:List Value) (A:Around),HasL X.K H ds vs→HasL X.K H es ws→aQ vs us→aQ ws zs→A.units+zaB ds < cLine →
  ∀(j:Nat) (u z:Value),us[j]?=some u→zs[j]?=some z→SeqAt.EqAt A s u z (zcn ds es j)
 | [],es,vs,ws,us,zs,A,h,h',r,r',hu,j,u,z,e1,e2=>by
  simp only[HasL]at h
  subst h
  cases r
  simp at e1
 | d :: ds,es,vs,ws,us,zs,A,h,h',r,r',hu,j,u,z,e1,e2=>by
  simp only[HasL]at h
  obtain⟨v,rs,rfl,h1,h2⟩:=h
  cases r with
  | cons r1 r2 =>
   cases es with
   | nil =>
    simp only[HasL]at h'
    subst h'
    cases r'
    simp at e2
   | cons e es =>
    simp only[HasL]at h'
    obtain⟨w,rt,rfl,h3,h4⟩:=h'
    simp only[zaB]at hu
    cases r' with
    | cons r3 r4 =>
     cases j with
     | zero =>
      simp at e1 e2
      subst e1 e2
      exact zjT I d e v w _ _ A h1 h3 r1 r3 (by omega)
     | succ j=>exact ze7 I ds es rs rt _ _ A h2 h4 r2 r4 (by omega) j u z (by simpa using e1) (by simpa using e2)
end
end
end L2
namespace L2
open PySem PySem.Spec PyProof.Rows
section
variable {X:Cx} {pins:List (Addr × Obj)} {σ:St} {H:Hp} {s:Shared}
theorem rc_D (I:Inv X pins σ H s) (A:Around) (d e:Dt) (v w:V) (u z:Value) (h:Has X.K H d v) (h':Has X.K H e w) (r:aR v u) (r':aR w z) (hu:A.units+dep d < cLine) :
  SeqAt.RcAt A s u z (peq d e)∧SeqAt.RcNeAt A s u z (!peq d e):=by
 have hu':=zc6 hu
 cases d with
 | non =>
  simp only[Has]at h
  subst h
  cases (show u=Value.none from r)
  cases e with
  | non =>
   simp only[Has]at h'
   subst h'
   cases (show z=Value.none from r')
   exact⟨SeqAt.RcAt.none_none,SeqAt.RcNeAt.none_none⟩
  | bl k2 =>
   simp only[Has]at h'
   subst h'
   cases (show z=Value.bool k2 from r')
   exact⟨SeqAt.RcAt.none_bool k2,SeqAt.RcNeAt.none_bool k2⟩
  | int k2 =>
   simp only[Has]at h'
   subst h'
   obtain⟨t2,rfl⟩:=r'
   exact⟨SeqAt.RcAt.none_int k2 t2,SeqAt.RcNeAt.none_int k2 t2⟩
  | str k2 =>
   simp only[Has]at h'
   subst h'
   obtain⟨t2,rfl⟩:=r'
   exact⟨SeqAt.RcAt.none_str k2 t2,SeqAt.RcNeAt.none_str k2 t2⟩
  | tup es =>
   simp only[Has]at h'
   obtain⟨b,ys,rfl,h3,h4⟩:=h'
   obtain⟨_,_,p,_⟩:=zcc I h3 h4
   cases (show z=Value.ref b from r')
   exact⟨SeqAt.RcAt.none_tuple p hu',SeqAt.RcNeAt.none_tuple p hu'⟩
  | lst es =>
   simp only[Has]at h'
   obtain⟨b,ys,rfl,h3,h4⟩:=h'
   obtain⟨_,_,p,_⟩:=zcd I h3 h4
   cases (show z=Value.ref b from r')
   exact⟨SeqAt.RcAt.none_list p hu',SeqAt.RcNeAt.none_list p hu'⟩
 | bl k1 =>
  simp only[Has]at h
  subst h
  cases (show u=Value.bool k1 from r)
  cases e with
  | non =>
   simp only[Has]at h'
   subst h'
   cases (show z=Value.none from r')
   exact⟨SeqAt.RcAt.bool_none k1,SeqAt.RcNeAt.bool_none k1⟩
  | bl k2 =>
   simp only[Has]at h'
   subst h'
   cases (show z=Value.bool k2 from r')
   exact⟨SeqAt.RcAt.bool_bool k1 k2,SeqAt.RcNeAt.bool_bool k1 k2⟩
  | int k2 =>
   simp only[Has]at h'
   subst h'
   obtain⟨t2,rfl⟩:=r'
   exact⟨SeqAt.RcAt.bool_int k1 k2 t2,SeqAt.RcNeAt.bool_int k1 k2 t2⟩
  | str k2 =>
   simp only[Has]at h'
   subst h'
   obtain⟨t2,rfl⟩:=r'
   exact⟨SeqAt.RcAt.bool_str k1 k2 t2,SeqAt.RcNeAt.bool_str k1 k2 t2⟩
  | tup es =>
   simp only[Has]at h'
   obtain⟨b,ys,rfl,h3,h4⟩:=h'
   obtain⟨_,_,p,_⟩:=zcc I h3 h4
   cases (show z=Value.ref b from r')
   exact⟨SeqAt.RcAt.bool_tuple k1 p hu',SeqAt.RcNeAt.bool_tuple k1 p hu'⟩
  | lst es =>
   simp only[Has]at h'
   obtain⟨b,ys,rfl,h3,h4⟩:=h'
   obtain⟨_,_,p,_⟩:=zcd I h3 h4
   cases (show z=Value.ref b from r')
   exact⟨SeqAt.RcAt.bool_list k1 p hu',SeqAt.RcNeAt.bool_list k1 p hu'⟩
 | int k1 =>
  simp only[Has]at h
  subst h
  obtain⟨t1,rfl⟩:=r
  cases e with
  | non =>
   simp only[Has]at h'
   subst h'
   cases (show z=Value.none from r')
   exact⟨SeqAt.RcAt.int_none k1 t1,SeqAt.RcNeAt.int_none k1 t1⟩
  | bl k2 =>
   simp only[Has]at h'
   subst h'
   cases (show z=Value.bool k2 from r')
   exact⟨SeqAt.RcAt.int_bool k1 t1 k2,SeqAt.RcNeAt.int_bool k1 t1 k2⟩
  | int k2 =>
   simp only[Has]at h'
   subst h'
   obtain⟨t2,rfl⟩:=r'
   exact⟨SeqAt.RcAt.int_int k1 t1 k2 t2,SeqAt.RcNeAt.int_int k1 t1 k2 t2⟩
  | str k2 =>
   simp only[Has]at h'
   subst h'
   obtain⟨t2,rfl⟩:=r'
   exact⟨SeqAt.RcAt.int_str k1 t1 k2 t2,SeqAt.RcNeAt.int_str k1 t1 k2 t2⟩
  | tup es =>
   simp only[Has]at h'
   obtain⟨b,ys,rfl,h3,h4⟩:=h'
   obtain⟨_,_,p,_⟩:=zcc I h3 h4
   cases (show z=Value.ref b from r')
   exact⟨SeqAt.RcAt.int_tuple k1 t1 p hu',SeqAt.RcNeAt.int_tuple k1 t1 p hu'⟩
  | lst es =>
   simp only[Has]at h'
   obtain⟨b,ys,rfl,h3,h4⟩:=h'
   obtain⟨_,_,p,_⟩:=zcd I h3 h4
   cases (show z=Value.ref b from r')
   exact⟨SeqAt.RcAt.int_list k1 t1 p hu',SeqAt.RcNeAt.int_list k1 t1 p hu'⟩
 | str k1 =>
  simp only[Has]at h
  subst h
  obtain⟨t1,rfl⟩:=r
  cases e with
  | non =>
   simp only[Has]at h'
   subst h'
   cases (show z=Value.none from r')
   exact⟨SeqAt.RcAt.str_none k1 t1,SeqAt.RcNeAt.str_none k1 t1⟩
  | bl k2 =>
   simp only[Has]at h'
   subst h'
   cases (show z=Value.bool k2 from r')
   exact⟨SeqAt.RcAt.str_bool k1 t1 k2,SeqAt.RcNeAt.str_bool k1 t1 k2⟩
  | int k2 =>
   simp only[Has]at h'
   subst h'
   obtain⟨t2,rfl⟩:=r'
   exact⟨SeqAt.RcAt.str_int k1 t1 k2 t2,SeqAt.RcNeAt.str_int k1 t1 k2 t2⟩
  | str k2 =>
   simp only[Has]at h'
   subst h'
   obtain⟨t2,rfl⟩:=r'
   exact⟨SeqAt.RcAt.str_str k1 t1 k2 t2,SeqAt.RcNeAt.str_str k1 t1 k2 t2⟩
  | tup es =>
   simp only[Has]at h'
   obtain⟨b,ys,rfl,h3,h4⟩:=h'
   obtain⟨_,_,p,_⟩:=zcc I h3 h4
   cases (show z=Value.ref b from r')
   exact⟨SeqAt.RcAt.str_tuple k1 t1 p hu',SeqAt.RcNeAt.str_tuple k1 t1 p hu'⟩
  | lst es =>
   simp only[Has]at h'
   obtain⟨b,ys,rfl,h3,h4⟩:=h'
   obtain⟨_,_,p,_⟩:=zcd I h3 h4
   cases (show z=Value.ref b from r')
   exact⟨SeqAt.RcAt.str_list k1 t1 p hu',SeqAt.RcNeAt.str_list k1 t1 p hu'⟩
 | tup ds =>
  simp only[Has]at h
  obtain⟨a,xs,rfl,h1,h2⟩:=h
  cases (show u=Value.ref a from r)
  obtain⟨_,_,p,_⟩:=zcc I h1 h2
  have hi:A.in1.units+zaB ds < cLine:=by simp only[dep]at hu;rw[Around.in1_units];omega
  cases e with
  | non =>
   simp only[Has]at h'
   subst h'
   cases (show z=Value.none from r')
   exact⟨SeqAt.RcAt.tuple_none p hu',SeqAt.RcNeAt.tuple_none p hu'⟩
  | bl k2 =>
   simp only[Has]at h'
   subst h'
   cases (show z=Value.bool k2 from r')
   exact⟨SeqAt.RcAt.tuple_bool k2 p hu',SeqAt.RcNeAt.tuple_bool k2 p hu'⟩
  | int k2 =>
   simp only[Has]at h'
   subst h'
   obtain⟨t2,rfl⟩:=r'
   exact⟨SeqAt.RcAt.tuple_int k2 t2 p hu',SeqAt.RcNeAt.tuple_int k2 t2 p hu'⟩
  | str k2 =>
   simp only[Has]at h'
   subst h'
   obtain⟨t2,rfl⟩:=r'
   exact⟨SeqAt.RcAt.tuple_str k2 t2 p hu',SeqAt.RcNeAt.tuple_str k2 t2 p hu'⟩
  | tup es =>
   simp only[Has]at h'
   obtain⟨b,ys,rfl,h3,h4⟩:=h'
   cases (show z=Value.ref b from r')
   simp only[peq]
   exact rcTT I h1 h2 h3 h4 hu' fun us zs ru rz j u z e1 e2=>ze7 I ds es xs ys us zs A.in1 h2 h4 ru rz hi j u z e1 e2
  | lst es =>
   simp only[Has]at h'
   obtain⟨b,ys,rfl,h3,h4⟩:=h'
   cases (show z=Value.ref b from r')
   obtain⟨_,_,p',_⟩:=zcd I h3 h4
   exact⟨SeqAt.RcAt.tuple_list p p' hu',SeqAt.RcNeAt.tuple_list p p' hu'⟩
 | lst ds =>
  simp only[Has]at h
  obtain⟨a,xs,rfl,h1,h2⟩:=h
  cases (show u=Value.ref a from r)
  obtain⟨_,_,p,_⟩:=zcd I h1 h2
  have hi:A.in1.units+zaB ds < cLine:=by simp only[dep]at hu;rw[Around.in1_units];omega
  cases e with
  | non =>
   simp only[Has]at h'
   subst h'
   cases (show z=Value.none from r')
   exact⟨SeqAt.RcAt.list_none p hu',SeqAt.RcNeAt.list_none p hu'⟩
  | bl k2 =>
   simp only[Has]at h'
   subst h'
   cases (show z=Value.bool k2 from r')
   exact⟨SeqAt.RcAt.list_bool k2 p hu',SeqAt.RcNeAt.list_bool k2 p hu'⟩
  | int k2 =>
   simp only[Has]at h'
   subst h'
   obtain⟨t2,rfl⟩:=r'
   exact⟨SeqAt.RcAt.list_int k2 t2 p hu',SeqAt.RcNeAt.list_int k2 t2 p hu'⟩
  | str k2 =>
   simp only[Has]at h'
   subst h'
   obtain⟨t2,rfl⟩:=r'
   exact⟨SeqAt.RcAt.list_str k2 t2 p hu',SeqAt.RcNeAt.list_str k2 t2 p hu'⟩
  | tup es =>
   simp only[Has]at h'
   obtain⟨b,ys,rfl,h3,h4⟩:=h'
   cases (show z=Value.ref b from r')
   obtain⟨_,_,p',_⟩:=zcc I h3 h4
   exact⟨SeqAt.RcAt.list_tuple p p' hu',SeqAt.RcNeAt.list_tuple p p' hu'⟩
  | lst es =>
   simp only[Has]at h'
   obtain⟨b,ys,rfl,h3,h4⟩:=h'
   cases (show z=Value.ref b from r')
   simp only[peq]
   exact rcLL I h1 h2 h3 h4 hu' fun us zs ru rz j u z e1 e2=>ze7 I ds es xs ys us zs A.in1 h2 h4 ru rz hi j u z e1 e2
def rEqD (K:W.Frag):R2:=fun x y H Q=>∃ d e,Has K H d x∧Has K H e y∧dep d≤60∧Q (.bl (peq d e)) H
def rNeD (K:W.Frag):R2:=fun x y H Q=>∃ d e,Has K H d x∧Has K H e y∧dep d≤60∧Q (.bl (!peq d e)) H
theorem zhB (hu:X.A.units+64 < cLine):OpR X (compareOp .Eq) (rEqD X.K):=by
 intro pins s σ H x y v u Q I rx ry h
 obtain⟨d,e,h1,h2,hd,q⟩:=h
 exact(rc_D I X.A d e x y v u h1 h2 rx ry (by omega)).1 _ _ _ _ ⟨.bl _,H,I,rfl,q⟩
theorem zjI (hu:X.A.units+64 < cLine):OpR X (compareOp .NotEq) (rNeD X.K):=by
 intro pins s σ H x y v u Q I rx ry h
 obtain⟨d,e,h1,h2,hd,q⟩:=h
 exact(rc_D I X.A d e x y v u h1 h2 rx ry (by omega)).2 _ _ _ _ ⟨.bl _,H,I,rfl,q⟩
open Classical in
noncomputable def hitD (K:W.Frag) (H:Hp) (d:Dt) (u:Value):Bool:=decide (∃(v:V) (d':Dt),aR v u∧Has K H d' v∧peq d' d=true)
open Classical in
theorem zgO (I:Inv X pins σ H s) {d d':Dt} {v:V} {u:Value} (r:aR v u) (h:Has X.K H d' v):hitD X.K H d u=peq d' d:=by
 unfold hitD
 cases e:peq d' d with
 | true=>exact decide_eq_true ⟨v,d',r,h,e⟩
 | false =>
  refine decide_eq_false fun⟨v',d2,r',h',e'⟩=>?_
  rw[r'.inj r]at h'
  rw[Has.inj I _ _ _ h' h,e]at e'
  cases e'
theorem zdQ (I:Inv X pins σ H s) {d:Dt}:∀ {ds:List Dt} {vs:List V} {us:List Value},HasL X.K H ds vs→aQ vs us→us.any (hitD X.K H d)=ds.any fun d'=>peq d' d
 | [],vs,us,h,r=>by
  simp only[HasL]at h
  subst h
  cases r
  rfl
 | d' :: ds,vs,us,h,r=>by
  simp only[HasL]at h
  obtain⟨v,rs,rfl,h1,h2⟩:=h
  cases r with
  | cons r1 r2=>rw[List.any_cons,List.any_cons,zgO I r1 h1,zdQ I h2 r2]
theorem zc9 (I:Inv X pins σ H s) {A:Around} {d:Dt} {x:V} {ux:Value} (hx:Has X.K H d x) (rx:aR x ux):∀ {ds:List Dt} {vs:List V} {us:List Value},HasL X.K H ds vs→aQ vs us→A.units+zaB ds < cLine→∀ u∈us,SeqAt.EqAt A s u ux (hitD X.K H d u)
 | [],vs,us,h,r,hu,u,hm=>by
  simp only[HasL]at h
  subst h
  cases r
  cases hm
 | d' :: ds,vs,us,h,r,hu,u,hm=>by
  simp only[HasL]at h
  obtain⟨v,rs,rfl,h1,h2⟩:=h
  simp only[zaB]at hu
  cases r with
  | cons r1 r2 =>
   rcases List.mem_cons.mp hm with rfl | hm
   ·rw[zgO I r1 h1]
    exact zjT I d' d v x _ _ A h1 hx r1 rx (by omega)
   ·exact zc9 I hx rx h2 r2 (by omega) u hm
def rInD (K:W.Frag) (neg:Bool):R2:=fun x y H Q=>∃ p xs ds d,y=.ref p∧(SqL K H p xs∨SqT K H p xs)∧HasL K H ds xs∧Has K H d x∧zaB ds≤60∧Q (.bl (if neg then !(ds.any fun d'=>peq d' d) else ds.any fun d'=>peq d' d)) H
theorem zhA (hu:X.A.units+64 < cLine):OpR X (compareOp .In) (rInD X.K false):=by
 intro pins s σ H x y v u Q I rx ry h
 obtain⟨p,xs,ds,d,rfl,hq,hs,hx,hd,q⟩:=h
 cases ry
 have hin:X.A.in1.units+zaB ds < cLine:=by rw[Around.in1_units];omega
 rcases hq with hq | hq
 ·obtain⟨its,r,pl,hz⟩:=I.list hq
  refine SeqAt.in_listAt (hitD X.K H d) pl.isList (fun w hw=>zc9 I hx rx hs r hin w (by simpa using hw)) ⟨.bl _,H,I,rfl,?_⟩
  rw[show its.toArray.any (hitD X.K H d)=its.any (hitD X.K H d) by simp,zdQ I hs r]
  exact q
 ·obtain⟨its,r,pl,hz⟩:=I.tuple hq
  refine SeqAt.in_tupleAt (hitD X.K H d) pl (fun w hw=>zc9 I hx rx hs r hin w (by simpa using hw)) ⟨.bl _,H,I,rfl,?_⟩
  rw[show its.toArray.any (hitD X.K H d)=its.any (hitD X.K H d) by simp,zdQ I hs r]
  exact q
theorem zcO (hu:X.A.units+64 < cLine):OpR X (compareOp .NotIn) (rInD X.K true):=by
 intro pins s σ H x y v u Q I rx ry h
 obtain⟨p,xs,ds,d,rfl,hq,hs,hx,hd,q⟩:=h
 cases ry
 have hin:X.A.in1.units+zaB ds < cLine:=by rw[Around.in1_units];omega
 rcases hq with hq | hq
 ·obtain⟨its,r,pl,hz⟩:=I.list hq
  refine SeqAt.notIn_listAt (hitD X.K H d) pl.isList (fun w hw=>zc9 I hx rx hs r hin w (by simpa using hw)) ⟨.bl _,H,I,rfl,?_⟩
  rw[show its.toArray.any (hitD X.K H d)=its.any (hitD X.K H d) by simp,zdQ I hs r]
  exact q
 ·obtain⟨its,r,pl,hz⟩:=I.tuple hq
  refine SeqAt.notIn_tupleAt (hitD X.K H d) pl (fun w hw=>zc9 I hx rx hs r hin w (by simpa using hw)) ⟨.bl _,H,I,rfl,?_⟩
  rw[show its.toArray.any (hitD X.K H d)=its.any (hitD X.K H d) by simp,zdQ I hs r]
  exact q
def zlf (K:W.Frag):V→List V→Hp→VK→Prop:=fun x vs H Q=>∃ l xs ds y d j,x=.ref l∧vs=[y]∧H l=some (.lst xs)∧HasL K H ds xs∧Has K H d y∧zaB ds≤60 ∧
 (∃ dj,ds[j]?=some dj∧peq dj d=true)∧(∀ m dm,m < j→ds[m]?=some dm→peq dm d=false)∧Q (.int (j:Nat)) H
theorem zcP (hu:X.A.units+64 < cLine):MtM X "list.index" (zlf X.K):=by
 intro pins s σ H x vs v us Q I rx rv h
 obtain⟨l,xs,ds,y,d,j,rfl,rfl,hH,hs,hy,hd,⟨dj,ej,hj⟩,hno,q⟩:=h
 cases rx
 obtain⟨u,rfl,ru⟩:=rv.one
 obtain⟨z,its,n,r,hl,e⟩:=I.lstM hH
 have hlen:=hs.length
 have hjl:j < ds.length:=(List.getElem?_eq_some_iff.mp ej).1
 have hin:X.A.in1.units+zaB ds < cLine:=by rw[Around.in1_units];omega
 have at_:∀ m (hm:m < its.toArray.size),∃ dm,ds[m]?=some dm∧hitD X.K H d its.toArray[m]=peq dm d:=fun m hm=>by
  have hm':m < ds.length:=by rw[List.size_toArray]at hm;omega
  obtain⟨w,e1,e2⟩:=hs.getD (List.getElem?_eq_getElem hm')
  obtain⟨wv,e3,e4⟩:=r.get e1
  have e5:its.toArray[m]=wv:=by
   have:its[m]?=some wv:=e3
   simp only[List.getElem_toArray]
   rw[List.getElem?_eq_getElem (by rw[List.size_toArray]at hm;exact hm)]at this
   exact Option.some.inj this
  exact⟨_,List.getElem?_eq_getElem hm',by rw[e5];exact zgO I e4 e2⟩
 have hjs:j < its.toArray.size:=by rw[List.size_toArray];omega
 have hsm:(j:Int) < 2 ^ 63 - 1:=by
  have:=sizeLine_eq
  omega
 refine call_meets F.slot_list_index ⟨_,e,rfl⟩ F.entry_list_index (F.args_list_index_2 _ _) (SeqAt.list_indexAt l its.toArray n none #[] u (hitD X.K H d) j hjs hsm ?_ ?_) ⟨e,?_,?_⟩
 ·obtain⟨dm,e1,e2⟩:=at_ j hjs
  rw[ej]at e1
  cases e1
  rw[e2,hj]
 ·intro m hm hlt
  obtain⟨dm,e1,e2⟩:=at_ m hm
  rw[e2,hno m dm hlt e1]
 ·intro w hw
  exact zc9 I hy ru hs r hin w (by simpa using hw)
 ·exact⟨.int (j:Nat),H,I.tok _,⟨_,rfl⟩,q⟩
end
end L2
namespace L2
open PySem PySem.Spec PyProof.Rows
structure FB (P:Program) (w:World) (K:W.Frag) (mg:Str→Option Value) (base:Heap) (CX:CXT) (k:Nat) (x:Str) (f:Addr) (fd:FuncData) (ps:List Str) (sp:Sp):Prop where
 ok:FnOk P w K mg base CX k f fd ps sp
 b:ar K fd ps []
 kp:W.keepIn K (.ref f)=true
 m:mg x=some (.ref f)
theorem bsz (n:Nat) (h:n≤1000):n≤sizeLine:=Nat.le_of_lt (zdj h)
theorem zgx {k:Nat} {A:Around} (hr:aH k A):A.units+64 < cLine:=hr.units
theorem zbP {α:Type} {xs:List α} {i:Nat} {x:α} (h:xs[i]?=some x):xs.take (i+1)=xs.take i++[x]:=by
 rw[List.take_add_one,h]
 rfl
theorem ah {H:Hp} {p:Addr} (h:H p=none) (o:HO):ap H (upd H p o):=fun b u q=>by rw[ao (zaa q h)];exact q
theorem ap.upd {H0 H:Hp} {l:Addr} {o:HO} (s:ap H0 H) (h:H0 l=none):ap H0 (upd H l o):=fun b u q=>by rw[ao (zaa q h)];exact s b u q
theorem ap.kt {H H':Hp} (s:ap H H'):zaj H H':=zaj.of_same s
theorem ap.tup {K:W.Frag} {H H':Hp} {a:Addr} {xs:List V} (s:ap H H') (h:SqT K H a xs):SqT K H' a xs:=s.kt.sq h
structure Wk (J:It) (n:Nat) (Ok:Hp→Prop):Prop where
 stop:∀ i H,Ok H→n≤i→J.stop i H
 go:∀ i H,Ok H→i < n→J.go i H
theorem zhJ {lo:Int} {n:Nat}:Wk (Itr lo n) n (fun _=>True):=⟨fun _ _ _ h=>h,fun _ _ _ h=>h⟩
theorem zbI {K:W.Frag} {a:Addr} {xs:List V}:Wk (Itl K a) xs.length (fun H=>SqL K H a xs):=⟨fun _ _ h hi=>⟨xs,h,hi⟩,fun i _ h hi=>⟨xs,xs[i],h,by simp [hi]⟩⟩
theorem zf4 {K:W.Frag} {a:Addr} {xs:List V}:Wk (Itt K a) xs.length (fun H=>SqT K H a xs):=⟨fun _ _ h hi=>⟨xs,h,hi⟩,fun i _ h hi=>⟨xs,xs[i],h,by simp [hi]⟩⟩
def LcW (n:Nat) (D:Addr) (Pv:Nat→List V→Hp→Prop) (i m:Nat) (ys:List V) (H:Hp):Prop:=m=n - i∧i≤n∧ys.length≤i∧H D=some (.lst ys)∧Pv i ys H
def zjY (n:Nat) (D:Addr) (Pv:Nat→List V→Hp→Prop) (i:Nat) (ys:List V):VK:=fun y H3=>H3 D=some (.lst ys)∧ys.length < sizeLine∧∃ m',m' < n - i∧LcW n D Pv (i+1) m' (ys++[y]) (upd H3 D (.lst (ys++[y])))
theorem zb5 {n:Nat} {D:Addr} {Pv:Nat→List V→Hp→Prop} {i:Nat} {ys:List V} {y:V} {H3:Hp} (hn:n≤sizeLine) (hi:i < n) (hl:ys.length≤i) (hD:H3 D=some (.lst ys)) (p:Pv (i+1) (ys++[y]) (upd H3 D (.lst (ys++[y])))):zjY n D Pv i ys y H3 :=
 ⟨hD,by omega,n - (i+1),by omega,rfl,hi,by rw[List.length_append,List.length_singleton];omega,ad,p⟩
theorem zdd {J:It} {n:Nat} {Ok:Hp→Prop} {te:TE} {fv:St} {H1:Hp} {D:Addr} {R:Hp→Prop} (W:Wk J n Ok) (Pv:Nat→List V→Hp→Prop) (hok:∀ i ys H,Pv i ys H→Ok H) (h0:Pv 0 [] (upd H1 D (.lst [])))
  (hs:∀ i ys H' x H'',i < n→ys.length≤i→H' D=some (.lst ys)→Pv i ys H'→J.yld i H' x H''→te (some x :: fv) H'' (zjY n D Pv i ys)) (hd:∀ ys H',H' D=some (.lst ys)→Pv n ys H'→R H') :
  ∃ W:Nat→Nat→List V→Hp→Prop,(∃ m,W 0 m [] (upd H1 D (.lst [])))∧∀ i m ys H',W i m ys H'→H' D=some (.lst ys) ∧
   ((J.stop i H'∧R H')∨(J.go i H'∧∀ x H'',J.yld i H' x H''→te (some x :: fv) H'' fun y H3=>H3 D=some (.lst ys)∧ys.length < sizeLine∧∃ m',m' < m∧W (i+1) m' (ys++[y]) (upd H3 D (.lst (ys++[y]))))):=by
 refine⟨LcW n D Pv,⟨n,rfl,Nat.zero_le _,Nat.zero_le _,ad,h0⟩,?_⟩
 rintro i m ys H' ⟨rfl,hi,hl,hD,p⟩
 refine⟨hD,?_⟩
 by_cases hlt:i < n
 ·exact .inr ⟨W.go i H' (hok _ _ _ p) hlt,fun x H'' y=>hs i ys H' x H'' hlt hl hD p y⟩
 ·have e:i=n:=by omega
  subst e
  exact .inl ⟨W.stop i H' (hok _ _ _ p) (Nat.le_refl _),hd ys H' hD p⟩
theorem zcW {J:It} {n:Nat} {Ok:Hp→Prop} {g:TG} {tb:TS} {D:za3} {σ:St} {H:Hp} (W:Wk J n Ok) (Pv:Nat→St→Hp→Prop) (hok:∀ i σ H,Pv i σ H→Ok H) (h0:Pv 0 σ H)
  (hs:∀ i σ H x H',i < n→Pv i σ H→J.yld i H x H'→g x σ H' fun σ2 H2=>tb { D with nx:=Pv (i+1),ct:=Pv (i+1),bk:=D.nx } σ2 H2) (hd:∀ σ H,Pv n σ H→D.nx σ H) :
  ∃ W:Nat→Nat→St→Hp→Prop,(∃ m,W 0 m σ H)∧∀ i m σ H,W i m σ H →
   (J.stop i H∧D.nx σ H)∨(J.go i H∧∃ N:St→Hp→Prop,(∀ σ' H',N σ' H'→∃ m',m' < m∧W (i+1) m' σ' H')∧∀ x H',J.yld i H x H'→g x σ H' fun σ2 H2=>tb { D with nx:=N,ct:=N,bk:=D.nx } σ2 H2):=by
 refine⟨fun i m σ H=>m=n - i∧i≤n∧Pv i σ H,⟨n,by simp,Nat.zero_le _,h0⟩,?_⟩
 rintro i m σ H ⟨rfl,hi,p⟩
 by_cases hlt:i < n
 ·exact .inr ⟨W.go i H (hok _ _ _ p) hlt,Pv (i+1),fun σ' H' p'=>⟨n - (i+1),by omega,rfl,hlt,p'⟩,fun x H' y=>hs i σ H x H' hlt p y⟩
 ·have e:i=n:=by omega
  subst e
  exact .inl ⟨W.stop i H (hok _ _ _ p) (Nat.le_refl _),hd σ H p⟩
theorem Has.str' {K:W.Frag} {H:Hp} {x:Str}:Has K H (.str x) (.str x):=by simp only[Has]
theorem HasL.nil {K:W.Frag} {H:Hp}:HasL K H [] []:=by simp only[HasL]
theorem HasL.cons {K:W.Frag} {H:Hp} {d:Dt} {ds:List Dt} {v:V} {vs:List V} (h:Has K H d v) (r:HasL K H ds vs):HasL K H (d :: ds) (v :: vs):=by
 simp only[HasL]
 exact⟨v,vs,rfl,h,r⟩
theorem Has.tup' {K:W.Frag} {H:Hp} {ds:List Dt} {a:Addr} {xs:List V} (h:SqT K H a xs) (r:HasL K H ds xs):Has K H (.tup ds) (.ref a):=by
 simp only[Has]
 exact⟨a,xs,rfl,h,r⟩
theorem Has.lst' {K:W.Frag} {H:Hp} {ds:List Dt} {a:Addr} {xs:List V} (h:SqL K H a xs) (r:HasL K H ds xs):Has K H (.lst ds) (.ref a):=by
 simp only[Has]
 exact⟨a,xs,rfl,h,r⟩
def dP (t:Int × Int):Dt:=.tup [.int t.1,.int t.2]
end L2
namespace PySem
open Sem (wp)
namespace F
end F
section
variable {prog:Program} {w:World} {K:Type} [DecidableEq K] {knd:KeyKind prog w K} {A:Around}
end
end PySem
namespace L2
open PySem PySem.Spec PyProof.Rows
section
variable {κ:Type} [DecidableEq κ]
def za8 (kvs:List (κ × V)) (k:κ):Option V:=(kvs.find? fun kv=>decide (kv.1=k)).map (·.2)
def putK (kvs:List (κ × V)) (k:κ) (v:V):List (κ × V) :=
 if(kvs.any fun kv=>decide (kv.1=k))=true then kvs.map (fun kv=>if kv.1=k then(kv.1,v) else kv) else kvs++[(k,v)]
theorem zbD {p:κ × V} {r:List (κ × V)} {k:κ} (e:p.1=k):za8 (p :: r) k=some p.2:=by simp [za8,List.find?_cons,e]
theorem zbE {p:κ × V} {r:List (κ × V)} {k:κ} (e:¬p.1=k):za8 (p :: r) k=za8 r k:=by simp [za8,List.find?_cons,e]
theorem zdJ (k:κ):∀ kvs:List (κ × V),(kvs.any fun kv=>decide (kv.1=k))=(za8 kvs k).isSome
 | []=>rfl
 | p :: r=>by
  rw[List.any_cons]
  by_cases e:p.1=k
  ·simp only[zbD e,decide_eq_true e,Bool.true_or,Option.isSome_some]
  ·rw[zbE e,decide_eq_false e,Bool.false_or];exact zdJ k r
theorem zhL (k j:κ) (y:V):∀ kvs:List (κ × V),za8 (kvs.map fun kv=>if kv.1=k then(kv.1,y) else kv) j=(za8 kvs j).map fun x=>if j=k then y else x
 | []=>rfl
 | p :: r=>by
  have ih:=zhL k j y r
  rw[List.map_cons]
  by_cases h:p.1=k
  ·rw[if_pos h]
   by_cases e:p.1=j
   ·rw[zbD (p:=(p.1,y)) e,zbD e,Option.map_some,if_pos (e.symm.trans h)]
   ·rw[zbE (p:=(p.1,y)) e,zbE e,ih]
  ·rw[if_neg h]
   by_cases e:p.1=j
   ·rw[zbD (p:=p) e,zbD e,Option.map_some,if_neg (fun z=>h (e.trans z))]
   ·rw[zbE (p:=p) e,zbE e,ih]
theorem zgY (k j:κ) (y:V):∀ kvs:List (κ × V),za8 kvs k=none→za8 (kvs++[(k,y)]) j=if j=k then some y else za8 kvs j
 | [],_=>by
  by_cases e:k=j
  ·rw[if_pos e.symm];exact zbD (p:=(k,y)) e
  ·rw[if_neg (fun z=>e z.symm)];exact zbE (p:=(k,y)) e
 | p :: r,hn=>by
  rw[List.cons_append]
  have hk:¬p.1=k:=fun z=>by rw[zbD z]at hn;cases hn
  rw[zbE hk]at hn
  have ih:=zgY k j y r hn
  by_cases e:p.1=j
  ·rw[zbD e,zbD e,if_neg (fun z=>hk (e.trans z))]
  ·rw[zbE e,zbE e,ih]
theorem zhK (kvs:List (κ × V)) (k j:κ) (y:V):za8 (putK kvs k y) j=if j=k then some y else za8 kvs j:=by
 unfold putK
 by_cases a:(kvs.any fun kv=>decide (kv.1=k))=true
 ·rw[if_pos a,zhL]
  rw[zdJ]at a
  by_cases e:j=k
  ·obtain⟨x,hx⟩:=Option.isSome_iff_exists.mp a
   rw[if_pos e,e,hx,Option.map_some,if_pos rfl]
  ·rw[if_neg e]
   cases za8 kvs j with
   | none=>rfl
   | some x=>rw[Option.map_some,if_neg e]
 ·rw[if_neg a]
  refine zgY k j y kvs ?_
  rw[zdJ]at a
  cases q:za8 kvs k with
  | none=>rfl
  | some x=>rw[q]at a;exact(a rfl).elim
theorem zdh (kvs:List (κ × V)) (k:κ) (v:V):(putK kvs k v).length≤kvs.length+1:=by
 unfold putK
 split
 ·rw[List.length_map];omega
 ·rw[List.length_append,List.length_cons,List.length_nil];omega
theorem zcT.isSome_eq {o:Option V} {u:Option Value} (r:zcT o u):o.isSome=u.isSome:=by
 cases o with
 | none=>cases u with
  | none=>rfl
  | some _=>exact(show False from r).elim
 | some _=>cases u with
  | none=>exact(show False from r).elim
  | some _=>rfl
theorem KV.val {kvs:List (κ × V)} {vs:List (κ × Value)} (r:KV kvs vs) (k:κ):zcT (za8 kvs k) (valueAt vs k):=by
 unfold KV at r
 induction r with
 | nil=>exact True.intro
 | @cons p q ps qs h t ih =>
  obtain⟨h1,h2⟩:=h
  by_cases e:p.1=k
  ·have e':q.1=k:=h1.symm.trans e
   have b:valueAt (q :: qs) k=some q.2:=by simp [valueAt,List.find?_cons,e']
   rw[zbD e,b];exact h2
  ·have e':¬q.1=k:=fun z=>e (h1.trans z)
   have b:valueAt (q :: qs) k=valueAt qs k:=by simp [valueAt,List.find?_cons,e']
   rw[zbE e,b];exact ih
theorem KV.any {kvs:List (κ × V)} {vs:List (κ × Value)} (r:KV kvs vs) (k:κ):(kvs.any fun kv=>decide (kv.1=k))=vs.any fun kv=>decide (kv.1=k):=by
 unfold KV at r
 induction r with
 | nil=>rfl
 | cons h t ih=>rw[List.any_cons,List.any_cons,ih,h.1]
theorem KV.repl {kvs:List (κ × V)} {vs:List (κ × Value)} (r:KV kvs vs) (k:κ) {y:V} {u:Value} (ry:aR y u) :
  KV (kvs.map fun kv=>if kv.1=k then(kv.1,y) else kv) (vs.map fun kv=>if kv.1=k then(kv.1,u) else kv):=by
 unfold KV at r ⊢
 induction r with
 | nil=>exact .nil
 | @cons p q ps qs h t ih =>
  rw[List.map_cons,List.map_cons]
  refine .cons ?_ ih
  obtain⟨h1,h2⟩:=h
  by_cases e:p.1=k
  ·rw[if_pos e,if_pos (h1.symm.trans e)];exact⟨h1,ry⟩
  ·rw[if_neg e,if_neg (fun z=>e (h1.trans z))];exact⟨h1,h2⟩
theorem KV.put {kvs:List (κ × V)} {vs:List (κ × Value)} (r:KV kvs vs) (k:κ) {y:V} {u:Value} (ry:aR y u):KV (putK kvs k y) (stored vs k u):=by
 unfold putK stored
 rw[r.any k]
 by_cases e:(vs.any fun kv=>decide (kv.1=k))=true
 ·rw[if_pos e,if_pos e];exact r.repl k ry
 ·rw[if_neg e,if_neg e];exact Paired.snoc r ⟨rfl,ry⟩
theorem KV.length {kvs:List (κ × V)} {vs:List (κ × Value)} (r:KV kvs vs):kvs.length=vs.length:=Paired.length r
end
theorem zi8 {P:Program} {w:World} {k:Key} {u:Value} (r:aR (kV k) u):(zbh P w).is k u=true:=by
 cases k with
 | inl i=>obtain⟨t,e⟩:=(show ∃ t,u=Value.int i t from r);subst e;exact ziw P w i t
 | inr x=>obtain⟨t,e⟩:=(show ∃ t,u=Value.str x t from r);subst e;exact ziv P w x t
theorem zhd {P:Program} {w:World}:∀ {ks:List Key} {us:List Value},aQ (ks.map kV) us→ItemsAre (zbh P w) ks us
 | [],_,r=>by rw[List.map_nil]at r;cases r;exact .nil
 | k :: ks,_,r=>by
  rw[List.map_cons]at r
  cases r with
  | cons h t=>exact .cons (zi8 h) (zhd t)
abbrev KT (H:Hp):List (List Key × V)→List (List Key × Addr × Value)→Prop:=Paired fun p q=>p.1=q.1∧H q.2.1=some (.tup (p.1.map kV))∧aR p.2 q.2.2
theorem KT.val {H:Hp} {kvs:List (List Key × V)} {xs:List (List Key × Addr × Value)} (r:KT H kvs xs) (k:List Key):zcT (za8 kvs k) ((atKey xs k).map (·.2)):=by
 induction r with
 | nil=>exact True.intro
 | @cons p q ps qs h t ih =>
  obtain⟨h1,_,h2⟩:=h
  by_cases e:p.1=k
  ·have e':q.1=k:=h1.symm.trans e
   have b:atKey (q :: qs) k=some q.2:=by simp [atKey,List.find?_cons,e']
   rw[zbD e,b];exact h2
  ·have e':¬q.1=k:=fun z=>e (h1.trans z)
   have b:atKey (q :: qs) k=atKey qs k:=by simp [atKey,List.find?_cons,e']
   rw[zbE e,b];exact ih
theorem KT.repl {H:Hp} {kvs:List (List Key × V)} {xs:List (List Key × Addr × Value)} (r:KT H kvs xs) (k:List Key) {y:V} {u:Value} (ry:aR y u) :
  KT H (kvs.map fun kv=>if kv.1=k then(kv.1,y) else kv) (xs.map (putAt k u)):=by
 induction r with
 | nil=>exact .nil
 | @cons p q ps qs h t ih =>
  rw[List.map_cons,List.map_cons]
  refine .cons ?_ ih
  obtain⟨h1,h2,h3⟩:=h
  unfold putAt
  by_cases e:p.1=k
  ·rw[if_pos e,if_pos (h1.symm.trans e)];exact⟨h1,h2,ry⟩
  ·rw[if_neg e,if_neg (fun z=>e (h1.trans z))];exact⟨h1,h2,h3⟩
theorem KT.put {H:Hp} {kvs:List (List Key × V)} {xs:List (List Key × Addr × Value)} (r:KT H kvs xs) (k:List Key) {b:Addr} {y:V} {u:Value} (hb:H b=some (.tup (k.map kV))) (ry:aR y u) :
  KT H (putK kvs k y) (storedH xs k b u):=by
 have e:(kvs.any fun kv=>decide (kv.1=k))=(atKey xs k).isSome:=by
  rw[zdJ,(r.val k).isSome_eq,Option.isSome_map]
 unfold putK storedH
 rw[e]
 by_cases q:(atKey xs k).isSome=true
 ·rw[if_pos q,if_pos q];exact r.repl k ry
 ·rw[if_neg q,if_neg q];exact Paired.snoc r ⟨rfl,hb,ry⟩
theorem KT.keeps {H H':Hp} {kvs:List (List Key × V)} {xs:List (List Key × Addr × Value)} (r:KT H kvs xs) (ht:∀ b ys,H b=some (.tup ys)→H' b=some (.tup ys)):KT H' kvs xs :=
 Paired.mapP r fun _ _ z=>⟨z.1,ht _ _ z.2.1,z.2.2⟩
section
variable {P:Program} {w:World} {H:Hp} {h:Heap} {a:Addr}
theorem rd_of {u:HO} (ok:HOk P w H h) (e:Rd H a u):zaY P w H h a u:=e.ok ok
theorem dk_rd {kvs:List (Key × V)} (ok:HOk P w H h) (e:Rd H a (.dK kvs)):kvs.length≤sizeLine∧(a == sysModules)=false∧∃ vs,KV kvs vs∧h.DictOf (zbh P w) a vs :=
 show zaY P w H h a (.dK kvs) from rd_of ok e
theorem zja {kvs:List (Key × V)} (ok:HOk P w H h) (e:H a=some (.dK kvs)):kvs.length≤sizeLine∧(a == sysModules)=false∧∃ vs,KV kvs vs∧h.DictOf (zbh P w) a vs:=dk_rd ok (.inl e)
theorem zhF {ks:List Key} (ok:HOk P w H h) (e:H a=some (.tup (ks.map kV))):(tupleKind (zbh P w)).is h ks a:=by
 obtain⟨_,its,r,o,h1,h2,n,h3⟩:=(show zaY P w H h a (.tup (ks.map kV)) from ok a _ e)
 exact⟨o,its.toArray,n,h1,h2,h3,by simpa using zhd r⟩
theorem dt_rd {kvs:List (List Key × V)} (ok:HOk P w H h) (e:Rd H a (.dT kvs)):kvs.length≤sizeLine∧(a == sysModules)=false ∧
  ∃ xs,KT H kvs xs∧h.DictOfH (tupleKind (zbh P w)) a xs:=by
 obtain⟨z,y,xs,r,o,es,ep,h1,h2,h3,h4,h5⟩:=(show zaY P w H h a (.dT kvs) from rd_of ok e)
 refine⟨z,y,xs,r,o,es,ep,h1,h2,h3,h4,fun x hx=>?_,h5⟩
 have all:∀ {l:List (List Key × V)} {m:List (List Key × Addr × Value)},KT H l m→∀ x∈m,(tupleKind (zbh P w)).is h x.1 x.2.1:=by
  intro l m q
  induction q with
  | nil=>intro x hx;exact nomatch hx
  | @cons p q ps qs hq t ih =>
   intro x hx
   rcases List.mem_cons.mp hx with e | hx
   ·subst e
    exact zhF ok (by rw[←hq.1];exact hq.2.1)
   ·exact ih x hx
 exact all r x hx
theorem dt_of {kvs:List (List Key × V)} (ok:HOk P w H h) (e:H a=some (.dT kvs)):kvs.length≤sizeLine∧(a == sysModules)=false ∧
  ∃ xs,KT H kvs xs∧h.DictOfH (tupleKind (zbh P w)) a xs:=dt_rd ok (.inl e)
end
def zfH (H:Hp) (a:Addr) (y:V) (r:Option V):Prop :=
 (∃ kvs k,Rd H a (.dK kvs)∧y=kV k∧r=za8 kvs k)∨∃ kvs k b,Rd H a (.dT kvs)∧y=.ref b∧H b=some (.tup (k.map kV))∧r=za8 kvs k
def zfG (H:Hp) (a:Addr) (y v:V) (H':Hp):Prop :=
 (∃ kvs k,H a=some (.dK kvs)∧y=kV k∧kvs.length < sizeLine∧H'=upd H a (.dK (putK kvs k v))) ∨
 ∃ kvs k b,H a=some (.dT kvs)∧y=.ref b∧H b=some (.tup (k.map kV))∧kvs.length < sizeLine∧H'=upd H a (.dT (putK kvs k v))
theorem zfH.k {H:Hp} {a:Addr} {kvs:List (Key × V)} {k:Key} (e:H a=some (.dK kvs)):zfH H a (kV k) (za8 kvs k):=.inl ⟨kvs,k,.inl e,rfl,rfl⟩
theorem zfH.t {H:Hp} {a b:Addr} {kvs:List (List Key × V)} {k:List Key} (e:H a=some (.dT kvs)) (eb:H b=some (.tup (k.map kV))):zfH H a (.ref b) (za8 kvs k):=.inr ⟨kvs,k,b,.inl e,rfl,eb,rfl⟩
theorem zfG.k {H:Hp} {a:Addr} {kvs:List (Key × V)} {k:Key} {v:V} (e:H a=some (.dK kvs)) (hl:kvs.length < sizeLine):zfG H a (kV k) v (upd H a (.dK (putK kvs k v))):=.inl ⟨kvs,k,e,rfl,hl,rfl⟩
theorem zfG.t {H:Hp} {a b:Addr} {kvs:List (List Key × V)} {k:List Key} {v:V} (e:H a=some (.dT kvs)) (eb:H b=some (.tup (k.map kV))) (hl:kvs.length < sizeLine) :
  zfG H a (.ref b) v (upd H a (.dT (putK kvs k v))):=.inr ⟨kvs,k,b,e,rfl,eb,hl,rfl⟩
section
variable {X:Cx} {pins:List (Addr × Obj)} {σ:St} {H:Hp} {s:Shared} {a:Addr} {y v:V} {u r:Value} {o:Option V} {A:Around} {E:Value→Shared→Prop}
theorem Inv.big (I:Inv X pins σ H s):sysModules < s.heap.objs.size:=by
 have h:mainGlobals < s.heap.objs.size:=(I.mod.glob.keeps I.bk).lt
 exact Nat.lt_trans (by decide) h
theorem d_in {Q:Value→Shared→Prop} (hu:A.units+1 < cLine) (I:Inv X pins σ H s) (g:zfH H a y o) (ry:aR y u) (h:∀ s',Inv X pins σ H s'→Q (.bool o.isSome) s') :
  wpAny (model X.prog X.w) A (compareOp .In u (.ref a)) Q E s:=by
 rcases g with ⟨kvs,k,e,ey,l⟩ | ⟨kvs,k,b,e,ey,eb,l⟩
 ·subst ey
  obtain⟨z,hd,vs,rel,dd⟩:=dk_rd I.hok e
  refine wpAny_in_of (zi8 ry) hd dd.mapOf ?_
  rw[←(rel.val k).isSome_eq,←l]
  exact h _ (I.tok _)
 ·subst ey
  cases (show u=Value.ref b from ry)
  obtain⟨z,hd,xs,rel,dd⟩:=dt_rd I.hok e
  refine wpAny_in_heap (tupleKind_room_in1 hu) (zhF I.hok eb) hd dd ?_
  have q:=(rel.val k).isSome_eq
  rw[Option.isSome_map]at q
  rw[←q,←l]
  exact h _ (I.tok _)
theorem zgR {h':Heap} {t':Nat} {ob:HO} (I:Inv X pins σ H s) (mu:Mut (H a)) (hs:Heap.SameBut a s.heap h') (he:∃ q,h'.get? a=some q) (new:zaY X.prog X.w (upd H a ob) h' a ob) :
  Inv X pins σ (upd H a ob) { s with heap:=h',toks:=t' } :=
 I.write (x:=a) (e:=a) mu (.inl rfl) (fun b q hb z=>(hs.2 b hb).trans z) he new
theorem zjU {P:Program} {w:World} {H':Hp} {h':Heap} {kvs:List (Key × V)} {vs:List (Key × Value)} (z:kvs.length≤sizeLine) (hd:(a == sysModules)=false) (rel:KV kvs vs) (dd:h'.DictOf (zbh P w) a vs) :
  zaY P w H' h' a (.dK kvs):=⟨z,hd,vs,rel,dd⟩
theorem zku {H':Hp} {Q:Unit→Shared→Prop} (hu:A.units+1 < cLine) (I:Inv X pins σ H s) (g:zfG H a y v H') (ry:aR y u) (rv:aR v r) (h:∀ s',Inv X pins σ H' s'→Q () s') :
  wpAny (model X.prog X.w) A (setItem (.ref a) u r) Q E s:=by
 rcases g with ⟨kvs,k,e,ey,l,eH⟩ | ⟨kvs,k,b,e,ey,eb,l,eH⟩
 ·subst ey eH
  obtain⟨z,hd,vs,rel,dd⟩:=zja I.hok e
  have hz:vs.length≤sizeLine:=by rw[←rel.length];exact z
  have hl:(putK kvs k v).length≤sizeLine:=by have:=zdh kvs k v;omega
  refine wpAny_setItem_pairs (hsz:=hz) (zi8 ry) dd fun h' dd' hs=>h _ ?_
  have he:∃ q,h'.get? a=some q:=let ⟨q,_,_,hq,_⟩:=dd';⟨q,hq⟩
  exact zgR I (by rw[e];exact True.intro) hs he (zjU hl hd (rel.put k rv) dd')
 ·subst ey eH
  cases (show u=Value.ref b from ry)
  obtain⟨z,hd,xs,rel,dd⟩:=dt_of I.hok e
  have hz:xs.length≤sizeLine:=by rw[←Paired.length rel];exact z
  have hl:(putK kvs k v).length≤sizeLine:=by have:=zdh kvs k v;omega
  refine wpAny_setItem_heap (hsz:=hz) (tupleKind_room_in1 hu) (zhF I.hok eb) dd fun h' dd' hs=>h _ ?_
  obtain⟨q,es,ep,hq,h2,h3,h4,_,h5⟩:=dd'
  refine zgR I (by rw[e];exact True.intro) hs ⟨q,hq⟩ ⟨hl,hd,_,(rel.put k eb rv).keeps fun c ys ec=>?_,q,es,ep,hq,h2,h3,h4,h5⟩
  rw[ao (zdq ec e (fun z=>nomatch z))]
  exact ec
end
section
variable {X:Cx} {pins:List (Addr × Obj)} {σ:St} {H:Hp} {s:Shared} {a:Addr} {kvs:List (Key × V)} {k:Key} {u:Value} {A:Around} {E:Value→Shared→Prop}
end
def tDIn (ty td:TE):TE:=fun σ H Q=>ty σ H fun y H1=>td σ H1 fun x H2=>∃ a o,x=.ref a∧zfH H2 a y o∧Q (.bl o.isSome) H2
def sDPut (td ty tv:TE):TS:=fun D σ H=>tv σ H fun v H1=>td σ H1 fun x H2=>ty σ H2 fun y H3=>∃ a H4,x=.ref a∧zfG H3 a y v H4∧D.nx σ H4
section
variable {X:Cx} {o i e value:Expr} {pos pos' tpos:Pos} {td ty tv:TE}
theorem pc_din (hu:X.A.units+1 < cLine) (hi:PE X i ty) (ho:PE X o td):PC X .In i o (tDIn ty td):=by
 intro pins s σ H Q I h
 refine thn (hi pins s σ H _ I h) fun iv s1 ⟨y,H1,I1,ry,q1⟩=>thn (ho pins s1 σ H1 _ I1 q1) fun u s2 ⟨x,H2,I2,rx,a,ov,ex,g,q2⟩=>?_
 subst ex
 obtain rfl:u=Value.ref a:=rx
 exact d_in hu I2 g ry fun s3 I3=>⟨.bl ov.isSome,H2,I3,rfl,q2⟩
theorem zlj (hu:X.A.units+1 < cLine) (ho:PE X o td) (hi:PE X i ty) (hv:PE X value tv) (hs:swapsWith value (some (.Subscript o i pos')) pos.line X.env=pure false) :
  PS X (.Assign [.Subscript o i pos'] value pos) (sDPut td ty tv):=by
 intro pins s σ H D I h
 refine wpAny_Assign_Subscript (thn (hv pins s σ H _ I h) fun r s1 ⟨v,H1,I1,rv,q1⟩=>thn (ho pins s1 σ H1 _ I1 q1) fun u s2 ⟨x,H2,I2,rx,q2⟩=>thn (hi pins s2 σ H2 _ I2 q2) fun iv s3 ⟨y,H3,I3,ry,a,H4,ex,g,q3⟩=>?_) hs
 subst ex
 obtain rfl:u=Value.ref a:=rx
 exact zku hu I3 g ry rv fun s4 I4=>⟨σ,H4,I4,q3⟩
end
theorem zk2 {P:Program} {w:World} {H:Hp} (h:Heap) (hb:sysModules < h.objs.size):zaY P w H (h.push { cls:=.type "dict",data:=.dict #[] }) h.objs.size (.dK []) :=
 ⟨Nat.zero_le _,beq_eq_false_iff_ne.mpr (Ne.symm (Nat.ne_of_lt hb)),[],.nil,Heap.DictOf.new h⟩
def tDNewK:TE:=fun _ H Q=>∀ p,H p=none→Q (.ref p) (upd H p (.dK []))
section
variable {X:Cx} {pos:Pos}
theorem zkJ:PE X (.Dict [] [] pos) tDNewK:=fun pins s σ H Q I h =>
 wpAny_Dict_empty ⟨.ref s.heap.objs.size,_,I.laid (a:=s.heap.objs.size) (o:=.dK []) (t':=s.toks) (fun _ _ q=>Heap.get?_push_of_some _ q) (Nat.le_refl _) (zk2 s.heap I.big),rfl,h _ (I.hok.fresh (Nat.le_refl _))⟩
end
def zcw (kvs more:List (Key × V)):List (Key × V):=more.foldl (fun acc kv=>putK acc kv.1 kv.2) kvs
theorem KV.merge:∀ {more:List (Key × V)} {rs:List (Key × Value)} {kvs:List (Key × V)} {vs:List (Key × Value)},KV more rs→KV kvs vs→KV (zcw kvs more) (merged vs rs):=by
 intro more rs kvs vs r
 unfold KV at r
 induction r generalizing kvs vs with
 | nil=>intro q;exact q
 | @cons p q ps qs h t ih =>
  intro r0
  have e:KV (putK kvs p.1 p.2) (stored vs q.1 q.2):=by
   have:=r0.put p.1 h.2
   rw[←h.1];exact this
  exact ih e
theorem zdn:∀(more kvs:List (Key × V)),(zcw kvs more).length≤kvs.length+more.length
 | [],kvs=>by show kvs.length≤kvs.length+0;omega
 | p :: r,kvs=>by
  have h1:=zdn r (putK kvs p.1 p.2)
  have h2:=zdh kvs p.1 p.2
  show(zcw (putK kvs p.1 p.2) r).length≤_
  rw[List.length_cons];omega
section
variable {X:Cx} {pins:List (Addr × Obj)} {σ:St} {H:Hp} {s:Shared} {a:Addr} {y d:V} {u r:Value} {o:Option V} {A:Around} {E:Value→Shared→Prop}
end
section
variable {X:Cx} {o e f:Expr} {apos cpos:Pos} {td ty tx:TE}
end
section
variable {X:Cx} {pins:List (Addr × Obj)} {σ:St} {H:Hp} {s:Shared} {a:Addr} {kvs:List (Key × V)} {A:Around} {E:Value→Shared→Prop}
end
section
variable {X:Cx} {pins:List (Addr × Obj)} {σ:St} {H:Hp} {s:Shared} {a:Addr} {y:V} {u:Value} {A:Around} {E:Value→Shared→Prop}
end
end L2
namespace L2
open PySem PySem.Spec PyProof.Rows
section
variable {X:Cx}
end
section
variable {κ:Type} [DecidableEq κ]
end
end L2
namespace L2
open PySem PySem.Spec PyProof.Rows
section
variable {X:Cx}
end
end L2
namespace L2
open PySem PySem.Spec PyProof.Rows
def zjc (K:W.Frag) (H:Hp) (q:Addr) (ps:List Int):Prop:=SqL K H q (ps.map V.int)∨SqT K H q (ps.map V.int)
theorem zjc.same {K:W.Frag} {H H':Hp} {q:Addr} {ps:List Int} (h:zjc K H q ps) (s:ap H H'):zjc K H' q ps:=h.elim (fun z=>.inl (s.seq z)) fun z=>.inr (s.tup z)
def zaq:List Int→List Int→List Int
 | acc,[]=>acc
 | acc,p :: ps=>zaq (if p∈acc then acc else acc++[p]) ps
structure Dset (H:Hp) (d:Addr) (hs:List Int):Prop where
 ex:∃ kvs:List (Key × V),H d=some (.dK kvs)∧(∀ n:Int,(za8 kvs (Sum.inl n)).isSome=decide (n∈hs))∧kvs.length≤hs.length
theorem Dset.same {H H':Hp} {d:Addr} {hs:List Int} (h:Dset H d hs) (s:ap H H'):Dset H' d hs:=by
 obtain⟨kvs,h1,h2,h3⟩:=h.ex
 exact⟨kvs,s _ _ h1,h2,h3⟩
def nf (row held:List Int):List Int:=zaq [] (row.filter fun p=>decide (-p∉held))
end L2
namespace L2
open PySem PySem.Spec PyProof.Rows
section
variable {X:Cx}
end
end L2
namespace L2
open PySem PySem.Spec PyProof.Rows
section
variable {X:Cx} {N':List Str} {scope:Scope} {cl:List (Str × Addr)} {fp:List Addr} {pins:List (Addr × Obj)} {σ:St} {H:Hp} {s:Shared}
end
section
variable {X:Cx} {N':List Str} {scope:Scope} {elt iter tg:Expr} {L:Nat} {pos:Pos} {wi:TI} {g:TG} {te:TE} {ix:List Nat}
end
section
variable {X:Cx} {N':List Str} {scope:Scope} {elt iter c tg:Expr} {L:Nat} {pos:Pos} {wi:TI} {g:TG} {tc:TT} {te:TE} {ix:List Nat}
end
end L2
namespace L2
open PySem PySem.Spec PyProof.Rows
theorem Inv.turnedLaid {X:Cx} {pins:List (Addr × Obj)} {σ:St} {H:Hp} {s:Shared} {h':Heap} {fp:List Addr} {a:Addr} {o:HO} {t':Nat} (I:Inv X pins σ H s) (hf:∀ b∈fp,zbT X pins H b) (k:∀ b u,b∉fp→s.heap.get? b=some u→h'.get? b=some u) (hp:s.heap.objs.size≤a) (new:zaY X.prog X.w (upd H a o) h' a o) :
  Inv X pins σ (upd H a o) { s with heap:=h',toks:=t' }:=by
 have hn:=I.hok.fresh hp
 have nfp:∀ b u,H b=some u→b∉fp:=fun b u e z=>by rw[(hf b z).1]at e;cases e
 have un:Un (frs X.stack) fp H (upd H a o) s.heap h':=⟨fun b u q _ _ hx=>k b u hx q,fun b u q _ _ hx=>⟨u.slots,k b u hx q⟩,fun b u q n _=>by rw[ao (Nat.ne_of_lt (Nat.lt_of_lt_of_le (Heap.lt_size q) hp))];exact n,
  fun b u q hx=>⟨u,k b u hx q⟩,fun b xs q=>by rw[ao (zaa q hn)];exact q,fun b u xs q=>by rw[ao (zaa q hn)];exact q,fun b ps q=>⟨#[],by rw[ao (zaa q hn),q];simp⟩⟩
 have hok:HOk X.prog X.w (upd H a o) h':=fun b u e=>by
  by_cases hb:b=a
  ·subst hb;rw[ad]at e;cases e;exact new
  ·rw[ao hb]at e
   refine(I.hok b u e).stay (fun c v hc q=>k c v ?_ q) (fun c q=>by rw[ao (zaa q hn)];exact q) fun c xs q=>by rw[ao (zaa q hn)];exact q
   rcases hc with z | z
   ·rw[z];exact nfp b u e
   ·exact nfp c _ z
 exact I.call (g':=s.gens) (d':=s.drawn) (ch:=fp) un hok I.bare fun b hb=>⟨(hf b hb).2.2.2.1,(hf b hb).2.1,(hf b hb).2.2.2.2.1,(hf b hb).2.2.2.2.2⟩
def Ite (K:W.Frag) (a:Addr):It :=
 ⟨fun i H=>∃ xs x,SqL K H a xs∧xs[i]?=some x,fun i H x H'=>∃ p y,x=.ref p∧H p=none∧H'=upd H p (.tup [.int i,y])∧∀ xs,SqL K H a xs→xs[i]?=some y,fun i H=>∃ xs,SqL K H a xs∧xs.length≤i⟩
theorem zk9 {K:W.Frag} {a:Addr} {xs:List V}:Wk (Ite K a) xs.length (fun H=>SqL K H a xs):=⟨fun _ _ h hi=>⟨xs,h,hi⟩,fun i _ h hi=>⟨xs,xs[i],h,by simp [hi]⟩⟩
theorem zj0 {P:Program} {w:World} {K:W.Frag} {elts:List Expr} {x1:Nat} {pos:Pos} (a e it:Addr) (hei:e≠it):Turn P w K (.Tuple elts x1 pos) (Ite K a) [e,it] e (fun i h=>(∃ old,IsEnum h e it ((i:Nat):Int) old)∧h.IsListIter it a i) where
 mem:=by simp
 obj:=fun i h st b hb=>by
  obtain⟨⟨old,he⟩,o,ho,hc,hd⟩:=st
  rcases List.mem_cons.mp hb with rfl | hb
  ·exact⟨_,he,fun v z=>by
    have z':Data.fields _=Data.cell v:=z
    cases z'⟩
  ·have e':=List.mem_singleton.mp hb
   subst e'
   exact⟨o,ho,fun v z=>by rw[hd]at z;cases z⟩
 keep:=fun i h h' st k=>⟨by
  obtain⟨old,he⟩:=st.1
  exact⟨old,k e (by simp) _ he⟩,st.2.at fun o q=>k it (by simp) o q⟩
 item:=by
  intro X hP hw hK hc i pins s σ H E I hf st hg
  subst hP hw hK
  obtain⟨xs,x,hq,hx⟩:=hg
  obtain⟨its,rv,p,hz⟩:=I.list hq
  obtain⟨u,hu,ru⟩:=rv.get hx
  obtain⟨⟨old,he⟩,hit⟩:=st
  obtain⟨oi,hoi,hci,hdi⟩:=id hit
  refine wpAny_pyNext_enum_item he hit p.isList (x:=u) (by simpa using hu) hei fun h' ho st' hT hsz hk=>?_
  refine⟨_,rfl,wpAny_letOwnedTupleGo_enum ho fun h2 he2 hs2=>?_⟩
  replace hs2:Heap.SameBut e h' h2:=hs2
  have heH:e < s.heap.objs.size:=Heap.lt_size he
  have hiH:it < s.heap.objs.size:=Heap.lt_size hoi
  have hT2:h2.get? s.heap.objs.size=some { cls:=.type "tuple",data:=.seq #[.int i s.toks,u] }:=(hs2.2 _ (Nat.ne_of_gt heH)).trans hT
  have kk:∀ b o,b∉[e,it]→s.heap.get? b=some o→h2.get? b=some o:=fun b o hb q=>by
   have hbe:b≠e:=fun z=>hb (by simp [z])
   have hbi:b≠it:=fun z=>hb (by simp [z])
   exact(hs2.2 b hbe).trans (hk b o hbe hbi q)
  have new:zaY X.prog X.w (upd H s.heap.objs.size (.tup [.int i,x])) h2 s.heap.objs.size (.tup [.int i,x]):=by
   refine⟨?_,[.int i s.toks,u],.cons ⟨_,rfl⟩ (.cons ru .nil),_,hT2,?_⟩
   ·exact Nat.le_of_lt (zdj (show 2≤1000 by decide))
   ·first | exact⟨rfl,rfl,_,rfl⟩ | exact⟨rfl,_,rfl⟩ | exact⟨rfl,rfl⟩
  refine⟨.ref s.heap.objs.size,_,I.turnedLaid (t':=s.toks+1) hf kk (Nat.le_refl _) new,rfl,⟨_,x,rfl,I.fresh,rfl,fun ys hy=>by rw[I.list_inj hy hq];exact hx⟩,⟨⟨u,by simpa using he2⟩,?_⟩,?_⟩
  ·exact st'.at fun o q=>(hs2.2 it (Ne.symm hei)).trans q
  ·intro b hb
   have hlt':b < s.heap.objs.size:=by
    rcases List.mem_cons.mp hb with rfl | hb
    ·exact heH
    ·rw[List.mem_singleton.mp hb];exact hiH
   rw[ao (Nat.ne_of_lt hlt')]
   exact(hf b hb).1
 done:=by
  intro X hP hw hK hc i pins s σ H E I hf st hg
  subst hP hw hK
  obtain⟨xs,hq,hx⟩:=hg
  obtain⟨its,rv,p,hz⟩:=I.list hq
  obtain⟨⟨old,he⟩,hit⟩:=st
  obtain⟨f0,f1,f2,f3,f4,f5⟩:=hf it (by simp)
  have hl:=rv.length
  exact wpAny_pyNext_enum_end (I.ok.hd hc) he hit p.isList (by simp;omega) fun h' eb=>⟨rfl,I.turned (t':=s.toks) (fun b o hb q=>eb b o hb q) f0 f1 f3 f4 f5⟩
 self:=fun _ _ _ _ _ st h=>by
  obtain⟨⟨old,he⟩,_⟩:=st
  exact wpAny_pyIter_enum he h
section
variable {X:Cx}
def iEnum (K:W.Frag) (ta:TA):TI:=fun σ H R=>ta σ H fun vs H1=>∃ a,vs=[.ref a]∧(∃ xs,SqL K H1 a xs)∧R (Ite K a) H1
theorem zlk {elts:List Expr} {x1:Nat} {pt:Pos} {a:Expr} {ta:TA} {p pos:Pos} (hg:Gl X "enumerate") (hm:X.mg "enumerate"=none) (ha:PA X [a] ta) (hs:starEach [a] X.env=[(false,eval a X.env)]:=by rfl):PI X (.Tuple elts x1 pt) (.Call (.Name "enumerate" p) [a] [] pos) (iEnum X.K ta):=by
 intro pins s σ H R I h
 refine Call_ (ze3 I hg hm boot_enumerate (PyProof.Rows.callWith_type1 (thn (ha pos pins s σ H _ I h) fun us s1 ⟨vs,H1,I1,r1,q1⟩=>?_) hs rfl))
 obtain⟨a,e,⟨xs,hq⟩,q⟩:=q1
 subst e
 obtain⟨u,rfl,ru⟩:=r1.one
 cases ru
 obtain⟨its,rv,p,hz⟩:=I1.list hq
 refine call_enumerate_list p.isList fun h' he hit hz' kk=>?_
 refine wpAny_pyIter_enum he ?_
 have I2:Inv X pins σ H1 { s1 with heap:=h' }:=I1.kept (t':=s1.toks) kk
 refine⟨_,[s1.heap.objs.size+1,s1.heap.objs.size],_,Ite X.K a,H1,rfl,I2,zj0 a (s1.heap.objs.size+1) s1.heap.objs.size (Nat.succ_ne_self _),⟨⟨_,he⟩,hit⟩,fun b hb=>?_,q⟩
 have hle:s1.heap.objs.size≤b:=by
  rcases List.mem_cons.mp hb with rfl | hb
  ·omega
  ·rw[List.mem_singleton.mp hb];exact Nat.le_refl _
 exact I1.fpOk hle (I1.hok.fresh hle)
end
end L2
namespace L2
open PySem PySem.Spec PyProof.Rows
section
variable {X:Cx}
end
end L2
namespace L2
open PySem PySem.Spec PyProof.Rows
section
variable {X:Cx} {tg:Expr}
def zle:V→List V→Hp→VK→Prop:=fun x vs H Q=>∃ d b kvs more,x=.ref d∧vs=[.ref b]∧d≠b∧H d=some (.dK kvs)∧H b=some (.dK more)∧kvs.length+more.length≤sizeLine∧Q .non (upd H d (.dK (zcw kvs more)))
theorem zkk:MtR X "dict.update" zle:=by
 intro pins s σ H x vs v us Q I rx rv h
 obtain⟨d,b,kvs,more,rfl,rfl,hne,hd,hb,hz,q⟩:=h
 cases rx
 obtain⟨u,rfl,ru⟩:=rv.one
 cases ru
 obtain⟨z1,sy1,vs1,rel1,dd1⟩:=zja I.hok hd
 obtain⟨z2,sy2,vs2,rel2,dd2⟩:=zja I.hok hb
 have l1:=rel1.length
 have l2:=rel2.length
 refine call_meetsIn PySem.F.slot_dict_update dd1.typeIs PySem.F.entry_dict_update (PySem.F.args_dict_update_2 _ _) (meets_dict_update (zbh X.prog X.w) d b hne sy2) ⟨vs1,vs2,dd1,dd2,by omega,fun h' g1 g2 hs=>?_⟩
 have lm:=zdn more kvs
 have new:=zjU (H':=upd H d (.dK (zcw kvs more))) (h':=h') (by omega) sy1 (rel2.merge rel1) g1
 have he:∃ q,h'.get? d=some q:=let ⟨q,_,_,hq,_⟩:=g1;⟨q,hq⟩
 exact⟨.non,_,zgR I (by rw[hd];exact True.intro) hs he new,rfl,q⟩
end
end L2
namespace L2
open PySem PySem.Spec PyProof.Rows
set_option maxRecDepth 100000
section
variable {prog:Program} {w:World} {A:Around} {E:Value→Shared→Prop} {s:Shared} {J:Addr} {fp wr:List Addr} {G:Array GenState→Array GenState→Prop} {n:Nat} {P:Nat→Value→Prop} {St:Nat→Shared→Prop}
end
end L2
namespace L2
open PySem PySem.Spec PyProof.Rows
set_option maxRecDepth 100000
section
variable {prog:Program} {w:World} {A:Around} {R:Result→Shared→Prop} {J:Addr} {fp wr:List Addr} {n:Nat} {P:Nat→Value→Prop} {St:Nat→Heap→Prop} {kw:List (Str × Value)}
end
section
variable {prog:Program} {w:World} {A:Around} {E:Value→Shared→Prop} {s:Shared}
end
section
variable {X:Cx}
end
end L2
namespace HT
open PySem PyProof.Rows
section
variable {prog:Program} {w:World} {A:Around} {E:Value→Shared→Prop} {s:Shared}
end
end HT
namespace L2
open PySem PySem.Spec PyProof.Rows
section
variable {X:Cx}
end
end L2
namespace L2
open PySem PySem.Spec PyProof.Rows
section
variable {X:Cx} {tg:Expr}
end
end L2
namespace L2
open PySem PySem.Spec PyProof.Rows
set_option maxRecDepth 100000
section
variable {X:Cx}
end
end L2
namespace L2
open PySem PySem.Spec PyProof.Rows
set_option maxRecDepth 100000
section
variable {X:Cx}
end
end L2
namespace L2
open PySem PySem.Spec PyProof.Rows
section
variable {P:Program} {w:World}
abbrev Sgn:=Str × List Key
def zhI (P:Program) (w:World) (h:Heap) (k:Sgn) (a:Addr):Prop :=
 ∃(o:Obj) (t:Tok) (q:Addr) (n:Nat),h.get? a=some o∧o.cls=.type "tuple"∧o.data=.seq #[.str k.1 t,.ref q] n∧IsTupleKey (zbh P w) h k.2 q
theorem zhI.inj {h:Heap} {a:Addr} {x y:Sgn} (hx:zhI P w h x a) (hy:zhI P w h y a):x=y:=by
 obtain⟨o,t,q,n,ho,_,hd,hi⟩:=hx
 obtain⟨o',t',q',n',ho',_,hd',hi'⟩:=hy
 cases ho.symm.trans ho'
 have e:=hd.symm.trans hd'
 injection e with e _
 have e2:[Value.str x.1 t,.ref q]=[Value.str y.1 t',.ref q']:=congrArg Array.toList e
 injection e2 with e3 e4
 injection e3 with e5 _
 injection e4 with e6 _
 injection e6 with e7
 subst e7
 exact Prod.ext e5 (hi.inj hi')
variable {A:Around} {E:Value→Shared→Prop} {s:Shared}
end
section
variable {prog:Program} {w:World} {K:Type} [DecidableEq K] {knd:HeapKind prog w K} {A:Around} {E:Value→Shared→Prop} {s:Shared}
end
end L2
namespace L2
open PySem PySem.Spec PyProof.Rows
section
variable {X:Cx}
end
end L2
namespace HT
open PySem PySem.Spec PyProof.Rows
section
variable {prog:Program} {w:World} {A:Around} {E:Value→Shared→Prop} {s:Shared}
end
end HT
namespace L2
open PySem PySem.Spec PyProof.Rows
section
variable {X:Cx} {e st:Expr} {te ts:TE} {pos p2:Pos}
end
end L2
namespace L2
open PySem PySem.Spec PyProof.Rows
section
variable {prog:Program} {w:World} {A:Around} {E:Value→Shared→Prop} {s:Shared}
def TuI (h:Heap) (it t:Addr) (i:Nat) (xs:Array Value):Prop:=h.IsTupleIter it t i∧h.IsTuple t xs
theorem TuI.ext {h h':Heap} {it t b:Addr} {i:Nat} {xs:Array Value} (x:TuI h it t i xs) (hs:Heap.ExtBut b h h') (h1:it≠b) (h2:t≠b):TuI h' it t i xs:=⟨x.1.extBut hs h1,x.2.extBut hs h2⟩
end
section
variable {prog:Program} {w:World} {A:Around} {E:Value→Shared→Prop} {s:Shared}
end
end L2
namespace L2
open PySem PySem.Spec PyProof.Rows
section
variable {X:Cx}
theorem zgF {e:Expr} {f:Str} {pos:Pos} {ta:TE} (K:W.Frag) (hK:X.K=K) (he:PE X e ta) (hb:attributeBase e f X.env (eval e X.env)=eval e X.env):PE X (.Attribute e f pos) (tFld K ta f):=by
 subst hK
 exact zaU he hb
end
end L2
namespace L2
open PySem PySem.Spec PyProof.Rows
section
variable {X:Cx}
end
end L2
namespace L2
open PySem PySem.Spec PyProof.Rows
section
variable {prog:Program} {w:World} {A:Around} {E:Value→Shared→Prop} {s:Shared}
end
end L2
namespace L2
open PySem PySem.Spec PyProof.Rows
end L2
namespace L2
open PySem PySem.Spec PyProof.Rows
section
variable {prog:Program} {w:World} {A:Around} {E:Value→Shared→Prop} {s:Shared}
end
end L2
namespace L2
open PySem PySem.Spec PyProof.Rows
section
variable {X:Cx}
end
end L2
namespace L2
open PySem PySem.Spec PyProof.Rows
section
variable {P:Program} {w:World} {H H':Hp} {h h' B:Heap} {a:Addr} {o:HO}
theorem zaY.there (x:zaY P w H h a o):∃ ob,h.get? a=some ob:=by
 cases o with
 | lst xs=>obtain⟨_,_,_,_,q⟩:=x;exact⟨_,q⟩
 | tup xs=>obtain⟨_,_,_,ob,q,_⟩:=x;exact⟨_,q⟩
 | dK kvs=>obtain⟨_,_,_,_,o,_,_,q,_⟩:=x;exact⟨_,q⟩
 | dT kvs=>obtain⟨_,_,_,_,o,_,_,q,_⟩:=x;exact⟨_,q⟩
 | set S n=>obtain⟨o,_,_,_,q,_⟩:=x;exact⟨_,q⟩
 | ins C dx fs=>obtain⟨_,_,_,q,_⟩:=x;exact⟨_,q⟩
 | own y=>exact x
 | xd fs=>obtain⟨_,⟨_,_,_,q,_⟩,_⟩:=x;exact⟨_,q⟩
 | rng lo hi=>obtain⟨_,_,_,q⟩:=x;exact⟨_,q⟩
 | frz ob u=>exact⟨_,x.1⟩
 | tbl ps=>exact⟨_,(show h.get? a=some _ from x)⟩
 | met f y=>exact⟨_,(show h.get? a=some _ from x)⟩
 | ext φ=>exact x.2.1
def Trk (H:Hp) (h B:Heap):Prop:=∀ b ob,H b≠none→h.get? b=some ob→B.get? b=some ob
def Old (fs:List Addr) (H:Hp) (h B:Heap):Prop:=∀ b ob,h.get? b=some ob→b∉fs→∃ ob',B.get? b=some ob'∧(H b=none→ob'=ob)
theorem HOk.stays (ok:HOk P w H h) (t:Trk H h B) (k:B.StaysIn h'):HOk P w H h':=fun a o e =>
 (ok a o e).stay (fun b u hb q=>k b u (t b u (hb.elim (fun z=>by rw[z,e];exact nofun) fun z=>by rw[z];exact nofun) q)) (fun _ q=>q) fun _ _ q=>q
theorem Trk.stays (ok:HOk P w H h) (t:Trk H h B) (k:B.StaysIn h'):Trk H h' B:=fun b ob hb e=>by
 cases q:H b with
 | none=>exact absurd q hb
 | some u =>
  obtain⟨ob1,e1⟩:=(ok b u q).there
  have z:=t b ob1 hb e1
  have z2:=k b ob1 z
  rw[e]at z2
  cases z2
  exact z
end
def CX1 (P:Program) (w:World):CXT:=fun outer H s E e s'=>∃(ea C:Addr) (H':Hp) (B:Heap) (a0:Value),e=.ref ea∧s'.os=s.os∧AllBare s'.gens∧Un (frs outer) [] H H' s.heap s'.heap∧HOk P w H' s'.heap ∧
 Heap.FlyingW B outer ea (.ref C) a0 s'.heap∧Trk H' s'.heap B∧Old (frs outer) H s.heap B∧E (.ref C) none H'
structure Xe1 (X:Cx) (E:XK):Prop where
 xe:X.xe=fun e s'=>wpAny (model X.prog X.w) X.A (leaving X.env e) (fun _ s''=>CX1 X.prog X.w X.outer X.H₀ X.s₀ E e s'') (fun e' s''=>CX1 X.prog X.w X.outer X.H₀ X.s₀ E e' s'') s'
 stk:X.stack=X.env :: X.outer
 fr:X.env.frame=some X.env.locals
 ex:X.ex=[]
section
variable {X:Cx} {E:XK} {pins:List (Addr × Obj)} {σ:St} {H H':Hp} {s s':Shared} {B:Heap} {ea C:Addr} {a0:Value}
theorem ziW (hx:Xe1 X E) (I:Inv X pins σ H s) {s'':Shared} (os:s''.os=s.os) (bare:AllBare s''.gens) (u:Un (frs X.stack) [] H H' s.heap s'.heap) (ok:HOk X.prog X.w H' s'.heap)
  (fl:Heap.FlyingW B X.outer ea (.ref C) a0 s''.heap) (sm:s'.heap.UpToSlots s''.heap) (trk:Trk H' s'.heap B) (old:Old (frs X.stack) H s.heap B) (hE:E (.ref C) none H') :
  CX1 X.prog X.w X.outer X.H₀ X.s₀ E (.ref ea) s'':=by
 have hfs:frs X.stack=X.env.locals :: X.fs:=by
  rw[hx.stk]
  unfold frs
  rw[List.filterMap_cons,hx.fr]
  rfl
 have nx:∀ b,b∉X.ex:=fun b hb=>by rw[hx.ex]at hb;cases hb
 have nf:∀ b ob,X.s₀.heap.get? b=some ob→b∉X.fs→b∉frs X.stack:=fun b ob e hb z=>by
  rw[hfs]at z
  rcases List.mem_cons.mp z with z | z
  ·exact absurd (Nat.lt_of_lt_of_le (Heap.lt_size e) I.ok.above) (by rw[z];exact Nat.lt_irrefl _)
  ·exact hb z
 have st:B.StaysIn s''.heap:=fl.1
 have U:=I.base
 have old':Old X.fs X.H₀ X.s₀.heap B:=fun b ob e hb=>by
  obtain⟨o1,e1⟩:=U.there b ob e (nx b)
  obtain⟨o',eB,hB⟩:=old b o1 e1 (nf b ob e hb)
  refine⟨o',eB,fun n=>?_⟩
  have k:=U.keep b ob e n hb (nx b)
  rw[e1]at k
  cases k
  exact hB (U.free b ob e n (nx b))
 have slot:∀ b ob,X.s₀.heap.get? b=some ob→X.H₀ b=none→b∈X.fs→∃ sl,s''.heap.get? b=some { ob with slots:=sl }:=fun b ob e n hb=>by
  obtain⟨sl,k⟩:=U.slot b ob e n hb (nx b)
  obtain⟨sl2,k2⟩:=u.any k (U.free b ob e n (nx b)) (by simp)
  obtain⟨_,o3,e3,hd⟩:=I.ok.funs.mem hb
  rw[e]at e3
  cases e3
  obtain⟨sl3,k3⟩:=sm b _ k2 fun vs q=>hd vs q
  exact⟨sl3,k3⟩
 refine⟨ea,C,H',B,a0,rfl,os.trans I.os,bare,⟨fun b ob e n hb _=>?_,fun b ob e n hb _=>slot b ob e n hb,fun b ob e n _=>?_,fun b ob e _=>?_,fun b xs q=>u.tups b xs (U.tups b xs q),fun b ob xs q=>u.frzs b ob xs (U.frzs b ob xs q),fun b ps q=>?_⟩,
  ok.stays trk st,fl,Trk.stays ok trk st,old',hE⟩
 ·obtain⟨o',eB,hB⟩:=old' b ob e hb
  rw[hB n]at eB
  exact st b ob eB
 ·obtain⟨o1,e1⟩:=U.there b ob e (nx b)
  exact u.free b o1 e1 (U.free b ob e n (nx b)) (by simp)
 ·by_cases hb:b∈X.fs
  ·obtain⟨sl,k⟩:=slot b ob e (I.ok.frf b hb) hb
   exact⟨_,k⟩
  ·obtain⟨o',eB,_⟩:=old' b ob e hb
   exact⟨o',st b o' eB⟩
 ·obtain⟨m1,e1⟩:=U.tbls b ps q
  obtain⟨m2,e2⟩:=u.tbls b _ e1
  exact⟨m1++m2,by rw[e2,Array.append_assoc]⟩
theorem zav (hx:Xe1 X E):zbC (CX1 X.prog X.w) X E:=by
 intro pins σ H s e s' I h
 obtain⟨ea,C,H',B,a0,rfl,os,bare,u,ok,fl,trk,old,hE⟩:=h
 rw[hx.xe]
 have fl2:=fl
 rw[hx.stk]at fl2
 have hfr:X.A.frames=some (X.env :: X.outer):=by rw[I.ok.frames,hx.stk]
 exact wpAny_leaves_onW hfr hx.fr fl2 fun h' fl' sm=>ziW hx I os bare u ok fl' sm trk old hE
theorem zk8 {h':Heap} {vs:List Value} (hx:Xe1 X E) (I:Inv X pins σ H s) (m:Heap.MadeExcOf s.heap h' ea (.ref C) vs) (hE:E (.ref C) none H):X.xe (.ref ea) { s with heap:=h' }:=by
 rw[hx.xe]
 have hl:s.heap.FunFrames (W.hideAll s.heap (frs X.stack)) X.stack:=W.funFrames_hide I.stack fun env he a ha=>List.mem_filterMap.mpr ⟨env,he,ha⟩
 have hl2:s.heap.FunFrames (W.hideAll s.heap (frs X.stack)) (X.env :: X.outer):=by
  have z:=hl
  rw[show X.stack=X.env :: X.outer from hx.stk]at z ⊢
  exact z
 have hfr:X.A.frames=some (X.env :: X.outer):=by rw[I.ok.frames,hx.stk]
 refine wpAny_leaves_madeW (base:=W.hideAll s.heap (frs X.stack)) (h:=s.heap) hfr hx.fr (fun b ob q=>W.of_hideAll _ q) hl2 m fun h'' t fl _ _ sm=>?_
 refine ziW (s':={ s with heap:=h' }) hx I rfl I.bare (Un.kept m.keeps) (I.hok.kept m.keeps) fl sm (fun b ob hb q=>?_) (fun b ob q hb=>⟨ob,W.hideAll_get _ q hb,fun _=>rfl⟩) hE
 cases z:H b with
 | none=>exact absurd z hb
 | some v =>
  obtain⟨o1,e1⟩:=(I.hok b v z).there
  have e2:=m.keeps b o1 e1
  have q':h'.get? b=some ob:=q
  rw[q']at e2
  cases e2
  exact W.hideAll_get _ e1 fun y=>hb (I.stkFree b y)
theorem own_at {K:W.Frag} {hp:Heap} {bmB:List Value} {newId:String} (XI:K.In hp) (q:W.excIn K C bmB newId=true) :
  ∃ bm N nm qn bs hdct sn sub ab col dd k0 k1 k2 k3 k5 mN,hp.get? C=some (excClassObj nm qn C N bs bm hdct sn sub ab col dd k0 k1 k2 k3 k5 newId)∧hp.Ns N mN∧mN "__init__"=none∧OwnTail hp bmB bm:=by
 unfold W.excIn at q
 split at q
 ·rename_i d1 c1 l1 hC1
  split at q
  ·rename_i C2 bm2 y0 y1 y2 y3 n2 y5 hm2 hs2
   simp only[Bool.and_eq_true,beq_iff_eq,Bool.not_eq_true']at q
   obtain⟨⟨⟨⟨⟨rfl,rfl⟩,hdl⟩,htl⟩,hno⟩,hin⟩:=q
   obtain⟨nm,bs,mro,ns,qn,hd,sn,sub,ab,col,del⟩:=c1
   dsimp only at hm2 hdl hno hin
   subst hm2 hdl
   have hsl:l1=#[y0,y1,y2,y3,some (.builtin n2),y5]:=by
    obtain⟨l⟩:=l1
    simp only at hs2
    rw[hs2]
   subst hsl
   exact⟨bm2,ns,nm,qn,bs,hd,sn,sub,ab,col,d1,y0,y1,y2,y3,y5,_,XI _ _ hC1,.of_isNs (W.isNs_of_in XI hno),W.nsMap_none_of_in XI hno hin,W.tail_of_in XI htl⟩
  ·cases q
 ·cases q
variable {e0:Expr} {zbs:List Expr} {t:TA} {x:Str} {np cpos pos:Pos} {Bn newId initId:String} {bm:List Value}
def tRaise (E:XK) (C:Addr) (t:TA):TS:=fun _ σ H=>t σ H fun vs H1=>vs.length≤sizeLine∧E (.ref C) none H1
theorem zcD (hx:Xe1 X E) (hc:X.calm=true) (hg:Gl X x) (hm:X.mg x=some (.ref C)) (F:ExcBaseFacts Bn newId initId bm) (q:W.excIn X.K C bm newId=true) (ha:PA X (e0 :: zbs) t)
  (hdb:(x == ("__debug__":Str))=false:=by decide) (hse:starEach (e0 :: zbs) X.env=(false,eval e0 X.env) :: starEach zbs X.env:=by rfl) (hpl:(backTo cpos (starEach zbs X.env)).any (·.1)=false:=by rfl) :
  PS X (.Raise (some (.Call (.Name x np) (e0 :: zbs) [] cpos)) none pos) (tRaise E C t):=by
 intro pins s σ H D I h
 obtain⟨tl,N,nm,qn,bs,hdct,sn,sub,ab,col,dd,k0,k1,k2,k3,k5,mN,hC,hN,hni,T⟩:=own_at (C:=C) I.mod.kin q
 refine wpAny_Raise_call_subT (C:=C) (nm:=nm) (q:=qn) (N:=N) (bs:=bs) (bm:=tl) (hdct:=hdct) (sn:=sn) (sub:=sub) (ab:=ab) (col:=col) (dd:=dd) (k0:=k0) (k1:=k1) (k2:=k2) (k3:=k3) (k5:=k5) F (mN:=mN)
  (T.hasType F.hasBase) (I.ok.hd hc) (by rw[hse];show(false||(backTo cpos (starEach zbs X.env)).any (·.1))=false;rw[hpl];rfl) hni (zcI I hg hm ⟨rfl,?_⟩ hdb)
 have g:=ha cpos pins s σ H _ I h
 rw[hse]at g ⊢
 refine Calls.evalArgs_plain (wpAny_mono g (fun vs s2 ⟨ws,H2,I2,r2,hz,hE⟩=>?_) fun _ _ y=>y)
 exact⟨rfl,by rw[←r2.length];exact hz,I2.bk _ _ hC,hN.keeps I2.bk,T.keeps I2.bk,fun h' ea m=>zk8 hx I2 m hE⟩
end
end L2
namespace L2
open PySem PySem.Spec PyProof.Rows
abbrev Cx.susp (X:Cx) (ea:Addr):Cx:={ X with A:=X.A.mark (some (.ref ea)),calm:=false,xe:=fun _ _=>False }
abbrev Cx.tryc (X:Cx) (pins:List (Addr × Obj)) (E1:Value→Shared→Prop):Cx:={ X with pn:=X.pn++pins,xe:=E1 }
section
variable {X:Cx} {pins:List (Addr × Obj)} {σ:St} {H H':Hp} {s s':Shared} {B:Heap} {ea C:Addr} {a0:Value} {D:za3} {f:Flow} {E1:Value→Shared→Prop}
theorem Inv.susp (I:Inv X pins σ H s) (ea:Addr):Inv (X.susp ea) pins σ H s :=
 ⟨⟨I.ok.mod,I.ok.kind,I.ok.glob,I.ok.blt,I.ok.above,I.ok.inj,I.ok.has,I.ok.cab,fun z=>(by cases z),I.ok.frames,I.ok.stk,I.ok.exf,I.ok.bs,I.ok.bsz,I.ok.noex,I.ok.exfs,I.ok.funs,I.ok.frf⟩,I.os,I.bare,I.base,I.loc,I.cell,I.free,I.freeC,I.pin,I.hok,I.len⟩
theorem Inv.unsusp (ok:X.Ok) (I:Inv (X.susp ea) pins σ H s):Inv X pins σ H s:=⟨ok,I.os,I.bare,I.base,I.loc,I.cell,I.free,I.freeC,I.pin,I.hok,I.len⟩
theorem SP.unsusp (ok:X.Ok) (h:SP (X.susp ea) pins D f s):SP X pins D f s:=by
 cases f with
 | next=>obtain⟨a,b,I,q⟩:=h;exact⟨a,b,I.unsusp ok,q⟩
 | brk=>obtain⟨a,b,I,q⟩:=h;exact⟨a,b,I.unsusp ok,q⟩
 | cont=>obtain⟨a,b,I,q⟩:=h;exact⟨a,b,I.unsusp ok,q⟩
 | ret u=>obtain⟨v,a,b,I,r,q⟩:=h;exact⟨v,a,b,I.unsusp ok,r,q⟩
theorem Inv.tryc (I:Inv X pins σ H s) (E1:Value→Shared→Prop):Inv (X.tryc pins E1) [] σ H s :=
 ⟨⟨I.ok.mod,I.ok.kind,I.ok.glob,I.ok.blt,I.ok.above,I.ok.inj,I.ok.has,I.ok.cab,I.ok.hd,I.ok.frames,I.ok.stk,I.ok.exf,I.ok.bs,I.ok.bsz,I.ok.noex,I.ok.exfs,I.ok.funs,I.ok.frf⟩,I.os,I.bare,I.base,I.loc,I.cell,I.free,I.freeC,
  fun p hp=>I.pin p (by simpa using hp),I.hok,I.len⟩
theorem Inv.untryc {pins1:List (Addr × Obj)} (ok:X.Ok) (I:Inv (X.tryc pins E1) pins1 σ H s):Inv X pins σ H s :=
 ⟨ok,I.os,I.bare,I.base,I.loc,I.cell,I.free,I.freeC,fun p hp=>I.pin p (List.mem_append_left _ hp),I.hok,I.len⟩
theorem SP.untryc {pins1:List (Addr × Obj)} (ok:X.Ok) (h:SP (X.tryc pins E1) pins1 D f s):SP X pins D f s:=by
 cases f with
 | next=>obtain⟨a,b,I,q⟩:=h;exact⟨a,b,I.untryc ok,q⟩
 | brk=>obtain⟨a,b,I,q⟩:=h;exact⟨a,b,I.untryc ok,q⟩
 | cont=>obtain⟨a,b,I,q⟩:=h;exact⟨a,b,I.untryc ok,q⟩
 | ret u=>obtain⟨v,a,b,I,r,q⟩:=h;exact⟨v,a,b,I.untryc ok,r,q⟩
structure zeY (X:Cx) (pins:List (Addr × Obj)) (σ:St) (H:Hp) (s:Shared) (H':Hp) (B:Heap) (s':Shared):Prop where
 I:Inv X pins σ H s
 os:s'.os=s.os
 bare:AllBare s'.gens
 u:Un (frs X.stack) [] H H' s.heap s'.heap
 ok:HOk X.prog X.w H' s'.heap
 trk:Trk H' s'.heap B
 old:Old (frs X.stack) H s.heap B
theorem zeY.inv (c:zeY X pins σ H s H' B s') {h':Heap} (st:B.StaysIn h') (sm:s'.heap.UpToSlots h'):Inv X pins σ H' { s' with heap:=h' }:=by
 have slot:∀ b ob,s.heap.get? b=some ob→H b=none→b∈frs X.stack→∃ sl,h'.get? b=some { ob with slots:=sl }:=fun b ob e n hb=>by
  obtain⟨sl,k⟩:=c.u.slot b ob e n hb (by simp)
  obtain⟨_,o3,e3,hd⟩:=c.I.stack.mem hb
  rw[e]at e3
  cases e3
  obtain⟨sl3,k3⟩:=sm b _ k fun vs q=>hd vs q
  exact⟨sl3,k3⟩
 refine c.I.call' (s':={ s' with heap:=h' }) (ch:=[]) c.os ⟨fun b ob e n hb _=>?_,fun b ob e n hb _=>slot b ob e n hb,fun b ob e n _=>c.u.free b ob e n (by simp),fun b ob e _=>?_,c.u.tups,c.u.frzs,c.u.tbls⟩ (c.ok.stays c.trk st) c.bare (fun b hb=>by cases hb)
 ·obtain⟨o',eB,hB⟩:=c.old b ob e hb
  rw[hB n]at eB
  exact st b ob eB
 ·by_cases hb:b∈frs X.stack
  ·obtain⟨sl,k⟩:=slot b ob e (c.I.stkFree b hb) hb
   exact⟨_,k⟩
  ·obtain⟨o',eB,_⟩:=c.old b ob e hb
   exact⟨o',st b o' eB⟩
def PH (X:Cx) (hs:List ExceptHandler) (th:Addr→TS):Prop :=
 ∀(pins:List (Addr × Obj)) (σ:St) (H:Hp) (s:Shared) (H':Hp) (B:Heap) (s':Shared) (D:za3) (ea C:Addr) (a0:Value) (h':Heap),zeY X pins σ H s H' B s'→Heap.FlyingW B X.stack ea (.ref C) a0 h'→s'.heap.UpToSlots h'→th C D σ H' →
  wpAny (model X.prog X.w) X.A (handleBy (.ref ea) X.env hs) (SP X pins D) X.xe { s' with heap:=h' }
theorem zhW {hs:List ExceptHandler}:PH X hs (fun _=>tNever):=fun _ _ _ _ _ _ _ _ _ _ _ _ _ _ _ z=>z.elim
def tExc (K:W.Frag) (C1:Addr) (ts:TS) (th:Addr→TS):Addr→TS:=fun C D σ H=>∃ b,W.exmOne K (.ref C) (.ref C1)=some b∧if b=true then ts D σ H else th C D σ H
theorem ziK {x:Str} {np pos:Pos} {b0:Stmt} {suite:List Stmt} {zbs:List ExceptHandler} {C1:Addr} {ts:TS} {th:Addr→TS} (hg:Gl X x) (hm:X.mg x=some (.ref C1)) (hs:∀ ea,PSs (X.susp ea) (b0 :: suite) ts) (hr:PH X zbs th)
  (hdb:(x == ("__debug__":Str))=false:=by decide):PH X (.ExceptHandler (some (.Name x np)) none (b0 :: suite) pos :: zbs) (tExc X.K C1 ts th):=by
 intro pins σ H s H' B s' D ea C a0 h' c fl sm h
 obtain⟨b,hb,h⟩:=h
 have I:=c.inv fl.1 sm
 have I':=I.susp ea
 obtain⟨oe,he,hcl⟩:=fl.there
 have LT:W.Looks (model X.prog X.w) h' (typeOf (.ref ea)) (.ref C):=hcl ▸ (W.Looks.ld he).andThen .now
 refine wpAny_handleBy_cons (codeAny_handlers_test (zcI (X:=X.susp ea) I' hg hm ?_ hdb)) (by intro q;cases q)
 refine W.exm_one (M:=model X.prog X.w) (K:=X.K) (h:=h') I.kIn LT hb _ _ _ _ (fun _ _ q=>q) ?_
 cases b with
 | true =>
  refine codeAny_handlers_suite (lands_againW fl fun h2 fl2 sm2=>?_)
  have I2:=(c.inv fl2.1 (sm.trans sm2)).susp ea
  exact wpAny_mono (hs ea pins _ σ H' D I2 h) (fun f s2 q=>q.unsusp I.ok) fun _ _ q=>q.elim
 | false=>exact hr pins σ H s H' B s' D ea C a0 h' c fl sm h
def tTry (n:Nat) (tb:XK→TS) (th:Addr→TS):TS:=fun D σ H=>tb (fun c _ H'=>∃ C,c=.ref C∧∀ σ1:St,σ1.length=n→th C D σ1 H') D σ H
theorem ps_try {body:List Stmt} {h0:ExceptHandler} {hs:List ExceptHandler} {pos:Pos} {tb:XK→TS} {th:Addr→TS} (hst:X.stack=X.env :: X.outer) (hfr:X.env.frame=some X.env.locals)
  (hb:∀(pins:List (Addr × Obj)) (E1:Value→Shared→Prop) (Eb:XK),zbC (CX1 X.prog X.w) (X.tryc pins E1) Eb→PSs (X.tryc pins E1) body (tb Eb)) (hh:PH X (h0 :: hs) th) :
  PS X (.Try body (h0 :: hs) [] [] pos) (tTry X.N.length tb th):=by
 intro pins s σ H D I h
 refine wpAny_Try_except ?_
 have hp:zbC (CX1 X.prog X.w) (X.tryc pins (fun e s1=>wpAny (model X.prog X.w) X.A (noteFrame e X.env) (fun _ s2=>wpAny (model X.prog X.w) X.A (setFlight e none) (fun _ s3=>wpAny (model X.prog X.w) X.A (handleBy e X.env (h0 :: hs)) (SP X pins D) X.xe s3) X.xe s2) X.xe s1))
   (fun c _ H'=>∃ C,c=.ref C∧∀ σ1:St,σ1.length=X.N.length→th C D σ1 H'):=by
  intro pins1 σ1 H1 s1 e s' I1 hcx
  obtain⟨ea,C,H',B,a0,rfl,os,bare,u,ok,fl,trk,old,C',ec,hE⟩:=hcx
  cases ec
  have c:zeY X pins σ1 H1 s1 H' B s':=⟨I1.untryc I.ok,os,bare,u,ok,trk,old⟩
  have fl':Heap.FlyingW B (X.env :: X.outer) ea (.ref C) a0 s'.heap:=by
   have z:=fl
   rw[show(X.tryc pins _).stack=X.env :: X.outer from hst]at z
   exact z
  have hfs:X.A.frames=some (X.env :: X.outer):=by rw[I.ok.frames,hst]
  refine wpAny_looks_onW hfs hfr fl' fun h2 fl2 sm2=>?_
  refine wpAny_landsW fl2 fun h3 fl3 sm3=>?_
  rw[←hst]at fl3
  exact hh pins σ1 H1 s1 H' B s' D ea C a0 h3 c fl3 (sm2.trans sm3) (hE σ1 I1.len)
 refine wpAny_mono (hb pins _ _ hp [] s σ H D (I.tryc _) h) (fun f s1 q=>?_) fun e s1 q=>q
 have q':SP X pins D f s1:=q.untryc I.ok
 cases f with
 | next=>exact wpAny_execs_nil q'
 | brk=>exact q'
 | cont=>exact q'
 | ret u=>exact q'
end
end L2
namespace L2
open PySem PySem.Spec PyProof.Rows
def zcV (ea C:Addr) (h:Heap):Prop:=∃ oe,h.get? ea=some oe∧oe.cls=.ref C
section
variable {X:Cx} {pins:List (Addr × Obj)} {σ:St} {H H':Hp} {s s':Shared} {B:Heap} {ea C:Addr} {a0:Value} {D:za3} {f:Flow}
theorem Inv.adopt (I:Inv X pins σ H s) (hx:zcV ea C s.heap) (n0:X.s₀.heap.get? ea=none) (nL:ea≠X.env.locals) (nC:∀ x c,X.env.cells.lookup x=some c→c≠ea) (nP:∀ p∈X.pn++pins,p.1≠ea) (hH:H ea=none) :
  Inv X pins σ (upd H ea (.ext (zcV ea C))) s:=by
 have up:∀ b u,H b=some u→upd H ea (.ext (zcV ea C)) b=some u:=fun b u e=>by rw[ao (zaa e hH)];exact e
 have un:∀ b,b≠ea→H b=none→upd H ea (.ext (zcV ea C)) b=none:=fun b hb e=>by rw[ao hb];exact e
 have U:=I.base
 refine⟨I.ok,I.os,I.bare,⟨U.keep,U.slot,fun b ob e n hb=>un b (fun z=>by rw[z,n0]at e;cases e) (U.free b ob e n hb),U.there,fun b xs q=>up _ _ (U.tups b xs q),fun b ob xs q=>up _ _ (U.frzs b ob xs q),fun b ps q=>?_⟩,I.loc,I.cell,un _ (Ne.symm nL) I.free,
  fun x c e=>un _ (nC x c e) (I.freeC x c e),fun p hp=>?_,fun b u e=>?_,I.len⟩
 ·obtain⟨m,e⟩:=U.tbls b ps q
  exact⟨m,up _ _ e⟩
 ·obtain⟨e,n,a,b,c⟩:=I.pin p hp
  exact⟨e,un _ (nP p hp) n,a,b,c⟩
 ·by_cases hb:b=ea
  ·subst hb
   rw[ad]at e
   cases e
   obtain⟨oe,e1,e2⟩:=hx
   refine⟨⟨oe,e1,e2⟩,⟨oe,e1⟩,fun h1 h2 p k=>?_⟩
   obtain⟨o2,q1,q2⟩:=p
   exact⟨o2,k o2 q1,q2⟩
  ·rw[ao hb]at e
   exact(I.hok b u e).stay (fun _ _ _ q=>q) (fun c q=>up c _ q) fun c xs q=>up c _ q
theorem Inv.forget {h':Heap} {m':Str→Option Value} {t':Nat} (I:Inv X pins σ H s) (hn:h'.Ns X.env.locals m') (hs:Heap.SameBut X.env.locals s.heap h'):Inv X pins (List.replicate X.N.length none) H { s with heap:=h',toks:=t' }:=by
 have neL:∀ b o,X.s₀.heap.get? b=some o→b≠X.env.locals:=fun b o e=>Nat.ne_of_lt (Nat.lt_of_lt_of_le (Heap.lt_size e) I.ok.above)
 have U:=I.base
 refine⟨I.ok,I.os,I.bare,⟨fun b ob e n hb hx=>(hs.2 b (neL b ob e)).trans (U.keep b ob e n hb hx),fun b ob e n hb hx=>?_,U.free,fun b ob e hx=>?_,U.tups,U.frzs,U.tbls⟩,⟨m',hn,fun i x v _ e2 _=>?_⟩,fun x c e=>?_,I.free,I.freeC,fun p hp=>?_,fun b u e=>?_,by simp⟩
 ·obtain⟨sl,q⟩:=U.slot b ob e n hb hx
  exact⟨sl,(hs.2 b (neL b ob e)).trans q⟩
 ·obtain⟨o',q⟩:=U.there b ob e hx
  exact⟨o',(hs.2 b (neL b ob e)).trans q⟩
 ·rw[List.getElem?_replicate]at e2
  split at e2 <;> cases e2
 ·obtain⟨v,o,ho,hd⟩:=I.cell x c e
  exact⟨v,o,(hs.2 c (I.cne x c e)).trans ho,hd⟩
 ·obtain⟨e,n,a,b,c⟩:=I.pin p hp
  exact⟨(hs.2 p.1 a).trans e,n,a,b,c⟩
 ·refine(I.hok b u e).stay (fun c w' hc q=>(hs.2 c ?_).trans q) (fun _ q=>q) fun _ _ q=>q
  rintro rfl
  rcases hc with z | z
  ·rw[←z,I.free]at e;cases e
  ·rw[I.free]at z;cases z
theorem zeY.apart (c:zeY X pins σ H s H' B s') {h':Heap} (fl:Heap.FlyingW B X.stack ea (.ref C) a0 h'):s.heap.get? ea=none:=by
 cases q:s.heap.get? ea with
 | none=>rfl
 | some ob =>
  by_cases hb:ea∈frs X.stack
  ·obtain⟨_,_,ff,oe,vs,_,_,_,he,_,hd,_⟩:=fl
   obtain⟨_,o,ho,hnf⟩:=ff.mem hb
   rw[he]at ho
   cases ho
   exact absurd hd (hnf vs)
  ·obtain⟨o',eB,_⟩:=c.old ea ob q hb
   rw[fl.2.1]at eB
   cases eB
def tExcAs (K:W.Frag) (C1:Addr) (i nN:Nat) (ts:TS) (th:Addr→TS):Addr→TS:=fun C D σ H=>∃ b,W.exmOne K (.ref C) (.ref C1)=some b ∧
 if b=true then ∀ ea,H ea=none→ts { nx:=fun _ H1=>D.nx (List.replicate nN none) H1,rt:=D.rt,bk:=fun _ H1=>D.bk (List.replicate nN none) H1,ct:=fun _ H1=>D.ct (List.replicate nN none) H1 } (σ.set i (some (.ref ea))) (upd H ea (.ext (zcV ea C))) else th C D σ H
theorem ph_as {x n:Str} {np pos:Pos} {b0:Stmt} {suite:List Stmt} {zbs:List ExceptHandler} {C1:Addr} {i:Nat} {ts:TS} {th:Addr→TS} (hg:Gl X x) (hm:X.mg x=some (.ref C1)) (hN:X.N.Nodup) (hi:X.N[i]?=some n)
  (hl:X.env.scope.names.lookup n=some .local) (hex:X.ex=[]) (hs:∀ ea,PSs (X.susp ea) (b0 :: suite) ts) (hr:PH X zbs th) (hdb:(x == ("__debug__":Str))=false:=by decide) :
  PH X (.ExceptHandler (some (.Name x np)) (some n) (b0 :: suite) pos :: zbs) (tExcAs X.K C1 i X.N.length ts th):=by
 intro pins σ H s H' B s' D ea C a0 h' c fl sm h
 obtain⟨b,hb,h⟩:=h
 have I:=c.inv fl.1 sm
 have I':=I.susp ea
 obtain⟨oe,he,hcl⟩:=fl.there
 have LT:W.Looks (model X.prog X.w) h' (typeOf (.ref ea)) (.ref C):=hcl ▸ (W.Looks.ld he).andThen .now
 refine wpAny_handleBy_cons (codeAny_handlers_test (zcI (X:=X.susp ea) I' hg hm ?_ hdb)) (by intro q;cases q)
 refine W.exm_one (M:=model X.prog X.w) (K:=X.K) (h:=h') I.kIn LT hb _ _ _ _ (fun _ _ q=>q) ?_
 cases b with
 | false=>exact hr pins σ H s H' B s' D ea C a0 h' c fl sm h
 | true =>
  have hp:(X.env.scope.kind == .class||(X.env.scope.kind == .module&&X.env.locals != X.env.globals))=false:=by rw[I.ok.kind];rfl
  refine codeAny_handlers_suite_as (lands_againW fl fun h2 fl2 sm2=>?_)
  have I2:=c.inv fl2.1 (sm.trans sm2)
  have q0:=c.apart fl2
  obtain⟨oe2,he2,hcl2⟩:=fl2.there
  have nB:B.get? ea=none:=fl2.2.1
  have hH:H' ea=none:=by
   cases q:H' ea with
   | none=>rfl
   | some u =>
    have z:=Trk.stays c.ok c.trk fl2.1 ea oe2 (by rw[q];exact nofun) he2
    rw[nB]at z
    cases z
  have J:=I2.adopt (ea:=ea) (C:=C) ⟨oe2,he2,hcl2⟩ (by
   cases q:X.s₀.heap.get? ea with
   | none=>rfl
   | some o =>
    by_cases hx:ea∈X.ex
    ·rw[hex]at hx
     cases hx
    ·obtain⟨o',e'⟩:=c.I.base.there ea o q hx
     rw[q0]at e'
     cases e') (by
   rintro rfl
   obtain⟨m,⟨o,_,_,ho,_⟩,_⟩:=c.I.loc
   rw[q0]at ho
   cases ho) (fun y d e z=>by
   obtain⟨v,o,ho,_⟩:=c.I.cell y d e
   rw[z,q0]at ho
   cases ho) (fun p hp z=>by
   have e:=(c.I.pin p hp).1
   rw[z,q0]at e
   cases e) hH
  refine wpAny_mono (zfL (X:=X.susp ea) (i:=i) (v:=.ref ea) (J.susp ea) hN hi (.inl hl) rfl (Q:=fun _ s3=>Inv (X.susp ea) pins (σ.set i (some (.ref ea))) (upd H' ea (.ext (zcV ea C))) s3) (fun s3 I3=>I3) (.inr hl)) (fun _ s3 I3=>?_) fun _ _ q=>False.elim q
  refine wpAny_mono (hs ea pins s3 _ _ _ I3 (h ea hH)) (fun fl4 s4 q4=>?_) fun _ _ q=>False.elim q
  have go:∀ {σ4:St} {H4:Hp},Inv (X.susp ea) pins σ4 H4 s4→∀ {R:Unit→Shared→Prop},(∀ s5,Inv X pins (List.replicate X.N.length none) H4 s5→R () s5)→wpAny (model X.prog X.w) X.A (do bindName X.env n .none;unbindBehindTheSuite X.env n pos) R X.xe s4:=fun {σ4 H4} I4 {R} k=>by
   obtain⟨m,hn,_⟩:=I4.loc
   exact wpAny_nameGoes hl hn hp fun h5 m5 hn5 hs5=>k _ ((I4.unsusp I.ok).forget hn5 hs5)
  cases fl4 with
  | next=>obtain⟨σ4,H4,I4,q⟩:=q4;exact go I4 fun s5 I5=>⟨_,H4,I5,q⟩
  | brk=>obtain⟨σ4,H4,I4,q⟩:=q4;exact go I4 fun s5 I5=>⟨_,H4,I5,q⟩
  | cont=>obtain⟨σ4,H4,I4,q⟩:=q4;exact go I4 fun s5 I5=>⟨_,H4,I5,q⟩
  | ret u=>obtain⟨v,σ4,H4,I4,r,q⟩:=q4;exact go I4 fun s5 I5=>⟨v,_,H4,I5,r,q⟩
theorem ziT {prog:Program} {w:World} {A:Around} {E:Value→Shared→Prop} {K:W.Frag} {x:Addr} {t c:Value} {Q:Value→Shared→Prop} (LT:W.Looks (model prog w) s.heap (typeOf (.ref x)) t) (XI:K.In s.heap) (ne:(t == c)=false)
  (e:W.kitCls K t c=some true) (h:Q (.bool true) s):wpAny (model prog w) A (call (.builtin "isinstance") [.ref x,c]) Q E s:=by
 obtain⟨hp,g,d,tt,os⟩:=s
 refine call_isinstance_of ?_ (fun z=>nomatch z)
 unfold Builtin.«isinstance.nested»
 refine wpAny_bind (LT.at ?_)
 rw[if_neg (fun q=>by rw[ne]at q;exact Bool.noConfusion q)]
 obtain⟨hty,his,hsub⟩:=W.kit_cls (M:=model prog w) XI e
 have LI:W.Looks (model prog w) hp (isInstance (.ref x) c) true:=LT.andThen hsub
 refine wpAny_bind (hty.at ?_)
 rw[if_pos (by decide)]
 k_delta "plainIsInstance"
 refine wpAny_bind (wpAny_bind (his.at ?_))
 simp only[Bool.not_true,Bool.false_eq_true,if_false]
 refine wpAny_bind (LI.at ?_)
 first
  | exact wpAny_pure (wpAny_pure h)
  | (simp only[if_true];first | exact wpAny_pure (wpAny_pure h) | exact wpAny_pure h | exact wpAny_bind (wpAny_pure (wpAny_pure h)))
def rIsiE (K:W.Frag):List V→Hp→VK→Prop:=fun xs H Q=>∃ ea C n,xs=[.ref ea,.ty n]∧H ea=some (.ext (zcV ea C))∧W.kitCls K (.ref C) (.type n)=some true∧Q (.bl true) H
theorem zkw:zbW X (.builtin "isinstance") (rIsiE X.K):=by
 intro pins s σ H xs us Q I r h
 obtain⟨ea,C,n,rfl,hH,hk,q⟩:=h
 obtain⟨u,w',rfl,rx,ry⟩:=zi2 r
 cases (show w'=Value.type n from ry)
 cases (show u=Value.ref ea from rx)
 obtain⟨⟨oe,he,hcl⟩,_⟩:=I.hok ea _ hH
 have LT:W.Looks (model X.prog X.w) s.heap (typeOf (.ref ea)) (.ref C):=hcl ▸ (W.Looks.ld he).andThen .now
 exact ziT LT I.kIn rfl hk ⟨.bl true,H,I,rfl,q⟩
end
end L2
namespace L2
open PySem
abbrev zed:Str:="abcdefghijklmnopqrstuvwxyz"
theorem zk7:zed.cps.toList.length=26:=by decide +kernel
theorem zjW {α:Type} {xs:List α} {i:Int} (h0:0≤i) (h1:i < (xs.length:Int)):∃ c,atI xs i=some c:=by
 have hk:i.toNat < xs.length:=by omega
 have e:i=((i.toNat:Nat):Int):=by omega
 have q:atI xs ((i.toNat:Nat):Int)=some xs[i.toNat]:=zah (List.getElem?_eq_getElem hk)
 rw[←e]at q
 exact⟨_,q⟩
theorem zig (a b:Str):(a++b).length=a.length+b.length:=by
 show(a.cps++b.cps).size=a.cps.size+b.cps.size
 exact Array.size_append
theorem ziX {w:Str} {lo hi:Option Int} {n:Nat} (h:w.length≤n):(Txt.slice w lo hi).length≤n:=Nat.le_trans (Txt.slice_le w lo hi) h
theorem zeD (c:Nat):(⟨#[c]⟩:Str).length=1:=rfl
theorem szS {n:Nat} (h:n≤1000):n≤sizeLine:=Nat.le_of_lt (zdj h)
end L2
namespace L2
open PySem PySem.Spec PyProof.Rows
section
variable {M:Model} {A:Around} {E:Value→Shared→Prop} {s:Shared}
theorem zju {base:Heap} {l:List Env} {e:Addr} {cls a0 fl:Value} {fo:Option Addr} {Q:Unit→Shared→Prop} (st:base.StaysIn s.heap) (fr:s.heap.FunFrames base l) (tr:s.heap.TracedAtW base e cls a0 fl)
  (k:∀ h',base.StaysIn h'→h'.FunFrames base l→h'.TracedAtW base e cls a0 (fo.elim .none fun f=>rawInt f)→(∀ b o,s.heap.get? b=some o→(∀ vs,o.data≠.fields vs)→h'.get? b=some o)→Q () { s with heap:=h' }) :
  wpAny M A (setFlight (.ref e) fo) Q E s:=by
 obtain⟨oe,vs,T,oT,ts,ge,gcls,gd,g1,gnT,gTe,gT,gdT,g3⟩:=tr
 have lt3:=(Array.getElem?_eq_some_iff.mp g3).1
 have oth:∀ b,b≠T→(s.heap.update T (Obj.mapFields (·.setIfInBounds 3 (fo.elim Value.none fun f=>rawInt f)))).get? b=s.heap.get? b:=fun b nb=>Heap.get?_update_other _ _ (Ne.symm nb)
 have nr:∀ b o,s.heap.get? b=some o→(∀ vs,o.data≠.fields vs)→b≠T:=by
  intro b o hb hnf q
  rw[q,gT]at hb
  cases hb
  exact hnf ts gdT
 unfold setFlight
 refine wpAny_bind (wpAny_field ge gd g1 ?_)
 rw[if_pos (by simp)]
 refine wpAny_setField gT gdT lt3 (k _ ?_ ?_ ?_ ?_)
 ·intro b o q
  rw[oth b fun z=>by rw[z,gnT]at q;cases q]
  exact st b o q
 ·exact fr.of_keeps fun b o hb hnf=>⟨o,(oth b (nr b o hb hnf)).trans hb,rfl⟩
 ·exact⟨oe,vs,T,_,_,(oth e (Ne.symm gTe)).trans ge,gcls,gd,g1,gnT,gTe,Heap.get?_update_self _ gT (Obj.isFreed_of_fields (Obj.data_mapFields gdT _)),Obj.data_mapFields gdT _,by simp [lt3]⟩
 ·exact fun b o hb hnf=>(oth b (nr b o hb hnf)).trans hb
theorem zjo {base:Heap} {env:Env} {outer:List Env} {L e:Addr} {cls a0 fl:Value} {Q:Unit→Shared→Prop} (af:A.frames=some (env :: outer)) (ef:env.frame=some L) (st:base.StaysIn s.heap) (hen:base.get? e=none)
  (fr:s.heap.FunFrames base (env :: outer)) (tr:s.heap.TracedAtW base e cls a0 fl) (k:∀ h',Heap.FlyingW base outer e cls a0 h'→s.heap.UpToSlots h'→Q () { s with heap:=h' }):wpAny M A (leaving env (.ref e)) Q E s:=by
 by_cases hz:fl=rawInt L
 ·subst hz
  unfold leaving
  refine wpAny_bind (wpAny_noteFrame_againW ef tr ?_)
  refine wpAny_landsW ⟨st,hen,fr,tr⟩ fun h' hfl sm=>?_
  obtain⟨k1,k2,⟨_,_,k3⟩,k4⟩:=hfl
  exact k h' ⟨k1,k2,k3,k4⟩ sm
 ·obtain⟨oe,vs,T,oT,ts,ge,⟨gc,g0⟩,gd,g1,gnT,gTe,gT,gdT,g3⟩:=tr
  subst gc
  have oth:∀ b,b≠T→(s.heap.update T (Obj.mapFields (·.setIfInBounds 3 Value.none))).get? b=s.heap.get? b:=fun b nb=>Heap.get?_update_other _ _ (Ne.symm nb)
  have nr:∀ b o,s.heap.get? b=some o→(∀ vs,o.data≠.fields vs)→b≠T:=by
   intro b o hb hnf q
   rw[q,gT]at hb
   cases hb
   exact hnf ts gdT
  unfold leaving noteFrame
  simp only[ef]
  refine wpAny_bind (wpAny_bind (wpAny_field ge gd g1 ?_))
  rw[if_pos (by simp)]
  refine wpAny_bind (wpAny_field gT gdT g3 ?_)
  rw[if_neg (by simpa using hz)]
  refine wpAny_bind (wpAny_setField gT gdT (Array.getElem?_eq_some_iff.mp g3).1 ?_)
  refine wpAny_newEntryW af (fr.of_keeps fun b o hb hnf=>⟨o,(oth b (nr b o hb hnf)).trans hb,rfl⟩) ef ((oth e (Ne.symm gTe)).trans ge) (fun b o q=>(oth b fun z=>by rw[z,gnT]at q;cases q).trans (st b o q)) hen gd (Array.getElem?_eq_some_iff.mp g1).1 g0 fun h' hL=>?_
  obtain⟨k1,⟨_,_,k2⟩,k3,k4⟩:=hL
  exact k h' ⟨k1,hen,k2,k3⟩ fun b o hb hnf=>k4 b o ((oth b (nr b o hb hnf)).trans hb) hnf
theorem zgs {h h' base base':Heap} {c:Addr} (sb:Heap.SameBut c h h') (hb:∀ b,base.get? b=none→base'.get? b=none):∀ {l:List Env},h.FunFrames base l→(∀ env∈l,env.frame≠some c)→h'.FunFrames base' l
 | [],_,_=>trivial
 | env :: l,⟨hk,⟨L,o,e1,e2,e3,e4⟩,r⟩,hc=>by
  have nL:L≠c:=fun z=>hc env (List.mem_cons_self ..) (by rw[e1,z])
  exact⟨hk,⟨L,o,e1,hb L e2,(sb.2 L nL).trans e3,e4⟩,zgs sb hb r fun env' he=>hc env' (List.mem_cons_of_mem _ he)⟩
end
section
variable {X:Cx} {E:XK} {pins:List (Addr × Obj)} {σ:St} {H H':Hp} {s s':Shared} {B:Heap} {ea C:Addr} {a0:Value}
theorem Xe1.frs (hx:Xe1 X E):L2.frs X.stack=X.env.locals :: X.fs:=by
 rw[hx.stk]
 unfold L2.frs
 rw[List.filterMap_cons,hx.fr]
 rfl
theorem zk3 (hx:Xe1 X E) (I:Inv X pins σ H s) {s'':Shared} {c:Addr} (hc:X.s₀.heap.objs.size≤c) (hcf:c∉X.fs) (os:s''.os=s.os) (bare:AllBare s''.gens) (u:Un (frs X.stack) [] H H' s.heap s'.heap) (ok:HOk X.prog X.w H' s'.heap)
  (fl:Heap.FlyingW B X.outer ea (.ref C) a0 s''.heap) (sm:∀ b o,b≠c→s'.heap.get? b=some o→(∀ vs,o.data≠.fields vs)→∃ sl,s''.heap.get? b=some { o with slots:=sl }) (trk:Trk H' s'.heap B)
  (old:∀ b ob,b≠c→s.heap.get? b=some ob→b∉frs X.stack→∃ ob',B.get? b=some ob'∧(H b=none→ob'=ob)) (hE:E (.ref C) none H') :
  CX1 X.prog X.w X.outer X.H₀ X.s₀ E (.ref ea) s'':=by
 have hfs:=hx.frs
 have nx:∀ b,b∉X.ex:=fun b hb=>by rw[hx.ex]at hb;cases hb
 have nc:∀ b ob,X.s₀.heap.get? b=some ob→b≠c:=fun b ob e z=>absurd (z ▸ Heap.lt_size e) (Nat.not_lt.mpr hc)
 have nf:∀ b ob,X.s₀.heap.get? b=some ob→b∉X.fs→b∉frs X.stack:=fun b ob e hb z=>by
  rw[hfs]at z
  rcases List.mem_cons.mp z with z | z
  ·exact absurd (Nat.lt_of_lt_of_le (Heap.lt_size e) I.ok.above) (by rw[z];exact Nat.lt_irrefl _)
  ·exact hb z
 have st:B.StaysIn s''.heap:=fl.1
 have U:=I.base
 have old':Old X.fs X.H₀ X.s₀.heap B:=fun b ob e hb=>by
  obtain⟨o1,e1⟩:=U.there b ob e (nx b)
  obtain⟨o',eB,hB⟩:=old b o1 (nc b ob e) e1 (nf b ob e hb)
  refine⟨o',eB,fun n=>?_⟩
  have k:=U.keep b ob e n hb (nx b)
  rw[e1]at k
  cases k
  exact hB (U.free b ob e n (nx b))
 have slot:∀ b ob,X.s₀.heap.get? b=some ob→X.H₀ b=none→b∈X.fs→∃ sl,s''.heap.get? b=some { ob with slots:=sl }:=fun b ob e n hb=>by
  obtain⟨sl,k⟩:=U.slot b ob e n hb (nx b)
  obtain⟨sl2,k2⟩:=u.any k (U.free b ob e n (nx b)) (by simp)
  obtain⟨_,o3,e3,hd⟩:=I.ok.funs.mem hb
  rw[e]at e3
  cases e3
  obtain⟨sl3,k3⟩:=sm b _ (fun z=>hcf (z ▸ hb)) k2 fun vs q=>hd vs q
  exact⟨sl3,k3⟩
 refine⟨ea,C,H',B,a0,rfl,os.trans I.os,bare,⟨fun b ob e n hb _=>?_,fun b ob e n hb _=>slot b ob e n hb,fun b ob e n _=>?_,fun b ob e _=>?_,fun b xs q=>u.tups b xs (U.tups b xs q),fun b ob xs q=>u.frzs b ob xs (U.frzs b ob xs q),fun b ps q=>?_⟩,
  ok.stays trk st,fl,Trk.stays ok trk st,old',hE⟩
 ·obtain⟨o',eB,hB⟩:=old' b ob e hb
  rw[hB n]at eB
  exact st b ob eB
 ·obtain⟨o1,e1⟩:=U.there b ob e (nx b)
  exact u.free b o1 e1 (U.free b ob e n (nx b)) (by simp)
 ·by_cases hb:b∈X.fs
  ·obtain⟨sl,k⟩:=slot b ob e (I.ok.frf b hb) hb
   exact⟨_,k⟩
  ·obtain⟨o',eB,_⟩:=old' b ob e hb
   exact⟨o',st b o' eB⟩
 ·obtain⟨m1,e1⟩:=U.tbls b ps q
  obtain⟨m2,e2⟩:=u.tbls b _ e1
  exact⟨m1++m2,by rw[e2,Array.append_assoc]⟩
theorem zfA {N':List Str} {scope:Scope} {cl:List (Str × Addr)} {fp:List Addr} {Qc:Value→Shared→Prop} {acc:Value} (hx:Xe1 X E) (I:Inv X pins σ H s) (f3:∀ b∈fp,zbT X pins H b) :
  zbC (CX1 X.prog X.w) ((zao X N' scope cl fp s H).wish (notedBy (model X.prog X.w) X.A (compEnvC scope cl s.heap.objs.size X.env) fun e s'=>compPost (model X.prog X.w) X.A X.xe none Qc acc s.heap.objs.size (.error e) s')) E:=by
 intro pins' σ' H5 s5 e s' J5 h
 obtain⟨ea,Cc,H',B,a0,rfl,os,bare,u,ok,fl,trk,old,hE⟩:=h
 have J5':Inv (zao X N' scope cl fp s H) pins' σ' H5 s5:=J5.unwish
 have fl2:Heap.FlyingW B (X.env :: X.outer) ea (.ref Cc) a0 s'.heap:=hx.stk ▸ (show Heap.FlyingW B X.stack ea (.ref Cc) a0 s'.heap from fl)
 have af:X.A.frames=some (X.env :: X.outer):=by rw[I.ok.frames,hx.stk]
 show wpAny (model X.prog X.w) X.A (noteFrame (.ref ea) X.env) (fun _ s''=>compPost (model X.prog X.w) X.A X.xe none Qc acc s.heap.objs.size (.error (.ref ea)) s'') (fun e s''=>compPost (model X.prog X.w) X.A X.xe none Qc acc s.heap.objs.size (.error e) s'') s'
 refine wpAny_looks_onW af hx.fr fl2 fun h1 held sm1=>?_
 have cm:zeY (zao X N' scope cl fp s H) pins' σ' H5 s5 H' B s':=⟨J5',os,bare,u,ok,trk,old⟩
 have J6:=cm.inv held.1 sm1
 obtain⟨m,hn,_⟩:=J6.loc
 have hn':h1.Ns s.heap.objs.size m:=hn
 have Hc:H' s.heap.objs.size=none:=J6.free
 refine⟨m,hn',fun h2 hsb cenv' _=>?_⟩
 have I5:Inv X pins σ H5 s5:=zdP I (J5'.pins_of (pins':=[]) (fun p hp=>by cases hp)) f3 (Heap.SameBut.refl _ _)
 generalize hcc:s.heap.objs.size=c at *
 have hcs:X.s₀.heap.objs.size≤c:=hcc ▸ I.sz
 have hcf:c∉X.fs:=I.nofs (Nat.le_of_eq hcc)
 have hcl:X.env.locals≠c:=hcc ▸ Nat.ne_of_lt I.lt
 have hcn:c∉frs X.stack:=by
  rw[hx.frs]
  intro z
  rcases List.mem_cons.mp z with z | z
  ·exact hcl z.symm
  ·exact hcf z
 obtain⟨oe,vs,T,oT,ts,ge,gc,gd,g1,gnT,gTe,gT,gdT,g3⟩:=held.2.2.2
 have nd:∀ b o ws,h1.get? b=some o→o.data=.fields ws→b≠c:=by
  intro b o ws e1 e2 z
  obtain⟨o',es,ep,e3,e4,_⟩:=hn'
  rw[z,e3]at e1
  cases e1
  rw[e4]at e2
  cases e2
 have hen':(W.hideAll B [c]).get? ea=none:=by
  cases z:(W.hideAll B [c]).get? ea with
  | none=>rfl
  | some o =>
   have:=W.of_hideAll _ z
   rw[held.2.1]at this
   cases this
 have hnn:∀ b,B.get? b=none→(W.hideAll B [c]).get? b=none:=by
  intro b q
  cases z:(W.hideAll B [c]).get? b with
  | none=>rfl
  | some o =>
   have:=W.of_hideAll _ z
   rw[q]at this
   cases this
 have st':(W.hideAll B [c]).StaysIn h2:=by
  intro b o q
  have nb:b≠c:=by
   intro z
   rw[z,W.hideAll_none [c] (by simp)]at q
   cases q
  exact(hsb.2 b nb).trans (held.1 b o (W.of_hideAll _ q))
 have fr':h2.FunFrames (W.hideAll B [c]) (X.env :: X.outer):=by
  refine zgs hsb hnn held.2.2.1 fun env he z=>hcn ?_
  rw[hx.stk]
  exact List.mem_filterMap.mpr ⟨env,he,z⟩
 have tr':h2.TracedAtW (W.hideAll B [c]) ea (.ref Cc) a0 (rawInt X.env.locals) :=
  ⟨oe,vs,T,oT,ts,(hsb.2 _ (nd _ _ _ ge gd)).trans ge,gc,gd,g1,hnn T gnT,gTe,(hsb.2 _ (nd _ _ _ gT gdT)).trans gT,gdT,g3⟩
 unfold PySem.passOn
 refine wpAny_bind (wpAny_field ((hsb.2 _ (nd _ _ _ ge gd)).trans ge) gd g1 ?_)
 rw[if_neg (by simp)]
 refine wpAny_bind (zju st' fr' tr' fun h3 k1 k2 k3 k4=>?_)
 refine wpAny_throw ?_
 rw[hx.xe]
 refine zjo af hx.fr k1 hen' k2 k3 fun h4 hfl sm4=>?_
 refine zk3 (s':=s') hx I5 hcs hcf os bare u ok hfl (fun b o nb e hnf=>?_) (fun b ob hb e=>W.hideAll_get _ (trk b ob hb e) fun z=>hb ?_) (fun b ob nb e hb=>?_) hE
 ·obtain⟨sl1,e1⟩:=sm1 b o e hnf
  obtain⟨sl2,e2⟩:=sm4 b _ (k4 b _ ((hsb.2 b nb).trans e1) hnf) hnf
  exact⟨sl2,e2⟩
 ·rw[List.mem_singleton.mp z]
  exact Hc
 ·obtain⟨ob',eB,hB⟩:=old b ob e hb
  exact⟨ob',W.hideAll_get _ eB (by simpa using nb),hB⟩
end
section
variable {X:Cx} {N':List Str} {scope:Scope} {elt iter:Expr} {x:Str} {px pos:Pos} {wi:TI} {te:TE} {ix:List Nat} {E:XK}
theorem pe_lcX (hx1:Xe1 X E) (hc:X.calm=true) (hkind:scope.kind=.function) (hcell:∀ y∈scope.names,y.2≠.cell) (hnames:∀ y∈scope.names,y.2=.local→scope.names.lookup y.1=some .local) (hx:scope.names.lookup x=some .local)
  (hclo:X.Ok→∃ cl,Clo X scope cl) (hN:N'.Nodup) (hN0:N'[0]?=some x) (hlen:N'.length=ix.length+1)
  (hix:∀(j i:Nat),ix[j]?=some i→∃ y,X.N[i]?=some y∧N'[j+1]?=some y∧(X.env.kindOf y=some .cell∨X.env.kindOf y=some .free)∧((relabel scope X.env).names.lookup y=some .cell∨(relabel scope X.env).names.lookup y=some .free))
  (hi:PI X (.Name x px) iter wi) (he:∀ cl fp s₃ H₃ xe0,zbC (CX1 X.prog X.w) ((zao X N' scope cl fp s₃ H₃).wish xe0) E→PE ((zao X N' scope cl fp s₃ H₃).wish xe0) elt te) (hs:∀ v,foldedSetIterable iter X.env v=pure v:=by intro _;rfl) :
  PE X (.ListComp elt [⟨.Name x px,iter,[],0⟩] scope pos) (tLC wi ix te):=by
 intro pins s σ H Q I h
 obtain⟨cl,C⟩:=hclo I.ok
 rw[eval_ListComp]
 refine wpAny_comprehension_free (use:=none) rfl hs C.eq hkind hnames (thn (hi pins s σ H _ I h) fun v s1 h1=>thn h1 fun itv s2 h2=>?_)
 obtain⟨it,fp,tn,J,H2,e,I2,T,st2,f2,q2⟩:=h2
 subst e
 have hD:H2 s2.heap.objs.size=none:=I2.fresh
 obtain⟨W,⟨m0,w0⟩,turn⟩:=q2 s2.heap.objs.size hD
 refine wpAny_newObj_type (wpAny_newFunctionEnv hcell (by intro y hy;simp at hy) (fun h₁ hns₁ hsb₁=>?_) hkind)
 dsimp only at hns₁ hsb₁ ⊢
 have I3:Inv X pins σ (upd H2 s2.heap.objs.size (.lst [])) { s2 with heap:=s2.heap.push { cls:=.type "list",data:=.seq ([]:List Value).toArray },toks:=s2.toks }:=I2.lnew .nil (Nat.zero_le _)
 generalize hs3:({ s2 with heap:=s2.heap.push { cls:=.type "list",data:=.seq ([]:List Value).toArray },toks:=s2.toks }:Shared)=s3 at I3
 have e3:s3.heap=s2.heap.push { cls:=.type "list",data:=.seq ([]:List Value).toArray }:=by rw[←hs3]
 generalize hDD:s2.heap.objs.size=D at *
 generalize hH3:upd H2 D (.lst [])=H3 at *
 have lt2:∀ b∈fp,b < s2.heap.objs.size:=fun b hb=>by
  obtain⟨o,ho,_⟩:=T.obj 0 _ st2 b hb
  exact Heap.lt_size ho
 have neD:∀ b∈fp,b≠D:=fun b hb=>by rw[←hDD];exact Nat.ne_of_lt (lt2 b hb)
 have f3:∀ b∈fp,zbT X pins H3 b:=fun b hb=>⟨by rw[←hH3,ao (neD b hb)];exact(f2 b hb).1,(f2 b hb).2⟩
 have sz3:s3.heap.objs.size=D+1:=by rw[e3,Heap.size_push,hDD]
 have lt3:∀ b∈fp,b < s3.heap.objs.size:=fun b hb=>by have q:=lt2 b hb;rw[sz3];rw[hDD]at q;exact Nat.lt_succ_of_lt q
 have old:∀ b o,s3.heap.get? b=some o→h₁.get? b=some o:=fun b o eb=>by
  have hb:b < D+1:=by rw[←sz3];exact Heap.lt_size eb
  refine hsb₁.extBut b o ?_ (Heap.get?_push_of_some _ (by rw[←e3];exact eb))
  rw[Heap.size_push,hDD]
  exact Nat.ne_of_lt hb
 have szC:(s2.heap.push { cls:=.type "list",data:=.seq ([]:List Value).toArray }).objs.size=s3.heap.objs.size:=by rw[e3]
 have os3:s3.os=s2.os:=by rw[←hs3]
 rw[szC]at hns₁ hsb₁
 have I4:Inv (zao X N' scope cl fp s3 H3) [] (none :: fvs σ ix) H3 { s3 with heap:=h₁,toks:=s2.toks+([]:List (Str × Value)).length }:=zdu I3 C hkind f3 lt3 hlen hix hns₁ old
 have st4:tn 0 h₁:=T.keep 0 _ _ st2 fun b hb o eb=>old b o (by rw[e3];exact Heap.get?_push_of_some _ eb)
 have stat:∀ {H':Hp},(∀ b∈fp,H' b=none)→∀ b∈fp,zbT (zao X N' scope cl fp s3 H3) [] H' b:=fun hn b hb =>
  ⟨hn b hb,Nat.ne_of_lt (lt3 b hb),fun hs'=>(zcq (N':=N') I3 C hkind f3 lt3).exfs b hb hs',.inl hb,fun y c hy=>((zcq (N':=N') I3 C hkind f3 lt3).exf b hb).2 y c hy,fun p hp=>absurd (show p∈([]:List (Addr × Obj)) from hp) (by simp)⟩
 have loop:∀ s4:Shared,s4={ s3 with heap:=h₁,toks:=s2.toks+([]:List (Str × Value)).length } →
   codeAny (model X.prog X.w) X.A (.compLoop (.ListComp elt [⟨.Name x px,iter,[],0⟩] scope pos) 0 (.ref it) (.ref D) (compEnvC scope cl s3.heap.objs.size X.env))
    (compPost (model X.prog X.w) X.A X.xe none (EP X pins σ Q) (.ref D) s3.heap.objs.size) s4:=by
  rintro s4 rfl
  refine zdi (fun n s'=>∃ i σ0 H' ys,Inv (zao X N' scope cl fp s3 H3) [] (σ0 :: fvs σ ix) H' s'∧tn i s'.heap∧(∀ b∈fp,H' b=none)∧W i n ys H') ?_ m0 ⟨0,none,H3,[],I4,st4,fun b hb=>(f3 b hb).1,w0⟩
  rintro n s5 ⟨i,σ0,H5,ys,I5,st5,fr5,w5⟩
  obtain⟨hD5,alt⟩:=turn i n ys H5 w5
  rcases alt with ⟨stop,q⟩ | ⟨go,step⟩
  ·refine thn (T.done (zao X N' scope cl fp s3 H3) rfl rfl rfl hc i [] s5 _ H5 _ I5 (stat fr5) st5 stop) fun r s6 ⟨hr,I6⟩=>?_
   subst hr
   obtain⟨m,hn,_⟩:=I6.loc
   exact⟨m,hn,fun h' hsb=>⟨.ref D,H5,zdP I3 I6 f3 hsb,rfl,q⟩⟩
  ·refine thn (T.item (zao X N' scope cl fp s3 H3) rfl rfl rfl hc i [] s5 _ H5 _ I5 (stat fr5) st5 go) fun r s6 ⟨u,hr,h6⟩=>?_
   subst hr
   refine thn h6 fun _ s7 ⟨y7,H7,I7,r7,yl7,st7,fr7⟩=>?_
   have I7':=I7.pinned (stat fr7) (T.obj _ _ st7)
   have G:PG (zao X N' scope cl fp s3 H3) (.Name x px) (zde 0):=zaO hN hN0 (.inl (lookup_relabel_local hx)) (.inr (lookup_relabel_local hx))
   refine wpAny_mono (G _ s7 _ H7 y7 u (fun σ' H'=>σ'=some y7 :: fvs σ ix∧H'=H7) I7' r7 ⟨rfl,rfl⟩) (fun _ s8 h8=>?_) fun _ _ f=>False.elim f
   obtain⟨σ8,H8,I8,rfl,rfl⟩:=h8
   refine wpAny_mono (he cl fp s3 H3 _ (zfA (Qc:=EP X pins σ Q) (acc:=.ref D) hx1 I3 f3) _ s8 _ H8 _ (I8.wish _) (step y7 H8 yl7)) (fun yv s9 h9=>?_) fun _ _ f=>f
   obtain⟨y9,H9,I9w,r9,hD9,hl9,m',hm',w9⟩:=h9
   have I9:=I9w.unwish
   refine wpAny_mono (zaZ (X:=zao X N' scope cl fp s3 H3) _ s9 _ H9 (.ref D) [y9] (.ref D) [yv] (fun _ H'=>H'=upd H9 D (.lst (ys++[y9]))) I9 rfl (.cons r9 .nil) ⟨D,ys,y9,rfl,rfl,hD9,hl9,rfl⟩) (fun _ s10 h10=>?_) fun _ _ f=>False.elim f
   obtain⟨_,H10,I10,_,rfl⟩:=h10
   refine⟨m',hm',i+1,some y7,_,ys++[y9],I10.unpinned,T.keep _ _ _ st7 fun b hb o eb=>(I10.pin (b,o) (List.mem_append_right _ (List.mem_append_right _ (zbl hb eb)))).1,fun b hb=>?_,w9⟩
   obtain⟨o,eb,d⟩:=T.obj _ _ st7 b hb
   exact(I10.pin (b,o) (List.mem_append_right _ (List.mem_append_right _ (zbl hb eb)))).2.1
 subst hs3
 have fin:=codeAny_compStart_list (loop _ rfl) (T.self X.A 0 _ _ _ st4 (loop _ rfl))
 exact fin
end
end L2
namespace L2
open PySem PySem.Spec PyProof.Rows
section
variable {X:Cx} {N':List Str} {scope:Scope} {elt iter:Expr} {x:Str} {px pos:Pos} {wi:TI} {te:TE} {ix:List Nat} {E:XK}
theorem zfd (hx1:Xe1 X E) {i:Nat} {y0:Str} {py spos:Pos} (hNy:X.N.Nodup) (hiy:X.N[i]?=some y0) (hy:Loc X.env.scope y0) (hc:X.calm=true) (hkind:scope.kind=.function) (hcell:∀ y∈scope.names,y.2≠.cell) (hnames:∀ y∈scope.names,y.2=.local→scope.names.lookup y.1=some .local) (hx:scope.names.lookup x=some .local)
  (hclo:X.Ok→∃ cl,Clo X scope cl) (hN:N'.Nodup) (hN0:N'[0]?=some x) (hlen:N'.length=ix.length+1)
  (hix:∀(j i:Nat),ix[j]?=some i→∃ y,X.N[i]?=some y∧N'[j+1]?=some y∧(X.env.kindOf y=some .cell∨X.env.kindOf y=some .free)∧((relabel scope X.env).names.lookup y=some .cell∨(relabel scope X.env).names.lookup y=some .free))
  (hi:PI X (.Name x px) iter wi) (he:∀ cl fp s₃ H₃ xe0,zbC (CX1 X.prog X.w) ((zao X N' scope cl fp s₃ H₃).wish xe0) E→PE ((zao X N' scope cl fp s₃ H₃).wish xe0) elt te) (hsw:swapsWith (.ListComp elt [⟨.Name x px,iter,[],0⟩] scope pos) (some (.Name y0 py)) spos.line X.env=pure true:=by rfl)
  (hf:X.fn y0=true∨X.env.scope.names.lookup y0=some .local:=by first | exact .inl rfl | exact .inr rfl | assumption) (hs:∀ v,foldedSetIterable iter X.env v=pure v:=by intro _;rfl) :
  PS X (.Assign [.Name y0 py] (.ListComp elt [⟨.Name x px,iter,[],0⟩] scope pos) spos) (tAsg (tLC wi ix te) (zde i)):=by
 intro pins s σ H Dn I h
 obtain⟨cl,C⟩:=hclo I.ok
 rw[exec_Assign_Name_used _ _ _ _ hsw]
 refine wpAny_bind (wpAny_standAt (wpAny_bind ?_))
 rw[arm_evalThenUse_ListComp]
 refine wpAny_bind (wpAny_mono (wpAny_comprehension_free (use:=some (assign (.Name y0 py) X.env)) (Q:=fun _ s'=>∃ σ' H',Inv X pins σ' H' s'∧Dn.nx σ' H') rfl hs C.eq hkind hnames (thn (hi pins s σ H _ I h) fun v s1 h1=>thn h1 fun itv s2 h2=>?_)) (fun _ s' h'=>wpAny_pure (wpAny_pure h')) fun _ _ z=>z)
 obtain⟨it,fp,tn,J,H2,e,I2,T,st2,f2,q2⟩:=h2
 subst e
 have hD:H2 s2.heap.objs.size=none:=I2.fresh
 obtain⟨W,⟨m0,w0⟩,turn⟩:=q2 s2.heap.objs.size hD
 refine wpAny_newObj_type (wpAny_newFunctionEnv hcell (by intro y hy;simp at hy) (fun h₁ hns₁ hsb₁=>?_) hkind)
 dsimp only at hns₁ hsb₁ ⊢
 have I3:Inv X pins σ (upd H2 s2.heap.objs.size (.lst [])) { s2 with heap:=s2.heap.push { cls:=.type "list",data:=.seq ([]:List Value).toArray },toks:=s2.toks }:=I2.lnew .nil (Nat.zero_le _)
 generalize hs3:({ s2 with heap:=s2.heap.push { cls:=.type "list",data:=.seq ([]:List Value).toArray },toks:=s2.toks }:Shared)=s3 at I3
 have e3:s3.heap=s2.heap.push { cls:=.type "list",data:=.seq ([]:List Value).toArray }:=by rw[←hs3]
 generalize hDD:s2.heap.objs.size=D at *
 generalize hH3:upd H2 D (.lst [])=H3 at *
 have lt2:∀ b∈fp,b < s2.heap.objs.size:=fun b hb=>by
  obtain⟨o,ho,_⟩:=T.obj 0 _ st2 b hb
  exact Heap.lt_size ho
 have neD:∀ b∈fp,b≠D:=fun b hb=>by rw[←hDD];exact Nat.ne_of_lt (lt2 b hb)
 have f3:∀ b∈fp,zbT X pins H3 b:=fun b hb=>⟨by rw[←hH3,ao (neD b hb)];exact(f2 b hb).1,(f2 b hb).2⟩
 have sz3:s3.heap.objs.size=D+1:=by rw[e3,Heap.size_push,hDD]
 have lt3:∀ b∈fp,b < s3.heap.objs.size:=fun b hb=>by have q:=lt2 b hb;rw[sz3];rw[hDD]at q;exact Nat.lt_succ_of_lt q
 have old:∀ b o,s3.heap.get? b=some o→h₁.get? b=some o:=fun b o eb=>by
  have hb:b < D+1:=by rw[←sz3];exact Heap.lt_size eb
  refine hsb₁.extBut b o ?_ (Heap.get?_push_of_some _ (by rw[←e3];exact eb))
  rw[Heap.size_push,hDD]
  exact Nat.ne_of_lt hb
 have szC:(s2.heap.push { cls:=.type "list",data:=.seq ([]:List Value).toArray }).objs.size=s3.heap.objs.size:=by rw[e3]
 have os3:s3.os=s2.os:=by rw[←hs3]
 rw[szC]at hns₁ hsb₁
 have I4:Inv (zao X N' scope cl fp s3 H3) [] (none :: fvs σ ix) H3 { s3 with heap:=h₁,toks:=s2.toks+([]:List (Str × Value)).length }:=zdu I3 C hkind f3 lt3 hlen hix hns₁ old
 have st4:tn 0 h₁:=T.keep 0 _ _ st2 fun b hb o eb=>old b o (by rw[e3];exact Heap.get?_push_of_some _ eb)
 have stat:∀ {H':Hp},(∀ b∈fp,H' b=none)→∀ b∈fp,zbT (zao X N' scope cl fp s3 H3) [] H' b:=fun hn b hb =>
  ⟨hn b hb,Nat.ne_of_lt (lt3 b hb),fun hs'=>(zcq (N':=N') I3 C hkind f3 lt3).exfs b hb hs',.inl hb,fun y c hy=>((zcq (N':=N') I3 C hkind f3 lt3).exf b hb).2 y c hy,fun p hp=>absurd (show p∈([]:List (Addr × Obj)) from hp) (by simp)⟩
 have loop:∀ s4:Shared,s4={ s3 with heap:=h₁,toks:=s2.toks+([]:List (Str × Value)).length } →
   codeAny (model X.prog X.w) X.A (.compLoop (.ListComp elt [⟨.Name x px,iter,[],0⟩] scope pos) 0 (.ref it) (.ref D) (compEnvC scope cl s3.heap.objs.size X.env))
    (compPost (model X.prog X.w) X.A X.xe (some (assign (.Name y0 py) X.env)) (fun _ s'=>∃ σ' H',Inv X pins σ' H' s'∧Dn.nx σ' H') (.ref D) s3.heap.objs.size) s4:=by
  rintro s4 rfl
  refine zdi (fun n s'=>∃ i σ0 H' ys,Inv (zao X N' scope cl fp s3 H3) [] (σ0 :: fvs σ ix) H' s'∧tn i s'.heap∧(∀ b∈fp,H' b=none)∧W i n ys H') ?_ m0 ⟨0,none,H3,[],I4,st4,fun b hb=>(f3 b hb).1,w0⟩
  rintro n s5 ⟨i,σ0,H5,ys,I5,st5,fr5,w5⟩
  obtain⟨hD5,alt⟩:=turn i n ys H5 w5
  rcases alt with ⟨stop,q⟩ | ⟨go,step⟩
  ·refine thn (T.done (zao X N' scope cl fp s3 H3) rfl rfl rfl hc i [] s5 _ H5 _ I5 (stat fr5) st5 stop) fun r s6 ⟨hr,I6⟩=>?_
   subst hr
   obtain⟨m,hn,_⟩:=I6.loc
   have Io:Inv X pins σ H5 s6:=zdP (h':=s6.heap) I3 I6 f3 ⟨rfl,fun _ _=>rfl⟩
   refine wpAny_assign_Name (ze8 (v:=.ref D) Io hNy hiy hy rfl (fun s7 I7 ⟨a,sb,ha⟩=>?_) hf)
   have ltC:∀ x c,X.env.cells.lookup x=some c→c < s3.heap.objs.size:=fun x c e=>by
    obtain⟨v,hv⟩:=I3.cell x c e
    exact hv.lt
   have hCa:s3.heap.objs.size≠a:=by
    rintro rfl
    rcases ha with z | z
    ·exact absurd I3.lt (by rw[←z];exact Nat.lt_irrefl _)
    ·exact absurd (ltC _ _ z) (Nat.lt_irrefl _)
   refine⟨m,hn.sameBut sb hCa,fun h' hsb=>⟨_,H5,?_,q⟩⟩
   exact I7.skip hsb I3.sz (Nat.ne_of_gt I3.lt) (fun x c e=>Nat.ne_of_lt (ltC x c e)) (fun p hp=>Nat.ne_of_lt (Heap.lt_size (I3.pin p hp).1)) I6.free
  ·refine thn (T.item (zao X N' scope cl fp s3 H3) rfl rfl rfl hc i [] s5 _ H5 _ I5 (stat fr5) st5 go) fun r s6 ⟨u,hr,h6⟩=>?_
   subst hr
   refine thn h6 fun _ s7 ⟨y7,H7,I7,r7,yl7,st7,fr7⟩=>?_
   have I7':=I7.pinned (stat fr7) (T.obj _ _ st7)
   have G:PG (zao X N' scope cl fp s3 H3) (.Name x px) (zde 0):=zaO hN hN0 (.inl (lookup_relabel_local hx)) (.inr (lookup_relabel_local hx))
   refine wpAny_mono (G _ s7 _ H7 y7 u (fun σ' H'=>σ'=some y7 :: fvs σ ix∧H'=H7) I7' r7 ⟨rfl,rfl⟩) (fun _ s8 h8=>?_) fun _ _ f=>False.elim f
   obtain⟨σ8,H8,I8,rfl,rfl⟩:=h8
   refine wpAny_mono (he cl fp s3 H3 _ (zfA (Qc:=fun _ s'=>∃ σ' H',Inv X pins σ' H' s'∧Dn.nx σ' H') (acc:=.ref D) hx1 I3 f3) _ s8 _ H8 _ (I8.wish _) (step y7 H8 yl7)) (fun yv s9 h9=>?_) fun _ _ f=>f
   obtain⟨y9,H9,I9w,r9,hD9,hl9,m',hm',w9⟩:=h9
   have I9:=I9w.unwish
   refine wpAny_mono (zaZ (X:=zao X N' scope cl fp s3 H3) _ s9 _ H9 (.ref D) [y9] (.ref D) [yv] (fun _ H'=>H'=upd H9 D (.lst (ys++[y9]))) I9 rfl (.cons r9 .nil) ⟨D,ys,y9,rfl,rfl,hD9,hl9,rfl⟩) (fun _ s10 h10=>?_) fun _ _ f=>False.elim f
   obtain⟨_,H10,I10,_,rfl⟩:=h10
   refine⟨m',hm',i+1,some y7,_,ys++[y9],I10.unpinned,T.keep _ _ _ st7 fun b hb o eb=>(I10.pin (b,o) (List.mem_append_right _ (List.mem_append_right _ (zbl hb eb)))).1,fun b hb=>?_,w9⟩
   obtain⟨o,eb,d⟩:=T.obj _ _ st7 b hb
   exact(I10.pin (b,o) (List.mem_append_right _ (List.mem_append_right _ (zbl hb eb)))).2.1
 subst hs3
 have fin:=codeAny_compStart_list (loop _ rfl) (T.self X.A 0 _ _ _ st4 (loop _ rfl))
 exact fin
end
end L2
namespace L2
open PySem PySem.Spec PyProof.Rows
section
variable {X:Cx} {CX:CXT} {k:Nat} {f C:Addr} {fd:FuncData} {ps:List Str} {sp:Sp} {dvs:List V} {ds:List Value} {E:XK} {x m:Str} {p pos apos:Pos} {e o:Expr} {es:List Expr} {ta:TE} {t:TA}
def zgT (CX:CXT) (X:Cx) (E:XK) (σ:St):Prop:=∀(pins:List (Addr × Obj)) (H:Hp) (s:Shared) (e:Value) (s':Shared),Inv X pins σ H s→CX X.stack H s E e s'→X.xe e s'
def tCallS (σ0:St) (sp:Sp) (dvs:List V) (E:XK) (t:TA):TE:=fun σ H Q=>σ=σ0∧tCall sp dvs E t σ H Q
theorem zkK {σ0:St} (F:FnOk X.prog X.w X.K X.mg X.base CX k f fd ps sp) (hr:aH k X.A) (hg:Gl X x) (hm:X.mg x=some (.ref f)) (hk:W.keepIn X.K (.ref f)=true) (hb:ar X.K fd ps ds) (hd:aQ dvs ds) (hx:zgT CX X E σ0)
  (ha:PA X (e :: es) t) (hdb:(x == ("__debug__":Str))=false:=by decide) (he:starEach (e :: es) X.env=(false,eval e X.env) :: starEach es X.env:=by rfl) (hpl:(backTo pos (starEach es X.env)).any (·.1)=false:=by rfl) :
  PE X (.Call (.Name x p) (e :: es) [] pos) (tCallS σ0 sp dvs E t):=by
 rintro pins s σ H Q I ⟨rfl,h⟩
 refine wpAny_Call_Name_kw (zcI I hg hm ?_ hdb)
 refine W.callWith_K (h₀:=X.base) I.ok.mod.kin hk (thn (ha pos pins s σ H _ I h) fun us s1 ⟨vs,H1,I1,r,q⟩=>⟨I1.kIn,?_⟩) he hpl
 have r2:aQ (vs++dvs) (us++ds):=r.append hd
 have hl:(us++ds).length=ps.length:=by rw[←r2.length];exact F.len _ _ _ _ q
 refine wpAny_call (codeAny_mono (F.run X.A X.stack s1 H1 ⟨us,[]⟩ (us++ds) (vs++dvs) Q E hr I1.env0 (hb s1 us I1.kIn hl) r2 q) fun r s' hq=>?_)
 cases r with
 | error e=>exact hx pins H1 s1 e s' I1 hq
 | ok fl =>
  cases fl with
  | ret u=>exact I1.after hq
  | next=>exact False.elim hq
  | brk=>exact False.elim hq
  | cont=>exact False.elim hq
def tTryS (tb:XK→St→TS) (th:Addr→TS):TS:=fun D σ H=>tb (fun c _ H'=>∃ C,c=.ref C∧th C D σ H') σ D σ H
theorem zli {body:List Stmt} {h0:ExceptHandler} {hs:List ExceptHandler} {pos:Pos} {tb:XK→St→TS} {th:Addr→TS} (hst:X.stack=X.env :: X.outer) (hfr:X.env.frame=some X.env.locals)
  (hb:∀(pins:List (Addr × Obj)) (E1:Value→Shared→Prop) (Eb:XK) (σ0:St),zgT (CX1 X.prog X.w) (X.tryc pins E1) Eb σ0→PSs (X.tryc pins E1) body (tb Eb σ0)) (hh:PH X (h0 :: hs) th) :
  PS X (.Try body (h0 :: hs) [] [] pos) (tTryS tb th):=by
 intro pins s σ H D I h
 refine wpAny_Try_except ?_
 have hp:zgT (CX1 X.prog X.w) (X.tryc pins (fun e s1=>wpAny (model X.prog X.w) X.A (noteFrame e X.env) (fun _ s2=>wpAny (model X.prog X.w) X.A (setFlight e none) (fun _ s3=>wpAny (model X.prog X.w) X.A (handleBy e X.env (h0 :: hs)) (SP X pins D) X.xe s3) X.xe s2) X.xe s1))
   (fun c _ H'=>∃ C,c=.ref C∧th C D σ H') σ:=by
  intro pins1 H1 s1 e s' I1 hcx
  obtain⟨ea,C,H',B,a0,rfl,os,bare,u,ok,fl,trk,old,C',ec,hE⟩:=hcx
  cases ec
  have c:zeY X pins σ H1 s1 H' B s':=⟨I1.untryc I.ok,os,bare,u,ok,trk,old⟩
  have fl':Heap.FlyingW B (X.env :: X.outer) ea (.ref C) a0 s'.heap:=by
   have z:=fl
   rw[show(X.tryc pins _).stack=X.env :: X.outer from hst]at z
   exact z
  have hfs:X.A.frames=some (X.env :: X.outer):=by rw[I.ok.frames,hst]
  refine wpAny_looks_onW hfs hfr fl' fun h2 fl2 sm2=>?_
  refine wpAny_landsW fl2 fun h3 fl3 sm3=>?_
  rw[←hst]at fl3
  exact hh pins σ H1 s1 H' B s' D ea C a0 h3 c fl3 (sm2.trans sm3) hE
 refine wpAny_mono (hb pins _ _ σ hp [] s σ H D (I.tryc _) h) (fun f s1 q=>?_) fun e s1 q=>q
 have q':SP X pins D f s1:=q.untryc I.ok
 cases f with
 | next=>exact wpAny_execs_nil q'
 | brk=>exact q'
 | cont=>exact q'
 | ret u=>exact q'
end
end L2
namespace L2
open PySem PySem.Spec PyProof.Rows
@[irreducible] def PEi (X:Cx) (e:Expr) (t:TE):Prop:=PE X e t
@[irreducible] def PAi (X:Cx) (es:List Expr) (t:TA):Prop:=PA X es t
@[irreducible] def PSsi (X:Cx) (st:List Stmt) (t:TS):Prop:=PSs X st t
section
variable {X:Cx} {e:Expr} {es xs:List Expr} {te:TE} {t:TA} {k:Nat} {p:Pos} {ss:List Stmt} {ts us:TS}
theorem PEi.of (h:PE X e te):PEi X e te:=by unfold PEi;exact h
theorem PEi.to (h:PEi X e te):PE X e te:=by unfold PEi at h;exact h
theorem PAi.of (h:PA X es t):PAi X es t:=by unfold PAi;exact h
theorem PAi.to (h:PAi X es t):PA X es t:=by unfold PAi at h;exact h
theorem PSsi.of (h:PSs X ss ts):PSsi X ss ts:=by unfold PSsi;exact h
theorem PSsi.to (h:PSsi X ss ts):PSs X ss ts:=by unfold PSsi at h;exact h
theorem zcH {x:Str} {j:Nat}:PEi X (.Constant (.str x) j p) (tC (.str x)):=.of au
theorem zbb (h:PAi X es t):PEi X (.Tuple es k p) (tTup t):=.of (zae h.to)
theorem zln (h:PAi X es t):PEi X (.List es p) (tLst t):=.of (zag h.to)
theorem za5:PAi X [] tNil:=.of ac
theorem zb0 (ha:PEi X (.Tuple xs k p) te) (hr:PAi X es t):PAi X (.Tuple xs k p :: es) (zhp te t):=.of (aa ha.to hr.to)
theorem zdY {c:PySem.Const} {j:Nat} (ha:PEi X (.Constant c j p) te) (hr:PAi X es t):PAi X (.Constant c j p :: es) (zhp te t):=.of (aa ha.to hr.to)
theorem zhr {x:Str} (ha:PEi X (.Name x p) te) (hr:PAi X es t):PAi X (.Name x p :: es) (zhp te t):=.of (aa ha.to hr.to)
theorem zkF:PSsi X [] tNext:=.of zad
theorem zj5 {i:Nat} {x:Str} {pos pos':Pos} (hN:X.N.Nodup) (hi:X.N[i]?=some x) (hx:Loc X.env.scope x) (he:PEi X (.Tuple es k p) te) (hf:X.fn x=true∨X.env.scope.names.lookup x=some .local) :
  PSsi X [.Assign [.Name x pos'] (.Tuple es k p) pos] (tAsg te (zde i)):=.of (ai (az hN hi hx he.to rfl hf))
theorem psi_if {c:Expr} {a b:List Stmt} {tc:TT} {pos:Pos} (hc:PT X c tc) (ha:PSsi X a ts) (hb:PSsi X b us):PS X (.If c a b pos) (tIfS tc ts us):=zal hc ha.to hb.to
end
end L2
namespace L2
open PySem
section
variable {K:W.Frag} {h:Heap} {mg:Str→Option Value} {C f:Addr} {fd:FuncData} {n x q:Str} {st:Stmt} {oc kV doc pm cdv ct:Value} {od an:Option Addr} {osl:Array (Option Value)}
structure FT (K:W.Frag) (n x:Str) (st:Stmt) (f:Addr) (fd:FuncData):Prop where
 a:W.nsIn K mainGlobals n=some (some (.ref f))
 F:Fun K x x st f fd
 k:W.keepIn K (.ref f)=true
theorem FT.m (z:FT K n x st f fd) (X:K.In h) (G:h.Ns mainGlobals mg):mg n=some (.ref f):=W.mg_of X G z.a
theorem ft_in (a:W.nsIn K mainGlobals n=some (some (.ref f))) (l:K.lookup f=some ⟨oc,od,.func (W.fnOf x x (zcp st) (zaw st) (aj st) .none kV doc pm an cdv ct),osl⟩) (c:W.codeIn K cdv x=true) (k:W.keepIn K (.ref f)=true):FT K n x st f (W.fnOf x x (zcp st) (zaw st) (aj st) .none kV doc pm an cdv ct):=⟨a,zjR l c k,k⟩
structure FM (K:W.Frag) (C:Addr) (x q:Str) (st:Stmt) (f:Addr) (fd:FuncData):Prop where
 a:W.findIn K (.ref C) x=some (some (.ref f))
 i:W.isFn K (.ref f)=true
 F:Fun K x q st f fd
 k:W.keepIn K (.ref f)=true
theorem FM.M (z:FM K C x q st f fd):zbo K C x f:=⟨z.a,z.i,z.k⟩
theorem fm_in (a:W.findIn K (.ref C) x=some (some (.ref f))) (i:W.isFn K (.ref f)=true) (l:K.lookup f=some ⟨oc,od,.func (W.fnOf x q (zcp st) (zaw st) (aj st) .none kV doc pm an cdv ct),osl⟩) (c:W.codeIn K cdv q=true) (k:W.keepIn K (.ref f)=true):FM K C x q st f (W.fnOf x q (zcp st) (zaw st) (aj st) .none kV doc pm an cdv ct):=⟨a,i,zjR l c k,k⟩
abbrev Bd (x q:Str) (st:Stmt) (ps:List Str) (us:List Value):Prop:=∀(kV doc pm:Value) (an:Option Addr) (cdv ct:Value),bindArgs (W.fnOf x q (zcp st) (zaw st) (aj st) .none kV doc pm an cdv ct) ⟨us,[]⟩=pure (ps.zip us)
theorem Fun.b1 {p:Str} (F:Fun K x q st f fd) (h:∀ a,Bd x q st [p] [a]):ar K fd [p] []:=F.binds fun kV doc pm an cdv ct us hl=>match us,hl with | [_],_=>h _ kV doc pm an cdv ct
theorem Fun.b2 {p p2:Str} (F:Fun K x q st f fd) (h:∀ a b,Bd x q st [p,p2] [a,b]):ar K fd [p,p2] []:=F.binds fun kV doc pm an cdv ct us hl=>match us,hl with | [_,_],_=>h _ _ kV doc pm an cdv ct
theorem Fun.b3 {p p2 p3:Str} (F:Fun K x q st f fd) (h:∀ a b c,Bd x q st [p,p2,p3] [a,b,c]):ar K fd [p,p2,p3] []:=F.binds fun kV doc pm an cdv ct us hl=>match us,hl with | [_,_,_],_=>h _ _ _ kV doc pm an cdv ct
theorem Fun.b4 {p p2 p3 p4:Str} (F:Fun K x q st f fd) (h:∀ a b c d,Bd x q st [p,p2,p3,p4] [a,b,c,d]):ar K fd [p,p2,p3,p4] []:=F.binds fun kV doc pm an cdv ct us hl=>match us,hl with | [_,_,_,_],_=>h _ _ _ _ kV doc pm an cdv ct
theorem Fun.top {p:Str} (F:Fun K x q st f fd) (h:∀ a,Bd x q st [p] [a]):∀(s:Shared) (v:Value),BindsTo s fd ⟨[v],[]⟩ [(p,v)]:=fun s v=>by
 obtain⟨oc,od,kV,doc,pm,an,cdv,ct,osl,rfl,lk,hcd⟩:=F.ex
 exact .of_eq (h v kV doc pm an cdv ct)
end
end L2
namespace F74
open PySem L2
def top (i:Nat):Stmt:=PySem.Challenge.pw_yesorno_k74_named_problem.main.body.getD i (.Pass ⟨0,0,0,0⟩)
abbrev s_inner_trees:Stmt:=top 2
abbrev s_inner_formulas:Stmt:=top 3
abbrev s__law_cell_at:Stmt:=top 34
abbrev s__law_mixed:Stmt:=top 35
abbrev s__law_word:Stmt:=top 36
abbrev s__law_names:Stmt:=top 37
abbrev s__law_tree:Stmt:=top 38
abbrev s__law_grown:Stmt:=top 39
abbrev s__law_formulas:Stmt:=top 40
def ofsV:List V:=[.str "not",.str "and",.str "or",.str "then",.str "as"]
theorem zkS:ofsV.all zcz=true:=by decide +kernel
structure Txt (K:W.Frag) (mg:Str→Option Value) (aB aO:Addr):Prop where
 len:mg "len"=none
 list:mg "list"=none
 tuple:mg "tuple"=none
 range:mg "range"=none
 int:mg "int"=none
 isi:mg "isinstance"=none
 str:mg "str"=none
 ofs:mg "OF_FORMULAS"=some (.ref aO)
 tO:∀ H,SqT K H aO ofsV
theorem szM {n:Nat} (h:n≤16000000):n≤sizeLine:=Nat.le_trans h (by rw[sizeLine_eq];decide)
theorem zaH (a b:Str):(a++b).length=a.length+b.length:=by
 show(a.cps++b.cps).size=a.cps.size+b.cps.size
 exact Array.size_append
inductive Tr where
 | node (n:Str) (ts:List Tr)
mutual
def dTr:Tr→Dt
 | .node n ts=>.tup [.str n,.tup (zax ts)]
def zax:List Tr→List Dt
 | []=>[]
 | t :: ts=>dTr t :: zax ts
end
mutual
def wt (zs:List Str):Tr→Nat
 | .node n ts=>n.length+2+wts zs ts+(if n∈zs∧ts.length≤3 then 0 else 1000000)
def wts (zs:List Str):List Tr→Nat
 | []=>0
 | t :: ts=>wt zs t+2+wts zs ts
end
mutual
def dp:Tr→Nat
 | .node _ ts=>1+dps ts
def dps:List Tr→Nat
 | []=>0
 | t :: ts=>max (dp t) (dps ts)
end
theorem zbu:∀ ts:List Tr,zax ts=ts.map dTr
 | []=>rfl
 | t :: ts=>by simp only[zax,List.map_cons,zbu ts]
theorem dTrs_length (ts:List Tr):(zax ts).length=ts.length:=by rw[zbu,List.length_map]
theorem modB (a:Int) {b:Int} (h:0 < b):0≤a % b∧a % b < b:=⟨Int.emod_nonneg _ (by omega),Int.emod_lt_of_pos _ h⟩
theorem dps_le {n:Nat}:∀ {ts:List Tr},dps ts≤n→∀ t∈ts,dp t≤n
 | t :: ts,h,u,hu=>by
  simp only[dps]at h
  rcases List.mem_cons.mp hu with rfl | hu
  ·omega
  ·exact dps_le (ts:=ts) (by omega) u hu
theorem ze2 {n:Nat}:∀ {ts:List Tr},(∀ t∈ts,dp t≤n)→dps ts≤n
 | [],_=>Nat.zero_le _
 | t :: ts,h=>by
  simp only[dps]
  have h1:=h t (by simp)
  have h2:=ze2 (ts:=ts) fun u hu=>h u (List.mem_cons_of_mem _ hu)
  omega
theorem zgv {zs:List Str} {n:Nat}:∀ {ts:List Tr},(∀ t∈ts,wt zs t≤n)→wts zs ts≤(n+2) * ts.length
 | [],_=>by simp [wts]
 | t :: ts,h=>by
  simp only[wts,List.length_cons,Nat.mul_add]
  have h1:=h t (by simp)
  have h2:=zgv (zs:=zs) (ts:=ts) fun u hu=>h u (List.mem_cons_of_mem _ hu)
  omega
mutual
theorem nol_dTr:∀ t:Tr,nol (dTr t)=true
 | .node n ts=>by simp only[dTr,nol,zbw,nols_dTrs ts,Bool.and_self]
theorem nols_dTrs:∀ ts:List Tr,zbw (zax ts)=true
 | []=>rfl
 | t :: ts=>by simp only[zax,zbw,nol_dTr t,nols_dTrs ts,Bool.and_self]
end
mutual
theorem zgQ:∀ t:Tr,dep (dTr t)≤2 * dp t
 | .node n ts=>by
  have:=zeb ts
  simp only[dTr,dp,dep,zaB]
  omega
theorem zeb:∀ ts:List Tr,zaB (zax ts)≤2 * dps ts
 | []=>by simp [zax,zaB]
 | t :: ts=>by
  have:=zgQ t
  have:=zeb ts
  simp only[zax,dps,zaB]
  omega
end
inductive Fm where
 | plain (z:Str)
 | bare (z:Str)
 | same (a b:Tr)
 | unlike (ts:List Tr)
 | not (f:Fm)
 | bin (k:Str) (f g:Fm)
def dFm:Fm→Dt
 | .plain z=>.tup [.str "plain",.str z]
 | .bare z=>.tup [.str z]
 | .same a b=>.tup [.str "same",dTr a,dTr b]
 | .unlike ts=>.tup [.str "unlike",.tup (zax ts)]
 | .not f=>.tup [.str "not",dFm f]
 | .bin k f g=>.tup [.str k,dFm f,dFm g]
def fwt (zs:List Str):Fm→Nat
 | .plain z=>z.length+(if z∈zs then 0 else 1000000)
 | .bare z=>z.length+1000
 | .same a b=>wt zs a+3+wt zs b
 | .unlike ts=>1008+wts zs ts+(if 2≤ts.length∧ts.length≤5 then 0 else 1000000)
 | .not f=>4+fwt zs f
 | .bin k f g=>1004+k.length+fwt zs f+fwt zs g
def fdp:Fm→Nat
 | .not f=>1+fdp f
 | .bin _ f g=>1+max (fdp f) (fdp g)
 | _=>1
def FOk:Fm→Prop
 | .plain _=>True
 | .bare z=>z="always"∨z="never"
 | .same a b=>dp a≤3∧dp b≤3
 | .unlike ts=>∀ t∈ts,dp t≤3
 | .not f=>FOk f
 | .bin k f g=>(k="and"∨k="or"∨k="then"∨k="as")∧FOk f∧FOk g
theorem fdp_pos (f:Fm):1≤fdp f:=by cases f <;> simp only[fdp] <;> omega
theorem nol_dFm:∀ f:Fm,nol (dFm f)=true
 | .plain z=>rfl
 | .bare z=>rfl
 | .same a b=>by simp only[dFm,nol,zbw,nol_dTr,Bool.and_self]
 | .unlike ts=>by simp only[dFm,nol,zbw,nols_dTrs,Bool.and_self]
 | .not f=>by simp only[dFm,nol,zbw,nol_dFm f,Bool.and_self]
 | .bin k f g=>by simp only[dFm,nol,zbw,nol_dFm f,nol_dFm g,Bool.and_self]
theorem dep_dFm:∀ f:Fm,FOk f→dep (dFm f)≤fdp f+8
 | .plain z,_=>by simp only[dFm,dep,zaB,fdp];omega
 | .bare z,_=>by simp only[dFm,dep,zaB,fdp];omega
 | .same a b,h=>by
  have:=zgQ a
  have:=zgQ b
  simp only[FOk]at h
  simp only[dFm,dep,zaB,fdp]
  omega
 | .unlike ts,h=>by
  have:=zeb ts
  simp only[FOk]at h
  have:=ze2 h
  simp only[dFm,dep,zaB,fdp]
  omega
 | .not f,h=>by
  have:=dep_dFm f h
  simp only[dFm,dep,zaB,fdp]
  omega
 | .bin k f g,h=>by
  have:=dep_dFm f h.2.1
  have:=dep_dFm g h.2.2
  simp only[dFm,dep,zaB,fdp]
  omega
section
variable {K:W.Frag} {H:Hp}
theorem tr_at {n:Str} {ts:List Tr} {v:V} (h:Has K H (dTr (.node n ts)) v):∃ p q xs,v=.ref p∧SqT K H p [.str n,.ref q]∧SqT K H q xs∧HasL K H (zax ts) xs:=by
 simp only[dTr,Has,HasL]at h
 obtain⟨p,ys,rfl,hp,v1,r1,rfl,rfl,v2,r2,rfl,⟨q,xs,rfl,hq,hx⟩,rfl⟩:=h
 exact⟨p,q,xs,rfl,hp,hq,hx⟩
theorem of_tr {n:Str} {ts:List Tr} {p q:Addr} {xs:List V} (hp:SqT K H p [.str n,.ref q]) (hq:SqT K H q xs) (hx:HasL K H (zax ts) xs):Has K H (dTr (.node n ts)) (.ref p):=by
 simp only[dTr]
 exact Has.tup' hp (.cons Has.str' (.cons (Has.tup' hq hx) .nil))
theorem trs_get {ts:List Tr} {xs:List V} {i:Nat} {x:V} (h:HasL K H (zax ts) xs) (e:xs[i]?=some x):∃ t,ts[i]?=some t∧Has K H (dTr t) x:=by
 rw[zbu]at h
 obtain⟨d,e1,e2⟩:=h.get e
 rw[List.getElem?_map]at e1
 cases q:ts[i]? with
 | none=>rw[q]at e1;cases e1
 | some t =>
  rw[q]at e1
  cases e1
  exact⟨t,rfl,e2⟩
theorem fms_get {fs:List Fm} {xs:List V} {i:Nat} {x:V} (h:HasL K H (fs.map dFm) xs) (e:xs[i]?=some x):∃ t,fs[i]?=some t∧Has K H (dFm t) x:=by
 obtain⟨d,e1,e2⟩:=h.get e
 rw[List.getElem?_map]at e1
 cases q:fs[i]? with
 | none=>rw[q]at e1;cases e1
 | some t =>
  rw[q]at e1
  cases e1
  exact⟨t,rfl,e2⟩
theorem nols_fms:∀ fs:List Fm,zbw (fs.map dFm)=true
 | []=>rfl
 | f :: fs=>by simp only[List.map_cons,zbw,nol_dFm,nols_fms fs,Bool.and_self]
end
theorem FnOk.no {P:Program} {w:World} {K:W.Frag} {mg:Str→Option Value} {base:Heap} {CX:CXT} {k:Nat} {f:Addr} {fd:FuncData} {ps:List Str} {sp:Sp} (h:∀ vs H Q E,¬sp vs H Q E):FnOk P w K mg base CX k f fd ps sp :=
 ⟨fun vs H Q E q=>absurd q (h _ _ _ _),fun A outer s H args us vs Q E _ _ _ _ hs=>absurd hs (h _ _ _ _)⟩
end F74
namespace F74
open PySem L2
def hdF:Fm→Str
 | .plain _=>"plain"
 | .bare z=>z
 | .same _ _=>"same"
 | .unlike _=>"unlike"
 | .not _=>"not"
 | .bin k _ _=>k
def tlF:Fm→List Dt
 | .plain z=>[.str z]
 | .bare _=>[]
 | .same a b=>[dTr a,dTr b]
 | .unlike ts=>[.tup (zax ts)]
 | .not f=>[dFm f]
 | .bin _ f g=>[dFm f,dFm g]
def zbR:Fm→List Tr
 | .same a b=>[a,b]
 | .unlike ts=>ts
 | _=>[]
def zaF:Fm→List Fm
 | .not f=>[f]
 | .bin _ f g=>[f,g]
 | _=>[]
theorem dFm_eq (f:Fm):dFm f=.tup (.str (hdF f) :: tlF f):=by cases f <;> rfl
theorem hd_plain {f:Fm} (h:FOk f) (e:hdF f="plain"):∃ z,f=.plain z:=by
 cases f with
 | plain z=>exact⟨z,rfl⟩
 | bare z=>rcases h with rfl | rfl <;> exact absurd e (by simp only[hdF];decide +kernel)
 | bin k f g =>
  rcases h.1 with rfl | rfl | rfl | rfl <;> exact absurd e (by simp only[hdF];decide +kernel)
 | _=>exact absurd e (by simp only[hdF];decide +kernel)
theorem hd_same {f:Fm} (h:FOk f) (e:hdF f="same"):∃ a b,f=.same a b:=by
 cases f with
 | same a b=>exact⟨a,b,rfl⟩
 | bare z=>rcases h with rfl | rfl <;> exact absurd e (by simp only[hdF];decide +kernel)
 | bin k f g =>
  rcases h.1 with rfl | rfl | rfl | rfl <;> exact absurd e (by simp only[hdF];decide +kernel)
 | _=>exact absurd e (by simp only[hdF];decide +kernel)
theorem hd_unlike {f:Fm} (h:FOk f) (e:hdF f="unlike"):∃ ts,f=.unlike ts:=by
 cases f with
 | unlike ts=>exact⟨ts,rfl⟩
 | bare z=>rcases h with rfl | rfl <;> exact absurd e (by simp only[hdF];decide +kernel)
 | bin k f g =>
  rcases h.1 with rfl | rfl | rfl | rfl <;> exact absurd e (by simp only[hdF];decide +kernel)
 | _=>exact absurd e (by simp only[hdF];decide +kernel)
theorem hd_not {f:Fm} (h:FOk f) (e:hdF f="not"):∃ g,f=.not g:=by
 cases f with
 | not g=>exact⟨g,rfl⟩
 | bare z=>rcases h with rfl | rfl <;> exact absurd e (by simp only[hdF];decide +kernel)
 | bin k f g =>
  rcases h.1 with rfl | rfl | rfl | rfl <;> exact absurd e (by simp only[hdF];decide +kernel)
 | _=>exact absurd e (by simp only[hdF];decide +kernel)
theorem inV_strs {z:Str} {ws:List Str}:inV (.str z) (ws.map V.str)=true↔z∈ws:=by
 unfold inV
 rw[List.any_eq_true]
 constructor
 ·rintro ⟨y,hy,e⟩
  obtain⟨w,hw,rfl⟩:=List.mem_map.mp hy
  have:w=z:=eq_of_beq e
  rw[←this]
  exact hw
 ·intro h
  exact⟨.str z,List.mem_map.mpr ⟨z,h,rfl⟩,beq_self_eq_true z⟩
theorem zjO {z:Str}:inV (.str z) ofsV=true↔z="not"∨z="and"∨z="or"∨z="then"∨z="as":=by
 rw[show ofsV=(["not","and","or","then","as"]:List Str).map V.str from rfl,inV_strs]
 simp
section
variable {P:Program} {w:World} {K:W.Frag} {mg:Str→Option Value} {base:Heap} {aB aO:Addr} {f:Addr} {fd:FuncData}
theorem fm_at {H:Hp} {g:Fm} {v:V} (h:Has K H (dFm g) v):∃ p xs,v=.ref p∧SqT K H p (.str (hdF g) :: xs)∧HasL K H (tlF g) xs:=by
 rw[dFm_eq]at h
 simp only[Has,HasL]at h
 obtain⟨p,ys,rfl,hp,v1,xs,rfl,rfl,hx⟩:=h
 exact⟨p,xs,rfl,hp,hx⟩
def sp_itrees (K:W.Frag):Sp:=fun vs H Q _=>∃(g:Fm) (v:V),vs=[v]∧Has K H (dFm g) v∧FOk g∧∀(H':Hp) (l:Addr) (xs:List V),ap H H'→H l=none→H' l=some (.lst xs)→HasL K H' (zax (zbR g)) xs→Q (.ref l) H'
def sp_ifms (K:W.Frag):Sp:=fun vs H Q _=>∃(g:Fm) (v:V),vs=[v]∧Has K H (dFm g) v∧FOk g∧∀(H':Hp) (l:Addr) (xs:List V),ap H H'→H l=none→H' l=some (.lst xs)→HasL K H' ((zaF g).map dFm) xs→Q (.ref l) H'
theorem zgU:zac ["formula"] ["formula"] (aj s_inner_trees):=⟨rfl,rfl,rfl,by decide +kernel,rfl,by decide +kernel,by decide +kernel⟩
theorem cut2 (a b c:V):zbx [a,b,c] (some 1) none=[b,c]:=rfl
theorem ok_itrees (F:Fun K "inner_trees" "inner_trees" s_inner_trees f fd) (T:Txt K mg aB aO):FnOk P w K mg base CX0 1 f fd ["formula"] (sp_itrees K):=by
 refine F.ok zgU (fun vs H Q E h=>?_) (fun cdv A outer s H vs Q E hr h=>?_)
 ·obtain⟨g,v,rfl,_⟩:=h
  rfl
 obtain⟨g,v,rfl,hg,ok,q⟩:=h
 refine⟨_,(ae (zal (av zaE (aA zaf (pv 0) ag (fun _ _=>rfl)) au (aD _))
   (ai (ay (za7 zcX rfl T.list PyProof.Rows.Boot.list (aa (zba zht (pv 0) (zbq ag) zbr) ac))))
   zad)
  (ai (ay (zfU (av zaE (aA zaf (pv 0) ag (fun _ _=>rfl)) au (aD _)) (za7 zcX rfl T.list PyProof.Rows.Boot.list (aa (aA zaf (pv 0) ag (fun _ _=>rfl)) ac)) (zag ac))))),?_⟩
 obtain⟨p,xs,rfl,hp,hx⟩:=fm_at hg
 have a0:atI (V.str (hdF g) :: xs) 0=some (.str (hdF g)):=zah (j:=0) rfl
 refine⟨_,rfl,p,_,_,_,rfl,rfl,hp,a0,rfl,_,rfl,aG (fun c=>?_) (fun c=>?_)⟩
 ·have e:hdF g="same":=by
   have:=of_decide_eq_true c
   injection this
  obtain⟨a,b,rfl⟩:=hd_same ok e
  simp only[tlF,HasL]at hx
  obtain⟨va,r1,rfl,ha,vb,r2,rfl,hb,rfl⟩:=hx
  refine⟨_,rfl,_,rfl,p,_,rfl,hp,(fun h=>absurd h.1 (show ¬(1:Nat)=0 by decide)),fun p1 hp1=>?_⟩
  rw[cut2]
  have s1:ap H (upd H p1 (.tup [va,vb])):=ah hp1 _
  have n1:=ad (H:=H) (a:=p1) (o:=.tup [va,vb])
  generalize upd H p1 (.tup [va,vb])=H1 at s1 n1
  refine⟨p1,_,rfl,.inr (SqT.of n1),fun l hl=>?_⟩
  have s2:ap H1 (upd H1 l (.lst [va,vb])):=ah hl _
  exact q _ l _ (s1.trans s2) (s1.free hl) ad (.cons (ha.keep (s1.trans s2).kt (nol_dTr _)) (.cons (hb.keep (s1.trans s2).kt (nol_dTr _)) .nil))
 have c':hdF g≠"same":=fun e=>c (by rw[e];decide +kernel)
 refine⟨_,rfl,p,_,_,_,rfl,rfl,hp,a0,rfl,_,rfl,aG (fun d=>?_) (fun d=>?_)⟩
 ·have e:hdF g="unlike":=by
   have:=of_decide_eq_true d
   injection this
  obtain⟨ts,rfl⟩:=hd_unlike ok e
  simp only[tlF,HasL,Has]at hx
  obtain⟨va,r1,rfl,⟨r,ys,rfl,hr1,hy⟩,rfl⟩:=hx
  refine⟨_,rfl,p,_,_,_,rfl,rfl,hp,rfl,r,_,rfl,.inr hr1,fun l hl=>?_⟩
  have s2:ap H (upd H l (.lst ys)):=ah hl _
  exact q _ l _ s2 hl ad (hy.keep s2.kt (nols_dTrs _))
 ·have d':hdF g≠"unlike":=fun e=>d (by rw[e];decide +kernel)
  refine⟨lS0,fun l hl=>?_⟩
  have e:zbR g=[]:=by
   cases g with
   | same a b=>exact absurd rfl c'
   | unlike ts=>exact absurd rfl d'
   | _=>rfl
  exact q _ l [] (ah hl _) hl ad (by rw[e];exact HasL.nil)
theorem zfv:zac ["formula"] ["formula"] (aj s_inner_formulas):=⟨rfl,rfl,rfl,by decide +kernel,rfl,by decide +kernel,by decide +kernel⟩
theorem ok_ifms (F:Fun K "inner_formulas" "inner_formulas" s_inner_formulas f fd) (T:Txt K mg aB aO):FnOk P w K mg base CX0 1 f fd ["formula"] (sp_ifms K):=by
 refine F.ok zfv (fun vs H Q E h=>?_) (fun cdv A outer s H vs Q E hr h=>?_)
 ·obtain⟨g,v,rfl,_⟩:=h
  rfl
 obtain⟨g,v,rfl,hg,ok,q⟩:=h
 refine⟨_,(ai (ay (zfU (av zff (aA zaf (pv 0) ag (fun _ _=>rfl)) (zbc (v:=.ref aO) rfl T.ofs rfl) rfl) (za7 zcX rfl T.list PyProof.Rows.Boot.list (aa (zba zht (pv 0) (zbq ag) zbr) ac)) (zag ac)))),?_⟩
 obtain⟨p,xs,rfl,hp,hx⟩:=fm_at hg
 have a0:atI (V.str (hdF g) :: xs) 0=some (.str (hdF g)):=zah (j:=0) rfl
 refine⟨_,rfl,p,_,_,_,rfl,rfl,hp,a0,aO,ofsV,rfl,.inr (T.tO H),rfl,zkS,_,rfl,aG (fun c=>?_) (fun c=>?_)⟩
 ·have e:=zjO.mp c
  have key:∃ ys:List V,xs=ys∧HasL K H ((zaF g).map dFm) ys∧zbx (.str (hdF g) :: ys) (some 1) none=ys∧HT.sIx (V.str (hdF g) :: ys).length 0 (some 1)≠0:=by
   cases g with
   | not g =>
    have hx':=hx
    simp only[tlF,HasL]at hx'
    obtain⟨va,r1,rfl,ha,rfl⟩:=hx'
    exact⟨_,rfl,hx,rfl,show ¬(1:Nat)=0 by decide⟩
   | bin k f g =>
    have hx':=hx
    simp only[tlF,HasL]at hx'
    obtain⟨va,r1,rfl,ha,vb,r2,rfl,hb,rfl⟩:=hx'
    exact⟨_,rfl,hx,rfl,show ¬(1:Nat)=0 by decide⟩
   | bare z=>rcases ok with rfl | rfl <;> exact absurd e (by simp only[hdF];decide +kernel)
   | _=>exact absurd e (by simp only[hdF];decide +kernel)
  obtain⟨ys,rfl,hy,ec,en⟩:=key
  refine⟨_,rfl,_,rfl,p,_,rfl,hp,(fun h=>absurd h.1 en),fun p1 hp1=>?_⟩
  rw[ec]
  have s1:ap H (upd H p1 (.tup xs)):=ah hp1 _
  have n1:=ad (H:=H) (a:=p1) (o:=.tup xs)
  generalize upd H p1 (.tup xs)=H1 at s1 n1
  refine⟨p1,_,rfl,.inr (SqT.of n1),fun l hl=>?_⟩
  have s2:ap H1 (upd H1 l (.lst xs)):=ah hl _
  exact q _ l _ (s1.trans s2) (s1.free hl) ad (hy.keep (s1.trans s2).kt (nols_fms _))
 ·have c':=fun e=>c (zjO.mpr e)
  refine⟨lS0,fun l hl=>?_⟩
  have e:zaF g=[]:=by
   cases g with
   | not g=>exact absurd (.inl rfl) c'
   | bin k f g=>exact absurd (.inr ok.1) c'
   | _=>rfl
  exact q _ l [] (ah hl _) hl ad (by rw[e];exact HasL.nil)
end
end F74
namespace F74
open PySem L2
def fsum (zs:List Str) (fs:List Fm):Nat:=(fs.map fun g=>fwt zs g+1).sum
theorem fsum_mem {zs:List Str}:∀ {fs:List Fm} {g:Fm},g∈fs→fwt zs g≤fsum zs fs
 | a :: fs,g,h=>by
  have e:fsum zs (a :: fs)=fwt zs a+1+fsum zs fs:=by simp [fsum]
  rcases List.mem_cons.mp h with rfl | h
  ·omega
  ·have:=fsum_mem (zs:=zs) h
   omega
theorem fsum_app {zs:List Str} (a b:List Fm):fsum zs (a++b)=fsum zs a+fsum zs b:=by simp [fsum]
theorem zib {zs:List Str} (g:Fm):fsum zs [g]=fwt zs g+1:=by simp [fsum]
def marks:List Nat:=[98,120,102,122]
structure GdZ (z:Str):Prop where
 l1:1≤z.length
 l8:z.length≤8
 ab:∀ c∈z.cps.toList,c∈zed.cps.toList
 mr:∃ c∈z.cps.toList,c∈marks
theorem zgS (a b:Str):(a++b).cps.toList=a.cps.toList++b.cps.toList:=by
 show(a.cps++b.cps).toList=_
 exact Array.toList_append
theorem zet (a:Str):a.cps.toList.length=a.length:=by simp [Str.length]
theorem zkB {x:Str} {j:Int} (h0:0≤j):(Txt.slice x none (some j)).cps.toList=x.cps.toList.take j.toNat:=by
 by_cases h:j≤x.cps.toList.length
 ·have e:=eq_of_beq (PyProof.Rows.slice_closes_to (x:=x) ⟨h0,h⟩)
  rw[e]
  simp
 ·have e:Txt.slice x none (some j)=x:=by
   have hn:(x.length:Int)≤j:=by rw[zet]at h;omega
   have hz:(Builtin.Str.strSliceIndices none (some j) 1 x.length).length=x.length:=by
    unfold Builtin.Str.strSliceIndices
    simp only[show(1:Int) > 0 by decide,if_true]
    have e1:¬j < 0:=by omega
    simp only[e1,if_false]
    have e2:max 0 (min j (x.length:Int))=((x.length:Nat):Int):=by omega
    rw[e2]
    have e3:sliceRange 0 ((x.length:Nat):Int) 1=(List.range (x.length - 0)).map (0+·):=sliceRange_one 0 x.length
    rw[e3]
    simp
   unfold Txt.slice
   rw[if_pos (by rw[hz];simp)]
  rw[e,List.take_of_length_le (by omega)]
theorem zjf {x:Str} {j:Int} (h0:0≤j):(Txt.slice x (some j) none).cps.toList=x.cps.toList.drop j.toNat:=by
 by_cases h:j≤x.length
 ·rw[PyProof.Rows.slice_from_eq h0 h rfl]
  show(x.cps.toList.drop j.toNat).take ((x.length:Int) - j).toNat=_
  rw[List.take_of_length_le]
  rw[List.length_drop,zet]
  omega
 ·rw[PyProof.Rows.slice_beyond (by omega),List.drop_eq_nil_of_le (by rw[zet];omega)]
  rfl
theorem zlM {α:Type} {xs:List α} {i:Int} {c:α} (h:atI xs i=some c):c∈xs:=by
 obtain⟨j,_,h2,_⟩:=zev h
 exact List.mem_of_getElem? h2
theorem gd_of {y:Str} {at_:Int} {c:Nat} (h0:0≤at_) (hy:y.length≤7) (ha:∀ c∈y.cps.toList,c∈zed.cps.toList) (hc:c∈marks) (hca:c∈zed.cps.toList):GdZ (Txt.slice y none (some at_)++⟨#[c]⟩++Txt.slice y (some at_) none):=by
 have e:(Txt.slice y none (some at_)++⟨#[c]⟩++Txt.slice y (some at_) none).cps.toList=y.cps.toList.take at_.toNat++[c]++y.cps.toList.drop at_.toNat:=by
  rw[zgS,zgS,zkB h0,zjf h0]
 have hl:(Txt.slice y none (some at_)++⟨#[c]⟩++Txt.slice y (some at_) none).length=y.length+1:=by
  rw[←zet,e,List.length_append,List.length_append,List.length_take,List.length_drop,zet]
  simp only[List.length_singleton]
  omega
 refine⟨by omega,by omega,fun d hd=>?_,c,by rw[e];simp,hc⟩
 rw[e]at hd
 rcases List.mem_append.mp hd with hd | hd
 ·rcases List.mem_append.mp hd with hd | hd
  ·exact ha d (List.mem_of_mem_take hd)
  ·rw[List.mem_singleton.mp hd]
   exact hca
 ·exact ha d (List.mem_of_mem_drop hd)
section
variable {P:Program} {w:World} {K:W.Frag} {mg:Str→Option Value} {base:Heap} {aB aO:Addr} {f fF fM fW:Addr} {fd dF dM dW:FuncData}
def sp_cell (K:W.Frag):Sp:=fun vs H Q _=>∃(a:Addr) (ns:List Int) (k:Int),vs=[.ref a,.int k]∧SqL K H a (ns.map V.int)∧0≤k∧∀ i:Int,Q (.int i) H
theorem zgt:zac ["_law_script","_law_k"] ["_law_script","_law_k"] (aj s__law_cell_at):=⟨rfl,rfl,rfl,by decide +kernel,rfl,by decide +kernel,by decide +kernel⟩
theorem ok_cell (F:Fun K "_law_cell_at" "_law_cell_at" s__law_cell_at f fd) (T:Txt K mg aB aO):FnOk P w K mg base CX0 1 f fd ["_law_script","_law_k"] (sp_cell K):=by
 refine F.ok zgt (fun vs H Q E h=>?_) (fun cdv A outer s H vs Q E hr h=>?_)
 ·obtain⟨a,ns,k,rfl,_⟩:=h
  rfl
 obtain⟨a,ns,k,rfl,hS,k0,q⟩:=h
 refine⟨_,(ae (zal (av zf2 (pv 1) (zam zai rfl T.len PySem.boot_len (aa (pv 0) ac)) (aD _))
   (ai (ay (aA zaT (pv 0) (pv 1) (fun _ _=>rfl))))
   zad)
  (ai (ay ag))),?_⟩
 refine⟨_,rfl,_,rfl,a,_,rfl,.inl hS,_,_,rfl,rfl,_,rfl,aG (fun c=>?_) (fun c=>?_)⟩
 ·have hc:k < ((ns.map V.int).length:Nat):=of_decide_eq_true c
  obtain⟨x,hx⟩:=zjW (xs:=ns.map V.int) k0 hc
  obtain⟨j,_,hj,_⟩:=zev hx
  rw[List.getElem?_map]at hj
  cases e:ns[j]? with
  | none=>rw[e]at hj;cases hj
  | some n =>
   rw[e]at hj
   cases hj
   exact⟨_,rfl,_,rfl,a,_,_,_,rfl,rfl,hS,hx,q n⟩
 ·exact q 0
def zbU:Sp:=fun vs H Q _=>∃ c k:Int,vs=[.int c,.int k]∧∀ i:Int,Q (.int i) H
theorem zeV:zac ["_law_cell","_law_k","_law_mix"] ["_law_cell","_law_k"] (aj s__law_mixed):=⟨rfl,rfl,rfl,by decide +kernel,rfl,by decide +kernel,by decide +kernel⟩
theorem ok_mixed (F:Fun K "_law_mixed" "_law_mixed" s__law_mixed f fd):FnOk P w K mg base CX0 1 f fd ["_law_cell","_law_k"] zbU:=by
 refine F.ok zeV (fun vs H Q E h=>?_) (fun cdv A outer s H vs Q E hr h=>?_)
 ·obtain⟨c,k,rfl,_⟩:=h
  rfl
 obtain⟨c,k,rfl,q⟩:=h
 refine⟨_,(ae (az (i:=2) zeV.nd rfl (Or.inl rfl) (aw zaM (aw zga (aw za9 (aw za9 (pv 0) (aw zga ag (pv 1))) ag) ag) ag))
  (ai (ay (aw zaM (aw za9 (aw zga (pv 2) (pv 2)) (aw zga ag (pv 2))) ag)))),?_⟩
 have b:=modB ((c+7919 * k+11) * 48271) (show(0:Int) < 2147483647 by decide)
 exact⟨_,rfl,_,rfl,_,_,rfl,rfl,.inl ⟨by decide,by decide⟩,_,_,rfl,rfl,_,_,rfl,rfl,_,_,rfl,rfl,.inr ⟨by decide,by decide⟩,_,_,rfl,rfl,(by show(0:Int) < 2147483647;decide),_,rfl,_,rfl,_,_,rfl,rfl,.inl ⟨by omega,by omega⟩,_,rfl,_,_,rfl,rfl,.inl ⟨by decide,by decide⟩,_,_,rfl,rfl,_,_,rfl,rfl,(by show(0:Int) < 2147483399;decide),q _⟩
def ziB:Sp:=fun vs H Q _=>∃ c n:Int,vs=[.int c,.int n]∧0≤n∧n≤8∧∀(z:Str),(z.length:Int)=n→(∀ c∈z.cps.toList,c∈zed.cps.toList)→Q (.str z) H
theorem zcl:zac ["_law_cell","_law_size","_law_letters","_law_word_here","_law_k"] ["_law_cell","_law_size"] (aj s__law_word):=⟨rfl,rfl,rfl,by decide +kernel,rfl,by decide +kernel,by decide +kernel⟩
theorem ok_word (F:Fun K "_law_word" "_law_word" s__law_word f fd) (T:Txt K mg aB aO) (BM:FB P w K mg base CX0 1 "_law_mixed" fM dM ["_law_cell","_law_k"] zbU):FnOk P w K mg base CX0 2 f fd ["_law_cell","_law_size"] ziB:=by
 refine F.ok zcl (fun vs H Q E h=>?_) (fun cdv A outer s H vs Q E hr h=>?_)
 ·obtain⟨c,n,rfl,_⟩:=h
  rfl
 obtain⟨c,n,rfl,h0,h8,q⟩:=h
 refine⟨_,(ae (az (i:=2) zcl.nd rfl (Or.inl rfl) au)
  (ae (az (i:=3) zcl.nd rfl (Or.inl rfl) au)
  (ae (zbp PassesOwn.never rfl (zcN rfl T.range (aa (pv 1) ac)) (zaO (i:=4) zcl.nd rfl (Or.inl rfl))
   (ai (az (i:=3) zcl.nd rfl (Or.inl rfl) (aw zbQ (pv 3) (aA ze4 (pv 2) (aw zaM (aw za6 (aq BM.ok hr rfl BM.m BM.kp BM.b .nil aJ (aa (pv 0) (aa (pv 4) ac))) ag) ag) (fun _ _=>rfl))))))
  (ai (ay (pv 3)))))),?_⟩
 refine⟨_,rfl,n,rfl,by omega,by omega,zd9 (lo:=0) (n:=n.toNat) (fun i σ H'=>H'=H∧∃(y:Str) (k:Option V),σ=[some (.int c),some (.int n),some (.str zed),some (.str y),k]∧y.length=i∧∀ c∈y.cps.toList,c∈zed.cps.toList)
  ⟨rfl,"",none,rfl,by decide +kernel,by decide +kernel⟩ ?_ ?_⟩
 ·rintro i σ H' hi ⟨rfl,y,k,rfl,hy,hya⟩
  refine⟨_,rfl,_,rfl,_,rfl,_,rfl,c,_,rfl,fun mx=>?_⟩
  have m:=modB (mx / 31) (show(0:Int) < 26 by decide)
  obtain⟨ch,hch⟩:=zjW (xs:=zed.cps.toList) m.1 (by rw[zk7];exact m.2)
  refine⟨_,_,rfl,rfl,⟨by decide,by decide⟩,_,_,rfl,rfl,(by show(0:Int) < 26;decide),zed,_,ch,rfl,rfl,szS (by decide +kernel),hch,y,_,rfl,rfl,szS (by rw[zeD];omega),rfl,_,_,rfl,?_,fun d hd=>?_⟩
  ·rw[zig,zeD,hy]
  ·rw[zgS]at hd
   rcases List.mem_append.mp hd with hd | hd
   ·exact hya d hd
   ·rw[List.mem_singleton.mp hd]
    exact zlM hch
 ·rintro σ H' ⟨rfl,y,k,rfl,hy,hya⟩
  exact⟨_,rfl,q y (by omega) hya⟩
def sp_names:Sp:=fun vs H Q _=>∃ c:Int,vs=[.int c]∧∀(H':Hp) (l:Addr) (zs:List Str),ap H H'→H l=none→H' l=some (.lst (zs.map V.str))→zs.length=4→(∀ z∈zs,GdZ z)→Q (.ref l) H'
theorem zb4:zac ["_law_cell","_law_base","_law_at","_law_names_here"] ["_law_cell"] (aj s__law_names):=⟨rfl,rfl,rfl,by decide +kernel,rfl,by decide +kernel,by decide +kernel⟩
theorem strs_at {zs:List Str} {i:Nat} (h:i < zs.length):∃ z∈zs,atI (zs.map V.str) (i:Int)=some (.str z) :=
 ⟨zs[i],List.getElem_mem h,zah (by rw[List.getElem?_map,List.getElem?_eq_getElem h];rfl)⟩
set_option maxHeartbeats 1000000 in
theorem ok_names (F:Fun K "_law_names" "_law_names" s__law_names f fd) (BW:FB P w K mg base CX0 2 "_law_word" fW dW ["_law_cell","_law_size"] ziB):FnOk P w K mg base CX0 3 f fd ["_law_cell"] sp_names:=by
 refine F.ok zb4 (fun vs H Q E h=>?_) (fun cdv A outer s H vs Q E hr h=>?_)
 ·obtain⟨c,rfl,_⟩:=h
  rfl
 obtain⟨c,rfl,q⟩:=h
 refine⟨_,(ae (az (i:=1) zb4.nd rfl (Or.inr rfl) (aq BW.ok hr rfl BW.m BW.kp BW.b .nil aJ (aa (pv 0) (aa (aw zaM (pv 0) ag) ac))))
  (ae (az (i:=2) zb4.nd rfl (Or.inr rfl) (aw zaM (aw za6 (pv 0) ag) ag))
  (ae (zhV (i:=3) (N':=["_law_letter","_law_base","_law_at"]) (ix:=[1,2]) zb4.nd rfl (Or.inl rfl) rfl rfl (by decide +kernel) (by decide +kernel) rfl (fun ok=>zcx (sc:=aj s__law_names) ok rfl (by decide +kernel) (by decide +kernel)) (by decide +kernel) rfl rfl (fun j i h=>match j,h with | 0,h=>by cases h;exact⟨_,rfl,rfl,.inl rfl,.inl rfl⟩ | 1,h=>by cases h;exact⟨_,rfl,rfl,.inl rfl,.inl rfl⟩ | n+2,h=>by simp at h) (zjG au) (fun _ _ _ _=>(aw zbQ (aw zbQ (zba zjB (pv 1) zbr (zbq (pv 2))) (pv 0)) (zba zjB (pv 1) (zbq (pv 2)) zbr))))
  (ae (zal (av zaE (aw zaM (aw za6 (pv 0) ag) ag) ag (aD _))
   (ai (az (i:=3) zb4.nd rfl (Or.inl rfl) (zag (aa au (aa (aA zaT (pv 3) ag (fun _ _=>rfl)) (aa au (aa (aA zaT (pv 3) ag (fun _ _=>rfl)) ac)))))))
   zad)
  (ai (ay (pv 3))))))),?_⟩
 have b7:=modB c (show(0:Int) < 7 by decide)
 have b8:=modB (c / 8) (show(0:Int) < 8 by decide)
 refine⟨_,rfl,_,rfl,_,_,rfl,rfl,(by show(0:Int) < 7;decide),c,c % 7,rfl,by omega,by omega,fun y hyl hya=>?_⟩
 have hy:y.length≤8:=by omega
 refine⟨_,rfl,_,_,rfl,rfl,⟨by decide,by decide⟩,_,_,rfl,rfl,(by show(0:Int) < 8;decide),?_⟩
 have k1:(Txt.slice y none (some (c / 8 % 8))).length≤8:=ziX hy
 have k2:(Txt.slice y (some (c / 8 % 8)) none).length≤8:=ziX hy
 have e4:(("bxfz":Str)).length=4:=by decide +kernel
 refine⟨_,rfl,fun D hD=>⟨fun i m ys H'=>m=4 - i∧i≤4∧(∃ zs:List Str,zs.length=i∧(∀ z∈zs,GdZ z)∧ys=zs.map V.str)∧H'=upd H D (.lst ys),⟨4,rfl,Nat.zero_le _,⟨[],rfl,(fun z hz=>nomatch hz),rfl⟩,rfl⟩,?_⟩⟩
 rintro i m ys H' ⟨rfl,hi,⟨zs,hzl,hzg,rfl⟩,rfl⟩
 refine⟨ad,?_⟩
 by_cases hlt:i < 4
 ·refine .inr ⟨(show i < (("bxfz":Str)).length by rw[e4];exact hlt),fun x H'' y'=>?_⟩
  obtain⟨rfl,ch,hch,rfl⟩:=y'
  refine⟨_,rfl,_,rfl,_,rfl,y,rfl,szS (by omega),_,rfl,_,_,rfl,rfl,szS (by rw[zeD];omega),?_⟩
  refine⟨_,rfl,_,rfl,_,rfl,y,rfl,szS (by omega),_,_,rfl,rfl,szS (by rw[zig,zeD];omega),ad,?_,4 - (i+1),by omega,rfl,hlt,⟨zs++[Txt.slice y none (some (c / 8 % 8))++⟨#[ch]⟩++Txt.slice y (some (c / 8 % 8)) none],?_,?_,?_⟩,ziA⟩
  ·rw[List.length_map,hzl]
   exact Nat.lt_of_lt_of_le hlt (by decide)
  ·rw[List.length_append,hzl];rfl
  ·intro z hz
   rcases List.mem_append.mp hz with hz | hz
   ·exact hzg z hz
   ·rw[List.mem_singleton.mp hz]
    have cm:ch∈("bxfz":Str).cps.toList:=List.mem_of_getElem? (i:=i) (by rw[Array.getElem?_toList];exact hch)
    have two:∀ c∈("bxfz":Str).cps.toList,c∈marks∧c∈zed.cps.toList:=by decide +kernel
    exact gd_of b8.1 (by omega) hya (two ch cm).1 (two ch cm).2
  ·rw[List.map_append];rfl
 ·have hi4:i=4:=by omega
  subst hi4
  refine .inl ⟨(show(("bxfz":Str)).length≤4 by rw[e4];exact Nat.le_refl _),?_⟩
  have s1:ap H (upd H D (.lst (zs.map V.str))):=ah hD _
  have n1:=ad (H:=H) (a:=D) (o:=.lst (zs.map V.str))
  generalize upd H D (.lst (zs.map V.str))=H1 at s1 n1
  refine⟨_,rfl,_,_,rfl,rfl,⟨by decide,by decide⟩,_,_,rfl,rfl,(by show(0:Int) < 3;decide),rfl,_,rfl,aG (fun _=>?_) (fun _=>?_)⟩
  ·obtain⟨z1,m1,a1⟩:=strs_at (zs:=zs) (i:=1) (by omega)
   obtain⟨z3,m3,a3⟩:=strs_at (zs:=zs) (i:=3) (by omega)
   refine⟨_,rfl,D,_,_,_,rfl,rfl,SqL.of n1,a1,_,rfl,D,_,_,_,rfl,rfl,SqL.of n1,a3,lS4,fun l hl=>⟨_,rfl,?_⟩⟩
   refine q _ l ["za",z1,"zc",z3] (s1.trans (ah hl _)) (s1.free hl) ad rfl (fun z hz=>?_)
   simp only[List.mem_cons,List.not_mem_nil,or_false]at hz
   rcases hz with rfl | rfl | rfl | rfl
   ·exact⟨by decide +kernel,by decide +kernel,by decide +kernel,by decide +kernel⟩
   ·exact hzg _ m1
   ·exact⟨by decide +kernel,by decide +kernel,by decide +kernel,by decide +kernel⟩
   ·exact hzg _ m3
  ·exact⟨_,rfl,q _ D zs s1 hD n1 hzl hzg⟩
end
end F74
namespace F74
open PySem L2
def W:Nat→Nat
 | 0=>22
 | d+1=>22+3 * (W d+2)
theorem zkv (xs:List V):zbx xs none (some 1)=xs.take 1:=by
 cases xs with
 | nil=>rfl
 | cons a t =>
  have:HT.sIx (a :: t).length (a :: t).length (some 1)=1:=by
   simp [HT.sIx]
  unfold zbx
  rw[this]
  simp [HT.sIx]
theorem HasL.rep {K:W.Frag} {H:Hp} {ds:List Dt} {vs:List V} (h:HasL K H ds vs):∀ n:Nat,HasL K H (List.replicate n ds).flatten (List.replicate n vs).flatten
 | 0=>HasL.nil
 | n+1=>by
  rw[List.replicate_succ,List.replicate_succ,List.flatten_cons,List.flatten_cons]
  exact h.append (HasL.rep h n)
theorem HasL.take {K:W.Frag} {H:Hp}:∀ {ds:List Dt} {vs:List V} (n:Nat),HasL K H ds vs→HasL K H (ds.take n) (vs.take n)
 | _,_,0,_=>HasL.nil
 | [],vs,n+1,h=>by
  simp only[HasL]at h
  subst h
  exact HasL.nil
 | d :: ds,vs,n+1,h=>by
  simp only[HasL]at h
  obtain⟨v,r,rfl,h1,h2⟩:=h
  exact .cons h1 (HasL.take n h2)
theorem zkD (n:Nat) (ts:List Tr):(List.replicate n (zax ts)).flatten=zax (List.replicate n ts).flatten:=by
 induction n with
 | zero=>rfl
 | succ n ih=>rw[List.replicate_succ,List.replicate_succ,List.flatten_cons,List.flatten_cons,ih,zbu,zbu,zbu,List.map_append]
theorem zj1 (n:Nat) (ts:List Tr):(zax ts).take n=zax (ts.take n):=by rw[zbu,zbu,List.map_take]
section
variable {P:Program} {w:World} {K:W.Frag} {mg:Str→Option Value} {base:Heap} {aB aO:Addr} {f fM:Addr} {fd dM:FuncData}
def Names (H:Hp) (nl:Addr) (zs:List Str):Prop:=H nl=some (.lst (zs.map V.str))∧zs.length=4∧∀ z∈zs,z.length≤20
theorem Names.same {H H':Hp} {nl:Addr} {zs:List Str} (h:Names H nl zs) (s:ap H H'):Names H' nl zs:=⟨s _ _ h.1,h.2⟩
theorem Names.get {H:Hp} {nl:Addr} {zs:List Str} (h:Names H nl zs) (c:Int):∃ z,atI (zs.map V.str) (c % 4)=some (.str z)∧z.length≤20∧z∈zs:=by
 have b:=modB c (show(0:Int) < 4 by decide)
 have e:c % 4=(((c % 4).toNat:Nat):Int):=by omega
 obtain⟨z,hz,ha⟩:=strs_at (zs:=zs) (i:=(c % 4).toNat) (by rw[h.2.1];omega)
 rw[←e]at ha
 exact⟨z,ha,h.2.2 z hz,hz⟩
def zdE (K:W.Frag) (n:Nat):Sp:=fun vs H Q _=>∃(c:Int) (nl:Addr) (zs:List Str) (d:Nat),vs=[.int c,.ref nl,.int (d:Int)]∧Names H nl zs∧d < n∧∀(H':Hp) (p:Addr) (t:Tr),ap H H'→Has K H' (dTr t) (.ref p)→dp t≤d+1→wt zs t≤W d→Q (.ref p) H'
theorem zcm:zac ["_law_cell","_law_names_here","_law_deep","_law_many","_law_inner"] ["_law_cell","_law_names_here","_law_deep"] (aj s__law_tree):=⟨rfl,rfl,rfl,by decide +kernel,rfl,by decide +kernel,by decide +kernel⟩
theorem tree4 (T:Txt K mg aB aO) {cdv:Value} {A:Around} {outer:List Env} {s:Shared} {H0:Hp} {E:XK} :
  ∃ t,PSs (zbg CX0 P w K mg base ["_law_cell","_law_names_here","_law_deep","_law_many","_law_inner"] "_law_tree" (aj s__law_tree) f cdv A outer s H0 E).nox ((zaw s__law_tree).drop 4) t ∧
   ∀(Dn:za3) (H:Hp) (c:Int) (nl:Addr) (zs:List Str) (v2 v3:Option V) (l:Addr) (xs:List V) (ts:List Tr) (d:Nat),Names H nl zs→H l=some (.lst xs)→HasL K H (zax ts) xs→dps ts≤d→ts.length≤3→22+wts zs ts≤W d →
    (∀(H':Hp) (p:Addr) (t:Tr),ap H H'→Has K H' (dTr t) (.ref p)→dp t≤d+1→wt zs t≤W d→Dn.rt (.ref p) H') →
    t Dn [some (.int c),some (.ref nl),v2,v3,some (.ref l)] H:=by
 refine⟨_,(ai (ay (zae (aa (aA zaT (pv 1) (aw zaM (pv 0) ag) (fun _ _=>rfl)) (aa (za7 zbK rfl T.tuple PyProof.Rows.Boot.tuple (aa (pv 4) ac)) ac))))),?_⟩
 intro Dn H c nl zs v2 v3 l xs ts d hN hl hx hd t3 hw q
 obtain⟨z,hz,z20,zin⟩:=hN.get c
 refine⟨_,rfl,_,rfl,_,_,rfl,rfl,(by show(0:Int) < 4;decide),nl,_,_,_,rfl,rfl,SqL.of hN.1,hz,_,rfl,l,_,rfl,.inl ⟨SqL.of hl,fun l2 hl2=>⟨lS2,fun p hp=>?_⟩⟩⟩
 have s1:ap H (upd H l2 (.tup xs)):=ah hl2 _
 have s2:ap (upd H l2 (.tup xs)) (upd (upd H l2 (.tup xs)) p (.tup [.str z,.ref l2])):=ah hp _
 have s12:=s1.trans s2
 refine q _ p (.node z ts) s12 (of_tr (SqT.of ad) (SqT.of (s2 _ _ ad)) (hx.keep s12.kt (nols_dTrs _))) ?_ ?_
 ·simp only[dp]
  omega
 ·simp only[wt]
  rw[if_pos ⟨zin,t3⟩]
  omega
theorem fin_w {zs:List Str} {ts:List Tr} {d:Nat} (h3:ts.length≤3) (h0:d=0→ts=[]) (hw:∀ t∈ts,wt zs t≤W (d - 1)):22+wts zs ts≤W d:=by
 cases d with
 | zero=>rw[h0 rfl];simp [wts,W]
 | succ d =>
  have h:=zgv hw
  rw[Nat.add_sub_cancel]at h
  have h2:=Nat.mul_le_mul_left (W d+2) h3
  simp only[W]
  omega
set_option maxHeartbeats 1000000 in
theorem tree2 {n:Nat} (T:Txt K mg aB aO) (IH:FnOk P w K mg base CX0 (n+1) f fd ["_law_cell","_law_names_here","_law_deep"] (zdE K n)) (b:ar K fd ["_law_cell","_law_names_here","_law_deep"] []) (kp:W.keepIn K (.ref f)=true) (m:mg "_law_tree"=some (.ref f))
  (BM:FB P w K mg base CX0 1 "_law_mixed" fM dM ["_law_cell","_law_k"] zbU) {cdv:Value} {A:Around} {outer:List Env} {s:Shared} {H0:Hp} {E:XK} (hr:aH (n+1) (A.deeper (PyProof.Rows.envOfC "_law_tree" (aj s__law_tree) s.heap.objs.size f cdv))) :
  ∃ t,PSs (zbg CX0 P w K mg base ["_law_cell","_law_names_here","_law_deep","_law_many","_law_inner"] "_law_tree" (aj s__law_tree) f cdv A outer s H0 E).nox ((zaw s__law_tree).drop 2) t ∧
   ∀(Dn:za3) (H:Hp) (c:Int) (nl:Addr) (zs:List Str) (d mn:Nat),Names H nl zs→d < n+1→mn≤3→(mn=0∨1≤d) →
    (∀(H':Hp) (p:Addr) (t:Tr),ap H H'→Has K H' (dTr t) (.ref p)→dp t≤d+1→wt zs t≤W d→Dn.rt (.ref p) H') →
    t Dn [some (.int c),some (.ref nl),some (.int (d:Int)),some (.int (mn:Int)),none] H:=by
 have hr1:aH 1 _:=hr.mono (by omega)
 obtain⟨t4,h4,q4⟩:=tree4 (f:=f) (P:=P) (w:=w) (base:=base) (cdv:=cdv) (A:=A) (s:=s) (outer:=outer) (H0:=H0) (E:=E) T
 refine⟨_,(ae (zhV (i:=4) (N':=["_law_k","_law_names_here","_law_cell","_law_deep"]) (ix:=[1,0,2]) zcm.nd rfl (Or.inl rfl) rfl rfl (by decide +kernel) (by decide +kernel) rfl (fun ok=>zcx (sc:=aj s__law_tree) ok rfl (by decide +kernel) (by decide +kernel)) (by decide +kernel) rfl rfl (fun j i h=>match j,h with | 0,h=>by cases h;exact⟨_,rfl,rfl,.inl rfl,.inl rfl⟩ | 1,h=>by cases h;exact⟨_,rfl,rfl,.inl rfl,.inl rfl⟩ | 2,h=>by cases h;exact⟨_,rfl,rfl,.inl rfl,.inl rfl⟩ | n+3,h=>by simp at h) (zcN rfl T.range (aa (pv 3) ac)) (fun _ _ _ _=>(aq IH hr rfl m kp b .nil aJ (aa (aq BM.ok hr1 rfl BM.m BM.kp BM.b .nil aJ (aa (pv 2) (aa (aw za9 ag (pv 0)) ac))) (aa (pv 1) (aa (aw ze0 (pv 3) ag) ac))))))
   (ae (zal (av zaE (aw zaM (aw za6 (pv 0) ag) ag) ag (aD _))
    (ai (az (i:=4) zcm.nd rfl (Or.inl rfl) (aw op_rep (zba zco (pv 4) zbr (zbq ag)) (pv 3))))
    zad) h4)),?_⟩
 intro Dn H c nl zs d mn hN hd m3 md q
 refine⟨_,rfl,_,rfl,by omega,by omega,fun D hD=>zdd zhJ (fun i us H'=>ap H H'∧∃ ts:List Tr,HasL K H' (zax ts) us∧ts.length=i∧∀ t∈ts,dp t≤d∧wt zs t≤W (d - 1)) (fun _ _ _ _=>trivial) ⟨ah hD _,[],HasL.nil,rfl,fun t ht=>nomatch ht⟩ ?_ ?_⟩
 ·rintro i us H8 x H4 hi hly hDs ⟨s4,ts,hts,tl,tok⟩ ⟨rfl,rfl⟩
  have hi':i < mn:=by
   have:i < ((mn:Int)).toNat:=hi
   omega
  obtain⟨d',rfl⟩:∃ d',d=d'+1:=⟨d - 1,by omega⟩
  have ed:(((d'+1:Nat):Int) - 1)=(d':Int):=by omega
  refine⟨_,rfl,_,rfl,_,_,rfl,rfl,c,_,rfl,fun mx=>⟨_,rfl,_,rfl,_,_,rfl,rfl,mx,nl,zs,d',congrArg (fun z=>[V.int mx,V.ref nl,V.int z]) ed,hN.same s4,by omega,fun H5 p t s5 ht h1 h2=>?_⟩⟩
  have hDs5:=s5 _ _ hDs
  have kt:=zaj.lst (ys:=us++[.ref p]) hDs5
  refine zb5 (szM (by show((mn:Int)).toNat≤16000000;omega)) hi hly hDs5 ⟨(s4.trans s5).upd hD,ts++[t],?_,by rw[List.length_append,tl];rfl,fun u hu=>?_⟩
  ·rw[zbu,List.map_append,←zbu]
   exact HasL.append (hts.keep (s5.kt.trans kt) (nols_dTrs _)) (HasL.one (ht.keep kt (nol_dTr _)))
  ·rcases List.mem_append.mp hu with hu | hu
   ·exact tok u hu
   ·rw[List.mem_singleton.mp hu]
    exact⟨h1,h2⟩
 rintro us H4 hDs ⟨s4,ts,hts,tl,tok⟩
 have tl':ts.length=mn:=by
  have:ts.length=((mn:Int)).toNat:=tl
  omega
 have h0:d=0→ts=[]:=fun e=>List.length_eq_zero_iff.mp (by omega)
 refine⟨_,rfl,_,_,rfl,rfl,⟨by decide,by decide⟩,_,_,rfl,rfl,(by show(0:Int) < 4;decide),rfl,_,rfl,aG (fun _=>?_) (fun _=>?_)⟩
 ·refine⟨_,rfl,_,rfl,D,_,rfl,SqL.of hDs,fun p hp=>?_⟩
  rw[zkv]
  have s5:ap H4 (upd H4 p (.lst (us.take 1))):=ah hp _
  have n5:=ad (H:=H4) (a:=p) (o:=.lst (us.take 1))
  generalize upd H4 p (.lst (us.take 1))=H5 at s5 n5
  have ul:(us.take 1).length≤1:=by rw[List.length_take];omega
  refine⟨_,rfl,p,_,_,rfl,rfl,n5,by omega,by omega,szM ?_,fun p2 hp2=>?_⟩
  ·have:=Nat.mul_le_mul ul (show((mn:Int)).toNat≤3 by omega)
   omega
  rw[show((mn:Int)).toNat=mn by omega]
  have s6:ap H5 (upd H5 p2 (.lst (List.replicate mn (us.take 1)).flatten)):=ah hp2 _
  have s46:=s5.trans s6
  have mem:∀ t∈(List.replicate mn (ts.take 1)).flatten,t∈ts:=fun t ht=>by
   obtain⟨l,hl,hlt⟩:=List.mem_flatten.mp ht
   rw[(List.mem_replicate.mp hl).2]at hlt
   exact List.mem_of_mem_take hlt
  have len:(List.replicate mn (ts.take 1)).flatten.length≤3:=by
   rw[ziR]
   have:(ts.take 1).length≤1:=by rw[List.length_take];omega
   have:=Nat.mul_le_mul m3 this
   omega
  refine q4 Dn _ c nl zs _ _ p2 _ (List.replicate mn (ts.take 1)).flatten d (hN.same (s4.trans s46)) ad ?_ (ze2 fun t ht=>(tok t (mem t ht)).1) len (fin_w len (fun e=>?_) fun t ht=>(tok t (mem t ht)).2) fun H' p' t s7=>q H' p' t ((s4.trans s46).trans s7)
  ·rw[←zkD,←zj1]
   exact HasL.rep (HasL.take 1 (hts.keep s46.kt (nols_dTrs _))) mn
  ·rw[h0 e]
   refine List.eq_nil_iff_forall_not_mem.mpr fun t ht=>?_
   obtain⟨l,hl,hlt⟩:=List.mem_flatten.mp ht
   rw[(List.mem_replicate.mp hl).2]at hlt
   simp at hlt
 ·exact q4 Dn H4 c nl zs _ _ D us ts d (hN.same s4) hDs hts (ze2 fun t ht=>(tok t ht).1) (by omega) (fin_w (by omega) h0 fun t ht=>(tok t ht).2) fun H' p' t s7=>q H' p' t (s4.trans s7)
set_option maxHeartbeats 1000000 in
theorem ok_ltr (F:Fun K "_law_tree" "_law_tree" s__law_tree f fd) (T:Txt K mg aB aO) (b:ar K fd ["_law_cell","_law_names_here","_law_deep"] []) (kp:W.keepIn K (.ref f)=true) (m:mg "_law_tree"=some (.ref f))
  (BM:FB P w K mg base CX0 1 "_law_mixed" fM dM ["_law_cell","_law_k"] zbU):∀ n,FnOk P w K mg base CX0 (n+1) f fd ["_law_cell","_law_names_here","_law_deep"] (zdE K n)
 | 0=>FnOk.no fun _ _ _ _ ⟨_,_,_,_,_,_,h,_⟩=>absurd h (Nat.not_lt_zero _)
 | n+1=>by
  have IH:=ok_ltr F T b kp m BM n
  refine F.ok (k:=n+1) zcm (fun vs H Q E h=>?_) (fun cdv A outer s H vs Q E hr h=>?_)
  ·obtain⟨c,nl,zs,d,rfl,_⟩:=h
   rfl
  obtain⟨c,nl,zs,d,rfl,hN,hd,q⟩:=h
  obtain⟨t2,h2,q2⟩:=tree2 (outer:=outer) (H0:=H) (E:=E) T IH b kp m BM hr
  refine⟨_,(ae (az (i:=3) zcm.nd rfl (Or.inl rfl) (aA zaT (zag (aa ag (aa ag (aa ag (aa ag (aa ag ac)))))) (aw zaM (aw za6 (pv 0) ag) ag) (fun _ _=>rfl)))
   (ae (zal (av zaE (pv 2) ag (aD _))
    (ai (az (i:=3) zcm.nd rfl (Or.inl rfl) ag))
    zad) h2)),?_⟩
  have b5:=modB (c / 4) (show(0:Int) < 5 by decide)
  obtain⟨mn,hm,m3⟩:∃ mn:Nat,atI [V.int 0,.int 0,.int 1,.int 2,.int 3] (c / 4 % 5)=some (.int (mn:Int))∧mn≤3:=by
   have:c / 4 % 5=0∨c / 4 % 5=1∨c / 4 % 5=2∨c / 4 % 5=3∨c / 4 % 5=4:=by omega
   rcases this with e | e | e | e | e <;> rw[e]
   ·exact⟨0,rfl,by decide⟩
   ·exact⟨0,rfl,by decide⟩
   ·exact⟨1,rfl,by decide⟩
   ·exact⟨2,rfl,by decide⟩
   ·exact⟨3,rfl,by decide⟩
  refine⟨(by show 5≤sizeLine;decide),fun l0 hl0=>?_⟩
  have s1:ap H (upd H l0 (.lst [V.int 0,.int 0,.int 1,.int 2,.int 3])):=ah hl0 _
  have n1:=ad (H:=H) (a:=l0) (o:=.lst [V.int 0,.int 0,.int 1,.int 2,.int 3])
  generalize upd H l0 (.lst [V.int 0,.int 0,.int 1,.int 2,.int 3])=H1 at s1 n1
  have fin:∀(H':Hp) (p:Addr) (t:Tr),ap H1 H'→Has K H' (dTr t) (.ref p)→dp t≤d+1→wt zs t≤W d→Q (.ref p) H':=fun H' p t s2=>q H' p t (s1.trans s2)
  refine⟨_,rfl,_,_,rfl,rfl,⟨by decide,by decide⟩,_,_,rfl,rfl,(by show(0:Int) < 5;decide),l0,_,_,_,rfl,rfl,SqL.of n1,hm,_,rfl,rfl,_,rfl,aG (fun e=>?_) (fun e=>?_)⟩
  ·exact q2 _ H1 c nl zs d 0 (hN.same s1) hd (by decide) (.inl rfl) fin
  ·have d1:1≤d:=Nat.pos_of_ne_zero fun z=>e (by rw[z];decide)
   exact q2 _ H1 c nl zs d mn (hN.same s1) hd m3 (.inr d1) fin
end
end F74
namespace F74
open PySem L2
theorem cut_m1 (ini:List V) (z:V):zbx (ini++[z]) none (some (-1))=ini:=by
 unfold zbx
 have e:HT.sIx (ini++[z]).length (ini++[z]).length (some (-1))=ini.length:=by
  show(if(-1:Int) < 0 then((-1:Int)+((ini++[z]).length:Int)).toNat else min (-1:Int).toNat (ini++[z]).length)=ini.length
  rw[if_pos (by decide),List.length_append]
  simp only[List.length_singleton]
  omega
 rw[e,HT.sIx_none,List.drop_zero,Nat.sub_zero,List.take_left]
theorem cut_m2 (ini:List V) (y z:V):zbx (ini++[y,z]) none (some (-2))=ini:=by
 unfold zbx
 have e:HT.sIx (ini++[y,z]).length (ini++[y,z]).length (some (-2))=ini.length:=by
  show(if(-2:Int) < 0 then((-2:Int)+((ini++[y,z]).length:Int)).toNat else min (-2:Int).toNat (ini++[y,z]).length)=ini.length
  rw[if_pos (by decide),List.length_append]
  simp only[List.length_cons,List.length_nil]
  omega
 rw[e,HT.sIx_none,List.drop_zero,Nat.sub_zero,List.take_left]
theorem at_m1 (ini:List V) (y z:V):atI (ini++[y,z]) (-1)=some z:=by
 rw[show ini++[y,z]=(ini++[y])++[z] by simp]
 exact zif _ _
theorem at_m2 (ini:List V) (y z:V):atI (ini++[y,z]) (-2)=some y:=by
 have hl:(ini++[y,z]).length=ini.length+2:=by simp
 have e:ixN (ini++[y,z]).length (-2)=some ini.length:=by
  unfold ixN
  rw[hl,if_neg (by decide),if_pos (by omega)]
  congr 1
  omega
 unfold atI
 rw[e]
 show(ini++[y,z])[ini.length]?=some y
 simp
theorem HasL.split {K:W.Frag} {H:Hp}:∀ {a b:List Dt} {vs:List V},HasL K H (a++b) vs→∃ us ws,vs=us++ws∧HasL K H a us∧HasL K H b ws
 | [],b,vs,h=>⟨[],vs,rfl,HasL.nil,h⟩
 | d :: a,b,vs,h=>by
  have h':HasL K H (d :: (a++b)) vs:=h
  simp only[HasL]at h'
  obtain⟨v,r,rfl,h1,h2⟩:=h'
  obtain⟨us,ws,rfl,g1,g2⟩:=HasL.split (a:=a) h2
  exact⟨v :: us,ws,rfl,.cons h1 g1,g2⟩
theorem HasL.two {K:W.Frag} {H:Hp} {d e:Dt} {ws:List V} (h:HasL K H [d,e] ws):∃ x y,ws=[x,y]∧Has K H d x∧Has K H e y:=by
 simp only[HasL]at h
 obtain⟨x,r,rfl,h1,y,r2,rfl,h2,rfl⟩:=h
 exact⟨x,y,rfl,h1,h2⟩
theorem HasL.uno {K:W.Frag} {H:Hp} {d:Dt} {ws:List V} (h:HasL K H [d] ws):∃ x,ws=[x]∧Has K H d x:=by
 simp only[HasL]at h
 obtain⟨x,r,rfl,h1,rfl⟩:=h
 exact⟨x,rfl,h1⟩
theorem zgA {α:Type} {xs:List α} (h:1≤xs.length):∃ ini x,xs=ini++[x]:=by
 refine⟨xs.dropLast,xs.getLast (by intro e;rw[e]at h;simp at h),?_⟩
 rw[List.dropLast_concat_getLast]
theorem zkA {α:Type} {xs:List α} (h:2≤xs.length):∃ ini x y,xs=ini++[x,y]:=by
 obtain⟨a,y,rfl⟩:=zgA (xs:=xs) (by omega)
 obtain⟨b,x,rfl⟩:=zgA (xs:=a) (by rw[List.length_append]at h;simp only[List.length_singleton]at h;omega)
 exact⟨b,x,y,by simp⟩
section
variable {P:Program} {w:World} {K:W.Frag} {mg:Str→Option Value} {base:Heap} {aB aO:Addr} {f fM fT:Addr} {fd dM dT':FuncData}
structure zca (zs:List Str) (fs:List Fm) (i:Nat):Prop where
 ok:∀ g∈fs,FOk g∧fdp g≤i
 sm:fsum zs fs≤4000 * i
 le:fs.length≤i
theorem zca.put {zs:List Str} {fs fs0:List Fm} {i:Nat} {g:Fm} (h:zca zs fs i) (hm:∀ u∈fs0,u∈fs) (hl:fs0.length≤fs.length) (hg:FOk g) (hd:fdp g≤i+1) (hw:fsum zs fs0+fwt zs g+1≤4000 * (i+1)):zca zs (fs0++[g]) (i+1):=by
 refine⟨fun u hu=>?_,?_,?_⟩
 ·rcases List.mem_append.mp hu with hu | hu
  ·have:=h.ok u (hm u hu)
   exact⟨this.1,by omega⟩
  ·rw[List.mem_singleton.mp hu]
   exact⟨hg,hd⟩
 ·rw[fsum_app,zib]
  omega
 ·have:=h.le
  rw[List.length_append,List.length_singleton]
  omega
def zhQ (K:W.Frag):Sp:=fun vs H Q _=>∃(pl nl:Addr) (c:Int) (xs:List V) (fs:List Fm) (zs:List Str) (i:Nat),vs=[.ref pl,.int c,.ref nl]∧H pl=some (.lst xs)∧HasL K H (fs.map dFm) xs∧Names H nl zs∧zca zs fs i∧i≤17 ∧
 ∀(H':Hp) (l:Addr) (ys:List V) (gs:List Fm),ap H H'→H' l=some (.lst ys)→HasL K H' (gs.map dFm) ys→zca zs gs (i+1)→Q (.ref l) H'
abbrev NG:List Str:=["_law_pile","_law_cell","_law_names_here","_law_kind","_law_more","_law_one","_law_other","_law_trees","_law_k","_law_tree_here"]
theorem zbe:zac NG ["_law_pile","_law_cell","_law_names_here"] (aj s__law_grown):=⟨rfl,rfl,rfl,by decide +kernel,rfl,by decide +kernel,by decide +kernel⟩
theorem zdw {H:Hp} {us:List V} {x:V} {l:Addr} {fs0:List Fm} {g:Fm} (hu:HasL K H (fs0.map dFm) us) (hx:Has K H (dFm g) x) (hl:H l=none):HasL K (upd H l (.lst (us++[x]))) ((fs0++[g]).map dFm) (us++[x]):=by
 have s:ap H (upd H l (.lst (us++[x]))):=ah hl _
 rw[List.map_append]
 exact HasL.append (hu.keep s.kt (nols_fms _)) (HasL.one (hx.keep s.kt (nol_dFm _)))
theorem grown9 (T:Txt K mg aB aO) {cdv:Value} {A:Around} {outer:List Env} {s:Shared} {H0:Hp} {E:XK} :
  ∃ t,PSs (zbg CX0 P w K mg base NG "_law_grown" (aj s__law_grown) f cdv A outer s H0 E).nox ((zaw s__law_grown).drop 9) t ∧
   ∀(Dn:za3) (H:Hp) (pl nl:Addr) (mo:Int) (xs:List V) (fs:List Fm) (zs:List Str) (i:Nat) (v1 v3 v5 v6 v7 v8 v9:Option V),H pl=some (.lst xs)→HasL K H (fs.map dFm) xs→Names H nl zs→zca zs fs i→i≤17 →
    (∀(H':Hp) (l:Addr) (ys:List V) (gs:List Fm),ap H H'→H' l=some (.lst ys)→HasL K H' (gs.map dFm) ys→zca zs gs (i+1)→Dn.rt (.ref l) H') →
    t Dn [some (.ref pl),v1,some (.ref nl),v3,some (.int mo),v5,v6,v7,v8,v9] H:=by
 refine⟨_,(ai (ay (aw zbO (pv 0) (zag (aa (zae (aa au (aa (aA zaT (pv 2) (aw zaM (pv 4) ag) (fun _ _=>rfl)) ac))) ac))))),?_⟩
 intro Dn H pl nl mo xs fs zs i v1 v3 v5 v6 v7 v8 v9 hpl hx hN hP hi q
 obtain⟨z,hz,z20,zin⟩:=hN.get mo
 have xl:xs.length=fs.length:=by rw[←hx.length,List.length_map]
 have:=hP.le
 refine⟨_,rfl,_,rfl,_,rfl,_,_,rfl,rfl,(by show(0:Int) < 4;decide),nl,_,_,_,rfl,rfl,SqL.of hN.1,hz,lS2,fun p hp=>⟨lS1,fun b hb=>?_⟩⟩
 have s1:ap H (upd H p (.tup [.str "plain",.str z])):=ah hp _
 have n1:=ad (H:=H) (a:=p) (o:=.tup [.str "plain",.str z])
 generalize upd H p (.tup [.str "plain",.str z])=H1 at s1 n1 hb ⊢
 have s2:ap H1 (upd H1 b (.lst [.ref p])):=ah hb _
 have n2:=ad (H:=H1) (a:=b) (o:=.lst [.ref p])
 generalize upd H1 b (.lst [.ref p])=H2 at s2 n2
 have s12:=s1.trans s2
 refine⟨pl,b,_,_,rfl,rfl,s12 _ _ hpl,n2,szM (by rw[List.length_singleton];omega),fun l hl=>?_⟩
 refine q _ l _ (fs++[.plain z]) (s12.trans (ah hl _)) ad (zdw (hx.keep s12.kt (nols_fms _)) (Has.tup' (SqT.of (s2 _ _ n1)) (.cons Has.str' (.cons Has.str' .nil))) hl) (hP.put (g:=.plain z) (fun _ h=>h) (Nat.le_refl _) trivial (by simp only[fdp];omega) ?_)
 have:=hP.sm
 simp only[fwt]
 rw[if_pos zin]
 omega
end
end F74
namespace F74
open PySem L2
section
variable {P:Program} {w:World} {K:W.Frag} {mg:Str→Option Value} {base:Heap} {aB aO:Addr} {f fM fT:Addr} {fd dM dT':FuncData}
def zee (zs:List Str) (K:W.Frag) (H:Hp) (o:Addr) (t:Tr):Prop:=Has K H (dTr t) (.ref o)∧dp t≤3∧wt zs t≤310
theorem zee.same {zs:List Str} {H H':Hp} {o:Addr} {t:Tr} (h:zee zs K H o t) (s:ap H H'):zee zs K H' o t:=⟨h.1.keep s.kt (nol_dTr _),h.2⟩
theorem W1:W 1≤310:=by decide
theorem W2:W 2≤310:=by decide
theorem W0:W 0≤310:=by decide
set_option maxHeartbeats 1000000 in
theorem grown8 (T:Txt K mg aB aO) (BT:FB P w K mg base CX0 4 "_law_tree" fT dT' ["_law_cell","_law_names_here","_law_deep"] (zdE K 3)) (BM:FB P w K mg base CX0 1 "_law_mixed" fM dM ["_law_cell","_law_k"] zbU)
  {cdv:Value} {A:Around} {outer:List Env} {s:Shared} {H0:Hp} {E:XK} (hr:aH 4 (A.deeper (PyProof.Rows.envOfC "_law_grown" (aj s__law_grown) s.heap.objs.size f cdv))) :
  ∃ t,PSs (zbg CX0 P w K mg base NG "_law_grown" (aj s__law_grown) f cdv A outer s H0 E).nox ((zaw s__law_grown).drop 8) t ∧
   ∀(Dn:za3) (H:Hp) (pl nl o:Addr) (ki mo:Int) (xs:List V) (fs:List Fm) (zs:List Str) (t1:Tr) (i:Nat) (v1 v6:Option V),H pl=some (.lst xs)→HasL K H (fs.map dFm) xs→Names H nl zs→zca zs fs i→i≤17→zee zs K H o t1 →
    (∀(H':Hp) (l:Addr) (ys:List V) (gs:List Fm),ap H H'→H' l=some (.lst ys)→HasL K H' (gs.map dFm) ys→zca zs gs (i+1)→Dn.rt (.ref l) H') →
    t Dn [some (.ref pl),v1,some (.ref nl),some (.int ki),some (.int mo),some (.ref o),v6,none,none,none] H:=by
 have hu:=zgx hr
 have hr1:aH 1 _:=hr.mono (by decide)
 obtain⟨t9,h9,q9⟩:=grown9 (f:=f) (P:=P) (w:=w) (base:=base) (cdv:=cdv) (A:=A) (s:=s) (outer:=outer) (H0:=H0) (E:=E) T
 refine⟨_,(ae (zal (av zaE (pv 3) ag (aD _))
   (ae (az (i:=7) zbe.nd rfl (Or.inl rfl) (zag (aa (pv 5) ac)))
    (ae (zbp PassesOwn.never rfl (zcN rfl T.range (aa (aw za9 ag (aw zaM (aw za6 (pv 4) ag) ag)) ac)) (zaO (i:=8) zbe.nd rfl (Or.inl rfl))
     (ae (az (i:=9) zbe.nd rfl (Or.inl rfl) (aq BT.ok hr rfl BT.m BT.kp BT.b .nil aJ (aa (aq BM.ok hr1 rfl BM.m BM.kp BM.b .nil aJ (aa (pv 4) (aa (aw za9 ag (pv 8)) ac))) (aa (pv 2) (aa ag ac)))))
      (ai (zal (av (zcO hu) (pv 9) (pv 7) rfl)
       (ai (zau (zbH PySem.F.plainAttrs_list PySem.F.slot_list_append PySem.F.type_list_append zaZ (pv 7) (aa (pv 9) ac))))
       zad))))
    (ai (zal (av zbM (zam zai rfl T.len PySem.boot_len (aa (pv 7) ac)) ag (aD _))
     (ai (ay (aw zbO (pv 0) (zag (aa (zae (aa au (aa (za7 zbK rfl T.tuple PyProof.Rows.Boot.tuple (aa (pv 7) ac)) ac))) ac)))))
     zad))))
   zad) h9),?_⟩
 intro Dn H pl nl o ki mo xs fs zs t1 i v1 v6 hpl hx hN hP hi ho q
 refine⟨_,rfl,rfl,_,rfl,aG (fun _=>?_) (fun _=>q9 Dn H pl nl mo xs fs zs i _ _ _ _ _ _ _ hpl hx hN hP hi q)⟩
 refine⟨_,rfl,lS1,fun tl htl=>?_⟩
 have s1:ap H (upd H tl (.lst [.ref o])):=ah htl _
 have n1:=ad (H:=H) (a:=tl) (o:=.lst [.ref o])
 generalize upd H tl (.lst [.ref o])=H1 at s1 n1
 have b4:=modB (mo / 9) (show(0:Int) < 4 by decide)
 have ho1:=ho.same s1
 refine⟨_,rfl,_,_,rfl,rfl,⟨by decide,by decide⟩,_,_,rfl,rfl,(by show(0:Int) < 4;decide),_,_,rfl,rfl,_,rfl,(by show -(2 ^ 62)≤1+mo / 9 % 4;omega),(by show 1+mo / 9 % 4 < 2 ^ 62;omega),zd9 (lo:=0) (n:=(1+mo / 9 % 4).toNat) (fun j σ H'=>ap H H'∧∃(us:List V) (ts:List Tr) (v8 v9:Option V),σ=[some (.ref pl),v1,some (.ref nl),some (.int ki),some (.int mo),some (.ref o),v6,some (.ref tl),v8,v9]∧H' tl=some (.lst us)∧HasL K H' (zax ts) us∧ts.length≤j+1∧∀ t∈ts,dp t≤3∧wt zs t≤310)
  ⟨s1,[.ref o],[t1],none,none,rfl,n1,HasL.one ho1.1,Nat.le_refl _,fun t ht=>by rw[List.mem_singleton.mp ht];exact ho.2⟩ ?_ ?_⟩
 ·rintro j σ H2 hj ⟨s2,us,ts,v8,v9,rfl,hl2,hts,tl2,tok⟩
  refine⟨_,rfl,_,rfl,_,_,rfl,rfl,mo,_,rfl,fun mx=>⟨_,rfl,mx,nl,zs,1,rfl,hN.same s2,by decide,fun H3 p t s3 ht h1 h2=>?_⟩⟩
  have hts3:=hts.keep s3.kt (nols_dTrs _)
  have hl3:=s3 _ _ hl2
  have dd:=zeb ts
  have dm:=ze2 fun t ht=>(tok t ht).1
  have ul:us.length=ts.length:=by rw[←hts.length,dTrs_length]
  have w1:=W1
  refine⟨_,rfl,_,rfl,tl,us,zax ts,dTr t,rfl,.inl (SqL.of hl3),hts3,ht,by omega,_,rfl,aG (fun _=>?_) (fun _=>?_)⟩
  ·have kt:=zaj.lst (ys:=us++[.ref p]) hl3
   refine⟨_,rfl,.inl ⟨rfl,_,SqL.of hl3⟩,_,rfl,tl,_,_,rfl,rfl,hl3,zdj (by omega),(s2.trans s3).upd htl,us++[.ref p],ts++[t],_,_,rfl,ad,?_,by rw[List.length_append,List.length_singleton];omega,fun u hu'=>?_⟩
   ·rw[zbu,List.map_append,←zbu]
    exact HasL.append (hts3.keep kt (nols_dTrs _)) (HasL.one (ht.keep kt (nol_dTr _)))
   ·rcases List.mem_append.mp hu' with hu' | hu'
    ·exact tok u hu'
    ·rw[List.mem_singleton.mp hu']
     exact⟨by omega,by omega⟩
  ·exact⟨s2.trans s3,us,ts,_,_,rfl,hl3,hts3,by omega,tok⟩
 rintro σ H2 ⟨s2,us,ts,v8,v9,rfl,hl2,hts,tl2,tok⟩
 have xl:xs.length=fs.length:=by rw[←hx.length,List.length_map]
 have hle:=hP.le
 refine⟨_,rfl,tl,_,rfl,.inl (SqL.of hl2),_,_,rfl,rfl,_,rfl,aG (fun c2=>?_) (fun _=>?_)⟩
 ·refine⟨_,rfl,_,rfl,tl,_,rfl,.inl ⟨SqL.of hl2,fun tp htp=>⟨lS2,fun p hp=>⟨lS1,fun b hb=>?_⟩⟩⟩⟩
  have s3:ap H2 (upd H2 tp (.tup us)):=ah htp _
  have n3:=ad (H:=H2) (a:=tp) (o:=.tup us)
  generalize upd H2 tp (.tup us)=H3 at s3 n3 hp hb ⊢
  have s4:ap H3 (upd H3 p (.tup [.str "unlike",.ref tp])):=ah hp _
  have n4:=ad (H:=H3) (a:=p) (o:=.tup [.str "unlike",.ref tp])
  generalize upd H3 p (.tup [.str "unlike",.ref tp])=H4 at s4 n4 hb ⊢
  have s5:ap H4 (upd H4 b (.lst [.ref p])):=ah hb _
  have n5:=ad (H:=H4) (a:=b) (o:=.lst [.ref p])
  generalize upd H4 b (.lst [.ref p])=H5 at s5 n5
  have s25:=(s3.trans s4).trans s5
  have s05:=s2.trans s25
  refine⟨pl,b,_,_,rfl,rfl,s05 _ _ hpl,n5,szM (by rw[List.length_singleton];omega),fun l hl=>?_⟩
  have hg:Has K H5 (dFm (.unlike ts)) (.ref p):=Has.tup' (SqT.of (s5 _ _ n4)) (.cons Has.str' (.cons (Has.tup' (SqT.of (s5 _ _ (s4 _ _ n3))) (hts.keep s25.kt (nols_dTrs _))) .nil))
  refine q _ l _ (fs++[.unlike ts]) (s05.trans (ah hl _)) ad (zdw (hx.keep s05.kt (nols_fms _)) hg hl) (hP.put (g:=.unlike ts) (fun _ h=>h) (Nat.le_refl _) (fun t ht=>(tok t ht).1) (by simp only[fdp];omega) ?_)
  have h1:=zgv fun t ht=>(tok t ht).2
  have h5:ts.length≤5:=by omega
  have h2:=Nat.mul_le_mul_left (310+2) h5
  have:=hP.sm
  have l2:(1:Int) < ((us.length:Nat):Int):=of_decide_eq_true c2
  have ul2:us.length=ts.length:=by rw[←hts.length,dTrs_length]
  simp only[fwt]
  rw[if_pos ⟨by omega,h5⟩]
  omega
 ·exact q9 Dn H2 pl nl mo xs fs zs i _ _ _ _ _ _ _ (s2 _ _ hpl) (hx.keep s2.kt (nols_fms _)) (hN.same s2) hP hi fun H' l ys gs s3=>q H' l ys gs (s2.trans s3)
theorem zjt (c:Int):∃ k:Str,atI [V.str "and",.str "or",.str "then",.str "as"] (c % 4)=some (.str k)∧(k="and"∨k="or"∨k="then"∨k="as")∧k.length≤4:=by
 have b:=modB c (show(0:Int) < 4 by decide)
 have:c % 4=0∨c % 4=1∨c % 4=2∨c % 4=3:=by omega
 rcases this with e | e | e | e <;> rw[e]
 ·exact⟨"and",rfl,.inl rfl,by decide +kernel⟩
 ·exact⟨"or",rfl,.inr (.inl rfl),by decide +kernel⟩
 ·exact⟨"then",rfl,.inr (.inr (.inl rfl)),by decide +kernel⟩
 ·exact⟨"as",rfl,.inr (.inr (.inr rfl)),by decide +kernel⟩
set_option maxHeartbeats 1000000 in
theorem grown7 (T:Txt K mg aB aO) (BT:FB P w K mg base CX0 4 "_law_tree" fT dT' ["_law_cell","_law_names_here","_law_deep"] (zdE K 3)) (BM:FB P w K mg base CX0 1 "_law_mixed" fM dM ["_law_cell","_law_k"] zbU)
  {cdv:Value} {A:Around} {outer:List Env} {s:Shared} {H0:Hp} {E:XK} (hr:aH 4 (A.deeper (PyProof.Rows.envOfC "_law_grown" (aj s__law_grown) s.heap.objs.size f cdv))) :
  ∃ t,PSs (zbg CX0 P w K mg base NG "_law_grown" (aj s__law_grown) f cdv A outer s H0 E).nox ((zaw s__law_grown).drop 7) t ∧
   ∀(Dn:za3) (H:Hp) (pl nl o:Addr) (ki mo:Int) (xs:List V) (fs:List Fm) (zs:List Str) (t1:Tr) (i:Nat) (v1 v6:Option V),H pl=some (.lst xs)→HasL K H (fs.map dFm) xs→Names H nl zs→zca zs fs i→i≤17→zee zs K H o t1 →
    (∀(H':Hp) (l:Addr) (ys:List V) (gs:List Fm),ap H H'→H' l=some (.lst ys)→HasL K H' (gs.map dFm) ys→zca zs gs (i+1)→Dn.rt (.ref l) H') →
    t Dn [some (.ref pl),v1,some (.ref nl),some (.int ki),some (.int mo),some (.ref o),v6,none,none,none] H:=by
 obtain⟨t8,h8,q8⟩:=grown8 (f:=f) (outer:=outer) (H0:=H0) (E:=E) T BT BM hr
 refine⟨_,(ae (zal (PW.pt (zhx (av zbM (pv 3) ag (aD _)) (zhx (av zf2 (pv 3) ag (aD _)) (ziH (av zbM (zam zai rfl T.len PySem.boot_len (aa (pv 0) ac)) ag (aD _))))))
   (ai (ay (aw zbO (zba zco (pv 0) zbr (zbq (zas zak ag))) (zag (aa (zae (aa (aA zaT (zag (aa au (aa au (aa au (aa au ac))))) (aw zaM (pv 4) ag) (fun _ _=>rfl)) (aa (aA zaT (pv 0) (zas zak ag) (fun _ _=>rfl)) (aa (aA zaT (pv 0) (zas zak ag) (fun _ _=>rfl)) ac)))) ac)))))
   zad) h8),?_⟩
 intro Dn H pl nl o ki mo xs fs zs t1 i v1 v6 hpl hx hN hP hi ho q
 have go:=q8 Dn H pl nl o ki mo xs fs zs t1 i v1 v6 hpl hx hN hP hi ho q
 have xl:xs.length=fs.length:=by rw[←hx.length,List.length_map]
 refine⟨_,rfl,_,_,rfl,rfl,_,rfl,aG (fun _=>⟨_,rfl,_,_,rfl,rfl,_,rfl,aG (fun _=>⟨_,rfl,pl,_,rfl,.inl (SqL.of hpl),_,_,rfl,rfl,_,rfl,aG (fun c=>?_) (fun _=>go)⟩) (fun _=>zeX go)⟩) (fun _=>zeX go)⟩
 have c':(1:Int) < ((xs.length:Nat):Int):=of_decide_eq_true c
 obtain⟨ini,g1,g2,rfl⟩:=zkA (xs:=fs) (by omega)
 rw[List.map_append]at hx
 obtain⟨us,ws,rfl,hus,hws⟩:=HasL.split hx
 obtain⟨x1,x2,rfl,hx1,hx2⟩:=HasL.two hws
 have hle:=hP.le
 have hsm:=hP.sm
 rw[fsum_app]at hsm
 have h12:fsum zs [g1,g2]=fwt zs g1+1+(fwt zs g2+1):=by simp [fsum]
 rw[h12]at hsm
 obtain⟨k,hk,kk,k4⟩:=zjt mo
 have o1:=hP.ok g1 (by simp)
 have o2:=hP.ok g2 (by simp)
 refine⟨_,rfl,_,rfl,_,rfl,pl,_,rfl,SqL.of hpl,fun p hp=>?_⟩
 rw[cut_m2]
 have s1:ap H (upd H p (.lst us)):=ah hp _
 have n1:=ad (H:=H) (a:=p) (o:=.lst us)
 generalize upd H p (.lst us)=H1 at s1 n1
 refine⟨lS4,fun kl hkl=>?_⟩
 have s2:ap H1 (upd H1 kl (.lst [V.str "and",.str "or",.str "then",.str "as"])):=ah hkl _
 have n2:=ad (H:=H1) (a:=kl) (o:=.lst [V.str "and",.str "or",.str "then",.str "as"])
 generalize upd H1 kl (.lst [V.str "and",.str "or",.str "then",.str "as"])=H2 at s2 n2
 have s02:=s1.trans s2
 have hpl2:=s02 _ _ hpl
 refine⟨_,rfl,_,_,rfl,rfl,(by show(0:Int) < 4;decide),kl,_,_,_,rfl,rfl,SqL.of n2,hk,_,rfl,_,rfl,pl,_,_,_,rfl,rfl,SqL.of hpl2,at_m2 us x1 x2,_,rfl,_,rfl,pl,_,_,_,rfl,rfl,SqL.of hpl2,at_m1 us x1 x2,lS3,fun r hr'=>⟨lS1,fun b hb=>?_⟩⟩
 have s3:ap H2 (upd H2 r (.tup [.str k,x1,x2])):=ah hr' _
 have n3:=ad (H:=H2) (a:=r) (o:=.tup [.str k,x1,x2])
 generalize upd H2 r (.tup [.str k,x1,x2])=H3 at s3 n3 hb ⊢
 have s4:ap H3 (upd H3 b (.lst [.ref r])):=ah hb _
 have n4:=ad (H:=H3) (a:=b) (o:=.lst [.ref r])
 generalize upd H3 b (.lst [.ref r])=H4 at s4 n4
 have s04:=(s02.trans s3).trans s4
 have n14:=((s2.trans s3).trans s4) _ _ n1
 have ul:us.length≤100:=by
  rw[List.length_append]at xl
  simp only[List.length_cons,List.length_nil,List.length_append]at xl hle
  omega
 refine⟨p,b,_,_,rfl,rfl,n14,n4,szM (by rw[List.length_singleton];omega),fun l hl=>?_⟩
 have hg:Has K H4 (dFm (.bin k g1 g2)) (.ref r):=Has.tup' (SqT.of (s4 _ _ n3)) (.cons Has.str' (.cons (hx1.keep s04.kt (nol_dFm _)) (.cons (hx2.keep s04.kt (nol_dFm _)) .nil)))
 refine q _ l _ (ini++[.bin k g1 g2]) (s04.trans (ah hl _)) ad (zdw (hus.keep s04.kt (nols_fms _)) hg hl) (hP.put (g:=.bin k g1 g2) (fun u hu=>List.mem_append_left _ hu) (by rw[List.length_append];omega) ⟨kk,o1.1,o2.1⟩ (by simp only[fdp];omega) ?_)
 simp only[fwt]
 omega
end
end F74
namespace F74
open PySem L2
section
variable {P:Program} {w:World} {K:W.Frag} {mg:Str→Option Value} {base:Heap} {aB aO:Addr} {f fM fT fC fG:Addr} {fd dM dT' dC dG:FuncData}
theorem zeL {i:Nat}:∀ {fs:List Fm},(∀ g∈fs,FOk g∧fdp g≤i)→zaB (fs.map dFm)≤i+8
 | [],_=>by simp [zaB]
 | g :: fs,h=>by
  have h1:=h g (by simp)
  have h2:=dep_dFm g h1.1
  have h3:=zeL (fs:=fs) fun u hu=>h u (List.mem_cons_of_mem _ hu)
  simp only[List.map_cons,zaB]
  omega
set_option maxHeartbeats 1000000 in
theorem grown6 (T:Txt K mg aB aO) (BT:FB P w K mg base CX0 4 "_law_tree" fT dT' ["_law_cell","_law_names_here","_law_deep"] (zdE K 3)) (BM:FB P w K mg base CX0 1 "_law_mixed" fM dM ["_law_cell","_law_k"] zbU)
  {cdv:Value} {A:Around} {outer:List Env} {s:Shared} {H0:Hp} {E:XK} (hr:aH 4 (A.deeper (PyProof.Rows.envOfC "_law_grown" (aj s__law_grown) s.heap.objs.size f cdv))) :
  ∃ t,PSs (zbg CX0 P w K mg base NG "_law_grown" (aj s__law_grown) f cdv A outer s H0 E).nox ((zaw s__law_grown).drop 6) t ∧
   ∀(Dn:za3) (H:Hp) (pl nl o:Addr) (ki mo:Int) (xs:List V) (fs:List Fm) (zs:List Str) (t1:Tr) (i:Nat) (v1 v6:Option V),H pl=some (.lst xs)→HasL K H (fs.map dFm) xs→Names H nl zs→zca zs fs i→i≤17→zee zs K H o t1 →
    (∀(H':Hp) (l:Addr) (ys:List V) (gs:List Fm),ap H H'→H' l=some (.lst ys)→HasL K H' (gs.map dFm) ys→zca zs gs (i+1)→Dn.rt (.ref l) H') →
    t Dn [some (.ref pl),v1,some (.ref nl),some (.int ki),some (.int mo),some (.ref o),v6,none,none,none] H:=by
 have hu:=zgx hr
 obtain⟨t7,h7,q7⟩:=grown7 (f:=f) (outer:=outer) (H0:=H0) (E:=E) T BT BM hr
 refine⟨_,(ae (zal (PW.pt (zhx (av zaE (pv 3) ag (aD _)) (ziH (av (zjI hu) (pv 0) (zag ac) rfl))))
   (ai (ay (aw zbO (zba zco (pv 0) zbr (zbq (zas zak ag))) (zag (aa (zae (aa au (aa (aA zaT (pv 0) (zas zak ag) (fun _ _=>rfl)) ac))) ac)))))
   zad) h7),?_⟩
 intro Dn H pl nl o ki mo xs fs zs t1 i v1 v6 hpl hx hN hP hi ho q
 have xl:xs.length=fs.length:=by rw[←hx.length,List.length_map]
 refine⟨_,rfl,rfl,_,rfl,aG (fun _=>?_) (fun _=>zeX (q7 Dn H pl nl o ki mo xs fs zs t1 i v1 v6 hpl hx hN hP hi ho q))⟩
 refine⟨_,rfl,lS0,fun e he=>?_⟩
 have s1:ap H (upd H e (.lst [])):=ah he _
 have n1:=ad (H:=H) (a:=e) (o:=.lst [])
 generalize upd H e (.lst [])=H1 at s1 n1
 have hpl1:=s1 _ _ hpl
 have hx1:=hx.keep s1.kt (nols_fms _)
 have dd:=zeL hP.ok
 refine⟨.lst (fs.map dFm),.lst [],Has.lst' (SqL.of hpl1) hx1,Has.lst' (SqL.of n1) HasL.nil,(by simp only[dep];omega),_,rfl,?_⟩
 have q1:∀(H':Hp) (l:Addr) (ys:List V) (gs:List Fm),ap H1 H'→H' l=some (.lst ys)→HasL K H' (gs.map dFm) ys→zca zs gs (i+1)→Dn.rt (.ref l) H':=fun H' l ys gs s2=>q H' l ys gs (s1.trans s2)
 by_cases hne:fs=[]
 ·subst hne
  exact zeX (q7 Dn H1 pl nl o ki mo xs [] zs t1 i v1 v6 hpl1 hx1 (hN.same s1) hP hi (ho.same s1) q1)
 have e0:peq (.lst (fs.map dFm)) (.lst [])=false:=by
  cases fs with
  | nil=>exact absurd rfl hne
  | cons t ts=>rfl
 rw[e0]
 refine zc1 ?_
 obtain⟨ini,g1,rfl⟩:=zgA (xs:=fs) (Nat.pos_of_ne_zero fun z=>hne (List.length_eq_zero_iff.mp z))
 rw[List.map_append]at hx1
 obtain⟨us,ws,rfl,hus,hws⟩:=HasL.split hx1
 obtain⟨x1,rfl,hx1'⟩:=HasL.uno hws
 have hle:=hP.le
 have hsm:=hP.sm
 rw[fsum_app,zib]at hsm
 have o1:=hP.ok g1 (by simp)
 refine⟨_,rfl,_,rfl,_,rfl,pl,_,rfl,SqL.of hpl1,fun p hp=>?_⟩
 rw[cut_m1]
 have s2:ap H1 (upd H1 p (.lst us)):=ah hp _
 have n2:=ad (H:=H1) (a:=p) (o:=.lst us)
 generalize upd H1 p (.lst us)=H2 at s2 n2
 have hpl2:=s2 _ _ hpl1
 refine⟨_,rfl,_,rfl,pl,_,_,_,rfl,rfl,SqL.of hpl2,zif us x1,lS2,fun r hr'=>⟨lS1,fun b hb=>?_⟩⟩
 have s3:ap H2 (upd H2 r (.tup [.str "not",x1])):=ah hr' _
 have n3:=ad (H:=H2) (a:=r) (o:=.tup [.str "not",x1])
 generalize upd H2 r (.tup [.str "not",x1])=H3 at s3 n3 hb ⊢
 have s4:ap H3 (upd H3 b (.lst [.ref r])):=ah hb _
 have n4:=ad (H:=H3) (a:=b) (o:=.lst [.ref r])
 generalize upd H3 b (.lst [.ref r])=H4 at s4 n4
 have s14:=(s2.trans s3).trans s4
 have n24:=(s3.trans s4) _ _ n2
 have ul:us.length≤100:=by
  simp only[List.length_cons,List.length_nil,List.length_append]at xl hle
  omega
 refine⟨p,b,_,_,rfl,rfl,n24,n4,szM (by rw[List.length_singleton];omega),fun l hl=>?_⟩
 have hg:Has K H4 (dFm (.not g1)) (.ref r):=Has.tup' (SqT.of (s4 _ _ n3)) (.cons Has.str' (.cons (hx1'.keep s14.kt (nol_dFm _)) .nil))
 refine q1 _ l _ (ini++[.not g1]) (s14.trans (ah hl _)) ad (zdw (hus.keep s14.kt (nols_fms _)) hg hl) (hP.put (g:=.not g1) (fun u hu=>List.mem_append_left _ hu) (by rw[List.length_append];omega) o1.1 (by simp only[fdp];omega) ?_)
 simp only[fwt]
 omega
set_option maxHeartbeats 1000000 in
theorem grown4 (T:Txt K mg aB aO) (BT:FB P w K mg base CX0 4 "_law_tree" fT dT' ["_law_cell","_law_names_here","_law_deep"] (zdE K 3)) (BM:FB P w K mg base CX0 1 "_law_mixed" fM dM ["_law_cell","_law_k"] zbU)
  {cdv:Value} {A:Around} {outer:List Env} {s:Shared} {H0:Hp} {E:XK} (hr:aH 4 (A.deeper (PyProof.Rows.envOfC "_law_grown" (aj s__law_grown) s.heap.objs.size f cdv))) :
  ∃ t,PSs (zbg CX0 P w K mg base NG "_law_grown" (aj s__law_grown) f cdv A outer s H0 E).nox ((zaw s__law_grown).drop 4) t ∧
   ∀(Dn:za3) (H:Hp) (pl nl o o2:Addr) (ki mo:Int) (xs:List V) (fs:List Fm) (zs:List Str) (t1 t2:Tr) (i:Nat) (v1:Option V),H pl=some (.lst xs)→HasL K H (fs.map dFm) xs→Names H nl zs→zca zs fs i→i≤17→zee zs K H o t1→zee zs K H o2 t2 →
    (∀(H':Hp) (l:Addr) (ys:List V) (gs:List Fm),ap H H'→H' l=some (.lst ys)→HasL K H' (gs.map dFm) ys→zca zs gs (i+1)→Dn.rt (.ref l) H') →
    t Dn [some (.ref pl),v1,some (.ref nl),some (.int ki),some (.int mo),some (.ref o),some (.ref o2),none,none,none] H:=by
 have hu:=zgx hr
 obtain⟨t6,h6,q6⟩:=grown6 (f:=f) (outer:=outer) (H0:=H0) (E:=E) T BT BM hr
 refine⟨_,(ae (zal (PW.pt (zdp (av zaE (pv 3) ag (aD _)) (zdG (av zaE (pv 3) ag (aD _)))))
   (ai (ay (aw zbO (pv 0) (zag (aa (zae (aa au (aa (pv 5) (aa (aA zaT (zag (aa (pv 6) (aa (pv 5) ac))) (za7 zfj rfl T.int PyProof.Rows.Boot.int (aa (zbA zaE (aw zaM (aw za6 (pv 4) ag) ag) ag (aD _)) ac)) (fun _ _=>rfl)) ac)))) ac)))))
   zad)
  (ae (zal (av zaE (pv 3) ag (aD _))
   (ai (ay (aw zbO (pv 0) (zag (aa (zae (aa (aA zaT (zag (aa au (aa au ac))) (aw zaM (pv 4) ag) (fun _ _=>rfl)) ac)) ac)))))
   zad) h6)),?_⟩
 intro Dn H pl nl o o2 ki mo xs fs zs t1 t2 i v1 hpl hx hN hP hi ho ho2 q
 have xl:xs.length=fs.length:=by rw[←hx.length,List.length_map]
 have hle:=hP.le
 have hsm:=hP.sm
 have same:∀ kk:Bool,∃(x:Addr) (t:Tr),atI [V.ref o2,.ref o] (if kk then 1 else 0)=some (.ref x)∧zee zs K H x t:=fun kk=>by
  cases kk
  ·exact⟨o2,t2,rfl,ho2⟩
  ·exact⟨o,t1,rfl,ho⟩
 have ret:∀(H':Hp) (r b l x:Addr) (t:Tr),ap H H'→zee zs K H x t→H' r=none→(upd H' r (.tup [.str "same",.ref o,.ref x])) b=none→(upd (upd H' r (.tup [.str "same",.ref o,.ref x])) b (.lst [.ref r])) l=none →
   Dn.rt (.ref l) (upd (upd (upd H' r (.tup [.str "same",.ref o,.ref x])) b (.lst [.ref r])) l (.lst (xs++[.ref r]))):=fun H' r b l x t s' hxt hr' hb hl=>by
  have s3:ap H' (upd H' r (.tup [.str "same",.ref o,.ref x])):=ah hr' _
  have n3:=ad (H:=H') (a:=r) (o:=.tup [.str "same",.ref o,.ref x])
  generalize upd H' r (.tup [.str "same",.ref o,.ref x])=H3 at s3 n3 hb hl ⊢
  have s4:ap H3 (upd H3 b (.lst [.ref r])):=ah hb _
  generalize upd H3 b (.lst [.ref r])=H4 at s4 hl ⊢
  have s04:=(s'.trans s3).trans s4
  have hg:Has K H4 (dFm (.same t1 t)) (.ref r):=Has.tup' (SqT.of (s4 _ _ n3)) (.cons Has.str' (.cons (ho.same s04).1 (.cons (hxt.same s04).1 .nil)))
  refine q _ l _ (fs++[.same t1 t]) (s04.trans (ah hl _)) ad (zdw (hx.keep s04.kt (nols_fms _)) hg hl) (hP.put (g:=.same t1 t) (fun _ h=>h) (Nat.le_refl _) ⟨ho.2.1,hxt.2.1⟩ (by simp only[fdp];omega) ?_)
  have h1:=ho.2.2
  have h2:=hxt.2.2
  simp only[fwt]
  omega
 have next:=q6 Dn H pl nl o ki mo xs fs zs t1 i v1 (some (.ref o2)) hpl hx hN hP hi ho q
 refine⟨_,rfl,rfl,_,rfl,aG (fun _=>zc1 ?_) (fun _=>⟨_,rfl,rfl,_,rfl,aG (fun _=>?_) (fun _=>?_)⟩)⟩
 ·refine⟨_,rfl,_,rfl,_,rfl,_,rfl,lS2,fun e he=>?_⟩
  have s1:ap H (upd H e (.lst [.ref o2,.ref o])):=ah he _
  have n1:=ad (H:=H) (a:=e) (o:=.lst [.ref o2,.ref o])
  generalize upd H e (.lst [.ref o2,.ref o])=H1 at s1 n1
  refine⟨_,rfl,_,_,rfl,rfl,⟨by decide,by decide⟩,_,_,rfl,rfl,(by show(0:Int) < 6;decide),rfl,.inr ⟨_,rfl,?_⟩⟩
  obtain⟨x,t,hxa,hxt⟩:=same (decide (V.int (mo / 9 % 6)=V.int 0))
  exact⟨e,_,_,_,rfl,rfl,SqL.of n1,hxa,lS3,fun r hr'=>⟨lS1,fun b hb=>⟨pl,b,_,_,rfl,rfl,(ah hb _) _ _ ((ah hr' _) _ _ (s1 _ _ hpl)),ad,szM (by rw[List.length_singleton];omega),fun l hl=>ret H1 r b l x t s1 hxt hr' hb hl⟩⟩⟩
 ·refine⟨_,rfl,_,rfl,_,rfl,_,rfl,lS2,fun e he=>?_⟩
  have s1:ap H (upd H e (.lst [.ref o2,.ref o])):=ah he _
  have n1:=ad (H:=H) (a:=e) (o:=.lst [.ref o2,.ref o])
  generalize upd H e (.lst [.ref o2,.ref o])=H1 at s1 n1
  refine⟨_,rfl,_,_,rfl,rfl,⟨by decide,by decide⟩,_,_,rfl,rfl,(by show(0:Int) < 6;decide),rfl,.inr ⟨_,rfl,?_⟩⟩
  obtain⟨x,t,hxa,hxt⟩:=same (decide (V.int (mo / 9 % 6)=V.int 0))
  exact⟨e,_,_,_,rfl,rfl,SqL.of n1,hxa,lS3,fun r hr'=>⟨lS1,fun b hb=>⟨pl,b,_,_,rfl,rfl,(ah hb _) _ _ ((ah hr' _) _ _ (s1 _ _ hpl)),ad,szM (by rw[List.length_singleton];omega),fun l hl=>ret H1 r b l x t s1 hxt hr' hb hl⟩⟩⟩
 ·refine⟨_,rfl,rfl,_,rfl,aG (fun _=>?_) (fun _=>next)⟩
  refine⟨_,rfl,lS2,fun e he=>?_⟩
  have s1:ap H (upd H e (.lst [.str "always",.str "never"])):=ah he _
  have n1:=ad (H:=H) (a:=e) (o:=.lst [.str "always",.str "never"])
  generalize upd H e (.lst [.str "always",.str "never"])=H1 at s1 n1
  obtain⟨z,hz,zok,z6⟩:∃ z:Str,atI [V.str "always",.str "never"] (mo % 2)=some (.str z)∧(z="always"∨z="never")∧z.length≤6:=by
   have b:=modB mo (show(0:Int) < 2 by decide)
   have:mo % 2=0∨mo % 2=1:=by omega
   rcases this with e | e <;> rw[e]
   ·exact⟨"always",rfl,.inl rfl,by decide +kernel⟩
   ·exact⟨"never",rfl,.inr rfl,by decide +kernel⟩
  refine⟨_,rfl,_,_,rfl,rfl,(by show(0:Int) < 2;decide),e,_,_,_,rfl,rfl,SqL.of n1,hz,lS1,fun r hr'=>⟨lS1,fun b hb=>?_⟩⟩
  have s3:ap H1 (upd H1 r (.tup [.str z])):=ah hr' _
  have n3:=ad (H:=H1) (a:=r) (o:=.tup [.str z])
  generalize upd H1 r (.tup [.str z])=H3 at s3 n3 hb ⊢
  have s4:ap H3 (upd H3 b (.lst [.ref r])):=ah hb _
  have n4:=ad (H:=H3) (a:=b) (o:=.lst [.ref r])
  generalize upd H3 b (.lst [.ref r])=H4 at s4 n4
  have s04:=(s1.trans s3).trans s4
  refine⟨pl,b,_,_,rfl,rfl,s04 _ _ hpl,n4,szM (by rw[List.length_singleton];omega),fun l hl=>?_⟩
  have hg:Has K H4 (dFm (.bare z)) (.ref r):=Has.tup' (SqT.of (s4 _ _ n3)) (.cons Has.str' .nil)
  refine q _ l _ (fs++[.bare z]) (s04.trans (ah hl _)) ad (zdw (hx.keep s04.kt (nols_fms _)) hg hl) (hP.put (g:=.bare z) (fun _ h=>h) (Nat.le_refl _) zok (by simp only[fdp];omega) ?_)
  simp only[fwt]
  omega
set_option maxHeartbeats 1000000 in
theorem ok_grown (F:Fun K "_law_grown" "_law_grown" s__law_grown f fd) (T:Txt K mg aB aO) (BT:FB P w K mg base CX0 4 "_law_tree" fT dT' ["_law_cell","_law_names_here","_law_deep"] (zdE K 3)) (BM:FB P w K mg base CX0 1 "_law_mixed" fM dM ["_law_cell","_law_k"] zbU) :
  FnOk P w K mg base CX0 5 f fd ["_law_pile","_law_cell","_law_names_here"] (zhQ K):=by
 refine F.ok zbe (fun vs H Q E h=>?_) (fun cdv A outer s H vs Q E hr h=>?_)
 ·obtain⟨pl,nl,c,xs,fs,zs,i,rfl,_⟩:=h
  rfl
 obtain⟨pl,nl,c,xs,fs,zs,i,rfl,hpl,hx,hN,hP,hi,q⟩:=h
 have hr1:aH 1 _:=hr.mono (by decide)
 obtain⟨t4,h4,q4⟩:=grown4 (f:=f) (outer:=outer) (H0:=H) (E:=E) T BT BM hr
 refine⟨_,(ae (az (i:=3) zbe.nd rfl (Or.inl rfl) (aw zaM (pv 1) ag))
  (ae (az (i:=4) zbe.nd rfl (Or.inl rfl) (aw za6 (pv 1) ag))
  (ae (az (i:=5) zbe.nd rfl (Or.inl rfl) (aq BT.ok hr rfl BT.m BT.kp BT.b .nil aJ (aa (aq BM.ok hr1 rfl BM.m BM.kp BM.b .nil aJ (aa (pv 4) (aa ag ac))) (aa (pv 2) (aa (aw zaM (pv 4) ag) ac)))))
  (ae (az (i:=6) zbe.nd rfl (Or.inl rfl) (aq BT.ok hr rfl BT.m BT.kp BT.b .nil aJ (aa (aq BM.ok hr1 rfl BM.m BM.kp BM.b .nil aJ (aa (pv 4) (aa ag ac))) (aa (pv 2) (aa (aw zaM (aw za6 (pv 4) ag) ag) ac))))) h4)))),?_⟩
 have b1:=modB (c / 13) (show(0:Int) < 3 by decide)
 have b2:=modB (c / 13 / 3) (show(0:Int) < 3 by decide)
 have e1:c / 13 % 3=(((c / 13 % 3).toNat:Nat):Int):=by omega
 have e2:c / 13 / 3 % 3=(((c / 13 / 3 % 3).toNat:Nat):Int):=by omega
 have wl:∀ d:Nat,d < 3→W d≤310:=fun d hd=>by
  have:d=0∨d=1∨d=2:=by omega
  rcases this with rfl | rfl | rfl
  ·exact W0
  ·exact W1
  ·exact W2
 refine⟨_,rfl,_,_,rfl,rfl,(by show(0:Int) < 13;decide),_,rfl,_,_,rfl,rfl,⟨by decide,by decide⟩,_,rfl,_,_,rfl,fun m1=>⟨_,rfl,_,rfl,_,_,rfl,rfl,(by show(0:Int) < 3;decide),m1,nl,zs,(c / 13 % 3).toNat,?_,hN,by omega,fun H1 o t1 s1 ht1 d1 w1=>?_⟩⟩
 ·rw[←e1]
  rfl
 refine⟨_,rfl,_,_,rfl,fun m2=>⟨_,rfl,_,rfl,_,_,rfl,rfl,⟨by decide,by decide⟩,_,_,rfl,rfl,(by show(0:Int) < 3;decide),m2,nl,zs,(c / 13 / 3 % 3).toNat,?_,hN.same s1,by omega,fun H2 o2 t2 s2 ht2 d2 w2=>?_⟩⟩
 ·rw[←e2]
  rfl
 have l1:=wl _ (show(c / 13 % 3).toNat < 3 by omega)
 have l2:=wl _ (show(c / 13 / 3 % 3).toNat < 3 by omega)
 have s12:=s1.trans s2
 exact q4 _ H2 pl nl o o2 _ _ xs fs zs t1 t2 i _ (s12 _ _ hpl) (hx.keep s12.kt (nols_fms _)) (hN.same s12) hP hi ⟨ht1.keep s2.kt (nol_dTr _),by omega,by omega⟩ ⟨ht2,by omega,by omega⟩ fun H' l ys gs s3=>q H' l ys gs (s12.trans s3)
def sp_formulas (K:W.Frag):Sp:=fun vs H Q _=>∃(a nl:Addr) (ns:List Int) (zs:List Str) (b m:Int),vs=[.ref a,.int b,.ref nl,.int m]∧SqL K H a (ns.map V.int)∧0≤b∧Names H nl zs∧0≤m∧m≤16 ∧
 ∀(H':Hp) (l:Addr) (ys:List V) (gs:List Fm),ap H H'→H' l=some (.lst ys)→HasL K H' (gs.map dFm) ys→zca zs gs m.toNat→Q (.ref l) H'
theorem zb3:zac ["_law_script","_law_begin","_law_names_here","_law_many","_law_pile","_law_k"] ["_law_script","_law_begin","_law_names_here","_law_many"] (aj s__law_formulas):=⟨rfl,rfl,rfl,by decide +kernel,rfl,by decide +kernel,by decide +kernel⟩
set_option maxHeartbeats 1000000 in
theorem ok_formulas (F:Fun K "_law_formulas" "_law_formulas" s__law_formulas f fd) (T:Txt K mg aB aO) (BG:FB P w K mg base CX0 5 "_law_grown" fG dG ["_law_pile","_law_cell","_law_names_here"] (zhQ K)) (BM:FB P w K mg base CX0 1 "_law_mixed" fM dM ["_law_cell","_law_k"] zbU)
  (BC:FB P w K mg base CX0 1 "_law_cell_at" fC dC ["_law_script","_law_k"] (sp_cell K)):FnOk P w K mg base CX0 6 f fd ["_law_script","_law_begin","_law_names_here","_law_many"] (sp_formulas K):=by
 refine F.ok zb3 (fun vs H Q E h=>?_) (fun cdv A outer s H vs Q E hr h=>?_)
 ·obtain⟨a,nl,ns,zs,b,m,rfl,_⟩:=h
  rfl
 obtain⟨a,nl,ns,zs,b,m,rfl,hS,b0,hN,m0,m16,q⟩:=h
 have hr1:aH 1 _:=hr.mono (by decide)
 refine⟨_,(ae (az (i:=4) zb3.nd rfl (Or.inl rfl) (zag ac))
  (ae (zbp PassesOwn.never rfl (zcN rfl T.range (aa (pv 3) ac)) (zaO (i:=5) zb3.nd rfl (Or.inl rfl))
   (ai (az (i:=4) zb3.nd rfl (Or.inl rfl) (aq BG.ok hr rfl BG.m BG.kp BG.b .nil aJ (aa (pv 4) (aa (aw za6 (aq BM.ok hr1 rfl BM.m BM.kp BM.b .nil aJ (aa (aq BC.ok hr1 rfl BC.m BC.kp BC.b .nil aJ (aa (pv 0) (aa (aw za9 (pv 1) (pv 5)) ac))) (aa (pv 5) ac))) ag) (aa (pv 2) ac)))))))
  (ai (ay (pv 4))))),?_⟩
 refine⟨lS0,fun l hl=>?_⟩
 have s1:ap H (upd H l (.lst [])):=ah hl _
 have n1:=ad (H:=H) (a:=l) (o:=.lst [])
 generalize upd H l (.lst [])=H1 at s1 n1
 refine⟨_,rfl,m,rfl,by omega,by omega,zd9 (lo:=0) (n:=m.toNat) (fun i σ H'=>ap H H'∧∃(l:Addr) (ys:List V) (gs:List Fm) (v5:Option V),σ=[some (.ref a),some (.int b),some (.ref nl),some (.int m),some (.ref l),v5]∧H' l=some (.lst ys)∧HasL K H' (gs.map dFm) ys∧zca zs gs i)
  ⟨s1,l,[],[],none,rfl,n1,HasL.nil,(fun g hg=>nomatch hg),by simp [fsum],Nat.le_refl _⟩ ?_ ?_⟩
 ·rintro i σ H2 hi ⟨s2,l2,ys,gs,v5,rfl,hl2,hy,hP⟩
  refine⟨_,rfl,_,rfl,_,rfl,_,rfl,_,_,rfl,rfl,a,ns,_,rfl,s2.seq hS,by omega,fun c=>⟨_,rfl,_,_,rfl,fun mx=>⟨_,_,rfl,rfl,⟨by decide,by decide⟩,_,rfl,l2,nl,_,ys,gs,zs,i,rfl,hl2,hy,hN.same s2,hP,by omega,fun H3 l3 zs3 gs3 s3 hl3 hy3 hP3=>?_⟩⟩⟩
  exact⟨s2.trans s3,l3,zs3,gs3,_,rfl,hl3,hy3,hP3⟩
 ·rintro σ H2 ⟨s2,l2,ys,gs,v5,rfl,hl2,hy,hP⟩
  exact⟨_,rfl,q H2 l2 ys gs s2 hl2 hy hP⟩
end
end F74
namespace K74
open PySem L2
def top (i:Nat):Stmt:=PySem.Challenge.pw_yesorno_k74_named_problem.main.body.getD i (.Pass ⟨0,0,0,0⟩)
abbrev s_inner_trees:Stmt:=top 2
abbrev s_inner_formulas:Stmt:=top 3
abbrev zgC:Stmt:=top 19
abbrev zgD:Stmt:=top 20
abbrev zfQ:Stmt:=top 21
abbrev zi4:Stmt:=top 22
abbrev zhv:Stmt:=top 23
abbrev zi5:Stmt:=zbi (top 24) 0
abbrev zfO:Stmt:=zbi (top 24) 1
abbrev zfP:Stmt:=zbi (top 24) 2
abbrev sAdd:Stmt:=zbi (top 24) 3
abbrev zhu:Stmt:=zbi (top 24) 4
abbrev zi3:Stmt:=zbi (top 24) 5
abbrev sRow:Stmt:=zbi (top 24) 6
abbrev zds:Stmt:=top 26
abbrev zdm:Stmt:=top 28
abbrev zeO:Stmt:=top 29
abbrev zei:Stmt:=top 30
abbrev zcG:Stmt:=zbi (top 31) 0
abbrev zcF:Stmt:=zbi (top 31) 1
abbrev zcE:Stmt:=zbi (top 31) 2
abbrev zbX:Stmt:=zbi (top 31) 3
abbrev zan:Stmt:=zbi (top 31) 4
abbrev zcv:Stmt:=zbi (top 31) 5
abbrev zbY:Stmt:=zbi (top 31) 6
abbrev zby:Stmt:=zbi (top 31) 7
abbrev zgB:Stmt:=top 32
abbrev s__law_mixed:Stmt:=top 35
abbrev s__law_word:Stmt:=top 36
abbrev s__law_names:Stmt:=top 37
abbrev s__law_tree:Stmt:=top 38
abbrev s__law_grown:Stmt:=top 39
abbrev s__law_formulas:Stmt:=top 40
abbrev zdR:Stmt:=top 41
abbrev zdg:Stmt:=top 42
abbrev zej:Stmt:=top 43
abbrev zdT:Stmt:=top 44
abbrev zdS:Stmt:=top 45
abbrev zeQ:Stmt:=top 46
abbrev zeP:Stmt:=top 47
abbrev zaQ:Stmt:=top 48
abbrev zb9:Stmt:=top 49
abbrev zeR:Stmt:=top 50
abbrev zdU:Stmt:=top 51
abbrev zdc:Stmt:=top 52
abbrev za1:Stmt:=top 53
abbrev zcU:Stmt:=top 54
abbrev abc:Str:="abcdefghijklmnopqrstuvwxyz"
def isL (c:Str):Bool:=!(Builtin.Str.occurrences abc c 0 abc.length 1).isEmpty
def zdk (z:Str):List Bool:=z.cps.toList.map fun c=>isL ⟨#[c]⟩
def zdZ:List V:=[.str "or",.str "and",.str "not",.str "never",.str "always",.str "then",.str "as",.str "unlike"]
def zf1 (z:Str):Bool:=decide ((0:Int) < (z.length:Int))&&(zdk z).all id
def zaK (z:Str):Bool:=zf1 z&&(decide ((z.length:Int)≤8)&&!inV (.str z) zdZ)
theorem sz (n:Nat) (h:n≤1000):n≤sizeLine:=Nat.le_of_lt (zdj h)
theorem zlP:abc.cps.toList.length=26:=by decide +kernel
theorem zjs:zdZ.all zcz=true:=by decide +kernel
theorem zh6 (z:Str):(zdk z).length=z.length:=by simp [zdk,Str.length]
theorem zaH (a b:Str):(a++b).length=a.length+b.length:=by
 show(a.cps++b.cps).size=a.cps.size+b.cps.size
 exact Array.size_append
theorem zkz {z:Str} {i ch:Nat} (hch:z.cps[i]?=some ch):(zdk z).take (i+1)=(zdk z).take i++[isL ⟨#[ch]⟩]:=by
 have hb:(zdk z)[i]?=some (isL ⟨#[ch]⟩):=by
  unfold zdk
  rw[List.getElem?_map,Array.getElem?_toList,hch]
  rfl
 rw[List.take_add_one,hb]
 rfl
theorem zer (c:Nat):(⟨#[c]⟩:Str).length=1:=rfl
abbrev Tm:=Str × List Int
def dT (t:Tm):Dt:=.tup [.str t.1,.tup (t.2.map Dt.int)]
theorem zg7:∀ ns:List Int,zdA (ns.map Dt.int)=true
 | []=>by simp [zdA]
 | n :: ns=>by simp only[List.map_cons,zdA,nob,Bool.true_and];exact zg7 ns
theorem zfg:∀ ns:List Int,zbw (ns.map Dt.int)=true
 | []=>by simp [zbw]
 | n :: ns=>by simp only[List.map_cons,zbw,nol,Bool.true_and];exact zfg ns
theorem zck:∀ ns:List Int,zaB (ns.map Dt.int)=0
 | []=>by simp [zaB]
 | n :: ns=>by simp only[List.map_cons,zaB,dep,zck ns];rfl
theorem zjJ (t:Tm):nob (dT t)=true:=by simp only[dT,nob,zdA,zg7,Bool.and_self]
theorem zhC (t:Tm):nol (dT t)=true:=by simp only[dT,nol,zbw,zfg,Bool.and_self]
theorem dep_dT (t:Tm):dep (dT t)=2:=by simp only[dT,dep,zaB,zck];rfl
theorem zaR:∀ T:List Tm,zbw (T.map dT)=true
 | []=>by simp [zbw]
 | t :: T=>by simp only[List.map_cons,zbw,zhC,Bool.true_and];exact zaR T
theorem zeM:∀ T:List Tm,zaB (T.map dT)≤2
 | []=>by simp [zaB]
 | t :: T=>by
  have h:=zeM T
  simp only[List.map_cons,zaB,dep_dT]
  omega
theorem zlF {a b:Int} (h:Dt.int a=Dt.int b):a=b:=by cases h;rfl
theorem zh9:∀ {as bs:List Int},as.map Dt.int=bs.map Dt.int→as=bs
 | [],[],_=>rfl
 | [],b :: bs,h=>by cases h
 | a :: as,[],h=>by cases h
 | a :: as,b :: bs,h=>by
  rw[List.map_cons,List.map_cons]at h
  injection h with h1 h2
  rw[zlF h1,zh9 h2]
theorem dT_inj {a b:Tm} (h:dT a=dT b):a=b:=by
 obtain⟨n,ps⟩:=a
 obtain⟨m,qs⟩:=b
 unfold dT at h
 injection h with h
 injection h with h1 h2
 injection h1 with h1
 injection h2 with h2 _
 injection h2 with h2
 have e1:n=m:=h1
 have e2:ps=qs:=zh9 h2
 rw[e1,e2]
theorem peq_dT (a b:Tm):peq (dT a) (dT b)=decide (a=b):=by
 by_cases h:a=b
 ·subst h
  rw[zbt,decide_eq_true rfl]
 ·rw[decide_eq_false h]
  cases e:peq (dT a) (dT b) with
  | false=>rfl
  | true=>exact absurd (dT_inj (zhz _ _ (zjJ a) (zjJ b) e)) h
inductive Out where
 | num (n:Nat) | name | term | many | part
def bad (T:List Tm) (ps:List Int):Bool:=decide (3 < ps.length)||ps.any fun p=>decide (p < 0)||decide ((T.length:Int)≤p)
def zdB (T:List Tm) (good:Bool) (t:Tm):Out × List Tm :=
 if good=false then(.name,T) else if bad T t.2=true then(.term,T) else if t∈T then(.num (T.idxOf t),T) else if 60≤T.length then(.many,T) else(.num T.length,T++[t])
theorem zbF {α:Type} [BEq α] [LawfulBEq α] {code:α→Dt} (hc:∀ a b,peq (code a) (code b)=true↔a=b) (T:List α) (t:α):((T.map code).any fun d=>peq d (code t))=decide (t∈T):=by
 rw[Bool.eq_iff_iff,List.any_eq_true]
 constructor
 ·rintro ⟨d,hd,e⟩
  obtain⟨u,hu,rfl⟩:=List.mem_map.mp hd
  rw[hc]at e
  rw[←e]
  exact decide_eq_true hu
 ·intro h
  exact⟨code t,List.mem_map.mpr ⟨t,of_decide_eq_true h,rfl⟩,zbt _⟩
theorem zfV {α:Type} [BEq α] [LawfulBEq α] {code:α→Dt} (hc:∀ a b,peq (code a) (code b)=true↔a=b) (T:List α) (t:α):(T.map code).findIdx (fun d=>peq d (code t))=T.idxOf t:=by
 rw[List.findIdx_map]
 unfold List.idxOf
 congr 1
 funext a
 show peq (code a) (code t)=(a == t)
 rw[Bool.eq_iff_iff,hc,beq_iff_eq]
theorem ze5 (a b:Tm):peq (dT a) (dT b)=true↔a=b:=by
 rw[peq_dT]
 exact decide_eq_true_iff
inductive At where
 | plain (z:Str)
 | same (a b:Int)
 deriving DecidableEq
def dA:At→Dt
 | .plain z=>.tup [.str "plain",.str z]
 | .same a b=>.tup [.str "same",.int a,.int b]
theorem zjK (t:At):nob (dA t)=true:=by cases t <;> simp only[dA,nob,zdA,Bool.and_self]
theorem zaN (t:At):nol (dA t)=true:=by cases t <;> simp only[dA,nol,zbw,Bool.and_self]
theorem zge (t:At):dep (dA t)=1:=by cases t <;> simp only[dA,dep,zaB] <;> rfl
theorem dA_inj {a b:At} (h:dA a=dA b):a=b:=by
 cases a <;> cases b
 all_goals
  unfold dA at h
  injection h with h
  injection h with h1 h2
  injection h2 with h2 h3
  first
   | (injection h2 with h2;injection h3 with h3 _;injection h3 with h3;rw[h2,h3])
   | (injection h2 with h2;rw[h2])
   | (injection h1 with h1;exact absurd h1 (by decide +kernel))
   | cases h2
theorem zjH (a b:At):peq (dA a) (dA b)=decide (a=b):=by
 by_cases h:a=b
 ·subst h
  rw[zbt,decide_eq_true rfl]
 ·rw[decide_eq_false h]
  cases e:peq (dA a) (dA b) with
  | false=>rfl
  | true=>exact absurd (dA_inj (zhz _ _ (zjK a) (zjK b) e)) h
theorem zch (a b:At):peq (dA a) (dA b)=true↔a=b:=by
 rw[zjH]
 exact decide_eq_true_iff
def dR (r:List Int):Dt:=.tup (r.map Dt.int)
theorem zbf (r:List Int):nol (dR r)=true:=by simp only[dR,nol,zfg]
theorem dep_dR (r:List Int):dep (dR r)=1:=by simp only[dR,dep,zck]
theorem zab {α:Type} {code:α→Dt} (hc:∀ a,nol (code a)=true):∀ T:List α,zbw (T.map code)=true
 | []=>by simp [zbw]
 | t :: T=>by simp only[List.map_cons,zbw,hc,Bool.true_and];exact zab hc T
theorem zcR {α:Type} {code:α→Dt} {n:Nat} (hc:∀ a,dep (code a)≤n):∀ T:List α,zaB (T.map code)≤n
 | []=>by simp [zaB]
 | t :: T=>by
  have h:=zcR hc T
  have:=hc t
  simp only[List.map_cons,zaB]
  omega
theorem kTA:¬(("terms":Str)="atoms"):=by decide +kernel
theorem kTR:¬(("terms":Str)="rows"):=by decide +kernel
theorem kAR:¬(("atoms":Str)="rows"):=by decide +kernel
def zcB (tl al rl:Addr):List (Str × V):=zat "rows" (.ref rl) (zat "atoms" (.ref al) (zat "terms" (.ref tl) []))
theorem zdt (tl al rl:Addr):(zcB tl al rl).lookup ("terms":Str)=some (.ref tl):=by
 unfold zcB
 rw[zar,if_neg kTR,zar,if_neg kTA,zar,if_pos rfl]
theorem zct (tl al rl:Addr):(zcB tl al rl).lookup ("atoms":Str)=some (.ref al):=by
 unfold zcB
 rw[zar,if_neg kAR,zar,if_pos rfl]
theorem zea (tl al rl:Addr):(zcB tl al rl).lookup ("rows":Str)=some (.ref rl):=by
 unfold zcB
 rw[zar,if_pos rfl]
theorem zcK (tl al rl:Addr) {m:Str} (h1:¬m="rows") (h2:¬m="atoms") (h3:¬m="terms"):(zcB tl al rl).lookup m=none:=by
 unfold zcB
 rw[zar,if_neg h1,zar,if_neg h2,zar,if_neg h3]
 all_goals rfl
def Fr1 (H H':Hp) (z:Addr):Prop:=∀ b o,H b=some o→b≠z→H' b=some o
theorem Fr1.of_same {H H':Hp} {z:Addr} (s:ap H H'):Fr1 H H' z:=fun b o e _=>s b o e
theorem Fr1.trans {H H1 H2:Hp} {z:Addr} (a:Fr1 H H1 z) (b:Fr1 H1 H2 z):Fr1 H H2 z:=fun c o e n=>b c o (a c o e n) n
theorem Fr1.keepT {H H':Hp} {z:Addr} {xs:List V} (f:Fr1 H H' z) (h:H z=some (.lst xs)):zaj H H':=fun b ys q=>by
 rcases q with q | ⟨o,q⟩
 ·exact .inl (f b _ q (zdq q h (fun e=>by cases e)))
 ·exact .inr ⟨o,f b _ q (zdq q h (fun e=>by cases e))⟩
structure zaJ (K:W.Frag) (C:Addr) (H:Hp) (p tl al rl:Addr) (T:List Tm) (As:List At) (Rs:List (List Int)):Prop where
 ob:∃ dx,H p=some (.ins C dx (zcB tl al rl))
 tm:∃ xs,H tl=some (.lst xs)∧HasL K H (T.map dT) xs
 am:∃ xs,H al=some (.lst xs)∧HasL K H (As.map dA) xs
 rm:∃ xs,H rl=some (.lst xs)∧HasL K H (Rs.map dR) xs
 na:al≠tl
 nr:rl≠tl
 nx:rl≠al
theorem zaJ.keep {K:W.Frag} {C:Addr} {H H':Hp} {p tl al rl z:Addr} {T:List Tm} {As:List At} {Rs:List (List Int)} {zs:List V} (h:zaJ K C H p tl al rl T As Rs) (f:Fr1 H H' z) (hz:H z=some (.lst zs)) (n1:z≠tl) (n2:z≠al) (n3:z≠rl):zaJ K C H' p tl al rl T As Rs:=by
 obtain⟨⟨dx,h1⟩,⟨xs,h2,h3⟩,⟨ys,h4,h5⟩,⟨ws,h6,h7⟩,h8,h9,h10⟩:=h
 exact⟨⟨dx,f _ _ h1 (zdq h1 hz (fun e=>by cases e))⟩,⟨xs,f _ _ h2 n1.symm,h3.keep (f.keepT hz) (zaR T)⟩,⟨ys,f _ _ h4 n2.symm,h5.keep (f.keepT hz) (zab zaN As)⟩,⟨ws,f _ _ h6 n3.symm,h7.keep (f.keepT hz) (zab zbf Rs)⟩,h8,h9,h10⟩
theorem zaJ.same {K:W.Frag} {C:Addr} {H H':Hp} {p tl al rl:Addr} {T:List Tm} {As:List At} {Rs:List (List Int)} (h:zaJ K C H p tl al rl T As Rs) (s:ap H H'):zaJ K C H' p tl al rl T As Rs:=by
 obtain⟨⟨dx,h1⟩,⟨xs,h2,h3⟩,⟨ys,h4,h5⟩,⟨ws,h6,h7⟩,h8,h9,h10⟩:=h
 exact⟨⟨dx,s _ _ h1⟩,⟨xs,s _ _ h2,h3.keep (.of_same s) (zaR T)⟩,⟨ys,s _ _ h4,h5.keep (.of_same s) (zab zaN As)⟩,⟨ws,s _ _ h6,h7.keep (.of_same s) (zab zbf Rs)⟩,h8,h9,h10⟩
theorem zaJ.setT {K:W.Frag} {C:Addr} {H:Hp} {p tl al rl:Addr} {T T':List Tm} {As:List At} {Rs:List (List Int)} {us:List V} (h:zaJ K C H p tl al rl T As Rs) (hs:HasL K (upd H tl (.lst us)) (T'.map dT) us):zaJ K C (upd H tl (.lst us)) p tl al rl T' As Rs:=by
 obtain⟨⟨dx,h1⟩,⟨xs,h2,h3⟩,⟨ys,h4,h5⟩,⟨ws,h6,h7⟩,h8,h9,h10⟩:=h
 have kt:zaj H (upd H tl (.lst us)):=zaj.lst h2
 exact⟨⟨dx,by rw[ao (zdq h1 h2 (fun e=>by cases e))];exact h1⟩,⟨us,ad,hs⟩,⟨ys,by rw[ao h8];exact h4,h5.keep kt (zab zaN As)⟩,⟨ws,by rw[ao h9];exact h6,h7.keep kt (zab zbf Rs)⟩,h8,h9,h10⟩
theorem zaJ.setA {K:W.Frag} {C:Addr} {H:Hp} {p tl al rl:Addr} {T:List Tm} {As As':List At} {Rs:List (List Int)} {us:List V} (h:zaJ K C H p tl al rl T As Rs) (hs:HasL K (upd H al (.lst us)) (As'.map dA) us):zaJ K C (upd H al (.lst us)) p tl al rl T As' Rs:=by
 obtain⟨⟨dx,h1⟩,⟨xs,h2,h3⟩,⟨ys,h4,h5⟩,⟨ws,h6,h7⟩,h8,h9,h10⟩:=h
 have kt:zaj H (upd H al (.lst us)):=zaj.lst h4
 exact⟨⟨dx,by rw[ao (zdq h1 h4 (fun e=>by cases e))];exact h1⟩,⟨xs,by rw[ao h8.symm];exact h2,h3.keep kt (zaR T)⟩,⟨us,ad,hs⟩,⟨ws,by rw[ao h10];exact h6,h7.keep kt (zab zbf Rs)⟩,h8,h9,h10⟩
theorem zaJ.setR {K:W.Frag} {C:Addr} {H:Hp} {p tl al rl:Addr} {T:List Tm} {As:List At} {Rs Rs':List (List Int)} {us:List V} (h:zaJ K C H p tl al rl T As Rs) (hs:HasL K (upd H rl (.lst us)) (Rs'.map dR) us):zaJ K C (upd H rl (.lst us)) p tl al rl T As Rs':=by
 obtain⟨⟨dx,h1⟩,⟨xs,h2,h3⟩,⟨ys,h4,h5⟩,⟨ws,h6,h7⟩,h8,h9,h10⟩:=h
 have kt:zaj H (upd H rl (.lst us)):=zaj.lst h6
 exact⟨⟨dx,by rw[ao (zdq h1 h6 (fun e=>by cases e))];exact h1⟩,⟨xs,by rw[ao h9.symm];exact h2,h3.keep kt (zaR T)⟩,⟨ys,by rw[ao h10.symm];exact h4,h5.keep kt (zab zaN As)⟩,⟨us,ad,hs⟩,h8,h9,h10⟩
def SqI (K:W.Frag) (H:Hp) (q:Addr) (ps:List Int):Prop:=SqL K H q (ps.map V.int)∨SqT K H q (ps.map V.int)
theorem SqI.same {K:W.Frag} {H H':Hp} {q:Addr} {ps:List Int} (h:SqI K H q ps) (s:ap H H'):SqI K H' q ps:=h.elim (fun z=>.inl (s.seq z)) fun z=>.inr ((zaj.of_same s).sq z)
def Low (z:Str):Prop:=z.length≤100∧∀ c∈z.cps.toList,c < 1000
theorem Low.repr {z:Str} (h:Low z):(reprText z).length≤1002:=by
 have:=StrLaws.reprText_len z fun c hc=>Nat.lt_of_lt_of_le (h.2 c hc) (by decide)
 have:=h.1
 omega
def zhR:Sp:=fun vs H Q _=>∃ z:Str,vs=[.str z]∧z.length≤1000∧∀ H',ap H H'→Q (.bl (zf1 z)) H'
def zhS:Sp:=fun vs H Q _=>∃ z:Str,vs=[.str z]∧z.length≤1000∧∀ H',ap H H'→Q (.bl (zaK z)) H'
def zfc (CN:Addr):Sp:=fun vs H Q E=>∃ z:Str,vs=[.str z]∧Low z∧if zaK z=true then ∀ H',ap H H'→Q .non H' else ∀ H',ap H H'→E (.ref CN) none H'
def zdv (K:W.Frag) (CM:Addr):Sp:=fun vs H Q E=>∃(a tl:Addr) (m:Int) (xs:List V) (ds:List Dt) (d:Dt),vs=[.ref a,.ref tl,.int m]∧Has K H d (.ref a)∧H tl=some (.lst xs)∧HasL K H ds xs∧zaB ds≤50∧ds.length≤1000∧0≤m∧m≤1000 ∧
 if(ds.any fun e=>peq e d)=true then ∀ H',ap H H'→Q (.int ((ds.findIdx fun e=>peq e d):Nat)) H' else if m≤(ds.length:Int) then ∀ H',ap H H'→E (.ref CM) none H' else Q (.int (ds.length:Nat)) (upd H tl (.lst (xs++[.ref a])))
def zjA (C:Addr):Sp:=fun vs H Q _=>∃(p dx:Addr),vs=[.ref p]∧H p=some (.ins C dx [])∧∀(tl al rl:Addr) (H':Hp),H tl=none→H al=none→H rl=none→al≠tl→rl≠tl→rl≠al→H' p=some (.ins C dx (zcB tl al rl))→H' tl=some (.lst [])→H' al=some (.lst [])→H' rl=some (.lst []) →
 (∀ b o,H b=some o→b≠p→H' b=some o)→Q .non H'
def zfb (K:W.Frag) (C CT:Addr):Sp:=fun vs H Q E=>∃(p tl al rl:Addr) (T:List Tm) (As:List At) (Rs:List (List Int)) (n:Int),vs=[.ref p,.int n]∧zaJ K C H p tl al rl T As Rs∧-1000≤n∧n≤1000 ∧
 if n < 0∨(T.length:Int)≤n then ∀ H',ap H H'→E (.ref CT) none H' else Q .non H
def zaI (m:Nat) (n:Int):Bool:=decide (n=0)||decide ((m:Int) < n)||decide (n < -(m:Int))
def zg3 (K:W.Frag) (C CP:Addr):Sp:=fun vs H Q E=>∃(p tl al rl:Addr) (T:List Tm) (As:List At) (Rs:List (List Int)) (n:Int),vs=[.ref p,.int n]∧zaJ K C H p tl al rl T As Rs∧-1000≤n∧n≤1000 ∧
 if zaI As.length n=true then ∀ H',ap H H'→E (.ref CP) none H' else Q .non H
theorem za4 {H:Hp} {p:Addr} (h:H p=none) (o:HO):ap H (upd H p o):=fun b u q=>by rw[ao (zaa q h)];exact q
abbrev bmV:List Value:=[.type "ValueError",.type "Exception",.type "BaseException",.type "object"]
structure Txt (K:W.Frag) (mg:Str→Option Value) (aK C CN CT CP CM:Addr):Prop where
 small:∃ t,mg "SMALL_LETTERS"=some (.str abc t)
 longest:∃ t,mg "LONGEST_NAME"=some (.int 8 t)
 parts:∃ t,mg "MOST_TERM_PARTS"=some (.int 3 t)
 terms:∃ t,mg "MOST_TERMS"=some (.int 60 t)
 atoms:∃ t,mg "MOST_ATOMS"=some (.int 40 t)
 rparts:∃ t,mg "MOST_ROW_PARTS"=some (.int 20 t)
 rows:∃ t,mg "MOST_ROWS"=some (.int 200 t)
 kept:mg "KEPT_WORDS"=some (.ref aK)
 tup:∀ H,SqT K H aK zdZ
 len:mg "len"=none
 all:mg "all"=none
 range:mg "range"=none
 isi:mg "isinstance"=none
 bool:mg "bool"=none
 tuple:mg "tuple"=none
 abs:mg "abs"=none
 bname:mg "BadName"=some (.ref CN)
 bterm:mg "BadTerm"=some (.ref CT)
 bpart:mg "BadPart"=some (.ref CP)
 bmany:mg "TooMany"=some (.ref CM)
 xname:W.excIn K CN bmV "ValueError.__new__"=true
 xterm:W.excIn K CT bmV "ValueError.__new__"=true
 xpart:W.excIn K CP bmV "ValueError.__new__"=true
 xmany:W.excIn K CM bmV "ValueError.__new__"=true
 cl:Cls K C
 nT:zbZ K C "terms"
 nA:zbZ K C "atoms"
 nR:zbZ K C "rows"
section
variable {P:Program} {w:World} {K:W.Frag} {mg:Str→Option Value} {base:Heap} {aK C CN CT CP CM:Addr}
theorem Fun.okX {x qual:Str} {st:Stmt} {f:Addr} {fd:FuncData} {N ps:List Str} {k:Nat} {sp:Sp} (F:Fun K x qual st f fd) (S:zac N ps (aj st)) (len:∀ vs H Q E,sp vs H Q E→vs.length=ps.length)
  (hbody:∀(cdv:Value) (A:Around) (outer:List Env) (s:Shared) (H:Hp) (vs:List V) (Q:VK) (E:XK),aH k (A.deeper (PyProof.Rows.envOfC qual (aj st) s.heap.objs.size f cdv))→sp vs H Q E →
   ∃ t,PSs (zbg (CX1 P w) P w K mg base N qual (aj st) f cdv A outer s H E) (zaw st) t∧t { nx:=fun _ H'=>Q .non H',rt:=Q } (zdo N vs) H):FnOk P w K mg base (CX1 P w) (k+1) f fd ps sp:=by
 obtain⟨oc,od,kV,doc,pm,an,cdv,ct,osl,rfl,lk,hcd⟩:=F.ex
 exact fn_of lk hcd S len fun A outer s H vs Q E hr hsp=>hbody cdv A outer s H vs Q E hr hsp
theorem xe1 {N:List Str} {qual:Str} {scope:Scope} {f:Addr} {cd:Value} {A:Around} {outer:List Env} {s:Shared} {H:Hp} {E:XK}:Xe1 (zbg (CX1 P w) P w K mg base N qual scope f cd A outer s H E) E:=⟨rfl,rfl,rfl,rfl⟩
theorem zex {k:Nat} {A:Around} (hr:aH k A):A.units+64 < cLine:=hr.units
theorem scIW:zac ["text"] ["text"] (aj zgC):=⟨rfl,rfl,rfl,by decide +kernel,rfl,by decide +kernel,by decide +kernel⟩
theorem zkd {f:Addr} {fd:FuncData} (F:Fun K "is_word" "is_word" zgC f fd) (T:Txt K mg aK C CN CT CP CM):FnOk P w K mg base CX0 1 f fd ["text"] zhR:=by
 obtain⟨t1,e1⟩:=T.small
 refine F.ok scIW (fun vs H Q E h=>?_) (fun cdv A outer s H vs Q E hr h=>?_)
 ·obtain⟨z,rfl,_⟩:=h
  rfl
 obtain⟨z,rfl,hz,q⟩:=h
 refine⟨_,ai (ay (zen (zbA zbM (zam zdW rfl T.len PySem.boot_len (aa (pv 0) ac)) ag (aD _))
  (zeZ (zam (zgW rfl) rfl T.all PyProof.Rows.Boot.all (aa
   (zfm (N':=["letter"]) (ix:=[]) rfl rfl (by decide +kernel) (by decide +kernel) rfl (fun _=>⟨[],zid (by decide +kernel) (by decide +kernel)⟩) (by decide +kernel) rfl rfl (fun j i h=>by simp at h)
    (zjG (pv 0)) (fun cl fp s₃ H₃=>zbA zj8 (pv 0) (zbc (v:=.str abc) rfl e1 ⟨_,rfl⟩) rfl)) ac))))),?_⟩
 refine⟨_,rfl,z,rfl,sz _ hz,_,_,rfl,rfl,_,rfl,?_⟩
 refine aG (fun c=>?_) (fun c=>?_)
 ·have c':(0:Int) < (z.length:Int):=of_decide_eq_true c
  refine⟨_,rfl,z,rfl,fun D hD=>⟨fun i m ys H'=>m=z.length - i∧i≤z.length∧ys=((zdk z).take i).map V.bl∧H'=upd H D (.lst ys),⟨z.length,rfl,Nat.zero_le _,rfl,rfl⟩,?_⟩⟩
  rintro i m ys H' ⟨rfl,hi,rfl,rfl⟩
  refine⟨ad,?_⟩
  by_cases hlt:i < z.length
  ·refine .inr ⟨hlt,fun x H'' y=>?_⟩
   obtain⟨rfl,ch,hch,rfl⟩:=y
   have et:=zkz hch
   refine⟨_,rfl,_,_,rfl,rfl,ad,?_,z.length - (i+1),by omega,rfl,hlt,?_,ziA⟩
   ·rw[List.length_map,List.length_take,zh6]
    exact Nat.lt_of_le_of_lt (Nat.le_trans (Nat.min_le_right _ _) hz) (by decide)
   ·rw[et,List.map_append]
    rfl
  ·have hi':i=z.length:=by omega
   subst hi'
   refine .inl ⟨Nat.le_refl _,D,zdk z,rfl,SqL.of (by rw[ad,List.take_of_length_le (by rw[zh6];exact Nat.le_refl _)]),?_⟩
   have:=q _ (za4 hD (.lst (((zdk z).take z.length).map V.bl)))
   unfold zf1 at this
   rw[c,Bool.true_and]at this
   exact this
 ·have:=q H (ap.refl H)
  unfold zf1 at this
  rw[Bool.eq_false_iff.mpr c,Bool.false_and]at this
  exact this
theorem scIN:zac ["word"] ["word"] (aj zgD):=⟨rfl,rfl,rfl,by decide +kernel,rfl,by decide +kernel,by decide +kernel⟩
theorem zke {f g:Addr} {fd gd:FuncData} (F:Fun K "is_name" "is_name" zgD f fd) (T:Txt K mg aK C CN CT CP CM) (G:FnOk P w K mg base CX0 1 g gd ["text"] zhR) (bG:ar K gd ["text"] []) (kG:W.keepIn K (.ref g)=true) (mG:mg "is_word"=some (.ref g)) :
  FnOk P w K mg base CX0 2 f fd ["word"] zhS:=by
 obtain⟨t2,e2⟩:=T.longest
 refine F.ok scIN (fun vs H Q E h=>?_) (fun cdv A outer s H vs Q E hr h=>?_)
 ·obtain⟨z,rfl,_⟩:=h
  rfl
 obtain⟨z,rfl,hz,q⟩:=h
 refine⟨_,ai (ay (zen (aq G hr rfl mG kG bG .nil aJ (aa (pv 0) ac)) (zen (zbA op_le (zam zdW rfl T.len PySem.boot_len (aa (pv 0) ac)) (zbc (v:=.int 8) rfl e2 ⟨_,rfl⟩) (aD _))
  (zeZ (zbA zil (pv 0) (zbc (v:=.ref aK) rfl T.kept rfl) rfl))))),?_⟩
 refine⟨_,rfl,z,rfl,hz,fun H1 s1=>⟨_,rfl,?_⟩⟩
 refine aG (fun c=>?_) (fun c=>?_)
 ·refine⟨_,rfl,z,rfl,sz _ hz,_,_,rfl,rfl,_,rfl,?_⟩
  refine aG (fun c2=>?_) (fun c2=>?_)
  ·refine⟨_,rfl,aK,zdZ,rfl,.inr (T.tup H1),rfl,zjs,?_⟩
   have:=q H1 s1
   unfold zaK at this
   rw[c,c2,Bool.true_and,Bool.true_and]at this
   exact this
  ·have:=q H1 s1
   unfold zaK at this
   rw[c,Bool.eq_false_iff.mpr c2,Bool.true_and,Bool.false_and]at this
   exact this
 ·have:=q H1 s1
  unfold zaK at this
  rw[Bool.eq_false_iff.mpr c,Bool.false_and]at this
  exact this
theorem scAN:zac ["word"] ["word"] (aj zfQ):=⟨rfl,rfl,rfl,by decide +kernel,rfl,by decide +kernel,by decide +kernel⟩
theorem zjl {f g:Addr} {fd gd:FuncData} (F:Fun K "ask_name" "ask_name" zfQ f fd) (T:Txt K mg aK C CN CT CP CM) (G:FnOk P w K mg base CX0 2 g gd ["word"] zhS) (bG:ar K gd ["word"] []) (kG:W.keepIn K (.ref g)=true) (mG:mg "is_name"=some (.ref g)) :
  FnOk P w K mg base (CX1 P w) 3 f fd ["word"] (zfc CN):=by
 refine Fun.okX F scAN (fun vs H Q E h=>?_) (fun cdv A outer s H vs Q E hr h=>?_)
 ·obtain⟨z,rfl,_⟩:=h
  rfl
 obtain⟨z,rfl,lo,h⟩:=h
 refine⟨_,ai (zal (zjE (zjD (aq G hr rfl mG kG bG .nil aJ (aa (pv 0) ac))))
  (ai (zcD (C:=CN) xe1 rfl rfl T.bname PySem.F.excBase_ValueError T.xname (aa (zcj (zaS (pe_fvr (pv 0)) (zaS au zdH))) ac))) zad),?_⟩
 refine⟨_,rfl,z,rfl,Nat.le_trans lo.1 (by decide),fun H1 s1=>⟨_,rfl,?_⟩⟩
 have hre:=lo.repr
 cases e:zaK z with
 | true =>
  rw[e]at h
  exact zeX (h H1 s1)
 | false =>
  rw[e,if_neg (by decide)]at h
  refine zc1 ?_
  refine⟨_,rfl,z,rfl,Nat.le_trans hre (by decide),_,rfl,?_,_,rfl,?_,?_,(by show 1≤sizeLine;decide),h H1 s1⟩
  ·rw[zaH]
   exact Nat.le_trans (Nat.add_le_add_left hre _) (by decide +kernel)
  ·rw[zaH,zaH]
   exact Nat.le_trans (Nat.add_le_add_right (Nat.add_le_add_left hre _) _) (by decide +kernel)
  ·rw[zaH,zaH]
   exact Nat.le_trans (Nat.add_le_add_right (Nat.add_le_add_left hre _) _) (by decide +kernel)
theorem scPl:zac ["thing","things","most"] ["thing","things","most"] (aj zhv):=⟨rfl,rfl,rfl,by decide +kernel,rfl,by decide +kernel,by decide +kernel⟩
theorem zgG {n:Int} (h1:-1000≤n) (h2:n≤1000):n.natAbs.log2 < 1920∧((toString n:String):Str).length≤1002:=by
 have hb:n.natAbs≤1000:=by omega
 refine⟨?_,?_⟩
 ·by_cases h0:n.natAbs=0
  ·rw[h0]
   decide
  ·have:=(Nat.log2_lt h0 (k:=1920)).mpr (Nat.lt_of_le_of_lt hb (by decide +kernel))
   exact this
 ·have:=PyProof.Rows.len_str_of_int n
  omega
theorem zkN {f:Addr} {fd:FuncData} (F:Fun K "place_of" "place_of" zhv f fd) (T:Txt K mg aK C CN CT CP CM):FnOk P w K mg base (CX1 P w) 1 f fd ["thing","things","most"] (zdv K CM):=by
 refine Fun.okX F scPl (fun vs H Q E h=>?_) (fun cdv A outer s H vs Q E hr h=>?_)
 ·obtain⟨a,tl,m,xs,ds,d,rfl,_⟩:=h
  rfl
 obtain⟨a,tl,m,xs,ds,d,rfl,ht,hl,hs,hd,hn,m0,m1,h⟩:=h
 have hu:=zex hr
 have hlen:xs.length=ds.length:=hs.length.symm
 obtain⟨hlog,hsl⟩:=zgG (n:=m) (by omega) m1
 refine⟨_,ae (zal (av (zhA hu) (pv 0) (pv 1) rfl) (ai (ay (zbH PySem.F.plainAttrs_list PySem.F.slot_list_index PySem.F.type_list_index (zcP hu) (pv 1) (aa (pv 0) ac)))) zad)
  (ae (zal (av zi6 (zam zai rfl T.len PySem.boot_len (aa (pv 1) ac)) (pv 2) (aD _))
   (ai (zcD (C:=CM) xe1 rfl rfl T.bmany PySem.F.excBase_ValueError T.xmany (aa (zcj (zaS au (zaS (zez (pv 2)) (zaS au zdH)))) ac))) zad)
  (ae (zau (zbH PySem.F.plainAttrs_list PySem.F.slot_list_append PySem.F.type_list_append zaZ (pv 1) (aa (pv 0) ac)))
  (ai (ay (aw ze0 (zam zai rfl T.len PySem.boot_len (aa (pv 1) ac)) ag))))),?_⟩
 refine⟨_,rfl,_,rfl,tl,xs,ds,d,rfl,.inl (SqL.of hl),hs,ht,Nat.le_trans hd (by decide),_,rfl,?_⟩
 refine aG (fun c=>?_) (fun c=>?_)
 ·have c':(ds.any fun e=>peq e d)=true:=c
  rw[if_pos c']at h
  have hlt:(ds.findIdx fun e=>peq e d) < ds.length:=List.findIdx_lt_length_of_exists (by simpa using c')
  refine⟨_,rfl,.inl ⟨rfl,_,SqL.of hl⟩,_,rfl,tl,xs,ds,_,d,ds.findIdx (fun e=>peq e d),rfl,rfl,hl,hs,ht,Nat.le_trans hd (by decide),⟨_,List.getElem?_eq_getElem hlt,List.findIdx_getElem (w:=hlt)⟩,fun j dj h1 h2=>?_,h H (ap.refl H)⟩
  obtain⟨h3,h4⟩:=List.getElem?_eq_some_iff.mp h2
  have z:=List.not_of_lt_findIdx (p:=fun e=>peq e d) h1
  rw[h4]at z
  cases e:peq dj d with
  | false=>rfl
  | true=>rw[e]at z;cases z
 ·have c':¬(ds.any fun e=>peq e d)=true:=c
  rw[if_neg c']at h
  refine⟨_,rfl,tl,xs,rfl,.inl (SqL.of hl),_,rfl,_,_,rfl,rfl,_,rfl,aG (fun c2=>?_) (fun c2=>?_)⟩
  ·have c3:m≤((xs.length:Nat):Int):=of_decide_eq_true c2
   rw[hlen]at c3
   rw[if_pos c3]at h
   refine⟨_,rfl,by decide +kernel,_,rfl,.inr ⟨m,rfl,hlog,_,rfl,?_,_,rfl,?_,?_,(by show 1≤sizeLine;decide),h H (ap.refl H)⟩⟩
   all_goals
    simp only[zaH]
    first
     | exact Nat.le_trans (Nat.add_le_add_left hsl _) (by decide +kernel)
     | exact Nat.le_trans (Nat.add_le_add_right (Nat.add_le_add_left hsl _) _) (by decide +kernel)
  ·have c3:¬m≤((xs.length:Nat):Int):=fun z=>c2 (decide_eq_true z)
   rw[hlen]at c3
   rw[if_neg c3]at h
   refine⟨_,rfl,.inl ⟨rfl,_,SqL.of hl⟩,_,rfl,tl,xs,_,rfl,rfl,hl,Nat.lt_of_le_of_lt (by rw[hlen];exact hn) (by decide),?_⟩
   refine⟨_,rfl,tl,_,rfl,.inl (SqL.of ad),_,_,rfl,rfl,?_⟩
   have e:(((xs++[V.ref a]).length:Nat):Int) - 1=(ds.length:Nat):=by rw[List.length_append,hlen];simp
   show Q (.int ((((xs++[V.ref a]).length:Nat):Int) - 1)) _
   rw[e]
   exact h
theorem scI:zac ["self"] ["self"] (aj zi5):=⟨rfl,rfl,rfl,by decide +kernel,rfl,by decide +kernel,by decide +kernel⟩
theorem zlz {f:Addr} {fd:FuncData} (F:Fun K "__init__" "Problem.__init__" zi5 f fd) (T:Txt K mg aK C CN CT CP CM):FnOk P w K mg base CX0 1 f fd ["self"] (zjA C):=by
 refine F.ok scI (fun vs H Q E h=>?_) (fun cdv A outer s H vs Q E hr h=>?_)
 ·obtain⟨p,dx,rfl,_⟩:=h
  rfl
 obtain⟨p,dx,rfl,hp,k⟩:=h
 refine⟨_,ae (zem (pv 0) (zag ac) rfl) (ae (zem (pv 0) (zag ac) rfl) (ai (zem (pv 0) (zag ac) rfl))),?_⟩
 refine⟨lS0,fun tl ht=>?_⟩
 have n1:p≠tl:=zaa hp ht
 refine⟨_,rfl,p,C,dx,[],rfl,(by rw[ao n1];exact hp),T.cl,T.nT,(by show 0 < 1000;decide),?_⟩
 refine⟨lS0,fun al ha=>?_⟩
 have a1:al≠p:=fun z=>by rw[z,ad]at ha;cases ha
 have a2:al≠tl:=fun z=>by rw[z,ao n1.symm,ad]at ha;cases ha
 have a0:H al=none:=by rw[ao a1,ao a2]at ha;exact ha
 refine⟨_,rfl,p,C,dx,_,rfl,(by rw[ao a1.symm,ad]),T.cl,T.nA,(by show 1 < 1000;decide),?_⟩
 refine⟨lS0,fun rl hrl=>?_⟩
 have r1:rl≠p:=fun z=>by rw[z,ad]at hrl;cases hrl
 have r2:rl≠al:=fun z=>by rw[z,ao a1,ad]at hrl;cases hrl
 have r3:rl≠tl:=fun z=>by rw[z,ao n1.symm,ao a2.symm,ao n1.symm,ad]at hrl;cases hrl
 have r0:H rl=none:=by rw[ao r1,ao r2,ao r1,ao r3]at hrl;exact hrl
 refine⟨_,rfl,p,C,dx,_,rfl,(by rw[ao r1.symm,ad]),T.cl,T.nR,(by show 2 < 1000;decide),?_⟩
 refine k tl al rl _ ht a0 r0 a2 r3 r2 ad ?_ ?_ ?_ fun b o e hb=>?_
 ·rw[ao n1.symm,ao r3.symm,ao n1.symm,ao a2.symm,ao n1.symm,ad]
 ·rw[ao a1,ao r2.symm,ao a1,ad]
 ·rw[ao r1,ad]
 ·rw[ao hb,ao (zaa e r0),ao hb,ao (zaa e a0),ao hb,ao (zaa e ht)]
  exact e
theorem scAT:zac ["self","number"] ["self","number"] (aj zfO):=⟨rfl,rfl,rfl,by decide +kernel,rfl,by decide +kernel,by decide +kernel⟩
theorem zjj {f:Addr} {fd:FuncData} (F:Fun K "ask_term" "Problem.ask_term" zfO f fd) (T:Txt K mg aK C CN CT CP CM):FnOk P w K mg base (CX1 P w) 1 f fd ["self","number"] (zfb K C CT):=by
 refine Fun.okX F scAT (fun vs H Q E h=>?_) (fun cdv A outer s H vs Q E hr h=>?_)
 ·obtain⟨p,tl,al,rl,T,As,Rs,n,rfl,_⟩:=h
  rfl
 obtain⟨p,tl,al,rl,T',As,Rs,n,rfl,S,h1,h2,h⟩:=h
 obtain⟨⟨dx,ho⟩,⟨xs,hl,hs⟩,_⟩:=id S
 have hlen:xs.length=T'.length:=by rw[←hs.length,List.length_map]
 obtain⟨hlog,hsl⟩:=zgG h1 h2
 refine⟨_,ai (zal (PW.pt (zdp (av zf2 (pv 1) ag (aD _)) (zdG (av zi6 (pv 1) (zam zai rfl T.len PySem.boot_len (aa (zaU (pv 0) rfl) ac)) (aD _)))))
  (ai (zcD (C:=CT) xe1 rfl rfl T.bterm PySem.F.excBase_ValueError T.xterm (aa (zcj (zaS (zez (pv 1)) (zaS au zdH))) ac))) zad),?_⟩
 refine⟨_,rfl,_,_,rfl,rfl,_,rfl,aG (fun c=>zc1 ?_) (fun c=>⟨_,rfl,_,rfl,p,C,dx,_,_,rfl,ho,T.cl,T.nT,zdt _ _ _,tl,xs,rfl,.inl (SqL.of hl),_,_,rfl,rfl,_,rfl,aG (fun c2=>?_) (fun c2=>?_)⟩)⟩
 rotate_left 2
 ·have c':¬n < 0:=fun z=>c (decide_eq_true z)
  have c2':¬((xs.length:Nat):Int)≤n:=fun z=>c2 (decide_eq_true z)
  rw[hlen]at c2'
  rw[if_neg (by omega)]at h
  exact h
 all_goals
  have hcond:n < 0∨(T'.length:Int)≤n:=by
   first
    | exact .inl (of_decide_eq_true c)
    | exact .inr (by have z:((xs.length:Nat):Int)≤n:=of_decide_eq_true c2;rw[hlen]at z;exact z)
  rw[if_pos hcond]at h
  refine⟨_,rfl,.inr ⟨n,rfl,hlog,_,rfl,?_,_,rfl,?_,?_,(by show 1≤sizeLine;decide),h H (ap.refl H)⟩⟩
  ·rw[zaH]
   exact Nat.le_trans (Nat.add_le_add_left hsl _) (by decide +kernel)
  ·rw[zaH,zaH]
   exact Nat.le_trans (Nat.add_le_add_right (Nat.add_le_add_left hsl _) _) (by decide +kernel)
  ·rw[zaH,zaH]
   exact Nat.le_trans (Nat.add_le_add_right (Nat.add_le_add_left hsl _) _) (by decide +kernel)
theorem scAP:zac ["self","part"] ["self","part"] (aj zfP):=⟨rfl,rfl,rfl,by decide +kernel,rfl,by decide +kernel,by decide +kernel⟩
theorem zjk {f:Addr} {fd:FuncData} (F:Fun K "ask_part" "Problem.ask_part" zfP f fd) (T:Txt K mg aK C CN CT CP CM):FnOk P w K mg base (CX1 P w) 1 f fd ["self","part"] (zg3 K C CP):=by
 refine Fun.okX F scAP (fun vs H Q E h=>?_) (fun cdv A outer s H vs Q E hr h=>?_)
 ·obtain⟨p,tl,al,rl,T,As,Rs,n,rfl,_⟩:=h
  rfl
 obtain⟨p,tl,al,rl,T',As,Rs,n,rfl,S,h1,h2,h⟩:=h
 obtain⟨⟨dx,ho⟩,_,⟨xs,hl,hs⟩,_⟩:=id S
 have hlen:xs.length=As.length:=by rw[←hs.length,List.length_map]
 obtain⟨hlog,hsl⟩:=zgG h1 h2
 refine⟨_,ai (zal (PW.pt (zdp (av zaE (pv 1) ag (aD _)) (zdG (av zbM (zam zk4 rfl T.abs PyProof.Rows.Boot.abs (aa (pv 1) ac)) (zam zai rfl T.len PySem.boot_len (aa (zaU (pv 0) rfl) ac)) (aD _)))))
  (ai (zcD (C:=CP) xe1 rfl rfl T.bpart PySem.F.excBase_ValueError T.xpart (aa (zcj (zaS (zez (pv 1)) (zaS au zdH))) ac))) zad),?_⟩
 refine⟨_,rfl,rfl,_,rfl,aG (fun c=>zc1 ?_) (fun c=>⟨_,rfl,n,rfl,_,rfl,p,C,dx,_,_,rfl,ho,T.cl,T.nA,zct _ _ _,al,xs,rfl,.inl (SqL.of hl),_,_,rfl,rfl,_,rfl,aG (fun c2=>?_) (fun c2=>?_)⟩)⟩
 rotate_left 2
 ·have c':¬n=0:=fun z=>c (decide_eq_true (by rw[z]))
  have c2':¬((xs.length:Nat):Int) < (if n < 0 then -n else n):=fun z=>c2 (decide_eq_true z)
  rw[hlen]at c2'
  have hb:zaI As.length n=false:=by
   unfold zaI
   have a1:¬((As.length:Nat):Int) < n:=by split at c2' <;> omega
   have a2:¬n < -((As.length:Nat):Int):=by split at c2' <;> omega
   rw[decide_eq_false c',decide_eq_false a1,decide_eq_false a2]
   rfl
  rw[if_neg (by rw[hb];decide)]at h
  exact h
 all_goals
  have hb:zaI As.length n=true:=by
   unfold zaI
   first
    | (have c':V.int n=V.int 0:=of_decide_eq_true c
       have c2':n=0:=by injection c'
       rw[decide_eq_true c2'];rfl)
    | (have z:((xs.length:Nat):Int) < (if n < 0 then -n else n):=of_decide_eq_true c2
       rw[hlen]at z
       split at z
       ·rw[decide_eq_true (show n < -((As.length:Nat):Int) by omega),Bool.or_true]
       ·rw[decide_eq_true (show((As.length:Nat):Int) < n by omega),Bool.or_true,Bool.true_or])
  rw[if_pos hb]at h
  refine⟨_,rfl,.inr ⟨n,rfl,hlog,_,rfl,?_,_,rfl,?_,?_,(by show 1≤sizeLine;decide),h H (ap.refl H)⟩⟩
  ·rw[zaH]
   exact Nat.le_trans (Nat.add_le_add_left hsl _) (by decide +kernel)
  ·rw[zaH,zaH]
   exact Nat.le_trans (Nat.add_le_add_right (Nat.add_le_add_left hsl _) _) (by decide +kernel)
  ·rw[zaH,zaH]
   exact Nat.le_trans (Nat.add_le_add_right (Nat.add_le_add_left hsl _) _) (by decide +kernel)
end
end K74
namespace K74
open PySem L2
def Fr2 (H H':Hp) (z y:Addr):Prop:=∀ b o,H b=some o→b≠z→b≠y→H' b=some o
theorem Fr2.of1 {H H':Hp} {z y:Addr} (f:Fr1 H H' z):Fr2 H H' z y:=fun b o e n _=>f b o e n
theorem Fr2.of_same {H H':Hp} {z y:Addr} (s:ap H H'):Fr2 H H' z y:=fun b o e _ _=>s b o e
theorem Fr2.trans {H H1 H2:Hp} {z y:Addr} (a:Fr2 H H1 z y) (b:Fr2 H1 H2 z y):Fr2 H H2 z y:=fun c o e n m=>b c o (a c o e n m) n m
def zc3 (As:List At) (z:Str):Out × List At :=
 if zaK z=false then(.name,As) else if .plain z∈As then(.num (As.idxOf (.plain z)+1),As) else if 40≤As.length then(.many,As) else(.num (As.length+1),As++[.plain z])
def zc2 (n:Nat) (As:List At) (a b:Int):Out × List At :=
 if a < 0∨(n:Int)≤a∨b < 0∨(n:Int)≤b then(.term,As) else if .same b a∈As then(.num (As.idxOf (.same b a)+1),As) else if .same a b∈As then(.num (As.idxOf (.same a b)+1),As) else if 40≤As.length then(.many,As) else(.num (As.length+1),As++[.same a b])
def zaq:List Int→List Int→List Int
 | acc,[]=>acc
 | acc,p :: ps=>zaq (if p∈acc then acc else acc++[p]) ps
def zdl (m:Nat) (Rs:List (List Int)) (ps:List Int):Out × List (List Int) :=
 if ps.any (zaI m)=true then(.part,Rs) else if 20 < ps.length then(.many,Rs) else if 200≤Rs.length then(.many,Rs) else(.num Rs.length,Rs++[zaq [] ps])
def Told (K:W.Frag) (C CN CT CP CM:Addr) (H:Hp) (p tl al rl:Addr) (T:List Tm) (As:List At) (Rs:List (List Int)) (Q:VK) (E:XK):Out→Prop
 | .num k=>∀ H',zaJ K C H' p tl al rl T As Rs→Fr2 H H' al rl→Q (.int (k:Nat)) H'
 | .name=>∀ H',ap H H'→E (.ref CN) none H'
 | .term=>∀ H',ap H H'→E (.ref CT) none H'
 | .part=>∀ H',ap H H'→E (.ref CP) none H'
 | .many=>∀ H',ap H H'→E (.ref CM) none H'
def ziD (K:W.Frag) (C CN CT CP CM:Addr):Sp:=fun vs H Q E=>∃(p tl al rl:Addr) (T:List Tm) (As:List At) (Rs:List (List Int)) (z:Str),vs=[.ref p,.str z]∧zaJ K C H p tl al rl T As Rs∧Low z∧As.length≤1000 ∧
 Told K C CN CT CP CM H p tl al rl T (zc3 As z).2 Rs Q E (zc3 As z).1
def zhs (K:W.Frag) (C CN CT CP CM:Addr):Sp:=fun vs H Q E=>∃(p tl al rl:Addr) (T:List Tm) (As:List At) (Rs:List (List Int)) (a b:Int),vs=[.ref p,.int a,.int b]∧zaJ K C H p tl al rl T As Rs∧(-1000≤a∧a≤1000)∧(-1000≤b∧b≤1000)∧As.length≤1000 ∧
 Told K C CN CT CP CM H p tl al rl T (zc2 T.length As a b).2 Rs Q E (zc2 T.length As a b).1
def spRow (K:W.Frag) (C CN CT CP CM:Addr):Sp:=fun vs H Q E=>∃(p tl al rl q:Addr) (T:List Tm) (As:List At) (Rs:List (List Int)) (ps:List Int),vs=[.ref p,.ref q]∧zaJ K C H p tl al rl T As Rs∧SqI K H q ps∧ps.length≤1000∧(∀ i∈ps,-1000≤i∧i≤1000)∧Rs.length≤1000 ∧
 Told K C CN CT CP CM H p tl al rl T As (zdl As.length Rs ps).2 Q E (zdl As.length Rs ps).1
def zjz (K:W.Frag):Sp:=fun vs H Q _=>∃(q:Addr) (ps:List Int),vs=[.ref q]∧SqI K H q ps∧ps.length≤1000∧∀(H':Hp) (l:Addr),ap H H'→H' l=some (.tup ((zaq [] ps).map V.int))→Q (.ref l) H'
theorem zlm (a b:Int):peq (.int a) (.int b)=decide (a=b):=by
 simp only[peq]
 rfl
theorem q1 {Q:VK} {n:Nat} {H:Hp} (h:Q (.int ((n+1:Nat):Int)) H):Q (.int (((n:Nat):Int)+1)) H:=h
theorem zdL:∀(ps acc:List Int),(zaq acc ps).length≤acc.length+ps.length
 | [],acc=>by simp [zaq]
 | p :: ps,acc=>by
  unfold zaq
  have h:=zdL ps (if p∈acc then acc else acc++[p])
  split at h <;> simp only[List.length_append,List.length_cons,List.length_singleton,List.length_nil]at h ⊢ <;> split <;> simp_all <;> omega
theorem zd3 {ps:List Int} {i:Nat} {k:Int}:∀ {acc:List Int},ps[i]?=some k→zaq acc (ps.take (i+1))=if k∈zaq acc (ps.take i) then zaq acc (ps.take i) else zaq acc (ps.take i)++[k]:=by
 induction ps generalizing i with
 | nil=>intro acc h;simp at h
 | cons p ps ih =>
  intro acc h
  cases i with
  | zero =>
   simp at h
   subst h
   simp [zaq]
  | succ i =>
   simp only[List.take_succ_cons,zaq]
   exact ih (by simpa using h)
section
variable {P:Program} {w:World} {K:W.Frag} {mg:Str→Option Value} {base:Heap} {aK C CN CT CP CM:Addr}
theorem ziJ {H:Hp} {p tl al rl a:Addr} {T:List Tm} {As:List At} {Rs:List (List Int)} {t:At} {Q:VK} {E:XK} (S:zaJ K C H p tl al rl T As Rs) (ha:Has K H (dA t) (.ref a)) (len:As.length≤1000)
  (k1:t∈As→∀ H',ap H H'→Q (.int (As.idxOf t:Nat)) H') (k2:t∉As→40≤As.length→∀ H',ap H H'→E (.ref CM) none H')
  (k3:t∉As→¬40≤As.length→∀ H',zaJ K C H' p tl al rl T (As++[t]) Rs→Fr1 H H' al→Q (.int (As.length:Nat)) H'):zdv K CM [.ref a,.ref al,.int 40] H Q E:=by
 obtain⟨xs,hl,hs⟩:=id S.am
 refine⟨a,al,40,xs,As.map dA,dA t,rfl,ha,hl,hs,Nat.le_trans (zcR (n:=1) (fun a=>by rw[zge];exact Nat.le_refl _) As) (by decide),by rw[List.length_map];exact len,by decide,by decide,?_⟩
 rw[zbF zch,zfV zch,List.length_map]
 by_cases hm:t∈As
 ·rw[if_pos (decide_eq_true hm)]
  exact k1 hm
 ·rw[if_neg (by rw[decide_eq_false hm];decide)]
  by_cases h40:40≤As.length
  ·rw[if_pos (by omega)]
   exact k2 hm h40
  ·rw[if_neg (by omega)]
   have kt:zaj H (upd H al (.lst (xs++[.ref a]))):=zaj.lst hl
   refine k3 hm h40 _ (S.setA ?_) fun b o e hb=>by rw[ao hb];exact e
   rw[List.map_append]
   exact(hs.keep kt (zab zaN As)).append (HasL.one (ha.keep kt (zaN t)))
theorem scP:zac ["self","name"] ["self","name"] (aj zhu):=⟨rfl,rfl,rfl,by decide +kernel,rfl,by decide +kernel,by decide +kernel⟩
theorem zkM {f fN fP:Addr} {fd dN dP:FuncData} (F:Fun K "add_plain" "Problem.add_plain" zhu f fd) (T:Txt K mg aK C CN CT CP CM)
  (GN:FnOk P w K mg base (CX1 P w) 3 fN dN ["word"] (zfc CN)) (bN:ar K dN ["word"] []) (kN:W.keepIn K (.ref fN)=true) (mN:mg "ask_name"=some (.ref fN))
  (GP:FnOk P w K mg base (CX1 P w) 1 fP dP ["thing","things","most"] (zdv K CM)) (bP:ar K dP ["thing","things","most"] []) (kP:W.keepIn K (.ref fP)=true) (mP:mg "place_of"=some (.ref fP)) :
  FnOk P w K mg base (CX1 P w) 4 f fd ["self","name"] (ziD K C CN CT CP CM):=by
 obtain⟨t40,e40⟩:=T.atoms
 refine Fun.okX F scP (fun vs H Q E h=>?_) (fun cdv A outer s H vs Q E hr h=>?_)
 ·obtain⟨p,tl,al,rl,T,As,Rs,z,rfl,_⟩:=h
  rfl
 obtain⟨p,tl,al,rl,T',As,Rs,z,rfl,S,lo,len,h⟩:=h
 have hr1:aH 1 _:=hr.mono (by decide)
 refine⟨_,ae (zau (aq GN hr rfl mN kN bN .nil (zav xe1) (aa (pv 1) ac)))
  (ai (ay (aw za9 (aq GP hr1 rfl mP kP bP .nil (zav xe1) (aa (zae (aa au (aa (pv 1) ac))) (aa (zaU (pv 0) rfl) (aa (zbc (v:=.int 40) rfl e40 ⟨_,rfl⟩) ac)))) ag))),?_⟩
 refine⟨_,rfl,z,rfl,lo,?_⟩
 cases hg:zaK z with
 | false =>
  rw[if_neg (by decide)]
  have e:zc3 As z=(.name,As):=if_pos hg
  rw[e]at h
  exact h
 | true =>
 rw[if_pos rfl]
 intro H1 s1
 refine⟨_,rfl,lS2,fun a ha=>?_⟩
 have s2:ap H1 (upd H1 a (.tup [.str "plain",.str z])):=za4 ha _
 have s12:=s1.trans s2
 have S2:=S.same s12
 obtain⟨⟨dx,ho⟩,_⟩:=id S2
 have hd:Has K (upd H1 a (.tup [.str "plain",.str z])) (dA (.plain z)) (.ref a):=by
  simp only[dA,Has,HasL]
  exact⟨a,_,rfl,SqT.of ad,_,_,rfl,rfl,_,_,rfl,rfl,rfl⟩
 refine⟨_,rfl,p,C,dx,_,_,rfl,ho,T.cl,T.nA,zct _ _ _,?_⟩
 refine ziJ (CM:=CM) (E:=E) (Q:=fun x H'=>rI0 (fun i j=>.int (i+j)) x (.int 1) H' Q) S2 hd len (fun hm H' s'=>?_) (fun hm h40 H' s'=>?_) (fun hm h40 H' S' fr=>?_)
 ·have e:zc3 As z=(.num (As.idxOf (.plain z)+1),As):=by unfold zc3;rw[if_neg (by rw[hg];decide),if_pos hm]
  rw[e]at h
  exact⟨_,_,rfl,rfl,q1 <| h H' (S2.same s') (Fr2.of_same (s12.trans s'))⟩
 ·have e:zc3 As z=(.many,As):=by unfold zc3;rw[if_neg (by rw[hg];decide),if_neg hm,if_pos h40]
  rw[e]at h
  exact h H' (s12.trans s')
 ·have e:zc3 As z=(.num (As.length+1),As++[.plain z]):=by unfold zc3;rw[if_neg (by rw[hg];decide),if_neg hm,if_neg h40]
  rw[e]at h
  exact⟨_,_,rfl,rfl,q1 <| h H' S' ((Fr2.of_same s12).trans (Fr2.of1 fr))⟩
theorem scSm:zac ["self","one","other","turned"] ["self","one","other"] (aj zi3):=⟨rfl,rfl,rfl,by decide +kernel,rfl,by decide +kernel,by decide +kernel⟩
theorem zlq {f fT fP:Addr} {fd dT' dP:FuncData} (F:Fun K "add_same" "Problem.add_same" zi3 f fd) (T:Txt K mg aK C CN CT CP CM)
  (GT:FnOk P w K mg base (CX1 P w) 1 fT dT' ["self","number"] (zfb K C CT)) (bT:ar K dT' ["self","number"] []) (mT:zbo K C "ask_term" fT)
  (GP:FnOk P w K mg base (CX1 P w) 1 fP dP ["thing","things","most"] (zdv K CM)) (bP:ar K dP ["thing","things","most"] []) (kP:W.keepIn K (.ref fP)=true) (mP:mg "place_of"=some (.ref fP)) :
  FnOk P w K mg base (CX1 P w) 2 f fd ["self","one","other"] (zhs K C CN CT CP CM):=by
 obtain⟨t40,e40⟩:=T.atoms
 refine Fun.okX F scSm (fun vs H Q E h=>?_) (fun cdv A outer s H vs Q E hr h=>?_)
 ·obtain⟨p,tl,al,rl,T,As,Rs,a,b,rfl,_⟩:=h
  rfl
 obtain⟨p,tl,al,rl,T',As,Rs,a,b,rfl,S,⟨a1,a2⟩,⟨b1,b2⟩,len,h⟩:=h
 have hu:=zex hr
 refine⟨_,ae (zau (zaG (pv 0) T.cl mT GT hr bT .nil (zav xe1) (aa (pv 1) ac)))
  (ae (zau (zaG (pv 0) T.cl mT GT hr bT .nil (zav xe1) (aa (pv 2) ac)))
  (ae (az (i:=3) scSm.nd rfl (Or.inl rfl) (zae (aa au (aa (pv 2) (aa (pv 1) ac)))))
  (ae (zal (av (zhA hu) (pv 3) (zaU (pv 0) rfl) rfl) (ai (ay (aw za9 (zbH PySem.F.plainAttrs_list PySem.F.slot_list_index PySem.F.type_list_index (zcP hu) (zaU (pv 0) rfl) (aa (pv 3) ac)) ag))) zad)
  (ai (ay (aw za9 (aq GP hr rfl mP kP bP .nil (zav xe1) (aa (zae (aa au (aa (pv 1) (aa (pv 2) ac)))) (aa (zaU (pv 0) rfl) (aa (zbc (v:=.int 40) rfl e40 ⟨_,rfl⟩) ac)))) ag)))))),?_⟩
 obtain⟨⟨dx,ho⟩,_,⟨xs,hl,hs⟩,_⟩:=id S
 have no:=zcK tl al rl (m:="ask_term") (by decide +kernel) (by decide +kernel) (by decide +kernel)
 refine⟨_,rfl,p,dx,_,rfl,ho,no,_,rfl,p,tl,al,rl,T',As,Rs,a,rfl,S,a1,a2,?_⟩
 by_cases ca:a < 0∨(T'.length:Int)≤a
 ·rw[if_pos ca]
  have e:zc2 T'.length As a b=(.term,As):=if_pos (ca.elim .inl fun z=>.inr (.inl z))
  rw[e]at h
  exact h
 rw[if_neg ca]
 refine⟨_,rfl,p,dx,_,rfl,ho,no,_,rfl,p,tl,al,rl,T',As,Rs,b,rfl,S,b1,b2,?_⟩
 by_cases cb:b < 0∨(T'.length:Int)≤b
 ·rw[if_pos cb]
  have e:zc2 T'.length As a b=(.term,As):=if_pos (.inr (.inr cb))
  rw[e]at h
  exact h
 rw[if_neg cb]
 have cn:¬(a < 0∨(T'.length:Int)≤a∨b < 0∨(T'.length:Int)≤b):=by omega
 refine⟨_,rfl,_,rfl,lS3,fun u hu'=>?_⟩
 have s1:ap H (upd H u (.tup [.str "same",.int b,.int a])):=za4 hu' _
 have hd:Has K (upd H u (.tup [.str "same",.int b,.int a])) (dA (.same b a)) (.ref u):=by
  simp only[dA,Has,HasL]
  exact⟨u,_,rfl,SqT.of ad,_,_,rfl,rfl,_,_,rfl,rfl,_,_,rfl,rfl,rfl⟩
 have S1:=S.same s1
 have hs1:=hs.keep (.of_same s1) (zab zaN As)
 have dp:zaB (As.map dA)≤60:=Nat.le_trans (zcR (n:=1) (fun a=>by rw[zge];exact Nat.le_refl _) As) (by decide)
 refine⟨_,rfl,_,rfl,p,C,dx,_,_,rfl,s1 _ _ ho,T.cl,T.nA,zct _ _ _,al,xs,As.map dA,dA (.same b a),rfl,.inl (SqL.of (s1 _ _ hl)),hs1,hd,dp,_,rfl,?_⟩
 have ea:=zbF zch As (.same b a)
 by_cases hm:At.same b a∈As
 ·rw[decide_eq_true hm]at ea
  refine aG (fun _=>?_) (fun c=>absurd ea c)
  have e:zc2 T'.length As a b=(.num (As.idxOf (.same b a)+1),As):=by unfold zc2;rw[if_neg cn,if_pos hm]
  rw[e]at h
  have hlt:=List.idxOf_lt_length_of_mem hm
  refine⟨_,rfl,p,C,dx,_,_,rfl,s1 _ _ ho,T.cl,T.nA,zct _ _ _,.inl ⟨rfl,_,SqL.of (s1 _ _ hl)⟩,_,rfl,al,xs,As.map dA,_,dA (.same b a),As.idxOf (.same b a),rfl,rfl,s1 _ _ hl,hs1,hd,dp,⟨dA (.same b a),?_,zbt _⟩,fun m dm h1 h2=>?_,_,_,rfl,rfl,q1 (h _ S1 (Fr2.of_same s1))⟩
  ·rw[List.getElem?_map,List.getElem?_eq_getElem hlt]
   simp
  ·rw[List.getElem?_map]at h2
   cases q:As[m]? with
   | none=>rw[q]at h2;cases h2
   | some v =>
    rw[q]at h2
    have e':dm=dA v:=(Option.some.inj h2).symm
    rw[e',zjH]
    refine decide_eq_false fun z=>?_
    obtain⟨hm',hv⟩:=List.getElem?_eq_some_iff.mp q
    have z':=List.not_of_lt_findIdx (p:=(· == At.same b a)) h1
    rw[hv,z,beq_self_eq_true]at z'
    cases z'
 ·rw[decide_eq_false hm]at ea
  refine aG (fun c=>absurd (show false=true from ea.symm.trans c) (by decide)) (fun _=>?_)
  refine⟨_,rfl,_,rfl,lS3,fun v hv=>?_⟩
  have s2:ap (upd H u (.tup [.str "same",.int b,.int a])) (upd (upd H u (.tup [.str "same",.int b,.int a])) v (.tup [.str "same",.int a,.int b])):=za4 hv _
  have s12:=s1.trans s2
  have S2:=S.same s12
  have hd2:Has K (upd (upd H u (.tup [.str "same",.int b,.int a])) v (.tup [.str "same",.int a,.int b])) (dA (.same a b)) (.ref v):=by
   simp only[dA,Has,HasL]
   exact⟨v,_,rfl,SqT.of ad,_,_,rfl,rfl,_,_,rfl,rfl,_,_,rfl,rfl,rfl⟩
  refine⟨_,rfl,p,C,dx,_,_,rfl,s12 _ _ ho,T.cl,T.nA,zct _ _ _,?_⟩
  refine ziJ (CM:=CM) (E:=E) (Q:=fun x H'=>rI0 (fun i j=>.int (i+j)) x (.int 1) H' Q) S2 hd2 len (fun hm2 H' s'=>?_) (fun hm2 h40 H' s'=>?_) (fun hm2 h40 H' S' fr=>?_)
  ·have e:zc2 T'.length As a b=(.num (As.idxOf (.same a b)+1),As):=by unfold zc2;rw[if_neg cn,if_neg hm,if_pos hm2]
   rw[e]at h
   exact⟨_,_,rfl,rfl,q1 <| h H' (S2.same s') (Fr2.of_same (s12.trans s'))⟩
  ·have e:zc2 T'.length As a b=(.many,As):=by unfold zc2;rw[if_neg cn,if_neg hm,if_neg hm2,if_pos h40]
   rw[e]at h
   exact h H' (s12.trans s')
  ·have e:zc2 T'.length As a b=(.num (As.length+1),As++[.same a b]):=by unfold zc2;rw[if_neg cn,if_neg hm,if_neg hm2,if_neg h40]
   rw[e]at h
   exact⟨_,_,rfl,rfl,q1 <| h H' S' ((Fr2.of_same s12).trans (Fr2.of1 fr))⟩
end
end K74
namespace K74
open PySem L2
structure Asks (K:W.Frag) (C:Addr) (H:Hp) (p tl al rl q:Addr) (T:List Tm) (As:List At) (Rs:List (List Int)) (n:Str) (ps:List Int):Prop where
 pr:zaJ K C H p tl al rl T As Rs
 sq:SqI K H q ps
 low:Low n
 few:ps.length≤10
 small:∀ i∈ps,-1000≤i∧i≤1000
 len:T.length≤1000
def spAdd (K:W.Frag) (C CN CT CM:Addr):Sp:=fun vs H Q E=>∃(p tl al rl q:Addr) (T:List Tm) (As:List At) (Rs:List (List Int)) (n:Str) (ps:List Int),vs=[.ref p,.str n,.ref q]∧Asks K C H p tl al rl q T As Rs n ps ∧
 match zdB T (zaK n) (n,ps) with
 | (.num k,T')=>∀ H',zaJ K C H' p tl al rl T' As Rs→Fr1 H H' tl→Q (.int (k:Nat)) H'
 | (.name,_)=>∀ H',ap H H'→E (.ref CN) none H'
 | (.term,_)=>∀ H',ap H H'→E (.ref CT) none H'
 | (.many,_)=>∀ H',ap H H'→E (.ref CM) none H'
 | (.part,_)=>True
section
variable {P:Program} {w:World} {K:W.Frag} {mg:Str→Option Value} {base:Heap} {aK C CN CT CP CM:Addr}
theorem scA:zac ["self","name","parts","part"] ["self","name","parts"] (aj sAdd):=⟨rfl,rfl,rfl,by decide +kernel,rfl,by decide +kernel,by decide +kernel⟩
theorem zia {ps:List Int} {i:Nat} {x:V} (h:(ps.map V.int)[i]?=some x):∃ k,ps[i]?=some k∧x=.int k:=by
 rw[List.getElem?_map]at h
 cases e:ps[i]? with
 | none=>rw[e]at h;cases h
 | some k =>
  rw[e]at h
  exact⟨k,rfl,(Option.some.inj h).symm⟩
theorem zjV {T:List Tm} {ps:List Int} {i:Nat} {k:Int} (h3:ps.length≤3) (e:ps[i]?=some k) (h:k < 0∨(T.length:Int)≤k):bad T ps=true:=by
 unfold bad
 rw[Bool.or_eq_true]
 refine .inr (List.any_eq_true.mpr ⟨k,List.mem_of_getElem? e,?_⟩)
 rw[Bool.or_eq_true]
 exact h.elim (fun z=>.inl (decide_eq_true z)) fun z=>.inr (decide_eq_true z)
theorem ziM {T:List Tm} {ps:List Int} (h3:ps.length≤3) (h:∀(i:Nat) k,ps[i]?=some k→¬(k < 0∨(T.length:Int)≤k)):bad T ps=false:=by
 cases e:bad T ps with
 | false=>rfl
 | true =>
  unfold bad at e
  rw[Bool.or_eq_true]at e
  rcases e with e | e
  ·have:=of_decide_eq_true e
   omega
  ·obtain⟨k,hk,e⟩:=List.any_eq_true.mp e
   obtain⟨i,hi⟩:=List.mem_iff_getElem?.mp hk
   rw[Bool.or_eq_true]at e
   exact absurd (e.elim (fun z=>.inl (of_decide_eq_true z)) fun z=>.inr (of_decide_eq_true z)) (h i k hi)
theorem ok_add {f fN fT fP:Addr} {fd dN dT' dP:FuncData} (F:Fun K "add_term" "Problem.add_term" sAdd f fd) (T:Txt K mg aK C CN CT CP CM)
  (GN:FnOk P w K mg base (CX1 P w) 3 fN dN ["word"] (zfc CN)) (bN:ar K dN ["word"] []) (kN:W.keepIn K (.ref fN)=true) (mN:mg "ask_name"=some (.ref fN))
  (GT:FnOk P w K mg base (CX1 P w) 1 fT dT' ["self","number"] (zfb K C CT)) (bT:ar K dT' ["self","number"] []) (mT:zbo K C "ask_term" fT)
  (GP:FnOk P w K mg base (CX1 P w) 1 fP dP ["thing","things","most"] (zdv K CM)) (bP:ar K dP ["thing","things","most"] []) (kP:W.keepIn K (.ref fP)=true) (mP:mg "place_of"=some (.ref fP)) :
  FnOk P w K mg base (CX1 P w) 4 f fd ["self","name","parts"] (spAdd K C CN CT CM):=by
 obtain⟨t3,e3⟩:=T.parts
 obtain⟨t60,e60⟩:=T.terms
 refine Fun.okX F scA (fun vs H Q E h=>?_) (fun cdv A outer s H vs Q E hr h=>?_)
 ·obtain⟨p,tl,al,rl,q,T,As,Rs,n,ps,rfl,_⟩:=h
  rfl
 obtain⟨p,tl,al,rl,q,T',As,Rs,n,ps,rfl,A0,h⟩:=h
 obtain⟨S,hq,lo,few,small,len⟩:=A0
 have hr1:aH 1 _:=hr.mono (by decide)
 refine⟨_,ae (zau (aq GN hr rfl mN kN bN .nil (zav xe1) (aa (pv 1) ac)))
  (ae (zal (av zbM (zam zai rfl T.len PySem.boot_len (aa (pv 2) ac)) (zbc (v:=.int 3) rfl e3 ⟨_,rfl⟩) (aD _))
   (ai (zcD (C:=CT) xe1 rfl rfl T.bterm PySem.F.excBase_ValueError T.xterm (aa (zcj (zaS (zez (pv 1)) (zaS au (zaS (zez (zbc (v:=.int 3) rfl e3 ⟨_,rfl⟩)) (zaS au zdH))))) ac))) zad)
  (ae (zbp PassesOwn.leaving rfl (zf9 (pv 2)) (zaO (i:=3) scA.nd rfl (Or.inl rfl)) (ai (zau (zaG (pv 0) T.cl mT GT hr1 bT .nil (zav xe1) (aa (pv 3) ac)))))
  (ai (ay (aq GP hr1 rfl mP kP bP .nil (zav xe1) (aa (zae (aa (pv 1) (aa (za7 zbK rfl T.tuple PyProof.Rows.Boot.tuple (aa (pv 2) ac)) ac))) (aa (zaU (pv 0) rfl) (aa (zbc (v:=.int 60) rfl e60 ⟨_,rfl⟩) ac)))))))),?_⟩
 refine⟨_,rfl,n,rfl,lo,?_⟩
 cases hg:zaK n with
 | false =>
  have e:zdB T' false (n,ps)=(.name,T'):=if_pos rfl
  rw[hg,e]at h
  rw[if_neg (by decide)]
  exact h
 | true =>
 rw[if_pos rfl]
 intro H1 s1
 have S1:=S.same s1
 have hq1:=hq.same s1
 refine⟨_,rfl,q,_,rfl,hq1,_,_,rfl,rfl,_,rfl,?_⟩
 have hl1:(ps.map V.int).length=ps.length:=List.length_map _
 refine aG (fun c=>?_) (fun c=>?_)
 ·have c':(3:Int) < (((ps.map V.int).length:Nat):Int):=of_decide_eq_true c
  rw[hl1]at c'
  have hb:bad T' ps=true:=by unfold bad;rw[decide_eq_true (by omega:3 < ps.length)];rfl
  have e:zdB T' true (n,ps)=(.term,T'):=by unfold zdB;rw[if_neg (by decide),if_pos hb]
  rw[hg,e]at h
  have hn:=lo.1
  refine⟨_,rfl,.inl ⟨n,rfl,Nat.le_trans hn (by decide),_,rfl,?_,_,rfl,?_,.inr ⟨3,rfl,by decide +kernel,_,rfl,?_,_,rfl,?_,?_,(by show 1≤sizeLine;decide),h H1 s1⟩⟩⟩
  all_goals
   simp only[zaH]
   exact Nat.le_trans (by first | exact Nat.add_le_add_left hn _ | exact Nat.add_le_add_right (Nat.add_le_add_left hn _) _ | exact Nat.add_le_add_right (Nat.add_le_add_right (Nat.add_le_add_left hn _) _) _ | exact Nat.add_le_add_right (Nat.add_le_add_right (Nat.add_le_add_right (Nat.add_le_add_left hn _) _) _) _) (by decide +kernel)
 ·have c':¬(3:Int) < (((ps.map V.int).length:Nat):Int):=fun z=>c (decide_eq_true z)
  rw[hl1]at c'
  have h3:ps.length≤3:=by omega
  obtain⟨⟨dx,ho⟩,⟨xs,hl,hs⟩,_⟩:=id S1
  have addE:bad T' ps=false→zdB T' true (n,ps)=if(n,ps)∈T' then(.num (T'.idxOf (n,ps)),T') else if 60≤T'.length then(.many,T') else(.num T'.length,T'++[(n,ps)]):=fun hb=>by unfold zdB;rw[if_neg (by decide),if_neg (by rw[hb];decide)]
  have last:∀(H3:Hp) (a l:Addr),ap H H3→H3 a=some (.tup [.str n,.ref l])→SqT K H3 l (ps.map V.int)→bad T' ps=false→zdv K CM [.ref a,.ref tl,.int 60] H3 Q E:=fun H3 a l s3 ha hq3 hb=>by
   have S3:=S.same s3
   rw[hg,addE hb]at h
   obtain⟨xs3,hl3,hs3⟩:=id S3.tm
   have hd:Has K H3 (dT (n,ps)) (.ref a):=by
    simp only[dT,Has,HasL]
    exact⟨a,_,rfl,SqT.of ha,_,_,rfl,rfl,_,_,rfl,⟨l,_,rfl,hq3,HasL.ints ps⟩,rfl⟩
   refine⟨a,tl,60,xs3,T'.map dT,dT (n,ps),rfl,hd,hl3,hs3,Nat.le_trans (zeM T') (by decide),by rw[List.length_map];exact len,by decide,by decide,?_⟩
   rw[zbF ze5,zfV ze5,List.length_map]
   by_cases hm:(n,ps)∈T'
   ·rw[if_pos hm]at h
    rw[if_pos (decide_eq_true hm)]
    exact fun H' s'=>h H' (S3.same s') (Fr1.of_same (s3.trans s'))
   ·rw[if_neg hm]at h
    rw[if_neg (by rw[decide_eq_false hm];decide)]
    by_cases h60:60≤T'.length
    ·rw[if_pos h60]at h
     rw[if_pos (by omega)]
     exact fun H' s'=>h H' (s3.trans s')
    ·rw[if_neg h60]at h
     rw[if_neg (by omega)]
     have kt:zaj H3 (upd H3 tl (.lst (xs3++[.ref a]))):=zaj.lst hl3
     refine h _ (S3.setT ?_) fun b o e hb'=>?_
     ·rw[List.map_append]
      exact(hs3.keep kt (zaR T')).append (HasL.one (hd.keep kt (zhC _)))
     ·rw[ao hb']
      exact s3 b o e
  rcases hq1 with hqX | hqX
  ·refine⟨_,rfl,q,rfl,.inl ⟨⟨_,hqX⟩,zeK (K:=K) (a:=q) (xs:=ps.map V.int) (fun i σ H2=>H2=H1∧(∃ z,σ=[some (.ref p),some (.str n),some (.ref q),z])∧∀(j:Nat) k,j < i→ps[j]?=some k→¬(k < 0∨(T'.length:Int)≤k))
    ⟨rfl,⟨_,rfl⟩,fun j k hj=>absurd hj (Nat.not_lt_zero j)⟩ (fun i σ H2 _ ⟨e,_⟩=>by rw[e];exact hqX) ?_ ?_⟩⟩
   ·rintro i x σ H2 hx ⟨rfl,⟨z,rfl⟩,no⟩
    obtain⟨k,ek,rfl⟩:=zia hx
    have sk:=small k (List.mem_of_getElem? ek)
    refine⟨_,rfl,p,dx,_,rfl,ho,zcK _ _ _ (by decide +kernel) (by decide +kernel) (by decide +kernel),_,rfl,p,tl,al,rl,T',As,Rs,k,rfl,S1,sk.1,sk.2,?_⟩
    by_cases hk:k < 0∨(T'.length:Int)≤k
    ·rw[if_pos hk]
     have e:zdB T' true (n,ps)=(.term,T'):=by unfold zdB;rw[if_neg (by decide),if_pos (zjV h3 ek hk)]
     rw[hg,e]at h
     exact fun H' s'=>h H' (s1.trans s')
    ·rw[if_neg hk]
     refine⟨rfl,⟨_,rfl⟩,fun j k' hj ej=>?_⟩
     by_cases hji:j < i
     ·exact no j k' hji ej
     ·have:j=i:=by omega
      subst this
      rw[ek]at ej
      cases ej
      exact hk
   ·rintro σ H2 ⟨rfl,⟨z,rfl⟩,no⟩
    have hb:bad T' ps=false:=ziM h3 fun i k e=>no i k (by rw[hl1];exact(List.getElem?_eq_some_iff.mp e).1) e
    refine⟨_,rfl,_,rfl,q,_,rfl,.inl ⟨hqX,fun l hl'=>⟨lS2,fun a ha=>?_⟩⟩⟩
    have sA:ap H2 (upd H2 l (.tup (ps.map V.int))):=za4 hl' _
    have sB:ap (upd H2 l (.tup (ps.map V.int))) (upd (upd H2 l (.tup (ps.map V.int))) a (.tup [.str n,.ref l])):=za4 ha _
    have sAB:=sA.trans sB
    have hq3:SqT K (upd (upd H2 l (.tup (ps.map V.int))) a (.tup [.str n,.ref l])) l (ps.map V.int):=SqT.of (sB _ _ ad)
    refine⟨_,rfl,p,C,dx,_,_,rfl,sAB _ _ ho,T.cl,T.nT,zdt _ _ _,last _ a _ (s1.trans sAB) ad hq3 hb⟩
  ·refine⟨_,rfl,q,rfl,.inr ⟨⟨_,hqX⟩,zfs (K:=K) (a:=q) (xs:=ps.map V.int) (fun i σ H2=>H2=H1∧(∃ z,σ=[some (.ref p),some (.str n),some (.ref q),z])∧∀(j:Nat) k,j < i→ps[j]?=some k→¬(k < 0∨(T'.length:Int)≤k))
    ⟨rfl,⟨_,rfl⟩,fun j k hj=>absurd hj (Nat.not_lt_zero j)⟩ (fun i σ H2 _ ⟨e,_⟩=>by rw[e];exact hqX) ?_ ?_⟩⟩
   ·rintro i x σ H2 hx ⟨rfl,⟨z,rfl⟩,no⟩
    obtain⟨k,ek,rfl⟩:=zia hx
    have sk:=small k (List.mem_of_getElem? ek)
    refine⟨_,rfl,p,dx,_,rfl,ho,zcK _ _ _ (by decide +kernel) (by decide +kernel) (by decide +kernel),_,rfl,p,tl,al,rl,T',As,Rs,k,rfl,S1,sk.1,sk.2,?_⟩
    by_cases hk:k < 0∨(T'.length:Int)≤k
    ·rw[if_pos hk]
     have e:zdB T' true (n,ps)=(.term,T'):=by unfold zdB;rw[if_neg (by decide),if_pos (zjV h3 ek hk)]
     rw[hg,e]at h
     exact fun H' s'=>h H' (s1.trans s')
    ·rw[if_neg hk]
     refine⟨rfl,⟨_,rfl⟩,fun j k' hj ej=>?_⟩
     by_cases hji:j < i
     ·exact no j k' hji ej
     ·have:j=i:=by omega
      subst this
      rw[ek]at ej
      cases ej
      exact hk
   ·rintro σ H2 ⟨rfl,⟨z,rfl⟩,no⟩
    have hb:bad T' ps=false:=ziM h3 fun i k e=>no i k (by rw[hl1];exact(List.getElem?_eq_some_iff.mp e).1) e
    refine⟨_,rfl,_,rfl,q,_,rfl,.inr ⟨hqX,lS2,fun a ha=>?_⟩⟩
    have sAB:ap H2 (upd H2 a (.tup [.str n,.ref q])):=za4 ha _
    have hq3:SqT K (upd H2 a (.tup [.str n,.ref q])) q (ps.map V.int):=(zaj.of_same sAB).sq hqX
    refine⟨_,rfl,p,C,dx,_,_,rfl,sAB _ _ ho,T.cl,T.nT,zdt _ _ _,last _ a _ (s1.trans sAB) ad hq3 hb⟩
end
end K74
namespace K74
open PySem L2
theorem zfr (a b:Int):peq (.int a) (.int b)=true↔a=b:=by
 rw[zlm]
 exact decide_eq_true_iff
theorem zdy {ps:List Int} {i:Nat} {x:V} (h:(ps.map V.int)[i]?=some x):∃ k,ps[i]?=some k∧x=.int k:=by
 rw[List.getElem?_map]at h
 cases e:ps[i]? with
 | none=>rw[e]at h;cases h
 | some k =>
  rw[e]at h
  exact⟨k,rfl,(Option.some.inj h).symm⟩
section
variable {P:Program} {w:World} {K:W.Frag} {mg:Str→Option Value} {base:Heap} {aK C CN CT CP CM:Addr}
theorem scO:zac ["parts","kept","part"] ["parts"] (aj zi4):=⟨rfl,rfl,rfl,by decide +kernel,rfl,by decide +kernel,by decide +kernel⟩
theorem zls {f:Addr} {fd:FuncData} (F:Fun K "once_each" "once_each" zi4 f fd) (T:Txt K mg aK C CN CT CP CM):FnOk P w K mg base CX0 1 f fd ["parts"] (zjz K):=by
 refine F.ok scO (fun vs H Q E h=>?_) (fun cdv A outer s H vs Q E hr h=>?_)
 ·obtain⟨q,ps,rfl,_⟩:=h
  rfl
 obtain⟨q,ps,rfl,hq,len,k⟩:=h
 have hu:=zex hr
 refine⟨_,ae (az (i:=1) scO.nd rfl (Or.inl rfl) (zag ac))
  (ae (zbp PassesOwn.never rfl (zf9 (pv 0)) (zaO (i:=2) scO.nd rfl (Or.inl rfl))
   (ai (zal (av (zcO hu) (pv 2) (pv 1) rfl) (ai (zau (zbH PySem.F.plainAttrs_list PySem.F.slot_list_append PySem.F.type_list_append zaZ (pv 1) (aa (pv 2) ac)))) zad)))
  (ai (ay (za7 zbK rfl T.tuple PyProof.Rows.Boot.tuple (aa (pv 1) ac))))),?_⟩
 refine⟨lS0,fun l hl=>?_⟩
 have s1:ap H (upd H l (.lst [])):=za4 hl _
 rcases hq with hqX | hqX
 ·refine⟨_,rfl,q,rfl,.inl ⟨⟨_,s1.seq hqX⟩,zeK (K:=K) (a:=q) (xs:=ps.map V.int) (fun i σ H2=>ap H H2∧(∃ z,σ=[some (.ref q),some (.ref l),z])∧H2 l=some (.lst ((zaq [] (ps.take i)).map V.int)))
   ⟨s1,⟨_,rfl⟩,ad⟩ (fun i σ H2 _ ⟨e,_⟩=>e.seq hqX) ?_ ?_⟩⟩
  ·rintro i x σ H2 hx ⟨s2,⟨z,rfl⟩,hl2⟩
   obtain⟨k',ek,rfl⟩:=zdy hx
   have et:=zd3 (acc:=[]) ek
   have lenz:((zaq [] (ps.take i)).map V.int).length < sizeLine:=by
    rw[List.length_map]
    have:=zdL (ps.take i) []
    rw[List.length_take,List.length_nil]at this
    exact Nat.lt_of_le_of_lt (show _≤1000 by omega) (by decide)
   refine⟨_,rfl,_,rfl,l,_,(zaq [] (ps.take i)).map Dt.int,.int k',rfl,.inl (SqL.of hl2),HasL.ints _,by simp only[Has],by rw[zck];decide,_,rfl,?_⟩
   have ea:=zbF zfr (zaq [] (ps.take i)) k'
   by_cases hm:k'∈zaq [] (ps.take i)
   ·rw[decide_eq_true hm]at ea
    refine aG (fun c=>absurd (show(!((zaq [] (ps.take i)).map Dt.int).any fun d'=>peq d' (.int k'))=true from c) (by rw[ea];decide)) (fun _=>?_)
    rw[if_pos hm]at et
    exact⟨s2,⟨_,rfl⟩,by rw[et];exact hl2⟩
   ·rw[decide_eq_false hm]at ea
    refine aG (fun _=>?_) (fun c=>absurd (show(!((zaq [] (ps.take i)).map Dt.int).any fun d'=>peq d' (.int k'))=true by rw[ea];rfl) c)
    rw[if_neg hm]at et
    refine⟨_,rfl,.inl ⟨rfl,_,SqL.of hl2⟩,_,rfl,l,_,_,rfl,rfl,hl2,lenz,?_⟩
    refine⟨fun b o e=>by rw[ao (zaa e hl)];exact s2 b o e,⟨_,rfl⟩,?_⟩
    rw[et,List.map_append,ad]
    rfl
  ·rintro σ H2 ⟨s2,⟨z,rfl⟩,hl2⟩
   rw[List.length_map,List.take_length]at hl2
   refine⟨_,rfl,l,_,rfl,.inl ⟨SqL.of hl2,fun l2 hl2'=>k _ l2 (s2.trans (za4 hl2' _)) ad⟩⟩
 ·refine⟨_,rfl,q,rfl,.inr ⟨⟨_,(zaj.of_same s1).sq hqX⟩,zfs (K:=K) (a:=q) (xs:=ps.map V.int) (fun i σ H2=>ap H H2∧(∃ z,σ=[some (.ref q),some (.ref l),z])∧H2 l=some (.lst ((zaq [] (ps.take i)).map V.int)))
   ⟨s1,⟨_,rfl⟩,ad⟩ (fun i σ H2 _ ⟨e,_⟩=>(zaj.of_same e).sq hqX) ?_ ?_⟩⟩
  ·rintro i x σ H2 hx ⟨s2,⟨z,rfl⟩,hl2⟩
   obtain⟨k',ek,rfl⟩:=zdy hx
   have et:=zd3 (acc:=[]) ek
   have lenz:((zaq [] (ps.take i)).map V.int).length < sizeLine:=by
    rw[List.length_map]
    have:=zdL (ps.take i) []
    rw[List.length_take,List.length_nil]at this
    exact Nat.lt_of_le_of_lt (show _≤1000 by omega) (by decide)
   refine⟨_,rfl,_,rfl,l,_,(zaq [] (ps.take i)).map Dt.int,.int k',rfl,.inl (SqL.of hl2),HasL.ints _,by simp only[Has],by rw[zck];decide,_,rfl,?_⟩
   have ea:=zbF zfr (zaq [] (ps.take i)) k'
   by_cases hm:k'∈zaq [] (ps.take i)
   ·rw[decide_eq_true hm]at ea
    refine aG (fun c=>absurd (show(!((zaq [] (ps.take i)).map Dt.int).any fun d'=>peq d' (.int k'))=true from c) (by rw[ea];decide)) (fun _=>?_)
    rw[if_pos hm]at et
    exact⟨s2,⟨_,rfl⟩,by rw[et];exact hl2⟩
   ·rw[decide_eq_false hm]at ea
    refine aG (fun _=>?_) (fun c=>absurd (show(!((zaq [] (ps.take i)).map Dt.int).any fun d'=>peq d' (.int k'))=true by rw[ea];rfl) c)
    rw[if_neg hm]at et
    refine⟨_,rfl,.inl ⟨rfl,_,SqL.of hl2⟩,_,rfl,l,_,_,rfl,rfl,hl2,lenz,?_⟩
    refine⟨fun b o e=>by rw[ao (zaa e hl)];exact s2 b o e,⟨_,rfl⟩,?_⟩
    rw[et,List.map_append,ad]
    rfl
  ·rintro σ H2 ⟨s2,⟨z,rfl⟩,hl2⟩
   rw[List.length_map,List.take_length]at hl2
   refine⟨_,rfl,l,_,rfl,.inl ⟨SqL.of hl2,fun l2 hl2'=>k _ l2 (s2.trans (za4 hl2' _)) ad⟩⟩
theorem scRw:zac ["self","parts","part"] ["self","parts"] (aj sRow):=⟨rfl,rfl,rfl,by decide +kernel,rfl,by decide +kernel,by decide +kernel⟩
theorem ok_row {f fP fO:Addr} {fd dP dO:FuncData} (F:Fun K "add_row" "Problem.add_row" sRow f fd) (T:Txt K mg aK C CN CT CP CM)
  (GP:FnOk P w K mg base (CX1 P w) 1 fP dP ["self","part"] (zg3 K C CP)) (bP:ar K dP ["self","part"] []) (mP:zbo K C "ask_part" fP)
  (GO:FnOk P w K mg base CX0 1 fO dO ["parts"] (zjz K)) (bO:ar K dO ["parts"] []) (kO:W.keepIn K (.ref fO)=true) (mO:mg "once_each"=some (.ref fO)) :
  FnOk P w K mg base (CX1 P w) 2 f fd ["self","parts"] (spRow K C CN CT CP CM):=by
 obtain⟨t20,e20⟩:=T.rparts
 obtain⟨t200,e200⟩:=T.rows
 refine Fun.okX F scRw (fun vs H Q E h=>?_) (fun cdv A outer s H vs Q E hr h=>?_)
 ·obtain⟨p,tl,al,rl,q,T,As,Rs,ps,rfl,_⟩:=h
  rfl
 obtain⟨p,tl,al,rl,q,T',As,Rs,ps,rfl,S,hq,len,small,rlen,h⟩:=h
 obtain⟨t2,h2,q2⟩:∃ t,PSs (zbg (CX1 P w) P w K mg base ["self","parts","part"] "Problem.add_row" (aj sRow) f cdv A outer s H E) ((zaw sRow).drop 1) t ∧
   ∀ z,ps.any (zaI As.length)=false→t { nx:=fun _ H'=>Q .non H',rt:=Q } [some (.ref p),some (.ref q),z] H:=by
  refine⟨_,ae (zal (av zbM (zam zai rfl T.len PySem.boot_len (aa (pv 1) ac)) (zbc (v:=.int 20) rfl e20 ⟨_,rfl⟩) (aD _))
    (ai (zcD (C:=CM) xe1 rfl rfl T.bmany PySem.F.excBase_ValueError T.xmany (aa (zcj (zaS au (zaS (zez (zbc (v:=.int 20) rfl e20 ⟨_,rfl⟩)) (zaS au zdH)))) ac))) zad)
   (ae (zal (av zi6 (zam zai rfl T.len PySem.boot_len (aa (zaU (pv 0) rfl) ac)) (zbc (v:=.int 200) rfl e200 ⟨_,rfl⟩) (aD _))
    (ai (zcD (C:=CM) xe1 rfl rfl T.bmany PySem.F.excBase_ValueError T.xmany (aa (zcj (zaS au (zaS (zez (zbc (v:=.int 200) rfl e200 ⟨_,rfl⟩)) (zaS au zdH)))) ac))) zad)
   (ae (zau (zbH PySem.F.plainAttrs_list PySem.F.slot_list_append PySem.F.type_list_append zaZ (zaU (pv 0) rfl) (aa (aq GO hr rfl mO kO bO .nil aJ (aa (pv 1) ac)) ac)))
   (ai (ay (aw ze0 (zam zai rfl T.len PySem.boot_len (aa (zaU (pv 0) rfl) ac)) ag))))),?_⟩
  intro z no
  obtain⟨⟨dx,ho⟩,_,_,⟨xs,hl,hs⟩,_⟩:=id S
  have hlen:xs.length=Rs.length:=by rw[←hs.length,List.length_map]
  have hpl:(ps.map V.int).length=ps.length:=List.length_map _
  refine⟨_,rfl,q,_,rfl,hq,_,_,rfl,rfl,_,rfl,aG (fun c=>?_) (fun c=>?_)⟩
  ·have c':(20:Int) < (((ps.map V.int).length:Nat):Int):=of_decide_eq_true c
   rw[hpl]at c'
   have e:zdl As.length Rs ps=(.many,Rs):=by unfold zdl;rw[if_neg (by rw[no];decide),if_pos (by omega)]
   rw[e]at h
   exact⟨_,rfl,by decide +kernel,.inr ⟨20,rfl,by decide +kernel,_,rfl,by decide +kernel,_,rfl,by decide +kernel,by decide +kernel,(by show 1≤sizeLine;decide),h H (ap.refl H)⟩⟩
  have c':¬(20:Int) < (((ps.map V.int).length:Nat):Int):=fun z=>c (decide_eq_true z)
  rw[hpl]at c'
  refine⟨_,rfl,p,C,dx,_,_,rfl,ho,T.cl,T.nR,zea _ _ _,rl,xs,rfl,.inl (SqL.of hl),_,_,rfl,rfl,_,rfl,aG (fun c2=>?_) (fun c2=>?_)⟩
  ·have c3:(200:Int)≤((xs.length:Nat):Int):=of_decide_eq_true c2
   rw[hlen]at c3
   have e:zdl As.length Rs ps=(.many,Rs):=by unfold zdl;rw[if_neg (by rw[no];decide),if_neg (by omega),if_pos (by omega)]
   rw[e]at h
   exact⟨_,rfl,by decide +kernel,.inr ⟨200,rfl,by decide +kernel,_,rfl,by decide +kernel,_,rfl,by decide +kernel,by decide +kernel,(by show 1≤sizeLine;decide),h H (ap.refl H)⟩⟩
  have c3:¬(200:Int)≤((xs.length:Nat):Int):=fun z=>c2 (decide_eq_true z)
  rw[hlen]at c3
  have e:zdl As.length Rs ps=(.num Rs.length,Rs++[zaq [] ps]):=by unfold zdl;rw[if_neg (by rw[no];decide),if_neg (by omega),if_neg (by omega)]
  rw[e]at h
  refine⟨_,rfl,p,C,dx,_,_,rfl,ho,T.cl,T.nR,zea _ _ _,.inl ⟨rfl,_,SqL.of hl⟩,_,rfl,q,ps,rfl,hq,len,fun H2 l s2 hl2=>?_⟩
  have S2:=S.same s2
  have hlr:=s2 _ _ hl
  have hd:Has K H2 (dR (zaq [] ps)) (.ref l):=by
   simp only[dR,Has]
   exact⟨l,_,rfl,SqT.of hl2,HasL.ints _⟩
  have kt:zaj H2 (upd H2 rl (.lst (xs++[.ref l]))):=zaj.lst hlr
  have S3:zaJ K C (upd H2 rl (.lst (xs++[.ref l]))) p tl al rl T' As (Rs++[zaq [] ps]):=S2.setR (by
   rw[List.map_append]
   exact((hs.keep (.of_same s2) (zab zbf Rs)).keep kt (zab zbf Rs)).append (HasL.one (hd.keep kt (zbf _))))
  obtain⟨⟨dx3,ho3⟩,_⟩:=id S3
  refine⟨rl,xs,_,rfl,rfl,hlr,Nat.lt_of_le_of_lt (by rw[hlen];exact rlen) (by decide),?_⟩
  refine⟨_,rfl,p,C,dx3,_,_,rfl,ho3,T.cl,T.nR,zea _ _ _,rl,_,rfl,.inl (SqL.of ad),_,_,rfl,rfl,?_⟩
  have en:(((xs++[V.ref l]).length:Nat):Int) - 1=(Rs.length:Nat):=by rw[List.length_append,hlen];simp
  have fin:=h _ S3 (fun b o e _ n2=>by rw[ao n2];exact s2 b o e)
  show Q (.int ((((xs++[V.ref l]).length:Nat):Int) - 1)) _
  rw[en]
  exact fin
 refine⟨_,ae (zbp PassesOwn.leaving rfl (zf9 (pv 1)) (zaO (i:=2) scRw.nd rfl (Or.inl rfl)) (ai (zau (zaG (pv 0) T.cl mP GP hr bP .nil (zav xe1) (aa (pv 2) ac))))) h2,?_⟩
 obtain⟨⟨dx,ho⟩,_⟩:=id S
 have noA:=zcK tl al rl (m:="ask_part") (by decide +kernel) (by decide +kernel) (by decide +kernel)
 have fin:∀ z,ps.any (zaI As.length)=false→SqI K H q ps→t2 { nx:=fun _ H'=>Q .non H',rt:=Q } [some (.ref p),some (.ref q),z] H:=fun z no _=>q2 z no
 rcases hq with hqX | hqX
 ·refine⟨_,rfl,q,rfl,.inl ⟨⟨_,hqX⟩,zeK (K:=K) (a:=q) (xs:=ps.map V.int) (fun i σ H2=>H2=H∧(∃ z,σ=[some (.ref p),some (.ref q),z])∧(ps.take i).any (zaI As.length)=false)
   ⟨rfl,⟨_,rfl⟩,by simp⟩ (fun i σ H2 _ ⟨e,_⟩=>by rw[e];exact hqX) ?_ ?_⟩⟩
  ·rintro i x σ H2 hx ⟨rfl,⟨z,rfl⟩,no⟩
   obtain⟨k',ek,rfl⟩:=zdy hx
   have sk:=small k' (List.mem_of_getElem? ek)
   refine⟨_,rfl,p,dx,_,rfl,ho,noA,_,rfl,p,tl,al,rl,T',As,Rs,k',rfl,S,sk.1,sk.2,?_⟩
   by_cases hk:zaI As.length k'=true
   ·rw[if_pos hk]
    have e:zdl As.length Rs ps=(.part,Rs):=if_pos (List.any_eq_true.mpr ⟨k',List.mem_of_getElem? ek,hk⟩)
    rw[e]at h
    exact h
   ·rw[if_neg hk]
    refine⟨rfl,⟨_,rfl⟩,?_⟩
    rw[List.take_add_one,ek,List.any_append,no]
    simpa using hk
  ·rintro σ H2 ⟨rfl,⟨z,rfl⟩,no⟩
   rw[List.length_map,List.take_length]at no
   exact fin z no (.inl hqX)
 ·refine⟨_,rfl,q,rfl,.inr ⟨⟨_,hqX⟩,zfs (K:=K) (a:=q) (xs:=ps.map V.int) (fun i σ H2=>H2=H∧(∃ z,σ=[some (.ref p),some (.ref q),z])∧(ps.take i).any (zaI As.length)=false)
   ⟨rfl,⟨_,rfl⟩,by simp⟩ (fun i σ H2 _ ⟨e,_⟩=>by rw[e];exact hqX) ?_ ?_⟩⟩
  ·rintro i x σ H2 hx ⟨rfl,⟨z,rfl⟩,no⟩
   obtain⟨k',ek,rfl⟩:=zdy hx
   have sk:=small k' (List.mem_of_getElem? ek)
   refine⟨_,rfl,p,dx,_,rfl,ho,noA,_,rfl,p,tl,al,rl,T',As,Rs,k',rfl,S,sk.1,sk.2,?_⟩
   by_cases hk:zaI As.length k'=true
   ·rw[if_pos hk]
    have e:zdl As.length Rs ps=(.part,Rs):=if_pos (List.any_eq_true.mpr ⟨k',List.mem_of_getElem? ek,hk⟩)
    rw[e]at h
    exact h
   ·rw[if_neg hk]
    refine⟨rfl,⟨_,rfl⟩,?_⟩
    rw[List.take_add_one,ek,List.any_append,no]
    simpa using hk
  ·rintro σ H2 ⟨rfl,⟨z,rfl⟩,no⟩
   rw[List.length_map,List.take_length]at no
   exact fin z no (.inr hqX)
end
end K74
namespace K74
open PySem L2
open F74 (Tr Fm dTr zax dFm)
structure Own (P:Program) (w:World) (K:W.Frag) (mg:Str→Option Value) (base:Heap) (C CN CT CP CM:Addr) (fI fA fQ fS fR:Addr) (dI dA' dQ dS dR':FuncData):Prop where
 I:FnOk P w K mg base CX0 1 fI dI ["self"] (zjA C)
 bI:ar K dI ["self"] []
 mI:Mk K C fI
 gI:mg "Problem"=some (.ref C)
 A:FnOk P w K mg base (CX1 P w) 4 fA dA' ["self","name","parts"] (spAdd K C CN CT CM)
 bA:ar K dA' ["self","name","parts"] []
 mA:zbo K C "add_term" fA
 Q:FnOk P w K mg base (CX1 P w) 4 fQ dQ ["self","name"] (ziD K C CN CT CP CM)
 bQ:ar K dQ ["self","name"] []
 mQ:zbo K C "add_plain" fQ
 S:FnOk P w K mg base (CX1 P w) 4 fS dS ["self","one","other"] (zhs K C CN CT CP CM)
 bS:ar K dS ["self","one","other"] []
 mS:zbo K C "add_same" fS
 R:FnOk P w K mg base (CX1 P w) 4 fR dR' ["self","parts"] (spRow K C CN CT CP CM)
 bR:ar K dR' ["self","parts"] []
 mR:zbo K C "add_row" fR
section
variable {P:Program} {w:World} {K:W.Frag} {mg:Str→Option Value} {base:Heap}
theorem passF {P:Program} {w:World} {X:Cx}:zbC (CX1 P w) X E0:=fun _ _ _ _ _ _ _ h=>by
 obtain⟨_,_,_,_,_,_,_,_,_,_,_,_,_,hE⟩:=h
 exact hE.elim
end
theorem zis (tl al rl:Addr):(zcB tl al rl).lookup ("add_term":Str)=none:=zcK _ _ _ (by decide +kernel) (by decide +kernel) (by decide +kernel)
theorem zfl (tl al rl:Addr):(zcB tl al rl).lookup ("add_plain":Str)=none:=zcK _ _ _ (by decide +kernel) (by decide +kernel) (by decide +kernel)
theorem zfx (tl al rl:Addr):(zcB tl al rl).lookup ("add_same":Str)=none:=zcK _ _ _ (by decide +kernel) (by decide +kernel) (by decide +kernel)
theorem zgo (tl al rl:Addr):(zcB tl al rl).lookup ("add_row":Str)=none:=zcK _ _ _ (by decide +kernel) (by decide +kernel) (by decide +kernel)
inductive Rl (α:Type) where
 | ok (a:α)
 | er (b:Bool)
def Rl.bind {α β:Type}:Rl α→(α→Rl β)→Rl β
 | .ok a,f=>f a
 | .er b,_=>.er b
theorem Rl.okb {α β:Type} (a:α) (f:α→Rl β):(Rl.ok a).bind f=f a:=rfl
theorem Rl.erb {α β:Type} (b:Bool) (f:α→Rl β):(Rl.er b).bind f=.er b:=rfl
theorem Rl.bind_ok {α β:Type} {x:Rl α} {f:α→Rl β} {y:β} (h:x.bind f=.ok y):∃ a,x=.ok a∧f a=.ok y:=by
 cases x with
 | ok a=>exact⟨a,rfl,h⟩
 | er b=>cases h
theorem Rl.bind_assoc {α β γ:Type} (x:Rl α) (f:α→Rl β) (g:β→Rl γ):(x.bind f).bind g=x.bind fun a=>(f a).bind g:=by
 cases x <;> rfl
def zc0 (T:List Tm) (n:Str) (ks:List Int):Rl (List Tm × Nat) :=
 if zaK n=false then .er false else if(n,ks)∈T then .ok (T,T.idxOf (n,ks)) else if 60≤T.length then .er true else .ok (T++[(n,ks)],T.length)
mutual
def zcu (T:List Tm):Tr→Rl (List Tm × Nat)
 | .node n ts=>(zaL T ts).bind fun x=>zc0 x.1 n x.2
def zaL (T:List Tm):List Tr→Rl (List Tm × List Int)
 | []=>.ok (T,[])
 | t :: ts=>(zcu T t).bind fun x=>(zaL x.1 ts).bind fun y=>.ok (y.1,(x.2:Int) :: y.2)
end
mutual
def LTr:Tr→Prop
 | .node n ts=>Low n∧ts.length≤3∧zdC ts
def zdC:List Tr→Prop
 | []=>True
 | t :: ts=>LTr t∧zdC ts
end
theorem zfZ:∀ {ts:List Tr},zdC ts→∀ t∈ts,LTr t
 | t :: ts,h,u,hu=>by
  simp only[zdC]at h
  rcases List.mem_cons.mp hu with rfl | hu
  ·exact h.1
  ·exact zfZ h.2 u hu
theorem zhk (T:List Tm):∀(xs ys:List Tr),zaL T (xs++ys)=(zaL T xs).bind fun x=>(zaL x.1 ys).bind fun y=>.ok (y.1,x.2++y.2):=fun xs=>by
 induction xs generalizing T with
 | nil =>
  intro ys
  simp only[List.nil_append,zaL,Rl.okb]
  cases zaL T ys <;> rfl
 | cons t xs ih =>
  intro ys
  rw[List.cons_append]
  simp only[zaL,ih,Rl.bind_assoc,Rl.okb,List.cons_append]
theorem zeT {T:List Tm} {ts:List Tr} {i:Nat} {t:Tr} (h:ts[i]?=some t) {x:List Tm × List Int} (e:zaL T (ts.take i)=.ok x):zaL T (ts.take (i+1))=(zcu x.1 t).bind fun y=>.ok (y.1,x.2++[(y.2:Int)]):=by
 rw[zbP h,zhk,e]
 simp only[zaL,Rl.bind_assoc,Rl.okb]
theorem zfY {T:List Tm} {ts:List Tr} {i:Nat} {b:Bool} (e:zaL T (ts.take i)=.er b):zaL T ts=.er b:=by
 have:zaL T ts=zaL T (ts.take i++ts.drop i):=by rw[List.take_append_drop]
 rw[this,zhk,e]
 rfl
theorem zlC {T:List Tm} {n:Str} {ks:List Int} {x:List Tm × Nat} (h:zc0 T n ks=.ok x) (t60:T.length≤60):x.1.length≤60∧x.2 < x.1.length∧T.length≤x.1.length:=by
 unfold zc0 at h
 split at h
 ·cases h
 ·split at h
  ·next c=>cases h;exact⟨t60,List.idxOf_lt_length_of_mem c,Nat.le_refl _⟩
  ·split at h
   ·cases h
   ·cases h
    simp only[List.length_append,List.length_singleton]
    omega
mutual
theorem ziZ {T:List Tm} (t60:T.length≤60):∀(t:Tr) {x:List Tm × Nat},zcu T t=.ok x→x.1.length≤60∧x.2 < x.1.length∧T.length≤x.1.length
 | .node n ts,x,h=>by
  simp only[zcu]at h
  obtain⟨y,e1,e2⟩:=Rl.bind_ok h
  obtain⟨l1,_,l3,_⟩:=zbG t60 ts e1
  have:=zlC e2 l1
  omega
theorem zbG {T:List Tm} (t60:T.length≤60):∀(ts:List Tr) {x:List Tm × List Int},zaL T ts=.ok x→x.1.length≤60∧(∀ k∈x.2,0≤k∧k < (x.1.length:Int))∧T.length≤x.1.length∧x.2.length=ts.length
 | [],x,h=>by
  simp only[zaL]at h
  cases h
  exact⟨t60,(fun k hk=>nomatch hk),Nat.le_refl _,rfl⟩
 | t :: ts,x,h=>by
  simp only[zaL]at h
  obtain⟨y,e1,e2⟩:=Rl.bind_ok h
  obtain⟨z,e3,e4⟩:=Rl.bind_ok e2
  cases e4
  obtain⟨a1,a2,a3⟩:=ziZ t60 t e1
  obtain⟨b1,b2,b3,b4⟩:=zbG a1 ts e3
  refine⟨b1,fun k hk=>?_,by dsimp only;omega,by simp only[List.length_cons,b4]⟩
  dsimp only at hk ⊢
  rcases List.mem_cons.mp hk with rfl | hk
  ·omega
  ·exact b2 k hk
end
section
variable {P:Program} {w:World} {K:W.Frag} {mg:Str→Option Value} {base:Heap} {aK C CN CT CP CM:Addr} {f:Addr} {fd:FuncData} {fI fA fQ fS fR:Addr} {dI dA' dQ dS dR':FuncData}
def erV (CN CM:Addr) (b:Bool):Value:=.ref (if b=true then CM else CN)
def zdr (K:W.Frag) (C CN CM:Addr) (n:Nat):Sp:=fun vs H Q E=>∃(p tl al rl:Addr) (T:List Tm) (As:List At) (Rs:List (List Int)) (t:Tr) (v:V),vs=[.ref p,v]∧zaJ K C H p tl al rl T As Rs∧Has K H (dTr t) v∧F74.dp t≤n∧LTr t∧T.length≤60 ∧
 (∀ x,zcu T t=.ok x→∀ H',zaJ K C H' p tl al rl x.1 As Rs→Fr1 H H' tl→Q (.int (x.2:Nat)) H')∧(∀ b,zcu T t=.er b→∀ H',Fr1 H H' tl→E (erV CN CM b) none H')
theorem zfw:zac ["problem","tree","numbers"] ["problem","tree"] (aj zds):=⟨rfl,rfl,rfl,by decide +kernel,rfl,by decide +kernel,by decide +kernel⟩
set_option maxHeartbeats 1000000 in
theorem zgn (F:Fun K "add_tree" "add_tree" zds f fd) (T:Txt K mg aK C CN CT CP CM) (G:Own P w K mg base C CN CT CP CM fI fA fQ fS fR dI dA' dQ dS dR') (b:ar K fd ["problem","tree"] []) (kp:W.keepIn K (.ref f)=true) (m:mg "add_tree"=some (.ref f)) :
  ∀ n,FnOk P w K mg base (CX1 P w) (n+5) f fd ["problem","tree"] (zdr K C CN CM n)
 | 0=>F74.FnOk.no fun _ _ _ _ ⟨_,_,_,_,_,_,_,t,_,_,_,_,h,_⟩=>by
  cases t with
  | node n ts=>simp only[F74.dp]at h;omega
 | n+1=>by
  have IH:=zgn F T G b kp m n
  refine Fun.okX F zfw (fun vs H Q E h=>?_) (fun cdv A outer s H vs Q E hr h=>?_)
  ·obtain⟨p,tl,al,rl,T',As,Rs,t,v,rfl,_⟩:=h
   rfl
  obtain⟨p,tl,al,rl,T',As,Rs,t,v,rfl,S,hv,hd,gd,t60,q1,q2⟩:=h
  have hr4:aH 4 _:=hr.mono (by omega)
  cases t with
  | node nm ts =>
  obtain⟨pt,pq,xs,rfl,hpt,hpq,hxs⟩:=F74.tr_at hv
  simp only[LTr]at gd
  obtain⟨g2,g3,g4⟩:=gd
  have gts:=zfZ g4
  have dts:∀ u∈ts,F74.dp u≤n:=by
   simp only[F74.dp]at hd
   exact F74.dps_le (by omega)
  refine⟨_,(ae (zfd (i:=2) (N':=["part","problem"]) (ix:=[0]) xe1 zfw.nd rfl (Or.inl rfl) rfl rfl (by decide +kernel) (by decide +kernel) rfl (fun ok=>zcx (sc:=aj zds) ok rfl (by decide +kernel) (by decide +kernel)) (by decide +kernel) rfl rfl (fun j i h=>match j,h with | 0,h=>by cases h;exact⟨_,rfl,rfl,.inl rfl,.inl rfl⟩ | n+1,h=>by simp at h) (zf8 (aA zaf (pv 1) ag (fun _ _=>rfl))) (fun _ _ _ _ _ hp=>(aq IH hr rfl m kp b .nil hp (aa (pv 1) (aa (pv 0) ac)))))
   (ai (ay (zaG (pv 0) T.cl G.mA G.A hr4 G.bA .nil (zav xe1) (aa (aA zaf (pv 1) ag (fun _ _=>rfl)) (aa (pv 2) ac)))))),?_⟩
  have at0:atI [V.str nm,V.ref pq] 0=some (.str nm):=zah (j:=0) rfl
  have at1:atI [V.str nm,V.ref pq] 1=some (.ref pq):=zah (j:=1) rfl
  have xl:xs.length=ts.length:=by rw[←hxs.length,F74.dTrs_length]
  obtain⟨⟨dx,ho⟩,⟨tsv,ht,hT⟩,⟨asv,ha,hA⟩,⟨rsv,hrv,hR⟩,na,nr,nx⟩:=id S
  have ktl:∀ {H'},Fr1 H H' tl→zaj H H':=fun f=>f.keepT ht
  refine⟨_,rfl,pt,_,_,_,rfl,rfl,hpt,at1,pq,rfl,⟨_,hpq⟩,fun D hD=>?_⟩
  have nDt:D≠tl:=Ne.symm (zaa ht hD)
  have nDa:D≠al:=Ne.symm (zaa ha hD)
  have nDr:D≠rl:=Ne.symm (zaa hrv hD)
  refine zdd zf4 (fun i us H'=>∃ x,zaL T' (ts.take i)=.ok x∧Fr1 H H' tl∧zaJ K C H' p tl al rl x.1 As Rs∧us=x.2.map V.int) (fun i us H' ⟨_,_,f1,_⟩=>(ktl f1).sq hpq) ⟨_,rfl,Fr1.of_same (ah hD _),S.same (ah hD _),rfl⟩ ?_ ?_
  ·rintro i us H8 x H4 hi hly hDs ⟨y,ey,f4,S4,rfl⟩ ⟨rfl,hx⟩
   obtain⟨u,hu,hxu⟩:=F74.trs_get (hxs.keep (ktl f4) (F74.nols_dTrs _)) (hx _ ((ktl f4).sq hpq))
   have um:=List.mem_of_getElem? hu
   have l4:=(zbG t60 _ ey).1
   have sn:=zeT hu ey
   refine⟨_,rfl,_,rfl,p,tl,al,rl,_,As,Rs,u,x,rfl,S4,hxu,dts u um,gts u um,l4,fun z ez H5 S5 f5=>?_,fun b eb H5 f5=>q2 b ?_ H5 (f4.trans f5)⟩
   ·have hD5:=f5 _ _ hDs nDt
    have S6:=fun o'=>S5.keep (z:=D) (H':=upd H5 D o') (fun c o hc hn=>by rw[ao hn];exact hc) hD5 nDt nDa nDr
    rw[ez]at sn
    refine zb5 (sz _ (by omega)) hi hly hD5 ⟨_,sn,fun c o hc hn=>?_,S6 _,by rw[List.map_append];rfl⟩
    rw[ao (fun e=>by rw[e,hD]at hc;cases hc)]
    exact f5 _ _ (f4 _ _ hc hn) hn
   ·rw[eb]at sn
    simp only[zcu,zfY sn,Rl.erb]
  ·rintro us H4 hDs ⟨y,ey,f4,S4,rfl⟩
   rw[xl,List.take_length]at ey
   obtain⟨⟨dx4,ho4⟩,_⟩:=id S4
   obtain⟨l4,small,_,al3⟩:=zbG t60 _ ey
   refine⟨_,rfl,p,dx4,_,rfl,ho4,zis _ _ _,_,rfl,pt,_,_,_,rfl,rfl,(ktl f4).sq hpt,at0,_,rfl,p,tl,al,rl,D,_,As,Rs,nm,y.2,rfl,⟨S4,.inl (SqL.of hDs),g2,by omega,fun k hk=>by have:=small k hk;omega,by omega⟩,?_⟩
   have nb:bad y.1 y.2=false:=by
    unfold bad
    rw[decide_eq_false (by omega),Bool.false_or,List.any_eq_false]
    intro k hk
    have:=small k hk
    simp
    omega
   have eA:zcu T' (.node nm ts)=zc0 y.1 nm y.2:=by simp only[zcu,ey,Rl.okb]
   rw[eA]at q1 q2
   unfold zc0 at q1 q2
   unfold zdB
   cases g1:zaK nm with
   | false =>
    rw[if_pos rfl]
    rw[if_pos g1]at q2
    exact fun H5 s5=>q2 _ rfl H5 (f4.trans (Fr1.of_same s5))
   | true =>
    rw[if_neg (by decide),nb,if_neg (by decide)]
    rw[if_neg (by rw[g1];decide)]at q1 q2
    by_cases c:(nm,y.2)∈y.1
    ·rw[if_pos c]
     rw[if_pos c]at q1
     exact fun H5 S5 f5=>q1 _ rfl H5 S5 (f4.trans f5)
    ·rw[if_neg c]
     rw[if_neg c]at q1 q2
     by_cases c6:60≤y.1.length
     ·rw[if_pos c6]
      rw[if_pos c6]at q2
      exact fun H5 s5=>q2 _ rfl H5 (f4.trans (Fr1.of_same s5))
     ·rw[if_neg c6]
      rw[if_neg c6]at q1
      exact fun H5 S5 f5=>q1 _ rfl H5 S5 (f4.trans f5)
end
end K74
namespace K74
open PySem L2
open F74 (Tr Fm dTr zax dFm FOk fdp zaF)
def plF:Fm→List Str
 | .plain z=>[z]
 | .not f=>plF f
 | .bin _ f g=>plF f++plF g
 | _=>[]
def aL (fs:List Fm):List Str:=fs.flatMap plF
def ownF:Fm→List Str
 | .plain z=>[z]
 | _=>[]
theorem zjF (f:Fm):plF f=ownF f++aL (zaF f):=by
 cases f <;> simp [plF,aL,zaF,ownF]
theorem zcM {fs:List Fm} {i:Nat} {f:Fm} (h:fs[i]?=some f):aL (fs.take (i+1))=aL (fs.take i)++plF f:=by
 rw[zbP h]
 simp [aL]
theorem zfo (fs:List Fm) (i:Nat):(aL (fs.take i)).length≤(aL fs).length:=by
 have e:aL fs=aL (fs.take i)++aL (fs.drop i):=by
  show fs.flatMap plF=_
  conv=>lhs;rw[←List.take_append_drop i fs]
  exact List.flatMap_append
 rw[e,List.length_append]
 omega
def DN (kvs:List (Key × V)) (S:List Str):Prop:=(∀ k,(za8 kvs k).isSome=true↔∃ z∈S,k=.inr z)∧kvs.length≤S.length
theorem DN.nil:DN [] []:=⟨fun k=>⟨fun h=>(Bool.false_ne_true h).elim,fun⟨z,h,_⟩=>nomatch h⟩,Nat.le_refl _⟩
theorem DN.put {kvs:List (Key × V)} {S:List Str} {z:Str} {v:V} (h:DN kvs S):DN (putK kvs (.inr z) v) (S++[z]):=by
 refine⟨fun k=>?_,?_⟩
 ·rw[zhK]
  by_cases c:k=.inr z
  ·rw[if_pos c]
   exact⟨fun _=>⟨z,by simp,c⟩,fun _=>rfl⟩
  ·rw[if_neg c,h.1 k]
   refine⟨fun⟨y,hy,e⟩=>⟨y,by simp [hy],e⟩,fun⟨y,hy,e⟩=>?_⟩
   rcases List.mem_append.mp hy with hy | hy
   ·exact⟨y,hy,e⟩
   ·rw[List.mem_singleton.mp hy]at e
    exact absurd e c
 ·have:=zdh kvs (.inr z) v
  have:=h.2
  rw[List.length_append,List.length_singleton]
  omega
theorem ziz {k:Key}:∀ {kvs:List (Key × V)},(za8 kvs k).isSome=true↔∃ e∈kvs,e.1=k:=fun {kvs}=>by
 rw[←zdJ]
 simp [List.any_eq_true]
theorem zjZ {k:Key}:∀(more kvs:List (Key × V)),(za8 (zcw kvs more) k).isSome=true↔(za8 kvs k).isSome=true∨(za8 more k).isSome=true:=fun more=>by
 induction more with
 | nil=>intro kvs;exact⟨.inl,fun h=>h.elim id fun z=>(Bool.false_ne_true z).elim⟩
 | cons e more ih =>
  intro kvs
  show(za8 (zcw (putK kvs e.1 e.2) more) k).isSome=true↔_
  rw[ih,zhK,ziz (kvs:=e :: more)]
  by_cases c:k=e.1
  ·rw[if_pos c]
   exact⟨fun _=>.inr ⟨e,by simp,c.symm⟩,fun _=>.inl rfl⟩
  ·rw[if_neg c,ziz (kvs:=more)]
   constructor
   ·rintro (h | ⟨x,hx,e⟩)
    ·exact .inl h
    ·exact .inr ⟨x,List.mem_cons_of_mem _ hx,e⟩
   ·rintro (h | ⟨x,hx,e'⟩)
    ·exact .inl h
    ·rcases List.mem_cons.mp hx with rfl | hx
     ·exact absurd e'.symm c
     ·exact .inr ⟨x,hx,e'⟩
theorem DN.merge {kvs more:List (Key × V)} {S S':List Str} (h:DN kvs S) (h':DN more S'):DN (zcw kvs more) (S++S'):=by
 refine⟨fun k=>?_,?_⟩
 ·rw[zjZ,h.1,h'.1]
  constructor
  ·rintro (⟨z,a,b⟩ | ⟨z,a,b⟩)
   ·exact⟨z,by simp [a],b⟩
   ·exact⟨z,by simp [a],b⟩
  ·rintro ⟨z,a,b⟩
   rcases List.mem_append.mp a with a | a
   ·exact .inl ⟨z,a,b⟩
   ·exact .inr ⟨z,a,b⟩
 ·have:=zdn more kvs
  have:=h.2
  have:=h'.2
  rw[List.length_append]
  omega
theorem DN.has {kvs:List (Key × V)} {S:List Str} (h:DN kvs S) (z:Str):(za8 kvs (.inr z)).isSome=decide (z∈S):=by
 by_cases c:z∈S
 ·rw[decide_eq_true c]
  exact(h.1 _).mpr ⟨z,c,rfl⟩
 ·rw[decide_eq_false c]
  cases e:(za8 kvs (.inr z)).isSome with
  | false=>rfl
  | true =>
   obtain⟨y,hy,e'⟩:=(h.1 _).mp e
   cases e'
   exact absurd hy c
theorem zaj.but {H:Hp} {d:Addr} {u o:HO} (h:H d=some u) (n:∀ xs,u≠.tup xs) (n2:∀ q xs,u≠.frz q (.tup xs)):zaj H (upd H d o):=fun b zs q=>by
 rcases q with q | ⟨o,q⟩
 ·exact .inl (by rw[ao (fun e=>by rw[e,h]at q;exact n _ (Option.some.inj q))];exact q)
 ·exact .inr ⟨o,by rw[ao (fun e=>by rw[e,h]at q;exact n2 _ _ (Option.some.inj q))];exact q⟩
structure TxN (mg:Str→Option Value):Prop where
 divmod:mg "divmod"=none
 enumerate:mg "enumerate"=none
section
variable {P:Program} {w:World} {K:W.Frag} {mg:Str→Option Value} {base:Heap} {aK C CN CT CP CM:Addr} {f fF:Addr} {fd dF:FuncData}
def sp_pn (K:W.Frag) (n:Nat):Sp:=fun vs H Q _=>∃(l:Addr) (xs:List V) (fs:List Fm),vs=[.ref l]∧SqL K H l xs∧HasL K H (fs.map dFm) xs∧0 < n∧(∀ g∈fs,FOk g∧fdp g < n)∧(aL fs).length≤100000 ∧
 ∀(H':Hp) (d:Addr) (kvs:List (Key × V)),ap H H'→H d=none→H' d=some (.dK kvs)→DN kvs (aL fs)→Q (.ref d) H'
theorem zdb:zac ["formulas","found","formula"] ["formulas"] (aj zdm):=⟨rfl,rfl,rfl,by decide +kernel,rfl,by decide +kernel,by decide +kernel⟩
theorem zhH {g u:Fm} (h:u∈zaF g):fdp u < fdp g:=by
 cases g with
 | not f=>simp only[zaF,List.mem_singleton]at h;subst h;simp only[fdp];omega
 | bin k f g =>
  simp only[zaF,List.mem_cons,List.not_mem_nil,or_false]at h
  simp only[fdp]
  rcases h with rfl | rfl <;> omega
 | _=>exact absurd h (by simp [zaF])
theorem zhG {g u:Fm} (h:u∈zaF g) (ok:FOk g):FOk u:=by
 cases g with
 | not f=>simp only[zaF,List.mem_singleton]at h;subst h;exact ok
 | bin k f g =>
  simp only[zaF,List.mem_cons,List.not_mem_nil,or_false]at h
  rcases h with rfl | rfl
  ·exact ok.2.1
  ·exact ok.2.2
 | _=>exact absurd h (by simp [zaF])
theorem szB {n:Nat} (h:n≤1000000):n≤sizeLine:=F74.szM (by omega)
theorem ok_pn (F:Fun K "plain_names" "plain_names" zdm f fd) (b:ar K fd ["formulas"] []) (kp:W.keepIn K (.ref f)=true) (m:mg "plain_names"=some (.ref f)) (BF:FB P w K mg base CX0 1 "inner_formulas" fF dF ["formula"] (F74.sp_ifms K)) :
  ∀ n,FnOk P w K mg base CX0 (n+1) f fd ["formulas"] (sp_pn K n)
 | 0=>F74.FnOk.no fun _ _ _ _ ⟨_,_,_,_,_,_,h,_⟩=>absurd h (by decide)
 | n+1=>by
  have IH:=ok_pn F b kp m BF n
  refine F.ok zdb (fun vs H Q E h=>?_) (fun cdv A outer s H vs Q E hr h=>?_)
  ·obtain⟨l,xs,fs,rfl,_⟩:=h
   rfl
  obtain⟨l,xs,fs,rfl,hl,hx,_,ok,big,q⟩:=h
  have hu:=hu_of hr
  have hr1:aH 1 _:=hr.mono (by omega)
  refine⟨_,(ae (az (i:=1) zdb.nd rfl (Or.inl rfl) zkJ)
   (ae (zbp PassesOwn.never rfl (zbJ (pv 0)) (zaO (i:=2) zdb.nd rfl (Or.inl rfl))
    (ae (zal (av zaE (aA zaf (pv 2) ag (fun _ _=>rfl)) au (aD _))
      (ai (zlj hu (pv 1) (aA zaf (pv 2) ag (fun _ _=>rfl)) zhq rfl))
      zad)
     (ai (zau (zbH PySem.F.plainAttrs_dict PySem.F.slot_dict_update PySem.F.type_dict_update zkk (pv 1) (aa (aq IH hr rfl m kp b .nil aJ (aa (aq BF.ok hr1 rfl BF.m BF.kp BF.b .nil aJ (aa (pv 2) ac)) ac)) ac))))))
   (ai (ay (pv 1))))),?_⟩
  refine fun d hd=>?_
  have xl:xs.length=fs.length:=by rw[←hx.length,List.length_map]
  have keep:∀ {H':Hp},ap H H'→SqL K H' l xs:=fun s'=>s'.seq hl
  refine⟨_,rfl,l,rfl,⟨_,keep (ah hd _)⟩,zcW zbI (fun i σ H'=>∃(v:Option V) (kvs:List (Key × V)),σ=[some (.ref l),some (.ref d),v]∧ap H H'∧H' d=some (.dK kvs)∧DN kvs (aL (fs.take i))) (fun i σ H' ⟨_,_,_,s',_⟩=>keep s')
   ⟨none,[],rfl,ah hd _,ad,DN.nil⟩ ?_ ?_⟩
  ·rintro i σ H2 x H3 hi ⟨v,kvs,rfl,s2,d2,dn⟩ ⟨rfl,hy⟩
   obtain⟨g,hg,hxg⟩:=F74.fms_get (hx.keep s2.kt (F74.nols_fms _)) (hy _ (keep s2))
   have gm:=List.mem_of_getElem? hg
   obtain⟨okg,ltg⟩:=ok g gm
   have pos:=F74.fdp_pos g
   obtain⟨p,ys,rfl,hp,hys⟩:=F74.fm_at hxg
   have a0:atI (V.str (F74.hdF g) :: ys) 0=some (.str (F74.hdF g)):=zah (j:=0) rfl
   have pl:=zfo fs (i+1)
   rw[zcM hg,zjF,List.length_append,List.length_append]at pl
   have go:∀ {H4 H5 H6:Hp} {kv4 kv6:List (Key × V)},ap H H4→ap H4 H5→ap H5 H6→DN kv4 (aL (fs.take i)++ownF g)→DN kv6 (aL (zaF g))→∃(v:Option V) (kvs:List (Key × V)),[some (V.ref l),some (.ref d),some (.ref p)]=[some (.ref l),some (.ref d),v]∧ap H (upd H6 d (.dK (zcw kv4 kv6)))∧upd H6 d (.dK (zcw kv4 kv6)) d=some (.dK kvs)∧DN kvs (aL (fs.take (i+1))):=fun {H4 H5 H6 kv4 kv6} s4 s5 s6 d4 d6 =>
    ⟨_,_,rfl,((s4.trans s5).trans s6).upd hd,ad,by rw[zcM hg,zjF,←List.append_assoc];exact d4.merge d6⟩
   refine⟨_,rfl,p,_,_,_,rfl,rfl,hp,a0,rfl,_,rfl,aG (fun c=>?_) (fun c=>?_)⟩
   ·have e:F74.hdF g="plain":=by
     have:=of_decide_eq_true c
     injection this
    obtain⟨z,rfl⟩:∃ z,g=.plain z:=by
     cases g with
     | plain z=>exact⟨z,rfl⟩
     | bare z =>
      simp only[F74.hdF]at e
      rcases okg with h | h <;> (rw[h]at e;exact absurd e (by decide +kernel))
     | bin k f g =>
      simp only[F74.hdF]at e
      rcases okg.1 with h | h | h | h <;> (rw[h]at e;exact absurd e (by decide +kernel))
     | same a b=>exact absurd e (show ¬("same":Str)="plain" by decide +kernel)
     | unlike ts=>exact absurd e (show ¬("unlike":Str)="plain" by decide +kernel)
     | not f=>exact absurd e (show ¬("not":Str)="plain" by decide +kernel)
    simp only[F74.tlF,HasL,Has]at hys
    obtain⟨_,_,rfl,rfl,rfl⟩:=hys
    have a1:atI [V.str (F74.hdF (.plain z)),V.str z] 1=some (.str z):=zah (j:=1) rfl
    have lk:kvs.length < sizeLine:=Nat.lt_of_le_of_lt dn.2 (Nat.lt_of_lt_of_le (show _ < 1000000 by omega) (szB (Nat.le_refl _)))
    refine⟨_,rfl,_,rfl,p,_,_,_,rfl,rfl,hp,a1,d,_,rfl,zfG.k (k:=.inr z) d2 lk,?_⟩
    have s4:ap H (upd H3 d (.dK (putK kvs (.inr z) (.bl true)))):=s2.upd hd
    have n4:=ad (H:=H3) (a:=d) (o:=.dK (putK kvs (.inr z) (.bl true)))
    have k4:zaj H3 (upd H3 d (.dK (putK kvs (.inr z) (.bl true)))):=zaj.but d2 (fun _ e=>by cases e) (fun _ _ e=>by cases e)
    have hp4:=k4.sq hp
    have hg4:=hxg.keep k4 (F74.nol_dFm _)
    have dn4:=dn.put (z:=z) (v:=.bl true)
    generalize upd H3 d (.dK (putK kvs (.inr z) (.bl true)))=H4 at s4 n4 hp4 hg4
    refine⟨_,rfl,.inr (.inr (.inl ⟨rfl,.inl ⟨_,n4⟩⟩)),_,rfl,.plain z,.ref p,rfl,hg4,okg,fun H5 l5 xs5 s5 n5 h5 hx5=>⟨l5,xs5,_,rfl,SqL.of h5,hx5,by omega,fun u hu'=>⟨zhG hu' okg,by have:=zhH hu';omega⟩,by omega,fun H6 d6 kv6 s6 n6 h6 dn6=>?_⟩⟩
    have hd6:=s6 _ _ (s5 _ _ n4)
    exact⟨d,d6,_,_,rfl,rfl,(fun e=>by rw[←e]at n6;rw[s5 _ _ n4]at n6;cases n6),hd6,h6,szB (by have e1:=dn4.2;rw[List.length_append]at e1;have e2:=dn6.2;have e3:(ownF (.plain z)).length=1:=rfl;have e4:[z].length=1:=rfl;omega),go s4 s5 s6 dn4 dn6⟩
   ·have e:ownF g=[]:=by
     cases g with
     | plain z=>exact absurd (decide_eq_true (rfl:V.str (F74.hdF (.plain z))=V.str "plain")) c
     | _=>rfl
    have dn4:DN kvs (aL (fs.take i)++ownF g):=by rw[e,List.append_nil];exact dn
    refine⟨_,rfl,.inr (.inr (.inl ⟨rfl,.inl ⟨_,d2⟩⟩)),_,rfl,g,.ref p,rfl,hxg,okg,fun H5 l5 xs5 s5 n5 h5 hx5=>⟨l5,xs5,_,rfl,SqL.of h5,hx5,by omega,fun u hu'=>⟨zhG hu' okg,by have:=zhH hu';omega⟩,by omega,fun H6 d6 kv6 s6 n6 h6 dn6=>?_⟩⟩
    have hd6:=s6 _ _ (s5 _ _ d2)
    exact⟨d,d6,_,_,rfl,rfl,(fun e=>by rw[←e]at n6;rw[s5 _ _ d2]at n6;cases n6),hd6,h6,szB (by have:=dn.2;have:=dn6.2;omega),go s2 s5 s6 dn4 dn6⟩
  ·rintro σ H2 ⟨v,kvs,rfl,s2,d2,dn⟩
   rw[xl,List.take_length]at dn
   exact⟨_,rfl,q _ d _ s2 hd d2 dn⟩
def ltr (i:Nat):Str:=⟨#[(abc.cps.toList[i]?).getD 0]⟩
def aI (k:Nat):Str:=if k < 26 then "z"++ltr k else "z"++(ltr (k / 26 - 1)++ltr (k % 26))
theorem zgc {i:Nat} (h:i < 26):atI abc.cps.toList (i:Int)=some ((abc.cps.toList[i]?).getD 0):=by
 have e:abc.cps.toList[i]?=some (abc.cps.toList[i]'(by rw[zlP];exact h)):=List.getElem?_eq_getElem _
 rw[e]
 exact zah e
theorem zir (z:Str):z++("":Str)=z:=by
 show(⟨z.cps++#[]⟩:Str)=z
 rw[Array.append_empty]
def zgi:Sp:=fun vs H Q _=>∃ k:Nat,vs=[.int k]∧k < 702∧∀ H',ap H H'→Q (.str (aI k)) H'
theorem zb6:zac ["number","letters","left","pair"] ["number"] (aj zeO):=⟨rfl,rfl,rfl,by decide +kernel,rfl,by decide +kernel,by decide +kernel⟩
theorem zjh (F:Fun K "new_name" "new_name" zeO f fd) (T:Txt K mg aK C CN CT CP CM) (TN:TxN mg):FnOk P w K mg base CX0 1 f fd ["number"] zgi:=by
 refine F.ok zb6 (fun vs H Q E h=>?_) (fun cdv A outer s H vs Q E hr h=>?_)
 ·obtain⟨k,rfl,_⟩:=h
  rfl
 obtain⟨k,rfl,hk,q⟩:=h
 obtain⟨t1,e1⟩:=T.small
 refine⟨_,(ae (az (i:=1) zb6.nd rfl (Or.inl rfl) au)
  (ae (az (i:=2) zb6.nd rfl (Or.inl rfl) (aw za9 (pv 0) ag))
  (ae (zfR PassesOwn.never (av zbM (pv 2) ag (aD _))
   (ae (az (i:=3) zb6.nd rfl (Or.inl rfl) (zam ziy rfl TN.divmod PyProof.Rows.Boot.divmod (aa (aw ze0 (pv 2) ag) (aa (zam zdW rfl T.len PySem.boot_len (aa (zbc (v:=.str abc) rfl e1 ⟨_,rfl⟩) ac)) ac))))
    (ae (az (i:=1) zb6.nd rfl (Or.inl rfl) (aw zbQ (aA ze4 (zbc (v:=.str abc) rfl e1 ⟨_,rfl⟩) (aA zaf (pv 3) ag (fun _ _=>rfl)) (fun _ _=>rfl)) (pv 1)))
    (ai (az (i:=2) zb6.nd rfl (Or.inl rfl) (aA zaf (pv 3) ag (fun _ _=>rfl)))))))
  (ai (ay (aw zbQ au (pv 1))))))),?_⟩
 refine⟨_,rfl,_,_,rfl,rfl,fun m σ H'=>ap H H'∧∃(y:Str) (v:Option V),σ=[some (.int k),some (.str y),some (.int m),v]∧((y=""∧m=k+1)∨(y=ltr (k % 26)∧m=k / 26)∨(y=ltr (k / 26 - 1)++ltr (k % 26)∧m=0∧26≤k)),⟨k+1,ap.refl _,"",none,rfl,.inl ⟨rfl,rfl⟩⟩,?_⟩
 rintro m σ H2 ⟨s2,y,v,rfl,st⟩
 refine⟨_,rfl,_,_,rfl,rfl,_,rfl,aG (fun c=>?_) (fun c=>?_)⟩
 ·have m1:0 < m:=by
   have:(0:Int) < (m:Int):=of_decide_eq_true c
   omega
  refine⟨fun σ' H'=>∃ m',m' < m∧ap H H'∧∃(y:Str) (v:Option V),σ'=[some (.int k),some (.str y),some (.int m'),v]∧((y=""∧m'=k+1)∨(y=ltr (k % 26)∧m'=k / 26)∨(y=ltr (k / 26 - 1)++ltr (k % 26)∧m'=0∧26≤k)),fun _ _ h=>h,?_⟩
  have e26:((abc.length:Nat):Int)=26:=by decide +kernel
  refine⟨_,rfl,_,_,rfl,rfl,abc,rfl,sz _ (by decide +kernel),_,_,rfl,by rw[e26];exact⟨by decide,by decide⟩,fun p hp=>?_⟩
  rw[e26]
  have s3:ap H2 (upd H2 p (.tup [.int (((m:Int) - 1) / 26),.int (((m:Int) - 1) % 26)])):=ah hp _
  have n3:=ad (H:=H2) (a:=p) (o:=.tup [.int (((m:Int) - 1) / 26),.int (((m:Int) - 1) % 26)])
  generalize upd H2 p (.tup [.int (((m:Int) - 1) / 26),.int (((m:Int) - 1) % 26)])=H3 at s3 n3
  have ed:((m:Int) - 1) / 26=((m - 1) / 26:Nat):=by omega
  have em:((m:Int) - 1) % 26=((m - 1) % 26:Nat):=by omega
  rw[ed,em]at n3
  have a0:atI [V.int ((m - 1) / 26:Nat),V.int ((m - 1) % 26:Nat)] 0=some (.int ((m - 1) / 26:Nat)):=zah (j:=0) rfl
  have a1:atI [V.int ((m - 1) / 26:Nat),V.int ((m - 1) % 26:Nat)] 1=some (.int ((m - 1) % 26:Nat)):=zah (j:=1) rfl
  have l26:=zgc (i:=(m - 1) % 26) (by omega)
  have yl:y.length≤2:=by
   rcases st with ⟨rfl,_⟩ | ⟨rfl,_⟩ | ⟨rfl,_⟩
   ·decide +kernel
   ·exact Nat.le_succ _
   ·rw[zaH];exact Nat.le_refl _
  refine⟨_,rfl,p,_,_,_,rfl,rfl,SqT.of n3,a1,abc,_,_,rfl,rfl,sz _ (by decide +kernel),l26,_,rfl,_,_,rfl,rfl,sz _ (by rw[zer];omega),_,rfl,p,_,_,_,rfl,rfl,SqT.of n3,a0,(m - 1) / 26,by omega,s2.trans s3,_,_,rfl,?_⟩
  rcases st with ⟨rfl,rfl⟩ | ⟨rfl,rfl⟩ | ⟨rfl,rfl,_⟩
  ·exact .inr (.inl ⟨zir _,by omega⟩)
  ·refine .inr (.inr ⟨?_,by omega,by omega⟩)
   have:(k / 26 - 1) % 26=k / 26 - 1:=by omega
   rw[this]
   rfl
  ·omega
 ·have m0:m=0:=by
   have:¬(0:Int) < (m:Int):=of_decide_eq_false (Bool.eq_false_iff.mpr c)
   omega
  have ey:("z":Str)++y=aI k:=by
   unfold aI
   rcases st with ⟨_,h⟩ | ⟨rfl,h⟩ | ⟨rfl,_,h⟩
   ·omega
   ·rw[if_pos (by omega),Nat.mod_eq_of_lt (by omega)]
   ·rw[if_neg (by omega)]
  have yl:y.length≤2:=by
   rcases st with ⟨rfl,_⟩ | ⟨rfl,_⟩ | ⟨rfl,_⟩
   ·decide +kernel
   ·exact Nat.le_succ _
   ·rw[zaH];exact Nat.le_refl _
  refine⟨_,rfl,_,_,rfl,rfl,sz _ (by have:("z":Str).length=1:=(by decide +kernel);omega),?_⟩
  rw[ey]
  exact q _ s2
end
end K74
namespace K74
open PySem L2
open F74 (Tr Fm dTr zax dFm FOk fdp zaF)
def prF (k:Str) (n a b:Int):List (List Int) :=
 if k="and" then [[-n,a],[-n,b],[n,-a,-b]] else if k="or" then [[-n,a,b],[n,-a],[n,-b]] else if k="then" then [[-n,-a,b],[n,a],[n,-b]] else [[-n,-a,b],[-n,a,-b],[n,a,b],[n,-a,-b]]
def zcr (H H':Hp) (a:Addr) (rs:List (List Int)):Prop:=ap H H'∧H a=none∧∃ ps:List (Addr × List Int),H' a=some (.lst (ps.map fun x=>V.ref x.1))∧ps.map (·.2)=rs∧∀ x∈ps,H x.1=none∧H' x.1=some (.tup (x.2.map V.int))
theorem new3 {H:Hp} {p1 p2 p3 l:Addr} {r1 r2 r3:List Int} {u1 u2 u3:List V} (e1:u1=r1.map V.int) (e2:u2=r2.map V.int) (e3:u3=r3.map V.int) (h1:H p1=none) (h2:upd H p1 (.tup u1) p2=none) (h3:upd (upd H p1 (.tup u1)) p2 (.tup u2) p3=none) (hl:upd (upd (upd H p1 (.tup u1)) p2 (.tup u2)) p3 (.tup u3) l=none) :
  zcr H (upd (upd (upd (upd H p1 (.tup u1)) p2 (.tup u2)) p3 (.tup u3)) l (.lst [.ref p1,.ref p2,.ref p3])) l [r1,r2,r3]:=by
 subst e1 e2 e3
 have s1:=ah h1 (.tup (r1.map V.int))
 have s2:=ah h2 (.tup (r2.map V.int))
 have s3:=ah h3 (.tup (r3.map V.int))
 have s4:=ah hl (.lst [.ref p1,.ref p2,.ref p3])
 have n1:=ad (H:=H) (a:=p1) (o:=.tup (r1.map V.int))
 generalize upd H p1 (.tup (r1.map V.int))=H1 at *
 have n2:=ad (H:=H1) (a:=p2) (o:=.tup (r2.map V.int))
 generalize upd H1 p2 (.tup (r2.map V.int))=H2 at *
 have n3:=ad (H:=H2) (a:=p3) (o:=.tup (r3.map V.int))
 generalize upd H2 p3 (.tup (r3.map V.int))=H3 at *
 have n4:=ad (H:=H3) (a:=l) (o:=.lst [.ref p1,.ref p2,.ref p3])
 refine⟨((s1.trans s2).trans s3).trans s4,s1.free (s2.free (s3.free hl)),[(p1,r1),(p2,r2),(p3,r3)],n4,rfl,fun x hx=>?_⟩
 simp only[List.mem_cons,List.not_mem_nil,or_false]at hx
 rcases hx with rfl | rfl | rfl
 ·exact⟨h1,s4 _ _ (s3 _ _ (s2 _ _ n1))⟩
 ·exact⟨s1.free h2,s4 _ _ (s3 _ _ n2)⟩
 ·exact⟨s1.free (s2.free h3),s4 _ _ n3⟩
theorem new4 {H:Hp} {p1 p2 p3 p4 l:Addr} {r1 r2 r3 r4:List Int} {u1 u2 u3 u4:List V} (e1:u1=r1.map V.int) (e2:u2=r2.map V.int) (e3:u3=r3.map V.int) (e4:u4=r4.map V.int) (h1:H p1=none) (h2:upd H p1 (.tup u1) p2=none) (h3:upd (upd H p1 (.tup u1)) p2 (.tup u2) p3=none) (h4:upd (upd (upd H p1 (.tup u1)) p2 (.tup u2)) p3 (.tup u3) p4=none) (hl:upd (upd (upd (upd H p1 (.tup u1)) p2 (.tup u2)) p3 (.tup u3)) p4 (.tup u4) l=none) :
  zcr H (upd (upd (upd (upd (upd H p1 (.tup u1)) p2 (.tup u2)) p3 (.tup u3)) p4 (.tup u4)) l (.lst [.ref p1,.ref p2,.ref p3,.ref p4])) l [r1,r2,r3,r4]:=by
 subst e1 e2 e3 e4
 have s1:=ah h1 (.tup (r1.map V.int))
 have s2:=ah h2 (.tup (r2.map V.int))
 have s3:=ah h3 (.tup (r3.map V.int))
 have s4:=ah h4 (.tup (r4.map V.int))
 have s5:=ah hl (.lst [.ref p1,.ref p2,.ref p3,.ref p4])
 have n1:=ad (H:=H) (a:=p1) (o:=.tup (r1.map V.int))
 generalize upd H p1 (.tup (r1.map V.int))=H1 at *
 have n2:=ad (H:=H1) (a:=p2) (o:=.tup (r2.map V.int))
 generalize upd H1 p2 (.tup (r2.map V.int))=H2 at *
 have n3:=ad (H:=H2) (a:=p3) (o:=.tup (r3.map V.int))
 generalize upd H2 p3 (.tup (r3.map V.int))=H3 at *
 have n4:=ad (H:=H3) (a:=p4) (o:=.tup (r4.map V.int))
 generalize upd H3 p4 (.tup (r4.map V.int))=H4 at *
 have n5:=ad (H:=H4) (a:=l) (o:=.lst [.ref p1,.ref p2,.ref p3,.ref p4])
 refine⟨(((s1.trans s2).trans s3).trans s4).trans s5,s1.free (s2.free (s3.free (s4.free hl))),[(p1,r1),(p2,r2),(p3,r3),(p4,r4)],n5,rfl,fun x hx=>?_⟩
 simp only[List.mem_cons,List.not_mem_nil,or_false]at hx
 rcases hx with rfl | rfl | rfl | rfl
 ·exact⟨h1,s5 _ _ (s4 _ _ (s3 _ _ (s2 _ _ n1)))⟩
 ·exact⟨s1.free h2,s5 _ _ (s4 _ _ (s3 _ _ n2))⟩
 ·exact⟨s1.free (s2.free h3),s5 _ _ (s4 _ _ n3)⟩
 ·exact⟨s1.free (s2.free (s3.free h4)),s5 _ _ n4⟩
section
variable {P:Program} {w:World} {K:W.Frag} {mg:Str→Option Value} {base:Heap} {aK C CN CT CP CM CZ:Addr} {f fF:Addr} {fd dF:FuncData} {fI fA fQ fS fR:Addr} {dI dA' dQ dS dR':FuncData}
def zgy:Sp:=fun vs H Q _=>∃(k:Str) (n a b:Int),vs=[.str k,.int n,.int a,.int b]∧(k="and"∨k="or"∨k="then"∨k="as")∧∀ H' l,zcr H H' l (prF k n a b)→Q (.ref l) H'
theorem zij:zac ["kind","new","one","other"] ["kind","new","one","other"] (aj zei):=⟨rfl,rfl,rfl,by decide +kernel,rfl,by decide +kernel,by decide +kernel⟩
theorem zlr (F:Fun K "pair_rows" "pair_rows" zei f fd):FnOk P w K mg base CX0 1 f fd ["kind","new","one","other"] zgy:=by
 refine F.ok zij (fun vs H Q E h=>?_) (fun cdv A outer s H vs Q E hr h=>?_)
 ·obtain⟨k,n,a,b,rfl,_⟩:=h
  rfl
 obtain⟨k,n,a,b,rfl,hk,q⟩:=h
 refine⟨_,(ae (zal (av zaE (pv 0) au (aD _))
   (ai (ay (zag (aa (zae (aa (zas zak (pv 1)) (aa (pv 2) ac))) (aa (zae (aa (zas zak (pv 1)) (aa (pv 3) ac))) (aa (zae (aa (pv 1) (aa (zas zak (pv 2)) (aa (zas zak (pv 3)) ac)))) ac))))))
   zad)
  (ae (zal (av zaE (pv 0) au (aD _))
   (ai (ay (zag (aa (zae (aa (zas zak (pv 1)) (aa (pv 2) (aa (pv 3) ac)))) (aa (zae (aa (pv 1) (aa (zas zak (pv 2)) ac))) (aa (zae (aa (pv 1) (aa (zas zak (pv 3)) ac))) ac))))))
   zad)
  (ae (zal (av zaE (pv 0) au (aD _))
   (ai (ay (zag (aa (zae (aa (zas zak (pv 1)) (aa (zas zak (pv 2)) (aa (pv 3) ac)))) (aa (zae (aa (pv 1) (aa (pv 2) ac))) (aa (zae (aa (pv 1) (aa (zas zak (pv 3)) ac))) ac))))))
   zad)
  (ai (ay (zag (aa (zae (aa (zas zak (pv 1)) (aa (zas zak (pv 2)) (aa (pv 3) ac)))) (aa (zae (aa (zas zak (pv 1)) (aa (pv 2) (aa (zas zak (pv 3)) ac)))) (aa (zae (aa (pv 1) (aa (pv 2) (aa (pv 3) ac)))) (aa (zae (aa (pv 1) (aa (zas zak (pv 2)) (aa (zas zak (pv 3)) ac)))) ac)))))))))),?_⟩
 have z2:2≤sizeLine:=by decide
 have z3:3≤sizeLine:=by decide
 have z4:4≤sizeLine:=by decide
 have str:∀ {x y:Str},decide (V.str x=V.str y)=true→x=y:=fun h=>by
  have:=of_decide_eq_true h
  injection this
 have nst:∀ {x y:Str},¬decide (V.str x=V.str y)=true→x≠y:=fun h e=>h (by rw[e];exact decide_eq_true rfl)
 refine⟨_,rfl,rfl,_,rfl,aG (fun c=>?_) (fun c=>?_)⟩
 ·refine⟨_,rfl,_,rfl,_,rfl,z2,fun p1 h1=>⟨_,rfl,_,rfl,_,rfl,z2,fun p2 h2=>⟨_,rfl,_,rfl,_,rfl,_,rfl,_,rfl,z3,fun p3 h3=>⟨z3,fun l hl=>q _ l ?_⟩⟩⟩⟩
  unfold prF
  rw[if_pos (str c)]
  exact new3 rfl rfl rfl h1 h2 h3 hl
 refine⟨_,rfl,rfl,_,rfl,aG (fun c2=>?_) (fun c2=>?_)⟩
 ·refine⟨_,rfl,_,rfl,_,rfl,_,rfl,z3,fun p1 h1=>⟨_,rfl,_,rfl,_,rfl,z2,fun p2 h2=>⟨_,rfl,_,rfl,_,rfl,z2,fun p3 h3=>⟨z3,fun l hl=>q _ l ?_⟩⟩⟩⟩
  unfold prF
  rw[if_neg (nst c),if_pos (str c2)]
  exact new3 rfl rfl rfl h1 h2 h3 hl
 refine⟨_,rfl,rfl,_,rfl,aG (fun c3=>?_) (fun c3=>?_)⟩
 ·refine⟨_,rfl,_,rfl,_,rfl,_,rfl,_,rfl,z3,fun p1 h1=>⟨_,rfl,_,rfl,z2,fun p2 h2=>⟨_,rfl,_,rfl,_,rfl,z2,fun p3 h3=>⟨z3,fun l hl=>q _ l ?_⟩⟩⟩⟩
  unfold prF
  rw[if_neg (nst c),if_neg (nst c2),if_pos (str c3)]
  exact new3 rfl rfl rfl h1 h2 h3 hl
 refine⟨_,rfl,_,rfl,_,rfl,_,rfl,_,rfl,z3,fun p1 h1=>⟨_,rfl,_,rfl,_,rfl,_,rfl,_,rfl,z3,fun p2 h2=>⟨_,rfl,_,rfl,_,rfl,z3,fun p3 h3=>⟨_,rfl,_,rfl,_,rfl,_,rfl,_,rfl,z3,fun p4 h4=>⟨z4,fun l hl=>q _ l ?_⟩⟩⟩⟩⟩
 unfold prF
 rw[if_neg (nst c),if_neg (nst c2),if_neg (nst c3)]
 exact new4 rfl rfl rfl rfl h1 h2 h3 h4 hl
end
end K74
namespace K74
open PySem L2
open F74 (Tr Fm dTr zax dFm FOk fdp zaF)
theorem zgm (f:Str) (u v:V):∀ fs:List (Str × V),zat f v (zat f u fs)=zat f v fs
 | []=>by simp only[zat,if_pos]
 | (g,x) :: r=>by
  by_cases c:g=f
  ·simp only[zat,if_pos c]
  ·simp only[zat,if_neg c,zgm f u v r]
theorem zcC (f:Str) (v:V):∀ fs:List (Str × V),(zat f v fs).length≤fs.length+1
 | []=>Nat.le_refl _
 | (g,x) :: r=>by
  by_cases c:g=f
  ·simp only[zat,if_pos c,List.length_cons];omega
  ·have:=zcC f v r
   simp only[zat,if_neg c,List.length_cons];omega
def nfl (p dk:Addr) (tr:Nat):List (Str × V):=zat "tries" (.int tr) (zat "taken" (.ref dk) (zat "problem" (.ref p) []))
theorem zd4 (p dk:Addr) (tr:Nat):(nfl p dk tr).lookup ("tries":Str)=some (.int tr):=by
 unfold nfl
 rw[zar,if_pos rfl]
theorem zkg (p dk:Addr) (tr:Nat):(nfl p dk tr).lookup ("taken":Str)=some (.ref dk):=by
 unfold nfl
 rw[zar,if_neg (by decide +kernel),zar,if_pos rfl]
theorem zbz (p dk:Addr) (tr:Nat):(nfl p dk tr).lookup ("problem":Str)=some (.ref p):=by
 unfold nfl
 rw[zar,if_neg (by decide +kernel),zar,if_neg (by decide +kernel),zar,if_pos rfl]
theorem zdI (p dk:Addr) (tr:Nat) {m:Str} (h1:¬m="tries") (h2:¬m="taken") (h3:¬m="problem"):(nfl p dk tr).lookup m=none:=by
 unfold nfl
 rw[zar,if_neg h1,zar,if_neg h2,zar,if_neg h3]
 rfl
theorem ziN (p dk:Addr) (tr:Nat) (i:Nat):zat "tries" (.int i) (nfl p dk tr)=nfl p dk i:=zgm _ _ _ _
theorem ziO (p dk:Addr) (tr:Nat):(nfl p dk tr).length < 1000:=by
 have h1:=zcC "tries" (.int tr) (zat "taken" (.ref dk) (zat "problem" (.ref p) []))
 have h2:=zcC "taken" (.ref dk) (zat "problem" (.ref p) [])
 have h3:=zcC "problem" (.ref p) []
 show(zat _ _ _).length < 1000
 have h4:([]:List (Str × V)).length=0:=rfl
 omega
structure St where
 T:List Tm
 A:List At
 R:List (List Int)
 tr:Nat
structure zaX (K:W.Frag) (CZ C:Addr) (H:Hp) (na p tl al rl dk:Addr) (S:List Str) (st:St):Prop where
 ob:∃ dx,H na=some (.ins CZ dx (nfl p dk st.tr))
 pr:zaJ K C H p tl al rl st.T st.A st.R
 dk:∃ kvs,H dk=some (.dK kvs)∧DN kvs S
 ne:p≠na
def FrN (H H':Hp) (na tl al rl:Addr):Prop:=∀ b o,H b=some o→b≠na→b≠tl→b≠al→b≠rl→H' b=some o
section
variable {K:W.Frag} {C CZ na p tl al rl dk:Addr} {H H' H2:Hp} {S:List Str} {st:St}
theorem FrN.of_same (s:ap H H'):FrN H H' na tl al rl:=fun b o e _ _ _ _=>s b o e
theorem FrN.trans (a:FrN H H' na tl al rl) (b:FrN H' H2 na tl al rl):FrN H H2 na tl al rl:=fun c o e n1 n2 n3 n4=>b c o (a c o e n1 n2 n3 n4) n1 n2 n3 n4
theorem FrN.of1 (f:Fr1 H H' tl):FrN H H' na tl al rl:=fun b o e _ n _ _=>f b o e n
theorem FrN.of2 (f:Fr2 H H' al rl):FrN H H' na tl al rl:=fun b o e _ _ n m=>f b o e n m
theorem zaX.kinds (h:zaX K CZ C H na p tl al rl dk S st) {b:Addr} {o:HO} (e:H b=some o) (n1:∀ C dx fs,o≠.ins C dx fs) (n2:∀ xs,o≠.lst xs):b≠na∧b≠tl∧b≠al∧b≠rl:=by
 obtain⟨⟨dx,h1⟩,⟨_,⟨x2,h2,_⟩,⟨x3,h3,_⟩,⟨x4,h4,_⟩,_⟩,_,_⟩:=h
 refine⟨fun z=>?_,fun z=>?_,fun z=>?_,fun z=>?_⟩
 ·rw[z,h1]at e;exact n1 _ _ _ (Option.some.inj e).symm
 ·rw[z,h2]at e;exact n2 _ (Option.some.inj e).symm
 ·rw[z,h3]at e;exact n2 _ (Option.some.inj e).symm
 ·rw[z,h4]at e;exact n2 _ (Option.some.inj e).symm
theorem zaX.kt (h:zaX K CZ C H na p tl al rl dk S st) (f:FrN H H' na tl al rl):zaj H H':=fun b ys q=>by
 rcases q with q | ⟨o,q⟩
 ·obtain⟨a1,a2,a3,a4⟩:=h.kinds q (fun _ _ _ e=>by cases e) (fun _ e=>by cases e)
  exact .inl (f _ _ q a1 a2 a3 a4)
 ·obtain⟨a1,a2,a3,a4⟩:=h.kinds q (fun _ _ _ e=>by cases e) (fun _ e=>by cases e)
  exact .inr ⟨o,f _ _ q a1 a2 a3 a4⟩
theorem zaX.same (h:zaX K CZ C H na p tl al rl dk S st) (s:ap H H'):zaX K CZ C H' na p tl al rl dk S st:=by
 obtain⟨⟨dx,h1⟩,h2,⟨kvs,h3,h4⟩,h5⟩:=h
 exact⟨⟨dx,s _ _ h1⟩,h2.same s,⟨kvs,s _ _ h3,h4⟩,h5⟩
theorem zaX.prob (h:zaX K CZ C H na p tl al rl dk S st) {T:List Tm} {A:List At} {R:List (List Int)} (pr:zaJ K C H' p tl al rl T A R) (f:∀ b o,H b=some o→b≠tl→b≠al→b≠rl→H' b=some o):zaX K CZ C H' na p tl al rl dk S ⟨T,A,R,st.tr⟩:=by
 obtain⟨⟨dx,h1⟩,⟨_,⟨x2,t2,_⟩,⟨x3,t3,_⟩,⟨x4,t4,_⟩,_⟩,⟨kvs,h3,h4⟩,h5⟩:=h
 have n1:∀ {xs:List V} {z:Addr},H z=some (.lst xs)→na≠z:=fun e z=>by rw[z,e]at h1;cases h1
 have n2:∀ {xs:List V} {z:Addr},H z=some (.lst xs)→dk≠z:=fun e z=>by rw[z,e]at h3;cases h3
 exact⟨⟨dx,f _ _ h1 (n1 t2) (n1 t3) (n1 t4)⟩,pr,⟨kvs,f _ _ h3 (n2 t2) (n2 t3) (n2 t4),h4⟩,h5⟩
theorem zaX.tries (h:zaX K CZ C H na p tl al rl dk S st) {dx:Addr} {t:Nat}:zaX K CZ C (upd H na (.ins CZ dx (nfl p dk t))) na p tl al rl dk S ⟨st.T,st.A,st.R,t⟩:=by
 obtain⟨⟨dx0,h1⟩,⟨⟨dx1,h2⟩,⟨x2,t2,u2⟩,⟨x3,t3,u3⟩,⟨x4,t4,u4⟩,e1,e2,e3⟩,⟨kvs,h3,h4⟩,h5⟩:=h
 have n1:∀ {xs:List V} {z:Addr},H z=some (.lst xs)→z≠na:=fun e z=>by rw[←z,e]at h1;cases h1
 have kt:zaj H (upd H na (.ins CZ dx (nfl p dk t))):=zaj.but h1 (fun _ e=>by cases e) (fun _ _ e=>by cases e)
 refine⟨⟨dx,ad⟩,⟨⟨dx1,by rw[ao h5];exact h2⟩,⟨x2,by rw[ao (n1 t2)];exact t2,u2.keep kt (zaR _)⟩,⟨x3,by rw[ao (n1 t3)];exact t3,u3.keep kt (zab zaN _)⟩,⟨x4,by rw[ao (n1 t4)];exact t4,u4.keep kt (zab zbf _)⟩,e1,e2,e3⟩,⟨kvs,?_,h4⟩,h5⟩
 rw[ao (fun z=>by rw[z,h1]at h3;cases h3)]
 exact h3
end
def zcg (A:List At) (z:Str):Rl (List At × Nat) :=
 if zaK z=false then .er false else if .plain z∈A then .ok (A,A.idxOf (.plain z)+1) else if 40≤A.length then .er true else .ok (A++[.plain z],A.length+1)
def zb1 (A:List At) (a b:Int):Rl (List At × Nat) :=
 if .same b a∈A then .ok (A,A.idxOf (.same b a)+1) else if .same a b∈A then .ok (A,A.idxOf (.same a b)+1) else if 40≤A.length then .er true else .ok (A++[.same a b],A.length+1)
def zbN (R rs:List (List Int)):Rl (List (List Int)):=if R.length+rs.length≤200 then .ok (R++rs.map (zaq [])) else .er true
def ff (S:List Str):Nat→Nat→Nat
 | 0,t=>t
 | n+1,t=>if aI t∈S then ff S n (t+1) else t
def zcZ (S:List Str) (st:St):Rl (St × Nat):=(zcg st.A (aI (ff S 6 st.tr))).bind fun x=>.ok (⟨st.T,x.1,st.R,ff S 6 st.tr+1⟩,x.2)
theorem ff_out {S:List Str} {n t:Nat} (h:aI t∉S):ff S n t=t:=by
 cases n with
 | zero=>rfl
 | succ n=>simp only[ff,if_neg h]
structure TxZ (K:W.Frag) (mg:Str→Option Value) (CZ:Addr):Prop where
 cl:Cls K CZ
 nP:zbZ K CZ "problem"
 nT:zbZ K CZ "taken"
 nN:zbZ K CZ "tries"
section
variable {P:Program} {w:World} {K:W.Frag} {mg:Str→Option Value} {base:Heap} {aK C CN CT CP CM CZ:Addr} {f fN:Addr} {fd dN:FuncData} {fI fA fQ fS fR:Addr} {dI dA' dQ dS dR':FuncData}
def ToN (K:W.Frag) (CZ C CN CM:Addr) (H:Hp) (na p tl al rl dk:Addr) (S:List Str) (Q:VK) (E:XK) (r:Rl (St × Int)):Prop :=
 (∀ x,r=.ok x→∀ H',zaX K CZ C H' na p tl al rl dk S x.1→FrN H H' na tl al rl→Q (.int x.2) H')∧(∀ b,r=.er b→∀ H',FrN H H' na tl al rl→E (erV CN CM b) none H')
def zjX (K:W.Frag) (H:Hp) (a tl al rl:Addr) (n:Nat) (rs:List (List Int)):Prop:=∃ ps:List (Addr × List Int),H a=some (.lst (ps.map fun x=>V.ref x.1))∧ps.map (·.2)=rs∧a≠tl∧a≠al∧a≠rl∧ps.length≤100∧∀ x∈ps,(H x.1=some (.lst (x.2.map V.int))∨H x.1=some (.tup (x.2.map V.int)))∧x.1≠tl∧x.1≠al∧x.1≠rl∧x.2.length≤20∧∀ k∈x.2,zaI n k=false
def zjy (K:W.Frag) (CZ C CN CM:Addr):Sp:=fun vs H Q E=>∃(na p tl al rl dk a:Addr) (S:List Str) (st:St) (rs:List (List Int)),vs=[.ref na,.ref a]∧zaX K CZ C H na p tl al rl dk S st∧zjX K H a tl al rl st.A.length rs∧st.A.length≤40∧st.R.length≤200 ∧
 (∀ R',zbN st.R rs=.ok R'→∀ H',zaX K CZ C H' na p tl al rl dk S ⟨st.T,st.A,R',st.tr⟩→FrN H H' na tl al rl→Q .non H')∧(∀ b,zbN st.R rs=.er b→∀ H',FrN H H' na tl al rl→E (erV CN CM b) none H')
theorem zjC:zac ["self","rows","row"] ["self","rows"] (aj zcE):=⟨rfl,rfl,rfl,by decide +kernel,rfl,by decide +kernel,by decide +kernel⟩
theorem ok_put (F:Fun K "put_rows" "Namer.put_rows" zcE f fd) (T:Txt K mg aK C CN CT CP CM) (Z:TxZ K mg CZ) (G:Own P w K mg base C CN CT CP CM fI fA fQ fS fR dI dA' dQ dS dR'):FnOk P w K mg base (CX1 P w) 5 f fd ["self","rows"] (zjy K CZ C CN CM):=by
 refine Fun.okX F zjC (fun vs H Q E h=>?_) (fun cdv A outer s H vs Q E hr h=>?_)
 ·obtain⟨na,p,tl,al,rl,dk,a,S,st,rs,rfl,_⟩:=h
  rfl
 obtain⟨na,p,tl,al,rl,dk,a,S,st,rs,rfl,N,⟨ps,hl,rfl,a1,a2,a3,l100,hps⟩,A40,R200,q1,q2⟩:=h
 refine⟨_,(ai (zbp PassesOwn.leaving rfl (zbJ (pv 1)) (zaO (i:=2) zjC.nd rfl (Or.inl rfl))
   (ai (zau (zaG (zaU (pv 0) rfl) T.cl G.mR G.R hr G.bR .nil (zav xe1) (aa (pv 2) ac)))))),?_⟩
 obtain⟨_,⟨_,⟨x2,t2,_⟩,⟨x3,t3,_⟩,⟨x4,t4,_⟩,_⟩,_,_⟩:=id N
 have fl:∀ {H':Hp},FrN H H' na tl al rl→H' a=some (.lst (ps.map fun x=>V.ref x.1)):=fun f=>by
  obtain⟨⟨dx,h1⟩,_⟩:=id N
  exact f _ _ hl (fun z=>by rw[z,h1]at hl;cases hl) a1 a2 a3
 refine⟨_,rfl,a,rfl,⟨_,SqL.of hl⟩,zcW zbI (fun i σ H'=>∃ v:Option V,σ=[some (.ref na),some (.ref a),v]∧FrN H H' na tl al rl∧zaX K CZ C H' na p tl al rl dk S ⟨st.T,st.A,st.R++(ps.take i).map fun x=>zaq [] x.2,st.tr⟩∧st.R.length+i≤200) (fun i σ H' ⟨_,_,f,_⟩=>SqL.of (fl f))
  ⟨none,rfl,FrN.of_same (ap.refl _),by simpa using N,by omega⟩ ?_ ?_⟩
 ·rintro i σ H2 x H3 hi ⟨v,rfl,f2,N2,l2⟩ ⟨rfl,hy⟩
  have hx:=hy _ (SqL.of (fl f2))
  rw[List.getElem?_map]at hx
  obtain⟨y,hyi,rfl⟩:=Option.map_eq_some_iff.mp hx
  have ym:=List.mem_of_getElem? hyi
  obtain⟨sq,b1,b2,b3,y20,yn⟩:=hps y ym
  have pl:ps.length=(ps.map fun x=>V.ref x.1).length:=by rw[List.length_map]
  obtain⟨⟨dx,hn⟩,pr2,_,_⟩:=id N2
  obtain⟨⟨dx',hp⟩,_⟩:=id pr2
  have sq2:SqI K H3 y.1 y.2:=by
   obtain⟨⟨dx,h1⟩,_⟩:=id N
   rcases sq with h | h
   ·exact .inl (SqL.of (f2 _ _ h (fun z=>by rw[z,h1]at h;cases h) b1 b2 b3))
   ·exact .inr (SqT.of (f2 _ _ h (fun z=>by rw[z,h1]at h;cases h) b1 b2 b3))
  have small:∀ k∈y.2,-1000≤k∧k≤1000:=fun k hk=>by
   have:=yn k hk
   simp only[zaI,Bool.or_eq_false_iff,decide_eq_false_iff_not]at this
   omega
  refine⟨_,rfl,na,CZ,dx,_,_,rfl,hn,Z.cl,Z.nP,zbz _ _ _,p,dx',_,rfl,hp,zgo _ _ _,_,rfl,p,tl,al,rl,y.1,_,_,_,y.2,rfl,pr2,sq2,by omega,small,by simp only[List.length_append,List.length_map,List.length_take];omega,?_⟩
  unfold zdl
  rw[if_neg (by rw[Bool.not_eq_true,List.any_eq_false];exact fun k hk=>by rw[yn k hk];decide),if_neg (by omega)]
  have ti:(ps.take i).length=i:=by rw[List.length_take];omega
  by_cases c:200≤(st.R++(ps.take i).map fun x=>zaq [] x.2).length
  ·rw[if_pos c]
   rw[List.length_append,List.length_map,ti]at c
   exact fun H5 s5=>q2 true (by unfold zbN;rw[if_neg (by rw[List.length_map];omega)]) H5 (f2.trans (FrN.of_same s5))
  ·rw[if_neg c]
   rw[List.length_append,List.length_map,ti]at c
   refine fun H5 pr5 f5=>⟨_,rfl,f2.trans (FrN.of2 f5),?_,by omega⟩
   have:=N2.prob pr5 fun b o e _ n2 n3=>f5 _ _ e n2 n3
   rw[zbP hyi,List.map_append,←List.append_assoc]
   exact this
 ·rintro σ H2 ⟨v,rfl,f2,N2,l2⟩
  rw[List.length_map]at N2 l2
  rw[List.take_length]at N2
  refine q1 _ (by unfold zbN;rw[if_pos (by rw[List.length_map];exact l2)]) H2 ?_ f2
  rw[List.map_map]
  exact N2
def zgj (K:W.Frag) (CZ C CN CM:Addr):Sp:=fun vs H Q E=>∃(na p tl al rl dk:Addr) (S:List Str) (st:St) (j:Nat),vs=[.ref na]∧zaX K CZ C H na p tl al rl dk S st∧st.A.length≤40∧st.tr≤600∧j≤6∧aI (st.tr+j)∉S ∧
 ToN K CZ C CN CM H na p tl al rl dk S Q E ((zcZ S st).bind fun x=>.ok (x.1,(x.2:Int)))
theorem zeN:zac ["self","name"] ["self"] (aj zcF):=⟨rfl,rfl,rfl,by decide +kernel,rfl,by decide +kernel,by decide +kernel⟩
theorem zgJ (i:Nat):∀ c∈(ltr i).cps.toList,c < 1000:=by
 intro c hc
 simp only[ltr,List.mem_singleton]at hc
 subst hc
 cases e:abc.cps.toList[i]? with
 | none=>decide
 | some c=>exact(show ∀ c∈abc.cps.toList,c < 1000 by decide +kernel) c (List.mem_of_getElem? e)
theorem zdz (a b:Str):(a++b).cps.toList=a.cps.toList++b.cps.toList:=by
 show(a.cps++b.cps).toList=_
 exact Array.toList_append
theorem zj3 {k:Nat}:Low (aI k):=by
 have z1:∀ c∈("z":Str).cps.toList,c < 1000:=by decide +kernel
 have z2:("z":Str).length=1:=by decide +kernel
 have l1:∀ i,(ltr i).length=1:=fun i=>rfl
 unfold aI
 split
 ·refine⟨by rw[zaH,z2,l1];decide,fun c hc=>?_⟩
  rw[zdz]at hc
  exact(List.mem_append.mp hc).elim (z1 c) (zgJ _ c)
 ·refine⟨by rw[zaH,zaH,z2,l1,l1];decide,fun c hc=>?_⟩
  rw[zdz,zdz]at hc
  rcases List.mem_append.mp hc with h | h
  ·exact z1 c h
  ·exact(List.mem_append.mp h).elim (zgJ _ c) (zgJ _ c)
set_option maxHeartbeats 1000000 in
theorem zji (F:Fun K "new_atom" "Namer.new_atom" zcF f fd) (T:Txt K mg aK C CN CT CP CM) (Z:TxZ K mg CZ) (G:Own P w K mg base C CN CT CP CM fI fA fQ fS fR dI dA' dQ dS dR') (BN:FB P w K mg base CX0 1 "new_name" fN dN ["number"] zgi):FnOk P w K mg base (CX1 P w) 5 f fd ["self"] (zgj K CZ C CN CM):=by
 refine Fun.okX F zeN (fun vs H Q E h=>?_) (fun cdv A outer s H vs Q E hr h=>?_)
 ·obtain⟨na,p,tl,al,rl,dk,S,st,j,rfl,_⟩:=h
  rfl
 obtain⟨na,p,tl,al,rl,dk,S,st,j,rfl,N,A40,t600,j6,free,q1,q2⟩:=h
 have hu:=hu_of hr
 have hr1:aH 1 _:=hr.mono (by decide)
 refine⟨_,(ae (az (i:=1) zeN.nd rfl (Or.inl rfl) (aq BN.ok hr1 rfl BN.m BN.kp BN.b .nil aJ (aa (zaU (pv 0) rfl) ac)))
  (ae (zg4 (pv 0) ag zjP)
  (ae (zfR PassesOwn.leaving (pt_cmp (pc_din hu (pv 1) (zaU (pv 0) rfl)))
   (ae (az (i:=1) zeN.nd rfl (Or.inl rfl) (aq BN.ok hr1 rfl BN.m BN.kp BN.b .nil aJ (aa (zaU (pv 0) rfl) ac)))
    (ai (zg4 (pv 0) ag zjP))))
  (ai (ay (zaG (zaU (pv 0) rfl) T.cl G.mQ G.Q hr G.bQ .nil (zav xe1) (aa (pv 1) ac))))))),?_⟩
 obtain⟨⟨dx,hn⟩,_⟩:=id N
 refine⟨_,rfl,na,CZ,dx,_,_,rfl,hn,Z.cl,Z.nN,zd4 _ _ _,st.tr,rfl,by omega,fun H1 s1=>?_⟩
 have N1:=N.same s1
 have hn1:=s1 _ _ hn
 refine⟨_,rfl,na,CZ,dx,_,_,rfl,hn1,Z.cl,Z.nN,zd4 _ _ _,_,_,rfl,rfl,dx,_,hn1,ziO _ _ _,?_⟩
 have ep:zat "tries" (.int ((st.tr:Int)+1)) (nfl p dk st.tr)=nfl p dk (st.tr+1):=ziN p dk st.tr (st.tr+1)
 rw[ep]
 have N2:=N1.tries (dx:=dx) (t:=st.tr+1)
 have f2:FrN H (upd H1 na (.ins CZ dx (nfl p dk (st.tr+1)))) na tl al rl:=fun b o e n1 _ _ _=>by rw[ao n1];exact s1 _ _ e
 generalize upd H1 na (.ins CZ dx (nfl p dk (st.tr+1)))=H2 at N2 f2
 refine⟨fun m σ H'=>∃ t,m+t=st.tr+j∧st.tr≤t∧σ=[some (.ref na),some (.str (aI t))]∧FrN H H' na tl al rl∧zaX K CZ C H' na p tl al rl dk S ⟨st.T,st.A,st.R,t+1⟩∧ff S 6 st.tr=ff S (6 - (t - st.tr)) t,⟨j,st.tr,by omega,Nat.le_refl _,rfl,f2,N2,by rw[Nat.sub_self]⟩,?_⟩
 rintro m σ H3 ⟨t,mt,tt,rfl,f3,N3,e3⟩
 obtain⟨⟨dx3,hn3⟩,pr3,⟨kvs,hd3,dn3⟩,_⟩:=id N3
 refine⟨_,rfl,_,rfl,na,CZ,dx3,_,_,rfl,hn3,Z.cl,Z.nT,zkg _ _ _,dk,_,rfl,zfH.k (k:=.inr (aI t)) hd3,_,rfl,aG (fun c=>?_) (fun c=>?_)⟩
 ·rw[dn3.has]at c
  have tin:=of_decide_eq_true c
  have lt:t < st.tr+j:=by
   rcases Nat.lt_or_ge t (st.tr+j) with h | h
   ·exact h
   ·exact absurd (by rw[show t=st.tr+j by omega]at tin;exact tin) free
  refine⟨fun σ' H'=>∃ m',m' < m∧∃ t,m'+t=st.tr+j∧st.tr≤t∧σ'=[some (.ref na),some (.str (aI t))]∧FrN H H' na tl al rl∧zaX K CZ C H' na p tl al rl dk S ⟨st.T,st.A,st.R,t+1⟩∧ff S 6 st.tr=ff S (6 - (t - st.tr)) t,fun _ _ h=>h,?_⟩
  refine⟨_,rfl,na,CZ,dx3,_,_,rfl,hn3,Z.cl,Z.nN,zd4 _ _ _,t+1,rfl,by omega,fun H4 s4=>?_⟩
  have N4:=N3.same s4
  have hn4:=s4 _ _ hn3
  refine⟨_,rfl,na,CZ,dx3,_,_,rfl,hn4,Z.cl,Z.nN,zd4 _ _ _,_,_,rfl,rfl,dx3,_,hn4,ziO _ _ _,?_⟩
  have ep:zat "tries" (.int (((t+1:Nat):Int)+1)) (nfl p dk (t+1))=nfl p dk (t+1+1):=ziN p dk (t+1) (t+1+1)
  rw[ep]
  refine⟨m - 1,by omega,t+1,by omega,by omega,rfl,fun b o e n1 n2 n3 n4=>?_,N4.tries,?_⟩
  ·rw[ao n1]
   exact s4 _ _ (f3 _ _ e n1 n2 n3 n4)
  ·rw[e3,show 6 - (t - st.tr)=(6 - (t+1 - st.tr))+1 by omega]
   simp only[ff,if_pos tin]
 ·rw[dn3.has]at c
  have tout:aI t∉S:=fun h=>c (decide_eq_true h)
  have et:ff S 6 st.tr=t:=by rw[e3,ff_out tout]
  obtain⟨⟨dxp,hp3⟩,_⟩:=id pr3
  refine⟨_,rfl,na,CZ,dx3,_,_,rfl,hn3,Z.cl,Z.nP,zbz _ _ _,p,dxp,_,rfl,hp3,zfl _ _ _,_,rfl,p,tl,al,rl,_,_,_,aI t,rfl,pr3,zj3,by show st.A.length≤1000;omega,?_⟩
  unfold zcZ zcg at q1 q2
  rw[et]at q1 q2
  show Told K C CN CT CP CM H3 p tl al rl st.T (zc3 st.A (aI t)).2 st.R Q E (zc3 st.A (aI t)).1
  unfold zc3
  cases g1:zaK (aI t) with
  | false =>
   rw[if_pos rfl]
   rw[if_pos g1]at q2
   exact fun H5 s5=>q2 _ rfl H5 (f3.trans (FrN.of_same s5))
  | true =>
   rw[if_neg (by decide)]
   rw[if_neg (by rw[g1];decide)]at q1 q2
   by_cases c:.plain (aI t)∈st.A
   ·rw[if_pos c]
    rw[if_pos c]at q1
    exact fun H5 S5 f5=>q1 _ rfl H5 (N3.prob S5 fun b o e _ n2 n3=>f5 _ _ e n2 n3) (f3.trans (FrN.of2 f5))
   ·rw[if_neg c]
    rw[if_neg c]at q1 q2
    by_cases c6:40≤st.A.length
    ·rw[if_pos c6]
     rw[if_pos c6]at q2
     exact fun H5 s5=>q2 _ rfl H5 (f3.trans (FrN.of_same s5))
    ·rw[if_neg c6]
     rw[if_neg c6]at q1
     exact fun H5 S5 f5=>q1 _ rfl H5 (N3.prob S5 fun b o e _ n2 n3=>f5 _ _ e n2 n3) (f3.trans (FrN.of2 f5))
end
end K74
namespace K74
open PySem L2
open F74 (Tr Fm dTr zax dFm FOk fdp zaF)
def zbB (A:List At) (a:Int):List Int→Rl (List At × List Int)
 | []=>.ok (A,[])
 | b :: bs=>(zb1 A a b).bind fun x=>(zbB x.1 a bs).bind fun y=>.ok (y.1,(x.2:Int) :: y.2)
def zaV (A:List At):List Int→Rl (List At × List Int)
 | []=>.ok (A,[])
 | a :: as=>(zbB A a as).bind fun x=>(zaV x.1 as).bind fun y=>.ok (y.1,x.2++y.2)
def nUnl (S:List Str) (st:St) (ts:List Tr):Rl (St × Int) :=
 (zaL st.T ts).bind fun x=>(zaV st.A x.2).bind fun y=>(zcZ S ⟨x.1,y.1,st.R,st.tr⟩).bind fun z =>
  (zbN z.1.R (y.2.map fun s=>[-(z.2:Int),-s])).bind fun R=>(zbN R [(z.2:Int) :: y.2]).bind fun R'=>.ok (⟨z.1.T,z.1.A,R',z.1.tr⟩,(z.2:Int))
def zcY (z:St × Nat) (rs:List (List Int)):Rl (St × Int):=(zbN z.1.R rs).bind fun R=>.ok (⟨z.1.T,z.1.A,R,z.1.tr⟩,(z.2:Int))
def zaC (S:List Str) (st:St):Fm→Rl (St × Int)
 | .plain z=>(zcg st.A z).bind fun x=>.ok (⟨st.T,x.1,st.R,st.tr⟩,(x.2:Int))
 | .bare z=>(zcZ S st).bind fun x=>zcY x [[if z="always" then(x.2:Int) else -(x.2:Int)]]
 | .same a b=>(zaL st.T [a,b]).bind fun x=>(zb1 st.A (x.2.getD 0 0) (x.2.getD 1 0)).bind fun y=>.ok (⟨x.1,y.1,st.R,st.tr⟩,(y.2:Int))
 | .unlike ts=>nUnl S st ts
 | .not f=>(zaC S st f).bind fun x=>.ok (x.1,-x.2)
 | .bin k f g=>(zaC S st f).bind fun x=>(zaC S x.1 g).bind fun y=>(zcZ S y.1).bind fun z=>zcY z (prF k z.2 x.2 y.2)
def LFm:Fm→Prop
 | .plain z=>Low z
 | .bare _=>True
 | .same a b=>LTr a∧LTr b
 | .unlike ts=>(∀ t∈ts,LTr t)∧2≤ts.length∧ts.length≤5
 | .not f=>LFm f
 | .bin _ f g=>LFm f∧LFm g
structure Fit (S:List Str) (st:St):Prop where
 t:st.T.length≤60
 a:st.A.length≤40
 r:st.R.length≤200
 n:st.tr≤7 * st.A.length
 p:∀ z,.plain z∈st.A→z∈S∨∃ i,i < st.tr∧z=aI i
def Few (S:List Str):Prop:=∃ zs:List Str,zs.length≤6∧∀ z∈S,z∈zs
theorem zhy {α:Type} [DecidableEq α]:∀(l zs:List α),l.Nodup→(∀ x∈l,x∈zs)→l.length≤zs.length
 | [],_,_,_=>Nat.zero_le _
 | x :: l,zs,nd,h=>by
  obtain⟨n1,n2⟩:=List.nodup_cons.mp nd
  have hx:=h x (by simp)
  have:=zhy l (zs.erase x) n2 fun y hy=>by
   have ne:y≠x:=fun e=>n1 (e ▸ hy)
   exact(List.mem_erase_of_ne ne).mpr (h y (List.mem_cons_of_mem _ hy))
  rw[List.length_erase_of_mem hx]at this
  have:0 < zs.length:=List.length_pos_of_mem hx
  simp only[List.length_cons]
  omega
theorem zgh:∀ k,k < 300→zaK (aI k)=true:=by decide +kernel
def lc (i:Nat):Nat:=(abc.cps.toList[i]?).getD 0
theorem zeo:∀ a,a < 26→∀ b,b < 26→lc a=lc b→a=b:=by decide +kernel
theorem zg0 (k:Nat):(aI k).cps.toList=if k < 26 then("z":Str).cps.toList++[lc k] else("z":Str).cps.toList++[lc (k / 26 - 1),lc (k % 26)]:=by
 unfold aI
 split
 ·rw[zdz];rfl
 ·rw[zdz,zdz];rfl
theorem zd2 {a b:Nat} (ha:a < 300) (hb:b < 300) (h:aI a=aI b):a=b:=by
 have e:=congrArg (fun z:Str=>z.cps.toList) h
 simp only[zg0]at e
 by_cases c1:a < 26
 ·by_cases c2:b < 26
  ·rw[if_pos c1,if_pos c2]at e
   have:=List.append_cancel_left e
   exact zeo a c1 b c2 (by injection this)
  ·rw[if_pos c1,if_neg c2]at e
   have:=congrArg List.length (List.append_cancel_left e)
   simp at this
 ·by_cases c2:b < 26
  ·rw[if_neg c1,if_pos c2]at e
   have:=congrArg List.length (List.append_cancel_left e)
   simp at this
  ·rw[if_neg c1,if_neg c2]at e
   have e2:=List.append_cancel_left e
   injection e2 with e3 e4
   injection e4 with e4
   have:=zeo _ (by omega) _ (by omega) e3
   have:=zeo _ (by omega) _ (by omega) e4
   omega
end K74
namespace K74
open PySem L2
open F74 (Tr Fm dTr zax dFm FOk fdp zaF)
theorem zdO {S:List Str} (W:Few S) {t:Nat} (ht:t+7≤300):∃ j,j≤6∧aI (t+j)∉S:=by
 obtain⟨zs,h6,hs⟩:=W
 refine Classical.byContradiction fun no=>?_
 have all:∀ j,j≤6→aI (t+j)∈zs:=fun j hj=>Classical.byContradiction fun h=>no ⟨j,hj,fun z=>h (hs _ z)⟩
 have nd:((List.range 7).map fun j=>aI (t+j)).Nodup:=by
  refine List.pairwise_map.mpr (List.Pairwise.imp_of_mem (R:=(·≠·)) (fun {a b} ha hb ne e=>?_) List.nodup_range)
  have:=List.mem_range.mp ha
  have:=List.mem_range.mp hb
  exact ne (by have:=zd2 (by omega) (by omega) e;omega)
 have:=zhy _ zs nd fun x hx=>by
  obtain⟨j,hj,rfl⟩:=List.mem_map.mp hx
  exact all j (by have:=List.mem_range.mp hj;omega)
 rw[List.length_map,List.length_range]at this
 omega
theorem zi9 (S:List Str):∀ n t,t≤ff S n t∧ff S n t≤t+n
 | 0,t=>⟨Nat.le_refl _,Nat.le_refl _⟩
 | n+1,t=>by
  simp only[ff]
  split
  ·have:=zi9 S n (t+1)
   omega
  ·omega
theorem zgP {S:List Str}:∀ {n t j:Nat},j≤n→aI (t+j)∉S→aI (ff S n t)∉S
 | 0,t,j,hj,h=>by
  have:j=0:=by omega
  subst this
  exact h
 | n+1,t,j,hj,h=>by
  simp only[ff]
  split
  ·next c =>
   cases j with
   | zero=>exact absurd c h
   | succ j=>exact zgP (j:=j) (by omega) (by rw[show t+1+j=t+(j+1) by omega];exact h)
  ·next c=>exact c
theorem zdx {S:List Str} {st:St} {x:St × Nat} (F:Fit S st) (W:Few S) (h:zcZ S st=.ok x):x=(⟨st.T,st.A++[.plain (aI (ff S 6 st.tr))],st.R,ff S 6 st.tr+1⟩,st.A.length+1)∧st.A.length < 40∧Fit S x.1:=by
 have f6:=zi9 S 6 st.tr
 have n:=F.n
 have a:=F.a
 obtain⟨j,hj,free⟩:=zdO W (t:=st.tr) (by omega)
 have fr:=zgP hj free
 have nin:.plain (aI (ff S 6 st.tr))∉st.A:=fun hin=>by
  rcases F.p _ hin with h | ⟨i,hi,e⟩
  ·exact fr h
  ·have:=zd2 (by omega) (by omega) e
   omega
 unfold zcZ zcg at h
 rw[if_neg (by rw[zgh _ (by omega)];decide),if_neg nin]at h
 by_cases c:40≤st.A.length
 ·rw[if_pos c]at h
  cases h
 ·rw[if_neg c]at h
  cases h
  refine⟨rfl,by omega,F.t,?_,F.r,?_,fun z hz=>?_⟩
  ·simp only[List.length_append,List.length_singleton];omega
  ·simp only[List.length_append,List.length_singleton];omega
  ·rcases List.mem_append.mp hz with hz | hz
   ·rcases F.p z hz with h | ⟨i,hi,e⟩
    ·exact .inl h
    ·exact .inr ⟨i,by show i < ff S 6 st.tr+1;omega,e⟩
   ·rw[List.mem_singleton]at hz
    injection hz with e
    exact .inr ⟨_,Nat.lt_succ_self _,e⟩
structure zef (A A':List At):Prop where
 le:A.length≤A'.length
 a:A'.length≤40
 p:∀ z,At.plain z∈A'→At.plain z∈A
theorem zeE {A:List At} {a b:Int} {x:List At × Nat} (h:zb1 A a b=.ok x) (h40:A.length≤40):zef A x.1∧1≤x.2∧x.2≤x.1.length:=by
 unfold zb1 at h
 split at h
 ·next c=>cases h;exact⟨⟨Nat.le_refl _,h40,fun _ z=>z⟩,by show 1≤_+1;omega,List.idxOf_lt_length_of_mem c⟩
 ·split at h
  ·next c=>cases h;exact⟨⟨Nat.le_refl _,h40,fun _ z=>z⟩,by show 1≤_+1;omega,List.idxOf_lt_length_of_mem c⟩
  ·split at h
   ·cases h
   ·cases h
    refine⟨⟨by simp,by simp;omega,fun z hz=>?_⟩,by simp,by simp⟩
    rcases List.mem_append.mp hz with hz | hz
    ·exact hz
    ·rw[List.mem_singleton]at hz;cases hz
theorem zef.trans {A B C:List At} (h:zef A B) (k:zef B C):zef A C:=⟨Nat.le_trans h.le k.le,k.a,fun z hz=>h.p z (k.p z hz)⟩
theorem zfp {a:Int}:∀ {bs:List Int} {A:List At} {x:List At × List Int},zbB A a bs=.ok x→A.length≤40→zef A x.1∧(∀ k∈x.2,1≤k∧k≤(x.1.length:Int))∧x.2.length=bs.length
 | [],A,x,h,h40=>by
  simp only[zbB]at h
  cases h
  exact⟨⟨Nat.le_refl _,h40,fun _ z=>z⟩,(fun k hk=>nomatch hk),rfl⟩
 | b :: bs,A,x,h,h40=>by
  simp only[zbB]at h
  obtain⟨y,e1,e2⟩:=Rl.bind_ok h
  obtain⟨z,e3,e4⟩:=Rl.bind_ok e2
  cases e4
  obtain⟨m1,l1,l2⟩:=zeE e1 h40
  obtain⟨m2,l3,l4⟩:=zfp e3 m1.a
  refine⟨m1.trans m2,fun k hk=>?_,by simp only[List.length_cons,l4]⟩
  have:=m2.le
  dsimp only at hk ⊢
  rcases List.mem_cons.mp hk with rfl | hk
  ·omega
  ·exact l3 k hk
def tri:Nat→Nat
 | 0=>0
 | n+1=>n+tri n
theorem zd5:∀ {as:List Int} {A:List At} {x:List At × List Int},zaV A as=.ok x→A.length≤40→zef A x.1∧(∀ k∈x.2,1≤k∧k≤(x.1.length:Int))∧x.2.length=tri as.length
 | [],A,x,h,h40=>by
  simp only[zaV]at h
  cases h
  exact⟨⟨Nat.le_refl _,h40,fun _ z=>z⟩,(fun k hk=>nomatch hk),rfl⟩
 | a :: as,A,x,h,h40=>by
  simp only[zaV]at h
  obtain⟨y,e1,e2⟩:=Rl.bind_ok h
  obtain⟨z,e3,e4⟩:=Rl.bind_ok e2
  cases e4
  obtain⟨m1,l1,l2⟩:=zfp e1 h40
  obtain⟨m2,l3,l4⟩:=zd5 e3 m1.a
  refine⟨m1.trans m2,fun k hk=>?_,by simp only[List.length_cons,List.length_append,l4,l2,tri]⟩
  have:=m2.le
  dsimp only at hk ⊢
  rcases List.mem_append.mp hk with hk | hk
  ·have:=l1 k hk
   omega
  ·exact l3 k hk
theorem zdM {R rs R':List (List Int)} (h:zbN R rs=.ok R'):R'=R++rs.map (zaq [])∧R'.length≤200:=by
 unfold zbN at h
 split at h
 ·next c=>cases h;exact⟨rfl,by rw[List.length_append,List.length_map];exact c⟩
 ·cases h
theorem Fit.more {S:List Str} {st:St} (F:Fit S st) {T:List Tm} {A:List At} (ht:T.length≤60) (m:zef st.A A):Fit S ⟨T,A,st.R,st.tr⟩ :=
 ⟨ht,m.a,F.r,by have:=F.n;have:=m.le;show st.tr≤7 * A.length;omega,fun z hz=>F.p z (m.p z hz)⟩
theorem Fit.rows {S:List Str} {st:St} (F:Fit S st) {R:List (List Int)} (h:R.length≤200):Fit S ⟨st.T,st.A,R,st.tr⟩:=⟨F.t,F.a,h,F.n,F.p⟩
theorem zaD {n:Nat} {k:Int}:zaI n k=false↔k≠0∧k≤n∧-(n:Int)≤k:=by
 simp only[zaI,Bool.or_eq_false_iff,decide_eq_false_iff_not]
 omega
theorem zkj {S:List Str} {st:St} {z:Str} {x:List At × Nat} (F:Fit S st) (hz:z∈S) (h:zcg st.A z=.ok x):Fit S ⟨st.T,x.1,st.R,st.tr⟩∧st.A.length≤x.1.length∧zaI x.1.length x.2=false:=by
 unfold zcg at h
 have a:=F.a
 have n:=F.n
 split at h
 ·cases h
 ·split at h
  ·next c =>
   cases h
   have:=List.idxOf_lt_length_of_mem c
   exact⟨F,Nat.le_refl _,zaD.mpr (by dsimp only;omega)⟩
  ·split at h
   ·cases h
   ·cases h
    refine⟨⟨F.t,?_,F.r,?_,fun y hy=>?_⟩,by simp,zaD.mpr (by simp;omega)⟩
    ·simp only[List.length_append,List.length_singleton];omega
    ·simp only[List.length_append,List.length_singleton];omega
    ·rcases List.mem_append.mp hy with hy | hy
     ·exact F.p y hy
     ·rw[List.mem_singleton]at hy
      injection hy with e
      exact .inl (e ▸ hz)
theorem zb2 {S:List Str} (W:Few S):∀ {f:Fm} {st:St} {x:St × Int},Fit S st→LFm f→(∀ z∈plF f,z∈S)→zaC S st f=.ok x→Fit S x.1∧st.A.length≤x.1.A.length∧zaI x.1.A.length x.2=false
 | .plain z,st,x,F,L,pl,h=>by
  simp only[zaC]at h
  obtain⟨y,e1,e2⟩:=Rl.bind_ok h
  cases e2
  exact zkj F (pl z (by simp [plF])) e1
 | .bare z,st,x,F,L,pl,h=>by
  simp only[zaC]at h
  obtain⟨y,e1,e2⟩:=Rl.bind_ok h
  unfold zcY at e2
  obtain⟨R,e3,e4⟩:=Rl.bind_ok e2
  cases e4
  obtain⟨rfl,l,F1⟩:=zdx F W e1
  obtain⟨_,r⟩:=zdM e3
  exact⟨F1.rows r,by simp,zaD.mpr (by simp;omega)⟩
 | .same a b,st,x,F,L,pl,h=>by
  simp only[zaC]at h
  obtain⟨y,e1,e2⟩:=Rl.bind_ok h
  obtain⟨z,e3,e4⟩:=Rl.bind_ok e2
  cases e4
  obtain⟨t1,_⟩:=zbG F.t _ e1
  obtain⟨m,l1,l2⟩:=zeE e3 F.a
  exact⟨F.more t1 m,m.le,zaD.mpr (by dsimp only;omega)⟩
 | .unlike ts,st,x,F,L,pl,h=>by
  simp only[zaC,nUnl]at h
  obtain⟨y,e1,e2⟩:=Rl.bind_ok h
  obtain⟨z,e3,e4⟩:=Rl.bind_ok e2
  obtain⟨u,e5,e6⟩:=Rl.bind_ok e4
  obtain⟨R,e7,e8⟩:=Rl.bind_ok e6
  obtain⟨R',e9,e10⟩:=Rl.bind_ok e8
  cases e10
  obtain⟨t1,_⟩:=zbG F.t _ e1
  obtain⟨m,l1,l2⟩:=zd5 e3 F.a
  obtain⟨rfl,l,F1⟩:=zdx (F.more t1 m) W e5
  obtain⟨_,r⟩:=zdM e9
  have:=m.le
  exact⟨F1.rows r,by simp;omega,zaD.mpr (by simp;omega)⟩
 | .not f,st,x,F,L,pl,h=>by
  simp only[zaC]at h
  obtain⟨y,e1,e2⟩:=Rl.bind_ok h
  cases e2
  obtain⟨a,b,c⟩:=zb2 W (f:=f) F L pl e1
  have:=zaD.mp c
  exact⟨a,b,zaD.mpr (by dsimp only;omega)⟩
 | .bin k f g,st,x,F,L,pl,h=>by
  simp only[zaC]at h
  obtain⟨y,e1,e2⟩:=Rl.bind_ok h
  obtain⟨z,e3,e4⟩:=Rl.bind_ok e2
  obtain⟨u,e5,e6⟩:=Rl.bind_ok e4
  unfold zcY at e6
  obtain⟨R,e7,e8⟩:=Rl.bind_ok e6
  cases e8
  obtain⟨a1,b1,_⟩:=zb2 W (f:=f) F L.1 (fun z hz=>pl z (by simp [plF,hz])) e1
  obtain⟨a2,b2,_⟩:=zb2 W (f:=g) a1 L.2 (fun z hz=>pl z (by simp [plF,hz])) e3
  obtain⟨rfl,l,F1⟩:=zdx a2 W e5
  obtain⟨_,r⟩:=zdM e7
  exact⟨F1.rows r,by simp;omega,zaD.mpr (by simp;omega)⟩
end K74
namespace K74
open PySem L2
open F74 (Tr Fm dTr zax dFm FOk fdp zaF zbR)
theorem Rl.er_any {α β γ:Type} {x:Rl α} {f:α→β} {b:Bool} (h:(x.bind fun a=>.ok (f a))=.er b) (g:α→Rl γ):x.bind g=.er b:=by
 cases x with
 | ok a=>cases h
 | er c=>cases h;rfl
theorem zek (p dk:Addr) (tr:Nat):(nfl p dk tr).lookup ("new_atom":Str)=none:=zdI _ _ _ (by decide +kernel) (by decide +kernel) (by decide +kernel)
theorem zcy (p dk:Addr) (tr:Nat):(nfl p dk tr).lookup ("put_rows":Str)=none:=zdI _ _ _ (by decide +kernel) (by decide +kernel) (by decide +kernel)
theorem zcf (p dk:Addr) (tr:Nat):(nfl p dk tr).lookup ("formula_part":Str)=none:=zdI _ _ _ (by decide +kernel) (by decide +kernel) (by decide +kernel)
theorem zim (p dk:Addr) (tr:Nat):(nfl p dk tr).lookup ("same_part":Str)=none:=zdI _ _ _ (by decide +kernel) (by decide +kernel) (by decide +kernel)
theorem zgV (p dk:Addr) (tr:Nat):(nfl p dk tr).lookup ("unlike_part":Str)=none:=zdI _ _ _ (by decide +kernel) (by decide +kernel) (by decide +kernel)
theorem ziq (p dk:Addr) (tr:Nat):(nfl p dk tr).lookup ("bare_part":Str)=none:=zdI _ _ _ (by decide +kernel) (by decide +kernel) (by decide +kernel)
theorem zio (p dk:Addr) (tr:Nat):(nfl p dk tr).lookup ("pair_part":Str)=none:=zdI _ _ _ (by decide +kernel) (by decide +kernel) (by decide +kernel)
theorem new1 {H:Hp} {p l:Addr} {k:Int} (h1:H p=none) (hl:upd H p (.tup [.int k]) l=none):zcr H (upd (upd H p (.tup [V.int k])) l (.lst [.ref p])) l [[k]]:=by
 have s1:=ah h1 (.tup [V.int k])
 have s2:=ah hl (.lst [V.ref p])
 have n1:=ad (H:=H) (a:=p) (o:=.tup [V.int k])
 generalize upd H p (.tup [V.int k])=H1 at *
 have n2:=ad (H:=H1) (a:=l) (o:=.lst [V.ref p])
 refine⟨s1.trans s2,s1.free hl,[(p,[k])],n2,rfl,fun x hx=>?_⟩
 rw[List.mem_singleton.mp hx]
 exact⟨h1,s2 _ _ n1⟩
section
variable {K:W.Frag} {C CZ na p tl al rl dk:Addr} {H H' H2:Hp} {S:List Str} {st:St}
theorem zaX.old (h:zaX K CZ C H na p tl al rl dk S st) {b:Addr} (e:H b=none):b≠na∧b≠tl∧b≠al∧b≠rl:=by
 obtain⟨⟨dx,h1⟩,⟨_,⟨x2,h2,_⟩,⟨x3,h3,_⟩,⟨x4,h4,_⟩,_⟩,_,_⟩:=h
 refine⟨fun z=>?_,fun z=>?_,fun z=>?_,fun z=>?_⟩
 ·rw[z,h1]at e;cases e
 ·rw[z,h2]at e;cases e
 ·rw[z,h3]at e;cases e
 ·rw[z,h4]at e;cases e
theorem zcr.rows {a:Addr} {rs:List (List Int)} {n:Nat} (h:zcr H H' a rs) (N:zaX K CZ C H na p tl al rl dk S st) (l:rs.length≤100) (hr:∀ r∈rs,r.length≤20∧∀ k∈r,zaI n k=false):zjX K H' a tl al rl n rs:=by
 obtain⟨s,ha,ps,hl,rfl,hp⟩:=h
 obtain⟨_,a2,a3,a4⟩:=N.old ha
 refine⟨ps,hl,rfl,a2,a3,a4,by rw[List.length_map]at l;exact l,fun x hx=>?_⟩
 obtain⟨h1,h2⟩:=hp x hx
 obtain⟨_,b2,b3,b4⟩:=N.old h1
 obtain⟨c1,c2⟩:=hr x.2 (List.mem_map.mpr ⟨x,hx,rfl⟩)
 exact⟨.inr h2,b2,b3,b4,c1,c2⟩
end
structure zfI (K:W.Frag) (CZ C:Addr) (H:Hp) (na p tl al rl dk:Addr) (S:List Str) (st:St) (g:Fm) (v:V):Prop where
 N:zaX K CZ C H na p tl al rl dk S st
 h:Has K H (dFm g) v
 ok:FOk g
 lf:LFm g
 fit:Fit S st
 few:Few S
 pl:∀ z∈plF g,z∈S
def zbL (K:W.Frag) (CZ C CN CM:Addr) (Pg:Fm→Prop):Sp:=fun vs H Q E=>∃(na p tl al rl dk:Addr) (S:List Str) (st:St) (g:Fm) (v:V),vs=[.ref na,v]∧zfI K CZ C H na p tl al rl dk S st g v∧Pg g∧ToN K CZ C CN CM H na p tl al rl dk S Q E (zaC S st g)
structure OwN (P:Program) (w:World) (K:W.Frag) (mg:Str→Option Value) (base:Heap) (CZ C CN CM:Addr) (fP fW:Addr) (dP dW:FuncData):Prop where
 P':FnOk P w K mg base (CX1 P w) 5 fP dP ["self","rows"] (zjy K CZ C CN CM)
 bP:ar K dP ["self","rows"] []
 mP:zbo K CZ "put_rows" fP
 W:FnOk P w K mg base (CX1 P w) 5 fW dW ["self"] (zgj K CZ C CN CM)
 bW:ar K dW ["self"] []
 mW:zbo K CZ "new_atom" fW
section
variable {P:Program} {w:World} {K:W.Frag} {mg:Str→Option Value} {base:Heap} {aK C CN CT CP CM CZ:Addr} {f fN fP fW fT fD fE:Addr} {fd dN dP dW dT' dD dE:FuncData} {fI fA fQ fS fR:Addr} {dI dA' dQ dS dR':FuncData}
theorem ziF:zac ["self","formula","new"] ["self","formula"] (aj zcv):=⟨rfl,rfl,rfl,by decide +kernel,rfl,by decide +kernel,by decide +kernel⟩
theorem zlA (F:Fun K "bare_part" "Namer.bare_part" zcv f fd) (Z:TxZ K mg CZ) (G:OwN P w K mg base CZ C CN CM fP fW dP dW):FnOk P w K mg base (CX1 P w) 6 f fd ["self","formula"] (zbL K CZ C CN CM fun g=>∃ z,g=.bare z):=by
 refine Fun.okX F ziF (fun vs H Q E h=>?_) (fun cdv A outer s H vs Q E hr h=>?_)
 ·obtain⟨na,p,tl,al,rl,dk,S,st,g,v,rfl,_⟩:=h
  rfl
 obtain⟨na,p,tl,al,rl,dk,S,st,g,v,rfl,Y,⟨z,rfl⟩,q1,q2⟩:=h
 refine⟨_,(ae (az (i:=2) ziF.nd rfl (Or.inl rfl) (zfT (pv 0) Z.cl G.mW G.W hr G.bW .nil (zav xe1)))
  (ae (zau (zaG (pv 0) Z.cl G.mP G.P' hr G.bP .nil (zav xe1) (aa (zag (aa (zfU (av zaE (aA zaf (pv 1) ag (fun _ _=>rfl)) au (aD _)) (zae (aa (pv 2) ac)) (zae (aa (zas zak (pv 2)) ac))) ac)) ac)))
  (ai (ay (pv 2))))),?_⟩
 obtain⟨⟨dx,hn⟩,_⟩:=id Y.N
 have b1:=Y.fit.n
 have b2:=Y.fit.a
 obtain⟨j,hj,free⟩:=zdO Y.few (t:=st.tr) (by omega)
 refine⟨_,rfl,na,dx,_,rfl,hn,zek _ _ _,na,p,tl,al,rl,dk,S,st,j,rfl,Y.N,b2,by omega,hj,free,fun x e H1 N1 f1=>?_,fun b e H1 f1=>q2 b (by simp only[zaC];exact Rl.er_any e _) H1 f1⟩
 obtain⟨y,e1,e2⟩:=Rl.bind_ok e
 cases e2
 obtain⟨ey,lt,F1⟩:=zdx Y.fit Y.few e1
 have la:y.1.A.length=st.A.length+1:=by rw[ey];simp
 have l2:y.2=st.A.length+1:=by rw[ey]
 obtain⟨pf,xs,rfl,hp,hx⟩:=F74.fm_at Y.h
 have hp1:=(Y.N.kt f1).sq hp
 have a0:atI (V.str (F74.hdF (.bare z)) :: xs) 0=some (.str z):=zah (j:=0) rfl
 obtain⟨⟨dx1,hn1⟩,_⟩:=id N1
 have e3:zaC S st (.bare z)=zcY y [[if z="always" then(y.2:Int) else -(y.2:Int)]]:=by simp only[zaC,e1,Rl.okb]
 rw[e3]at q1 q2
 unfold zcY at q1 q2
 refine⟨_,rfl,na,dx1,_,rfl,hn1,zcy _ _ _,_,rfl,pf,_,_,_,rfl,rfl,hp1,a0,rfl,_,rfl,aG (fun c=>?_) (fun c=>?_)⟩
 ·have ez:z="always":=by
   have:=of_decide_eq_true c
   injection this
  rw[if_pos ez]at q1 q2
  refine⟨_,rfl,lS1,fun t ht=>⟨lS1,fun l hl=>?_⟩⟩
  have nr:=new1 ht hl
  refine⟨na,p,tl,al,rl,dk,l,S,y.1,[[(y.2:Int)]],rfl,N1.same nr.1,nr.rows N1 (by show 1≤100;decide) (fun r hr'=>?_),F1.a,F1.r,fun R' eR H3 N3 f3=>⟨_,rfl,q1 (⟨y.1.T,y.1.A,R',y.1.tr⟩,(y.2:Int)) (by rw[eR];rfl) H3 N3 (f1.trans ((FrN.of_same nr.1).trans f3))⟩,fun b eb H3 f3=>q2 b (by rw[eb];rfl) H3 (f1.trans ((FrN.of_same nr.1).trans f3))⟩
  rw[List.mem_singleton.mp hr']
  refine⟨by show 1≤20;decide,fun k hk=>?_⟩
  rw[List.mem_singleton.mp hk]
  exact zaD.mpr (by omega)
 ·have ez:¬z="always":=fun e=>c (by rw[e];exact decide_eq_true rfl)
  rw[if_neg ez]at q1 q2
  refine⟨_,rfl,_,rfl,lS1,fun t ht=>⟨lS1,fun l hl=>?_⟩⟩
  have nr:=new1 ht hl
  refine⟨na,p,tl,al,rl,dk,l,S,y.1,[[-(y.2:Int)]],rfl,N1.same nr.1,nr.rows N1 (by show 1≤100;decide) (fun r hr'=>?_),F1.a,F1.r,fun R' eR H3 N3 f3=>⟨_,rfl,q1 (⟨y.1.T,y.1.A,R',y.1.tr⟩,(y.2:Int)) (by rw[eR];rfl) H3 N3 (f1.trans ((FrN.of_same nr.1).trans f3))⟩,fun b eb H3 f3=>q2 b (by rw[eb];rfl) H3 (f1.trans ((FrN.of_same nr.1).trans f3))⟩
  rw[List.mem_singleton.mp hr']
  refine⟨by show 1≤20;decide,fun k hk=>?_⟩
  rw[List.mem_singleton.mp hk]
  exact zaD.mpr (by omega)
theorem ziE:zac ["self","formula","terms"] ["self","formula"] (aj zbX):=⟨rfl,rfl,rfl,by decide +kernel,rfl,by decide +kernel,by decide +kernel⟩
theorem ziG {H:Hp} {p tl al rl:Addr} {T:List Tm} {As:List At} {Rs:List (List Int)} {a b:Int} {Q:VK} {E:XK} (pr:zaJ K C H p tl al rl T As Rs) (t60:T.length≤60) (a40:As.length≤40) (ha:0≤a∧a < (T.length:Int)) (hb:0≤b∧b < (T.length:Int))
  (q1:∀ x,zb1 As a b=.ok x→∀ H',zaJ K C H' p tl al rl T x.1 Rs→Fr2 H H' al rl→Q (.int (x.2:Nat)) H') (q2:∀ e,zb1 As a b=.er e→∀ H',ap H H'→E (erV CN CM e) none H'):zhs K C CN CT CP CM [.ref p,.int a,.int b] H Q E:=by
 refine⟨p,tl,al,rl,T,As,Rs,a,b,rfl,pr,by omega,by omega,by omega,?_⟩
 unfold zb1 at q1 q2
 unfold zc2
 rw[if_neg (by omega)]
 by_cases c:.same b a∈As
 ·rw[if_pos c]
  rw[if_pos c]at q1
  exact q1 _ rfl
 ·rw[if_neg c]
  rw[if_neg c]at q1 q2
  by_cases d:.same a b∈As
  ·rw[if_pos d]
   rw[if_pos d]at q1
   exact q1 _ rfl
  ·rw[if_neg d]
   rw[if_neg d]at q1 q2
   by_cases e:40≤As.length
   ·rw[if_pos e]
    rw[if_pos e]at q2
    exact q2 _ rfl
   ·rw[if_neg e]
    rw[if_neg e]at q1
    exact q1 _ rfl
set_option maxHeartbeats 1000000 in
theorem zkL (F:Fun K "same_part" "Namer.same_part" zbX f fd) (T:Txt K mg aK C CN CT CP CM) (Z:TxZ K mg CZ) (G:Own P w K mg base C CN CT CP CM fI fA fQ fS fR dI dA' dQ dS dR') (BT:FB P w K mg base CX0 1 "inner_trees" fT dT' ["formula"] (F74.sp_itrees K)) (BA:FB P w K mg base (CX1 P w) 8 "add_tree" fD dD ["problem","tree"] (zdr K C CN CM 3)):FnOk P w K mg base (CX1 P w) 9 f fd ["self","formula"] (zbL K CZ C CN CM fun g=>∃ a b,g=.same a b):=by
 refine Fun.okX F ziE (fun vs H Q E h=>?_) (fun cdv A outer s H vs Q E hr h=>?_)
 ·obtain⟨na,p,tl,al,rl,dk,S,st,g,v,rfl,_⟩:=h
  rfl
 obtain⟨na,p,tl,al,rl,dk,S,st,g,v,rfl,Y,⟨a,b,rfl⟩,q1,q2⟩:=h
 have hr1:aH 1 _:=hr.mono (by decide)
 have hr4:aH 4 _:=hr.mono (by decide)
 refine⟨_,(ae (zfd (i:=2) (N':=["tree","self"]) (ix:=[0]) xe1 ziE.nd rfl (Or.inl rfl) rfl rfl (by decide +kernel) (by decide +kernel) rfl (fun ok=>zcx (sc:=aj zbX) ok rfl (by decide +kernel) (by decide +kernel)) (by decide +kernel) rfl rfl (fun j i h=>match j,h with | 0,h=>by cases h;exact⟨_,rfl,rfl,.inl rfl,.inl rfl⟩ | n+1,h=>by simp at h) (zbJ (aq BT.ok hr1 rfl BT.m BT.kp BT.b .nil aJ (aa (pv 1) ac))) (fun _ _ _ _ _ hp=>(aq BA.ok hr rfl BA.m BA.kp BA.b .nil hp (aa (zgF K rfl (pv 1) rfl) (aa (pv 0) ac)))))
  (ai (ay (zaG (zaU (pv 0) rfl) T.cl G.mS G.S hr4 G.bS .nil (zav xe1) (aa (aA zaT (pv 2) ag (fun _ _=>rfl)) (aa (aA zaT (pv 2) ag (fun _ _=>rfl)) ac)))))),?_⟩
 refine⟨_,rfl,.same a b,v,rfl,Y.h,Y.ok,fun H1 l xs s1 nl hl hx=>?_⟩
 have N1:=Y.N.same s1
 obtain⟨⟨dx1,hn1⟩,pr1,_,_⟩:=id N1
 obtain⟨_,n2,n3,n4⟩:=Y.N.old nl
 obtain⟨_,⟨tsv,ht,hT⟩,_⟩:=id pr1
 have keep:∀ {H'},Fr1 H1 H' tl→H' l=some (.lst xs):=fun f=>f _ _ hl n2
 have nt:na≠tl:=fun z=>by rw[z,ht]at hn1;cases hn1
 have t60:=Y.fit.t
 have xl:xs.length=2:=by rw[←hx.length,F74.dTrs_length];rfl
 have e0:zaC S st (.same a b)=(zaL st.T [a,b]).bind fun x=>(zb1 st.A (x.2.getD 0 0) (x.2.getD 1 0)).bind fun y=>.ok (⟨x.1,y.1,st.R,st.tr⟩,(y.2:Int)):=by simp only[zaC]
 rw[e0]at q1 q2
 refine⟨l,rfl,⟨_,SqL.of hl⟩,fun D hD=>?_⟩
 have nDt:D≠tl:=Ne.symm (zaa ht hD)
 obtain⟨_,_,nDa,nDr⟩:=N1.old hD
 refine zdd zbI (fun i us H'=>∃ x,zaL st.T ([a,b].take i)=.ok x∧Fr1 H1 H' tl∧zaJ K C H' p tl al rl x.1 st.A st.R∧us=x.2.map V.int) (fun i us H' ⟨_,_,f1,_⟩=>SqL.of (keep f1)) ⟨_,rfl,Fr1.of_same (ah hD _),pr1.same (ah hD _),rfl⟩ ?_ ?_
 ·rintro i us H8 x H4 hi hly hDs ⟨y,ey,f4,S4,rfl⟩ ⟨rfl,hx4⟩
  obtain⟨u,hu,hxu⟩:=F74.trs_get (hx.keep (f4.keepT ht) (F74.nols_dTrs _)) (hx4 _ (SqL.of (keep f4)))
  change [a,b][i]?=some u at hu
  have um:u∈[a,b]:=List.mem_of_getElem? hu
  have okab:=Y.ok
  have lfab:=Y.lf
  simp only[FOk]at okab
  simp only[LFm]at lfab
  have du:F74.dp u≤3∧LTr u:=by
   simp only[List.mem_cons,List.not_mem_nil,or_false]at um
   rcases um with rfl | rfl
   ·exact⟨okab.1,lfab.1⟩
   ·exact⟨okab.2,lfab.2⟩
  have l4:=(zbG t60 _ ey).1
  have sn:=zeT hu ey
  refine⟨_,rfl,na,CZ,dx1,_,_,rfl,f4 _ _ hn1 nt,Z.cl,Z.nP,zbz _ _ _,_,rfl,p,tl,al,rl,_,st.A,st.R,u,x,rfl,S4,hxu,du.1,du.2,l4,fun z ez H5 S5 f5=>?_,fun e eb H5 f5=>q2 e ?_ H5 ((FrN.of_same s1).trans (FrN.of1 (f4.trans f5)))⟩
  ·have hD5:=f5 _ _ hDs nDt
   have S6:=fun o'=>S5.keep (z:=D) (H':=upd H5 D o') (fun c o hc hn=>by rw[ao hn];exact hc) hD5 nDt nDa nDr
   rw[ez]at sn
   refine zb5 (sz _ (by omega)) hi hly hD5 ⟨_,sn,fun c o hc hn=>?_,S6 _,by rw[List.map_append];rfl⟩
   rw[ao (fun e=>by rw[e,hD]at hc;cases hc)]
   exact f5 _ _ (f4 _ _ hc hn) hn
  ·rw[eb]at sn
   rw[zfY sn]
   rfl
 ·rintro us H4 hDs ⟨y,ey,f4,S4,rfl⟩
  rw[xl]at ey
  change zaL st.T [a,b]=Rl.ok y at ey
  obtain⟨l4,small,_,al3⟩:=zbG t60 _ ey
  obtain⟨⟨dx4,ho4⟩,_⟩:=id S4
  rw[ey]at q1 q2
  simp only[Rl.okb]at q1 q2
  obtain⟨T4,ks⟩:=y
  dsimp only at *
  match ks,al3,small,q1,q2,hDs with
  | [k0,k1],_,small,q1,q2,hDs =>
  have i0:=small k0 (by simp)
  have i1:=small k1 (by simp)
  have at0:atI ([k0,k1].map V.int) 0=some (.int k0):=zah (j:=0) rfl
  have at1:atI ([k0,k1].map V.int) 1=some (.int k1):=zah (j:=1) rfl
  refine⟨_,rfl,na,CZ,dx1,_,_,rfl,f4 _ _ hn1 nt,Z.cl,Z.nP,zbz _ _ _,p,dx4,_,rfl,ho4,zfx _ _ _,_,rfl,D,_,_,_,rfl,rfl,SqL.of hDs,at0,_,rfl,D,_,_,_,rfl,rfl,SqL.of hDs,at1,?_⟩
  have f0:FrN H H4 na tl al rl:=(FrN.of_same s1).trans (FrN.of1 f4)
  refine ziG S4 l4 Y.fit.a i0 i1 (fun x ex H5 S5 f5=>q1 (⟨T4,x.1,st.R,st.tr⟩,(x.2:Int)) (by show(zb1 st.A k0 k1).bind _=_;rw[ex];rfl) H5 ?_ (f0.trans (FrN.of2 f5))) (fun e ee H5 s5=>q2 e (by show(zb1 st.A k0 k1).bind _=_;rw[ee];rfl) H5 (f0.trans (FrN.of_same s5)))
  exact N1.prob S5 fun b o e n5 n6 n7=>f5 _ _ (f4 _ _ e n5) n6 n7
end
end K74
namespace K74
open PySem L2
open F74 (Tr Fm dTr zax dFm FOk fdp zaF zbR)
abbrev NU:List Str:=["self","formula","terms","sames","place","one","new"]
theorem zic {xs:List V} {m:Nat} (h:m≤xs.length):zbx xs (some (m:Int)) none=xs.drop m:=by
 unfold zbx
 rw[HT.sIx_nat,HT.sIx_none,Nat.min_eq_left h]
 rw[List.take_of_length_le (by rw[List.length_drop];exact Nat.le_refl _)]
theorem zhf {ks:List Int} {m:Nat} (h:m≤ks.length):zbx (ks.map V.int) (some (m:Int)) none=(ks.drop m).map V.int:=by
 rw[zic (by rw[List.length_map];exact h),List.map_drop]
theorem zeu {α:Type} {xs:List α} {i:Nat} {x:α} (h:xs[i]?=some x):xs.drop i=x :: xs.drop (i+1):=by
 obtain⟨hi,e⟩:=List.getElem?_eq_some_iff.mp h
 rw[List.drop_eq_getElem_cons hi,e]
theorem zkh {A0 A:List At} {a b:Int} {bs bs0 us:List Int} (e:zbB A0 a bs0=(zbB A a (b :: bs)).bind fun y=>.ok (y.1,us++y.2)) {x:List At × Nat} (h:zb1 A a b=.ok x):zbB A0 a bs0=(zbB x.1 a bs).bind fun y=>.ok (y.1,(us++[(x.2:Int)])++y.2):=by
 rw[e]
 simp only[zbB,h,Rl.okb,Rl.bind_assoc,List.append_assoc,List.singleton_append]
theorem zki {A0 A:List At} {a b:Int} {bs bs0 us:List Int} (e:zbB A0 a bs0=(zbB A a (b :: bs)).bind fun y=>.ok (y.1,us++y.2)) {c:Bool} (h:zb1 A a b=.er c):zbB A0 a bs0=.er c:=by
 rw[e]
 simp only[zbB,h,Rl.erb]
theorem zit {A0 A:List At} {a:Int} {as as0 us:List Int} (e:zaV A0 as0=(zaV A (a :: as)).bind fun y=>.ok (y.1,us++y.2)) {x:List At × List Int} (h:zbB A a as=.ok x):zaV A0 as0=(zaV x.1 as).bind fun y=>.ok (y.1,(us++x.2)++y.2):=by
 rw[e]
 simp only[zaV,h,Rl.okb,Rl.bind_assoc,List.append_assoc]
theorem ziu {A0 A:List At} {a:Int} {as as0 us:List Int} (e:zaV A0 as0=(zaV A (a :: as)).bind fun y=>.ok (y.1,us++y.2)) {c:Bool} (h:zbB A a as=.er c):zaV A0 as0=.er c:=by
 rw[e]
 simp only[zaV,h,Rl.erb]
theorem tri5 {n:Nat} (h:n≤5):tri n≤10:=by
 match n,h with
 | 0,_=>decide
 | 1,_=>decide
 | 2,_=>decide
 | 3,_=>decide
 | 4,_=>decide
 | 5,_=>decide
theorem zaX.putL {K:W.Frag} {C CZ na p tl al rl dk z:Addr} {H:Hp} {S:List Str} {st:St} {zs us:List V} (h:zaX K CZ C H na p tl al rl dk S st) (hz:H z=some (.lst zs)) (n1:z≠tl) (n2:z≠al) (n3:z≠rl):zaX K CZ C (upd H z (.lst us)) na p tl al rl dk S st:=by
 obtain⟨⟨dx,h1⟩,h2,⟨kvs,h3,h4⟩,h5⟩:=h
 refine⟨⟨dx,?_⟩,h2.keep (z:=z) (fun c o hc hne=>by rw[ao hne];exact hc) hz n1 n2 n3,⟨kvs,?_,h4⟩,h5⟩
 ·rw[ao (fun e=>by rw[e,hz]at h1;cases h1)]
  exact h1
 ·rw[ao (fun e=>by rw[e,hz]at h3;cases h3)]
  exact h3
section
variable {P:Program} {w:World} {K:W.Frag} {mg:Str→Option Value} {base:Heap} {aK C CN CT CP CM CZ:Addr} {f fN fP fW fT fD fE:Addr} {fd dN dP dW dT' dD dE:FuncData} {fI fA fQ fS fR:Addr} {dI dA' dQ dS dR':FuncData}
theorem zcL:zac NU ["self","formula"] (aj zan):=⟨rfl,rfl,rfl,by decide +kernel,rfl,by decide +kernel,by decide +kernel⟩
theorem unl3 (Z:TxZ K mg CZ) (G:OwN P w K mg base CZ C CN CM fP fW dP dW) {cdv:Value} {A:Around} {outer:List Env} {s:Shared} {H0:Hp} {E:XK} (hr:aH 5 (A.deeper (PyProof.Rows.envOfC "Namer.unlike_part" (aj zan) s.heap.objs.size f cdv))) :
  ∃ t,PSs (zbg (CX1 P w) P w K mg base NU "Namer.unlike_part" (aj zan) f cdv A outer s H0 E) ((zaw zan).drop 3) t ∧
   ∀(Dn:za3) (H:Hp) (na p tl al rl dk ls:Addr) (S:List Str) (st:St) (sm:List Int) (v1 v2 v4 v5:Option V),zaX K CZ C H na p tl al rl dk S st→Fit S st→Few S→H ls=some (.lst (sm.map V.int))→ls≠tl→ls≠al→ls≠rl→sm.length≤10→(∀ k∈sm,1≤k∧k≤(st.A.length:Int)) →
    ToN K CZ C CN CM H na p tl al rl dk S (fun v H'=>Dn.rt v H') E ((zcZ S st).bind fun z=>(zbN z.1.R (sm.map fun s=>[-(z.2:Int),-s])).bind fun R=>(zbN R [(z.2:Int) :: sm]).bind fun R'=>.ok (⟨z.1.T,z.1.A,R',z.1.tr⟩,(z.2:Int))) →
    t Dn [some (.ref na),v1,v2,some (.ref ls),v4,v5,none] H:=by
 refine⟨_,(ae (az (i:=6) zcL.nd rfl (Or.inr rfl) (zfT (pv 0) Z.cl G.mW G.W hr G.bW .nil (zav xe1)))
  (ae (zau (zaG (pv 0) Z.cl G.mP G.P' hr G.bP .nil (zav xe1) (aa (zfm (N':=["same","new"]) (ix:=[6]) rfl rfl (by decide +kernel) (by decide +kernel) rfl (fun ok=>zcx (sc:=aj zan) ok rfl (by decide +kernel) (by decide +kernel)) (by decide +kernel) rfl rfl (fun j i h=>match j,h with | 0,h=>by cases h;exact⟨_,rfl,rfl,.inl rfl,.inl rfl⟩ | n+1,h=>by simp at h) (zbJ (pv 3)) (fun _ _ _ _=>(zae (aa (zas zak (pv 1)) (aa (zas zak (pv 0)) ac))))) ac)))
  (ae (zau (zaG (pv 0) Z.cl G.mP G.P' hr G.bP .nil (zav xe1) (aa (zag (aa (aw zbO (zag (aa (pv 6) ac)) (pv 3)) ac)) ac)))
  (ai (ay (pv 6)))))),?_⟩
 intro Dn H na p tl al rl dk ls S st sm v1 v2 v4 v5 N F W hls l2 l3 l4 s10 rg ⟨q1,q2⟩
 obtain⟨⟨dx,hn⟩,_⟩:=id N
 have l1:ls≠na:=fun z=>by rw[z,hn]at hls;cases hls
 have b1:=F.n
 have b2:=F.a
 obtain⟨j,hj,free⟩:=zdO W (t:=st.tr) (by omega)
 refine⟨_,rfl,na,dx,_,rfl,hn,zek _ _ _,na,p,tl,al,rl,dk,S,st,j,rfl,N,b2,by omega,hj,free,fun x e H1 N1 f1=>?_,fun b e H1 f1=>q2 b (Rl.er_any e _) H1 f1⟩
 obtain⟨y,e1,e2⟩:=Rl.bind_ok e
 cases e2
 obtain⟨ey,lt,F1⟩:=zdx F W e1
 have la:y.1.A.length=st.A.length+1:=by rw[ey];simp
 have l2':y.2=st.A.length+1:=by rw[ey]
 rw[e1]at q1 q2
 simp only[Rl.okb]at q1 q2
 have hls1:=f1 _ _ hls l1 l2 l3 l4
 obtain⟨⟨dx1,hn1⟩,_⟩:=id N1
 refine⟨_,rfl,na,dx1,_,rfl,hn1,zcy _ _ _,_,rfl,ls,rfl,⟨_,SqL.of hls1⟩,fun D hD=>?_⟩
 have keep:∀ {H':Hp},ap H1 H'→H' ls=some (.lst (sm.map V.int)):=fun s'=>s' _ _ hls1
 refine zdd zbI (fun i us H'=>ap H1 H'∧∃ ps:List (Addr × List Int),us=(ps.map fun x=>V.ref x.1)∧ps.map (·.2)=(sm.take i).map (fun s=>[-(y.2:Int),-s])∧∀ x∈ps,H1 x.1=none∧x.1≠D∧H' x.1=some (.tup (x.2.map V.int))) (fun i us H' ⟨s',_⟩=>SqL.of (keep s')) ⟨ah hD _,[],rfl,by simp,fun x hx=>nomatch hx⟩ ?_ ?_
 ·rintro i us H8 x H4 hi hly hDs ⟨s4,ps,rfl,es,hps⟩ ⟨rfl,hx4⟩
  have hx5:=hx4 _ (SqL.of (keep s4))
  rw[List.getElem?_map]at hx5
  obtain⟨k,hk,rfl⟩:=Option.map_eq_some_iff.mp hx5
  refine⟨_,rfl,_,rfl,_,rfl,_,rfl,lS2,fun t ht=>?_⟩
  have nDt:D≠t:=fun z=>by rw[z,ht]at hDs;cases hDs
  have s5:ap H4 (upd H4 t (.tup [V.int (-(y.2:Int)),V.int (-k)])):=ah ht _
  have n5:=ad (H:=H4) (a:=t) (o:=.tup [V.int (-(y.2:Int)),V.int (-k)])
  generalize upd H4 t (.tup [V.int (-(y.2:Int)),V.int (-k)])=H5 at s5 n5
  have sml:sm.length=(sm.map V.int).length:=by rw[List.length_map]
  refine zb5 (sz _ (by omega)) hi hly (s5 _ _ hDs) ⟨(s4.trans s5).upd hD,ps++[(t,[-(y.2:Int),-k])],by rw[List.map_append];rfl,by rw[List.map_append,es,zbP hk,List.map_append];rfl,fun x hx=>?_⟩
  rcases List.mem_append.mp hx with hx | hx
  ·obtain⟨a1,a2,a3⟩:=hps x hx
   exact⟨a1,a2,by rw[ao a2];exact s5 _ _ a3⟩
  ·rw[List.mem_singleton.mp hx]
   exact⟨s4.free ht,Ne.symm nDt,by rw[ao (Ne.symm nDt)];exact n5⟩
 rintro us H4 hDs ⟨s4,ps,rfl,es,hps⟩
 rw[List.length_map,List.take_length]at es
 have nr:zcr H1 H4 D (sm.map fun s=>[-(y.2:Int),-s]):=⟨s4,hD,ps,hDs,es,fun x hx=>⟨(hps x hx).1,(hps x hx).2.2⟩⟩
 refine⟨na,p,tl,al,rl,dk,D,S,y.1,_,rfl,N1.same s4,nr.rows N1 (by rw[List.length_map];omega) (fun r hr'=>?_),F1.a,F1.r,fun R eR H5 N5 f5=>?_,fun b eb H5 f5=>q2 b (by rw[eb];rfl) H5 (f1.trans ((FrN.of_same s4).trans f5))⟩
 ·obtain⟨k,hk,rfl⟩:=List.mem_map.mp hr'
  refine⟨by show 2≤20;decide,fun z hz=>?_⟩
  have:=rg k hk
  simp only[List.mem_cons,List.not_mem_nil,or_false]at hz
  rcases hz with rfl | rfl
  ·exact zaD.mpr (by omega)
  ·exact zaD.mpr (by omega)
 rw[eR]at q1 q2
 simp only[Rl.okb]at q1 q2
 have f05:FrN H H5 na tl al rl:=f1.trans ((FrN.of_same s4).trans f5)
 obtain⟨⟨dx5,hn5⟩,_⟩:=id N5
 have hls5:=f05 _ _ hls l1 l2 l3 l4
 refine⟨_,rfl,na,dx5,_,rfl,hn5,zcy _ _ _,_,rfl,lS1,fun b1 hb1=>?_⟩
 have s6:ap H5 (upd H5 b1 (.lst [V.int (y.2:Int)])):=ah hb1 _
 have n6:=ad (H:=H5) (a:=b1) (o:=.lst [V.int (y.2:Int)])
 generalize upd H5 b1 (.lst [V.int (y.2:Int)])=H6 at s6 n6
 refine⟨_,rfl,b1,ls,_,_,rfl,rfl,n6,s6 _ _ hls5,sz _ (by rw[List.length_map,List.length_singleton];omega),fun b2 hb2=>?_⟩
 have s7:ap H6 (upd H6 b2 (.lst ([V.int (y.2:Int)]++sm.map V.int))):=ah hb2 _
 have n7:=ad (H:=H6) (a:=b2) (o:=.lst ([V.int (y.2:Int)]++sm.map V.int))
 generalize upd H6 b2 (.lst ([V.int (y.2:Int)]++sm.map V.int))=H7 at s7 n7
 refine⟨lS1,fun b3 hb3=>?_⟩
 have s8:ap H7 (upd H7 b3 (.lst [V.ref b2])):=ah hb3 _
 have n8:=ad (H:=H7) (a:=b3) (o:=.lst [V.ref b2])
 generalize upd H7 b3 (.lst [V.ref b2])=H8 at s8 n8
 have s58:=(s6.trans s7).trans s8
 have fb2:=N5.old (s6.free hb2)
 have fb3:=N5.old (s6.free (s7.free hb3))
 obtain⟨rR,r200⟩:=zdM eR
 refine⟨na,p,tl,al,rl,dk,b3,S,⟨y.1.T,y.1.A,R,y.1.tr⟩,[(y.2:Int) :: sm],rfl,N5.same s58,⟨[(b2,(y.2:Int) :: sm)],n8,rfl,fb3.2.1,fb3.2.2.1,fb3.2.2.2,by show 1≤100;decide,fun x hx=>?_⟩,F1.a,r200,fun R' eR' H9 N9 f9=>?_,fun b eb H9 f9=>q2 b (by rw[eb];rfl) H9 (f05.trans ((FrN.of_same s58).trans f9))⟩
 ·rw[List.mem_singleton.mp hx]
  refine⟨.inl (s8 _ _ n7),fb2.2.1,fb2.2.2.1,fb2.2.2.2,by simp only[List.length_cons];omega,fun k hk=>?_⟩
  rcases List.mem_cons.mp hk with rfl | hk
  ·exact zaD.mpr (by show _∧_≤((y.1.A.length:Nat):Int)∧_;omega)
  ·have:=rg k hk
   exact zaD.mpr (by show _∧_≤((y.1.A.length:Nat):Int)∧-((y.1.A.length:Nat):Int)≤_;omega)
 ·exact⟨_,rfl,q1 (⟨y.1.T,y.1.A,R',y.1.tr⟩,(y.2:Int)) (by rw[eR'];rfl) H9 N9 (f05.trans ((FrN.of_same s58).trans f9))⟩
theorem unl2 (T:Txt K mg aK C CN CT CP CM) (TN:TxN mg) (Z:TxZ K mg CZ) (G:Own P w K mg base C CN CT CP CM fI fA fQ fS fR dI dA' dQ dS dR') (GN:OwN P w K mg base CZ C CN CM fP fW dP dW) {cdv:Value} {A:Around} {outer:List Env} {s:Shared} {H0:Hp} {E:XK} (hr:aH 5 (A.deeper (PyProof.Rows.envOfC "Namer.unlike_part" (aj zan) s.heap.objs.size f cdv))) :
  ∃ t,PSs (zbg (CX1 P w) P w K mg base NU "Namer.unlike_part" (aj zan) f cdv A outer s H0 E) ((zaw zan).drop 1) t ∧
   ∀(Dn:za3) (H:Hp) (na p tl al rl dk D:Addr) (S:List Str) (st:St) (ks:List Int) (v1:Option V),zaX K CZ C H na p tl al rl dk S st→Fit S st→Few S→H D=some (.lst (ks.map V.int))→D≠tl→D≠al→D≠rl→ks.length≤5→(∀ k∈ks,0≤k∧k < (st.T.length:Int)) →
    ToN K CZ C CN CM H na p tl al rl dk S (fun v H'=>Dn.rt v H') E ((zaV st.A ks).bind fun y=>(zcZ S ⟨st.T,y.1,st.R,st.tr⟩).bind fun z=>(zbN z.1.R (y.2.map fun s=>[-(z.2:Int),-s])).bind fun R=>(zbN R [(z.2:Int) :: y.2]).bind fun R'=>.ok (⟨z.1.T,z.1.A,R',z.1.tr⟩,(z.2:Int))) →
    t Dn [some (.ref na),v1,some (.ref D),none,none,none,none] H:=by
 have hr4:aH 4 _:=hr.mono (by decide)
 obtain⟨t3,h3,g3⟩:=unl3 (f:=f) (outer:=outer) (H0:=H0) (E:=E) (base:=base) Z GN hr
 refine⟨_,(ae (az (i:=3) zcL.nd rfl (Or.inl rfl) (zag ac))
  (ae (zbp PassesOwn.leaving rfl (zlk rfl TN.enumerate (aa (pv 2) ac)) (pg_tup rfl (zhX (zaO (i:=4) zcL.nd rfl (Or.inl rfl)) (zhX (zaO (i:=5) zcL.nd rfl (Or.inr rfl)) zll)))
   (ai (zau (zbH PySem.F.plainAttrs_list PySem.F.slot_list_extend PySem.F.type_list_extend zkl (pv 3) (aa (pe_lcX (N':=["other","one","self"]) (ix:=[5,0]) xe1 rfl rfl (by decide +kernel) (by decide +kernel) rfl (fun ok=>zcx (sc:=aj zan) ok rfl (by decide +kernel) (by decide +kernel)) (by decide +kernel) rfl rfl (fun j i h=>match j,h with | 0,h=>by cases h;exact⟨_,rfl,rfl,.inl rfl,.inl rfl⟩ | 1,h=>by cases h;exact⟨_,rfl,rfl,.inl rfl,.inl rfl⟩ | n+2,h=>by simp at h) (zbJ (zba zco (pv 2) (zbq (aw za9 (pv 4) ag)) zbr)) (fun _ _ _ _ _ hp=>(zaG (zgF K rfl (pv 2) rfl) T.cl G.mS G.S hr4 G.bS .nil hp (aa (pv 1) (aa (pv 0) ac))))) ac)))))
  h3)),?_⟩
 intro Dn H na p tl al rl dk D S st ks v1 N F W hD d2 d3 d4 k5 rg q
 obtain⟨⟨dx,hn⟩,pr0,_⟩:=id N
 have d1:D≠na:=fun z=>by rw[z,hn]at hD;cases hD
 refine⟨lS0,fun ls nls=>?_⟩
 obtain⟨ln,lt,la,lr⟩:=N.old nls
 have s1:ap H (upd H ls (.lst [])):=ah nls _
 have n1:=ad (H:=H) (a:=ls) (o:=.lst [])
 have keep:∀ {H':Hp},FrN H H' na tl al rl→H' D=some (.lst (ks.map V.int)):=fun f=>f _ _ hD d1 d2 d3 d4
 have kl:ks.length=(ks.map V.int).length:=by rw[List.length_map]
 refine⟨_,rfl,D,rfl,⟨_,SqL.of (s1 _ _ hD)⟩,zcW zk9 (fun i σ H'=>∃(v4 v5:Option V) (A':List At) (sm:List Int),σ=[some (.ref na),v1,some (.ref D),some (.ref ls),v4,v5,none]∧FrN H H' na tl al rl∧zaX K CZ C H' na p tl al rl dk S ⟨st.T,A',st.R,st.tr⟩∧zef st.A A'∧H' ls=some (.lst (sm.map V.int))∧sm.length≤5 * i∧zaV st.A ks=(zaV A' (ks.drop i)).bind fun y=>.ok (y.1,sm++y.2)) (fun i σ H' ⟨_,_,_,_,_,f',_⟩=>SqL.of (keep f'))
  ⟨none,none,st.A,[],rfl,FrN.of_same s1,N.same s1,⟨Nat.le_refl _,F.a,fun _ z=>z⟩,n1,Nat.le_refl _,?_⟩ ?_ ?_⟩
 ·rw[List.drop_zero]
  cases zaV st.A ks <;> rfl
 ·rintro i σ H2 x H3 hi ⟨v4,v5,A',sm,rfl,f2,N2,m2,hs2,l2,e2⟩ ⟨t,y,rfl,ht,rfl,hy⟩
  have hy':=hy _ (SqL.of (keep f2))
  rw[List.getElem?_map]at hy'
  obtain⟨k,hk,rfl⟩:=Option.map_eq_some_iff.mp hy'
  have kin:=rg k (List.mem_of_getElem? hk)
  have s3:ap H2 (upd H2 t (.tup [.int i,.int k])):=ah ht _
  have n3:=ad (H:=H2) (a:=t) (o:=.tup [.int i,.int k])
  generalize upd H2 t (.tup [.int i,.int k])=H3 at s3 n3
  have hi':i < ks.length:=by omega
  rw[zeu hk]at e2
  refine⟨t,_,rfl,SqT.of n3,rfl,_,_,rfl,_,_,rfl,rfl,?_⟩
  have hD3:=s3 _ _ (keep f2)
  have hs3:=s3 _ _ hs2
  refine⟨_,rfl,.inl ⟨rfl,_,SqL.of hs3⟩,_,rfl,_,rfl,_,_,rfl,rfl,_,rfl,D,_,rfl,SqL.of hD3,fun c hc=>?_⟩
  have ec:zbx (ks.map V.int) (some ((i:Int)+1)) none=(ks.drop (i+1)).map V.int:=zhf (m:=i+1) (by omega)
  rw[ec]
  have s4:ap H3 (upd H3 c (.lst ((ks.drop (i+1)).map V.int))):=ah hc _
  have n4:=ad (H:=H3) (a:=c) (o:=.lst ((ks.drop (i+1)).map V.int))
  generalize upd H3 c (.lst ((ks.drop (i+1)).map V.int))=H4 at s4 n4
  have s24:=s3.trans s4
  have N4:=N2.same s24
  obtain⟨⟨dx4,hn4⟩,pr4,_⟩:=id N4
  obtain⟨c1,c2,c3,c4⟩:=N2.old (s3.free hc)
  refine⟨c,rfl,⟨_,SqL.of n4⟩,fun U hU=>?_⟩
  obtain⟨u1,u2,u3,u4⟩:=N4.old hU
  have hU2:=s24.free hU
  have uls:ls≠U:=fun z=>by rw[z,hU2]at hs2;cases hs2
  have kc:∀ {H':Hp},Fr2 H4 H' al rl→H' c=some (.lst ((ks.drop (i+1)).map V.int)):=fun f=>f _ _ n4 c3 c4
  have dl:((ks.drop (i+1)).map V.int).length≤5:=by rw[List.length_map,List.length_drop];omega
  have nna:∀ {xs:List V} {z:Addr},H4 z=some (.lst xs)→na≠z:=fun e z=>by rw[z,e]at hn4;cases hn4
  obtain⟨_,⟨_,t4,_⟩,⟨_,a4,_⟩,⟨_,r4,_⟩,_⟩:=id pr4
  refine zdd zbI (fun j us H'=>∃(A2:List At) (ms:List Int),us=ms.map V.int∧Fr2 H4 H' al rl∧zaJ K C H' p tl al rl st.T A2 st.R∧zef A' A2∧zbB A' k (ks.drop (i+1))=(zbB A2 k ((ks.drop (i+1)).drop j)).bind fun y=>.ok (y.1,ms++y.2)) (fun j us H' ⟨_,_,_,f',_⟩=>SqL.of (kc f')) ⟨A',[],rfl,Fr2.of_same (ah hU _),pr4.same (ah hU _),⟨Nat.le_refl _,m2.a,fun _ z=>z⟩,?_⟩ ?_ ?_
  ·rw[List.drop_zero]
   cases zbB A' k (ks.drop (i+1)) <;> rfl
  ·rintro j us H8 x H6 hj hly hUs ⟨A2,ms,rfl,f6,pr6,m6,e6⟩ ⟨rfl,hx6⟩
   have hx':=hx6 _ (SqL.of (kc f6))
   rw[List.getElem?_map]at hx'
   obtain⟨b,hb,rfl⟩:=Option.map_eq_some_iff.mp hx'
   have bin:=rg b (List.mem_of_mem_drop (List.mem_of_getElem? hb))
   rw[zeu hb]at e6
   obtain⟨⟨dx6,hp6⟩,_⟩:=id pr6
   refine⟨_,rfl,na,CZ,dx4,_,_,rfl,f6 _ _ hn4 (nna a4) (nna r4),Z.cl,Z.nP,zbz _ _ _,p,dx6,_,rfl,hp6,zfx _ _ _,_,rfl,_,rfl,ziG pr6 F.t m6.a kin bin (fun z ez H7 pr7 f7=>?_) (fun e ee H7 s7=>?_)⟩
   ·obtain⟨m7,z1,z2⟩:=zeE ez m6.a
    have hU7:=f7 _ _ hUs u3 u4
    refine zb5 (sz _ (by omega)) hj hly hU7 ⟨z.1,ms++[(z.2:Int)],by rw[List.map_append];rfl,fun c' o hc' h1 h2=>?_,pr7.keep (z:=U) (fun c' o hc' hne=>by rw[ao hne];exact hc') hU7 u2 u3 u4,m6.trans m7,zkh e6 ez⟩
    rw[ao (fun e=>by rw[e,hU]at hc';cases hc')]
    exact f7 _ _ (f6 _ _ hc' h1 h2) h1 h2
   ·refine q.2 e (by rw[ziu e2 (zki e6 ee)];rfl) H7 (f2.trans ((FrN.of_same s24).trans ((FrN.of2 f6).trans (FrN.of_same s7))))
  ·rintro us H6 hUs ⟨A2,ms,rfl,f6,pr6,m6,e6⟩
   rw[List.length_map,List.drop_length]at e6
   simp only[zbB,Rl.okb,List.append_nil]at e6
   obtain⟨_,_,ml⟩:=zfp e6 m2.a
   rw[List.length_drop]at ml
   have nl:ls≠al∧ls≠rl:=⟨la,lr⟩
   have hs6:=f6 _ _ (s24 _ _ hs2) la lr
   dsimp only at ml
   refine⟨ls,U,_,_,rfl,rfl,hs6,hUs,sz _ (by rw[List.length_map,List.length_map];omega),_,_,A2,sm++ms,rfl,fun b o hb h1 h2 h3 h4=>?_,?_,m2.trans m6,by rw[List.map_append];exact ad,by rw[List.length_append];omega,zit e2 e6⟩
   ·rw[ao (fun e=>by rw[e,nls]at hb;cases hb)]
    exact f6 _ _ (s24 _ _ (f2 _ _ hb h1 h2 h3 h4)) h3 h4
   ·exact(N4.prob pr6 fun b o e _ h2 h3=>f6 _ _ e h2 h3).putL hs6 lt la lr
 ·rintro σ H2 ⟨v4,v5,A',sm,rfl,f2,N2,m2,hs2,l2,e2⟩
  rw[List.length_map,List.drop_length]at e2
  simp only[zaV,Rl.okb,List.append_nil]at e2
  obtain⟨_,kr,kl2⟩:=zd5 e2 F.a
  dsimp only at kr kl2
  obtain⟨q1,q2⟩:=q
  rw[e2]at q1 q2
  simp only[Rl.okb]at q1 q2
  exact g3 Dn H2 na p tl al rl dk ls S ⟨st.T,A',st.R,st.tr⟩ sm _ _ _ _ N2 (F.more F.t m2) W hs2 lt la lr (by rw[kl2];exact tri5 k5) kr ⟨fun x e H5 N5 f5=>q1 x e H5 N5 (f2.trans f5),fun b e H5 f5=>q2 b e H5 (f2.trans f5)⟩
set_option maxHeartbeats 1000000 in
theorem zj9 (F:Fun K "unlike_part" "Namer.unlike_part" zan f fd) (T:Txt K mg aK C CN CT CP CM) (TN:TxN mg) (Z:TxZ K mg CZ) (G:Own P w K mg base C CN CT CP CM fI fA fQ fS fR dI dA' dQ dS dR') (GN:OwN P w K mg base CZ C CN CM fP fW dP dW) (BT:FB P w K mg base CX0 1 "inner_trees" fT dT' ["formula"] (F74.sp_itrees K)) (BA:FB P w K mg base (CX1 P w) 8 "add_tree" fD dD ["problem","tree"] (zdr K C CN CM 3)):FnOk P w K mg base (CX1 P w) 9 f fd ["self","formula"] (zbL K CZ C CN CM fun g=>∃ ts,g=.unlike ts):=by
 refine Fun.okX F zcL (fun vs H Q E h=>?_) (fun cdv A outer s H vs Q E hr h=>?_)
 ·obtain⟨na,p,tl,al,rl,dk,S,st,g,v,rfl,_⟩:=h
  rfl
 obtain⟨na,p,tl,al,rl,dk,S,st,g,v,rfl,Y,⟨ts,rfl⟩,q1,q2⟩:=h
 have hr1:aH 1 _:=hr.mono (by decide)
 have hr5:aH 5 _:=hr.mono (by decide)
 obtain⟨t2,h2,g2⟩:=unl2 (f:=f) (outer:=outer) (H0:=H) (E:=E) (base:=base) T TN Z G GN hr5
 refine⟨_,(ae (zfd (i:=2) (N':=["tree","self"]) (ix:=[0]) xe1 zcL.nd rfl (Or.inl rfl) rfl rfl (by decide +kernel) (by decide +kernel) rfl (fun ok=>zcx (sc:=aj zan) ok rfl (by decide +kernel) (by decide +kernel)) (by decide +kernel) rfl rfl (fun j i h=>match j,h with | 0,h=>by cases h;exact⟨_,rfl,rfl,.inl rfl,.inl rfl⟩ | n+1,h=>by simp at h) (zbJ (aq BT.ok hr1 rfl BT.m BT.kp BT.b .nil aJ (aa (pv 1) ac))) (fun _ _ _ _ _ hp=>(aq BA.ok hr rfl BA.m BA.kp BA.b .nil hp (aa (zgF K rfl (pv 1) rfl) (aa (pv 0) ac)))))
  h2),?_⟩
 refine⟨_,rfl,.unlike ts,v,rfl,Y.h,Y.ok,fun H1 l xs s1 nl hl hx=>?_⟩
 have N1:=Y.N.same s1
 obtain⟨⟨dx1,hn1⟩,pr1,_,_⟩:=id N1
 obtain⟨_,n2,n3,n4⟩:=Y.N.old nl
 obtain⟨_,⟨tsv,ht,hT⟩,_⟩:=id pr1
 have keep:∀ {H'},Fr1 H1 H' tl→H' l=some (.lst xs):=fun f=>f _ _ hl n2
 have nt:na≠tl:=fun z=>by rw[z,ht]at hn1;cases hn1
 have t60:=Y.fit.t
 have lfab:=Y.lf
 simp only[LFm]at lfab
 have okab:=Y.ok
 simp only[FOk]at okab
 have xl:xs.length=ts.length:=by rw[←hx.length,F74.dTrs_length];rfl
 have e0:zaC S st (.unlike ts)=nUnl S st ts:=by simp only[zaC]
 rw[e0]at q1 q2
 unfold nUnl at q1 q2
 refine⟨l,rfl,⟨_,SqL.of hl⟩,fun D hD=>?_⟩
 have nDt:D≠tl:=Ne.symm (zaa ht hD)
 obtain⟨_,_,nDa,nDr⟩:=N1.old hD
 refine zdd zbI (fun i us H'=>∃ x,zaL st.T (ts.take i)=.ok x∧Fr1 H1 H' tl∧zaJ K C H' p tl al rl x.1 st.A st.R∧us=x.2.map V.int) (fun i us H' ⟨_,_,f1,_⟩=>SqL.of (keep f1)) ⟨_,rfl,Fr1.of_same (ah hD _),pr1.same (ah hD _),rfl⟩ ?_ ?_
 ·rintro i us H8 x H4 hi hly hDs ⟨y,ey,f4,S4,rfl⟩ ⟨rfl,hx4⟩
  obtain⟨u,hu,hxu⟩:=F74.trs_get (hx.keep (f4.keepT ht) (F74.nols_dTrs _)) (hx4 _ (SqL.of (keep f4)))
  change ts[i]?=some u at hu
  have um:u∈ts:=List.mem_of_getElem? hu
  have l4:=(zbG t60 _ ey).1
  have sn:=zeT hu ey
  refine⟨_,rfl,na,CZ,dx1,_,_,rfl,f4 _ _ hn1 nt,Z.cl,Z.nP,zbz _ _ _,_,rfl,p,tl,al,rl,_,st.A,st.R,u,x,rfl,S4,hxu,okab u um,lfab.1 u um,l4,fun z ez H5 S5 f5=>?_,fun e eb H5 f5=>q2 e ?_ H5 ((FrN.of_same s1).trans (FrN.of1 (f4.trans f5)))⟩
  ·have hD5:=f5 _ _ hDs nDt
   have S6:=fun o'=>S5.keep (z:=D) (H':=upd H5 D o') (fun c o hc hn=>by rw[ao hn];exact hc) hD5 nDt nDa nDr
   rw[ez]at sn
   refine zb5 (sz _ (by omega)) hi hly hD5 ⟨_,sn,fun c o hc hn=>?_,S6 _,by rw[List.map_append];rfl⟩
   rw[ao (fun e=>by rw[e,hD]at hc;cases hc)]
   exact f5 _ _ (f4 _ _ hc hn) hn
  ·rw[eb]at sn
   rw[zfY sn]
   rfl
 ·rintro us H4 hDs ⟨y,ey,f4,S4,rfl⟩
  rw[xl,List.take_length]at ey
  obtain⟨l4,small,_,al3⟩:=zbG t60 _ ey
  rw[ey]at q1 q2
  simp only[Rl.okb]at q1 q2
  have f0:FrN H H4 na tl al rl:=(FrN.of_same s1).trans (FrN.of1 f4)
  have N4:=N1.prob S4 fun b o e n5 n6 n7=>f4 _ _ e n5
  exact g2 _ H4 na p tl al rl dk D S ⟨y.1,st.A,st.R,st.tr⟩ y.2 _ N4 (Y.fit.more l4 ⟨Nat.le_refl _,Y.fit.a,fun _ z=>z⟩) Y.few hDs nDt nDa nDr (by omega) small ⟨fun x e H5 N5 f5=>q1 x e H5 N5 (f0.trans f5),fun b e H5 f5=>q2 b e H5 (f0.trans f5)⟩
end
end K74
namespace K74
open PySem L2
open F74 (Tr Fm dTr zax dFm FOk fdp zaF zbR)
section
variable {P:Program} {w:World} {K:W.Frag} {mg:Str→Option Value} {base:Heap} {aK C CN CT CP CM CZ:Addr} {f fF fN fP fW fT fD fE fR' fU fB fS':Addr} {fd dF dN dP dW dT' dD dE dR'' dU dB dS':FuncData} {fI fA fQ fS fR:Addr} {dI dA' dQ dS dR':FuncData}
theorem zeC:zac ["self","formula","one","other","new"] ["self","formula"] (aj zbY):=⟨rfl,rfl,rfl,by decide +kernel,rfl,by decide +kernel,by decide +kernel⟩
theorem zfI.keep {H H':Hp} {na p tl al rl dk:Addr} {S:List Str} {st st':St} {g:Fm} {v:V} (h:zfI K CZ C H na p tl al rl dk S st g v) (f:FrN H H' na tl al rl) (N:zaX K CZ C H' na p tl al rl dk S st') (F:Fit S st'):zfI K CZ C H' na p tl al rl dk S st' g v :=
 ⟨N,h.h.keep (h.N.kt f) (F74.nol_dFm _),h.ok,h.lf,F,h.few,h.pl⟩
theorem prF_ok {k:Str} {n a b:Int} {m:Nat} (hn:zaI m n=false) (ha:zaI m a=false) (hb:zaI m b=false):(prF k n a b).length≤100∧∀ r∈prF k n a b,r.length≤20∧∀ x∈r,zaI m x=false:=by
 have hn':=zaD.mp hn
 have ha':=zaD.mp ha
 have hb':=zaD.mp hb
 have nn:zaI m (-n)=false:=zaD.mpr (by omega)
 have an:zaI m (-a)=false:=zaD.mpr (by omega)
 have bn:zaI m (-b)=false:=zaD.mpr (by omega)
 unfold prF
 split
 ·refine⟨by show _≤100;simp,fun r hr=>?_⟩
  simp only[List.mem_cons,List.not_mem_nil,or_false]at hr
  rcases hr with rfl | rfl | rfl <;> refine⟨by simp,fun x hx=>?_⟩ <;> simp only[List.mem_cons,List.not_mem_nil,or_false]at hx
  ·rcases hx with rfl | rfl <;> assumption
  ·rcases hx with rfl | rfl <;> assumption
  ·rcases hx with rfl | rfl | rfl <;> assumption
 split
 ·refine⟨by show _≤100;simp,fun r hr=>?_⟩
  simp only[List.mem_cons,List.not_mem_nil,or_false]at hr
  rcases hr with rfl | rfl | rfl <;> refine⟨by simp,fun x hx=>?_⟩ <;> simp only[List.mem_cons,List.not_mem_nil,or_false]at hx
  ·rcases hx with rfl | rfl | rfl <;> assumption
  ·rcases hx with rfl | rfl <;> assumption
  ·rcases hx with rfl | rfl <;> assumption
 split
 ·refine⟨by show _≤100;simp,fun r hr=>?_⟩
  simp only[List.mem_cons,List.not_mem_nil,or_false]at hr
  rcases hr with rfl | rfl | rfl <;> refine⟨by simp,fun x hx=>?_⟩ <;> simp only[List.mem_cons,List.not_mem_nil,or_false]at hx
  ·rcases hx with rfl | rfl | rfl <;> assumption
  ·rcases hx with rfl | rfl <;> assumption
  ·rcases hx with rfl | rfl <;> assumption
 ·refine⟨by show _≤100;simp,fun r hr=>?_⟩
  simp only[List.mem_cons,List.not_mem_nil,or_false]at hr
  rcases hr with rfl | rfl | rfl | rfl <;> refine⟨by simp,fun x hx=>?_⟩ <;> simp only[List.mem_cons,List.not_mem_nil,or_false]at hx <;> rcases hx with rfl | rfl | rfl <;> assumption
theorem zg5 {m n:Nat} {k:Int} (h:zaI m k=false) (l:m≤n):zaI n k=false:=by
 have:=zaD.mp h
 exact zaD.mpr (by omega)
set_option maxHeartbeats 1000000 in
theorem zkO {n:Nat} (F:Fun K "pair_part" "Namer.pair_part" zbY f fd) (Z:TxZ K mg CZ) (GN:OwN P w K mg base CZ C CN CM fP fW dP dW) (BR:FB P w K mg base CX0 1 "pair_rows" fR' dR'' ["kind","new","one","other"] zgy)
  (IH:FnOk P w K mg base (CX1 P w) (2 * n+10) fF dF ["self","formula"] (zbL K CZ C CN CM fun g=>fdp g≤n)) (bF:ar K dF ["self","formula"] []) (mF:zbo K CZ "formula_part" fF):FnOk P w K mg base (CX1 P w) (2 * n+11) f fd ["self","formula"] (zbL K CZ C CN CM fun g=>(∃ k a b,g=.bin k a b)∧fdp g≤n+1):=by
 refine Fun.okX F zeC (fun vs H Q E h=>?_) (fun cdv A outer s H vs Q E hr h=>?_)
 ·obtain⟨na,p,tl,al,rl,dk,S,st,g,v,rfl,_⟩:=h
  rfl
 obtain⟨na,p,tl,al,rl,dk,S,st,g,v,rfl,Y,⟨⟨k,a,b,rfl⟩,hd⟩,q1,q2⟩:=h
 have hr1:aH 1 _:=hr.mono (by omega)
 have hr5:aH 5 _:=hr.mono (by omega)
 refine⟨_,(ae (az (i:=2) zeC.nd rfl (Or.inl rfl) (zaG (pv 0) Z.cl mF IH hr bF .nil (zav xe1) (aa (aA zaf (pv 1) ag (fun _ _=>rfl)) ac)))
  (ae (az (i:=3) zeC.nd rfl (Or.inl rfl) (zaG (pv 0) Z.cl mF IH hr bF .nil (zav xe1) (aa (aA zaf (pv 1) ag (fun _ _=>rfl)) ac)))
  (ae (az (i:=4) zeC.nd rfl (Or.inl rfl) (zfT (pv 0) Z.cl GN.mW GN.W hr5 GN.bW .nil (zav xe1)))
  (ae (zau (zaG (pv 0) Z.cl GN.mP GN.P' hr5 GN.bP .nil (zav xe1) (aa (aq BR.ok hr1 rfl BR.m BR.kp BR.b .nil aJ (aa (aA zaf (pv 1) ag (fun _ _=>rfl)) (aa (pv 4) (aa (pv 2) (aa (pv 3) ac))))) ac)))
  (ai (ay (pv 4))))))),?_⟩
 obtain⟨pf,xs,rfl,hp,hx⟩:=F74.fm_at Y.h
 simp only[F74.tlF]at hx
 obtain⟨va,vb,rfl,ha,hb⟩:=F74.HasL.two hx
 have a0:atI (V.str (F74.hdF (.bin k a b)) :: [va,vb]) 0=some (.str k):=zah (j:=0) rfl
 have a1:atI (V.str (F74.hdF (.bin k a b)) :: [va,vb]) 1=some va:=zah (j:=1) rfl
 have a2:atI (V.str (F74.hdF (.bin k a b)) :: [va,vb]) 2=some vb:=zah (j:=2) rfl
 simp only[fdp]at hd
 obtain⟨⟨dx,hn⟩,_⟩:=id Y.N
 have ok:=Y.ok
 have lf:=Y.lf
 simp only[FOk]at ok
 simp only[LFm]at lf
 have Ya:zfI K CZ C H na p tl al rl dk S st a va:=⟨Y.N,ha,ok.2.1,lf.1,Y.fit,Y.few,fun z hz=>Y.pl z (by simp [plF,hz])⟩
 have e0:zaC S st (.bin k a b)=(zaC S st a).bind fun x=>(zaC S x.1 b).bind fun y=>(zcZ S y.1).bind fun z=>zcY z (prF k z.2 x.2 y.2):=by simp only[zaC]
 rw[e0]at q1 q2
 refine⟨_,rfl,na,dx,_,rfl,hn,zcf _ _ _,_,rfl,pf,_,_,_,rfl,rfl,hp,a1,na,p,tl,al,rl,dk,S,st,a,va,rfl,Ya,by omega,fun x e1 H1 N1 f1=>?_,fun e ee H1 f1=>q2 e (by rw[ee];rfl) H1 f1⟩
 obtain⟨F1,le1,np1⟩:=zb2 Y.few Y.fit lf.1 Ya.pl e1
 have hp1:=(Y.N.kt f1).sq hp
 obtain⟨⟨dx1,hn1⟩,_⟩:=id N1
 have Yb:zfI K CZ C H1 na p tl al rl dk S x.1 b vb:=⟨N1,hb.keep (Y.N.kt f1) (F74.nol_dFm _),ok.2.2,lf.2,F1,Y.few,fun z hz=>Y.pl z (by simp [plF,hz])⟩
 rw[e1]at q1 q2
 simp only[Rl.okb]at q1 q2
 refine⟨_,rfl,na,dx1,_,rfl,hn1,zcf _ _ _,_,rfl,pf,_,_,_,rfl,rfl,hp1,a2,na,p,tl,al,rl,dk,S,x.1,b,vb,rfl,Yb,by omega,fun y e2 H2 N2 f2=>?_,fun e ee H2 f2=>q2 e (by rw[ee];rfl) H2 (f1.trans f2)⟩
 obtain⟨F2,le2,np2⟩:=zb2 Y.few F1 lf.2 Yb.pl e2
 have hp2:=(N1.kt f2).sq hp1
 have f02:=f1.trans f2
 obtain⟨⟨dx2,hn2⟩,_⟩:=id N2
 rw[e2]at q1 q2
 simp only[Rl.okb]at q1 q2
 have b1:=F2.n
 have b2:=F2.a
 obtain⟨j,hj,free⟩:=zdO Y.few (t:=y.1.tr) (by omega)
 refine⟨_,rfl,na,dx2,_,rfl,hn2,zek _ _ _,na,p,tl,al,rl,dk,S,y.1,j,rfl,N2,b2,by omega,hj,free,fun u e H3 N3 f3=>?_,fun c e H3 f3=>q2 c (Rl.er_any e _) H3 (f02.trans f3)⟩
 obtain⟨z,e3,e4⟩:=Rl.bind_ok e
 cases e4
 obtain⟨ez,lt,F3⟩:=zdx F2 Y.few e3
 have la:z.1.A.length=y.1.A.length+1:=by rw[ez];simp
 have l2:z.2=y.1.A.length+1:=by rw[ez]
 rw[e3]at q1 q2
 simp only[Rl.okb]at q1 q2
 unfold zcY at q1 q2
 have hp3:=(N2.kt f3).sq hp2
 have f03:=f02.trans f3
 obtain⟨⟨dx3,hn3⟩,_⟩:=id N3
 refine⟨_,rfl,na,dx3,_,rfl,hn3,zcy _ _ _,_,rfl,pf,_,_,_,rfl,rfl,hp3,a0,_,rfl,_,rfl,_,rfl,k,(z.2:Int),x.2,y.2,rfl,ok.1,fun H4 l nr=>?_⟩
 obtain⟨pl1,pl2⟩:=prF_ok (k:=k) (m:=z.1.A.length) (n:=(z.2:Int)) (a:=x.2) (b:=y.2) (zaD.mpr (by omega)) (zg5 np1 (by omega)) (zg5 np2 (by omega))
 refine⟨na,p,tl,al,rl,dk,l,S,z.1,_,rfl,N3.same nr.1,nr.rows N3 pl1 pl2,F3.a,F3.r,fun R' eR H5 N5 f5=>⟨_,rfl,q1 (⟨z.1.T,z.1.A,R',z.1.tr⟩,(z.2:Int)) (by rw[eR];rfl) H5 N5 (f03.trans ((FrN.of_same nr.1).trans f5))⟩,fun c eb H5 f5=>q2 c (by rw[eb];rfl) H5 (f03.trans ((FrN.of_same nr.1).trans f5))⟩
theorem zhT:zac ["self","formula","kind"] ["self","formula"] (aj zby):=⟨rfl,rfl,rfl,by decide +kernel,rfl,by decide +kernel,by decide +kernel⟩
theorem zjQ {g:Fm} (h:FOk g) (n1:¬F74.hdF g="plain") (n2:¬F74.hdF g="not") (n3:¬F74.hdF g="same") (n4:¬F74.hdF g="unlike"):(∃ z,g=.bare z)∨∃ k a b,g=.bin k a b:=by
 cases g with
 | plain z=>exact absurd rfl n1
 | bare z=>exact .inl ⟨z,rfl⟩
 | same a b=>exact absurd rfl n3
 | unlike ts=>exact absurd rfl n4
 | not f=>exact absurd rfl n2
 | bin k a b=>exact .inr ⟨k,a,b,rfl⟩
theorem len_tl {g:Fm} {H:Hp} {xs:List V} (h:HasL K H (F74.tlF g) xs):xs.length=(F74.tlF g).length:=h.length.symm
set_option maxHeartbeats 1000000 in
theorem formp (F:Fun K "formula_part" "Namer.formula_part" zby f fd) (T:Txt K mg aK C CN CT CP CM) (Z:TxZ K mg CZ) (G:Own P w K mg base C CN CT CP CM fI fA fQ fS fR dI dA' dQ dS dR') {n:Nat}
  (bF:ar K fd ["self","formula"] []) (mF:zbo K CZ "formula_part" f) (IH:FnOk P w K mg base (CX1 P w) (2 * n+10) f fd ["self","formula"] (zbL K CZ C CN CM fun g=>fdp g≤n))
  (oS:FnOk P w K mg base (CX1 P w) 9 fS' dS' ["self","formula"] (zbL K CZ C CN CM fun g=>∃ a b,g=.same a b)) (bS:ar K dS' ["self","formula"] []) (mS:zbo K CZ "same_part" fS')
  (oU:FnOk P w K mg base (CX1 P w) 9 fU dU ["self","formula"] (zbL K CZ C CN CM fun g=>∃ ts,g=.unlike ts)) (bU:ar K dU ["self","formula"] []) (mU:zbo K CZ "unlike_part" fU)
  (oB:FnOk P w K mg base (CX1 P w) 6 fB dB ["self","formula"] (zbL K CZ C CN CM fun g=>∃ z,g=.bare z)) (bB:ar K dB ["self","formula"] []) (mB:zbo K CZ "bare_part" fB)
  (oP:FnOk P w K mg base (CX1 P w) (2 * n+11) fP dP ["self","formula"] (zbL K CZ C CN CM fun g=>(∃ k a b,g=.bin k a b)∧fdp g≤n+1)) (bP:ar K dP ["self","formula"] []) (mP:zbo K CZ "pair_part" fP) :
  FnOk P w K mg base (CX1 P w) (2 * n+12) f fd ["self","formula"] (zbL K CZ C CN CM fun g=>fdp g≤n+1):=by
 refine Fun.okX F zhT (fun vs H Q E h=>?_) (fun cdv A outer s H vs Q E hr h=>?_)
 ·obtain⟨na,p,tl,al,rl,dk,S,st,g,v,rfl,_⟩:=h
  rfl
 obtain⟨na,p,tl,al,rl,dk,S,st,g,v,rfl,Y,hd,q⟩:=h
 have hr4:aH 4 _:=hr.mono (by omega)
 have hr6:aH 6 _:=hr.mono (by omega)
 have hr9:aH 9 _:=hr.mono (by omega)
 have hrn:aH (2 * n+10) _:=hr.mono (by omega)
 refine⟨_,(ae (az (i:=2) zhT.nd rfl (Or.inl rfl) (aA zaf (pv 1) ag (fun _ _=>rfl)))
  (ae (zal (av zaE (pv 2) au (aD _))
   (ai (ay (zaG (zaU (pv 0) rfl) T.cl G.mQ G.Q hr4 G.bQ .nil (zav xe1) (aa (aA zaf (pv 1) ag (fun _ _=>rfl)) ac))))
   zad)
  (ae (zal (av zaE (pv 2) au (aD _))
   (ai (ay (zas zak (zaG (pv 0) Z.cl mF IH hrn bF .nil (zav xe1) (aa (aA zaf (pv 1) ag (fun _ _=>rfl)) ac)))))
   zad)
  (ae (zal (av zaE (pv 2) au (aD _))
   (ai (ay (zaG (pv 0) Z.cl mS oS hr9 bS .nil (zav xe1) (aa (pv 1) ac))))
   zad)
  (ae (zal (av zaE (pv 2) au (aD _))
   (ai (ay (zaG (pv 0) Z.cl mU oU hr9 bU .nil (zav xe1) (aa (pv 1) ac))))
   zad)
  (ae (zal (av zaE (zam zai rfl T.len PySem.boot_len (aa (pv 1) ac)) ag (aD _))
   (ai (ay (zaG (pv 0) Z.cl mB oB hr6 bB .nil (zav xe1) (aa (pv 1) ac))))
   zad)
  (ai (ay (zaG (pv 0) Z.cl mP oP hr bP .nil (zav xe1) (aa (pv 1) ac)))))))))),?_⟩
 obtain⟨pf,xs,rfl,hp,hx⟩:=F74.fm_at Y.h
 have a0:atI (V.str (F74.hdF g) :: xs) 0=some (.str (F74.hdF g)):=zah (j:=0) rfl
 obtain⟨⟨dx,hn⟩,pr,_⟩:=id Y.N
 obtain⟨⟨dxp,hpo⟩,_⟩:=id pr
 have str:∀ {x y:Str},decide (V.str x=V.str y)=true→x=y:=fun h=>by
  have:=of_decide_eq_true h
  injection this
 have nst:∀ {x y:Str},¬decide (V.str x=V.str y)=true→¬x=y:=fun h e=>h (by rw[e];exact decide_eq_true rfl)
 refine⟨_,rfl,pf,_,_,_,rfl,rfl,hp,a0,_,rfl,rfl,_,rfl,aG (fun c1=>?_) (fun c1=>?_)⟩
 ·obtain⟨z,rfl⟩:=F74.hd_plain Y.ok (str c1)
  simp only[F74.tlF,HasL,Has]at hx
  obtain⟨_,_,rfl,rfl,rfl⟩:=hx
  have a1:atI [V.str (F74.hdF (.plain z)),V.str z] 1=some (.str z):=zah (j:=1) rfl
  refine⟨_,rfl,na,CZ,dx,_,_,rfl,hn,Z.cl,Z.nP,zbz _ _ _,p,dxp,_,rfl,hpo,zfl _ _ _,_,rfl,pf,_,_,_,rfl,rfl,hp,a1,p,tl,al,rl,_,_,_,z,rfl,pr,Y.lf,by have:=Y.fit.a;omega,?_⟩
  obtain⟨q1,q2⟩:=q
  simp only[zaC]at q1 q2
  unfold zcg at q1 q2
  unfold zc3
  cases g1:zaK z with
  | false =>
   rw[if_pos rfl]
   rw[if_pos g1]at q2
   exact fun H5 s5=>q2 _ rfl H5 (FrN.of_same s5)
  | true =>
   rw[if_neg (by decide)]
   rw[if_neg (by rw[g1];decide)]at q1 q2
   by_cases c:.plain z∈st.A
   ·rw[if_pos c]
    rw[if_pos c]at q1
    exact fun H5 S5 f5=>q1 _ rfl H5 (Y.N.prob S5 fun b o e _ n2 n3=>f5 _ _ e n2 n3) (FrN.of2 f5)
   ·rw[if_neg c]
    rw[if_neg c]at q1 q2
    by_cases c6:40≤st.A.length
    ·rw[if_pos c6]
     rw[if_pos c6]at q2
     exact fun H5 s5=>q2 _ rfl H5 (FrN.of_same s5)
    ·rw[if_neg c6]
     rw[if_neg c6]at q1
     exact fun H5 S5 f5=>q1 _ rfl H5 (Y.N.prob S5 fun b o e _ n2 n3=>f5 _ _ e n2 n3) (FrN.of2 f5)
 refine⟨_,rfl,rfl,_,rfl,aG (fun c2=>?_) (fun c2=>?_)⟩
 ·obtain⟨g',rfl⟩:=F74.hd_not Y.ok (str c2)
  simp only[F74.tlF]at hx
  obtain⟨vg,rfl,hg⟩:=F74.HasL.uno hx
  have a1:atI [V.str (F74.hdF (.not g')),vg] 1=some vg:=zah (j:=1) rfl
  have Yg:zfI K CZ C H na p tl al rl dk S st g' vg:=⟨Y.N,hg,Y.ok,Y.lf,Y.fit,Y.few,Y.pl⟩
  simp only[fdp]at hd
  obtain⟨q1,q2⟩:=q
  simp only[zaC]at q1 q2
  exact⟨_,rfl,na,dx,_,rfl,hn,zcf _ _ _,_,rfl,pf,_,_,_,rfl,rfl,hp,a1,na,p,tl,al,rl,dk,S,st,g',vg,rfl,Yg,by omega,fun x e1 H1 N1 f1=>⟨_,rfl,q1 (x.1,-x.2) (by rw[e1];rfl) H1 N1 f1⟩,fun e ee H1 f1=>q2 e (by rw[ee];rfl) H1 f1⟩
 refine⟨_,rfl,rfl,_,rfl,aG (fun c3=>?_) (fun c3=>?_)⟩
 ·exact⟨_,rfl,na,dx,_,rfl,hn,zim _ _ _,_,rfl,na,p,tl,al,rl,dk,S,st,g,_,rfl,Y,F74.hd_same Y.ok (str c3),q⟩
 refine⟨_,rfl,rfl,_,rfl,aG (fun c4=>?_) (fun c4=>?_)⟩
 ·exact⟨_,rfl,na,dx,_,rfl,hn,zgV _ _ _,_,rfl,na,p,tl,al,rl,dk,S,st,g,_,rfl,Y,F74.hd_unlike Y.ok (str c4),q⟩
 have xl:=len_tl hx
 have alt:=zjQ Y.ok (nst c1) (nst c2) (nst c3) (nst c4)
 refine⟨_,rfl,pf,_,rfl,.inr hp,rfl,_,rfl,aG (fun c5=>?_) (fun c5=>?_)⟩
 ·have e5:V.int (((V.str (F74.hdF g) :: xs).length:Nat):Int)=.int 1:=of_decide_eq_true c5
  injection e5 with e5
  rw[List.length_cons,xl]at e5
  rcases alt with h | ⟨k,a,b,rfl⟩
  ·exact⟨_,rfl,na,dx,_,rfl,hn,ziq _ _ _,_,rfl,na,p,tl,al,rl,dk,S,st,g,_,rfl,Y,h,q⟩
  ·simp only[F74.tlF,List.length_cons,List.length_nil]at e5
   omega
 ·rcases alt with ⟨z,rfl⟩ | h
  ·simp only[F74.tlF,List.length_nil]at xl
   exact absurd (decide_eq_true (show V.int (((V.str (F74.hdF (.bare z)) :: xs).length:Nat):Int)=.int 1 by rw[List.length_cons,xl];rfl)) c5
  ·exact⟨_,rfl,na,dx,_,rfl,hn,zio _ _ _,_,rfl,na,p,tl,al,rl,dk,S,st,g,_,rfl,Y,⟨h,hd⟩,q⟩
end
end K74
namespace K74
open PySem L2
open F74 (Tr Fm dTr zax dFm FOk fdp zaF zbR)
def zbk (S:List Str):St→List Fm→Rl St
 | st,[]=>.ok st
 | st,f :: fs=>(zaC S st f).bind fun x=>(zbN x.1.R [[x.2]]).bind fun R=>zbk S ⟨x.1.T,x.1.A,R,x.1.tr⟩ fs
def st0:St:=⟨[],[],[],0⟩
theorem fit0 (S:List Str):Fit S st0:=⟨by decide,by decide,by decide,by decide,fun z hz=>nomatch hz⟩
theorem made {K:W.Frag} {C:Addr} {H H1:Hp} {x dx tl al rl:Addr} (hx:H x=none) (hdx:H dx=none) (hne:dx≠x) (h1:(upd (upd H dx (.own x)) x (.ins C dx [])) tl=none) (h2:(upd (upd H dx (.own x)) x (.ins C dx [])) al=none)
  (h3:(upd (upd H dx (.own x)) x (.ins C dx [])) rl=none) (na:al≠tl) (nr:rl≠tl) (nx:rl≠al) (k1:H1 x=some (.ins C dx (zcB tl al rl))) (k2:H1 tl=some (.lst [])) (k3:H1 al=some (.lst [])) (k4:H1 rl=some (.lst []))
  (k5:∀ b o,(upd (upd H dx (.own x)) x (.ins C dx [])) b=some o→b≠x→H1 b=some o):zaJ K C H1 x tl al rl [] [] []∧ap H H1∧H tl=none∧H al=none∧H rl=none:=by
 have sm:ap H (upd (upd H dx (.own x)) x (.ins C dx [])):=(za4 hdx _).trans (za4 (by rw[ao hne.symm];exact hx) _)
 exact⟨⟨⟨dx,k1⟩,⟨[],k2,.nil⟩,⟨[],k3,.nil⟩,⟨[],k4,.nil⟩,na,nr,nx⟩,fun b o e=>k5 b o (sm _ _ e) (zaa e hx),sm.free h1,sm.free h2,sm.free h3⟩
theorem zaJ.ins {K:W.Frag} {C:Addr} {H:Hp} {p tl al rl na C1 C2 d1 d2:Addr} {T:List Tm} {As:List At} {Rs:List (List Int)} {f1 f2:List (Str × V)} (h:zaJ K C H p tl al rl T As Rs) (h1:H na=some (.ins C1 d1 f1)) (ne:p≠na):zaJ K C (upd H na (.ins C2 d2 f2)) p tl al rl T As Rs:=by
 obtain⟨⟨dx1,h2⟩,⟨x2,t2,u2⟩,⟨x3,t3,u3⟩,⟨x4,t4,u4⟩,e1,e2,e3⟩:=h
 have n1:∀ {xs:List V} {z:Addr},H z=some (.lst xs)→z≠na:=fun e z=>by rw[←z,e]at h1;cases h1
 have kt:zaj H (upd H na (.ins C2 d2 f2)):=zaj.but h1 (fun _ e=>by cases e) (fun _ _ e=>by cases e)
 exact⟨⟨dx1,by rw[ao ne];exact h2⟩,⟨x2,by rw[ao (n1 t2)];exact t2,u2.keep kt (zaR _)⟩,⟨x3,by rw[ao (n1 t3)];exact t3,u3.keep kt (zab zaN _)⟩,⟨x4,by rw[ao (n1 t4)];exact t4,u4.keep kt (zab zbf _)⟩,e1,e2,e3⟩
section
variable {P:Program} {w:World} {K:W.Frag} {mg:Str→Option Value} {base:Heap} {aK C CN CT CP CM CZ:Addr} {f fF fN fP fW fT fD fE:Addr} {fd dF dN dP dW dT' dD dE:FuncData} {fI fA fQ fS fR:Addr} {dI dA' dQ dS dR':FuncData}
def zhO (K:W.Frag) (CZ C:Addr):Sp:=fun vs H Q _=>∃(na l dx:Addr) (xs:List V) (fs:List Fm),vs=[.ref na,.ref l]∧H na=some (.ins CZ dx [])∧H l=some (.lst xs)∧HasL K H (fs.map dFm) xs∧(∀ g∈fs,FOk g∧fdp g < 13)∧(aL fs).length≤100000 ∧
 ∀(H':Hp) (p tl al rl dk:Addr),H p=none→H tl=none→H al=none→H rl=none→zaX K CZ C H' na p tl al rl dk (aL fs) st0→(∀ b o,H b=some o→b≠na→H' b=some o)→Q .non H'
theorem zkC:zac ["self","formulas"] ["self","formulas"] (aj zcG):=⟨rfl,rfl,rfl,by decide +kernel,rfl,by decide +kernel,by decide +kernel⟩
set_option maxHeartbeats 1000000 in
theorem zkP (F:Fun K "__init__" "Namer.__init__" zcG f fd) (Z:TxZ K mg CZ) (G:Own P w K mg base C CN CT CP CM fI fA fQ fS fR dI dA' dQ dS dR') (BP:FB P w K mg base CX0 14 "plain_names" fP dP ["formulas"] (sp_pn K 13)):FnOk P w K mg base CX0 15 f fd ["self","formulas"] (zhO K CZ C):=by
 refine F.ok zkC (fun vs H Q E h=>?_) (fun cdv A outer s H vs Q E hr h=>?_)
 ·obtain⟨na,l,dx,xs,fs,rfl,_⟩:=h
  rfl
 obtain⟨na,l,dx,xs,fs,rfl,hn,hl,hx,ok,big,q⟩:=h
 have hr2:aH 2 _:=hr.mono (by decide)
 refine⟨_,(ae (zem (pv 0) (zkI G.mI G.I hr2 rfl G.gI G.bI .nil aJ) rfl)
  (ae (zem (pv 0) (aq BP.ok hr rfl BP.m BP.kp BP.b .nil aJ (aa (pv 1) ac)) rfl)
  (ai (zem (pv 0) ag rfl)))),?_⟩
 intro p dxp np ndx nex
 refine⟨p,dxp,rfl,ad,fun tl al rl H1 ht ha hrr e1 e2 e3 k1 k2 k3 k4 k5=>⟨rfl,?_⟩⟩
 obtain⟨pr1,s1,ft,fa,fr⟩:=made (K:=K) np ndx nex ht ha hrr e1 e2 e3 k1 k2 k3 k4 k5
 have pn:p≠na:=fun z=>by rw[z,hn]at np;cases np
 have hn1:=s1 _ _ hn
 refine⟨_,rfl,na,CZ,dx,[],rfl,hn1,Z.cl,Z.nP,(by show 0 < 1000;decide),?_⟩
 have pr2:=pr1.ins (C2:=CZ) (d2:=dx) (f2:=zat "problem" (.ref p) []) hn1 pn
 have n2:=ad (H:=H1) (a:=na) (o:=.ins CZ dx (zat "problem" (.ref p) []))
 have k2':∀ b o,H b=some o→b≠na→upd H1 na (.ins CZ dx (zat "problem" (.ref p) [])) b=some o:=fun b o e ne=>by rw[ao ne];exact s1 _ _ e
 have kt2:zaj H (upd H1 na (.ins CZ dx (zat "problem" (.ref p) []))):=fun b ys h=>(zaj.but hn1 (fun _ e=>by cases e) (fun _ _ e=>by cases e)) b ys (s1.kt b ys h)
 generalize upd H1 na (.ins CZ dx (zat "problem" (.ref p) []))=H2 at pr2 n2 k2' kt2
 have ln:l≠na:=fun z=>by rw[z,hn]at hl;cases hl
 refine⟨_,rfl,l,xs,fs,rfl,SqL.of (k2' _ _ hl ln),hx.keep kt2 (F74.nols_fms _),by decide,ok,big,fun H3 d kvs s3 nd hd dn=>?_⟩
 have n3:=s3 _ _ n2
 have pr3:=pr2.same s3
 have dna:d≠na:=fun z=>by rw[z,n3]at hd;cases hd
 refine⟨_,rfl,na,CZ,dx,_,rfl,n3,Z.cl,Z.nT,(by have:=zcC "problem" (.ref p) [];have h0:([]:List (Str × V)).length=0:=rfl;omega),?_⟩
 have pr4:=pr3.ins (C2:=CZ) (d2:=dx) (f2:=zat "taken" (.ref d) (zat "problem" (.ref p) [])) n3 pn
 have n4:=ad (H:=H3) (a:=na) (o:=.ins CZ dx (zat "taken" (.ref d) (zat "problem" (.ref p) [])))
 have hd4:upd H3 na (.ins CZ dx (zat "taken" (.ref d) (zat "problem" (.ref p) []))) d=some (.dK kvs):=by rw[ao dna];exact hd
 have k4':∀ b o,H b=some o→b≠na→upd H3 na (.ins CZ dx (zat "taken" (.ref d) (zat "problem" (.ref p) []))) b=some o:=fun b o e ne=>by rw[ao ne];exact s3 _ _ (k2' _ _ e ne)
 generalize upd H3 na (.ins CZ dx (zat "taken" (.ref d) (zat "problem" (.ref p) [])))=H4 at pr4 n4 hd4 k4'
 refine⟨_,rfl,na,CZ,dx,_,rfl,n4,Z.cl,Z.nN,(by have:=zcC "taken" (.ref d) (zat "problem" (.ref p) []);have:=zcC "problem" (.ref p) [];have h0:([]:List (Str × V)).length=0:=rfl;omega),?_⟩
 exact q _ p tl al rl d np ft fa fr ⟨⟨dx,ad⟩,pr4.ins n4 pn,⟨kvs,by rw[ao dna];exact hd4,dn⟩,pn⟩ fun b o e ne=>by rw[ao ne];exact k4' _ _ e ne
def zdK (K:W.Frag) (C CN CM:Addr):Sp:=fun vs H Q E=>∃(l:Addr) (xs:List V) (fs:List Fm),vs=[.ref l]∧H l=some (.lst xs)∧HasL K H (fs.map dFm) xs∧(∀ g∈fs,FOk g∧LFm g∧fdp g≤12)∧(aL fs).length≤100000∧Few (aL fs) ∧
 (∀ st,zbk (aL fs) st0 fs=.ok st→∀(H':Hp) (p tl al rl:Addr),ap H H'→H p=none→H tl=none→H al=none→H rl=none→zaJ K C H' p tl al rl st.T st.A st.R→Q (.ref p) H')∧(∀ b,zbk (aL fs) st0 fs=.er b→∀ H',ap H H'→E (erV CN CM b) none H')
theorem zfN:zac ["formulas","namer","formula"] ["formulas"] (aj zgB):=⟨rfl,rfl,rfl,by decide +kernel,rfl,by decide +kernel,by decide +kernel⟩
theorem FrN.same {H H1 H':Hp} {na tl al rl:Addr} (f:FrN H1 H' na tl al rl) (k:∀ b o,H b=some o→b≠na→H1 b=some o) (n1:H na=none) (n2:H tl=none) (n3:H al=none) (n4:H rl=none):ap H H':=fun b o e =>
 f _ _ (k _ _ e (zaa e n1)) (zaa e n1) (zaa e n2) (zaa e n3) (zaa e n4)
set_option maxHeartbeats 1000000 in
theorem zkQ (F:Fun K "named" "named" zgB f fd) (Z:TxZ K mg CZ) (GN:OwN P w K mg base CZ C CN CM fP fW dP dW) (oI:FnOk P w K mg base CX0 15 fN dN ["self","formulas"] (zhO K CZ C)) (bI:ar K dN ["self","formulas"] []) (mI:Mk K CZ fN) (gI:mg "Namer"=some (.ref CZ))
  (oF:FnOk P w K mg base (CX1 P w) 34 fF dF ["self","formula"] (zbL K CZ C CN CM fun g=>fdp g≤12)) (bF:ar K dF ["self","formula"] []) (mF:zbo K CZ "formula_part" fF):FnOk P w K mg base (CX1 P w) 35 f fd ["formulas"] (zdK K C CN CM):=by
 refine Fun.okX F zfN (fun vs H Q E h=>?_) (fun cdv A outer s H vs Q E hr h=>?_)
 ·obtain⟨l,xs,fs,rfl,_⟩:=h
  rfl
 obtain⟨l,xs,fs,rfl,hl,hx,ok,big,few,q1,q2⟩:=h
 have hr5:aH 5 _:=hr.mono (by decide)
 have hr16:aH 16 _:=hr.mono (by decide)
 refine⟨_,(ae (az (i:=1) zfN.nd rfl (Or.inl rfl) (zlo mI oI hr16 rfl gI bI .nil aJ (aa (pv 0) ac)))
  (ae (zbp PassesOwn.leaving rfl (zbJ (pv 0)) (zaO (i:=2) zfN.nd rfl (Or.inl rfl))
   (ai (zau (zaG (pv 1) Z.cl GN.mP GN.P' hr5 GN.bP .nil (zav xe1) (aa (zag (aa (zae (aa (zaG (pv 1) Z.cl mF oF hr bF .nil (zav xe1) (aa (pv 2) ac)) ac)) ac)) ac)))))
  (ai (ay (zaU (pv 1) rfl))))),?_⟩
 refine⟨_,rfl,fun na dx nn ndx nex=>?_⟩
 have s0:ap H (upd (upd H dx (.own na)) na (.ins CZ dx [])):=(za4 ndx _).trans (za4 (by rw[ao nex.symm];exact nn) _)
 have n0:=ad (H:=upd H dx (.own na)) (a:=na) (o:=.ins CZ dx [])
 generalize upd (upd H dx (.own na)) na (.ins CZ dx [])=H0 at s0 n0
 refine⟨na,l,dx,xs,fs,rfl,n0,s0 _ _ hl,hx.keep s0.kt (F74.nols_fms _),fun g hg=>⟨(ok g hg).1,by have:=(ok g hg).2.2;omega⟩,big,fun H1 p tl al rl dk fp ft fa fr N1 k1=>⟨rfl,?_⟩⟩
 have k01:∀ b o,H b=some o→b≠na→H1 b=some o:=fun b o e ne=>k1 _ _ (s0 _ _ e) ne
 have sm:∀ {H':Hp},FrN H1 H' na tl al rl→ap H H':=fun f'=>f'.same k01 nn (s0.free ft) (s0.free fa) (s0.free fr)
 have s1:=sm (FrN.of_same (ap.refl _))
 have xl:xs.length=fs.length:=by rw[←hx.length,List.length_map]
 refine⟨_,rfl,l,rfl,⟨_,SqL.of (s1 _ _ hl)⟩,zcW zbI (fun i σ H'=>∃(v:Option V) (st:St),σ=[some (.ref l),some (.ref na),v]∧FrN H1 H' na tl al rl∧zaX K CZ C H' na p tl al rl dk (aL fs) st∧Fit (aL fs) st∧zbk (aL fs) st0 fs=zbk (aL fs) st (fs.drop i)) (fun i σ H' ⟨_,_,_,f',_⟩=>SqL.of (sm f' _ _ hl))
  ⟨none,st0,rfl,FrN.of_same (ap.refl _),N1,fit0 _,rfl⟩ ?_ ?_⟩
 ·rintro i σ H2 x H3 hi ⟨v,st,rfl,f2,N2,F2,e2⟩ ⟨rfl,hy⟩
  have s2:=sm f2
  obtain⟨g,hg,hxg⟩:=F74.fms_get (hx.keep s2.kt (F74.nols_fms _)) (hy _ (SqL.of (s2 _ _ hl)))
  have gm:=List.mem_of_getElem? hg
  obtain⟨ok1,ok2,ok3⟩:=ok g gm
  rw[zeu hg]at e2
  simp only[zbk]at e2
  have pl:∀ z∈plF g,z∈aL fs:=fun z hz=>List.mem_flatMap.mpr ⟨g,gm,hz⟩
  obtain⟨⟨dx2,hn2⟩,_⟩:=id N2
  refine⟨_,rfl,na,dx2,_,rfl,hn2,zcy _ _ _,_,rfl,na,dx2,_,rfl,hn2,zcf _ _ _,_,rfl,na,p,tl,al,rl,dk,_,st,g,x,rfl,⟨N2,hxg,ok1,ok2,F2,few,pl⟩,ok3,fun y e3 H4 N4 f4=>?_,fun b eb H4 f4=>q2 b (by rw[e2,eb];rfl) H4 (sm (f2.trans f4))⟩
  obtain⟨F4,le4,np4⟩:=zb2 few F2 ok2 pl e3
  rw[e3]at e2
  simp only[Rl.okb]at e2
  refine⟨lS1,fun t ht=>⟨lS1,fun c hc=>?_⟩⟩
  have nr:=new1 ht hc
  refine⟨na,p,tl,al,rl,dk,c,_,y.1,[[y.2]],rfl,N4.same nr.1,nr.rows N4 (by show 1≤100;decide) (fun r hr'=>?_),F4.a,F4.r,fun R' eR H5 N5 f5=>?_,fun b eb H5 f5=>q2 b (by rw[e2,eb];rfl) H5 (sm (f2.trans (f4.trans ((FrN.of_same nr.1).trans f5))))⟩
  ·rw[List.mem_singleton.mp hr']
   refine⟨by show 1≤20;decide,fun k hk=>?_⟩
   rw[List.mem_singleton.mp hk]
   exact np4
  ·rw[eR]at e2
   exact⟨_,_,rfl,f2.trans (f4.trans ((FrN.of_same nr.1).trans f5)),N5,F4.rows (zdM eR).2,e2⟩
 ·rintro σ H2 ⟨v,st,rfl,f2,N2,F2,e2⟩
  rw[xl,List.drop_length]at e2
  obtain⟨⟨dx2,hn2⟩,pr2,_⟩:=id N2
  exact⟨_,rfl,na,CZ,dx2,_,_,rfl,hn2,Z.cl,Z.nP,zbz _ _ _,q1 st e2 H2 p tl al rl (sm f2) (s0.free fp) (s0.free ft) (s0.free fa) (s0.free fr) pr2⟩
end
end K74
namespace K74
open PySem L2
open F74 (Tr Fm dTr zax dFm FOk fdp zaF zbR)
def zeW (T:List Tm) (t:Tm):List Tm × Nat:=if t∈T then(T,T.idxOf t) else(T++[t],T.length)
def zaW (A:List At) (z:Str):List At × Nat:=if .plain z∈A then(A,A.idxOf (.plain z)+1) else(A++[.plain z],A.length+1)
def za0 (A:List At) (a b:Int):List At × Nat :=
 if .same b a∈A then(A,A.idxOf (.same b a)+1) else if .same a b∈A then(A,A.idxOf (.same a b)+1) else(A++[.same a b],A.length+1)
mutual
def lTr (T:List Tm):Tr→List Tm × Nat
 | .node n ts=>zeW (aF T ts).1 (n,(aF T ts).2)
def aF (T:List Tm):List Tr→List Tm × List Int
 | []=>(T,[])
 | t :: ts=>((aF (lTr T t).1 ts).1,((lTr T t).2:Int) :: (aF (lTr T t).1 ts).2)
end
mutual
def nd:Tr→Nat
 | .node _ ts=>1+nds ts
def nds:List Tr→Nat
 | []=>0
 | t :: ts=>nd t+nds ts
end
structure LS where
 T:List Tm
 A:List At
 R:List (List Int)
 tk:List Str
def lff (tk:List Str):Nat→Nat→Nat
 | 0,k=>k
 | n+1,k=>if aI k∈tk then lff tk n (k+1) else k
def zap (s:LS):LS × Nat:=(⟨s.T,(zaW s.A (aI (lff s.tk 700 0))).1,s.R,s.tk++[aI (lff s.tk 700 0)]⟩,(zaW s.A (aI (lff s.tk 700 0))).2)
def zbn (A:List At) (a:Int):List Int→List At × List Int
 | []=>(A,[])
 | b :: bs=>((zbn (za0 A a b).1 a bs).1,((za0 A a b).2:Int) :: (zbn (za0 A a b).1 a bs).2)
def zaA (A:List At):List Int→List At × List Int
 | []=>(A,[])
 | a :: as=>((zaA (zbn A a as).1 as).1,(zbn A a as).2++(zaA (zbn A a as).1 as).2)
def za2 (s:LS) (rs:List (List Int)):LS:=⟨s.T,s.A,s.R++rs.map (zaq []),s.tk⟩
def zfB (s:LS) (sm:List Int):LS × Int:=(za2 (za2 (zap s).1 (sm.map fun x=>[-((zap s).2:Int),-x])) [((zap s).2:Int) :: sm],((zap s).2:Int))
def zfC (s:LS) (ks:List Int):LS × Int:=zfB ⟨s.T,(zaA s.A ks).1,s.R,s.tk⟩ (zaA s.A ks).2
def ax (s:LS):Fm→LS × Int
 | .plain z=>(⟨s.T,(zaW s.A z).1,s.R,s.tk⟩,((zaW s.A z).2:Int))
 | .bare z=>(za2 (zap s).1 [[if z="always" then((zap s).2:Int) else -((zap s).2:Int)]],((zap s).2:Int))
 | .same a b=>(⟨(aF s.T [a,b]).1,(za0 s.A ((aF s.T [a,b]).2.getD 0 0) ((aF s.T [a,b]).2.getD 1 0)).1,s.R,s.tk⟩,((za0 s.A ((aF s.T [a,b]).2.getD 0 0) ((aF s.T [a,b]).2.getD 1 0)).2:Int))
 | .unlike ts=>zfC ⟨(aF s.T ts).1,s.A,s.R,s.tk⟩ (aF s.T ts).2
 | .not f=>((ax s f).1,-(ax s f).2)
 | .bin k f g=>(za2 (zap (ax (ax s f).1 g).1).1 (prF k ((zap (ax (ax s f).1 g).1).2:Int) (ax s f).2 (ax (ax s f).1 g).2),((zap (ax (ax s f).1 g).1).2:Int))
def zaz (s:LS):List Fm→LS
 | []=>s
 | f :: fs=>zaz (za2 (ax s f).1 [[(ax s f).2]]) fs
def M (s:LS):Nat:=s.T.length+s.A.length+s.R.length+s.tk.length
def szF:Fm→Nat
 | .plain _=>1
 | .bare _=>3
 | .same a b=>nd a+nd b+1
 | .unlike ts=>nds ts+23
 | .not f=>szF f
 | .bin _ f g=>szF f+szF g+6
def cnt:Fm→Nat
 | .plain _=>0
 | .bare _=>1
 | .same _ _=>0
 | .unlike _=>1
 | .not f=>cnt f
 | .bin _ f g=>cnt f+cnt g+1
theorem zh8 (T:List Tm) (t:Tm):T.length≤(zeW T t).1.length∧(zeW T t).1.length≤T.length+1:=by
 unfold zeW
 split <;> simp
theorem zgq (A:List At) (z:Str):A.length≤(zaW A z).1.length∧(zaW A z).1.length≤A.length+1:=by
 unfold zaW
 split <;> simp
theorem zfh (A:List At) (a b:Int):A.length≤(za0 A a b).1.length∧(za0 A a b).1.length≤A.length+1:=by
 unfold za0
 split
 ·simp
 ·split <;> simp
mutual
theorem zgL:∀(t:Tr) (T:List Tm),T.length≤(lTr T t).1.length∧(lTr T t).1.length≤T.length+nd t
 | .node n ts,T=>by
  have h1:=zbV ts T
  have h2:=zh8 (aF T ts).1 (n,(aF T ts).2)
  simp only[lTr,nd]
  omega
theorem zbV:∀(ts:List Tr) (T:List Tm),T.length≤(aF T ts).1.length∧(aF T ts).1.length≤T.length+nds ts∧(aF T ts).2.length=ts.length
 | [],T=>by simp [aF,nds]
 | t :: ts,T=>by
  have h1:=zgL t T
  have h2:=zbV ts (lTr T t).1
  simp only[aF,nds,List.length_cons]
  omega
end
theorem zeF (a:Int):∀(bs:List Int) (A:List At),A.length≤(zbn A a bs).1.length∧(zbn A a bs).1.length≤A.length+bs.length∧(zbn A a bs).2.length=bs.length
 | [],A=>by simp [zbn]
 | b :: bs,A=>by
  have h1:=zfh A a b
  have h2:=zeF a bs (za0 A a b).1
  simp only[zbn,List.length_cons]
  omega
theorem zcs:∀(as:List Int) (A:List At),A.length≤(zaA A as).1.length∧(zaA A as).1.length≤A.length+tri as.length∧(zaA A as).2.length=tri as.length
 | [],A=>by simp [zaA,tri]
 | a :: as,A=>by
  have h1:=zeF a as A
  have h2:=zcs as (zbn A a as).1
  simp only[zaA,List.length_cons,List.length_append,tri]
  omega
theorem ziI (k:Str) (n a b:Int):(prF k n a b).length≤4:=by
 unfold prF
 split
 ·simp
 split
 ·simp
 split
 ·simp
 ·simp
structure Ls (s s':LS) (n:Nat):Prop where
 t:s.T.length≤s'.T.length
 a:s.A.length≤s'.A.length
 r:s.R.length≤s'.R.length
 m:M s'≤M s+n
theorem Ls.trans {s s' s2:LS} {n m:Nat} (h:Ls s s' n) (k:Ls s' s2 m):Ls s s2 (n+m) :=
 ⟨Nat.le_trans h.t k.t,Nat.le_trans h.a k.a,Nat.le_trans h.r k.r,by have:=h.m;have:=k.m;omega⟩
theorem Ls.mono {s s':LS} {n m:Nat} (h:Ls s s' n) (l:n≤m):Ls s s' m:=⟨h.t,h.a,h.r,by have:=h.m;omega⟩
theorem zcJ (s:LS):Ls s (zap s).1 2:=by
 have h:=zgq s.A (aI (lff s.tk 700 0))
 refine⟨Nat.le_refl _,h.1,Nat.le_refl _,?_⟩
 simp only[M,zap,List.length_append,List.length_singleton]
 omega
theorem zbd (s:LS) (rs:List (List Int)):Ls s (za2 s rs) rs.length:=by
 refine⟨Nat.le_refl _,Nat.le_refl _,?_,?_⟩
 ·simp [za2]
 ·simp only[M,za2,List.length_append,List.length_map]
  omega
theorem zgK (s:LS) {sm:List Int} (h:sm.length≤10):Ls s (zfB s sm).1 13:=by
 have h1:=zcJ s
 have h2:=zbd (zap s).1 (sm.map fun x=>[-((zap s).2:Int),-x])
 have h3:=zbd (za2 (zap s).1 (sm.map fun x=>[-((zap s).2:Int),-x])) [((zap s).2:Int) :: sm]
 rw[List.length_map]at h2
 exact((h1.trans h2).trans h3).mono (by show 2+sm.length+1≤13;omega)
theorem zlD (s:LS) {ks:List Int} (h:ks.length≤5):Ls s (zfC s ks).1 23:=by
 have h1:=zcs ks s.A
 have h2:=tri5 h
 have h3:=zgK ⟨s.T,(zaA s.A ks).1,s.R,s.tk⟩ (sm:=(zaA s.A ks).2) (by omega)
 have h0:Ls s ⟨s.T,(zaA s.A ks).1,s.R,s.tk⟩ 10:=⟨Nat.le_refl _,h1.1,Nat.le_refl _,by simp only[M];omega⟩
 exact h0.trans h3
theorem zci:∀(f:Fm) (s:LS),LFm f→Ls s (ax s f).1 (szF f)
 | .plain z,s,_=>by
  have h:=zgq s.A z
  exact⟨Nat.le_refl _,h.1,Nat.le_refl _,by simp only[M,ax,szF];omega⟩
 | .bare z,s,_=>by
  have h1:=zcJ s
  have h2:=zbd (zap s).1 [[if z="always" then((zap s).2:Int) else -((zap s).2:Int)]]
  exact h1.trans h2
 | .same a b,s,_=>by
  have h:=zbV [a,b] s.T
  have h2:=zfh s.A ((aF s.T [a,b]).2.getD 0 0) ((aF s.T [a,b]).2.getD 1 0)
  simp only[nds]at h
  exact⟨h.1,h2.1,Nat.le_refl _,by simp only[M,ax,szF];omega⟩
 | .unlike ts,s,L=>by
  have h:=zbV ts s.T
  have h2:=zlD ⟨(aF s.T ts).1,s.A,s.R,s.tk⟩ (ks:=(aF s.T ts).2) (by have:=L.2.2;omega)
  have h0:Ls s ⟨(aF s.T ts).1,s.A,s.R,s.tk⟩ (nds ts):=⟨h.1,Nat.le_refl _,Nat.le_refl _,by simp only[M];omega⟩
  exact h0.trans h2
 | .not f,s,L=>zci f s L
 | .bin k f g,s,L=>by
  have h1:=zci f s L.1
  have h2:=zci g (ax s f).1 L.2
  have h3:=zcJ (ax (ax s f).1 g).1
  have h4:=zbd (zap (ax (ax s f).1 g).1).1 (prF k ((zap (ax (ax s f).1 g).1).2:Int) (ax s f).2 (ax (ax s f).1 g).2)
  exact(((h1.trans h2).trans h3).trans h4).mono (by have:=ziI k ((zap (ax (ax s f).1 g).1).2:Int) (ax s f).2 (ax (ax s f).1 g).2;simp only[szF];omega)
theorem zeG:∀(fs:List Fm) (s:LS),(∀ f∈fs,LFm f)→Ls s (zaz s fs) ((fs.map fun f=>szF f+1).sum)
 | [],s,_=>⟨Nat.le_refl _,Nat.le_refl _,Nat.le_refl _,Nat.le_refl _⟩
 | f :: fs,s,h=>by
  have h1:=zci f s (h f (by simp))
  have h2:=zbd (ax s f).1 [[(ax s f).2]]
  have h3:=zeG fs (za2 (ax s f).1 [[(ax s f).2]]) fun g hg=>h g (List.mem_cons_of_mem _ hg)
  simp only[zaz,List.map_cons,List.sum_cons]
  exact(h1.trans h2).trans h3
def zcb (tk:List Str) (m:Nat):Prop:=∃ zs:List Str,zs.length≤m∧∀ z∈tk,z∈zs
theorem zcb.put {tk:List Str} {m:Nat} (h:zcb tk m) (z:Str):zcb (tk++[z]) (m+1):=by
 obtain⟨zs,l,hz⟩:=h
 refine⟨z :: zs,by simp only[List.length_cons];omega,fun y hy=>?_⟩
 rcases List.mem_append.mp hy with hy | hy
 ·exact List.mem_cons_of_mem _ (hz y hy)
 ·rw[List.mem_singleton.mp hy];simp
theorem zje {a b:Nat} (ha:a < 702) (hb:b < 702) (h:aI a=aI b):a=b:=by
 have e:=congrArg (fun z:Str=>z.cps.toList) h
 simp only[zg0]at e
 by_cases c1:a < 26
 ·by_cases c2:b < 26
  ·rw[if_pos c1,if_pos c2]at e
   have:=List.append_cancel_left e
   exact zeo a c1 b c2 (by injection this)
  ·rw[if_pos c1,if_neg c2]at e
   have:=congrArg List.length (List.append_cancel_left e)
   simp at this
 ·by_cases c2:b < 26
  ·rw[if_neg c1,if_pos c2]at e
   have:=congrArg List.length (List.append_cancel_left e)
   simp at this
  ·rw[if_neg c1,if_neg c2]at e
   have e2:=List.append_cancel_left e
   injection e2 with e3 e4
   injection e4 with e4
   have:=zeo _ (by omega) _ (by omega) e3
   have:=zeo _ (by omega) _ (by omega) e4
   omega
theorem zcb.free {tk:List Str} {m:Nat} (h:zcb tk m) (hm:m≤690):∃ j,j≤m∧aI j∉tk:=by
 obtain⟨zs,h6,hs⟩:=h
 refine Classical.byContradiction fun no=>?_
 have all:∀ j,j≤m→aI j∈zs:=fun j hj=>Classical.byContradiction fun h=>no ⟨j,hj,fun z=>h (hs _ z)⟩
 have nd:((List.range (m+1)).map aI).Nodup:=by
  refine List.pairwise_map.mpr (List.Pairwise.imp_of_mem (R:=(·≠·)) (fun {a b} ha hb ne e=>?_) List.nodup_range)
  have:=List.mem_range.mp ha
  have:=List.mem_range.mp hb
  exact ne (zje (by omega) (by omega) e)
 have:=zhy _ zs nd fun x hx=>by
  obtain⟨j,hj,rfl⟩:=List.mem_map.mp hx
  exact all j (by have:=List.mem_range.mp hj;omega)
 rw[List.length_map,List.length_range]at this
 omega
theorem zh7 {s:LS} {m:Nat} (h:zcb s.tk m):zcb (zap s).1.tk (m+1):=h.put _
theorem zcQ:∀(f:Fm) {s:LS} {m:Nat},zcb s.tk m→zcb (ax s f).1.tk (m+cnt f)
 | .plain z,s,m,h=>h
 | .bare z,s,m,h=>zh7 h
 | .same a b,s,m,h=>h
 | .unlike ts,s,m,h=>h.put _
 | .not f,s,m,h=>zcQ f h
 | .bin k f g,s,m,h=>by
  have h1:=zcQ f h
  have h2:=zcQ g h1
  have h3:=zh7 (s:=(ax (ax s f).1 g).1) h2
  obtain⟨zs,l,hz⟩:=h3
  exact⟨zs,by simp only[cnt];omega,hz⟩
mutual
theorem zi7 (zs:List Str):∀ t:Tr,nd t≤F74.wt zs t
 | .node n ts=>by
  have:=zhD zs ts
  simp only[nd,F74.wt]
  omega
theorem zhD (zs:List Str):∀ ts:List Tr,nds ts≤F74.wts zs ts
 | []=>Nat.le_refl _
 | t :: ts=>by
  have:=zi7 zs t
  have:=zhD zs ts
  simp only[nds,F74.wts]
  omega
end
theorem zf5 (zs:List Str):∀ f:Fm,szF f≤F74.fwt zs f+1∧1000 * cnt f≤F74.fwt zs f
 | .plain z=>by simp only[szF,cnt,F74.fwt];omega
 | .bare z=>by simp only[szF,cnt,F74.fwt];omega
 | .same a b=>by
  have:=zi7 zs a
  have:=zi7 zs b
  simp only[szF,cnt,F74.fwt];omega
 | .unlike ts=>by
  have:=zhD zs ts
  simp only[szF,cnt,F74.fwt];omega
 | .not f=>by
  have:=zf5 zs f
  simp only[szF,cnt,F74.fwt];omega
 | .bin k f g=>by
  have:=zf5 zs f
  have:=zf5 zs g
  simp only[szF,cnt,F74.fwt];omega
end K74
namespace K74
open PySem L2
open F74 (Tr Fm dTr zax dFm FOk fdp zaF zbR)
structure zay (K:W.Frag) (H:Hp) (dh tl al rl tk:Addr) (s:LS):Prop where
 tp:SqT K H dh [.ref tl,.ref al,.ref rl]
 tm:∃ xs,H tl=some (.lst xs)∧HasL K H (s.T.map dT) xs
 am:∃ xs,H al=some (.lst xs)∧HasL K H (s.A.map dA) xs
 rm:∃ xs,H rl=some (.lst xs)∧HasL K H (s.R.map dR) xs
 tt:H tk=some (.lst (s.tk.map V.str))
 na:al≠tl
 nr:rl≠tl
 nx:rl≠al
 k1:tk≠tl
 k2:tk≠al
 k3:tk≠rl
def FrD (H H':Hp) (tl al rl tk:Addr):Prop:=∀ b o,H b=some o→b≠tl→b≠al→b≠rl→b≠tk→H' b=some o
theorem bigM {n:Nat} (h:n≤1000000):n≤sizeLine:=F74.szM (by omega)
theorem bigL {n:Nat} (h:n≤1000000):n < sizeLine:=Nat.lt_of_lt_of_le (show n < 1000001 by omega) (F74.szM (by decide))
section
variable {K:W.Frag} {H H' H2:Hp} {dh tl al rl tk:Addr} {s:LS}
theorem FrD.of_same (s:ap H H'):FrD H H' tl al rl tk:=fun b o e _ _ _ _=>s b o e
theorem FrD.trans (a:FrD H H' tl al rl tk) (b:FrD H' H2 tl al rl tk):FrD H H2 tl al rl tk:=fun c o e n1 n2 n3 n4=>b c o (a c o e n1 n2 n3 n4) n1 n2 n3 n4
theorem FrD.upT {o:HO}:FrD H (upd H tl o) tl al rl tk:=fun b u e n1 _ _ _=>by rw[ao n1];exact e
theorem FrD.upA {o:HO}:FrD H (upd H al o) tl al rl tk:=fun b u e _ n1 _ _=>by rw[ao n1];exact e
theorem FrD.upR {o:HO}:FrD H (upd H rl o) tl al rl tk:=fun b u e _ _ n1 _=>by rw[ao n1];exact e
theorem FrD.upK {o:HO}:FrD H (upd H tk o) tl al rl tk:=fun b u e _ _ _ n1=>by rw[ao n1];exact e
theorem zay.old (h:zay K H dh tl al rl tk s) {b:Addr} (e:H b=none):b≠tl∧b≠al∧b≠rl∧b≠tk:=by
 obtain⟨_,⟨x2,h2,_⟩,⟨x3,h3,_⟩,⟨x4,h4,_⟩,h5,_⟩:=h
 refine⟨fun z=>?_,fun z=>?_,fun z=>?_,fun z=>?_⟩
 ·rw[z,h2]at e;cases e
 ·rw[z,h3]at e;cases e
 ·rw[z,h4]at e;cases e
 ·rw[z,h5]at e;cases e
theorem zay.kt (h:zay K H dh tl al rl tk s) (f:FrD H H' tl al rl tk):zaj H H':=fun b ys q=>by
 obtain⟨_,⟨x2,h2,_⟩,⟨x3,h3,_⟩,⟨x4,h4,_⟩,h5,_⟩:=h
 have go:∀ {o:HO},H b=some o→(∀ xs,o≠.lst xs)→H' b=some o:=fun {o} e n=>f _ _ e
  (fun z=>by rw[z,h2]at e;exact n _ (Option.some.inj e).symm) (fun z=>by rw[z,h3]at e;exact n _ (Option.some.inj e).symm)
  (fun z=>by rw[z,h4]at e;exact n _ (Option.some.inj e).symm) (fun z=>by rw[z,h5]at e;exact n _ (Option.some.inj e).symm)
 rcases q with q | ⟨o,q⟩
 ·exact .inl (go q fun _ e=>by cases e)
 ·exact .inr ⟨o,go q fun _ e=>by cases e⟩
theorem zay.same (h:zay K H dh tl al rl tk s) (m:ap H H'):zay K H' dh tl al rl tk s:=by
 obtain⟨h1,⟨x2,h2,u2⟩,⟨x3,h3,u3⟩,⟨x4,h4,u4⟩,h5,r1,r2,r3,r4,r5,r6⟩:=h
 exact⟨m.kt.sq h1,⟨x2,m _ _ h2,u2.keep m.kt (zaR _)⟩,⟨x3,m _ _ h3,u3.keep m.kt (zab zaN _)⟩,⟨x4,m _ _ h4,u4.keep m.kt (zab zbf _)⟩,m _ _ h5,r1,r2,r3,r4,r5,r6⟩
theorem zay.putL (h:zay K H dh tl al rl tk s) {z:Addr} {zs us:List V} (hz:H z=some (.lst zs)) (n1:z≠tl) (n2:z≠al) (n3:z≠rl) (n4:z≠tk):zay K (upd H z (.lst us)) dh tl al rl tk s:=by
 obtain⟨h1,⟨x2,h2,u2⟩,⟨x3,h3,u3⟩,⟨x4,h4,u4⟩,h5,r1,r2,r3,r4,r5,r6⟩:=h
 have kt:zaj H (upd H z (.lst us)):=zaj.lst hz
 exact⟨kt.sq h1,⟨x2,by rw[ao n1.symm];exact h2,u2.keep kt (zaR _)⟩,⟨x3,by rw[ao n2.symm];exact h3,u3.keep kt (zab zaN _)⟩,⟨x4,by rw[ao n3.symm];exact h4,u4.keep kt (zab zbf _)⟩,by rw[ao n4.symm];exact h5,r1,r2,r3,r4,r5,r6⟩
theorem zay.putT (h:zay K H dh tl al rl tk s) {xs:List V} {t:Tm} {q:Addr} (hl:H tl=some (.lst xs)) (hs:HasL K H (s.T.map dT) xs) (hq:Has K H (dT t) (.ref q)):zay K (upd H tl (.lst (xs++[.ref q]))) dh tl al rl tk ⟨s.T++[t],s.A,s.R,s.tk⟩:=by
 obtain⟨h1,_,⟨x3,h3,u3⟩,⟨x4,h4,u4⟩,h5,r1,r2,r3,r4,r5,r6⟩:=h
 have kt:zaj H (upd H tl (.lst (xs++[.ref q]))):=zaj.lst hl
 refine⟨kt.sq h1,⟨_,ad,?_⟩,⟨x3,by rw[ao r1];exact h3,u3.keep kt (zab zaN _)⟩,⟨x4,by rw[ao r2];exact h4,u4.keep kt (zab zbf _)⟩,by rw[ao r4];exact h5,r1,r2,r3,r4,r5,r6⟩
 rw[List.map_append]
 exact(hs.keep kt (zaR _)).append (HasL.one (hq.keep kt (zhC t)))
theorem zay.putA (h:zay K H dh tl al rl tk s) {xs:List V} {t:At} {q:Addr} (hl:H al=some (.lst xs)) (hs:HasL K H (s.A.map dA) xs) (hq:Has K H (dA t) (.ref q)):zay K (upd H al (.lst (xs++[.ref q]))) dh tl al rl tk ⟨s.T,s.A++[t],s.R,s.tk⟩:=by
 obtain⟨h1,⟨x2,h2,u2⟩,_,⟨x4,h4,u4⟩,h5,r1,r2,r3,r4,r5,r6⟩:=h
 have kt:zaj H (upd H al (.lst (xs++[.ref q]))):=zaj.lst hl
 refine⟨kt.sq h1,⟨x2,by rw[ao r1.symm];exact h2,u2.keep kt (zaR _)⟩,⟨_,ad,?_⟩,⟨x4,by rw[ao r3];exact h4,u4.keep kt (zab zbf _)⟩,by rw[ao r5];exact h5,r1,r2,r3,r4,r5,r6⟩
 rw[List.map_append]
 exact(hs.keep kt (zab zaN _)).append (HasL.one (hq.keep kt (zaN t)))
theorem zay.putR (h:zay K H dh tl al rl tk s) {xs:List V} {t:List Int} {q:Addr} (hl:H rl=some (.lst xs)) (hs:HasL K H (s.R.map dR) xs) (hq:Has K H (dR t) (.ref q)):zay K (upd H rl (.lst (xs++[.ref q]))) dh tl al rl tk ⟨s.T,s.A,s.R++[t],s.tk⟩:=by
 obtain⟨h1,⟨x2,h2,u2⟩,⟨x3,h3,u3⟩,_,h5,r1,r2,r3,r4,r5,r6⟩:=h
 have kt:zaj H (upd H rl (.lst (xs++[.ref q]))):=zaj.lst hl
 refine⟨kt.sq h1,⟨x2,by rw[ao r2.symm];exact h2,u2.keep kt (zaR _)⟩,⟨x3,by rw[ao r3.symm];exact h3,u3.keep kt (zab zaN _)⟩,⟨_,ad,?_⟩,by rw[ao r6];exact h5,r1,r2,r3,r4,r5,r6⟩
 rw[List.map_append]
 exact(hs.keep kt (zab zbf _)).append (HasL.one (hq.keep kt (zbf t)))
theorem zay.putK (h:zay K H dh tl al rl tk s) (z:Str):zay K (upd H tk (.lst (s.tk.map V.str++[.str z]))) dh tl al rl tk ⟨s.T,s.A,s.R,s.tk++[z]⟩:=by
 obtain⟨h1,⟨x2,h2,u2⟩,⟨x3,h3,u3⟩,⟨x4,h4,u4⟩,h5,r1,r2,r3,r4,r5,r6⟩:=h
 have kt:zaj H (upd H tk (.lst (s.tk.map V.str++[.str z]))):=zaj.lst h5
 refine⟨kt.sq h1,⟨x2,by rw[ao r4.symm];exact h2,u2.keep kt (zaR _)⟩,⟨x3,by rw[ao r5.symm];exact h3,u3.keep kt (zab zaN _)⟩,⟨x4,by rw[ao r6.symm];exact h4,u4.keep kt (zab zbf _)⟩,?_,r1,r2,r3,r4,r5,r6⟩
 rw[ad,List.map_append]
 rfl
end
theorem zj2 (a b c:Str):a++b++c=a++(b++c):=by
 show(⟨a.cps++b.cps++c.cps⟩:Str)=⟨a.cps++(b.cps++c.cps)⟩
 rw[Array.append_assoc]
theorem zd1 (tl al rl:Addr):atI [V.ref tl,.ref al,.ref rl] 0=some (.ref tl):=zah (j:=0) rfl
theorem zce (tl al rl:Addr):atI [V.ref tl,.ref al,.ref rl] 1=some (.ref al):=zah (j:=1) rfl
theorem zeA (tl al rl:Addr):atI [V.ref tl,.ref al,.ref rl] 2=some (.ref rl):=zah (j:=2) rfl
theorem zd0 (A:List At):zaB (A.map dA)≤60:=Nat.le_trans (zcR (n:=1) (fun a=>by rw[zge];exact Nat.le_refl _) A) (by decide)
theorem zjb (T:List Tm):zaB (T.map dT)≤60:=Nat.le_trans (zeM T) (by decide)
theorem zfD {α:Type} [BEq α] [LawfulBEq α] {code:α→Dt} (hc:∀ a b,peq (code a) (code b)=true↔a=b) {A:List α} {t:α} (hm:t∈A):(∃ dj,(A.map code)[A.idxOf t]?=some dj∧peq dj (code t)=true)∧(∀ m dm,m < A.idxOf t→(A.map code)[m]?=some dm→peq dm (code t)=false):=by
 have hlt:=List.idxOf_lt_length_of_mem hm
 refine⟨⟨code t,?_,zbt _⟩,fun m dm h e=>?_⟩
 ·rw[List.getElem?_map,List.getElem?_eq_getElem hlt]
  simp
 ·rw[←zfV hc]at h
  obtain⟨h3,h4⟩:=List.getElem?_eq_some_iff.mp e
  have z:=List.not_of_lt_findIdx (p:=fun e=>peq e (code t)) h
  rw[h4]at z
  cases e2:peq dm (code t) with
  | false=>rfl
  | true=>rw[e2]at z;cases z
theorem zgN {α:Type} [BEq α] [LawfulBEq α] {A:List α} {t:α} (h:t∉A):(A++[t]).idxOf t=A.length:=by
 rw[List.idxOf_append,if_neg h]
 simp
section
variable {P:Program} {w:World} {K:W.Frag} {mg:Str→Option Value} {base:Heap} {aB aO aK C CN CT CP CM CZ:Addr} {f fS' fL fP':Addr} {fd dS' dL dP':FuncData}
def zg2:Sp:=fun vs H Q _=>∃ k:Nat,vs=[.int k]∧k < 702∧Q (.str (aI k)) H
theorem zeU:zac ["_law_k","_law_letters"] ["_law_k"] (aj zdS):=⟨rfl,rfl,rfl,by decide +kernel,rfl,by decide +kernel,by decide +kernel⟩
theorem zka (F:Fun K "_law_spare" "_law_spare" zdS f fd):FnOk P w K mg base CX0 1 f fd ["_law_k"] zg2:=by
 refine F.ok zeU (fun vs H Q E h=>?_) (fun cdv A outer s H vs Q E hr h=>?_)
 ·obtain⟨k,rfl,_⟩:=h
  rfl
 obtain⟨k,rfl,hk,q⟩:=h
 refine⟨_,(ae (az (i:=1) zeU.nd rfl (Or.inl rfl) au)
  (ae (zal (av zf2 (pv 0) ag (aD _))
   (ai (ay (aw zbQ au (aA ze4 (pv 1) (pv 0) (fun _ _=>rfl)))))
   zad)
  (ai (ay (aw zbQ (aw zbQ au (aA ze4 (pv 1) (aw ze0 (aw za6 (pv 0) ag) ag) (fun _ _=>rfl))) (aA ze4 (pv 1) (aw zaM (pv 0) ag) (fun _ _=>rfl))))))),?_⟩
 have z1:("z":Str).length=1:=by decide +kernel
 unfold aI at q
 refine⟨_,rfl,_,_,rfl,rfl,_,rfl,aG (fun c=>?_) (fun c=>?_)⟩
 ·have c':(k:Int) < 26:=of_decide_eq_true c
  rw[if_pos (by omega)]at q
  exact⟨_,rfl,_,rfl,abc,_,_,rfl,rfl,sz _ (by decide +kernel),zgc (by omega),_,_,rfl,rfl,sz _ (by rw[z1,zer];decide),q⟩
 ·have c':¬(k:Int) < 26:=of_decide_eq_false (Bool.eq_false_iff.mpr c)
  rw[if_neg (by omega)]at q
  have e1:(k:Int) / 26 - 1=((k / 26 - 1:Nat):Int):=by omega
  have e2:(k:Int) % 26=((k % 26:Nat):Int):=by omega
  refine⟨_,rfl,_,rfl,_,_,rfl,rfl,⟨by decide,by decide⟩,_,_,rfl,rfl,abc,_,_,rfl,rfl,sz _ (by decide +kernel),by rw[e1];exact zgc (by omega),_,_,rfl,rfl,sz _ (by rw[z1,zer];decide),_,rfl,_,rfl,_,_,rfl,rfl,(by show(0:Int) < 26;decide),abc,_,_,rfl,rfl,sz _ (by decide +kernel),by rw[e2];exact zgc (by omega),_,_,rfl,rfl,sz _ (by rw[zaH,z1,zer,zer];decide),?_⟩
  rw[zj2]
  exact q
end
end K74
namespace K74
open PySem L2
open F74 (Tr Fm dTr zax dFm FOk fdp zaF zbR)
section
variable {P:Program} {w:World} {K:W.Frag} {mg:Str→Option Value} {base:Heap} {f:Addr} {fd:FuncData}
theorem zd8 {H:Hp} {q:Addr} {z:Str} (h:H q=some (.tup [.str "plain",.str z])):Has K H (dA (.plain z)) (.ref q):=Has.tup' (SqT.of h) (.cons Has.str' (.cons Has.str' .nil))
theorem zda {H:Hp} {q:Addr} {a b:Int} (h:H q=some (.tup [.str "same",.int a,.int b])):Has K H (dA (.same a b)) (.ref q):=Has.tup' (SqT.of h) (.cons Has.str' (.cons (by simp only[Has]) (.cons (by simp only[Has]) .nil)))
def ze9 (K:W.Frag):Sp:=fun vs H Q _=>∃(dh tl al rl tk:Addr) (s:LS) (z:Str),vs=[.ref dh,.str z]∧zay K H dh tl al rl tk s∧M s≤1000000 ∧
 ∀ H',zay K H' dh tl al rl tk ⟨s.T,(zaW s.A z).1,s.R,s.tk⟩→FrD H H' tl al rl tk→Q (.int ((zaW s.A z).2:Nat)) H'
theorem zhn:zac ["_law_due_here","_law_name"] ["_law_due_here","_law_name"] (aj zdT):=⟨rfl,rfl,rfl,by decide +kernel,rfl,by decide +kernel,by decide +kernel⟩
theorem q1r {Q:VK} {n:Nat} {H:Hp} (h:Q (.int ((n+1:Nat):Int)) H):Q (.int (1+((n:Nat):Int))) H:=by
 rw[Int.add_comm]
 exact h
set_option maxHeartbeats 1000000 in
theorem zkb (F:Fun K "_law_plain" "_law_plain" zdT f fd):FnOk P w K mg base CX0 1 f fd ["_law_due_here","_law_name"] (ze9 K):=by
 refine F.ok zhn (fun vs H Q E h=>?_) (fun cdv A outer s H vs Q E hr h=>?_)
 ·obtain⟨dh,tl,al,rl,tk,s,z,rfl,_⟩:=h
  rfl
 obtain⟨dh,tl,al,rl,tk,s,z,rfl,D,m6,q⟩:=h
 have hu:=zex hr
 refine⟨_,(ae (zal (av (zcO hu) (zae (aa au (aa (pv 1) ac))) (aA zaf (pv 0) ag (fun _ _=>rfl)) rfl)
   (ai (zau (zbH PySem.F.plainAttrs_list PySem.F.slot_list_append PySem.F.type_list_append zaZ (aA zaf (pv 0) ag (fun _ _=>rfl)) (aa (zae (aa au (aa (pv 1) ac))) ac))))
   zad)
  (ai (ay (aw za9 ag (zbH PySem.F.plainAttrs_list PySem.F.slot_list_index PySem.F.type_list_index (zcP hu) (aA zaf (pv 0) ag (fun _ _=>rfl)) (aa (zae (aa au (aa (pv 1) ac))) ac)))))),?_⟩
 have z2:2≤sizeLine:=by decide
 obtain⟨xs,hl,hs⟩:=id D.am
 have xl:xs.length=s.A.length:=by rw[←hs.length,List.length_map]
 refine⟨_,rfl,z2,fun l1 h1=>?_⟩
 have s1:=ah h1 (.tup [V.str "plain",V.str z])
 have n1:=ad (H:=H) (a:=l1) (o:=.tup [V.str "plain",V.str z])
 generalize upd H l1 (.tup [V.str "plain",V.str z])=H1 at s1 n1
 have D1:=D.same s1
 have hl1:=s1 _ _ hl
 have hs1:=hs.keep s1.kt (zab zaN _)
 refine⟨_,rfl,dh,_,_,_,rfl,rfl,D1.tp,zce _ _ _,al,xs,s.A.map dA,dA (.plain z),rfl,.inl (SqL.of hl1),hs1,zd8 n1,zd0 _,_,rfl,?_⟩
 have ea:=zbF zch s.A (.plain z)
 unfold zaW at q
 by_cases hm:.plain z∈s.A
 ·rw[decide_eq_true hm]at ea
  rw[if_pos hm]at q
  refine aG (fun c=>absurd (show(!(s.A.map dA).any fun d'=>peq d' (dA (.plain z)))=true from c) (by rw[ea];decide)) (fun _=>?_)
  refine⟨_,rfl,dh,_,_,_,rfl,rfl,D1.tp,zce _ _ _,.inl ⟨rfl,_,SqL.of hl1⟩,_,rfl,z2,fun l2 h2=>?_⟩
  have s2:=ah h2 (.tup [V.str "plain",V.str z])
  have n2:=ad (H:=H1) (a:=l2) (o:=.tup [V.str "plain",V.str z])
  generalize upd H1 l2 (.tup [V.str "plain",V.str z])=H2 at s2 n2
  have ix:=zfD zch hm
  refine⟨al,_,_,_,_,_,rfl,rfl,(s2 _ _ hl1),(hs1.keep s2.kt (zab zaN _)),(zd8 n2),(zd0 _),ix.1,ix.2,?_⟩
  exact⟨_,_,rfl,rfl,q1r (q H2 (D1.same s2) (FrD.of_same (s1.trans s2)))⟩
 ·rw[decide_eq_false hm]at ea
  rw[if_neg hm]at q
  refine aG (fun _=>?_) (fun c=>absurd (show(!(s.A.map dA).any fun d'=>peq d' (dA (.plain z)))=true by rw[ea];rfl) c)
  refine⟨_,rfl,dh,_,_,_,rfl,rfl,D1.tp,zce _ _ _,.inl ⟨rfl,_,SqL.of hl1⟩,_,rfl,z2,fun l2 h2=>?_⟩
  have s2:=ah h2 (.tup [V.str "plain",V.str z])
  have n2:=ad (H:=H1) (a:=l2) (o:=.tup [V.str "plain",V.str z])
  generalize upd H1 l2 (.tup [V.str "plain",V.str z])=H2 at s2 n2
  have D2:=D1.same s2
  have hl2:=s2 _ _ hl1
  have hs2:=hs1.keep s2.kt (zab zaN _)
  refine⟨al,xs,_,rfl,rfl,hl2,bigL (by unfold M at m6;omega),?_⟩
  have D3:=D2.putA hl2 hs2 (zd8 n2)
  have f3:FrD H2 (upd H2 al (.lst (xs++[.ref l2]))) tl al rl tk:=FrD.upA
  generalize upd H2 al (.lst (xs++[.ref l2]))=H3 at D3 f3
  obtain⟨ys,hl3,hs3⟩:=id D3.am
  refine⟨_,rfl,dh,_,_,_,rfl,rfl,D3.tp,zce _ _ _,.inl ⟨rfl,_,SqL.of hl3⟩,_,rfl,z2,fun l4 h4=>?_⟩
  have s4:=ah h4 (.tup [V.str "plain",V.str z])
  have n4:=ad (H:=H3) (a:=l4) (o:=.tup [V.str "plain",V.str z])
  generalize upd H3 l4 (.tup [V.str "plain",V.str z])=H4 at s4 n4
  have ix:=zfD zch (A:=s.A++[.plain z]) (t:=.plain z) (by simp)
  refine⟨al,_,_,_,_,_,rfl,rfl,(s4 _ _ hl3),(hs3.keep s4.kt (zab zaN _)),(zd8 n4),(zd0 _),ix.1,ix.2,?_⟩
  refine⟨_,_,rfl,rfl,?_⟩
  rw[zgN hm]
  exact q1r (q H4 (D3.same s4) ((FrD.of_same (s1.trans s2)).trans (f3.trans (FrD.of_same s4))))
def zeB (K:W.Frag):Sp:=fun vs H Q _=>∃(dh tl al rl tk:Addr) (s:LS) (a b:Int),vs=[.ref dh,.int a,.int b]∧zay K H dh tl al rl tk s∧M s≤1000000 ∧
 ∀ H',zay K H' dh tl al rl tk ⟨s.T,(za0 s.A a b).1,s.R,s.tk⟩→FrD H H' tl al rl tk→Q (.int ((za0 s.A a b).2:Nat)) H'
theorem zik:zac ["_law_due_here","_law_one","_law_other"] ["_law_due_here","_law_one","_law_other"] (aj zej):=⟨rfl,rfl,rfl,by decide +kernel,rfl,by decide +kernel,by decide +kernel⟩
set_option maxHeartbeats 1000000 in
theorem zkR (F:Fun K "_law_same" "_law_same" zej f fd):FnOk P w K mg base CX0 1 f fd ["_law_due_here","_law_one","_law_other"] (zeB K):=by
 refine F.ok zik (fun vs H Q E h=>?_) (fun cdv A outer s H vs Q E hr h=>?_)
 ·obtain⟨dh,tl,al,rl,tk,s,a,b,rfl,_⟩:=h
  rfl
 obtain⟨dh,tl,al,rl,tk,s,a,b,rfl,D,m6,q⟩:=h
 have hu:=zex hr
 refine⟨_,(ae (zal (av (zhA hu) (zae (aa au (aa (pv 2) (aa (pv 1) ac)))) (aA zaf (pv 0) ag (fun _ _=>rfl)) rfl)
   (ai (ay (aw za9 ag (zbH PySem.F.plainAttrs_list PySem.F.slot_list_index PySem.F.type_list_index (zcP hu) (aA zaf (pv 0) ag (fun _ _=>rfl)) (aa (zae (aa au (aa (pv 2) (aa (pv 1) ac)))) ac)))))
   zad)
  (ae (zal (av (zcO hu) (zae (aa au (aa (pv 1) (aa (pv 2) ac)))) (aA zaf (pv 0) ag (fun _ _=>rfl)) rfl)
   (ai (zau (zbH PySem.F.plainAttrs_list PySem.F.slot_list_append PySem.F.type_list_append zaZ (aA zaf (pv 0) ag (fun _ _=>rfl)) (aa (zae (aa au (aa (pv 1) (aa (pv 2) ac)))) ac))))
   zad)
  (ai (ay (aw za9 ag (zbH PySem.F.plainAttrs_list PySem.F.slot_list_index PySem.F.type_list_index (zcP hu) (aA zaf (pv 0) ag (fun _ _=>rfl)) (aa (zae (aa au (aa (pv 1) (aa (pv 2) ac)))) ac))))))),?_⟩
 have z3:3≤sizeLine:=by decide
 obtain⟨xs,hl,hs⟩:=id D.am
 have xl:xs.length=s.A.length:=by rw[←hs.length,List.length_map]
 refine⟨_,rfl,_,rfl,z3,fun l1 h1=>?_⟩
 have s1:=ah h1 (.tup [V.str "same",V.int b,V.int a])
 have n1:=ad (H:=H) (a:=l1) (o:=.tup [V.str "same",V.int b,V.int a])
 generalize upd H l1 (.tup [V.str "same",V.int b,V.int a])=H1 at s1 n1
 have D1:=D.same s1
 have hl1:=s1 _ _ hl
 have hs1:=hs.keep s1.kt (zab zaN _)
 refine⟨_,rfl,dh,_,_,_,rfl,rfl,D1.tp,zce _ _ _,al,xs,s.A.map dA,dA (.same b a),rfl,.inl (SqL.of hl1),hs1,zda n1,zd0 _,_,rfl,?_⟩
 have ea:=zbF zch s.A (.same b a)
 unfold za0 at q
 by_cases hm:.same b a∈s.A
 ·rw[decide_eq_true hm]at ea
  rw[if_pos hm]at q
  refine aG (fun _=>?_) (fun c=>absurd (show((s.A.map dA).any fun d'=>peq d' (dA (.same b a)))=true by rw[ea]) c)
  refine⟨_,rfl,dh,_,_,_,rfl,rfl,D1.tp,zce _ _ _,.inl ⟨rfl,_,SqL.of hl1⟩,_,rfl,_,rfl,z3,fun l2 h2=>?_⟩
  have s2:=ah h2 (.tup [V.str "same",V.int b,V.int a])
  have n2:=ad (H:=H1) (a:=l2) (o:=.tup [V.str "same",V.int b,V.int a])
  generalize upd H1 l2 (.tup [V.str "same",V.int b,V.int a])=H2 at s2 n2
  have ix:=zfD zch hm
  refine⟨al,_,_,_,_,_,rfl,rfl,(s2 _ _ hl1),(hs1.keep s2.kt (zab zaN _)),(zda n2),(zd0 _),ix.1,ix.2,?_⟩
  exact⟨_,_,rfl,rfl,q1r (q H2 (D1.same s2) (FrD.of_same (s1.trans s2)))⟩
 rw[decide_eq_false hm]at ea
 rw[if_neg hm]at q
 refine aG (fun c=>absurd (show((s.A.map dA).any fun d'=>peq d' (dA (.same b a)))=true from c) (by rw[ea];decide)) (fun _=>?_)
 refine⟨_,rfl,_,rfl,z3,fun l5 h5=>?_⟩
 have s5:=ah h5 (.tup [V.str "same",V.int a,V.int b])
 have n5:=ad (H:=H1) (a:=l5) (o:=.tup [V.str "same",V.int a,V.int b])
 generalize upd H1 l5 (.tup [V.str "same",V.int a,V.int b])=H5 at s5 n5
 have D5:=D1.same s5
 have hl5:=s5 _ _ hl1
 have hs5:=hs1.keep s5.kt (zab zaN _)
 have s05:=s1.trans s5
 refine⟨_,rfl,dh,_,_,_,rfl,rfl,D5.tp,zce _ _ _,al,xs,s.A.map dA,dA (.same a b),rfl,.inl (SqL.of hl5),hs5,zda n5,zd0 _,_,rfl,?_⟩
 have eb:=zbF zch s.A (.same a b)
 by_cases hk:.same a b∈s.A
 ·rw[decide_eq_true hk]at eb
  rw[if_pos hk]at q
  refine aG (fun c=>absurd (show(!(s.A.map dA).any fun d'=>peq d' (dA (.same a b)))=true from c) (by rw[eb];decide)) (fun _=>?_)
  refine⟨_,rfl,dh,_,_,_,rfl,rfl,D5.tp,zce _ _ _,.inl ⟨rfl,_,SqL.of hl5⟩,_,rfl,_,rfl,z3,fun l2 h2=>?_⟩
  have s2:=ah h2 (.tup [V.str "same",V.int a,V.int b])
  have n2:=ad (H:=H5) (a:=l2) (o:=.tup [V.str "same",V.int a,V.int b])
  generalize upd H5 l2 (.tup [V.str "same",V.int a,V.int b])=H2 at s2 n2
  have ix:=zfD zch hk
  refine⟨al,_,_,_,_,_,rfl,rfl,(s2 _ _ hl5),(hs5.keep s2.kt (zab zaN _)),(zda n2),(zd0 _),ix.1,ix.2,?_⟩
  exact⟨_,_,rfl,rfl,q1r (q H2 (D5.same s2) (FrD.of_same (s05.trans s2)))⟩
 ·rw[decide_eq_false hk]at eb
  rw[if_neg hk]at q
  refine aG (fun _=>?_) (fun c=>absurd (show(!(s.A.map dA).any fun d'=>peq d' (dA (.same a b)))=true by rw[eb];rfl) c)
  refine⟨_,rfl,dh,_,_,_,rfl,rfl,D5.tp,zce _ _ _,.inl ⟨rfl,_,SqL.of hl5⟩,_,rfl,_,rfl,z3,fun l2 h2=>?_⟩
  have s2:=ah h2 (.tup [V.str "same",V.int a,V.int b])
  have n2:=ad (H:=H5) (a:=l2) (o:=.tup [V.str "same",V.int a,V.int b])
  generalize upd H5 l2 (.tup [V.str "same",V.int a,V.int b])=H2 at s2 n2
  have D2:=D5.same s2
  have hl2:=s2 _ _ hl5
  have hs2:=hs5.keep s2.kt (zab zaN _)
  refine⟨al,xs,_,rfl,rfl,hl2,bigL (by unfold M at m6;omega),?_⟩
  have D3:=D2.putA hl2 hs2 (zda n2)
  have f3:FrD H2 (upd H2 al (.lst (xs++[.ref l2]))) tl al rl tk:=FrD.upA
  generalize upd H2 al (.lst (xs++[.ref l2]))=H3 at D3 f3
  obtain⟨ys,hl3,hs3⟩:=id D3.am
  refine⟨_,rfl,dh,_,_,_,rfl,rfl,D3.tp,zce _ _ _,.inl ⟨rfl,_,SqL.of hl3⟩,_,rfl,_,rfl,z3,fun l4 h4=>?_⟩
  have s4:=ah h4 (.tup [V.str "same",V.int a,V.int b])
  have n4:=ad (H:=H3) (a:=l4) (o:=.tup [V.str "same",V.int a,V.int b])
  generalize upd H3 l4 (.tup [V.str "same",V.int a,V.int b])=H4 at s4 n4
  have ix:=zfD zch (A:=s.A++[.same a b]) (t:=.same a b) (by simp)
  refine⟨al,_,_,_,_,_,rfl,rfl,(s4 _ _ hl3),(hs3.keep s4.kt (zab zaN _)),(zda n4),(zd0 _),ix.1,ix.2,?_⟩
  refine⟨_,_,rfl,rfl,?_⟩
  rw[zgN hk]
  exact q1r (q H4 (D3.same s4) ((FrD.of_same (s05.trans s2)).trans (f3.trans (FrD.of_same s4))))
end
end K74
namespace K74
open PySem L2
open F74 (Tr Fm dTr zax dFm FOk fdp zaF zbR)
theorem zkY (s:LS) (r:List Int):za2 s [r]=⟨s.T,s.A,s.R++[zaq [] r],s.tk⟩:=rfl
theorem zkX (T:List Tm):∀(xs ys:List Tr),aF T (xs++ys)=((aF (aF T xs).1 ys).1,(aF T xs).2++(aF (aF T xs).1 ys).2):=fun xs=>by
 induction xs generalizing T with
 | nil=>intro ys;simp only[List.nil_append,aF]
 | cons t xs ih =>
  intro ys
  rw[List.cons_append]
  simp only[aF,ih,List.cons_append]
theorem zd6 {T:List Tm} {ts:List Tr} {i:Nat} {t:Tr} (h:ts[i]?=some t):aF T (ts.take (i+1))=((lTr (aF T (ts.take i)).1 t).1,(aF T (ts.take i)).2++[((lTr (aF T (ts.take i)).1 t).2:Int)]):=by
 rw[zbP h,zkX]
 simp only[aF]
theorem zgH:∀ xs ys:List Tr,nds (xs++ys)=nds xs+nds ys
 | [],ys=>by simp [nds]
 | t :: xs,ys=>by
  rw[List.cons_append]
  simp only[nds,zgH xs ys]
  omega
theorem zh3 {ts:List Tr} {i:Nat} {t:Tr} (h:ts[i]?=some t):nds (ts.take i)+nd t≤nds ts:=by
 have e:nds ts=nds (ts.take (i+1)++ts.drop (i+1)):=by rw[List.take_append_drop]
 rw[e,zbP h,zgH,zgH]
 simp only[nds]
 omega
theorem ziS:∀ ts:List Tr,ts.length≤nds ts
 | []=>Nat.le_refl _
 | .node n us :: ts=>by
  have:=ziS ts
  simp only[nds,nd,List.length_cons]
  omega
section
variable {P:Program} {w:World} {K:W.Frag} {mg:Str→Option Value} {base:Heap} {aK C CN CT CP CM CZ:Addr} {f fS' fP':Addr} {fd dS' dP':FuncData}
def zc7 (K:W.Frag):Sp:=fun vs H Q _=>∃(dh tl al rl tk qa:Addr) (s:LS) (ps:List Int),vs=[.ref dh,.ref qa]∧zay K H dh tl al rl tk s∧M s≤1000000∧SqI K H qa ps∧ps.length≤1000 ∧
 ∀ H',zay K H' dh tl al rl tk (za2 s [ps])→FrD H H' tl al rl tk→Q .non H'
theorem zeg:zac ["_law_due_here","_law_row","_law_once","_law_part_here"] ["_law_due_here","_law_row"] (aj zeP):=⟨rfl,rfl,rfl,by decide +kernel,rfl,by decide +kernel,by decide +kernel⟩
set_option maxHeartbeats 1000000 in
theorem zlv (F:Fun K "_law_put" "_law_put" zeP f fd) (T:Txt K mg aK C CN CT CP CM):FnOk P w K mg base CX0 1 f fd ["_law_due_here","_law_row"] (zc7 K):=by
 refine F.ok zeg (fun vs H Q E h=>?_) (fun cdv A outer s H vs Q E hr h=>?_)
 ·obtain⟨dh,tl,al,rl,tk,qa,s,ps,rfl,_⟩:=h
  rfl
 obtain⟨dh,tl,al,rl,tk,qa,s,ps,rfl,D,m6,hq,len,q⟩:=h
 rw[zkY]at q
 have hu:=zex hr
 refine⟨_,(ae (az (i:=2) zeg.nd rfl (Or.inl rfl) (zag ac))
  (ae (zbp PassesOwn.never rfl (zf9 (pv 1)) (zaO (i:=3) zeg.nd rfl (Or.inl rfl))
   (ai (zal (av (zcO hu) (pv 3) (pv 2) rfl)
     (ai (zau (zbH PySem.F.plainAttrs_list PySem.F.slot_list_append PySem.F.type_list_append zaZ (pv 2) (aa (pv 3) ac))))
     zad)))
  (ai (zau (zbH PySem.F.plainAttrs_list PySem.F.slot_list_append PySem.F.type_list_append zaZ (aA zaf (pv 0) ag (fun _ _=>rfl)) (aa (za7 zbK rfl T.tuple PyProof.Rows.Boot.tuple (aa (pv 2) ac)) ac)))))),?_⟩
 refine⟨lS0,fun l hl=>?_⟩
 have s1:ap H (upd H l (.lst [])):=za4 hl _
 rcases hq with hqX | hqX
 ·refine⟨_,rfl,qa,rfl,.inl ⟨⟨_,s1.seq hqX⟩,zeK (K:=K) (a:=qa) (xs:=ps.map V.int) (fun i σ H2=>ap H H2∧(∃ z,σ=[some (.ref dh),some (.ref qa),some (.ref l),z])∧H2 l=some (.lst ((zaq [] (ps.take i)).map V.int)))
   ⟨s1,⟨_,rfl⟩,ad⟩ (fun i σ H2 _ ⟨e,_⟩=>e.seq hqX) ?_ ?_⟩⟩
  ·rintro i x σ H2 hx ⟨s2,⟨z,rfl⟩,hl2⟩
   obtain⟨k',ek,rfl⟩:=zdy hx
   have et:=zd3 (acc:=[]) ek
   have lenz:((zaq [] (ps.take i)).map V.int).length < sizeLine:=by
    rw[List.length_map]
    have:=zdL (ps.take i) []
    rw[List.length_take,List.length_nil]at this
    exact Nat.lt_of_le_of_lt (show _≤1000 by omega) (by decide)
   refine⟨_,rfl,_,rfl,l,_,(zaq [] (ps.take i)).map Dt.int,.int k',rfl,.inl (SqL.of hl2),HasL.ints _,by simp only[Has],by rw[zck];decide,_,rfl,?_⟩
   have ea:=zbF zfr (zaq [] (ps.take i)) k'
   by_cases hm:k'∈zaq [] (ps.take i)
   ·rw[decide_eq_true hm]at ea
    refine aG (fun c=>absurd (show(!((zaq [] (ps.take i)).map Dt.int).any fun d'=>peq d' (.int k'))=true from c) (by rw[ea];decide)) (fun _=>?_)
    rw[if_pos hm]at et
    exact⟨s2,⟨_,rfl⟩,by rw[et];exact hl2⟩
   ·rw[decide_eq_false hm]at ea
    refine aG (fun _=>?_) (fun c=>absurd (show(!((zaq [] (ps.take i)).map Dt.int).any fun d'=>peq d' (.int k'))=true by rw[ea];rfl) c)
    rw[if_neg hm]at et
    refine⟨_,rfl,.inl ⟨rfl,_,SqL.of hl2⟩,_,rfl,l,_,_,rfl,rfl,hl2,lenz,?_⟩
    refine⟨fun b o e=>by rw[ao (zaa e hl)];exact s2 b o e,⟨_,rfl⟩,?_⟩
    rw[et,List.map_append,ad]
    rfl
  ·rintro σ H2 ⟨s2,⟨z,rfl⟩,hl2⟩
   rw[List.length_map,List.take_length]at hl2
   have D2:=D.same s2
   obtain⟨ys,hy,hys⟩:=id D2.rm
   refine⟨_,rfl,dh,_,_,_,rfl,rfl,D2.tp,zeA _ _ _,.inl ⟨rfl,_,SqL.of hy⟩,_,rfl,l,_,rfl,.inl ⟨SqL.of hl2,fun t ht=>?_⟩⟩
   have s3:=ah ht (.tup ((zaq [] ps).map V.int))
   have n3:=ad (H:=H2) (a:=t) (o:=.tup ((zaq [] ps).map V.int))
   generalize upd H2 t (.tup ((zaq [] ps).map V.int))=H3 at s3 n3
   have D3:=D2.same s3
   have hy3:=s3 _ _ hy
   have yl:ys.length=s.R.length:=by rw[←hys.length,List.length_map]
   refine⟨rl,ys,_,rfl,rfl,hy3,bigL (by unfold M at m6;omega),?_⟩
   exact q _ (D3.putR hy3 (hys.keep s3.kt (zab zbf _)) (Has.tup' (SqT.of n3) (HasL.ints _))) ((FrD.of_same (s2.trans s3)).trans FrD.upR)
 ·refine⟨_,rfl,qa,rfl,.inr ⟨⟨_,(zaj.of_same s1).sq hqX⟩,zfs (K:=K) (a:=qa) (xs:=ps.map V.int) (fun i σ H2=>ap H H2∧(∃ z,σ=[some (.ref dh),some (.ref qa),some (.ref l),z])∧H2 l=some (.lst ((zaq [] (ps.take i)).map V.int)))
   ⟨s1,⟨_,rfl⟩,ad⟩ (fun i σ H2 _ ⟨e,_⟩=>(zaj.of_same e).sq hqX) ?_ ?_⟩⟩
  ·rintro i x σ H2 hx ⟨s2,⟨z,rfl⟩,hl2⟩
   obtain⟨k',ek,rfl⟩:=zdy hx
   have et:=zd3 (acc:=[]) ek
   have lenz:((zaq [] (ps.take i)).map V.int).length < sizeLine:=by
    rw[List.length_map]
    have:=zdL (ps.take i) []
    rw[List.length_take,List.length_nil]at this
    exact Nat.lt_of_le_of_lt (show _≤1000 by omega) (by decide)
   refine⟨_,rfl,_,rfl,l,_,(zaq [] (ps.take i)).map Dt.int,.int k',rfl,.inl (SqL.of hl2),HasL.ints _,by simp only[Has],by rw[zck];decide,_,rfl,?_⟩
   have ea:=zbF zfr (zaq [] (ps.take i)) k'
   by_cases hm:k'∈zaq [] (ps.take i)
   ·rw[decide_eq_true hm]at ea
    refine aG (fun c=>absurd (show(!((zaq [] (ps.take i)).map Dt.int).any fun d'=>peq d' (.int k'))=true from c) (by rw[ea];decide)) (fun _=>?_)
    rw[if_pos hm]at et
    exact⟨s2,⟨_,rfl⟩,by rw[et];exact hl2⟩
   ·rw[decide_eq_false hm]at ea
    refine aG (fun _=>?_) (fun c=>absurd (show(!((zaq [] (ps.take i)).map Dt.int).any fun d'=>peq d' (.int k'))=true by rw[ea];rfl) c)
    rw[if_neg hm]at et
    refine⟨_,rfl,.inl ⟨rfl,_,SqL.of hl2⟩,_,rfl,l,_,_,rfl,rfl,hl2,lenz,?_⟩
    refine⟨fun b o e=>by rw[ao (zaa e hl)];exact s2 b o e,⟨_,rfl⟩,?_⟩
    rw[et,List.map_append,ad]
    rfl
  ·rintro σ H2 ⟨s2,⟨z,rfl⟩,hl2⟩
   rw[List.length_map,List.take_length]at hl2
   have D2:=D.same s2
   obtain⟨ys,hy,hys⟩:=id D2.rm
   refine⟨_,rfl,dh,_,_,_,rfl,rfl,D2.tp,zeA _ _ _,.inl ⟨rfl,_,SqL.of hy⟩,_,rfl,l,_,rfl,.inl ⟨SqL.of hl2,fun t ht=>?_⟩⟩
   have s3:=ah ht (.tup ((zaq [] ps).map V.int))
   have n3:=ad (H:=H2) (a:=t) (o:=.tup ((zaq [] ps).map V.int))
   generalize upd H2 t (.tup ((zaq [] ps).map V.int))=H3 at s3 n3
   have D3:=D2.same s3
   have hy3:=s3 _ _ hy
   have yl:ys.length=s.R.length:=by rw[←hys.length,List.length_map]
   refine⟨rl,ys,_,rfl,rfl,hy3,bigL (by unfold M at m6;omega),?_⟩
   exact q _ (D3.putR hy3 (hys.keep s3.kt (zab zbf _)) (Has.tup' (SqT.of n3) (HasL.ints _))) ((FrD.of_same (s2.trans s3)).trans FrD.upR)
theorem zeH {H:Hp} {q r:Addr} {n:Str} {ks:List Int} (h:H q=some (.tup [.str n,.ref r])) (h2:H r=some (.tup (ks.map V.int))):Has K H (dT (n,ks)) (.ref q):=Has.tup' (SqT.of h) (.cons Has.str' (.cons (Has.tup' (SqT.of h2) (HasL.ints _)) .nil))
def zfM (K:W.Frag) (n:Nat):Sp:=fun vs H Q _=>∃(dh tl al rl tk:Addr) (s:LS) (t:Tr) (v:V),vs=[.ref dh,v]∧zay K H dh tl al rl tk s∧Has K H (dTr t) v∧F74.dp t≤n∧M s+nd t≤1000000 ∧
 ∀ H',zay K H' dh tl al rl tk ⟨(lTr s.T t).1,s.A,s.R,s.tk⟩→FrD H H' tl al rl tk→Q (.int ((lTr s.T t).2:Nat)) H'
theorem zfk:zac ["_law_due_here","_law_tree_here","_law_parts"] ["_law_due_here","_law_tree_here"] (aj zdg):=⟨rfl,rfl,rfl,by decide +kernel,rfl,by decide +kernel,by decide +kernel⟩
set_option maxHeartbeats 1000000 in
theorem zhY (F:Fun K "_law_term" "_law_term" zdg f fd) (T:Txt K mg aK C CN CT CP CM) (b:ar K fd ["_law_due_here","_law_tree_here"] []) (kp:W.keepIn K (.ref f)=true) (m:mg "_law_term"=some (.ref f)) :
  ∀ n,FnOk P w K mg base CX0 (n+1) f fd ["_law_due_here","_law_tree_here"] (zfM K n)
 | 0=>F74.FnOk.no fun _ _ _ _ ⟨_,_,_,_,_,_,t,_,_,_,_,h,_⟩=>by
  cases t with
  | node n ts=>simp only[F74.dp]at h;omega
 | n+1=>by
  have IH:=zhY F T b kp m n
  refine F.ok zfk (fun vs H Q E h=>?_) (fun cdv A outer s H vs Q E hr h=>?_)
  ·obtain⟨dh,tl,al,rl,tk,s,t,v,rfl,_⟩:=h
   rfl
  obtain⟨dh,tl,al,rl,tk,s,t,v,rfl,D,hv,hd,m6,q⟩:=h
  have hu:=zex hr
  cases t with
  | node nm ts =>
  obtain⟨pt,pq,xs,rfl,hpt,hpq,hxs⟩:=F74.tr_at hv
  have dts:∀ u∈ts,F74.dp u≤n:=by
   simp only[F74.dp]at hd
   exact F74.dps_le (by omega)
  simp only[nd]at m6
  refine⟨_,(ae (az (i:=2) zfk.nd rfl (Or.inl rfl) (za7 zbK rfl T.tuple PyProof.Rows.Boot.tuple (aa (zfm (N':=["_law_inner","_law_due_here"]) (ix:=[0]) rfl rfl (by decide +kernel) (by decide +kernel) rfl (fun ok=>zcx (sc:=aj zdg) ok rfl (by decide +kernel) (by decide +kernel)) (by decide +kernel) rfl rfl (fun j i h=>match j,h with | 0,h=>by cases h;exact⟨_,rfl,rfl,.inl rfl,.inl rfl⟩ | n+1,h=>by simp at h) (zf8 (aA zaf (pv 1) ag (fun _ _=>rfl))) (fun _ _ _ _=>(aq IH hr rfl m kp b .nil aJ (aa (pv 1) (aa (pv 0) ac))))) ac)))
   (ae (zal (av (zcO hu) (zae (aa (aA zaf (pv 1) ag (fun _ _=>rfl)) (aa (pv 2) ac))) (aA zaf (pv 0) ag (fun _ _=>rfl)) rfl)
    (ai (zau (zbH PySem.F.plainAttrs_list PySem.F.slot_list_append PySem.F.type_list_append zaZ (aA zaf (pv 0) ag (fun _ _=>rfl)) (aa (zae (aa (aA zaf (pv 1) ag (fun _ _=>rfl)) (aa (pv 2) ac))) ac))))
    zad)
   (ai (ay (zbH PySem.F.plainAttrs_list PySem.F.slot_list_index PySem.F.type_list_index (zcP hu) (aA zaf (pv 0) ag (fun _ _=>rfl)) (aa (zae (aa (aA zaf (pv 1) ag (fun _ _=>rfl)) (aa (pv 2) ac))) ac)))))),?_⟩
  have at0:atI [V.str nm,V.ref pq] 0=some (.str nm):=zah (j:=0) rfl
  have at1:atI [V.str nm,V.ref pq] 1=some (.ref pq):=zah (j:=1) rfl
  have xl:xs.length=ts.length:=by rw[←hxs.length,F74.dTrs_length]
  have z2:2≤sizeLine:=by decide
  have tl3:=zbV ts s.T
  refine⟨_,rfl,pt,_,_,_,rfl,rfl,hpt,at1,pq,rfl,⟨_,hpq⟩,fun U hU=>?_⟩
  obtain⟨u1,u2,u3,u4⟩:=D.old hU
  refine zdd zf4 (fun i us H'=>FrD H H' tl al rl tk∧zay K H' dh tl al rl tk ⟨(aF s.T (ts.take i)).1,s.A,s.R,s.tk⟩∧us=(aF s.T (ts.take i)).2.map V.int) (fun i us H' ⟨f1,_⟩=>(D.kt f1).sq hpq) ⟨FrD.of_same (ah hU _),D.same (ah hU _),rfl⟩ ?_ ?_
  ·rintro i us H8 x H4 hi hly hUs ⟨f4,D4,rfl⟩ ⟨rfl,hx⟩
   obtain⟨u,hu',hxu⟩:=F74.trs_get (hxs.keep (D.kt f4) (F74.nols_dTrs _)) (hx _ ((D.kt f4).sq hpq))
   have um:=List.mem_of_getElem? hu'
   have ns:=zh3 hu'
   have ll:=zbV (ts.take i) s.T
   refine⟨_,rfl,_,rfl,dh,tl,al,rl,tk,_,u,x,rfl,D4,hxu,dts u um,by simp only[M]at m6 ⊢;omega,fun H5 D5 f5=>?_⟩
   have hU5:=f5 _ _ hUs u1 u2 u3 u4
   have ln:=ziS ts
   refine zb5 (bigM (by rw[xl];omega)) hi hly hU5 ⟨fun c o hc h1 h2 h3 h4=>?_,?_,by rw[zd6 hu',List.map_append];rfl⟩
   ·rw[ao (fun e=>by rw[e,hU]at hc;cases hc)]
    exact f5 _ _ (f4 _ _ hc h1 h2 h3 h4) h1 h2 h3 h4
   ·rw[zd6 hu']
    exact D5.putL hU5 u1 u2 u3 u4
  ·rintro us H4 hUs ⟨f4,D4,rfl⟩
   rw[xl,List.take_length]at D4 hUs
   refine⟨U,_,rfl,.inl ⟨SqL.of hUs,fun r hr'=>?_⟩⟩
   have s5:=ah hr' (.tup ((aF s.T ts).2.map V.int))
   have n5:=ad (H:=H4) (a:=r) (o:=.tup ((aF s.T ts).2.map V.int))
   generalize upd H4 r (.tup ((aF s.T ts).2.map V.int))=H5 at s5 n5
   have D5:=D4.same s5
   have f05:FrD H H5 tl al rl tk:=f4.trans (FrD.of_same s5)
   have hpt5:=(D.kt f05).sq hpt
   refine⟨_,rfl,pt,_,_,_,rfl,rfl,hpt5,at0,_,rfl,z2,fun l1 h1=>?_⟩
   have s6:=ah h1 (.tup [V.str nm,V.ref r])
   have n6:=ad (H:=H5) (a:=l1) (o:=.tup [V.str nm,V.ref r])
   generalize upd H5 l1 (.tup [V.str nm,V.ref r])=H6 at s6 n6
   have D6:=D5.same s6
   obtain⟨ys,hl,hs⟩:=id D6.tm
   have yl:ys.length=(aF s.T ts).1.length:=by rw[←hs.length,List.length_map]
   refine⟨_,rfl,dh,_,_,_,rfl,rfl,D6.tp,zd1 _ _ _,tl,ys,(aF s.T ts).1.map dT,dT (nm,(aF s.T ts).2),rfl,.inl (SqL.of hl),hs,zeH n6 (s6 _ _ n5),zjb _,_,rfl,?_⟩
   have ea:=zbF ze5 (aF s.T ts).1 (nm,(aF s.T ts).2)
   simp only[lTr]at q
   unfold zeW at q
   have hpt6:=s6.kt.sq hpt5
   by_cases hm:(nm,(aF s.T ts).2)∈(aF s.T ts).1
   ·rw[decide_eq_true hm]at ea
    rw[if_pos hm]at q
    refine aG (fun c=>absurd (show(!((aF s.T ts).1.map dT).any fun d'=>peq d' (dT (nm,(aF s.T ts).2)))=true from c) (by rw[ea];decide)) (fun _=>?_)
    refine⟨_,rfl,dh,_,_,_,rfl,rfl,D6.tp,zd1 _ _ _,.inl ⟨rfl,_,SqL.of hl⟩,_,rfl,pt,_,_,_,rfl,rfl,hpt6,at0,_,rfl,z2,fun l2 h2=>?_⟩
    have s7:=ah h2 (.tup [V.str nm,V.ref r])
    have n7:=ad (H:=H6) (a:=l2) (o:=.tup [V.str nm,V.ref r])
    generalize upd H6 l2 (.tup [V.str nm,V.ref r])=H7 at s7 n7
    have ix:=zfD ze5 hm
    refine⟨tl,_,_,_,_,_,rfl,rfl,(s7 _ _ hl),(hs.keep s7.kt (zaR _)),(zeH n7 (s7 _ _ (s6 _ _ n5))),(zjb _),ix.1,ix.2,?_⟩
    exact q H7 (D6.same s7) (f05.trans (FrD.of_same (s6.trans s7)))
   ·rw[decide_eq_false hm]at ea
    rw[if_neg hm]at q
    refine aG (fun _=>?_) (fun c=>absurd (show(!((aF s.T ts).1.map dT).any fun d'=>peq d' (dT (nm,(aF s.T ts).2)))=true by rw[ea];rfl) c)
    refine⟨_,rfl,dh,_,_,_,rfl,rfl,D6.tp,zd1 _ _ _,.inl ⟨rfl,_,SqL.of hl⟩,_,rfl,pt,_,_,_,rfl,rfl,hpt6,at0,_,rfl,z2,fun l2 h2=>?_⟩
    have s7:=ah h2 (.tup [V.str nm,V.ref r])
    have n7:=ad (H:=H6) (a:=l2) (o:=.tup [V.str nm,V.ref r])
    generalize upd H6 l2 (.tup [V.str nm,V.ref r])=H7 at s7 n7
    have D7:=D6.same s7
    have hl7:=s7 _ _ hl
    have hs7:=hs.keep s7.kt (zaR _)
    refine⟨tl,ys,_,rfl,rfl,hl7,bigL (by unfold M at m6;omega),?_⟩
    have D8:=D7.putT hl7 hs7 (zeH n7 (s7 _ _ (s6 _ _ n5)))
    have f8:FrD H7 (upd H7 tl (.lst (ys++[.ref l2]))) tl al rl tk:=FrD.upT
    generalize upd H7 tl (.lst (ys++[.ref l2]))=H8 at D8 f8
    have f08:FrD H H8 tl al rl tk:=(f05.trans (FrD.of_same (s6.trans s7))).trans f8
    obtain⟨ws,hl8,hs8⟩:=id D8.tm
    have hr8:H8 r=some (.tup ((aF s.T ts).2.map V.int)):=by
     obtain⟨r1,r2,r3,r4⟩:=D4.old hr'
     exact f8 _ _ (s7 _ _ (s6 _ _ n5)) r1 r2 r3 r4
    refine⟨_,rfl,dh,_,_,_,rfl,rfl,D8.tp,zd1 _ _ _,.inl ⟨rfl,_,SqL.of hl8⟩,_,rfl,pt,_,_,_,rfl,rfl,(D.kt f08).sq hpt,at0,_,rfl,z2,fun l4 h4=>?_⟩
    have s9:=ah h4 (.tup [V.str nm,V.ref r])
    have n9:=ad (H:=H8) (a:=l4) (o:=.tup [V.str nm,V.ref r])
    generalize upd H8 l4 (.tup [V.str nm,V.ref r])=H9 at s9 n9
    have ix:=zfD ze5 (A:=(aF s.T ts).1++[(nm,(aF s.T ts).2)]) (t:=(nm,(aF s.T ts).2)) (by simp)
    refine⟨tl,_,_,_,_,_,rfl,rfl,(s9 _ _ hl8),(hs8.keep s9.kt (zaR _)),(zeH n9 (s9 _ _ hr8)),(zjb _),ix.1,ix.2,?_⟩
    rw[zgN hm]
    exact q H9 (D8.same s9) (f08.trans (FrD.of_same s9))
theorem ziQ {tk:List Str} {n k:Nat} (h:aI k∉tk):lff tk n k=k:=by
 cases n with
 | zero=>rfl
 | succ n=>simp only[lff,if_neg h]
def zeq (K:W.Frag):Sp:=fun vs H Q _=>∃(dh tl al rl tk:Addr) (s:LS) (m:Nat),vs=[.ref dh,.ref tk]∧zay K H dh tl al rl tk s∧M s+2≤1000000∧zcb s.tk m∧m≤690 ∧
 ∀ H',zay K H' dh tl al rl tk (zap s).1→FrD H H' tl al rl tk→Q (.int ((zap s).2:Nat)) H'
theorem zeh:zac ["_law_due_here","_law_taken_here","_law_k"] ["_law_due_here","_law_taken_here"] (aj zeQ):=⟨rfl,rfl,rfl,by decide +kernel,rfl,by decide +kernel,by decide +kernel⟩
theorem zkt (ws:List Str):(ws.map V.str).all zcz=true:=by
 rw[List.all_eq_true]
 intro x hx
 obtain⟨z,_,rfl⟩:=List.mem_map.mp hx
 rfl
set_option maxHeartbeats 1000000 in
theorem zlw (F:Fun K "_law_new" "_law_new" zeQ f fd) (BS:FB P w K mg base CX0 1 "_law_spare" fS' dS' ["_law_k"] zg2) (BP:FB P w K mg base CX0 1 "_law_plain" fP' dP' ["_law_due_here","_law_name"] (ze9 K)):FnOk P w K mg base CX0 2 f fd ["_law_due_here","_law_taken_here"] (zeq K):=by
 refine F.ok zeh (fun vs H Q E h=>?_) (fun cdv A outer s H vs Q E hr h=>?_)
 ·obtain⟨dh,tl,al,rl,tk,s,m,rfl,_⟩:=h
  rfl
 obtain⟨dh,tl,al,rl,tk,s,m,rfl,D,m6,few,m690,q⟩:=h
 refine⟨_,(ae (az (i:=2) zeh.nd rfl (Or.inl rfl) ag)
  (ae (zfR PassesOwn.never (av zff (aq BS.ok hr rfl BS.m BS.kp BS.b .nil aJ (aa (pv 2) ac)) (pv 1) rfl)
   (ai (az (i:=2) zeh.nd rfl (Or.inl rfl) (aw za9 (pv 2) ag))))
  (ae (zau (zbH PySem.F.plainAttrs_list PySem.F.slot_list_append PySem.F.type_list_append zaZ (pv 1) (aa (aq BS.ok hr rfl BS.m BS.kp BS.b .nil aJ (aa (pv 2) ac)) ac)))
  (ai (ay (aq BP.ok hr rfl BP.m BP.kp BP.b .nil aJ (aa (pv 0) (aa (aq BS.ok hr rfl BS.m BS.kp BS.b .nil aJ (aa (pv 2) ac)) ac)))))))),?_⟩
 obtain⟨j,hj,free⟩:=few.free m690
 refine⟨fun m σ H'=>∃ k,m+k=j∧H'=H∧σ=[some (.ref dh),some (.ref tk),some (.int (k:Nat))]∧lff s.tk 700 0=lff s.tk (700 - k) k,⟨j,0,by omega,rfl,rfl,rfl⟩,?_⟩
 rintro mm σ H2 ⟨k,mk,rfl,rfl,e2⟩
 refine⟨_,rfl,k,rfl,by omega,_,rfl,tk,_,rfl,.inl (SqL.of D.tt),rfl,zkt _,_,rfl,aG (fun c=>?_) (fun c=>?_)⟩
 ·have kin:=F74.inV_strs.mp c
  have lt:k < j:=by
   rcases Nat.lt_or_ge k j with h | h
   ·exact h
   ·exact absurd (by rw[show k=j by omega]at kin;exact kin) free
  refine⟨fun σ' H'=>∃ m',m' < mm∧∃ k,m'+k=j∧H'=H2∧σ'=[some (.ref dh),some (.ref tk),some (.int (k:Nat))]∧lff s.tk 700 0=lff s.tk (700 - k) k,fun _ _ h=>h,?_⟩
  refine⟨_,rfl,_,_,rfl,rfl,mm - 1,by omega,k+1,by omega,rfl,rfl,?_⟩
  rw[e2,show 700 - k=(700 - (k+1))+1 by omega]
  simp only[lff,if_pos kin]
 ·have kout:aI k∉s.tk:=fun h=>c (F74.inV_strs.mpr h)
  have ek:lff s.tk 700 0=k:=by rw[e2,ziQ kout]
  unfold zap at q
  rw[ek]at q
  have tl':(s.tk.map V.str).length=s.tk.length:=List.length_map _
  refine⟨_,rfl,.inl ⟨rfl,_,SqL.of D.tt⟩,_,rfl,k,rfl,by omega,tk,_,_,rfl,rfl,D.tt,bigL (by unfold M at m6;omega),?_⟩
  have D3:=D.putK (aI k)
  have f3:FrD H2 (upd H2 tk (.lst (s.tk.map V.str++[.str (aI k)]))) tl al rl tk:=FrD.upK
  generalize upd H2 tk (.lst (s.tk.map V.str++[.str (aI k)]))=H3 at D3 f3
  refine⟨_,rfl,_,rfl,k,rfl,by omega,dh,tl,al,rl,tk,_,aI k,rfl,D3,?_,fun H4 D4 f4=>q H4 D4 (f3.trans f4)⟩
  simp only[M,List.length_append,List.length_singleton]at m6 ⊢
  omega
end
end K74
namespace K74
open PySem L2
open F74 (Tr Fm dTr zax dFm FOk fdp zaF zbR)
theorem flat4:([V.str "same",.str "unlike",.str "always",.str "never"]:List V).all zcz=true:=by decide +kernel
theorem in4 {z:Str}:inV (.str z) [V.str "same",.str "unlike",.str "always",.str "never"]=true↔z="same"∨z="unlike"∨z="always"∨z="never":=by
 rw[show [V.str "same",.str "unlike",.str "always",.str "never"]=(["same","unlike","always","never"]:List Str).map V.str from rfl,F74.inV_strs]
 simp
section
variable {P:Program} {w:World} {K:W.Frag} {mg:Str→Option Value} {base:Heap} {aK C CN CT CP CM CZ:Addr} {f fS' fP' fT' fW' fR':Addr} {fd dS' dP' dT' dW' dR'':FuncData}
def zg1 (K:W.Frag) (n:Nat):Sp:=fun vs H Q _=>∃(v:V) (g:Fm),vs=[v]∧Has K H (dFm g) v∧FOk g∧fdp g≤n∧(plF g).length≤100000∧∀(H':Hp) (l:Addr),ap H H'→H l=none→H' l=some (.lst ((plF g).map V.str))→Q (.ref l) H'
theorem zcA:zac ["_law_formula","_law_found","_law_inner"] ["_law_formula"] (aj zdR):=⟨rfl,rfl,rfl,by decide +kernel,rfl,by decide +kernel,by decide +kernel⟩
set_option maxHeartbeats 1000000 in
theorem zg6 (F:Fun K "_law_taken" "_law_taken" zdR f fd) (b:ar K fd ["_law_formula"] []) (kp:W.keepIn K (.ref f)=true) (m:mg "_law_taken"=some (.ref f)) :
  ∀ n,FnOk P w K mg base CX0 (n+1) f fd ["_law_formula"] (zg1 K n)
 | 0=>F74.FnOk.no fun _ _ _ _ ⟨_,g,_,_,_,h,_⟩=>by
  have:=F74.fdp_pos g
  omega
 | n+1=>by
  have IH:=zg6 F b kp m n
  refine F.ok zcA (fun vs H Q E h=>?_) (fun cdv A outer s H vs Q E hr h=>?_)
  ·obtain⟨v,g,rfl,_⟩:=h
   rfl
  obtain⟨v,g,rfl,hg,ok,hd,big,q⟩:=h
  refine⟨_,(ae (zal (av zaE (aA zaf (pv 0) ag (fun _ _=>rfl)) au (aD _))
    (ai (ay (zag (aa (aA zaf (pv 0) ag (fun _ _=>rfl)) ac))))
    zad)
   (ae (zal (av zff (aA zaf (pv 0) ag (fun _ _=>rfl)) (zae (aa au (aa au (aa au (aa au ac))))) rfl)
    (ai (ay (zag ac)))
    zad)
   (ae (az (i:=1) zcA.nd rfl (Or.inl rfl) (zag ac))
   (ae (zbp PassesOwn.never rfl (zf8 (zba zht (pv 0) (zbq ag) zbr)) (zaO (i:=2) zcA.nd rfl (Or.inl rfl))
    (ai (az (i:=1) zcA.nd rfl (Or.inl rfl) (aw zbO (pv 1) (aq IH hr rfl m kp b .nil aJ (aa (pv 2) ac))))))
   (ai (ay (pv 1))))))),?_⟩
  obtain⟨p,xs,rfl,hp,hx⟩:=F74.fm_at hg
  have a0:atI (V.str (F74.hdF g) :: xs) 0=some (.str (F74.hdF g)):=zah (j:=0) rfl
  have str:∀ {x y:Str},decide (V.str x=V.str y)=true→x=y:=fun h=>by
   have:=of_decide_eq_true h
   injection this
  have nst:∀ {x y:Str},¬decide (V.str x=V.str y)=true→¬x=y:=fun h e=>h (by rw[e];exact decide_eq_true rfl)
  refine⟨_,rfl,p,_,_,_,rfl,rfl,hp,a0,rfl,_,rfl,aG (fun c1=>?_) (fun c1=>?_)⟩
  ·obtain⟨z,rfl⟩:=F74.hd_plain ok (str c1)
   simp only[F74.tlF,HasL,Has]at hx
   obtain⟨_,_,rfl,rfl,rfl⟩:=hx
   have a1:atI [V.str (F74.hdF (.plain z)),V.str z] 1=some (.str z):=zah (j:=1) rfl
   exact⟨_,rfl,p,_,_,_,rfl,rfl,hp,a1,lS1,fun l hl=>q _ l (ah hl _) hl ad⟩
  refine⟨_,rfl,p,_,_,_,rfl,rfl,hp,a0,lS4,fun t ht=>?_⟩
  have s1:=ah ht (.tup [V.str "same",.str "unlike",.str "always",.str "never"])
  have n1:=ad (H:=H) (a:=t) (o:=.tup [V.str "same",.str "unlike",.str "always",.str "never"])
  generalize upd H t (.tup [V.str "same",.str "unlike",.str "always",.str "never"])=H1 at s1 n1
  refine⟨t,_,rfl,.inr (SqT.of n1),rfl,flat4,_,rfl,aG (fun c2=>?_) (fun c2=>?_)⟩
  ·have e:=in4.mp c2
   have e0:plF g=[]:=by
    cases g with
    | plain z=>exact absurd rfl (nst c1)
    | not g=>exact absurd e (by simp only[F74.hdF];decide +kernel)
    | bin k a b =>
     simp only[F74.hdF]at e
     rcases ok.1 with h | h | h | h <;> (rw[h]at e;exact absurd e (by decide +kernel))
    | _=>rfl
   refine⟨lS0,fun l hl=>?_⟩
   exact q _ l (s1.trans (ah hl _)) (s1.free hl) (by rw[e0];exact ad)
  have c2':=fun e=>c2 (in4.mpr e)
  have key:∃ ys:List V,xs=ys∧HasL K H ((zaF g).map dFm) ys∧zbx (.str (F74.hdF g) :: ys) (some 1) none=ys∧HT.sIx (V.str (F74.hdF g) :: ys).length 0 (some 1)≠0∧plF g=aL (zaF g):=by
   cases g with
   | not g =>
    have hx':=hx
    simp only[F74.tlF,HasL]at hx'
    obtain⟨va,r1,rfl,ha,rfl⟩:=hx'
    exact⟨_,rfl,hx,rfl,show ¬(1:Nat)=0 by decide,by simp [plF,aL,zaF]⟩
   | bin k f g =>
    have hx':=hx
    simp only[F74.tlF,HasL]at hx'
    obtain⟨va,r1,rfl,ha,vb,r2,rfl,hb,rfl⟩:=hx'
    exact⟨_,rfl,hx,rfl,show ¬(1:Nat)=0 by decide,by simp [plF,aL,zaF]⟩
   | plain z=>exact absurd rfl (nst c1)
   | bare z=>exact absurd (.inr (.inr ok)) c2'
   | same a b=>exact absurd (.inl rfl) c2'
   | unlike ts=>exact absurd (.inr (.inl rfl)) c2'
  obtain⟨ys,rfl,hy,ec,en,ep⟩:=key
  rw[ep]at big q
  refine⟨lS0,fun l hl=>?_⟩
  have s2:=ah hl (.lst [])
  have n2:=ad (H:=H1) (a:=l) (o:=.lst [])
  generalize upd H1 l (.lst [])=H2 at s2 n2
  have s02:=s1.trans s2
  refine⟨_,rfl,_,rfl,p,_,rfl,s02.kt.sq hp,(fun h=>absurd h.1 en),fun p1 hp1=>?_⟩
  rw[ec]
  have s3:=ah hp1 (.tup xs)
  have n3:=ad (H:=H2) (a:=p1) (o:=.tup xs)
  generalize upd H2 p1 (.tup xs)=H3 at s3 n3
  have s03:=s02.trans s3
  have xl:xs.length=(zaF g).length:=by rw[←hy.length,List.length_map]
  have n3':=s3 _ _ n2
  have fr0:H l=none:=s1.free hl
  refine⟨p1,rfl,⟨_,SqT.of n3⟩,zcW zf4 (fun i σ H'=>ap H H'∧SqT K H' p1 xs∧∃(l:Addr) (v:Option V),σ=[some (.ref p),some (.ref l),v]∧H l=none∧H' l=some (.lst ((aL ((zaF g).take i)).map V.str))) (fun i σ H' h=>h.2.1) ⟨s03,SqT.of n3,l,none,rfl,fr0,n3'⟩ ?_ ?_⟩
  ·rintro i σ H4 x H5 hi ⟨s4,p4,l4,v4,rfl,nl4,hl4⟩ ⟨rfl,hy4⟩
   obtain⟨u,hu',hxu⟩:=F74.fms_get (hy.keep s4.kt (F74.nols_fms _)) (hy4 _ p4)
   have um:=List.mem_of_getElem? hu'
   have pl:=zfo (zaF g) (i+1)
   rw[zcM hu',List.length_append]at pl
   have lt:=zhH um
   refine⟨_,rfl,_,rfl,x,u,rfl,hxu,zhG um ok,by omega,by omega,fun H6 l6 s6 n6 hl6=>?_⟩
   refine⟨l4,l6,_,_,rfl,rfl,s6 _ _ hl4,hl6,szB (by rw[List.length_map,List.length_map];omega),fun l7 hl7=>?_⟩
   have s7:=ah hl7 (.lst ((aL ((zaF g).take i)).map V.str++(plF u).map V.str))
   refine⟨(s4.trans s6).trans s7,(s6.trans s7).kt.sq p4,l7,_,rfl,s4.free (s6.free hl7),?_⟩
   rw[zcM hu',List.map_append,ad]
  ·rintro σ H4 ⟨s4,p4,l4,v4,rfl,nl4,hl4⟩
   rw[xl,List.take_length]at hl4
   exact⟨_,rfl,q H4 l4 s4 nl4 hl4⟩
abbrev NL:List Str:=["_law_due_here","_law_trees","_law_taken_here","_law_terms","_law_same_here","_law_k","_law_n","_law_atom"]
theorem zbj:zac NL ["_law_due_here","_law_trees","_law_taken_here"] (aj zaQ):=⟨rfl,rfl,rfl,by decide +kernel,rfl,by decide +kernel,by decide +kernel⟩
theorem zg9 (s:LS) (rs:List (List Int)) (r:List Int):za2 (za2 s rs) [r]=za2 s (rs++[r]):=by
 simp only[za2,List.map_append,List.map_cons,List.map_nil,List.append_assoc]
theorem lul3 (BW:FB P w K mg base CX0 2 "_law_new" fW' dW' ["_law_due_here","_law_taken_here"] (zeq K)) (BR:FB P w K mg base CX0 1 "_law_put" fR' dR'' ["_law_due_here","_law_row"] (zc7 K)) {cdv:Value} {A:Around} {outer:List Env} {s:Shared} {H0:Hp} {E:XK} (hr:aH 2 (A.deeper (PyProof.Rows.envOfC "_law_unlike" (aj zaQ) s.heap.objs.size f cdv))) :
  ∃ t,PSs (zbg CX0 P w K mg base NL "_law_unlike" (aj zaQ) f cdv A outer s H0 E).nox ((zaw zaQ).drop 3) t ∧
   ∀(Dn:za3) (H:Hp) (dh tl al rl tk ls:Addr) (s:LS) (sm:List Int) (m:Nat) (v1 v3 v5:Option V),zay K H dh tl al rl tk s→M s+13≤1000000→zcb s.tk m→m≤690→H ls=some (.lst (sm.map V.int))→ls≠tl→ls≠al→ls≠rl→ls≠tk→sm.length≤10 →
    (∀ H',zay K H' dh tl al rl tk (zfB s sm).1→FrD H H' tl al rl tk→Dn.rt (.int (zfB s sm).2) H') →
    t Dn [some (.ref dh),v1,some (.ref tk),v3,some (.ref ls),v5,none,none] H:=by
 have hr1:aH 1 _:=hr.mono (by decide)
 refine⟨_,(ae (az (i:=6) zbj.nd rfl (Or.inl rfl) (aq BW.ok hr rfl BW.m BW.kp BW.b .nil aJ (aa (pv 0) (aa (pv 2) ac))))
  (ae (zbp PassesOwn.never rfl (zbJ (pv 4)) (zaO (i:=7) zbj.nd rfl (Or.inl rfl))
   (ai (zau (aq BR.ok hr1 rfl BR.m BR.kp BR.b .nil aJ (aa (pv 0) (aa (zae (aa (zas zak (pv 6)) (aa (zas zak (pv 7)) ac))) ac))))))
  (ae (zau (aq BR.ok hr1 rfl BR.m BR.kp BR.b .nil aJ (aa (pv 0) (aa (aw zbO (zag (aa (pv 6) ac)) (pv 4)) ac))))
  (ai (ay (pv 6)))))),?_⟩
 intro Dn H dh tl al rl tk ls s sm m v1 v3 v5 D m6 few m690 hls l1 l2 l3 l4 s10 q
 refine⟨_,rfl,_,rfl,dh,tl,al,rl,tk,s,m,rfl,D,by omega,few,m690,fun H1 D1 f1=>?_⟩
 have n2:=zcJ s
 have ml:=n2.m
 unfold zfB at q
 generalize hy:zap s=y at *
 have hls1:=f1 _ _ hls l1 l2 l3 l4
 have keep:∀ {H':Hp},FrD H1 H' tl al rl tk→H' ls=some (.lst (sm.map V.int)):=fun f'=>f' _ _ hls1 l1 l2 l3 l4
 have sml:(sm.map V.int).length=sm.length:=List.length_map _
 refine⟨_,rfl,ls,rfl,⟨_,SqL.of hls1⟩,zcW zbI (fun i σ H'=>∃ v7:Option V,σ=[some (.ref dh),v1,some (.ref tk),v3,some (.ref ls),v5,some (.int (y.2:Nat)),v7]∧FrD H1 H' tl al rl tk∧zay K H' dh tl al rl tk (za2 y.1 ((sm.take i).map fun x=>[-(y.2:Int),-x]))) (fun i σ H' ⟨_,_,f',_⟩=>SqL.of (keep f')) ⟨none,rfl,FrD.of_same (ap.refl _),?_⟩ ?_ ?_⟩
 ·have e:za2 y.1 ((sm.take 0).map fun x=>[-(y.2:Int),-x])=y.1:=by simp [za2]
  rw[e]
  exact D1
 ·rintro i σ H2 x H3 hi ⟨v7,rfl,f2,D2⟩ ⟨rfl,hx⟩
  have hx':=hx _ (SqL.of (keep f2))
  rw[List.getElem?_map]at hx'
  obtain⟨k,hk,rfl⟩:=Option.map_eq_some_iff.mp hx'
  refine⟨_,rfl,_,rfl,_,rfl,_,rfl,_,rfl,lS2,fun t ht=>?_⟩
  have s3:=ah ht (.tup [V.int (-(y.2:Int)),V.int (-k)])
  have n3:=ad (H:=H3) (a:=t) (o:=.tup [V.int (-(y.2:Int)),V.int (-k)])
  generalize upd H3 t (.tup [V.int (-(y.2:Int)),V.int (-k)])=H4 at s3 n3
  have pl:=(zbd y.1 ((sm.take i).map fun x=>[-(y.2:Int),-x])).m
  rw[List.length_map,List.length_take]at pl
  refine⟨dh,tl,al,rl,tk,t,_,[-(y.2:Int),-k],rfl,D2.same s3,by omega,.inr (SqT.of n3),by show 2≤1000;decide,fun H5 D5 f5=>⟨_,rfl,f2.trans ((FrD.of_same s3).trans f5),?_⟩⟩
  rw[zg9]at D5
  rw[zbP hk,List.map_append]
  exact D5
 ·rintro σ H2 ⟨v7,rfl,f2,D2⟩
  rw[sml,List.take_length]at D2
  refine⟨_,rfl,_,rfl,lS1,fun b1 hb1=>?_⟩
  have s6:=ah hb1 (.lst [V.int (y.2:Int)])
  have n6:=ad (H:=H2) (a:=b1) (o:=.lst [V.int (y.2:Int)])
  generalize upd H2 b1 (.lst [V.int (y.2:Int)])=H6 at s6 n6
  refine⟨_,rfl,b1,ls,_,_,rfl,rfl,n6,s6 _ _ (keep f2),sz _ (by rw[List.length_map,List.length_singleton];omega),fun b2 hb2=>?_⟩
  have s7:=ah hb2 (.lst ([V.int (y.2:Int)]++sm.map V.int))
  have n7:=ad (H:=H6) (a:=b2) (o:=.lst ([V.int (y.2:Int)]++sm.map V.int))
  generalize upd H6 b2 (.lst ([V.int (y.2:Int)]++sm.map V.int))=H7 at s7 n7
  have pl:=(zbd y.1 (sm.map fun x=>[-(y.2:Int),-x])).m
  rw[List.length_map]at pl
  exact⟨dh,tl,al,rl,tk,b2,_,(y.2:Int) :: sm,rfl,D2.same (s6.trans s7),by omega,.inl (SqL.of n7),by simp only[List.length_cons];omega,fun H8 D8 f8=>⟨_,rfl,q H8 D8 (f1.trans (f2.trans ((FrD.of_same (s6.trans s7)).trans f8)))⟩⟩
end
end K74
namespace K74
open PySem L2
open F74 (Tr Fm dTr zax dFm FOk fdp zaF zbR)
section
variable {P:Program} {w:World} {K:W.Frag} {mg:Str→Option Value} {base:Heap} {aK C CN CT CP CM CZ:Addr} {f fS' fP' fT' fW' fR':Addr} {fd dS' dP' dT' dW' dR'':FuncData}
set_option maxHeartbeats 1000000 in
theorem lul1 (T:Txt K mg aK C CN CT CP CM) (BS:FB P w K mg base CX0 1 "_law_same" fS' dS' ["_law_due_here","_law_one","_law_other"] (zeB K)) (BW:FB P w K mg base CX0 2 "_law_new" fW' dW' ["_law_due_here","_law_taken_here"] (zeq K)) (BR:FB P w K mg base CX0 1 "_law_put" fR' dR'' ["_law_due_here","_law_row"] (zc7 K)) {cdv:Value} {A:Around} {outer:List Env} {s:Shared} {H0:Hp} {E:XK} (hr:aH 2 (A.deeper (PyProof.Rows.envOfC "_law_unlike" (aj zaQ) s.heap.objs.size f cdv))) :
  ∃ t,PSs (zbg CX0 P w K mg base NL "_law_unlike" (aj zaQ) f cdv A outer s H0 E).nox ((zaw zaQ).drop 1) t ∧
   ∀(Dn:za3) (H:Hp) (dh tl al rl tk D:Addr) (s:LS) (ks:List Int) (m:Nat) (v1:Option V),zay K H dh tl al rl tk s→M s+23≤1000000→zcb s.tk m→m≤690→H D=some (.lst (ks.map V.int))→D≠tl→D≠al→D≠rl→D≠tk→ks.length≤5 →
    (∀ H',zay K H' dh tl al rl tk (zfC s ks).1→FrD H H' tl al rl tk→Dn.rt (.int (zfC s ks).2) H') →
    t Dn [some (.ref dh),v1,some (.ref tk),some (.ref D),none,none,none,none] H:=by
 have hr1:aH 1 _:=hr.mono (by decide)
 obtain⟨t3,h3,g3⟩:=lul3 (f:=f) (outer:=outer) (H0:=H0) (E:=E) (base:=base) BW BR hr
 refine⟨_,(ae (az (i:=4) zbj.nd rfl (Or.inl rfl) (zag ac))
  (ae (zbp PassesOwn.never rfl (zcN rfl T.range (aa (zam zai rfl T.len PySem.boot_len (aa (pv 3) ac)) ac)) (zaO (i:=5) zbj.nd rfl (Or.inr rfl))
   (ai (az (i:=4) zbj.nd rfl (Or.inl rfl) (aw zbO (pv 4) (zfm (N':=["_law_other","_law_due_here","_law_terms","_law_k"]) (ix:=[0,3,5]) rfl rfl (by decide +kernel) (by decide +kernel) rfl (fun ok=>zcx (sc:=aj zaQ) ok rfl (by decide +kernel) (by decide +kernel)) (by decide +kernel) rfl rfl (fun j i h=>match j,h with | 0,h=>by cases h;exact⟨_,rfl,rfl,.inl rfl,.inl rfl⟩ | 1,h=>by cases h;exact⟨_,rfl,rfl,.inl rfl,.inl rfl⟩ | 2,h=>by cases h;exact⟨_,rfl,rfl,.inl rfl,.inl rfl⟩ | n+3,h=>by simp at h) (zbJ (zba zco (pv 3) (zbq (aw za9 (pv 5) ag)) zbr)) (fun _ _ _ _=>(aq BS.ok hr1 rfl BS.m BS.kp BS.b .nil aJ (aa (pv 1) (aa (aA (r:=rIxL K) zaT (pv 2) (pv 3) (fun _ _=>rfl)) (aa (pv 0) ac))))))))))
  h3)),?_⟩
 intro Dn H dh tl al rl tk D s ks m v1 Du m6 few m690 hD d1 d2 d3 d4 k5 q
 refine⟨lS0,fun l0 hl0=>?_⟩
 have s1:=ah hl0 (.lst [])
 have n1:=ad (H:=H) (a:=l0) (o:=.lst [])
 generalize upd H l0 (.lst [])=H1 at s1 n1
 have keep:∀ {H':Hp},FrD H H' tl al rl tk→H' D=some (.lst (ks.map V.int)):=fun f'=>f' _ _ hD d1 d2 d3 d4
 have kl:(ks.map V.int).length=ks.length:=List.length_map _
 refine⟨_,rfl,D,_,rfl,.inl (SqL.of (s1 _ _ hD)),_,rfl,by rw[kl];omega,by rw[kl];omega,?_⟩
 have en:(((ks.map V.int).length:Nat):Int).toNat=ks.length:=by rw[kl];omega
 rw[en]
 refine zd9 (lo:=0) (n:=ks.length) (fun i σ H'=>∃(ls:Addr) (v5:Option V) (A':List At) (sm:List Int),σ=[some (.ref dh),v1,some (.ref tk),some (.ref D),some (.ref ls),v5,none,none]∧FrD H H' tl al rl tk∧zay K H' dh tl al rl tk ⟨s.T,A',s.R,s.tk⟩∧H ls=none∧H' ls=some (.lst (sm.map V.int))∧sm.length≤5 * i∧A'.length+tri (ks.length - i)≤s.A.length+tri ks.length∧zaA s.A ks=((zaA A' (ks.drop i)).1,sm++(zaA A' (ks.drop i)).2))
  ⟨l0,none,s.A,[],rfl,FrD.of_same s1,Du.same s1,hl0,n1,Nat.le_refl _,Nat.le_refl _,by rw[List.drop_zero,List.nil_append]⟩ ?_ ?_
 ·rintro i σ H2 hi ⟨ls,v5,A',sm,rfl,f2,D2,nls,hs2,l2,m2,e2⟩
  have ei:(0:Int)+(i:Nat)=((i:Nat):Int):=by omega
  rw[ei]
  obtain⟨k,hk⟩:∃ k,ks[i]?=some k:=⟨_,List.getElem?_eq_getElem hi⟩
  rw[zeu hk]at e2
  simp only[zaA]at e2
  have hD2:=keep f2
  have tr1:tri (ks.length - i)=(ks.length - (i+1))+tri (ks.length - (i+1)):=by
   rw[show ks.length - i=(ks.length - (i+1))+1 by omega]
   rfl
  have t10:=tri5 k5
  refine⟨_,rfl,_,rfl,_,rfl,_,_,rfl,rfl,_,rfl,D,_,rfl,SqL.of hD2,fun c hc=>?_⟩
  have ec:zbx (ks.map V.int) (some ((i:Int)+1)) none=(ks.drop (i+1)).map V.int:=zhf (m:=i+1) (by omega)
  rw[ec]
  have s4:=ah hc (.lst ((ks.drop (i+1)).map V.int))
  have n4:=ad (H:=H2) (a:=c) (o:=.lst ((ks.drop (i+1)).map V.int))
  generalize upd H2 c (.lst ((ks.drop (i+1)).map V.int))=H4 at s4 n4
  have D4:=D2.same s4
  obtain⟨c1,c2,c3,c4⟩:=D2.old hc
  refine⟨c,rfl,⟨_,SqL.of n4⟩,fun U hU=>?_⟩
  obtain⟨u1,u2,u3,u4⟩:=D4.old hU
  have kc:∀ {H':Hp},FrD H4 H' tl al rl tk→H' c=some (.lst ((ks.drop (i+1)).map V.int)):=fun f'=>f' _ _ n4 c1 c2 c3 c4
  have kD:∀ {H':Hp},FrD H4 H' tl al rl tk→H' D=some (.lst (ks.map V.int)):=fun f'=>f' _ _ (s4 _ _ hD2) d1 d2 d3 d4
  have dl:((ks.drop (i+1)).map V.int).length=ks.length - (i+1):=by rw[List.length_map,List.length_drop]
  have ak:atI (ks.map V.int) (i:Int)=some (.int k):=zah (by rw[List.getElem?_map,hk];rfl)
  refine zdd zbI (fun j us H'=>∃(A2:List At) (ms:List Int),us=ms.map V.int∧FrD H4 H' tl al rl tk∧zay K H' dh tl al rl tk ⟨s.T,A2,s.R,s.tk⟩∧A2.length≤A'.length+j∧zbn A' k (ks.drop (i+1))=((zbn A2 k ((ks.drop (i+1)).drop j)).1,ms++(zbn A2 k ((ks.drop (i+1)).drop j)).2)) (fun j us H' ⟨_,_,_,f',_⟩=>SqL.of (kc f')) ⟨A',[],rfl,FrD.of_same (ah hU _),D4.same (ah hU _),Nat.le_refl _,by rw[List.drop_zero,List.nil_append]⟩ ?_ ?_
  ·rintro j us H8 x H6 hj hly hUs ⟨A2,ms,rfl,f6,D6,l6,e6⟩ ⟨rfl,hx6⟩
   have hx':=hx6 _ (SqL.of (kc f6))
   rw[List.getElem?_map]at hx'
   obtain⟨b,hb,rfl⟩:=Option.map_eq_some_iff.mp hx'
   rw[zeu hb]at e6
   simp only[zbn]at e6
   have sl:=zfh A2 k b
   refine⟨_,rfl,_,rfl,_,rfl,D,_,_,_,rfl,rfl,SqL.of (kD f6),ak,_,rfl,dh,tl,al,rl,tk,_,k,b,rfl,D6,by simp only[M]at m6 ⊢;omega,fun H7 D7 f7=>?_⟩
   have hU7:=f7 _ _ hUs u1 u2 u3 u4
   refine zb5 (sz _ (by omega)) hj hly hU7 ⟨(za0 A2 k b).1,ms++[((za0 A2 k b).2:Int)],by rw[List.map_append];rfl,fun c' o hc' h1 h2 h3 h4=>?_,D7.putL hU7 u1 u2 u3 u4,by omega,?_⟩
   ·rw[ao (fun e=>by rw[e,hU]at hc';cases hc')]
    exact f7 _ _ (f6 _ _ hc' h1 h2 h3 h4) h1 h2 h3 h4
   ·rw[e6]
    simp only[List.append_assoc,List.singleton_append]
  ·rintro us H6 hUs ⟨A2,ms,rfl,f6,D6,l6,e6⟩
   rw[List.length_map,List.drop_length]at e6
   simp only[zbn,List.append_nil]at e6
   have ml:=(zeF k (ks.drop (i+1)) A').2.2
   rw[e6,List.length_drop]at ml
   dsimp only at ml
   obtain⟨b1,b2,b3,b4⟩:=Du.old nls
   have hs6:=f6 _ _ (s4 _ _ hs2) b1 b2 b3 b4
   refine⟨ls,U,_,_,rfl,rfl,hs6,hUs,sz _ (by rw[List.length_map,List.length_map];omega),fun l7 hl7=>?_⟩
   have s7:=ah hl7 (.lst (sm.map V.int++ms.map V.int))
   rw[e6]at e2
   refine⟨l7,_,A2,sm++ms,rfl,(f2.trans (FrD.of_same s4)).trans (f6.trans (FrD.of_same s7)),D6.same s7,?_,by rw[ad,List.map_append],by rw[List.length_append];omega,by omega,by rw[e2];simp only[List.append_assoc]⟩
   cases e:H l7 with
   | none=>rfl
   | some o =>
    exfalso
    by_cases q1:l7=tl
    ·obtain⟨_,hh,_⟩:=D6.tm
     rw[q1,hh]at hl7;cases hl7
    by_cases q2:l7=al
    ·obtain⟨_,hh,_⟩:=D6.am
     rw[q2,hh]at hl7;cases hl7
    by_cases q3:l7=rl
    ·obtain⟨_,hh,_⟩:=D6.rm
     rw[q3,hh]at hl7;cases hl7
    by_cases q4:l7=tk
    ·rw[q4,D6.tt]at hl7;cases hl7
    rw[f6 _ _ (s4 _ _ (f2 _ _ e q1 q2 q3 q4)) q1 q2 q3 q4]at hl7
    cases hl7
 ·rintro σ H2 ⟨ls,v5,A',sm,rfl,f2,D2,nls,hs2,l2,m2,e2⟩
  rw[List.drop_length]at e2
  simp only[zaA,List.append_nil]at e2
  have kl2:=(zcs ks s.A).2.2
  rw[e2]at kl2
  dsimp only at kl2
  have t10:=tri5 k5
  unfold zfC at q
  rw[e2]at q
  obtain⟨b1,b2,b3,b4⟩:=Du.old nls
  exact g3 Dn H2 dh tl al rl tk ls ⟨s.T,A',s.R,s.tk⟩ sm m _ _ _ D2 (by simp only[M]at m6 ⊢;omega) few m690 hs2 b1 b2 b3 b4 (by omega) fun H5 D5 f5=>q H5 D5 (f2.trans f5)
def ziC (K:W.Frag):Sp:=fun vs H Q _=>∃(dh tl al rl tk pa:Addr) (s:LS) (ts:List Tr) (xs:List V) (m:Nat),vs=[.ref dh,.ref pa,.ref tk]∧zay K H dh tl al rl tk s∧SqT K H pa xs∧HasL K H (zax ts) xs∧(∀ t∈ts,F74.dp t≤3)∧ts.length≤5∧M s+nds ts+23≤1000000∧zcb s.tk m∧m≤690 ∧
 ∀ H',zay K H' dh tl al rl tk (ax s (.unlike ts)).1→FrD H H' tl al rl tk→Q (.int (ax s (.unlike ts)).2) H'
set_option maxHeartbeats 1000000 in
theorem zlt (F:Fun K "_law_unlike" "_law_unlike" zaQ f fd) (T:Txt K mg aK C CN CT CP CM) (BT:FB P w K mg base CX0 4 "_law_term" fT' dT' ["_law_due_here","_law_tree_here"] (zfM K 3)) (BS:FB P w K mg base CX0 1 "_law_same" fS' dS' ["_law_due_here","_law_one","_law_other"] (zeB K)) (BW:FB P w K mg base CX0 2 "_law_new" fW' dW' ["_law_due_here","_law_taken_here"] (zeq K)) (BR:FB P w K mg base CX0 1 "_law_put" fR' dR'' ["_law_due_here","_law_row"] (zc7 K)):FnOk P w K mg base CX0 5 f fd ["_law_due_here","_law_trees","_law_taken_here"] (ziC K):=by
 refine F.ok zbj (fun vs H Q E h=>?_) (fun cdv A outer s H vs Q E hr h=>?_)
 ·obtain⟨dh,tl,al,rl,tk,pa,s,ts,xs,m,rfl,_⟩:=h
  rfl
 obtain⟨dh,tl,al,rl,tk,pa,s,ts,xs,m,rfl,D,hpa,hxs,dts,t5,m6,few,m690,q⟩:=h
 have hr2:aH 2 _:=hr.mono (by decide)
 obtain⟨t1,h1,g1⟩:=lul1 (f:=f) (outer:=outer) (H0:=H) (E:=E) (base:=base) T BS BW BR hr2
 refine⟨_,(ae (az (i:=3) zbj.nd rfl (Or.inr rfl) (zfm (N':=["_law_tree_here","_law_due_here"]) (ix:=[0]) rfl rfl (by decide +kernel) (by decide +kernel) rfl (fun ok=>zcx (sc:=aj zaQ) ok rfl (by decide +kernel) (by decide +kernel)) (by decide +kernel) rfl rfl (fun j i h=>match j,h with | 0,h=>by cases h;exact⟨_,rfl,rfl,.inl rfl,.inl rfl⟩ | n+1,h=>by simp at h) (zf8 (pv 1)) (fun _ _ _ _=>(aq BT.ok hr rfl BT.m BT.kp BT.b .nil aJ (aa (pv 1) (aa (pv 0) ac))))))
  h1),?_⟩
 have xl:xs.length=ts.length:=by rw[←hxs.length,F74.dTrs_length]
 refine⟨_,rfl,pa,rfl,⟨_,hpa⟩,fun U hU=>?_⟩
 obtain⟨u1,u2,u3,u4⟩:=D.old hU
 refine zdd zf4 (fun i us H'=>FrD H H' tl al rl tk∧zay K H' dh tl al rl tk ⟨(aF s.T (ts.take i)).1,s.A,s.R,s.tk⟩∧us=(aF s.T (ts.take i)).2.map V.int) (fun i us H' ⟨f1,_⟩=>(D.kt f1).sq hpa) ⟨FrD.of_same (ah hU _),D.same (ah hU _),rfl⟩ ?_ ?_
 ·rintro i us H8 x H4 hi hly hUs ⟨f4,D4,rfl⟩ ⟨rfl,hx⟩
  obtain⟨u,hu',hxu⟩:=F74.trs_get (hxs.keep (D.kt f4) (F74.nols_dTrs _)) (hx _ ((D.kt f4).sq hpa))
  have um:=List.mem_of_getElem? hu'
  have ns:=zh3 hu'
  have ll:=zbV (ts.take i) s.T
  refine⟨_,rfl,_,rfl,dh,tl,al,rl,tk,_,u,x,rfl,D4,hxu,dts u um,by simp only[M]at m6 ⊢;omega,fun H5 D5 f5=>?_⟩
  have hU5:=f5 _ _ hUs u1 u2 u3 u4
  refine zb5 (sz _ (by omega)) hi hly hU5 ⟨fun c o hc h1 h2 h3 h4=>?_,?_,by rw[zd6 hu',List.map_append];rfl⟩
  ·rw[ao (fun e=>by rw[e,hU]at hc;cases hc)]
   exact f5 _ _ (f4 _ _ hc h1 h2 h3 h4) h1 h2 h3 h4
  ·rw[zd6 hu']
   exact D5.putL hU5 u1 u2 u3 u4
 ·rintro us H4 hUs ⟨f4,D4,rfl⟩
  rw[xl,List.take_length]at D4 hUs
  have ll:=zbV ts s.T
  exact g1 _ H4 dh tl al rl tk U _ _ m _ D4 (by simp only[M]at m6 ⊢;omega) few m690 hUs u1 u2 u3 u4 (by omega) fun H5 D5 f5=>q H5 D5 (f4.trans f5)
end
end K74
namespace K74
open PySem L2
open F74 (Tr Fm dTr zax dFm FOk fdp zaF zbR)
abbrev NP:List Str:=["_law_due_here","_law_formula","_law_taken_here","_law_kind","_law_one","_law_n","_law_f","_law_g","_law_rows","_law_row"]
theorem zaP:zac NP ["_law_due_here","_law_formula","_law_taken_here"] (aj zb9):=⟨rfl,rfl,rfl,by decide +kernel,rfl,by decide +kernel,by decide +kernel⟩
theorem zj6 (k:Str) (n a b:Int):∀ r∈prF k n a b,r.length≤1000:=by
 unfold prF
 split
 ·intro r hr
  simp only[List.mem_cons,List.not_mem_nil,or_false]at hr
  rcases hr with rfl | rfl | rfl <;> simp
 split
 ·intro r hr
  simp only[List.mem_cons,List.not_mem_nil,or_false]at hr
  rcases hr with rfl | rfl | rfl <;> simp
 split
 ·intro r hr
  simp only[List.mem_cons,List.not_mem_nil,or_false]at hr
  rcases hr with rfl | rfl | rfl <;> simp
 ·intro r hr
  simp only[List.mem_cons,List.not_mem_nil,or_false]at hr
  rcases hr with rfl | rfl | rfl | rfl <;> simp
theorem zkU {k:Str} (h:k="and"∨k="or"∨k="then"∨k="as"):¬decide (V.str k=V.str "always")=true∧¬decide (V.str k=V.str "never")=true:=by
 have key:∀ k∈(["and","or","then","as"]:List Str),k≠"always"∧k≠"never":=by decide +kernel
 have kk:=key k (by simp only[List.mem_cons,List.not_mem_nil,or_false];exact h)
 refine⟨fun e=>kk.1 ?_,fun e=>kk.2 ?_⟩
 ·have:=of_decide_eq_true e
  injection this
 ·have:=of_decide_eq_true e
  injection this
section
variable {P:Program} {w:World} {K:W.Frag} {mg:Str→Option Value} {base:Heap} {aK C CN CT CP CM CZ:Addr} {f fS' fP' fT' fW' fR' fU':Addr} {fd dS' dP' dT' dW' dR'' dU':FuncData}
theorem lprt10 (BR:FB P w K mg base CX0 1 "_law_put" fR' dR'' ["_law_due_here","_law_row"] (zc7 K)) {cdv:Value} {A:Around} {outer:List Env} {s:Shared} {H0:Hp} {E:XK} (hr:aH 1 (A.deeper (PyProof.Rows.envOfC "_law_part" (aj zb9) s.heap.objs.size f cdv))) :
  ∃ t,PSs (zbg CX0 P w K mg base NP "_law_part" (aj zb9) f cdv A outer s H0 E).nox ((zaw zb9).drop 10) t ∧
   ∀(Dn:za3) (H H1:Hp) (dh tl al rl tk lr:Addr) (s:LS) (rs:List (List Int)) (n:Int) (v1 v2 v3 v4 v6 v7:Option V),zay K H dh tl al rl tk s→zcr H H1 lr rs→(∀ r∈rs,r.length≤1000)→M s+rs.length≤1000000→rs.length≤4 →
    (∀ H',zay K H' dh tl al rl tk (za2 s rs)→FrD H H' tl al rl tk→Dn.rt (.int n) H') →
    t Dn [some (.ref dh),v1,v2,v3,v4,some (.int n),v6,v7,some (.ref lr),none] H1:=by
 refine⟨_,(ae (zbp PassesOwn.never rfl (zbJ (pv 8)) (zaO (i:=9) zaP.nd rfl (Or.inl rfl))
   (ai (zau (aq BR.ok hr rfl BR.m BR.kp BR.b .nil aJ (aa (pv 0) (aa (pv 9) ac))))))
  (ai (ay (pv 5)))),?_⟩
 intro Dn H H1 dh tl al rl tk lr s rs n v1 v2 v3 v4 v6 v7 D ⟨s1,nlr,ps,hl,erfl,hps⟩ small m6 l4 q
 subst erfl
 obtain⟨b1,b2,b3,b4⟩:=D.old nlr
 have keep:∀ {H':Hp},FrD H1 H' tl al rl tk→H' lr=some (.lst (ps.map fun x=>V.ref x.1)):=fun f'=>f' _ _ hl b1 b2 b3 b4
 have pl:(ps.map fun x=>V.ref x.1).length=ps.length:=List.length_map _
 refine⟨_,rfl,lr,rfl,⟨_,SqL.of hl⟩,zcW zbI (fun i σ H'=>∃ v9:Option V,σ=[some (.ref dh),v1,v2,v3,v4,some (.int n),v6,v7,some (.ref lr),v9]∧FrD H1 H' tl al rl tk∧zay K H' dh tl al rl tk (za2 s ((ps.map (·.2)).take i))) (fun i σ H' ⟨_,_,f',_⟩=>SqL.of (keep f')) ⟨none,rfl,FrD.of_same (ap.refl _),?_⟩ ?_ ?_⟩
 ·have e:za2 s ((ps.map (·.2)).take 0)=s:=by simp [za2]
  rw[e]
  exact D.same s1
 ·rintro i σ H2 x H3 hi ⟨v9,rfl,f2,D2⟩ ⟨rfl,hx⟩
  have hx':=hx _ (SqL.of (keep f2))
  rw[List.getElem?_map]at hx'
  obtain⟨y,hy,rfl⟩:=Option.map_eq_some_iff.mp hx'
  have ym:=List.mem_of_getElem? hy
  obtain⟨ny,hy1⟩:=hps y ym
  obtain⟨c1,c2,c3,c4⟩:=D.old ny
  have hy2:=f2 _ _ hy1 c1 c2 c3 c4
  have ml:=(zbd s ((ps.map (·.2)).take i)).m
  rw[List.length_take]at ml
  refine⟨_,rfl,_,rfl,dh,tl,al,rl,tk,y.1,_,y.2,rfl,D2,by omega,.inr (SqT.of hy2),small y.2 (List.mem_map.mpr ⟨y,ym,rfl⟩),fun H5 D5 f5=>⟨_,rfl,f2.trans f5,?_⟩⟩
  rw[zg9]at D5
  rw[zbP (show(ps.map (·.2))[i]?=some y.2 by rw[List.getElem?_map,hy];rfl)]
  exact D5
 ·rintro σ H2 ⟨v9,rfl,f2,D2⟩
  rw[List.take_of_length_le (by rw[List.length_map,pl];exact Nat.le_refl _)]at D2
  exact⟨_,rfl,q H2 D2 ((FrD.of_same s1).trans f2)⟩
def zhP (K:W.Frag) (n:Nat):Sp:=fun vs H Q _=>∃(dh tl al rl tk:Addr) (s:LS) (g:Fm) (v:V) (m:Nat),vs=[.ref dh,v,.ref tk]∧zay K H dh tl al rl tk s∧Has K H (dFm g) v∧FOk g∧LFm g∧fdp g≤n∧M s+szF g≤1000000∧zcb s.tk m∧m+cnt g≤690 ∧
 ∀ H',zay K H' dh tl al rl tk (ax s g).1→FrD H H' tl al rl tk→Q (.int (ax s g).2) H'
set_option maxHeartbeats 4000000 in
theorem zhZ (F:Fun K "_law_part" "_law_part" zb9 f fd) (T:F74.Txt K mg aK C) (b:ar K fd ["_law_due_here","_law_formula","_law_taken_here"] []) (kp:W.keepIn K (.ref f)=true) (m:mg "_law_part"=some (.ref f))
  (BP:FB P w K mg base CX0 1 "_law_plain" fP' dP' ["_law_due_here","_law_name"] (ze9 K)) (BT:FB P w K mg base CX0 4 "_law_term" fT' dT' ["_law_due_here","_law_tree_here"] (zfM K 3)) (BS:FB P w K mg base CX0 1 "_law_same" fS' dS' ["_law_due_here","_law_one","_law_other"] (zeB K)) (BW:FB P w K mg base CX0 2 "_law_new" fW' dW' ["_law_due_here","_law_taken_here"] (zeq K)) (BR:FB P w K mg base CX0 1 "_law_put" fR' dR'' ["_law_due_here","_law_row"] (zc7 K)) (BU:FB P w K mg base CX0 5 "_law_unlike" fU' dU' ["_law_due_here","_law_trees","_law_taken_here"] (ziC K)) :
  ∀ n,FnOk P w K mg base CX0 (n+6) f fd ["_law_due_here","_law_formula","_law_taken_here"] (zhP K n)
 | 0=>F74.FnOk.no fun _ _ _ _ ⟨_,_,_,_,_,_,g,_,_,_,_,_,_,_,h,_⟩=>by
  have:=F74.fdp_pos g
  omega
 | n+1=>by
  have IH:=zhZ F T b kp m BP BT BS BW BR BU n
  refine F.ok zaP (fun vs H Q E h=>?_) (fun cdv A outer s H vs Q E hr h=>?_)
  ·obtain⟨dh,tl,al,rl,tk,s,g,v,mm,rfl,_⟩:=h
   rfl
  obtain⟨dh,tl,al,rl,tk,s,g,v,mm,rfl,D,hg,ok,lf,hd,m6,few,m690,q⟩:=h
  have hr1:aH 1 _:=hr.mono (by omega)
  have hr2:aH 2 _:=hr.mono (by omega)
  have hr4:aH 4 _:=hr.mono (by omega)
  have hr5:aH 5 _:=hr.mono (by omega)
  obtain⟨t10,h10,g10⟩:=lprt10 (f:=f) (outer:=outer) (H0:=H) (E:=E) (base:=base) BR hr1
  refine⟨_,(ae (az (i:=3) zaP.nd rfl (Or.inl rfl) (aA zaf (pv 1) ag (fun _ _=>rfl)))
   (ae (zal (av zaE (pv 3) au (aD _))
    (ai (ay (aq BP.ok hr1 rfl BP.m BP.kp BP.b .nil aJ (aa (pv 0) (aa (aA zaf (pv 1) ag (fun _ _=>rfl)) ac)))))
    zad)
   (ae (zal (av zaE (pv 3) au (aD _))
    (ae (az (i:=4) zaP.nd rfl (Or.inl rfl) (aq BT.ok hr4 rfl BT.m BT.kp BT.b .nil aJ (aa (pv 0) (aa (aA zaf (pv 1) ag (fun _ _=>rfl)) ac))))
     (ai (ay (aq BS.ok hr1 rfl BS.m BS.kp BS.b .nil aJ (aa (pv 0) (aa (pv 4) (aa (aq BT.ok hr4 rfl BT.m BT.kp BT.b .nil aJ (aa (pv 0) (aa (aA zaf (pv 1) ag (fun _ _=>rfl)) ac))) ac)))))))
    zad)
   (ae (zal (av zaE (pv 3) au (aD _))
    (ai (ay (zas zak (aq IH hr rfl m kp b .nil aJ (aa (pv 0) (aa (aA zaf (pv 1) ag (fun _ _=>rfl)) (aa (pv 2) ac)))))))
    zad)
   (ae (zal (av zaE (pv 3) au (aD _))
    (ai (ay (aq BU.ok hr5 rfl BU.m BU.kp BU.b .nil aJ (aa (pv 0) (aa (aA zaf (pv 1) ag (fun _ _=>rfl)) (aa (pv 2) ac))))))
    zad)
   (ae (zal (PW.pt (zdp (av zaE (pv 3) au (aD _)) (zdG (av zaE (pv 3) au (aD _)))))
    (ae (az (i:=5) zaP.nd rfl (Or.inl rfl) (aq BW.ok hr2 rfl BW.m BW.kp BW.b .nil aJ (aa (pv 0) (aa (pv 2) ac))))
     (ae (zau (aq BR.ok hr1 rfl BR.m BR.kp BR.b .nil aJ (aa (pv 0) (aa (aA zaT (zag (aa (zag (aa (pv 5) ac)) (aa (zag (aa (zas zak (pv 5)) ac)) ac))) (za7 zfj rfl T.int PyProof.Rows.Boot.int (aa (zbA zaE (pv 3) au (aD _)) ac)) (fun _ _=>rfl)) ac))))
     (ai (ay (pv 5)))))
    zad)
   (ae (az (i:=6) zaP.nd rfl (Or.inl rfl) (aq IH hr rfl m kp b .nil aJ (aa (pv 0) (aa (aA zaf (pv 1) ag (fun _ _=>rfl)) (aa (pv 2) ac)))))
   (ae (az (i:=7) zaP.nd rfl (Or.inl rfl) (aq IH hr rfl m kp b .nil aJ (aa (pv 0) (aa (aA zaf (pv 1) ag (fun _ _=>rfl)) (aa (pv 2) ac)))))
   (ae (az (i:=5) zaP.nd rfl (Or.inl rfl) (aq BW.ok hr2 rfl BW.m BW.kp BW.b .nil aJ (aa (pv 0) (aa (pv 2) ac))))
   (ae (zal (av zaE (pv 3) au (aD _))
    (ai (az (i:=8) zaP.nd rfl (Or.inl rfl) (zag (aa (zae (aa (zas zak (pv 5)) (aa (pv 6) ac))) (aa (zae (aa (zas zak (pv 5)) (aa (pv 7) ac))) (aa (zae (aa (pv 5) (aa (zas zak (pv 6)) (aa (zas zak (pv 7)) ac)))) ac))))))
    (ai (zal (av zaE (pv 3) au (aD _))
      (ai (az (i:=8) zaP.nd rfl (Or.inl rfl) (zag (aa (zae (aa (zas zak (pv 5)) (aa (pv 6) (aa (pv 7) ac)))) (aa (zae (aa (pv 5) (aa (zas zak (pv 6)) ac))) (aa (zae (aa (pv 5) (aa (zas zak (pv 7)) ac))) ac))))))
      (ai (zal (av zaE (pv 3) au (aD _))
        (ai (az (i:=8) zaP.nd rfl (Or.inl rfl) (zag (aa (zae (aa (zas zak (pv 5)) (aa (zas zak (pv 6)) (aa (pv 7) ac)))) (aa (zae (aa (pv 5) (aa (pv 6) ac))) (aa (zae (aa (pv 5) (aa (zas zak (pv 7)) ac))) ac))))))
        (ai (az (i:=8) zaP.nd rfl (Or.inl rfl) (zag (aa (zae (aa (zas zak (pv 5)) (aa (zas zak (pv 6)) (aa (pv 7) ac)))) (aa (zae (aa (zas zak (pv 5)) (aa (pv 6) (aa (zas zak (pv 7)) ac)))) (aa (zae (aa (pv 5) (aa (pv 6) (aa (pv 7) ac)))) (aa (zae (aa (pv 5) (aa (zas zak (pv 6)) (aa (zas zak (pv 7)) ac)))) ac))))))))))))
   h10)))))))))),?_⟩
  obtain⟨p,xs,rfl,hp,hx⟩:=F74.fm_at hg
  have a0:atI (V.str (F74.hdF g) :: xs) 0=some (.str (F74.hdF g)):=zah (j:=0) rfl
  have str:∀ {x y:Str},decide (V.str x=V.str y)=true→x=y:=fun h=>by
   have:=of_decide_eq_true h
   injection this
  have nst:∀ {x y:Str},¬decide (V.str x=V.str y)=true→¬x=y:=fun h e=>h (by rw[e];exact decide_eq_true rfl)
  refine⟨_,rfl,p,_,_,_,rfl,rfl,hp,a0,_,rfl,rfl,_,rfl,aG (fun c1=>?_) (fun c1=>?_)⟩
  ·obtain⟨z,rfl⟩:=F74.hd_plain ok (str c1)
   simp only[F74.tlF,HasL,Has]at hx
   obtain⟨_,_,rfl,rfl,rfl⟩:=hx
   have a1:atI [V.str (F74.hdF (.plain z)),V.str z] 1=some (.str z):=zah (j:=1) rfl
   simp only[szF]at m6
   exact⟨_,rfl,_,rfl,p,_,_,_,rfl,rfl,hp,a1,dh,tl,al,rl,tk,s,z,rfl,D,by omega,fun H1 D1 f1=>q H1 D1 f1⟩
  refine⟨_,rfl,rfl,_,rfl,aG (fun c2=>?_) (fun c2=>?_)⟩
  ·obtain⟨a,b',rfl⟩:=F74.hd_same ok (str c2)
   simp only[F74.tlF]at hx
   obtain⟨va,vb,rfl,ha,hb⟩:=F74.HasL.two hx
   have a1:atI (V.str (F74.hdF (.same a b')) :: [va,vb]) 1=some va:=zah (j:=1) rfl
   have a2:atI (V.str (F74.hdF (.same a b')) :: [va,vb]) 2=some vb:=zah (j:=2) rfl
   simp only[szF]at m6
   have l1:=zgL a s.T
   have l2:=zgL b' (lTr s.T a).1
   refine⟨_,rfl,_,rfl,p,_,_,_,rfl,rfl,hp,a1,dh,tl,al,rl,tk,s,a,va,rfl,D,ha,ok.1,by omega,fun H1 D1 f1=>?_⟩
   have hp1:=(D.kt f1).sq hp
   refine⟨_,rfl,_,rfl,_,rfl,_,rfl,p,_,_,_,rfl,rfl,hp1,a2,dh,tl,al,rl,tk,_,b',vb,rfl,D1,hb.keep (D.kt f1) (F74.nol_dTr _),ok.2,by simp only[M]at m6 ⊢;omega,fun H2 D2 f2=>?_⟩
   refine⟨dh,tl,al,rl,tk,_,_,_,rfl,D2,by simp only[M]at m6 ⊢;omega,fun H3 D3 f3=>?_⟩
   have q':=q H3
   simp only[ax,aF,List.getD_cons_zero,List.getD_cons_succ]at q'
   exact q' D3 (f1.trans (f2.trans f3))
  refine⟨_,rfl,rfl,_,rfl,aG (fun c3=>?_) (fun c3=>?_)⟩
  ·obtain⟨g',rfl⟩:=F74.hd_not ok (str c3)
   simp only[F74.tlF]at hx
   obtain⟨vg,rfl,hg'⟩:=F74.HasL.uno hx
   have a1:atI [V.str (F74.hdF (.not g')),vg] 1=some vg:=zah (j:=1) rfl
   simp only[szF]at m6
   simp only[fdp]at hd
   exact⟨_,rfl,_,rfl,p,_,_,_,rfl,rfl,hp,a1,_,rfl,dh,tl,al,rl,tk,s,g',vg,mm,rfl,D,hg',ok,lf,by omega,m6,few,m690,fun H1 D1 f1=>⟨_,rfl,q H1 D1 f1⟩⟩
  refine⟨_,rfl,rfl,_,rfl,aG (fun c4=>?_) (fun c4=>?_)⟩
  ·obtain⟨ts,rfl⟩:=F74.hd_unlike ok (str c4)
   simp only[F74.tlF,HasL,Has]at hx
   obtain⟨va,r1,rfl,⟨r,ys,rfl,hr1',hy⟩,rfl⟩:=hx
   have a1:atI [V.str (F74.hdF (.unlike ts)),V.ref r] 1=some (.ref r):=zah (j:=1) rfl
   simp only[szF]at m6
   simp only[cnt]at m690
   exact⟨_,rfl,_,rfl,p,_,_,_,rfl,rfl,hp,a1,_,rfl,dh,tl,al,rl,tk,r,s,ts,ys,mm,rfl,D,hr1',hy,ok,lf.2.2,by omega,few,by omega,fun H1 D1 f1=>q H1 D1 f1⟩
  have alt:=zjQ ok (nst c1) (nst c3) (nst c2) (nst c4)
  rcases alt with ⟨z,rfl⟩ | ⟨k,a,b',rfl⟩
  ·simp only[szF]at m6
   simp only[cnt]at m690
   have m2:=(zcJ s).m
   rcases ok with rfl | rfl
   ·refine⟨_,rfl,rfl,_,rfl,aG (fun _=>zc1 ?_) (fun c=>absurd (decide_eq_true (rfl:V.str "always"=V.str "always")) c)⟩
    refine⟨_,rfl,_,rfl,dh,tl,al,rl,tk,s,mm,rfl,D,by omega,few,by omega,fun H1 D1 f1=>?_⟩
    refine⟨_,rfl,_,rfl,lS1,fun b1 h1=>?_⟩
    have s2:=ah h1 (.lst [V.int ((zap s).2:Int)])
    have n2:=ad (H:=H1) (a:=b1) (o:=.lst [V.int ((zap s).2:Int)])
    generalize upd H1 b1 (.lst [V.int ((zap s).2:Int)])=H2 at s2 n2
    refine⟨_,rfl,_,rfl,lS1,fun b2 h2=>?_⟩
    have s3:=ah h2 (.lst [V.int (-((zap s).2:Int))])
    have n3:=ad (H:=H2) (a:=b2) (o:=.lst [V.int (-((zap s).2:Int))])
    generalize upd H2 b2 (.lst [V.int (-((zap s).2:Int))])=H3 at s3 n3
    refine⟨lS2,fun b3 h3=>?_⟩
    have s4:=ah h3 (.lst [V.ref b1,V.ref b2])
    have n4:=ad (H:=H3) (a:=b3) (o:=.lst [V.ref b1,V.ref b2])
    generalize upd H3 b3 (.lst [V.ref b1,V.ref b2])=H4 at s4 n4
    have s14:=(s2.trans s3).trans s4
    exact⟨_,rfl,rfl,.inr ⟨_,rfl,b3,_,_,_,rfl,rfl,SqL.of n4,zah (j:=0) rfl,dh,tl,al,rl,tk,b1,_,[((zap s).2:Int)],rfl,D1.same s14,by omega,.inl (SqL.of (s4 _ _ (s3 _ _ n2))),by show 1≤1000;decide,fun H5 D5 f5=>⟨_,rfl,q H5 D5 (f1.trans ((FrD.of_same s14).trans f5))⟩⟩⟩
   ·refine⟨_,rfl,rfl,_,rfl,aG (fun c=>absurd c (by decide +kernel)) (fun _=>⟨_,rfl,rfl,_,rfl,aG (fun _=>?_) (fun c=>absurd (decide_eq_true (rfl:V.str "never"=V.str "never")) c)⟩)⟩
    refine⟨_,rfl,_,rfl,dh,tl,al,rl,tk,s,mm,rfl,D,by omega,few,by omega,fun H1 D1 f1=>?_⟩
    refine⟨_,rfl,_,rfl,lS1,fun b1 h1=>?_⟩
    have s2:=ah h1 (.lst [V.int ((zap s).2:Int)])
    have n2:=ad (H:=H1) (a:=b1) (o:=.lst [V.int ((zap s).2:Int)])
    generalize upd H1 b1 (.lst [V.int ((zap s).2:Int)])=H2 at s2 n2
    refine⟨_,rfl,_,rfl,lS1,fun b2 h2=>?_⟩
    have s3:=ah h2 (.lst [V.int (-((zap s).2:Int))])
    have n3:=ad (H:=H2) (a:=b2) (o:=.lst [V.int (-((zap s).2:Int))])
    generalize upd H2 b2 (.lst [V.int (-((zap s).2:Int))])=H3 at s3 n3
    refine⟨lS2,fun b3 h3=>?_⟩
    have s4:=ah h3 (.lst [V.ref b1,V.ref b2])
    have n4:=ad (H:=H3) (a:=b3) (o:=.lst [V.ref b1,V.ref b2])
    generalize upd H3 b3 (.lst [V.ref b1,V.ref b2])=H4 at s4 n4
    have s14:=(s2.trans s3).trans s4
    exact⟨_,rfl,rfl,.inr ⟨_,rfl,b3,_,_,_,rfl,rfl,SqL.of n4,zah (j:=1) rfl,dh,tl,al,rl,tk,b2,_,[-((zap s).2:Int)],rfl,D1.same s14,by omega,.inl (SqL.of (s4 _ _ n3)),by show 1≤1000;decide,fun H5 D5 f5=>⟨_,rfl,q H5 D5 (f1.trans ((FrD.of_same s14).trans f5))⟩⟩⟩
  ·simp only[F74.tlF]at hx
   obtain⟨va,vb,rfl,ha,hb⟩:=F74.HasL.two hx
   have a1:atI (V.str (F74.hdF (.bin k a b')) :: [va,vb]) 1=some va:=zah (j:=1) rfl
   have a2:atI (V.str (F74.hdF (.bin k a b')) :: [va,vb]) 2=some vb:=zah (j:=2) rfl
   simp only[szF]at m6
   simp only[cnt]at m690
   simp only[fdp]at hd
   obtain⟨kk,oka,okb⟩:=ok
   obtain⟨lfa,lfb⟩:=lf
   have nb:=zkU kk
   refine⟨_,rfl,rfl,_,rfl,aG (fun c=>absurd c nb.1) (fun _=>⟨_,rfl,rfl,_,rfl,aG (fun c=>absurd c nb.2) (fun _=>?_)⟩)⟩
   refine⟨_,rfl,_,rfl,p,_,_,_,rfl,rfl,hp,a1,_,rfl,dh,tl,al,rl,tk,s,a,va,mm,rfl,D,ha,oka,lfa,by omega,by omega,few,by omega,fun H1 D1 f1=>?_⟩
   have ls1:=(zci a s lfa).m
   have fw1:=zcQ a few
   have hp1:=(D.kt f1).sq hp
   refine⟨_,rfl,_,rfl,p,_,_,_,rfl,rfl,hp1,a2,_,rfl,dh,tl,al,rl,tk,_,b',vb,_,rfl,D1,hb.keep (D.kt f1) (F74.nol_dFm _),okb,lfb,by omega,by omega,fw1,by omega,fun H2 D2 f2=>?_⟩
   have ls2:=(zci b' (ax s a).1 lfb).m
   have fw2:=zcQ b' fw1
   refine⟨_,rfl,_,rfl,dh,tl,al,rl,tk,_,_,rfl,D2,by omega,fw2,by omega,fun H3 D3 f3=>?_⟩
   have ls3:=(zcJ (ax (ax s a).1 b').1).m
   have f03:=f1.trans (f2.trans f3)
   have q':∀ H',zay K H' dh tl al rl tk (za2 (zap (ax (ax s a).1 b').1).1 (prF k ((zap (ax (ax s a).1 b').1).2:Int) (ax s a).2 (ax (ax s a).1 b').2))→FrD H H' tl al rl tk→Q (.int ((zap (ax (ax s a).1 b').1).2:Int)) H':=q
   generalize zap (ax (ax s a).1 b').1=y at *
   generalize (ax s a).2=ka at *
   generalize (ax (ax s a).1 b').2=kb at *
   have z2:2≤sizeLine:=by decide
   have z3:3≤sizeLine:=by decide
   have z4:4≤sizeLine:=by decide
   have pl:=ziI k (y.2:Int) ka kb
   have fin:∀ {H1 lr},zcr H3 H1 lr (prF k (y.2:Int) ka kb)→t10 { nx:=fun _ H'=>Q .non H',rt:=Q } [some (.ref dh),some (.ref p),some (.ref tk),some (.str k),none,some (.int (y.2:Int)),some (.int ka),some (.int kb),some (.ref lr),none] H1:=fun nr=>g10 _ H3 _ dh tl al rl tk _ y.1 _ (y.2:Int) _ _ _ _ _ _ D3 nr (zj6 _ _ _ _) (by omega) pl fun H' D' f'=>q' H' D' (f03.trans f')
   refine⟨_,rfl,rfl,_,rfl,aG (fun d1=>?_) (fun d1=>?_)⟩
   ·refine⟨_,rfl,_,rfl,_,rfl,z2,fun p1 h1=>⟨_,rfl,_,rfl,_,rfl,z2,fun p2 h2=>⟨_,rfl,_,rfl,_,rfl,_,rfl,_,rfl,z3,fun p3 h3=>⟨z3,fun l hl=>fin ?_⟩⟩⟩⟩
    unfold prF
    rw[if_pos (show k=_ from str d1)]
    exact new3 rfl rfl rfl h1 h2 h3 hl
   refine⟨_,rfl,rfl,_,rfl,aG (fun d2=>?_) (fun d2=>?_)⟩
   ·refine⟨_,rfl,_,rfl,_,rfl,_,rfl,z3,fun p1 h1=>⟨_,rfl,_,rfl,_,rfl,z2,fun p2 h2=>⟨_,rfl,_,rfl,_,rfl,z2,fun p3 h3=>⟨z3,fun l hl=>fin ?_⟩⟩⟩⟩
    unfold prF
    rw[if_neg (show ¬k=_ from nst d1),if_pos (show k=_ from str d2)]
    exact new3 rfl rfl rfl h1 h2 h3 hl
   refine⟨_,rfl,rfl,_,rfl,aG (fun d3=>?_) (fun d3=>?_)⟩
   ·refine⟨_,rfl,_,rfl,_,rfl,_,rfl,_,rfl,z3,fun p1 h1=>⟨_,rfl,_,rfl,z2,fun p2 h2=>⟨_,rfl,_,rfl,_,rfl,z2,fun p3 h3=>⟨z3,fun l hl=>fin ?_⟩⟩⟩⟩
    unfold prF
    rw[if_neg (show ¬k=_ from nst d1),if_neg (show ¬k=_ from nst d2),if_pos (show k=_ from str d3)]
    exact new3 rfl rfl rfl h1 h2 h3 hl
   ·refine⟨_,rfl,_,rfl,_,rfl,_,rfl,_,rfl,z3,fun p1 h1=>⟨_,rfl,_,rfl,_,rfl,_,rfl,_,rfl,z3,fun p2 h2=>⟨_,rfl,_,rfl,_,rfl,z3,fun p3 h3=>⟨_,rfl,_,rfl,_,rfl,_,rfl,_,rfl,z3,fun p4 h4=>⟨z4,fun l hl=>fin ?_⟩⟩⟩⟩⟩
    unfold prF
    rw[if_neg (show ¬k=_ from nst d1),if_neg (show ¬k=_ from nst d2),if_neg (show ¬k=_ from nst d3)]
    exact new4 rfl rfl rfl rfl h1 h2 h3 h4 hl
end
end K74
namespace K74
open PySem L2
open F74 (Tr Fm dTr zax dFm FOk fdp zaF zbR)
mutual
def GTr:Tr→Prop
 | .node n ts=>zaK n=true∧zc5 ts
def zc5:List Tr→Prop
 | []=>True
 | t :: ts=>GTr t∧zc5 ts
end
theorem zi0:∀ {ts:List Tr},(∀ t∈ts,GTr t)→zc5 ts
 | [],_=>by simp only[zc5]
 | t :: ts,h=>by
  simp only[zc5]
  exact⟨h t (by simp),zi0 fun u hu=>h u (List.mem_cons_of_mem _ hu)⟩
def GFm:Fm→Prop
 | .plain z=>zaK z=true
 | .bare _=>True
 | .same a b=>GTr a∧GTr b
 | .unlike ts=>∀ t∈ts,GTr t
 | .not f=>GFm f
 | .bin _ f g=>GFm f∧GFm g
theorem nAdd_l {T:List Tm} {n:Str} {ks:List Int} (hn:zaK n=true):zc0 T n ks=.ok (zeW T (n,ks))∨(zc0 T n ks=.er true∧60≤T.length∧(zeW T (n,ks)).1.length=T.length+1):=by
 unfold zc0 zeW
 rw[if_neg (by rw[hn];decide)]
 by_cases c:(n,ks)∈T
 ·rw[if_pos c,if_pos c]
  exact .inl rfl
 ·rw[if_neg c,if_neg c]
  by_cases d:60≤T.length
  ·rw[if_pos d]
   exact .inr ⟨rfl,d,by simp⟩
  ·rw[if_neg d]
   exact .inl rfl
mutual
theorem adTr_l:∀(t:Tr) {T:List Tm},GTr t→T.length≤60→zcu T t=.ok (lTr T t)∨(zcu T t=.er true∧60 < (lTr T t).1.length)
 | .node n ts,T,g,h=>by
  simp only[GTr]at g
  simp only[zcu,lTr]
  rcases zfu ts g.2 h with e | ⟨e,l⟩
  ·rw[e,Rl.okb]
   rcases nAdd_l (T:=(aF T ts).1) (ks:=(aF T ts).2) g.1 with e2 | ⟨e2,l2,l3⟩
   ·exact .inl e2
   ·exact .inr ⟨e2,by omega⟩
  ·rw[e,Rl.erb]
   have:=(zh8 (aF T ts).1 (n,(aF T ts).2)).1
   exact .inr ⟨rfl,by omega⟩
theorem zfu:∀(ts:List Tr) {T:List Tm},zc5 ts→T.length≤60→zaL T ts=.ok (aF T ts)∨(zaL T ts=.er true∧60 < (aF T ts).1.length)
 | [],T,g,h=>.inl (by simp only[zaL,aF])
 | t :: ts,T,g,h=>by
  simp only[zc5]at g
  simp only[zaL,aF]
  rcases adTr_l t g.1 h with e | ⟨e,l⟩
  ·rw[e,Rl.okb]
   have h2:=(ziZ h t e).1
   rcases zfu ts g.2 h2 with e2 | ⟨e2,l2⟩
   ·rw[e2,Rl.okb]
    exact .inl rfl
   ·rw[e2,Rl.erb]
    exact .inr ⟨rfl,l2⟩
  ·rw[e,Rl.erb]
   have:=(zbV ts (lTr T t).1).1
   exact .inr ⟨rfl,by omega⟩
end
theorem ziP (A:List At) (a b:Int):zb1 A a b=.ok (za0 A a b)∨(zb1 A a b=.er true∧40≤A.length∧(za0 A a b).1.length=A.length+1):=by
 unfold zb1 za0
 by_cases c:.same b a∈A
 ·rw[if_pos c,if_pos c]
  exact .inl rfl
 ·rw[if_neg c,if_neg c]
  by_cases e:.same a b∈A
  ·rw[if_pos e,if_pos e]
   exact .inl rfl
  ·rw[if_neg e,if_neg e]
   by_cases d:40≤A.length
   ·rw[if_pos d]
    exact .inr ⟨rfl,d,by simp⟩
   ·rw[if_neg d]
    exact .inl rfl
theorem zjL (a:Int):∀(bs:List Int) {A:List At},A.length≤40→zbB A a bs=.ok (zbn A a bs)∨(zbB A a bs=.er true∧40 < (zbn A a bs).1.length)
 | [],A,h=>.inl rfl
 | b :: bs,A,h=>by
  simp only[zbB,zbn]
  rcases ziP A a b with e | ⟨e,l,l2⟩
  ·rw[e,Rl.okb]
   have h2:=(zeE e h).1.a
   rcases zjL a bs h2 with e2 | ⟨e2,l2⟩
   ·rw[e2,Rl.okb]
    exact .inl rfl
   ·rw[e2,Rl.erb]
    exact .inr ⟨rfl,l2⟩
  ·rw[e,Rl.erb]
   have:=(zeF a bs (za0 A a b).1).1
   exact .inr ⟨rfl,by omega⟩
theorem zh4:∀(as:List Int) {A:List At},A.length≤40→zaV A as=.ok (zaA A as)∨(zaV A as=.er true∧40 < (zaA A as).1.length)
 | [],A,h=>.inl rfl
 | a :: as,A,h=>by
  simp only[zaV,zaA]
  rcases zjL a as h with e | ⟨e,l⟩
  ·rw[e,Rl.okb]
   have h2:=(zfp e h).1.a
   rcases zh4 as h2 with e2 | ⟨e2,l2⟩
   ·rw[e2,Rl.okb]
    exact .inl rfl
   ·rw[e2,Rl.erb]
    exact .inr ⟨rfl,l2⟩
  ·rw[e,Rl.erb]
   have:=(zcs as (zbn A a as).1).1
   exact .inr ⟨rfl,by omega⟩
structure Tk (S:List Str) (tr:Nat) (tk:List Str):Prop where
 i:∀ j,j < tr→aI j∈tk
 s:∀ z∈S,z∈tk
 o:∀ z∈tk,z∈S∨∃ j,j < tr∧z=aI j
structure Rel (S:List Str) (st:St) (s:LS):Prop where
 t:s.T=st.T
 a:s.A=st.A
 r:s.R=st.R
 k:Tk S st.tr s.tk
def Big (s:LS):Prop:=60 < s.T.length∨40 < s.A.length∨200 < s.R.length
theorem Big.mono {s s':LS} {n:Nat} (h:Big s) (l:Ls s s' n):Big s':=by
 have:=l.t
 have:=l.a
 have:=l.r
 rcases h with h | h | h
 ·exact .inl (by omega)
 ·exact .inr (.inl (by omega))
 ·exact .inr (.inr (by omega))
theorem zjN {tk:List Str} {m:Nat} (out:aI m∉tk):∀ {n k:Nat},(∀ j,k≤j→j < m→aI j∈tk)→k≤m→m - k≤n→lff tk n k=m
 | 0,k,_,h1,h2=>by simp only[lff];omega
 | n+1,k,h,h1,h2=>by
  by_cases e:k=m
  ·subst e
   exact ziQ out
  ·have hk:=h k (Nat.le_refl _) (by omega)
   simp only[lff,if_pos hk]
   exact zjN out (fun j a b=>h j (by omega) b) (by omega) (by omega)
theorem ff_in {S:List Str}:∀ {n t j:Nat},t≤j→j < ff S n t→aI j∈S
 | 0,t,j,h1,h2=>by simp only[ff]at h2;omega
 | n+1,t,j,h1,h2=>by
  simp only[ff]at h2
  split at h2
  ·next c =>
   by_cases e:j=t
   ·rw[e];exact c
   ·exact ff_in (by omega) h2
  ·omega
theorem zkT {S:List Str} {st:St} {tk:List Str} (F:Fit S st) (W:Few S) (k:Tk S st.tr tk):lff tk 700 0=ff S 6 st.tr∧.plain (aI (ff S 6 st.tr))∉st.A∧zaK (aI (ff S 6 st.tr))=true∧Tk S (ff S 6 st.tr+1) (tk++[aI (ff S 6 st.tr)]):=by
 have f6:=zi9 S 6 st.tr
 have n:=F.n
 have a:=F.a
 obtain⟨j,hj,free⟩:=zdO W (t:=st.tr) (by omega)
 have fr:=zgP hj free
 have nin:.plain (aI (ff S 6 st.tr))∉st.A:=fun hin=>by
  rcases F.p _ hin with h | ⟨i,hi,e⟩
  ·exact fr h
  ·have:=zd2 (by omega) (by omega) e
   omega
 have out:aI (ff S 6 st.tr)∉tk:=fun hin=>by
  rcases k.o _ hin with h | ⟨i,hi,e⟩
  ·exact fr h
  ·have:=zd2 (by omega) (by omega) e
   omega
 have all:∀ j,j < ff S 6 st.tr→aI j∈tk:=fun j h=>by
  by_cases c:j < st.tr
  ·exact k.i j c
  ·exact k.s _ (ff_in (by omega) h)
 refine⟨zjN out (fun j _ h=>all j h) (Nat.zero_le _) (by omega),nin,zgh _ (by omega),fun j h=>?_,fun z h=>List.mem_append_left _ (k.s z h),fun z h=>?_⟩
 ·by_cases c:j=ff S 6 st.tr
  ·rw[c];simp
  ·exact List.mem_append_left _ (all j (by omega))
 ·rcases List.mem_append.mp h with h | h
  ·rcases k.o z h with h | ⟨i,hi,e⟩
   ·exact .inl h
   ·exact .inr ⟨i,by omega,e⟩
  ·exact .inr ⟨_,Nat.lt_succ_self _,List.mem_singleton.mp h⟩
theorem zhE {S:List Str} {st:St} {s:LS} (F:Fit S st) (W:Few S) (r:Rel S st s):(∃ x,zcZ S st=.ok x∧Rel S x.1 (zap s).1∧(x.2:Int)=(zap s).2)∨(zcZ S st=.er true∧Big (zap s).1):=by
 obtain⟨e1,nin,gd,k'⟩:=zkT F W r.k
 unfold zcZ zcg zap zaW
 rw[e1,r.a,if_neg nin,if_neg (by rw[gd];decide),if_neg nin]
 by_cases c:40≤st.A.length
 ·rw[if_pos c]
  exact .inr ⟨rfl,.inr (.inl (by show 40 < (st.A++[_]).length;simp;omega))⟩
 ·rw[if_neg c]
  exact .inl ⟨_,rfl,⟨r.t,rfl,r.r,k'⟩,rfl⟩
theorem zgb {S:List Str} {z:St × Nat} {s:LS} (r:Rel S z.1 s) (rs:List (List Int)):(∃ x,zcY z rs=.ok x∧Rel S x.1 (za2 s rs)∧x.2=(z.2:Int))∨(zcY z rs=.er true∧Big (za2 s rs)):=by
 unfold zcY zbN
 by_cases c:z.1.R.length+rs.length≤200
 ·rw[if_pos c]
  exact .inl ⟨_,rfl,⟨r.t,r.a,by show s.R++_=_;rw[r.r],r.k⟩,rfl⟩
 ·rw[if_neg c]
  exact .inr ⟨rfl,.inr (.inr (by show 200 < (s.R++_).length;rw[r.r,List.length_append,List.length_map];omega))⟩
theorem zfq {S:List Str} (W:Few S):∀(f:Fm) {st:St} {s:LS},Fit S st→Rel S st s→LFm f→GFm f→(∀ z∈plF f,z∈S)→(∃ x,zaC S st f=.ok x∧Rel S x.1 (ax s f).1∧x.2=(ax s f).2)∨(zaC S st f=.er true∧Big (ax s f).1)
 | .plain z,st,s,F,r,L,G,pl=>by
  simp only[zaC,ax]
  unfold zcg zaW
  rw[r.a,if_neg (by rw[show zaK z=true from G];decide)]
  by_cases c:.plain z∈st.A
  ·rw[if_pos c,if_pos c]
   exact .inl ⟨_,rfl,⟨r.t,rfl,r.r,r.k⟩,rfl⟩
  ·rw[if_neg c,if_neg c]
   by_cases d:40≤st.A.length
   ·rw[if_pos d]
    exact .inr ⟨rfl,.inr (.inl (by show 40 < (st.A++[_]).length;simp;omega))⟩
   ·rw[if_neg d]
    exact .inl ⟨_,rfl,⟨r.t,rfl,r.r,r.k⟩,rfl⟩
 | .bare z,st,s,F,r,L,G,pl=>by
  simp only[zaC,ax]
  rcases zhE F W r with ⟨x,e,rx,ex⟩ | ⟨e,b⟩
  ·rw[e,Rl.okb,←ex]
   rcases zgb rx [[if z="always" then(x.2:Int) else -(x.2:Int)]] with ⟨y,e2,ry,ey⟩ | ⟨e2,b2⟩
   ·exact .inl ⟨y,e2,ry,ey⟩
   ·exact .inr ⟨e2,b2⟩
  ·rw[e,Rl.erb]
   exact .inr ⟨rfl,b.mono (zbd _ _)⟩
 | .same a b,st,s,F,r,L,G,pl=>by
  simp only[zaC,ax]
  rw[r.t,r.a]
  rcases zfu [a,b] (T:=st.T) (by simp only[zc5];exact⟨G.1,G.2,trivial⟩) F.t with e | ⟨e,l⟩
  ·rw[e,Rl.okb]
   rcases ziP st.A ((aF st.T [a,b]).2.getD 0 0) ((aF st.T [a,b]).2.getD 1 0) with e2 | ⟨e2,l2,l3⟩
   ·rw[e2,Rl.okb]
    exact .inl ⟨_,rfl,⟨rfl,rfl,r.r,r.k⟩,rfl⟩
   ·rw[e2,Rl.erb]
    exact .inr ⟨rfl,.inr (.inl (by dsimp only;omega))⟩
  ·rw[e,Rl.erb]
   exact .inr ⟨rfl,.inl l⟩
 | .unlike ts,st,s,F,r,L,G,pl=>by
  simp only[zaC,ax,nUnl]
  unfold zfC
  dsimp only
  rw[r.t,r.a]
  rcases zfu ts (T:=st.T) (zi0 G) F.t with e | ⟨e,l⟩
  ·have al:=zbG F.t _ e
   rw[e,Rl.okb]
   have k5:(aF st.T ts).2.length≤5:=by have:=L.2.2;omega
   rcases zh4 (aF st.T ts).2 F.a with e2 | ⟨e2,l2⟩
   ·rw[e2,Rl.okb]
    have sm:=zd5 e2 F.a
    have F2:=F.more al.1 sm.1
    have r2:Rel S ⟨(aF st.T ts).1,(zaA st.A (aF st.T ts).2).1,st.R,st.tr⟩ ⟨(aF st.T ts).1,(zaA st.A (aF st.T ts).2).1,s.R,s.tk⟩:=⟨rfl,rfl,r.r,r.k⟩
    generalize zaA st.A (aF st.T ts).2=y at *
    unfold zfB
    rcases zhE F2 W r2 with ⟨x,e3,rx,ex⟩ | ⟨e3,b3⟩
    ·rw[e3,Rl.okb,←ex]
     have p1:=zgb rx (y.2.map fun u=>[-(x.2:Int),-u])
     unfold zcY at p1
     rcases p1 with ⟨v,e4,rv,ev⟩ | ⟨e4,b4⟩
     ·obtain⟨R,e5,e6⟩:=Rl.bind_ok e4
      rw[e5,Rl.okb]
      cases e6
      have p2:=zgb (z:=(⟨x.1.T,x.1.A,R,x.1.tr⟩,x.2)) rv [(x.2:Int) :: y.2]
      unfold zcY at p2
      rcases p2 with ⟨u,e7,ru,eu⟩ | ⟨e7,b7⟩
      ·exact .inl ⟨u,e7,ru,eu⟩
      ·exact .inr ⟨e7,b7⟩
     ·cases e5:zbN x.1.R (y.2.map fun u=>[-(x.2:Int),-u]) with
      | ok R=>rw[e5]at e4;cases e4
      | er b =>
       rw[e5]at e4
       cases e4
       rw[Rl.erb]
       exact .inr ⟨rfl,b4.mono (zbd _ _)⟩
    ·rw[e3,Rl.erb]
     exact .inr ⟨rfl,(b3.mono (zbd _ _)).mono (zbd _ _)⟩
   ·rw[e2,Rl.erb]
    refine .inr ⟨rfl,Big.mono (s:=⟨(aF st.T ts).1,(zaA st.A (aF st.T ts).2).1,s.R,s.tk⟩) (.inr (.inl l2)) (zgK _ ?_)⟩
    rw[(zcs _ _).2.2]
    exact tri5 k5
  ·rw[e,Rl.erb]
   have k5:(aF st.T ts).2.length≤5:=by have:=(zbV ts st.T).2.2;have:=L.2.2;omega
   refine .inr ⟨rfl,Big.mono (s:=⟨(aF st.T ts).1,(zaA st.A (aF st.T ts).2).1,s.R,s.tk⟩) (.inl l) (zgK _ ?_)⟩
   rw[(zcs _ _).2.2]
   exact tri5 k5
 | .not f,st,s,F,r,L,G,pl=>by
  simp only[zaC,ax]
  rcases zfq W f F r L G pl with ⟨x,e,rx,ex⟩ | ⟨e,b⟩
  ·rw[e,Rl.okb]
   exact .inl ⟨_,rfl,rx,by rw[←ex]⟩
  ·rw[e,Rl.erb]
   exact .inr ⟨rfl,b⟩
 | .bin k f g,st,s,F,r,L,G,pl=>by
  simp only[zaC,ax]
  have plf:∀ z∈plF f,z∈S:=fun z hz=>pl z (by simp [plF,hz])
  have plg:∀ z∈plF g,z∈S:=fun z hz=>pl z (by simp [plF,hz])
  rcases zfq W f F r L.1 G.1 plf with ⟨x,e,rx,ex⟩ | ⟨e,b⟩
  ·rw[e,Rl.okb]
   have F1:=(zb2 W F L.1 plf e).1
   rcases zfq W g F1 rx L.2 G.2 plg with ⟨y,e2,ry,ey⟩ | ⟨e2,b2⟩
   ·rw[e2,Rl.okb]
    have F2:=(zb2 W F1 L.2 plg e2).1
    rcases zhE F2 W ry with ⟨z,e3,rz,ez⟩ | ⟨e3,b3⟩
    ·rw[e3,Rl.okb,←ez,←ex,←ey]
     rcases zgb rz (prF k (z.2:Int) x.2 y.2) with ⟨u,e4,ru,eu⟩ | ⟨e4,b4⟩
     ·exact .inl ⟨u,e4,ru,eu⟩
     ·exact .inr ⟨e4,b4⟩
    ·rw[e3,Rl.erb]
     exact .inr ⟨rfl,b3.mono (zbd _ _)⟩
   ·rw[e2,Rl.erb]
    exact .inr ⟨rfl,(b2.mono (zcJ _)).mono (zbd _ _)⟩
  ·rw[e,Rl.erb]
   exact .inr ⟨rfl,((b.mono (zci g _ L.2)).mono (zcJ _)).mono (zbd _ _)⟩
theorem zgI {S:List Str} (W:Few S):∀(fs:List Fm) {st:St} {s:LS},Fit S st→Rel S st s→(∀ f∈fs,LFm f∧GFm f∧∀ z∈plF f,z∈S)→(∃ x,zbk S st fs=.ok x∧Rel S x (zaz s fs)∧Fit S x)∨(zbk S st fs=.er true∧Big (zaz s fs))
 | [],st,s,F,r,h=>.inl ⟨st,rfl,r,F⟩
 | f :: fs,st,s,F,r,h=>by
  obtain⟨L,G,pl⟩:=h f (by simp)
  have h':∀ g∈fs,LFm g∧GFm g∧∀ z∈plF g,z∈S:=fun g hg=>h g (List.mem_cons_of_mem _ hg)
  simp only[zbk,zaz]
  rcases zfq W f F r L G pl with ⟨x,e,rx,ex⟩ | ⟨e,b⟩
  ·rw[e,Rl.okb,←ex]
   have F1:=(zb2 W F L pl e).1
   unfold zbN
   by_cases c:x.1.R.length+[[x.2]].length≤200
   ·rw[if_pos c,Rl.okb]
    refine zgI W fs (F1.rows (by rw[List.length_append,List.length_map];exact c)) ⟨rx.t,rx.a,?_,rx.k⟩ h'
    show(ax s f).1.R++_=_
    rw[rx.r]
   ·rw[if_neg c,Rl.erb]
    refine .inr ⟨rfl,Big.mono (s:=za2 (ax s f).1 [[x.2]]) (.inr (.inr ?_)) (zeG fs _ fun g hg=>(h' g hg).1)⟩
    show 200 < ((ax s f).1.R++_).length
    rw[rx.r,List.length_append,List.length_map]
    omega
  ·rw[e,Rl.erb]
   exact .inr ⟨rfl,(b.mono (zbd _ _)).mono (zeG fs _ fun g hg=>(h' g hg).1)⟩
end K74
namespace K74
open PySem L2
open F74 (Tr Fm dTr zax dFm FOk fdp zaF zbR)
inductive Al (W:List Str):List At→List At→Prop where
 | nil:Al W [] []
 | same {a:At} {A B:List At} (h:Al W A B):Al W (a :: A) (a :: B)
 | other {y z:Str} {A B:List At} (hy:y∉W) (hz:z∉W) (h:Al W A B):Al W (.plain y :: A) (.plain z :: B)
def Asked (W:List Str) (t:At):Prop:=∀ z,t=.plain z→z∈W
theorem Al.len {W:List Str} {A B:List At} (h:Al W A B):A.length=B.length:=by
 induction h with
 | nil=>rfl
 | same _ ih=>simp [ih]
 | other _ _ _ ih=>simp [ih]
theorem Al.mem {W:List Str} {A B:List At} {t:At} (h:Al W A B) (ht:Asked W t):(t∈A↔t∈B)∧A.idxOf t=B.idxOf t:=by
 induction h with
 | nil=>exact⟨Iff.rfl,rfl⟩
 | same h ih=>exact⟨by simp [ih.1],by simp only[List.idxOf_cons,ih.2]⟩
 | @other y z A B hy hz h ih =>
  have n1:t≠.plain y:=fun e=>hy (ht y e)
  have n2:t≠.plain z:=fun e=>hz (ht z e)
  refine⟨by simp [n1,n2,ih.1],?_⟩
  have b1:((At.plain y) == t)=false:=beq_eq_false_iff_ne.mpr n1.symm
  have b2:((At.plain z) == t)=false:=beq_eq_false_iff_ne.mpr n2.symm
  simp only[List.idxOf_cons,b1,b2,ih.2]
theorem Al.app {W:List Str} {A B:List At} (h:Al W A B) {C D:List At} (k:Al W C D):Al W (A++C) (B++D):=by
 induction h with
 | nil=>exact k
 | same _ ih=>exact .same ih
 | other hy hz _ ih=>exact .other hy hz ih
theorem Al.same_l {W:List Str} {A B:List At} (h:Al W A B) (a b:Int):Al W (za0 A a b).1 (za0 B a b).1∧(za0 A a b).2=(za0 B a b).2:=by
 have m1:=h.mem (t:=.same b a) (fun z e=>by cases e)
 have m2:=h.mem (t:=.same a b) (fun z e=>by cases e)
 unfold za0
 by_cases c:.same b a∈A
 ·rw[if_pos c,if_pos (m1.1.mp c)]
  exact⟨h,by rw[m1.2]⟩
 ·rw[if_neg c,if_neg (fun e=>c (m1.1.mpr e))]
  by_cases d:.same a b∈A
  ·rw[if_pos d,if_pos (m2.1.mp d)]
   exact⟨h,by rw[m2.2]⟩
  ·rw[if_neg d,if_neg (fun e=>d (m2.1.mpr e))]
   exact⟨h.app (.same .nil),by rw[h.len]⟩
theorem Al.plain_l {W:List Str} {A B:List At} (h:Al W A B) {z:Str} (hz:z∈W):Al W (zaW A z).1 (zaW B z).1∧(zaW A z).2=(zaW B z).2:=by
 have m1:=h.mem (t:=.plain z) (fun y e=>by cases e;exact hz)
 unfold zaW
 by_cases c:.plain z∈A
 ·rw[if_pos c,if_pos (m1.1.mp c)]
  exact⟨h,by rw[m1.2]⟩
 ·rw[if_neg c,if_neg (fun e=>c (m1.1.mpr e))]
  exact⟨h.app (.same .nil),by rw[h.len]⟩
theorem Al.sm1_l {W:List Str} (a:Int):∀(bs:List Int) {A B:List At},Al W A B→Al W (zbn A a bs).1 (zbn B a bs).1∧(zbn A a bs).2=(zbn B a bs).2
 | [],A,B,h=>⟨h,rfl⟩
 | b :: bs,A,B,h=>by
  obtain⟨h1,e1⟩:=h.same_l a b
  obtain⟨h2,e2⟩:=Al.sm1_l a bs h1
  simp only[zbn]
  exact⟨h2,by rw[e1,e2]⟩
theorem Al.sames_l {W:List Str}:∀(as:List Int) {A B:List At},Al W A B→Al W (zaA A as).1 (zaA B as).1∧(zaA A as).2=(zaA B as).2
 | [],A,B,h=>⟨h,rfl⟩
 | a :: as,A,B,h=>by
  obtain⟨h1,e1⟩:=Al.sm1_l a as h
  obtain⟨h2,e2⟩:=Al.sames_l as h1
  simp only[zaA]
  exact⟨h2,by rw[e1,e2]⟩
structure Tkn (W:List Str) (s:LS) (m:Nat):Prop where
 p:∀ z,At.plain z∈s.A→z∈s.tk
 w:∀ z∈W,z∈s.tk
 f:zcb s.tk m
 b:m≤690
structure Eqv (W:List Str) (s s':LS) (m:Nat):Prop where
 t:s.T=s'.T
 r:s.R=s'.R
 a:Al W s.A s'.A
 k:Tkn W s m
 k':Tkn W s' m
theorem zh5 {tk:List Str}:∀ {n k j:Nat},aI (k+j)∉tk→j≤n→aI (lff tk n k)∉tk
 | 0,k,j,h,hj=>by
  have:j=0:=by omega
  subst this
  exact h
 | n+1,k,j,h,hj=>by
  simp only[lff]
  split
  ·next c =>
   cases j with
   | zero=>exact absurd c h
   | succ j=>exact zh5 (j:=j) (by rw[show k+1+j=k+(j+1) by omega];exact h) (by omega)
  ·next c=>exact c
theorem Tkn.free {W:List Str} {s:LS} {m:Nat} (h:Tkn W s m):aI (lff s.tk 700 0)∉s.tk:=by
 obtain⟨j,hj,free⟩:=h.f.free h.b
 have:=h.b
 exact zh5 (j:=j) (by rw[Nat.zero_add];exact free) (by omega)
theorem Tkn.new {W:List Str} {s:LS} {m:Nat} (h:Tkn W s m) (b:m+1≤690):zap s=(⟨s.T,s.A++[.plain (aI (lff s.tk 700 0))],s.R,s.tk++[aI (lff s.tk 700 0)]⟩,s.A.length+1)∧Tkn W (zap s).1 (m+1):=by
 have fr:=h.free
 have e:zap s=(⟨s.T,s.A++[.plain (aI (lff s.tk 700 0))],s.R,s.tk++[aI (lff s.tk 700 0)]⟩,s.A.length+1):=by
  unfold zap zaW
  rw[if_neg (fun z=>fr (h.p _ z))]
 refine⟨e,?_⟩
 rw[e]
 refine⟨fun z hz=>?_,fun z hz=>List.mem_append_left _ (h.w z hz),h.f.put _,b⟩
 rcases List.mem_append.mp hz with hz | hz
 ·exact List.mem_append_left _ (h.p z hz)
 ·rw[List.mem_singleton]at hz
  injection hz with hz
  rw[hz]
  simp
theorem Eqv.new {W:List Str} {s s':LS} {m:Nat} (h:Eqv W s s' m) (b:m+1≤690):Eqv W (zap s).1 (zap s').1 (m+1)∧(zap s).2=(zap s').2:=by
 obtain⟨e1,k1⟩:=h.k.new b
 obtain⟨e2,k2⟩:=h.k'.new b
 have f1:=h.k.free
 have f2:=h.k'.free
 refine⟨⟨?_,?_,?_,k1,k2⟩,?_⟩
 ·rw[e1,e2];exact h.t
 ·rw[e1,e2];exact h.r
 ·rw[e1,e2]
  exact h.a.app (.other (fun z=>f1 (h.k.w _ z)) (fun z=>f2 (h.k'.w _ z)) .nil)
 ·rw[e1,e2]
  show s.A.length+1=s'.A.length+1
  rw[h.a.len]
theorem Eqv.put {W:List Str} {s s':LS} {m:Nat} (h:Eqv W s s' m) (rs:List (List Int)):Eqv W (za2 s rs) (za2 s' rs) m :=
 ⟨h.t,by show s.R++_=s'.R++_;rw[h.r],h.a,⟨h.k.p,h.k.w,h.k.f,h.k.b⟩,⟨h.k'.p,h.k'.w,h.k'.f,h.k'.b⟩⟩
theorem zel {A:List At} {a b:Int} {z:Str} (h:.plain z∈(za0 A a b).1):.plain z∈A:=by
 unfold za0 at h
 split at h
 ·exact h
 ·split at h
  ·exact h
  ·rcases List.mem_append.mp h with h | h
   ·exact h
   ·rw[List.mem_singleton]at h;cases h
theorem zgp {a:Int} {z:Str}:∀ {bs:List Int} {A:List At},.plain z∈(zbn A a bs).1→.plain z∈A
 | [],A,h=>h
 | b :: bs,A,h=>zel (zgp (bs:=bs) h)
theorem zdV {z:Str}:∀ {as:List Int} {A:List At},.plain z∈(zaA A as).1→.plain z∈A
 | [],A,h=>h
 | a :: as,A,h=>zgp (zdV (as:=as) h)
theorem Eqv.mono {W:List Str} {s s':LS} {m n:Nat} (h:Eqv W s s' m) (l:m≤n) (b:n≤690):Eqv W s s' n:=by
 obtain⟨zs,h1,h2⟩:=h.k.f
 obtain⟨ys,h3,h4⟩:=h.k'.f
 exact⟨h.t,h.r,h.a,⟨h.k.p,h.k.w,⟨zs,by omega,h2⟩,b⟩,⟨h.k'.p,h.k'.w,⟨ys,by omega,h4⟩,b⟩⟩
theorem zd7 {W:List Str}:∀(f:Fm) {s s':LS} {m:Nat},Eqv W s s' m→m+cnt f≤690→(∀ z∈plF f,z∈W)→Eqv W (ax s f).1 (ax s' f).1 (m+cnt f)∧(ax s f).2=(ax s' f).2
 | .plain z,s,s',m,h,b,pl=>by
  have hz:=pl z (by simp [plF])
  obtain⟨h1,e1⟩:=h.a.plain_l hz
  have go:∀ {s:LS},Tkn W s m→Tkn W ⟨s.T,(zaW s.A z).1,s.R,s.tk⟩ m:=fun {s} k=>⟨fun y hy=>by
   unfold zaW at hy
   split at hy
   ·exact k.p y hy
   ·rcases List.mem_append.mp hy with hy | hy
    ·exact k.p y hy
    ·rw[List.mem_singleton]at hy
     injection hy with hy
     rw[hy]
     exact k.w z hz,k.w,k.f,k.b⟩
  exact⟨⟨h.t,h.r,h1,go h.k,go h.k'⟩,by show((zaW s.A z).2:Int)=(zaW s'.A z).2;rw[e1]⟩
 | .bare z,s,s',m,h,b,pl=>by
  obtain⟨h1,e1⟩:=h.new b
  simp only[ax]
  rw[e1]
  exact⟨h1.put _,rfl⟩
 | .same a c,s,s',m,h,b,pl=>by
  simp only[ax]
  rw[h.t]
  obtain⟨h1,e1⟩:=h.a.same_l ((aF s'.T [a,c]).2.getD 0 0) ((aF s'.T [a,c]).2.getD 1 0)
  exact⟨⟨rfl,h.r,h1,⟨fun z hz=>h.k.p z (zel hz),h.k.w,h.k.f,h.k.b⟩,⟨fun z hz=>h.k'.p z (zel hz),h.k'.w,h.k'.f,h.k'.b⟩⟩,by rw[e1]⟩
 | .unlike ts,s,s',m,h,b,pl=>by
  simp only[ax]
  unfold zfC
  dsimp only
  rw[h.t]
  obtain⟨h1,e1⟩:=Al.sames_l (aF s'.T ts).2 h.a
  have h2:Eqv W ⟨(aF s'.T ts).1,(zaA s.A (aF s'.T ts).2).1,s.R,s.tk⟩ ⟨(aF s'.T ts).1,(zaA s'.A (aF s'.T ts).2).1,s'.R,s'.tk⟩ m:=⟨rfl,h.r,h1,⟨fun z hz=>h.k.p z (zdV hz),h.k.w,h.k.f,h.k.b⟩,⟨fun z hz=>h.k'.p z (zdV hz),h.k'.w,h.k'.f,h.k'.b⟩⟩
  rw[e1]
  obtain⟨h3,e3⟩:=h2.new b
  unfold zfB
  rw[e3]
  exact⟨(h3.put _).put _,rfl⟩
 | .not f,s,s',m,h,b,pl=>by
  obtain⟨h1,e1⟩:=zd7 f h b pl
  simp only[ax]
  exact⟨h1,by rw[e1]⟩
 | .bin k f g,s,s',m,h,b,pl=>by
  simp only[cnt]at b
  obtain⟨h1,e1⟩:=zd7 f h (by omega) fun z hz=>pl z (by simp [plF,hz])
  obtain⟨h2,e2⟩:=zd7 g h1 (by omega) fun z hz=>pl z (by simp [plF,hz])
  obtain⟨h3,e3⟩:=h2.new (by omega)
  simp only[ax,cnt]
  rw[e1,e2,e3]
  exact⟨(h3.put _).mono (by omega) (by omega),rfl⟩
def zcS (fs:List Fm):Nat:=(fs.map cnt).sum
theorem zhb {W:List Str}:∀(fs:List Fm) {s s':LS} {m:Nat},Eqv W s s' m→m+zcS fs≤690→(∀ f∈fs,∀ z∈plF f,z∈W)→(zaz s fs).T.length=(zaz s' fs).T.length∧(zaz s fs).A.length=(zaz s' fs).A.length∧(zaz s fs).R.length=(zaz s' fs).R.length
 | [],s,s',m,h,b,pl=>⟨by show s.T.length=_;rw[h.t];rfl,h.a.len,by show s.R.length=_;rw[h.r];rfl⟩
 | f :: fs,s,s',m,h,b,pl=>by
  simp only[zcS,List.map_cons,List.sum_cons]at b
  obtain⟨h1,e1⟩:=zd7 f h (by omega) (pl f (by simp))
  simp only[zaz]
  rw[e1]
  exact zhb fs (h1.put _) (by simp only[zcS];omega) fun g hg=>pl g (List.mem_cons_of_mem _ hg)
end K74
namespace K74
open PySem L2
open F74 (Tr Fm dTr zax dFm FOk fdp zaF zbR)
structure Exm (K:W.Frag) (mg:Str→Option Value) (CE CN CM:Addr):Prop where
 ce:mg "ChoiceError"=some (.ref CE)
 mm:W.exmOne K (.ref CM) (.ref CM)=some true
 nm:W.exmOne K (.ref CN) (.ref CM)=some false
 nn:W.exmOne K (.ref CN) (.ref CN)=some true
 pe:W.exmOne K (.ref CN) (.ref CE)=some true
 kv:W.kitOne K (.ref CN) (.type "ValueError")=some true
 v:mg "ValueError"=none
 ne:CN≠CE
theorem zjq {K:W.Frag} {D:Addr} (h:W.kitOne K (.ref D) (.type "ValueError")=some true):W.kitCls K (.ref D) (.type "ValueError")=some true:=by
 unfold W.kitOne at h
 rw[if_neg (show ¬(Value.ref D == Value.type "ValueError")=true from by intro z;cases z)]at h
 exact h
theorem zjw {K:W.Frag} {D C:Addr} (h:W.exmOne K (.ref D) (.ref C)=some true):W.kitCls K (.ref D) (.ref C)=some true:=by
 unfold W.exmOne at h
 split at h
 ·exact h
 ·cases h
def rIsiC (K:W.Frag):List V→Hp→VK→Prop:=fun xs H Q=>∃ ea C C1,xs=[.ref ea,.ref C1]∧H ea=some (.ext (zcV ea C))∧C≠C1∧W.kitCls K (.ref C) (.ref C1)=some true∧Q (.bl true) H
theorem zkx {X:Cx}:zbW X (.builtin "isinstance") (rIsiC X.K):=by
 intro pins s σ H xs us Q I r h
 obtain⟨ea,C,C1,rfl,hH,hn,hk,q⟩:=h
 obtain⟨u,w',rfl,rx,ry⟩:=zi2 r
 cases (show w'=Value.ref C1 from ry)
 cases (show u=Value.ref ea from rx)
 obtain⟨⟨oe,he,hcl⟩,_⟩:=I.hok ea _ hH
 have LT:W.Looks (model X.prog X.w) s.heap (typeOf (.ref ea)) (.ref C):=hcl ▸ (W.Looks.ld he).andThen .now
 exact ziT LT I.kIn (by simpa using hn) hk ⟨.bl true,H,I,rfl,q⟩
def szs (fs:List Fm):Nat:=(fs.map fun f=>szF f+1).sum
structure FsOk (fs:List Fm) (m:Nat):Prop where
 ok:∀ g∈fs,FOk g∧LFm g∧fdp g≤12
 pl:(aL fs).length≤100000
 sz:szs fs≤400000
 fw:zcb (aL fs) m
 ct:m+zcS fs≤690
def ls0 (fs:List Fm):LS:=⟨[],[],[],aL fs⟩
theorem zhc:∀(xs ys:List Fm) (s:LS),zaz s (xs++ys)=zaz (zaz s xs) ys
 | [],ys,s=>rfl
 | f :: xs,ys,s=>by simp only[List.cons_append,zaz,zhc xs ys]
theorem zjp {fs:List Fm} {i:Nat} {f:Fm} (h:fs[i]?=some f) (s:LS):zaz s (fs.take (i+1))=za2 (ax (zaz s (fs.take i)) f).1 [[(ax (zaz s (fs.take i)) f).2]]:=by
 rw[zbP h,zhc]
 rfl
theorem zha:∀(fs:List Fm) {s:LS} {m:Nat},zcb s.tk m→zcb (zaz s fs).tk (m+zcS fs)
 | [],s,m,h=>h
 | f :: fs,s,m,h=>by
  have h1:=zcQ f h
  have h2:=zha fs (s:=za2 (ax s f).1 [[(ax s f).2]]) h1
  simp only[zcS,List.map_cons,List.sum_cons,zaz]at h2 ⊢
  rw[←Nat.add_assoc]
  exact h2
theorem zfK {α:Type} (g:α→Nat):∀(fs:List α) {i:Nat} {f:α},fs[i]?=some f→((fs.take i).map g).sum+g f≤(fs.map g).sum
 | [],i,f,h=>by simp at h
 | x :: fs,0,f,h=>by
  simp at h
  subst h
  simp
 | x :: fs,i+1,f,h=>by
  have:=zfK g fs (i:=i) (f:=f) (by simpa using h)
  simp only[List.take_succ_cons,List.map_cons,List.sum_cons]
  omega
section
variable {P:Program} {w:World} {K:W.Frag} {mg:Str→Option Value} {base:Heap} {aK aO C CN CT CP CM CZ CE:Addr} {f fR' fA' fP' fN:Addr} {fd dR'' dA'' dP' dN:FuncData}
def zc8 (K:W.Frag):Sp:=fun vs H Q _=>∃(l:Addr) (xs:List V) (fs:List Fm) (m:Nat),vs=[.ref l]∧H l=some (.lst xs)∧HasL K H (fs.map dFm) xs∧FsOk fs m ∧
 ∀(H':Hp) (dh tl al rl tk:Addr),ap H H'→zay K H' dh tl al rl tk (zaz (ls0 fs) fs)→H tl=none→H al=none→H rl=none→H tk=none→Q (.ref dh) H'
theorem zb7:zac ["_law_formulas_here","_law_due_here","_law_taken_here","_law_formula"] ["_law_formulas_here"] (aj zeR):=⟨rfl,rfl,rfl,by decide +kernel,rfl,by decide +kernel,by decide +kernel⟩
set_option maxHeartbeats 1000000 in
theorem zlx (F:Fun K "_law_due" "_law_due" zeR f fd) (BT:FB P w K mg base CX0 13 "_law_taken" fA' dA'' ["_law_formula"] (zg1 K 12)) (BP:FB P w K mg base CX0 18 "_law_part" fP' dP' ["_law_due_here","_law_formula","_law_taken_here"] (zhP K 12)) (BR:FB P w K mg base CX0 1 "_law_put" fR' dR'' ["_law_due_here","_law_row"] (zc7 K)):FnOk P w K mg base CX0 19 f fd ["_law_formulas_here"] (zc8 K):=by
 refine F.ok zb7 (fun vs H Q E h=>?_) (fun cdv A outer s H vs Q E hr h=>?_)
 ·obtain⟨l,xs,fs,m,rfl,_⟩:=h
  rfl
 obtain⟨l,xs,fs,m,rfl,hl,hx,O,q⟩:=h
 have hr1:aH 1 _:=hr.mono (by decide)
 have hr13:aH 13 _:=hr.mono (by decide)
 refine⟨_,(ae (az (i:=1) zb7.nd rfl (Or.inl rfl) (zae (aa (zag ac) (aa (zag ac) (aa (zag ac) ac)))))
  (ae (az (i:=2) zb7.nd rfl (Or.inl rfl) (zag ac))
  (ae (zbp PassesOwn.never rfl (zbJ (pv 0)) (zaO (i:=3) zb7.nd rfl (Or.inl rfl))
   (ai (az (i:=2) zb7.nd rfl (Or.inl rfl) (aw zbO (pv 2) (aq BT.ok hr13 rfl BT.m BT.kp BT.b .nil aJ (aa (pv 3) ac))))))
  (ae (zbp PassesOwn.never rfl (zbJ (pv 0)) (zaO (i:=3) zb7.nd rfl (Or.inl rfl))
   (ai (zau (aq BR.ok hr1 rfl BR.m BR.kp BR.b .nil aJ (aa (pv 1) (aa (zae (aa (aq BP.ok hr rfl BP.m BP.kp BP.b .nil aJ (aa (pv 1) (aa (pv 3) (aa (pv 2) ac)))) ac)) ac))))))
  (ai (ay (pv 1))))))),?_⟩
 refine⟨lS0,fun tl htl=>⟨lS0,fun al hal=>⟨lS0,fun rl hrl=>⟨lS3,fun dh hdh=>?_⟩⟩⟩⟩
 have s1:=ah htl (.lst [])
 have n1:=ad (H:=H) (a:=tl) (o:=.lst [])
 generalize upd H tl (.lst [])=H1 at s1 n1 hal hrl hdh
 have s2:=ah hal (.lst [])
 have n2:=ad (H:=H1) (a:=al) (o:=.lst [])
 generalize upd H1 al (.lst [])=H2 at s2 n2 hrl hdh
 have s3:=ah hrl (.lst [])
 have n3:=ad (H:=H2) (a:=rl) (o:=.lst [])
 generalize upd H2 rl (.lst [])=H3 at s3 n3 hdh
 have s4:=ah hdh (.tup [V.ref tl,.ref al,.ref rl])
 have n4:=ad (H:=H3) (a:=dh) (o:=.tup [V.ref tl,.ref al,.ref rl])
 generalize upd H3 dh (.tup [V.ref tl,.ref al,.ref rl])=H4 at s4 n4
 have fal:H al=none:=s1.free hal
 have frl:H rl=none:=s1.free (s2.free hrl)
 have e1:al≠tl:=fun z=>by rw[z,n1]at hal;cases hal
 have e2:rl≠tl:=fun z=>by rw[z,s2 _ _ n1]at hrl;cases hrl
 have e3:rl≠al:=fun z=>by rw[z,n2]at hrl;cases hrl
 have s04:=((s1.trans s2).trans s3).trans s4
 refine⟨lS0,fun t0 ht0=>?_⟩
 have s5:=ah ht0 (.lst [])
 have n5:=ad (H:=H4) (a:=t0) (o:=.lst [])
 generalize upd H4 t0 (.lst [])=H5 at s5 n5
 have xl:xs.length=fs.length:=by rw[←hx.length,List.length_map]
 have T4:H4 tl=some (.lst []):=s4 _ _ (s3 _ _ (s2 _ _ n1))
 have A4:H4 al=some (.lst []):=s4 _ _ (s3 _ _ n2)
 have R4:H4 rl=some (.lst []):=s4 _ _ n3
 refine⟨_,rfl,l,rfl,⟨_,SqL.of (s5 _ _ (s04 _ _ hl))⟩,zcW zbI (fun i σ H'=>ap H4 H'∧∃(tk:Addr) (v3:Option V),σ=[some (.ref l),some (.ref dh),some (.ref tk),v3]∧H4 tk=none∧H' tk=some (.lst ((aL (fs.take i)).map V.str))) (fun i σ H' h=>SqL.of ((s04.trans h.1) _ _ hl)) ⟨s5,t0,none,rfl,ht0,n5⟩ ?_ ?_⟩
 ·rintro i σ H6 x H7 hi ⟨s6,tk,v3,rfl,ntk,htk⟩ ⟨rfl,hy⟩
  have s06:=s04.trans s6
  obtain⟨g,hg,hxg⟩:=F74.fms_get (hx.keep s06.kt (F74.nols_fms _)) (hy _ (SqL.of (s06 _ _ hl)))
  have gm:=List.mem_of_getElem? hg
  have pl:=zfo fs (i+1)
  rw[zcM hg,List.length_append]at pl
  have opl:=O.pl
  refine⟨_,rfl,_,rfl,x,g,rfl,hxg,(O.ok g gm).1,(O.ok g gm).2.2,by omega,fun H8 l8 s8 n8 hl8=>?_⟩
  refine⟨tk,l8,_,_,rfl,rfl,s8 _ _ htk,hl8,szB (by rw[List.length_map,List.length_map];omega),fun t9 ht9=>?_⟩
  refine⟨(s6.trans s8).trans (ah ht9 _),t9,_,rfl,s6.free (s8.free ht9),?_⟩
  rw[zcM hg,List.map_append,ad]
 ·rintro σ H6 ⟨s6,tk,v3,rfl,ntk,htk⟩
  rw[xl,List.take_length]at htk
  have s06:=s04.trans s6
  have k1:tk≠tl:=fun z=>by rw[z,T4]at ntk;cases ntk
  have k2:tk≠al:=fun z=>by rw[z,A4]at ntk;cases ntk
  have k3:tk≠rl:=fun z=>by rw[z,R4]at ntk;cases ntk
  have D6:zay K H6 dh tl al rl tk (ls0 fs):=⟨SqT.of (s6 _ _ n4),⟨[],s6 _ _ T4,.nil⟩,⟨[],s6 _ _ A4,.nil⟩,⟨[],s6 _ _ R4,.nil⟩,htk,e1,e2,e3,k1,k2,k3⟩
  have ftk:H tk=none:=s04.free ntk
  have sm:∀ {H':Hp},FrD H6 H' tl al rl tk→ap H H':=fun f' b o e=>f' _ _ (s06 _ _ e) (zaa e htl) (zaa e fal) (zaa e frl) (zaa e ftk)
  have M0:M (ls0 fs)=(aL fs).length:=by simp [M,ls0]
  refine⟨_,rfl,l,rfl,⟨_,SqL.of (s06 _ _ hl)⟩,zcW zbI (fun i σ H'=>∃ v3:Option V,σ=[some (.ref l),some (.ref dh),some (.ref tk),v3]∧FrD H6 H' tl al rl tk∧zay K H' dh tl al rl tk (zaz (ls0 fs) (fs.take i))) (fun i σ H' ⟨_,_,f',_⟩=>SqL.of (sm f' _ _ hl)) ⟨_,rfl,FrD.of_same (ap.refl _),D6⟩ ?_ ?_⟩
  ·rintro i σ H8 x H9 hi ⟨v3',rfl,f8,D8⟩ ⟨rfl,hy⟩
   have s08:=sm f8
   obtain⟨g,hg,hxg⟩:=F74.fms_get (hx.keep s08.kt (F74.nols_fms _)) (hy _ (SqL.of (s08 _ _ hl)))
   have gm:=List.mem_of_getElem? hg
   obtain⟨o1,o2,o3⟩:=O.ok g gm
   have ml:=(zeG (fs.take i) (ls0 fs) fun f hf=>(O.ok f (List.mem_of_mem_take hf)).2.1).m
   have fw:=zha (fs.take i) (s:=ls0 fs) O.fw
   have st:=zfK (fun f=>szF f+1) fs hg
   have ct:=zfK cnt fs hg
   have b1:=O.pl
   have b2:=O.sz
   have b3:=O.ct
   unfold szs at b2
   unfold zcS at b3 fw
   rw[M0]at ml
   have ml2:=(zci g (zaz (ls0 fs) (fs.take i)) o2).m
   refine⟨_,rfl,_,rfl,_,rfl,_,rfl,dh,tl,al,rl,tk,_,g,x,_,rfl,D8,hxg,o1,o2,o3,by omega,fw,by omega,fun H10 D10 f10=>?_⟩
   refine⟨lS1,fun t ht=>?_⟩
   have s11:=ah ht (.tup [V.int (ax (zaz (ls0 fs) (fs.take i)) g).2])
   have n11:=ad (H:=H10) (a:=t) (o:=.tup [V.int (ax (zaz (ls0 fs) (fs.take i)) g).2])
   generalize upd H10 t (.tup [V.int (ax (zaz (ls0 fs) (fs.take i)) g).2])=H11 at s11 n11
   refine⟨dh,tl,al,rl,tk,t,_,[(ax (zaz (ls0 fs) (fs.take i)) g).2],rfl,D10.same s11,by omega,.inr (SqT.of n11),by show 1≤1000;decide,fun H12 D12 f12=>⟨_,rfl,f8.trans (f10.trans ((FrD.of_same s11).trans f12)),?_⟩⟩
   rw[zjp hg]
   exact D12
  ·rintro σ H8 ⟨v3',rfl,f8,D8⟩
   rw[xl,List.take_length]at D8
   exact⟨_,rfl,q H8 dh tl al rl tk (sm f8) D8 htl fal frl ftk⟩
def zfa (K:W.Frag) (C:Addr):Sp:=fun vs H Q _=>∃(p tl al rl dh tl' al' rl' tk:Addr) (s:LS),vs=[.ref p,.ref dh]∧zaJ K C H p tl al rl s.T s.A s.R∧zay K H dh tl' al' rl' tk s∧Q (.bl true) H
theorem zho:zac ["_law_problem","_law_due_here"] ["_law_problem","_law_due_here"] (aj zdU):=⟨rfl,rfl,rfl,by decide +kernel,rfl,by decide +kernel,by decide +kernel⟩
theorem zgf {ds:List Dt} {n:Nat} (h:zaB ds≤n):dep (.lst ds)≤n+1:=by
 simp only[dep]
 omega
theorem zkc (F:Fun K "_law_alike" "_law_alike" zdU f fd) (T:Txt K mg aK C CN CT CP CM):FnOk P w K mg base CX0 1 f fd ["_law_problem","_law_due_here"] (zfa K C):=by
 refine F.ok zho (fun vs H Q E h=>?_) (fun cdv A outer s H vs Q E hr h=>?_)
 ·obtain⟨p,tl,al,rl,dh,tl',al',rl',tk,s,rfl,_⟩:=h
  rfl
 obtain⟨p,tl,al,rl,dh,tl',al',rl',tk,s,rfl,pr,D,q⟩:=h
 have hu:=zex hr
 refine⟨_,(ai (ay (zen (zbA (zhB hu) (zaU (pv 0) rfl) (aA zaf (pv 1) ag (fun _ _=>rfl)) rfl) (zen (zbA (zhB hu) (zaU (pv 0) rfl) (aA zaf (pv 1) ag (fun _ _=>rfl)) rfl) (zeZ (zbA (zhB hu) (zaU (pv 0) rfl) (aA zaf (pv 1) ag (fun _ _=>rfl)) rfl)))))),?_⟩
 obtain⟨⟨dx,ho⟩,⟨x1,t1,u1⟩,⟨x2,t2,u2⟩,⟨x3,t3,u3⟩,_⟩:=id pr
 obtain⟨y1,v1,w1⟩:=D.tm
 obtain⟨y2,v2,w2⟩:=D.am
 obtain⟨y3,v3,w3⟩:=D.rm
 have dT':=zgf (zeM s.T)
 have dA':=zgf (zcR (n:=1) (code:=dA) (fun a=>by rw[zge];exact Nat.le_refl _) s.A)
 have dR':=zgf (zcR (n:=1) (code:=dR) (fun a=>by rw[dep_dR];exact Nat.le_refl _) s.R)
 refine⟨_,rfl,p,C,dx,_,_,rfl,ho,T.cl,T.nT,zdt _ _ _,_,rfl,dh,_,_,_,rfl,rfl,D.tp,zd1 _ _ _,_,_,Has.lst' (SqL.of t1) u1,Has.lst' (SqL.of v1) w1,by omega,_,rfl,?_⟩
 rw[zbt]
 refine zc1 ⟨_,rfl,p,C,dx,_,_,rfl,ho,T.cl,T.nA,zct _ _ _,_,rfl,dh,_,_,_,rfl,rfl,D.tp,zce _ _ _,_,_,Has.lst' (SqL.of t2) u2,Has.lst' (SqL.of v2) w2,by omega,_,rfl,?_⟩
 rw[zbt]
 refine zc1 ⟨_,rfl,p,C,dx,_,_,rfl,ho,T.cl,T.nR,zea _ _ _,_,rfl,dh,_,_,_,rfl,rfl,D.tp,zeA _ _ _,_,_,Has.lst' (SqL.of t3) u3,Has.lst' (SqL.of v3) w3,by omega,?_⟩
 rw[zbt]
 exact q
def zep (K:W.Frag):Sp:=fun vs H Q _=>∃(l:Addr) (xs:List V) (fs:List Fm),vs=[.ref l]∧H l=some (.lst xs)∧HasL K H (fs.map dFm) xs∧(∀ g∈fs,FOk g∧LFm g∧fdp g≤12)∧(aL fs).length≤100000∧Few (aL fs)∧zbk (aL fs) st0 fs=.er false∧∀ H',ap H H'→Q (.str "name") H'
theorem zec:zac ["_law_formulas_here","e"] ["_law_formulas_here"] (aj zdc):=⟨rfl,rfl,rfl,by decide +kernel,rfl,by decide +kernel,by decide +kernel⟩
theorem zlu (F:Fun K "_law_refused" "_law_refused" zdc f fd) (T:Txt K mg aK C CN CT CP CM) (TF:F74.Txt K mg aK aO) (X:Exm K mg CE CN CM) (BN:FB P w K mg base (CX1 P w) 35 "named" fN dN ["formulas"] (zdK K C CN CM)):FnOk P w K mg base CX0 36 f fd ["_law_formulas_here"] (zep K):=by
 refine F.ok zec (fun vs H Q E h=>?_) (fun cdv A outer s H vs Q E hr h=>?_)
 ·obtain⟨l,xs,fs,rfl,_⟩:=h
  rfl
 obtain⟨l,xs,fs,rfl,hl,hx,ok,big,few,er,q⟩:=h
 refine⟨_,ae (ps_try rfl rfl (fun pins E1 Eb hp=>ai (zau (aq BN.ok hr rfl BN.m BN.kp BN.b .nil hp (aa (pv 0) ac))))
  (ziK rfl T.bmany (fun ea=>ai (ay au)) (ph_as (i:=1) rfl T.bname zec.nd rfl rfl rfl (fun ea=>ai (ay (aA (r:=rIxL K) zaT (zag (aa au (aa au ac))) (za7 zfj rfl TF.int PyProof.Rows.Boot.int (aa (zen (zam (r:=rIsiC K) zkx rfl T.isi PyProof.Rows.Boot.isinstance (aa (pv 1) (aa (zbc (v:=.ref CE) rfl X.ce rfl) ac))) (zeZ (zam (r:=rIsiE K) zkw rfl T.isi PyProof.Rows.Boot.isinstance (aa (pv 1) (aa (zlp (v:=.ty "ValueError") rfl X.v PyProof.Rows.Boot.ValueError rfl) ac))))) ac)) (fun _ _=>rfl)))) zhW))) (ai (ay au)),?_⟩
 refine⟨_,rfl,l,xs,fs,rfl,hl,hx,ok,big,few,(fun st e=>by rw[er]at e;cases e),fun b eb H' s'=>?_⟩
 rw[er]at eb
 cases eb
 refine⟨CN,rfl,fun σ1 h4=>⟨false,X.nm,zeX ⟨true,X.nn,zc1 fun ea hea=>?_⟩⟩⟩
 have hg:(σ1.set 1 (some (V.ref ea)))[1]?=some (some (V.ref ea)):=List.getElem?_set_self (by rw[h4];show 1 < 2;decide)
 have s2:ap H' (upd H' ea (.ext (zcV ea CN))):=ah hea _
 have n2:=ad (H:=H') (a:=ea) (o:=.ext (zcV ea CN))
 generalize upd H' ea (.ext (zcV ea CN))=H2 at s2 n2
 refine⟨lS2,fun b1 hb1=>?_⟩
 have s3:=ah hb1 (.lst [V.str "other",V.str "name"])
 have n3:=ad (H:=H2) (a:=b1) (o:=.lst [V.str "other",V.str "name"])
 generalize upd H2 b1 (.lst [V.str "other",V.str "name"])=H3 at s3 n3
 exact⟨_,hg,ea,CN,CE,rfl,s3 _ _ n2,X.ne,zjw X.pe,_,rfl,zc1 ⟨_,hg,ea,CN,"ValueError",rfl,s3 _ _ n2,zjq X.kv,.inr ⟨_,rfl,b1,_,_,_,rfl,rfl,SqL.of n3,zah (j:=1) rfl,q _ ((s'.trans s2).trans s3)⟩⟩⟩
end
end K74
namespace K74
open PySem L2
open F74 (Tr Fm dTr zax dFm FOk fdp zaF zbR)
theorem zg8 {S:List Str}:∀(xs ys:List Fm) (st:St),zbk S st (xs++ys)=(zbk S st xs).bind fun st'=>zbk S st' ys
 | [],ys,st=>rfl
 | f :: xs,ys,st=>by
  simp only[List.cons_append,zbk,zg8 xs ys,Rl.bind_assoc]
inductive zdD (w:Str):Fm→Prop where
 | p:zdD w (.plain w)
 | s:zdD w (.same (.node "b" []) (.node w []))
 | n:zdD w (.not (.plain w))
 | u:zdD w (.unlike [.node "b" [],.node "c" [.node w []]])
theorem zhl (T:List Tm) (n:Str):zcu T (.node n [])=zc0 T n []:=by
 simp only[zcu,zaL,Rl.okb]
theorem nAdd_b {T:List Tm} {n:Str} (hn:zaK n=true) (h:T.length≤56):∃ x,zc0 T n []=.ok x:=by
 unfold zc0
 rw[if_neg (by rw[hn];decide)]
 split
 ·exact⟨_,rfl⟩
 ·rw[if_neg (by omega)]
  exact⟨_,rfl⟩
theorem zjM {T:List Tm} {w:Str} (hw:zaK w=false):zc0 T w []=.er false:=by
 unfold zc0
 rw[if_pos hw]
theorem b_name:zaK "b"=true:=by decide +kernel
theorem zk5 {S:List Str} {st:St} {w:Str} {g:Fm} (hw:zaK w=false) (h:zdD w g) (t:st.T.length≤56):zaC S st g=.er false:=by
 have pl:zcg st.A w=.er false:=by
  unfold zcg
  rw[if_pos hw]
 obtain⟨x,ex⟩:=nAdd_b (T:=st.T) b_name t
 cases h with
 | p=>simp only[zaC,pl,Rl.erb]
 | n=>simp only[zaC,pl,Rl.erb]
 | s=>simp only[zaC,zaL,zhl,ex,Rl.okb,zjM hw,Rl.erb]
 | u =>
  have e2:zcu x.1 (.node "c" [.node w []])=.er false:=by simp only[zcu,zaL,Rl.okb,zjM hw,Rl.erb]
  simp only[zaC,nUnl,zaL,zhl,ex,Rl.okb,e2,Rl.erb]
theorem zdD.ok {w:Str} {g:Fm} (h:zdD w g) (lw:Low w):FOk g∧LFm g∧fdp g≤12∧(∀ z∈plF g,z=w)∧(plF g).length≤1:=by
 have lb:Low "b":=⟨by decide +kernel,by decide +kernel⟩
 have lc:Low "c":=⟨by decide +kernel,by decide +kernel⟩
 cases h with
 | p=>exact⟨trivial,lw,by simp [fdp],fun z hz=>by simpa [plF] using hz,by simp [plF]⟩
 | n=>exact⟨trivial,lw,by simp [fdp],fun z hz=>by simpa [plF] using hz,by simp [plF]⟩
 | s =>
  refine⟨⟨by decide,by simp only[F74.dp,F74.dps];decide⟩,⟨?_,?_⟩,by simp [fdp],fun z hz=>(nomatch hz),by simp [plF]⟩
  ·simp only[LTr,zdC];exact⟨lb,by decide,trivial⟩
  ·simp only[LTr,zdC];exact⟨lw,by decide,trivial⟩
 | u =>
  refine⟨fun t ht=>?_,⟨fun t ht=>?_,by simp,by simp⟩,by simp [fdp],fun z hz=>(nomatch hz),by simp [plF]⟩
  ·simp only[List.mem_cons,List.not_mem_nil,or_false]at ht
   rcases ht with rfl | rfl <;> simp only[F74.dp,F74.dps] <;> decide
  ·simp only[List.mem_cons,List.not_mem_nil,or_false]at ht
   rcases ht with rfl | rfl
   ·simp only[LTr,zdC];exact⟨lb,by decide,trivial⟩
   ·simp only[LTr,zdC];exact⟨lc,by simp,⟨lw,by decide,trivial⟩,trivial⟩
structure zc4 (fs:List Fm):Prop where
 o:FsOk fs 4
 g:∀ f∈fs,GFm f
 c:zcS fs≤600
theorem zfS (a b:List Fm):aL (a++b)=aL a++aL b:=List.flatMap_append
theorem zes {fs:List Fm} {f:Fm} {z:Str} (hf:f∈fs) (hz:z∈plF f):z∈aL fs:=List.mem_flatMap.mpr ⟨f,hf,hz⟩
theorem zdf {α:Type} (g:α→Nat) (fs:List α) (i:Nat):((fs.take i).map g).sum≤(fs.map g).sum:=by
 have e:(fs.map g).sum=((fs.take i).map g).sum+((fs.drop i).map g).sum:=by
  conv=>lhs;rw[←List.take_append_drop i fs]
  rw[List.map_append,List.sum_append]
 omega
theorem FsOk.take {fs:List Fm} {m:Nat} (h:FsOk fs m) (i:Nat):FsOk (fs.take i) m:=by
 have h1:=h.pl
 have h2:=h.sz
 have h3:=h.ct
 have e1:=zfo fs i
 have e2:=zdf (fun f=>szF f+1) fs i
 have e3:=zdf cnt fs i
 unfold szs at h2
 unfold zcS at h3
 obtain⟨zs,l,hz⟩:=h.fw
 refine⟨fun g hg=>h.ok g (List.mem_of_mem_take hg),by omega,by unfold szs;omega,⟨zs,l,fun z hz'=>hz z ?_⟩,by unfold zcS;omega⟩
 obtain⟨f,hf,hzf⟩:=List.mem_flatMap.mp hz'
 exact zes (List.mem_of_mem_take hf) hzf
theorem bad_er {fs:List Fm} {w:Str} {g:Fm} {i:Nat} (G:zc4 fs) (hw:zaK w=false) (h:zdD w g) (lw:Low w)
  (s1:(zaz (ls0 (fs.take i)) (fs.take i)).T.length≤56) (s2:(zaz (ls0 (fs.take i)) (fs.take i)).A.length≤36) (s3:(zaz (ls0 (fs.take i)) (fs.take i)).R.length≤196) :
  let ws:=fs.take i++[g]++fs.drop i
  (∀ f∈ws,FOk f∧LFm f∧fdp f≤12)∧(aL ws).length≤(aL fs).length+1∧Few (aL ws)∧zbk (aL ws) st0 ws=.er false:=by
 intro ws
 obtain⟨o1,o2,o3,o4,o5⟩:=h.ok lw
 obtain⟨zs,l4,hz⟩:=G.o.fw
 have mem:∀ f∈ws,f∈fs∨f=g:=fun f hf=>by
  rcases List.mem_append.mp hf with hf | hf
  ·rcases List.mem_append.mp hf with hf | hf
   ·exact .inl (List.mem_of_mem_take hf)
   ·exact .inr (List.mem_singleton.mp hf)
  ·exact .inl (List.mem_of_mem_drop hf)
 have words:∀ z∈aL ws,z∈w :: zs:=fun z hz'=>by
  obtain⟨f,hf,hzf⟩:=List.mem_flatMap.mp hz'
  rcases mem f hf with hf | rfl
  ·exact List.mem_cons_of_mem _ (hz z (zes hf hzf))
  ·rw[o4 z hzf];simp
 have few:Few (aL ws):=⟨w :: zs,by simp only[List.length_cons];omega,words⟩
 have pin:∀ f∈fs.take i,∀ z∈plF f,z∈aL ws:=fun f hf z hzf=>zes (List.mem_append_left _ (List.mem_append_left _ hf)) hzf
 have pl:(aL ws).length≤(aL fs).length+1:=by
  have e:aL fs=aL (fs.take i)++aL (fs.drop i):=by rw[←zfS,List.take_append_drop]
  have e2:aL ws=aL (fs.take i)++plF g++aL (fs.drop i):=by
   show aL (fs.take i++[g]++fs.drop i)=_
   rw[zfS,zfS]
   simp [aL]
  rw[e,e2,List.length_append,List.length_append,List.length_append]
  omega
 refine⟨fun f hf=>?_,pl,few,?_⟩
 ·rcases mem f hf with hf | rfl
  ·exact G.o.ok f hf
  ·exact⟨o1,o2,o3⟩
 have ct:=(G.o.take i).ct
 obtain⟨ys,yl,hy⟩:=(G.o.take i).fw
 have eq:=zhb (W:=aL (fs.take i)) (fs.take i) (s:=⟨[],[],[],aL ws⟩) (s':=ls0 (fs.take i)) (m:=5)
  ⟨rfl,rfl,.nil,⟨fun z hz=>(nomatch hz),fun z hz=>by
   obtain⟨f,hf,hzf⟩:=List.mem_flatMap.mp hz
   exact pin f hf z hzf,⟨w :: zs,by simp only[List.length_cons];omega,words⟩,by decide⟩,⟨fun z hz=>(nomatch hz),fun z hz=>hz,⟨ys,by omega,hy⟩,by decide⟩⟩ (by have:=G.c;have:=zdf cnt fs i;unfold zcS at *;omega) fun f hf z hz=>zes hf hz
 have e0:ws=fs.take i++([g]++fs.drop i):=List.append_assoc _ _ _
 have e1:zbk (aL ws) st0 ws=(zbk (aL ws) st0 (fs.take i)).bind fun st'=>zbk (aL ws) st' ([g]++fs.drop i):=by
  conv=>lhs;arg 3;rw[e0]
  exact zg8 _ _ _
 rcases zgI few (fs.take i) (st:=st0) (s:=⟨[],[],[],aL ws⟩) (fit0 _) ⟨rfl,rfl,rfl,⟨fun j hj=>absurd hj (Nat.not_lt_zero _),fun z hz=>hz,fun z hz=>.inl hz⟩⟩ (fun f hf=>⟨(G.o.ok f (List.mem_of_mem_take hf)).2.1,G.g f (List.mem_of_mem_take hf),pin f hf⟩) with ⟨x,ex,rx,fx⟩ | ⟨_,b⟩
 ·rw[e1,ex,Rl.okb,List.singleton_append]
  have tx:x.T.length≤56:=by
   rw[←rx.t]
   omega
  simp only[zbk,zk5 hw h tx,Rl.erb]
 ·exfalso
  rcases b with b | b | b <;> omega
def badW:List Str:=["or","ninelettr","","B","not","a b"]
theorem zky:∀ w∈badW,zaK w=false∧w.length≤100∧∀ c∈w.cps.toList,c < 1000:=by decide +kernel
theorem zlK {i:Int} (h0:0≤i) (h1:i < 6):∃ w,atI (badW.map V.str) i=some (.str w)∧zaK w=false∧Low w:=by
 obtain⟨w,hw,e⟩:=F74.strs_at (zs:=badW) (i:=i.toNat) (by show i.toNat < 6;omega)
 obtain⟨b1,b2,b3⟩:=zky w hw
 exact⟨w,by rw[show i=((i.toNat:Nat):Int) by omega];exact e,b1,b2,b3⟩
theorem zfW (xs:List V) (m:Nat) (h:m≤xs.length):zbx xs none (some (m:Int))=xs.take m:=by
 unfold zbx
 rw[HT.sIx_none,HT.sIx_nat,List.drop_zero,Nat.sub_zero,Nat.min_eq_left h]
theorem HasL.drop {K:W.Frag} {H:Hp}:∀ {ds:List Dt} {vs:List V} (n:Nat),HasL K H ds vs→HasL K H (ds.drop n) (vs.drop n)
 | _,_,0,h=>h
 | [],[],n+1,_=>by simp only[List.drop_nil];exact .nil
 | [],_ :: _,_,h=>by simp only[HasL]at h;cases h
 | d :: ds,vs,n+1,h=>by
  simp only[HasL]at h
  obtain⟨v,r,rfl,h1,h2⟩:=h
  simp only[List.drop_succ_cons]
  exact HasL.drop n h2
abbrev NB:List Str:=["_law_formulas_here","_law_cell","_law_word_here","_law_bad_here","_law_at","_law_due_here"]
section
variable {P:Program} {w:World} {K:W.Frag} {mg:Str→Option Value} {base:Heap} {aK aO C CN CT CP CM CZ CE:Addr} {f fD fR:Addr} {fd dD dR':FuncData}
theorem zb8:zac NB ["_law_formulas_here","_law_cell"] (aj za1):=⟨rfl,rfl,rfl,by decide +kernel,rfl,by decide +kernel,by decide +kernel⟩
def zgz (K:W.Frag):Sp:=fun vs H Q _=>∃(l:Addr) (c:Int) (xs:List V) (fs:List Fm),vs=[.ref l,.int c]∧H l=some (.lst xs)∧HasL K H (fs.map dFm) xs∧zc4 fs∧fs.length≤900∧(aL fs).length≤90000∧∀ H',ap H H'→Q (.bl true) H'
set_option maxHeartbeats 1000000 in
theorem lbad3 (T:Txt K mg aK C CN CT CP CM) (BD:FB P w K mg base CX0 19 "_law_due" fD dD ["_law_formulas_here"] (zc8 K)) (BR:FB P w K mg base CX0 36 "_law_refused" fR dR' ["_law_formulas_here"] (zep K)) {cdv:Value} {A:Around} {outer:List Env} {s:Shared} {H0:Hp} {E:XK} (hr:aH 36 (A.deeper (PyProof.Rows.envOfC "_law_bad" (aj za1) s.heap.objs.size f cdv))) :
  ∃ t,PSs (zbg CX0 P w K mg base NB "_law_bad" (aj za1) f cdv A outer s H0 E).nox ((zaw za1).drop 3) t ∧
   ∀(Dn:za3) (H:Hp) (l bp:Addr) (c:Int) (xs:List V) (fs:List Fm) (z:Str) (g:Fm) (v2:Option V),H l=some (.lst xs)→HasL K H (fs.map dFm) xs→zc4 fs→fs.length≤900→(aL fs).length≤90000→Has K H (dFm g) (.ref bp)→zdD z g→zaK z=false→Low z→(∀ H',ap H H'→Dn.rt (.bl true) H') →
    t Dn [some (.ref l),some (.int c),v2,some (.ref bp),none,none] H:=by
 have hr19:aH 19 _:=hr.mono (by decide)
 refine⟨_,(ae (az (i:=4) zb8.nd rfl (Or.inl rfl) (aw zaM (aw za6 (pv 1) ag) (aw za9 (zam zai rfl T.len PySem.boot_len (aa (pv 0) ac)) ag)))
  (ae (az (i:=5) zb8.nd rfl (Or.inl rfl) (aq BD.ok hr19 rfl BD.m BD.kp BD.b .nil aJ (aa (zba zco (pv 0) zbr (zbq (pv 4))) ac)))
  (ae (zal (PW.pt (zdp (av zbM (zam zai rfl T.len PySem.boot_len (aa (aA zaf (pv 5) ag (fun _ _=>rfl)) ac)) ag (aD _)) (zdp (av zbM (zam zai rfl T.len PySem.boot_len (aa (aA zaf (pv 5) ag (fun _ _=>rfl)) ac)) ag (aD _)) (zdG (av zbM (zam zai rfl T.len PySem.boot_len (aa (aA zaf (pv 5) ag (fun _ _=>rfl)) ac)) ag (aD _))))))
   (ai (ay zhq))
   zad)
  (ai (ay (zbA zaE (aq BR.ok hr rfl BR.m BR.kp BR.b .nil aJ (aa (aw zbO (aw zbO (zba zco (pv 0) zbr (zbq (pv 4))) (zag (aa (pv 3) ac))) (zba zco (pv 0) (zbq (pv 4)) zbr)) ac)) au (aD _))))))),?_⟩
 intro Dn H l bp c xs fs z g v2 hl hx G f900 p90 hg hb hz lz q
 have xl:xs.length=fs.length:=by rw[←hx.length,List.length_map]
 have bm:=F74.modB (c / 54) (show(0:Int) < (xs.length:Int)+1 by omega)
 have ei:c / 54 % ((xs.length:Int)+1)=(((c / 54 % ((xs.length:Int)+1)).toNat:Nat):Int):=by omega
 have il:(c / 54 % ((xs.length:Int)+1)).toNat≤xs.length:=by omega
 refine⟨_,rfl,_,_,rfl,rfl,⟨by decide,by decide⟩,_,rfl,l,_,rfl,.inl (SqL.of hl),_,_,rfl,rfl,_,_,rfl,rfl,(by show(0:Int) < (xs.length:Int)+1;omega),?_⟩
 show zde 4 (V.int (c / 54 % ((xs.length:Int)+1))) [some (V.ref l),some (V.int c),v2,some (V.ref bp),none,none] H _
 rw[ei]
 generalize (c / 54 % ((xs.length:Int)+1)).toNat=i at il
 refine⟨_,rfl,_,rfl,_,rfl,l,_,rfl,SqL.of hl,fun p1 hp1=>?_⟩
 rw[zfW xs i il]
 have s1:=ah hp1 (.lst (xs.take i))
 have n1:=ad (H:=H) (a:=p1) (o:=.lst (xs.take i))
 generalize upd H p1 (.lst (xs.take i))=H1 at s1 n1
 refine⟨p1,_,fs.take i,4,rfl,n1,by rw[List.map_take];exact F74.HasL.take i (hx.keep s1.kt (F74.nols_fms _)),G.o.take i,fun H2 dh tl al rl tk s2 D2 _ _ _ _=>?_⟩
 have s02:=s1.trans s2
 obtain⟨y1,v1,w1⟩:=D2.tm
 obtain⟨y2,v2',w2⟩:=D2.am
 obtain⟨y3,v3,w3⟩:=D2.rm
 have l1:y1.length=(zaz (ls0 (fs.take i)) (fs.take i)).T.length:=by rw[←w1.length,List.length_map]
 have l2:y2.length=(zaz (ls0 (fs.take i)) (fs.take i)).A.length:=by rw[←w2.length,List.length_map]
 have l3:y3.length=(zaz (ls0 (fs.take i)) (fs.take i)).R.length:=by rw[←w3.length,List.length_map]
 refine⟨_,rfl,dh,_,_,_,rfl,rfl,D2.tp,zd1 _ _ _,tl,_,rfl,.inl (SqL.of v1),_,_,rfl,rfl,_,rfl,aG (fun _=>zc1 (q H2 s02)) (fun c1=>⟨_,rfl,dh,_,_,_,rfl,rfl,D2.tp,zce _ _ _,al,_,rfl,.inl (SqL.of v2'),_,_,rfl,rfl,_,rfl,aG (fun _=>zc1 (q H2 s02)) (fun c2=>⟨_,rfl,dh,_,_,_,rfl,rfl,D2.tp,zeA _ _ _,rl,_,rfl,.inl (SqL.of v3),_,_,rfl,rfl,_,rfl,aG (fun _=>q H2 s02) (fun c3=>?_)⟩)⟩)⟩
 have c1':¬(56:Int) < ((y1.length:Nat):Int):=of_decide_eq_false (Bool.eq_false_iff.mpr c1)
 have c2':¬(36:Int) < ((y2.length:Nat):Int):=of_decide_eq_false (Bool.eq_false_iff.mpr c2)
 have c3':¬(196:Int) < ((y3.length:Nat):Int):=of_decide_eq_false (Bool.eq_false_iff.mpr c3)
 obtain⟨b1,b2,b3,b4⟩:=bad_er (i:=i) G hz hb lz (by omega) (by omega) (by omega)
 have hl2:=s02 _ _ hl
 refine⟨_,rfl,_,rfl,_,rfl,l,_,rfl,SqL.of hl2,fun p3 hp3=>?_⟩
 rw[zfW xs i il]
 have s3:=ah hp3 (.lst (xs.take i))
 have n3:=ad (H:=H2) (a:=p3) (o:=.lst (xs.take i))
 generalize upd H2 p3 (.lst (xs.take i))=H3 at s3 n3
 refine⟨_,rfl,lS1,fun p4 hp4=>?_⟩
 have s4:=ah hp4 (.lst [V.ref bp])
 have n4:=ad (H:=H3) (a:=p4) (o:=.lst [V.ref bp])
 generalize upd H3 p4 (.lst [V.ref bp])=H4 at s4 n4
 refine⟨p3,p4,_,_,rfl,rfl,s4 _ _ n3,n4,bigM (by rw[List.length_take,List.length_singleton];omega),fun p5 hp5=>?_⟩
 have s5:=ah hp5 (.lst (xs.take i++[V.ref bp]))
 have n5:=ad (H:=H4) (a:=p5) (o:=.lst (xs.take i++[V.ref bp]))
 generalize upd H4 p5 (.lst (xs.take i++[V.ref bp]))=H5 at s5 n5
 have s25:=(s3.trans s4).trans s5
 refine⟨_,rfl,_,rfl,_,rfl,l,_,rfl,SqL.of (s25 _ _ hl2),fun p6 hp6=>?_⟩
 rw[zic il]
 have s6:=ah hp6 (.lst (xs.drop i))
 have n6:=ad (H:=H5) (a:=p6) (o:=.lst (xs.drop i))
 generalize upd H5 p6 (.lst (xs.drop i))=H6 at s6 n6
 refine⟨p5,p6,_,_,rfl,rfl,s6 _ _ n5,n6,bigM (by rw[List.length_append,List.length_take,List.length_drop,List.length_singleton];omega),fun p7 hp7=>?_⟩
 have s7:=ah hp7 (.lst (xs.take i++[V.ref bp]++xs.drop i))
 have n7:=ad (H:=H6) (a:=p7) (o:=.lst (xs.take i++[V.ref bp]++xs.drop i))
 generalize upd H6 p7 (.lst (xs.take i++[V.ref bp]++xs.drop i))=H7 at s7 n7
 have s07:=((s02.trans s25).trans s6).trans s7
 have hx7:=hx.keep s07.kt (F74.nols_fms _)
 refine⟨p7,_,fs.take i++[g]++fs.drop i,rfl,n7,?_,b1,by omega,b3,b4,fun H8 s8=>?_⟩
 ·rw[List.map_append,List.map_append,List.map_take,List.map_drop]
  exact((F74.HasL.take i hx7).append (HasL.one (hg.keep s07.kt (F74.nol_dFm _)))).append (HasL.drop i hx7)
 ·exact⟨rfl,q H8 (s07.trans s8)⟩
end
end K74
namespace K74
open PySem L2
open F74 (Tr Fm dTr zax dFm FOk fdp zaF zbR)
section
variable {P:Program} {w:World} {K:W.Frag} {mg:Str→Option Value} {base:Heap} {aK aO C CN CT CP CM CZ CE:Addr} {f fD fR:Addr} {fd dD dR':FuncData}
theorem zeI {H:Hp} {p q:Addr} {n:Str} (h:H p=some (.tup [V.str n,.ref q])) (h2:H q=some (.tup [])):Has K H (dTr (.node n [])) (.ref p):=F74.of_tr (SqT.of h) (SqT.of h2) (by simp only[zax];exact HasL.nil)
theorem lbad2 (T:Txt K mg aK C CN CT CP CM) (BD:FB P w K mg base CX0 19 "_law_due" fD dD ["_law_formulas_here"] (zc8 K)) (BR:FB P w K mg base CX0 36 "_law_refused" fR dR' ["_law_formulas_here"] (zep K)) {cdv:Value} {A:Around} {outer:List Env} {s:Shared} {H0:Hp} {E:XK} (hr:aH 36 (A.deeper (PyProof.Rows.envOfC "_law_bad" (aj za1) s.heap.objs.size f cdv))) :
  ∃ t,PSs (zbg CX0 P w K mg base NB "_law_bad" (aj za1) f cdv A outer s H0 E).nox ((zaw za1).drop 2) t ∧
   ∀(Dn:za3) (H1:Hp) (l bp:Addr) (c:Int) (xs:List V) (fs:List Fm) (z:Str) (g:Fm),H1 l=some (.lst xs)→HasL K H1 (fs.map dFm) xs→zc4 fs→fs.length≤900→(aL fs).length≤90000→Has K H1 (dFm g) (.ref bp)→zdD z g→zaK z=false→Low z→(∀ H',ap H1 H'→Dn.rt (.bl true) H') →
    t Dn [some (.ref l),some (.int c),some (.str z),some (.ref bp),none,none] H1:=by
 obtain⟨t3,h3,g3⟩:=lbad3 (f:=f) (outer:=outer) (H0:=H0) (E:=E) (base:=base) T BD BR hr
 refine⟨_,(ae (psi_if (av zaE (aw zaM (aw za6 (pv 1) ag) ag) ag (aD _))
   (zj5 (i:=3) zb8.nd rfl (Or.inl rfl) (zbb (zdY zcH (zb0 (zbb (zb0 (zbb (zdY zcH (zb0 (zbb za5) za5))) (zb0 (zbb (zdY zcH (zb0 (zbb (zb0 (zbb (zhr (.of (pv 2)) (zb0 (zbb za5) za5))) za5)) za5))) za5))) za5))) (.inr rfl))
   zkF) h3),?_⟩
 intro Dn H1 l bp c xs fs z g hl hx GF f900 p90 hg hb hz lz q
 refine⟨_,rfl,_,_,rfl,rfl,⟨by decide,by decide⟩,_,_,rfl,rfl,(by show(0:Int) < 3;decide),rfl,_,rfl,aG (fun _=>?_) (fun _=>?_)⟩
 ·
  refine⟨lS0,fun b1 hb1=>?_⟩
  have sb1:=ah hb1 (.tup [])
  have nb1:=ad (H:=H1) (a:=b1) (o:=.tup [])
  generalize upd H1 b1 (.tup [])=G10 at sb1 nb1
  have t10:=sb1
  refine⟨lS2,fun b2 hb2=>?_⟩
  have sb2:=ah hb2 (.tup [V.str "b",V.ref b1])
  have nb2:=ad (H:=G10) (a:=b2) (o:=.tup [V.str "b",V.ref b1])
  generalize upd G10 b2 (.tup [V.str "b",V.ref b1])=G11 at sb2 nb2
  have t11:=t10.trans sb2
  refine⟨_,rfl,lS0,fun b3 hb3=>?_⟩
  have sb3:=ah hb3 (.tup [])
  have nb3:=ad (H:=G11) (a:=b3) (o:=.tup [])
  generalize upd G11 b3 (.tup [])=G12 at sb3 nb3
  have t12:=t11.trans sb3
  refine⟨lS2,fun b4 hb4=>?_⟩
  have sb4:=ah hb4 (.tup [V.str z,V.ref b3])
  have nb4:=ad (H:=G12) (a:=b4) (o:=.tup [V.str z,V.ref b3])
  generalize upd G12 b4 (.tup [V.str z,V.ref b3])=G13 at sb4 nb4
  have t13:=t12.trans sb4
  refine⟨lS1,fun b5 hb5=>?_⟩
  have sb5:=ah hb5 (.tup [V.ref b4])
  have nb5:=ad (H:=G13) (a:=b5) (o:=.tup [V.ref b4])
  generalize upd G13 b5 (.tup [V.ref b4])=G14 at sb5 nb5
  have t14:=t13.trans sb5
  refine⟨lS2,fun b6 hb6=>?_⟩
  have sb6:=ah hb6 (.tup [V.str "c",V.ref b5])
  have nb6:=ad (H:=G14) (a:=b6) (o:=.tup [V.str "c",V.ref b5])
  generalize upd G14 b6 (.tup [V.str "c",V.ref b5])=G15 at sb6 nb6
  have t15:=t14.trans sb6
  refine⟨lS2,fun b7 hb7=>?_⟩
  have sb7:=ah hb7 (.tup [V.ref b2,V.ref b6])
  have nb7:=ad (H:=G15) (a:=b7) (o:=.tup [V.ref b2,V.ref b6])
  generalize upd G15 b7 (.tup [V.ref b2,V.ref b6])=G16 at sb7 nb7
  have t16:=t15.trans sb7
  refine⟨lS2,fun b8 hb8=>?_⟩
  have sb8:=ah hb8 (.tup [V.str "unlike",V.ref b7])
  have nb8:=ad (H:=G16) (a:=b8) (o:=.tup [V.str "unlike",V.ref b7])
  generalize upd G16 b8 (.tup [V.str "unlike",V.ref b7])=G17 at sb8 nb8
  have t17:=t16.trans sb8
  have hu:Has K G17 (dFm (.unlike [.node "b" [],.node "c" [.node z []]])) (.ref b8):=by
   refine Has.tup' (SqT.of (nb8)) (.cons Has.str' (.cons (Has.tup' (SqT.of (sb8 _ _ (nb7))) ?_) .nil))
   simp only[zax]
   exact .cons (zeI (sb8 _ _ (sb7 _ _ (sb6 _ _ (sb5 _ _ (sb4 _ _ (sb3 _ _ (nb2))))))) (sb8 _ _ (sb7 _ _ (sb6 _ _ (sb5 _ _ (sb4 _ _ (sb3 _ _ (sb2 _ _ (nb1))))))))) (.cons (F74.of_tr (SqT.of (sb8 _ _ (sb7 _ _ (nb6)))) (SqT.of (sb8 _ _ (sb7 _ _ (sb6 _ _ (nb5))))) (by simp only[zax];exact .cons (zeI (sb8 _ _ (sb7 _ _ (sb6 _ _ (sb5 _ _ (nb4))))) (sb8 _ _ (sb7 _ _ (sb6 _ _ (sb5 _ _ (sb4 _ _ (nb3))))))) .nil)) .nil)
  exact g3 Dn _ l b8 c xs fs z _ _ (t17 _ _ hl) (hx.keep t17.kt (F74.nols_fms _)) GF f900 p90 hu .u hz lz fun H' s'=>q H' (t17.trans s')
 ·exact g3 Dn _ l bp c xs fs z g _ hl hx GF f900 p90 hg hb hz lz q
theorem lbad1 (T:Txt K mg aK C CN CT CP CM) (BD:FB P w K mg base CX0 19 "_law_due" fD dD ["_law_formulas_here"] (zc8 K)) (BR:FB P w K mg base CX0 36 "_law_refused" fR dR' ["_law_formulas_here"] (zep K)) {cdv:Value} {A:Around} {outer:List Env} {s:Shared} {H0:Hp} {E:XK} (hr:aH 36 (A.deeper (PyProof.Rows.envOfC "_law_bad" (aj za1) s.heap.objs.size f cdv))) :
  ∃ t,PSs (zbg CX0 P w K mg base NB "_law_bad" (aj za1) f cdv A outer s H0 E).nox ((zaw za1).drop 1) t ∧
   ∀(Dn:za3) (H1:Hp) (l:Addr) (c:Int) (xs:List V) (fs:List Fm) (z:Str),H1 l=some (.lst xs)→HasL K H1 (fs.map dFm) xs→zc4 fs→fs.length≤900→(aL fs).length≤90000→zaK z=false→Low z→(∀ H',ap H1 H'→Dn.rt (.bl true) H') →
    t Dn [some (.ref l),some (.int c),some (.str z),none,none,none] H1:=by
 obtain⟨t2,h2,g2⟩:=lbad2 (f:=f) (outer:=outer) (H0:=H0) (E:=E) (base:=base) T BD BR hr
 refine⟨_,(ae (az (i:=3) zb8.nd rfl (Or.inl rfl) (aA zaT (zln (zb0 (zbb (zdY zcH (zhr (.of (pv 2)) za5))) (zb0 (zbb (zdY zcH (zb0 (zbb (zdY zcH (zb0 (zbb za5) za5))) (zb0 (zbb (zhr (.of (pv 2)) (zb0 (zbb za5) za5))) za5)))) (zb0 (zbb (zdY zcH (zb0 (zbb (zdY zcH (zhr (.of (pv 2)) za5))) za5))) za5)))).to (aw zaM (aw za6 (pv 1) ag) ag) (fun _ _=>rfl))) h2),?_⟩
 intro Dn H1 l c xs fs z hl hx GF f900 p90 hz lz q
 have b3:=F74.modB (c / 6) (show(0:Int) < 3 by decide)
 have t0:=ap.refl H1
 refine⟨_,rfl,lS2,fun a1 ha1=>?_⟩
 have sa1:=ah ha1 (.tup [V.str "plain",V.str z])
 have na1:=ad (H:=H1) (a:=a1) (o:=.tup [V.str "plain",V.str z])
 generalize upd H1 a1 (.tup [V.str "plain",V.str z])=G1 at sa1 na1
 have t1:=t0.trans sa1
 refine⟨lS0,fun a2 ha2=>?_⟩
 have sa2:=ah ha2 (.tup [])
 have na2:=ad (H:=G1) (a:=a2) (o:=.tup [])
 generalize upd G1 a2 (.tup [])=G2 at sa2 na2
 have t2:=t1.trans sa2
 refine⟨lS2,fun a3 ha3=>?_⟩
 have sa3:=ah ha3 (.tup [V.str "b",V.ref a2])
 have na3:=ad (H:=G2) (a:=a3) (o:=.tup [V.str "b",V.ref a2])
 generalize upd G2 a3 (.tup [V.str "b",V.ref a2])=G3 at sa3 na3
 have t3:=t2.trans sa3
 refine⟨_,rfl,lS0,fun a4 ha4=>?_⟩
 have sa4:=ah ha4 (.tup [])
 have na4:=ad (H:=G3) (a:=a4) (o:=.tup [])
 generalize upd G3 a4 (.tup [])=G4 at sa4 na4
 have t4:=t3.trans sa4
 refine⟨lS2,fun a5 ha5=>?_⟩
 have sa5:=ah ha5 (.tup [V.str z,V.ref a4])
 have na5:=ad (H:=G4) (a:=a5) (o:=.tup [V.str z,V.ref a4])
 generalize upd G4 a5 (.tup [V.str z,V.ref a4])=G5 at sa5 na5
 have t5:=t4.trans sa5
 refine⟨lS3,fun a6 ha6=>?_⟩
 have sa6:=ah ha6 (.tup [V.str "same",V.ref a3,V.ref a5])
 have na6:=ad (H:=G5) (a:=a6) (o:=.tup [V.str "same",V.ref a3,V.ref a5])
 generalize upd G5 a6 (.tup [V.str "same",V.ref a3,V.ref a5])=G6 at sa6 na6
 have t6:=t5.trans sa6
 refine⟨_,rfl,lS2,fun a7 ha7=>?_⟩
 have sa7:=ah ha7 (.tup [V.str "plain",V.str z])
 have na7:=ad (H:=G6) (a:=a7) (o:=.tup [V.str "plain",V.str z])
 generalize upd G6 a7 (.tup [V.str "plain",V.str z])=G7 at sa7 na7
 have t7:=t6.trans sa7
 refine⟨lS2,fun a8 ha8=>?_⟩
 have sa8:=ah ha8 (.tup [V.str "not",V.ref a7])
 have na8:=ad (H:=G7) (a:=a8) (o:=.tup [V.str "not",V.ref a7])
 generalize upd G7 a8 (.tup [V.str "not",V.ref a7])=G8 at sa8 na8
 have t8:=t7.trans sa8
 refine⟨lS3,fun a9 ha9=>?_⟩
 have sa9:=ah ha9 (.lst [V.ref a1,V.ref a6,V.ref a8])
 have na9:=ad (H:=G8) (a:=a9) (o:=.lst [V.ref a1,V.ref a6,V.ref a8])
 generalize upd G8 a9 (.lst [V.ref a1,V.ref a6,V.ref a8])=G9 at sa9 na9
 have t9:=t8.trans sa9
 have h1:Has K G9 (dFm (.plain z)) (.ref a1):=Has.tup' (SqT.of (sa9 _ _ (sa8 _ _ (sa7 _ _ (sa6 _ _ (sa5 _ _ (sa4 _ _ (sa3 _ _ (sa2 _ _ (na1)))))))))) (.cons Has.str' (.cons Has.str' .nil))
 have h2:Has K G9 (dFm (.same (.node "b" []) (.node z []))) (.ref a6):=Has.tup' (SqT.of (sa9 _ _ (sa8 _ _ (sa7 _ _ (na6))))) (.cons Has.str' (.cons (zeI (sa9 _ _ (sa8 _ _ (sa7 _ _ (sa6 _ _ (sa5 _ _ (sa4 _ _ (na3))))))) (sa9 _ _ (sa8 _ _ (sa7 _ _ (sa6 _ _ (sa5 _ _ (sa4 _ _ (sa3 _ _ (na2))))))))) (.cons (zeI (sa9 _ _ (sa8 _ _ (sa7 _ _ (sa6 _ _ (na5))))) (sa9 _ _ (sa8 _ _ (sa7 _ _ (sa6 _ _ (sa5 _ _ (na4))))))) .nil)))
 have h3':Has K G9 (dFm (.not (.plain z))) (.ref a8):=Has.tup' (SqT.of (sa9 _ _ (na8))) (.cons Has.str' (.cons (Has.tup' (SqT.of (sa9 _ _ (sa8 _ _ (na7)))) (.cons Has.str' (.cons Has.str' .nil))) .nil))
 have key:∃(bp:Addr) (g:Fm),atI [V.ref a1,V.ref a6,V.ref a8] (c / 6 % 3)=some (.ref bp)∧Has K G9 (dFm g) (.ref bp)∧zdD z g:=by
  have hj:c / 6 % 3=0∨c / 6 % 3=1∨c / 6 % 3=2:=by omega
  rcases hj with e | e | e
  ·rw[e];exact⟨a1,_,zah (j:=0) rfl,h1,.p⟩
  ·rw[e];exact⟨a6,_,zah (j:=1) rfl,h2,.s⟩
  ·rw[e];exact⟨a8,_,zah (j:=2) rfl,h3',.n⟩
 obtain⟨bp,g,hbp,hg,hb⟩:=key
 refine⟨_,rfl,_,_,rfl,rfl,⟨by decide,by decide⟩,_,_,rfl,rfl,(by show(0:Int) < 3;decide),a9,_,_,_,rfl,rfl,SqL.of na9,hbp,?_⟩
 exact g2 Dn _ l bp c xs fs z g (t9 _ _ hl) (hx.keep t9.kt (F74.nols_fms _)) GF f900 p90 hg hb hz lz fun H' s'=>q H' (t9.trans s')
set_option maxHeartbeats 4000000 in
theorem zly (F:Fun K "_law_bad" "_law_bad" za1 f fd) (T:Txt K mg aK C CN CT CP CM) (BD:FB P w K mg base CX0 19 "_law_due" fD dD ["_law_formulas_here"] (zc8 K)) (BR:FB P w K mg base CX0 36 "_law_refused" fR dR' ["_law_formulas_here"] (zep K)):FnOk P w K mg base CX0 37 f fd ["_law_formulas_here","_law_cell"] (zgz K):=by
 refine F.ok zb8 (fun vs H Q E h=>?_) (fun cdv A outer s H vs Q E hr h=>?_)
 ·obtain⟨l,c,xs,fs,rfl,_⟩:=h
  rfl
 obtain⟨l,c,xs,fs,rfl,hl,hx,GF,f900,p90,q⟩:=h
 obtain⟨t1,h1,g1⟩:=lbad1 (f:=f) (outer:=outer) (H0:=H) (E:=E) (base:=base) T BD BR hr
 refine⟨_,(ae (az (i:=2) zb8.nd rfl (Or.inl rfl) (aA zaT (zag (aa au (aa au (aa au (aa au (aa au (aa au ac))))))) (aw zaM (pv 1) ag) (fun _ _=>rfl))) h1),?_⟩
 have b6:=F74.modB c (show(0:Int) < 6 by decide)
 obtain⟨z,hat,hz,lz⟩:=zlK b6.1 b6.2
 refine⟨(by show 6≤sizeLine;decide),fun l0 hl0=>?_⟩
 have s0:=ah hl0 (.lst (badW.map V.str))
 have n0:=ad (H:=H) (a:=l0) (o:=.lst (badW.map V.str))
 refine⟨_,rfl,_,_,rfl,rfl,(by show(0:Int) < 6;decide),l0,_,_,_,rfl,rfl,SqL.of n0,hat,?_⟩
 exact g1 _ _ l c xs fs z (s0 _ _ hl) (hx.keep s0.kt (F74.nols_fms _)) GF f900 p90 hz lz fun H' s'=>q H' (s0.trans s')
end
end K74
namespace K74
open PySem L2
open F74 (Tr Fm dTr zax dFm FOk fdp zaF zbR)
theorem zlQ:∀ c∈abc.cps.toList,isL ⟨#[c]⟩=true:=by decide +kernel
theorem zlO:∀ c∈abc.cps.toList,c < 1000:=by decide +kernel
theorem zjr {z:Str} (h:inV (.str z) zdZ=true):∀ c∈z.cps.toList,c∉F74.marks:=by
 obtain⟨y,hy,e⟩:=List.any_eq_true.mp h
 have key:∀ w:Str,(∀ c∈w.cps.toList,c∉F74.marks)→eqV (.str w) (.str z)=true→∀ c∈z.cps.toList,c∉F74.marks:=fun w hw e=>by
  have e':w=z:=eq_of_beq e
  rw[←e']
  exact hw
 simp only[zdZ,List.mem_cons,List.not_mem_nil,or_false]at hy
 rcases hy with rfl | rfl | rfl | rfl | rfl | rfl | rfl | rfl
 all_goals exact key _ (by decide +kernel) e
theorem ziV {z:Str} (h:F74.GdZ z):zaK z=true∧Low z:=by
 have h1:=h.l1
 have h8:=h.l8
 have e1:(zdk z).all id=true:=by
  rw[List.all_eq_true]
  intro b hb
  unfold zdk at hb
  obtain⟨c,hc,rfl⟩:=List.mem_map.mp hb
  exact zlQ c (h.ab c hc)
 have e2:inV (.str z) zdZ=false:=by
  cases e:inV (.str z) zdZ with
  | false=>rfl
  | true =>
   obtain⟨c,hc,hm⟩:=h.mr
   exact absurd hm (zjr e c hc)
 refine⟨?_,by omega,fun c hc=>zlO c (h.ab c hc)⟩
 unfold zaK zf1
 rw[e1,e2,decide_eq_true (by omega:(0:Int) < (z.length:Int)),decide_eq_true (by omega:(z.length:Int)≤8)]
 rfl
mutual
theorem zgw {zs:List Str} (hz:∀ z∈zs,F74.GdZ z):∀ t:Tr,F74.wt zs t < 1000000→LTr t∧GTr t
 | .node n ts,h=>by
  simp only[F74.wt]at h
  by_cases c:n∈zs∧ts.length≤3
  ·obtain⟨a,b⟩:=zfJ hz ts (by omega)
   obtain⟨g1,g2⟩:=ziV (hz n c.1)
   simp only[LTr,GTr]
   exact⟨⟨g2,c.2,a⟩,g1,b⟩
  ·rw[if_neg c]at h
   omega
theorem zfJ {zs:List Str} (hz:∀ z∈zs,F74.GdZ z):∀ ts:List Tr,F74.wts zs ts < 1000000→zdC ts∧zc5 ts
 | [],_=>by simp only[zdC,zc5];exact⟨trivial,trivial⟩
 | t :: ts,h=>by
  simp only[F74.wts]at h
  obtain⟨a,b⟩:=zgw hz t (by omega)
  obtain⟨c,d⟩:=zfJ hz ts (by omega)
  simp only[zdC,zc5]
  exact⟨⟨a,c⟩,b,d⟩
end
theorem zih:∀ {ts:List Tr},zc5 ts→∀ t∈ts,GTr t
 | t :: ts,h,u,hu=>by
  simp only[zc5]at h
  rcases List.mem_cons.mp hu with rfl | hu
  ·exact h.1
  ·exact zih h.2 u hu
theorem zeJ {zs:List Str} (hz:∀ z∈zs,F74.GdZ z):∀ g:Fm,F74.fwt zs g < 1000000→LFm g∧GFm g∧(∀ z∈plF g,z∈zs)∧(plF g).length≤F74.fwt zs g+1
 | .plain z,h=>by
  simp only[F74.fwt]at h
  by_cases c:z∈zs
  ·obtain⟨g1,g2⟩:=ziV (hz z c)
   exact⟨g2,g1,fun y hy=>by rw[List.mem_singleton.mp hy];exact c,by simp [plF]⟩
  ·rw[if_neg c]at h
   omega
 | .bare z,h=>⟨trivial,trivial,fun y hy=>(nomatch hy),by simp [plF]⟩
 | .same a b,h=>by
  simp only[F74.fwt]at h
  obtain⟨a1,a2⟩:=zgw hz a (by omega)
  obtain⟨b1,b2⟩:=zgw hz b (by omega)
  exact⟨⟨a1,b1⟩,⟨a2,b2⟩,fun y hy=>(nomatch hy),by simp [plF]⟩
 | .unlike ts,h=>by
  simp only[F74.fwt]at h
  by_cases c:2≤ts.length∧ts.length≤5
  ·obtain⟨a1,a2⟩:=zfJ hz ts (by omega)
   exact⟨⟨zfZ a1,c.1,c.2⟩,zih a2,fun y hy=>(nomatch hy),by simp [plF]⟩
  ·rw[if_neg c]at h
   omega
 | .not f,h=>by
  simp only[F74.fwt]at h
  obtain⟨a,b,c,d⟩:=zeJ hz f (by omega)
  exact⟨a,b,c,by simp only[plF,F74.fwt];omega⟩
 | .bin k f g,h=>by
  simp only[F74.fwt]at h
  obtain⟨a,b,c,d⟩:=zeJ hz f (by omega)
  obtain⟨a',b',c',d'⟩:=zeJ hz g (by omega)
  refine⟨⟨a,a'⟩,⟨b,b'⟩,fun y hy=>?_,by simp only[plF,F74.fwt,List.length_append];omega⟩
  simp only[plF]at hy
  exact(List.mem_append.mp hy).elim (c y) (c' y)
theorem sums {zs:List Str}:∀ fs:List Fm,(∀ g∈fs,(plF g).length≤F74.fwt zs g+1)→szs fs≤2 * F74.fsum zs fs∧1000 * zcS fs≤F74.fsum zs fs∧(aL fs).length≤F74.fsum zs fs
 | [],_=>by simp [szs,zcS,aL]
 | f :: fs,h=>by
  have h1:=sums (zs:=zs) fs fun g hg=>h g (List.mem_cons_of_mem _ hg)
  have h2:=zf5 zs f
  have h3:=h f (by simp)
  have e:aL (f :: fs)=plF f++aL fs:=rfl
  rw[e,List.length_append]
  simp only[szs,zcS,F74.fsum,List.map_cons,List.sum_cons]at h1 ⊢
  omega
theorem zc4.of {fs:List Fm} {zs:List Str} (hz:∀ z∈zs,F74.GdZ z) (l4:zs.length=4) (ok:∀ g∈fs,FOk g∧fdp g≤12) (sm:F74.fsum zs fs≤90000):zc4 fs∧(aL fs).length≤90000:=by
 have each:∀ g∈fs,LFm g∧GFm g∧(∀ z∈plF g,z∈zs)∧(plF g).length≤F74.fwt zs g+1:=fun g hg=>zeJ hz g (by have:=F74.fsum_mem (zs:=zs) hg;omega)
 obtain⟨s1,s2,s3⟩:=sums (zs:=zs) fs fun g hg=>(each g hg).2.2.2
 refine⟨⟨⟨fun g hg=>⟨(ok g hg).1,(each g hg).1,(ok g hg).2⟩,by omega,by omega,⟨zs,by omega,fun z hz'=>?_⟩,by omega⟩,fun g hg=>(each g hg).2.1,by omega⟩,by omega⟩
 obtain⟨f,hf,hzf⟩:=List.mem_flatMap.mp hz'
 exact(each f hf).2.2.1 z hzf
theorem zgd {fs:List Fm} (h:FsOk fs 4):Few (aL fs):=by
 obtain⟨zs,l,hz⟩:=h.fw
 exact⟨zs,by omega,hz⟩
theorem both {fs:List Fm} (G:zc4 fs):(∃ x,zbk (aL fs) st0 fs=.ok x∧(zaz (ls0 fs) fs).T=x.T∧(zaz (ls0 fs) fs).A=x.A∧(zaz (ls0 fs) fs).R=x.R∧x.T.length≤60∧x.A.length≤40∧x.R.length≤200)∨(zbk (aL fs) st0 fs=.er true∧Big (zaz (ls0 fs) fs)):=by
 rcases zgI (zgd G.o) fs (st:=st0) (s:=ls0 fs) (fit0 _) ⟨rfl,rfl,rfl,⟨fun j hj=>absurd hj (Nat.not_lt_zero _),fun z hz=>hz,fun z hz=>.inl hz⟩⟩ (fun f hf=>⟨(G.o.ok f hf).2.1,G.g f hf,fun z hz=>zes hf hz⟩) with ⟨x,ex,rx,fx⟩ | h
 ·exact .inl ⟨x,ex,rx.t,rx.a,rx.r,fx.t,fx.a,fx.r⟩
 ·exact .inr h
def rLen (K:W.Frag):List V→Hp→VK→Prop:=fun xs H Q=>∃ p ys,xs=[.ref p]∧(SqL K H p ys∨SqT K H p ys)∧Q (.int ys.length) H
abbrev NW:List Str:=["_law_script","_law_names_here","_law_formulas_here","_law_due_here","_law_handed","_law_problem"]
theorem zeL {fs:List Fm} (h:∀ g∈fs,FOk g∧fdp g≤12):zaB (fs.map dFm)≤20:=by
 induction fs with
 | nil=>simp [zaB]
 | cons f fs ih =>
  have h1:=ih fun g hg=>h g (List.mem_cons_of_mem _ hg)
  have h2:=F74.dep_dFm f (h f (by simp)).1
  have h3:=(h f (by simp)).2
  simp only[List.map_cons,zaB]
  omega
section
variable {P:Program} {w:World} {K:W.Frag} {mg:Str→Option Value} {base:Heap} {aK aO C CN CT CP CM CZ CE:Addr} {f fN fD fL fB fC fZ fG:Addr} {fd dN dD dL dB dC dZ dG:FuncData} {fI fA fQ fS fR:Addr} {dI dA' dQ dS dR':FuncData}
theorem zdF:zac NW ["_law_script"] (aj zcU):=⟨rfl,rfl,rfl,by decide +kernel,rfl,by decide +kernel,by decide +kernel⟩
set_option maxHeartbeats 4000000 in
theorem law4 (T:Txt K mg aK C CN CT CP CM) (TF:F74.Txt K mg aK aO) (X:Exm K mg CE CN CM) (G:Own P w K mg base C CN CT CP CM fI fA fQ fS fR dI dA' dQ dS dR') (BN:FB P w K mg base (CX1 P w) 35 "named" fN dN ["formulas"] (zdK K C CN CM)) (BD:FB P w K mg base CX0 19 "_law_due" fD dD ["_law_formulas_here"] (zc8 K)) (BL:FB P w K mg base CX0 1 "_law_alike" fL dL ["_law_problem","_law_due_here"] (zfa K C)) {cdv:Value} {A:Around} {outer:List Env} {s:Shared} {H0:Hp} {E:XK} (hr:aH 37 (A.deeper (PyProof.Rows.envOfC "law" (aj zcU) s.heap.objs.size f cdv))) :
  ∃ t,PSs (zbg CX0 P w K mg base NW "law" (aj zcU) f cdv A outer s H0 E).nox ((zaw zcU).drop 4) t ∧
   ∀(Dn:za3) (H:Hp) (l:Addr) (xs:List V) (fs:List Fm) (v0 v1:Option V),H l=some (.lst xs)→HasL K H (fs.map dFm) xs→zc4 fs→(∀ H',ap H H'→Dn.rt (.bl true) H') →
    t Dn [v0,v1,some (.ref l),none,none,none] H:=by
 have hr1:aH 1 _:=hr.mono (by decide)
 have hr4:aH 4 _:=hr.mono (by decide)
 have hr19:aH 19 _:=hr.mono (by decide)
 have hr35:aH 35 _:=hr.mono (by decide)
 have hu:=zex hr
 refine⟨_,(ae (az (i:=3) zdF.nd rfl (Or.inl rfl) (aq BD.ok hr19 rfl BD.m BD.kp BD.b .nil aJ (aa (pv 2) ac)))
  (ae (az (i:=4) zdF.nd rfl (Or.inl rfl) (za7 zcX rfl TF.list PyProof.Rows.Boot.list (aa (pv 2) ac)))
  (ae (zli rfl rfl (fun pins E1 Eb σ0 hp=>ai (az (i:=5) zdF.nd rfl (Or.inl rfl) (zkK BN.ok hr35 rfl BN.m BN.kp BN.b .nil hp (aa (pv 4) ac))))
   (ziK rfl T.bmany (fun ea=>ai (ay (pe_or (zbA zbM (zam (r:=rLen K) zai rfl T.len PySem.boot_len (aa (aA (r:=rIxT K) zaf (pv 3) ag (fun _ _=>rfl)) ac)) ag (aD _)) (pe_or (zbA zbM (zam (r:=rLen K) zai rfl T.len PySem.boot_len (aa (aA (r:=rIxT K) zaf (pv 3) ag (fun _ _=>rfl)) ac)) ag (aD _)) (zeZ (zbA zbM (zam (r:=rLen K) zai rfl T.len PySem.boot_len (aa (aA (r:=rIxT K) zaf (pv 3) ag (fun _ _=>rfl)) ac)) ag (aD _))))))) zhW))
  (ae (zal (PW.pt (zdp (av zbM (zam zai rfl T.len PySem.boot_len (aa (aA zaf (pv 3) ag (fun _ _=>rfl)) ac)) ag (aD _)) (zdp (av zbM (zam zai rfl T.len PySem.boot_len (aa (aA zaf (pv 3) ag (fun _ _=>rfl)) ac)) ag (aD _)) (zdG (av zbM (zam zai rfl T.len PySem.boot_len (aa (aA zaf (pv 3) ag (fun _ _=>rfl)) ac)) ag (aD _))))))
   (ai (ay zhq))
   zad)
  (ae (zal (PW.pt (zdp (zjE (zjD (aq BL.ok hr1 rfl BL.m BL.kp BL.b .nil aJ (aa (pv 5) (aa (pv 3) ac))))) (zdG (av (zjI hu) (pv 4) (pv 2) rfl))))
   (ai (ay zhq))
   zad)
  (ae (zal (av zf2 (zam zai rfl T.len PySem.boot_len (aa (aA zaf (pv 3) ag (fun _ _=>rfl)) ac)) ag (aD _))
   (ai (zau (zaG (pv 5) T.cl G.mR G.R hr4 G.bR .nil passF (aa (zae ac) ac))))
   zad)
  (ai (ay (aq BL.ok hr1 rfl BL.m BL.kp BL.b .nil aJ (aa (aq BN.ok hr35 rfl BN.m BN.kp BN.b .nil passF (aa (pv 4) ac)) (aa (pv 3) ac))))))))))),?_⟩
 intro Dn H l xs fs v0 v1 hl hx GF q
 have okn:∀ g∈fs,FOk g∧LFm g∧fdp g≤12:=GF.o.ok
 have dfs:=zeL fun g hg=>⟨(okn g hg).1,(okn g hg).2.2⟩
 refine⟨_,rfl,l,xs,fs,4,rfl,hl,hx,GF.o,fun H1 dh tl al rl tk s1 D1 m1 m2 m3 m4=>?_⟩
 generalize hS:zaz (ls0 fs) fs=sF at D1
 refine⟨_,rfl,l,_,rfl,.inl (SqL.of (s1 _ _ hl)),fun ha hha=>?_⟩
 have s2:=ah hha (.lst xs)
 have n2:=ad (H:=H1) (a:=ha) (o:=.lst xs)
 generalize upd H1 ha (.lst xs)=H2 at s2 n2
 have D2:=D1.same s2
 have s02:=s1.trans s2
 have hx2:=hx.keep s02.kt (F74.nols_fms _)
 obtain⟨y1,v1',w1⟩:=id D2.tm
 obtain⟨y2,v2',w2⟩:=id D2.am
 obtain⟨y3,v3',w3⟩:=id D2.rm
 have l1:y1.length=sF.T.length:=by rw[←w1.length,List.length_map]
 have l2:y2.length=sF.A.length:=by rw[←w2.length,List.length_map]
 have l3:y3.length=sF.R.length:=by rw[←w3.length,List.length_map]
 have bth:=both GF
 rw[hS]at bth
 refine⟨rfl,_,rfl,ha,xs,fs,rfl,n2,hx2,okn,GF.o.pl,zgd GF.o,fun st est H3 p tl3 al3 rl3 s3 np nt na nr pr3=>?_,fun b eb H3 s3=>?_⟩
 ·obtain⟨x,ex,rt,ra,rr,z1,z2,z3⟩:=Or.resolve_right bth fun h=>by
   have e:=h.1
   rw[est]at e
   cases e
  rw[est]at ex
  cases ex
  rw[←rt,←ra,←rr]at pr3
  have D3:=D2.same s3
  have u1:=s3 _ _ v1'
  have u2:=s3 _ _ v2'
  have u3:=s3 _ _ v3'
  rw[←rt]at z1
  rw[←ra]at z2
  rw[←rr]at z3
  have no1:¬decide ((60:Int) < ((y1.length:Nat):Int))=true:=fun e=>by have:=of_decide_eq_true e;omega
  have no2:¬decide ((40:Int) < ((y2.length:Nat):Int))=true:=fun e=>by have:=of_decide_eq_true e;omega
  have no3:¬decide ((200:Int) < ((y3.length:Nat):Int))=true:=fun e=>by have:=of_decide_eq_true e;omega
  refine⟨_,rfl,dh,_,_,_,rfl,rfl,D3.tp,zd1 _ _ _,tl,_,rfl,.inl (SqL.of u1),_,_,rfl,rfl,_,rfl,aG (fun c=>absurd c no1) (fun _=>⟨_,rfl,dh,_,_,_,rfl,rfl,D3.tp,zce _ _ _,al,_,rfl,.inl (SqL.of u2),_,_,rfl,rfl,_,rfl,aG (fun c=>absurd c no2) (fun _=>⟨_,rfl,dh,_,_,_,rfl,rfl,D3.tp,zeA _ _ _,rl,_,rfl,.inl (SqL.of u3),_,_,rfl,rfl,_,rfl,aG (fun c=>absurd c no3) (fun _=>?_)⟩)⟩)⟩
  have hn3:=s3 _ _ n2
  have hl3:=s3 _ _ (s02 _ _ hl)
  have hx3:=hx2.keep s3.kt (F74.nols_fms _)
  refine⟨_,rfl,_,rfl,p,tl3,al3,rl3,dh,tl,al,rl,tk,sF,rfl,pr3,D3,_,rfl,zeX ⟨_,rfl,_,rfl,_,_,Has.lst' (SqL.of hn3) hx3,Has.lst' (SqL.of hl3) hx3,by have:=zgf dfs;omega,_,rfl,?_⟩⟩
  rw[zbt]
  refine zeX ?_
  refine⟨_,rfl,dh,_,_,_,rfl,rfl,D3.tp,zeA _ _ _,rl,_,rfl,.inl (SqL.of u3),_,_,rfl,rfl,_,rfl,aG (fun c=>?_) (fun c=>?_)⟩
  ·have c':((y3.length:Nat):Int) < 200:=of_decide_eq_true c
   obtain⟨⟨dx,ho⟩,_⟩:=id pr3
   refine⟨_,rfl,p,dx,_,rfl,ho,zgo _ _ _,lS0,fun e he=>?_⟩
   have s4:=ah he (.tup [])
   have n4:=ad (H:=H3) (a:=e) (o:=.tup [])
   generalize upd H3 e (.tup [])=H4 at s4 n4
   refine⟨p,tl3,al3,rl3,e,_,_,_,[],rfl,pr3.same s4,.inr (SqT.of n4),by decide,fun i hi=>(nomatch hi),by omega,?_⟩
   unfold zdl
   rw[if_neg (by simp),if_neg (by simp),if_neg (by omega)]
   intro H5 pr5 f5
   have s25:ap H2 H5:=fun b o e'=>f5 _ _ (s4 _ _ (s3 _ _ e')) (zaa e' na) (zaa e' nr)
   refine⟨_,rfl,ha,xs,fs,rfl,s25 _ _ n2,hx2.keep s25.kt (F74.nols_fms _),okn,GF.o.pl,zgd GF.o,fun st' est' H6 p6 tl6 al6 rl6 s6 _ _ _ _ pr6=>?_,fun b eb=>by rw[est]at eb;cases eb⟩
   rw[est]at est'
   cases est'
   rw[←rt,←ra,←rr]at pr6
   exact⟨_,rfl,p6,tl6,al6,rl6,dh,tl,al,rl,tk,sF,rfl,pr6,D2.same (s25.trans s6),q H6 (s02.trans (s25.trans s6))⟩
  ·refine⟨_,rfl,ha,xs,fs,rfl,hn3,hx3,okn,GF.o.pl,zgd GF.o,fun st' est' H6 p6 tl6 al6 rl6 s6 _ _ _ _ pr6=>?_,fun b eb=>by rw[est]at eb;cases eb⟩
   rw[est]at est'
   cases est'
   rw[←rt,←ra,←rr]at pr6
   exact⟨_,rfl,p6,tl6,al6,rl6,dh,tl,al,rl,tk,sF,rfl,pr6,D2.same (s3.trans s6),q H6 (s02.trans (s3.trans s6))⟩
 ·rcases bth with ⟨x,ex,_⟩ | ⟨e,big⟩
  ·rw[eb]at ex;cases ex
  rw[eb]at e
  cases e
  have D3:=D2.same s3
  have u1:=s3 _ _ v1'
  have u2:=s3 _ _ v2'
  have u3:=s3 _ _ v3'
  have q3:=q H3 (s02.trans s3)
  refine⟨CM,rfl,true,X.mm,zc1 ?_⟩
  refine⟨_,rfl,dh,_,_,_,rfl,rfl,D3.tp,zd1 _ _ _,tl,_,rfl,.inl (SqL.of u1),_,_,rfl,rfl,_,rfl,aG (fun _=>q3) (fun c1=>⟨_,rfl,dh,_,_,_,rfl,rfl,D3.tp,zce _ _ _,al,_,rfl,.inl (SqL.of u2),_,_,rfl,rfl,_,rfl,aG (fun _=>q3) (fun c2=>⟨_,rfl,dh,_,_,_,rfl,rfl,D3.tp,zeA _ _ _,rl,_,rfl,.inl (SqL.of u3),_,_,rfl,rfl,?_⟩)⟩)⟩
  have c1':¬(60:Int) < ((y1.length:Nat):Int):=of_decide_eq_false (Bool.eq_false_iff.mpr c1)
  have c2':¬(40:Int) < ((y2.length:Nat):Int):=of_decide_eq_false (Bool.eq_false_iff.mpr c2)
  have c3':decide ((200:Int) < ((y3.length:Nat):Int))=true:=decide_eq_true (by rcases big with b | b | b <;> omega)
  show Dn.rt (.bl (decide ((200:Int) < ((y3.length:Nat):Int)))) H3
  rw[c3']
  exact q3
end
end K74
namespace K74
open PySem L2
open F74 (Tr Fm dTr zax dFm FOk fdp zaF zbR)
section
variable {P:Program} {w:World} {K:W.Frag} {mg:Str→Option Value} {base:Heap} {aK aO C CN CT CP CM CZ CE:Addr} {f fN fD fL fB fC fZ fG:Addr} {fd dN dD dL dB dC dZ dG:FuncData} {fI fA fQ fS fR:Addr} {dI dA' dQ dS dR':FuncData}
theorem law3 (BC:FB P w K mg base CX0 1 "_law_cell_at" fC dC ["_law_script","_law_k"] (F74.sp_cell K)) (BB:FB P w K mg base CX0 37 "_law_bad" fB dB ["_law_formulas_here","_law_cell"] (zgz K)) {cdv:Value} {A:Around} {outer:List Env} {s:Shared} {H0:Hp} {E:XK} (hr:aH 37 (A.deeper (PyProof.Rows.envOfC "law" (aj zcU) s.heap.objs.size f cdv))) {t4:TS}
  (h4:PSs (zbg CX0 P w K mg base NW "law" (aj zcU) f cdv A outer s H0 E).nox ((zaw zcU).drop 4) t4) (g4:∀(Dn:za3) (H:Hp) (l:Addr) (xs:List V) (fs:List Fm) (v0 v1:Option V),H l=some (.lst xs)→HasL K H (fs.map dFm) xs→zc4 fs→(∀ H',ap H H'→Dn.rt (.bl true) H')→t4 Dn [v0,v1,some (.ref l),none,none,none] H) :
  ∃ t,PSs (zbg CX0 P w K mg base NW "law" (aj zcU) f cdv A outer s H0 E).nox ((zaw zcU).drop 3) t ∧
   ∀(Dn:za3) (H:Hp) (a l:Addr) (ns:List Int) (xs:List V) (fs:List Fm) (v1:Option V),SqL K H a (ns.map V.int)→H l=some (.lst xs)→HasL K H (fs.map dFm) xs→zc4 fs→fs.length≤900→(aL fs).length≤90000→(∀ H',ap H H'→Dn.rt (.bl true) H') →
    t Dn [some (.ref a),v1,some (.ref l),none,none,none] H:=by
 have hr1:aH 1 _:=hr.mono (by decide)
 refine⟨_,(ae (zal (av zaE (aw zaM (aq BC.ok hr1 rfl BC.m BC.kp BC.b .nil aJ (aa (pv 0) (aa ag ac))) ag) ag (aD _))
   (ai (ay (aq BB.ok hr rfl BB.m BB.kp BB.b .nil aJ (aa (pv 2) (aa (aw za6 (aq BC.ok hr1 rfl BC.m BC.kp BC.b .nil aJ (aa (pv 0) (aa ag ac))) ag) ac)))))
   zad) h4),?_⟩
 intro Dn H a l ns xs fs v1 hS hl hx G f9 p9 q
 refine⟨_,rfl,a,ns,_,rfl,hS,(by decide),fun c=>⟨_,_,rfl,rfl,(by show(0:Int) < 5;decide),rfl,_,rfl,aG (fun _=>?_) (fun _=>g4 Dn H l xs fs _ _ hl hx G q)⟩⟩
 exact⟨_,rfl,_,rfl,a,ns,_,rfl,hS,(by decide),fun c2=>⟨_,_,rfl,rfl,⟨by decide,by decide⟩,l,_,xs,fs,rfl,hl,hx,G,f9,p9,q⟩⟩
def zf6 (K:W.Frag):Sp:=fun vs H Q _=>∃(a:Addr) (ns:List Int),vs=[.ref a]∧SqL K H a (ns.map V.int)∧ns.length≤63∧∀ H',Q (.bl true) H'
theorem zks (zs:List Str) (fs:List Fm) (i:Nat):F74.fsum zs (fs.take i)≤F74.fsum zs fs:=zdf _ fs i
theorem zk1 (zs:List Str) (n:Nat):F74.fsum zs (List.replicate n (.bare "always"))=1007 * n:=by
 induction n with
 | zero=>simp [F74.fsum]
 | succ n ih =>
  have e:("always":Str).length=6:=by decide +kernel
  simp only[F74.fsum,List.replicate_succ,List.map_cons,List.sum_cons]at ih ⊢
  rw[ih]
  simp only[F74.fwt,e]
  omega
theorem ziU {H:Hp}:∀ {us:List V},(∀ u∈us,Has K H (dFm (.bare "always")) u)→HasL K H ((List.replicate us.length (Fm.bare "always")).map dFm) us
 | [],_=>HasL.nil
 | u :: us,h=>.cons (h u (by simp)) (ziU fun v hv=>h v (List.mem_cons_of_mem _ hv))
set_option maxHeartbeats 1000000 in
theorem ok_law (F:Fun K "law" "law" zcU f fd) (T:Txt K mg aK C CN CT CP CM) (TF:F74.Txt K mg aK aO) (X:Exm K mg CE CN CM) (G:Own P w K mg base C CN CT CP CM fI fA fQ fS fR dI dA' dQ dS dR') (BN:FB P w K mg base (CX1 P w) 35 "named" fN dN ["formulas"] (zdK K C CN CM)) (BD:FB P w K mg base CX0 19 "_law_due" fD dD ["_law_formulas_here"] (zc8 K)) (BL:FB P w K mg base CX0 1 "_law_alike" fL dL ["_law_problem","_law_due_here"] (zfa K C))
  (BC:FB P w K mg base CX0 1 "_law_cell_at" fC dC ["_law_script","_law_k"] (F74.sp_cell K)) (BB:FB P w K mg base CX0 37 "_law_bad" fB dB ["_law_formulas_here","_law_cell"] (zgz K)) (BZ:FB P w K mg base CX0 3 "_law_names" fZ dZ ["_law_cell"] F74.sp_names) (BG:FB P w K mg base CX0 6 "_law_formulas" fG dG ["_law_script","_law_begin","_law_names_here","_law_many"] (F74.sp_formulas K)):FnOk P w K mg base CX0 38 f fd ["_law_script"] (zf6 K):=by
 refine F.ok zdF (fun vs H Q E h=>?_) (fun cdv A outer s H vs Q E hr h=>?_)
 ·obtain⟨a,ns,rfl,_⟩:=h
  rfl
 obtain⟨a,ns,rfl,hS,_,q⟩:=h
 have hr1:aH 1 _:=hr.mono (by decide)
 have hr3:aH 3 _:=hr.mono (by decide)
 have hr6:aH 6 _:=hr.mono (by decide)
 obtain⟨t4,h4,g4⟩:=law4 (f:=f) (outer:=outer) (H0:=H) (E:=E) (base:=base) T TF X G BN BD BL hr
 obtain⟨t3,h3,g3⟩:=law3 (f:=f) (outer:=outer) (H0:=H) (E:=E) (base:=base) BC BB hr h4 g4
 refine⟨_,(ae (az (i:=1) zdF.nd rfl (Or.inl rfl) (aq BZ.ok hr3 rfl BZ.m BZ.kp BZ.b .nil aJ (aa (aq BC.ok hr1 rfl BC.m BC.kp BC.b .nil aJ (aa (pv 0) (aa ag ac))) ac)))
  (ae (az (i:=2) zdF.nd rfl (Or.inl rfl) (aq BG.ok hr6 rfl BG.m BG.kp BG.b .nil aJ (aa (pv 0) (aa ag (aa (pv 1) (aa (aw zaM (aq BC.ok hr1 rfl BC.m BC.kp BC.b .nil aJ (aa (pv 0) (aa ag ac))) ag) ac))))))
  (ae (zal (av zaE (aw zaM (aw za6 (aq BC.ok hr1 rfl BC.m BC.kp BC.b .nil aJ (aa (pv 0) (aa ag ac))) ag) ag) ag (aD _))
   (ai (az (i:=2) zdF.nd rfl (Or.inl rfl) (aw zbO (zba zco (pv 2) zbr (zbq ag)) (zfm (N':=["_law_k"]) (ix:=[]) rfl rfl (by decide +kernel) (by decide +kernel) rfl (fun _=>⟨[],zid (by decide +kernel) (by decide +kernel)⟩) (by decide +kernel) rfl rfl (fun j i h=>by simp at h) (zcN rfl T.range (aa (aw za9 ag (aw zaM (aw za6 (aq BC.ok hr1 rfl BC.m BC.kp BC.b .nil aJ (aa (pv 0) (aa ag ac))) ag) ag)) ac)) (fun _ _ _ _=>(zae (aa au ac)))))))
   zad)
  h3))),?_⟩
 refine⟨_,rfl,a,ns,_,rfl,hS,(by decide),fun c0=>⟨_,rfl,fun H1 nl zs s1 nn hn l4 gz=>?_⟩⟩
 have N1:F74.Names H1 nl zs:=⟨hn,l4,fun z hz=>by have:=(gz z hz).l8;omega⟩
 refine⟨_,rfl,_,rfl,_,rfl,a,ns,_,rfl,s1.seq hS,(by decide),fun c1=>?_⟩
 have b11:=F74.modB c1 (show(0:Int) < 11 by decide)
 refine⟨_,_,rfl,rfl,(by show(0:Int) < 11;decide),a,nl,ns,zs,2,c1 % 11,rfl,s1.seq hS,(by decide),N1,b11.1,by omega,fun H2 l ys gs s2 hl hy PL=>?_⟩
 have s02:=s1.trans s2
 have ple:=PL.le
 have psm:=PL.sm
 have i10:(c1 % 11).toNat≤10:=by omega
 have okg:∀ g∈gs,FOk g∧fdp g≤12:=fun g hg=>⟨(PL.ok g hg).1,by have:=(PL.ok g hg).2;omega⟩
 have qq:∀ {H3:Hp},ap H H3→∀ H',ap H3 H'→({ nx:=fun _ H'=>Q .non H',rt:=Q }:za3).rt (.bl true) H':=fun _ H' _=>q H'
 refine⟨_,rfl,a,ns,_,rfl,s02.seq hS,(by decide),fun c2=>⟨_,_,rfl,rfl,⟨by decide,by decide⟩,_,_,rfl,rfl,(by show(0:Int) < 10;decide),rfl,_,rfl,aG (fun _=>?_) (fun _=>?_)⟩⟩
 ·refine⟨_,rfl,_,rfl,l,_,rfl,SqL.of hl,fun p1 hp1=>?_⟩
  have e2:zbx ys none (some 2)=ys.take 2:=by
   by_cases h:2≤ys.length
   ·exact zfW ys 2 h
   ·unfold zbx
    rw[HT.sIx_none,show(2:Int)=((2:Nat):Int) from rfl,HT.sIx_nat,List.drop_zero,Nat.sub_zero,Nat.min_eq_right (by omega),List.take_of_length_le (by omega),List.take_of_length_le (by omega)]
  rw[e2]
  have s3:=ah hp1 (.lst (ys.take 2))
  have n3:=ad (H:=H2) (a:=p1) (o:=.lst (ys.take 2))
  generalize upd H2 p1 (.lst (ys.take 2))=H3 at s3 n3
  have s03:=s02.trans s3
  refine⟨_,rfl,a,ns,_,rfl,s03.seq hS,(by decide),fun c3=>?_⟩
  have b22:=F74.modB (c3 / 110) (show(0:Int) < 22 by decide)
  refine⟨_,_,rfl,rfl,⟨by decide,by decide⟩,_,_,rfl,rfl,(by show(0:Int) < 22;decide),_,_,rfl,rfl,_,rfl,(by show -(2 ^ 62)≤20+c3 / 110 % 22;omega),(by show 20+c3 / 110 % 22 < 2 ^ 62;omega),fun D hD=>zdd zhJ (fun i us H'=>ap H3 H'∧us.length=i∧∀ u∈us,∃ t,u=.ref t∧t≠D∧H' t=some (.tup [V.str "always"])) (fun _ _ _ _=>trivial) ⟨ah hD _,rfl,fun u hu=>(nomatch hu)⟩ ?_ ?_⟩
  ·rintro i us H8 x H4 hi hly hDs ⟨s4,ul,hus⟩ ⟨rfl,rfl⟩
   have hi':i < (20+c3 / 110 % 22).toNat:=hi
   refine⟨lS1,fun t ht=>?_⟩
   have nDt:t≠D:=fun z=>by rw[z,hDs]at ht;cases ht
   have s5:=ah ht (.tup [V.str "always"])
   have n5:=ad (H:=H4) (a:=t) (o:=.tup [V.str "always"])
   generalize upd H4 t (.tup [V.str "always"])=H5 at s5 n5
   refine zb5 (sz _ (by show(20+c3 / 110 % 22).toNat≤1000;omega)) hi hly (s5 _ _ hDs) ⟨(s4.trans s5).upd hD,by rw[List.length_append,ul];rfl,fun u hu=>?_⟩
   rcases List.mem_append.mp hu with hu | hu
   ·obtain⟨t',e',d',h'⟩:=hus u hu
    exact⟨t',e',d',by rw[ao d'];exact s5 _ _ h'⟩
   ·exact⟨t,List.mem_singleton.mp hu,nDt,by rw[ao nDt];exact n5⟩
  ·rintro us H4 hDs ⟨s4,ul,hus⟩
   have ul':us.length=(20+c3 / 110 % 22).toNat:=ul
   have yl:ys.length=gs.length:=by rw[←hy.length,List.length_map]
   refine⟨p1,D,_,_,rfl,rfl,s4 _ _ n3,hDs,sz _ (by rw[List.length_take];omega),fun p6 hp6=>?_⟩
   have s6:=ah hp6 (.lst (ys.take 2++us))
   have n6:=ad (H:=H4) (a:=p6) (o:=.lst (ys.take 2++us))
   have s46:=s4.trans s6
   have s06:=s03.trans s46
   have hx6:HasL K (upd H4 p6 (.lst (ys.take 2++us))) ((gs.take 2++List.replicate us.length (Fm.bare "always")).map dFm) (ys.take 2++us):=by
    rw[List.map_append,List.map_take]
    refine(F74.HasL.take 2 (hy.keep (s3.trans s46).kt (F74.nols_fms _))).append (ziU fun u hu=>?_)
    obtain⟨t',e',d',h'⟩:=hus u hu
    rw[e']
    exact Has.tup' (SqT.of (s6 _ _ h')) (.cons Has.str' .nil)
   have ft:=zks zs gs 2
   obtain⟨GF,pl9⟩:=zc4.of (fs:=gs.take 2++List.replicate us.length (Fm.bare "always")) gz l4 (fun g hg=>by
    rcases List.mem_append.mp hg with hg | hg
    ·exact okg g (List.mem_of_mem_take hg)
    ·rw[(List.mem_replicate.mp hg).2]
     exact⟨.inl rfl,by decide⟩) (by rw[F74.fsum_app,zk1];omega)
   exact g3 _ _ a p6 ns _ _ _ (s06.seq hS) n6 hx6 GF (by rw[List.length_append,List.length_take,List.length_replicate];omega) pl9 (qq s06)
 ·obtain⟨GF,pl9⟩:=zc4.of gz l4 okg (by omega)
  exact g3 _ _ a l ns _ _ _ (s02.seq hS) hl hy GF (by omega) pl9 (qq s02)
end
end K74
namespace K74
open PySem L2
open F74 (Tr Fm dTr zax dFm FOk fdp zaF zbR)
theorem zh0 {P:Program} {w:World} {K:W.Frag} {mg:Str→Option Value} {base:Heap} {aK C CN CT CP CM CZ:Addr} {f fP fW fR' fU fB fS' fH:Addr} {fd dP dW dR'' dU dB dS' dH:FuncData} {fI fA fQ fS fR:Addr} {dI dA' dQ dS dR':FuncData} (F:Fun K "formula_part" "Namer.formula_part" zby f fd) (T:Txt K mg aK C CN CT CP CM) (Z:TxZ K mg CZ) (G:Own P w K mg base C CN CT CP CM fI fA fQ fS fR dI dA' dQ dS dR') (GN:OwN P w K mg base CZ C CN CM fP fW dP dW)
  (bF:ar K fd ["self","formula"] []) (mF:zbo K CZ "formula_part" f)
  (oS:FnOk P w K mg base (CX1 P w) 9 fS' dS' ["self","formula"] (zbL K CZ C CN CM fun g=>∃ a b,g=.same a b)) (bS:ar K dS' ["self","formula"] []) (mS:zbo K CZ "same_part" fS')
  (oU:FnOk P w K mg base (CX1 P w) 9 fU dU ["self","formula"] (zbL K CZ C CN CM fun g=>∃ ts,g=.unlike ts)) (bU:ar K dU ["self","formula"] []) (mU:zbo K CZ "unlike_part" fU)
  (oB:FnOk P w K mg base (CX1 P w) 6 fB dB ["self","formula"] (zbL K CZ C CN CM fun g=>∃ z,g=.bare z)) (bB:ar K dB ["self","formula"] []) (mB:zbo K CZ "bare_part" fB)
  (FP:Fun K "pair_part" "Namer.pair_part" zbY fH dH) (bP:ar K dH ["self","formula"] []) (mP:zbo K CZ "pair_part" fH) (BR:FB P w K mg base CX0 1 "pair_rows" fR' dR'' ["kind","new","one","other"] zgy) :
  ∀ n,FnOk P w K mg base (CX1 P w) (2 * n+10) f fd ["self","formula"] (zbL K CZ C CN CM fun g=>fdp g≤n)
 | 0=>F74.FnOk.no fun _ _ _ _ ⟨_,_,_,_,_,_,_,_,g,_,_,_,h,_⟩=>by
  have:=F74.fdp_pos g
  omega
 | n+1=>by
  have IH:=zh0 F T Z G GN bF mF oS bS mS oU bU mU oB bB mB FP bP mP BR n
  exact formp F T Z G bF mF IH oS bS mS oU bU mU oB bB mB (zkO FP Z GN BR IH bF mF) bP mP
end K74
namespace K74
open PySem L2
set_option maxHeartbeats 4000000 in
theorem all_mk {l:W.OpenLaw} {w:World} {K:W.Frag} {h:Heap} {mg:Str→Option Value} {fa aK C CN CT CP CM aO CZ CE f1 f2 f3 f4 f5 f6 f7 f8 f9 f10 f11 f12 f13 f14 f15 f16 f17 f18 f19 f20 f21 f22 f23 f24 f25 f26 f27 f28 f29 f30 f31 f32 f33 f34 f35 f36 f37 f38 f39 f40 f41 f42 f43 f44 f45 f46 f47 f48:Addr} (X:K.In h) (G:h.Ns mainGlobals mg) (hfa:mg "law"=some (.ref fa))
  {d1 d2 d3 d4 d5 d6 d7 d8 d9 d10 d11 d12 d13 d14 d15 d16 d17 d18 d19 d20 d21 d22 d23 d24 d25 d26 d27 d28 d29 d30 d31 d32 d33 d34 d35 d36 d37 d38 d39 d40 d41 d42 d43 d44 d45 d46 d47 d48:FuncData} {odK:Option Addr} {slK:Array (Option Value)} {t1 t2 t3 t4 t5 t6 t7 u1 u2 u3 u4 u5 u6 u7 u8:Tok} {nK:Nat} {odO:Option Addr} {slO:Array (Option Value)} {w1 w2 w3 w4 w5:Tok} {nO:Nat}
  (aC:W.nsIn K mainGlobals "Problem"=some (some (.ref C)))
  (aN:W.nsIn K mainGlobals "BadName"=some (some (.ref CN)))
  (aT:W.nsIn K mainGlobals "BadTerm"=some (some (.ref CT)))
  (aP:W.nsIn K mainGlobals "BadPart"=some (some (.ref CP)))
  (aM:W.nsIn K mainGlobals "TooMany"=some (some (.ref CM)))
  (aZ:W.nsIn K mainGlobals "Namer"=some (some (.ref CZ)))
  (aE:W.nsIn K mainGlobals "ChoiceError"=some (some (.ref CE)))
  (y1:FT K "is_word" "is_word" zgC f1 d1)
  (y2:FT K "is_name" "is_name" zgD f2 d2)
  (y3:FT K "ask_name" "ask_name" zfQ f3 d3)
  (y4:FT K "once_each" "once_each" zi4 f4 d4)
  (y5:FT K "place_of" "place_of" zhv f5 d5)
  (y6:FT K "inner_trees" "inner_trees" F74.s_inner_trees f6 d6)
  (y7:FT K "inner_formulas" "inner_formulas" F74.s_inner_formulas f7 d7)
  (y8:FT K "add_tree" "add_tree" zds f8 d8)
  (y9:FT K "plain_names" "plain_names" zdm f9 d9)
  (y10:FT K "new_name" "new_name" zeO f10 d10)
  (y11:FT K "pair_rows" "pair_rows" zei f11 d11)
  (y12:FT K "named" "named" zgB f12 d12)
  (y13:FT K "_law_cell_at" "_law_cell_at" F74.s__law_cell_at f13 d13)
  (y14:FT K "_law_mixed" "_law_mixed" F74.s__law_mixed f14 d14)
  (y15:FT K "_law_word" "_law_word" F74.s__law_word f15 d15)
  (y16:FT K "_law_names" "_law_names" F74.s__law_names f16 d16)
  (y17:FT K "_law_tree" "_law_tree" F74.s__law_tree f17 d17)
  (y18:FT K "_law_grown" "_law_grown" F74.s__law_grown f18 d18)
  (y19:FT K "_law_formulas" "_law_formulas" F74.s__law_formulas f19 d19)
  (y20:FT K "_law_taken" "_law_taken" zdR f20 d20)
  (y21:FT K "_law_term" "_law_term" zdg f21 d21)
  (y22:FT K "_law_same" "_law_same" zej f22 d22)
  (y23:FT K "_law_plain" "_law_plain" zdT f23 d23)
  (y24:FT K "_law_spare" "_law_spare" zdS f24 d24)
  (y25:FT K "_law_new" "_law_new" zeQ f25 d25)
  (y26:FT K "_law_put" "_law_put" zeP f26 d26)
  (y27:FT K "_law_unlike" "_law_unlike" zaQ f27 d27)
  (y28:FT K "_law_part" "_law_part" zb9 f28 d28)
  (y29:FT K "_law_due" "_law_due" zeR f29 d29)
  (y30:FT K "_law_alike" "_law_alike" zdU f30 d30)
  (y31:FT K "_law_refused" "_law_refused" zdc f31 d31)
  (y32:FT K "_law_bad" "_law_bad" za1 f32 d32)
  (y33:FT K "law" "law" zcU f33 d33)
  (y34:FM K C "__init__" "Problem.__init__" zi5 f34 d34)
  (y35:FM K C "ask_term" "Problem.ask_term" zfO f35 d35)
  (y36:FM K C "ask_part" "Problem.ask_part" zfP f36 d36)
  (y37:FM K C "add_term" "Problem.add_term" sAdd f37 d37)
  (y38:FM K C "add_plain" "Problem.add_plain" zhu f38 d38)
  (y39:FM K C "add_same" "Problem.add_same" zi3 f39 d39)
  (y40:FM K C "add_row" "Problem.add_row" sRow f40 d40)
  (y41:FM K CZ "__init__" "Namer.__init__" zcG f41 d41)
  (y42:FM K CZ "new_atom" "Namer.new_atom" zcF f42 d42)
  (y43:FM K CZ "put_rows" "Namer.put_rows" zcE f43 d43)
  (y44:FM K CZ "same_part" "Namer.same_part" zbX f44 d44)
  (y45:FM K CZ "unlike_part" "Namer.unlike_part" zan f45 d45)
  (y46:FM K CZ "bare_part" "Namer.bare_part" zcv f46 d46)
  (y47:FM K CZ "pair_part" "Namer.pair_part" zbY f47 d47)
  (y48:FM K CZ "formula_part" "Namer.formula_part" zby f48 d48)
  (s1:W.nsIn K mainGlobals "SMALL_LETTERS"=some (some (.str abc t1)))
  (s2:W.nsIn K mainGlobals "LONGEST_NAME"=some (some (.int 8 t2)))
  (s3:W.nsIn K mainGlobals "MOST_TERM_PARTS"=some (some (.int 3 t3)))
  (s4:W.nsIn K mainGlobals "MOST_TERMS"=some (some (.int 60 t4)))
  (s5:W.nsIn K mainGlobals "MOST_ATOMS"=some (some (.int 40 t5)))
  (s6:W.nsIn K mainGlobals "MOST_ROW_PARTS"=some (some (.int 20 t6)))
  (s7:W.nsIn K mainGlobals "MOST_ROWS"=some (some (.int 200 t7)))
  (s8:W.nsIn K mainGlobals "KEPT_WORDS"=some (some (.ref aK)))
  (s9:K.lookup aK=some ⟨.type "tuple",odK,.seq #[.str "or" u1,.str "and" u2,.str "not" u3,.str "never" u4,.str "always" u5,.str "then" u6,.str "as" u7,.str "unlike" u8] nK,slK⟩)
  (z_len:W.nsIn K mainGlobals "len"=some none)
  (z_all:W.nsIn K mainGlobals "all"=some none)
  (z_range:W.nsIn K mainGlobals "range"=some none)
  (z_isinstance:W.nsIn K mainGlobals "isinstance"=some none)
  (z_bool:W.nsIn K mainGlobals "bool"=some none)
  (z_tuple:W.nsIn K mainGlobals "tuple"=some none)
  (z_abs:W.nsIn K mainGlobals "abs"=some none)
  (z_list:W.nsIn K mainGlobals "list"=some none)
  (z_int:W.nsIn K mainGlobals "int"=some none)
  (z_str:W.nsIn K mainGlobals "str"=some none)
  (z_divmod:W.nsIn K mainGlobals "divmod"=some none)
  (z_enumerate:W.nsIn K mainGlobals "enumerate"=some none)
  (z_ValueError:W.nsIn K mainGlobals "ValueError"=some none)
  (pg:W.plainGet K C Str.empty=true)
  (hd:W.hasDictIn K C=true)
  (po:W.plainOver K C=true)
  (sa:W.findIn K (.ref C) "__setattr__"=some (some (.builtin "object.__setattr__")))
  (mk:W.makesIn K C=true)
  (kc:W.keepIn K (.ref C)=true)
  (nT:W.findIn K (.ref C) "terms"=some none)
  (nA:W.findIn K (.ref C) "atoms"=some none)
  (nR:W.findIn K (.ref C) "rows"=some none)
  (xN:W.excIn K CN bmV "ValueError.__new__"=true)
  (xT:W.excIn K CT bmV "ValueError.__new__"=true)
  (xP:W.excIn K CP bmV "ValueError.__new__"=true)
  (xM:W.excIn K CM bmV "ValueError.__new__"=true)
  (o3:W.nsIn K mainGlobals "OF_FORMULAS"=some (some (.ref aO)))
  (o4:K.lookup aO=some ⟨.type "tuple",odO,.seq #[.str "not" w1,.str "and" w2,.str "or" w3,.str "then" w4,.str "as" w5] nO,slO⟩)
  (zg:W.plainGet K CZ Str.empty=true)
  (zd:W.hasDictIn K CZ=true)
  (zo:W.plainOver K CZ=true)
  (zs:W.findIn K (.ref CZ) "__setattr__"=some (some (.builtin "object.__setattr__")))
  (zm:W.makesIn K CZ=true)
  (zk:W.keepIn K (.ref CZ)=true)
  (zp:W.findIn K (.ref CZ) "problem"=some none)
  (zt:W.findIn K (.ref CZ) "taken"=some none)
  (zn:W.findIn K (.ref CZ) "tries"=some none)
  (e_mm:W.exmOne K (.ref CM) (.ref CM)=some true)
  (e_nm:W.exmOne K (.ref CN) (.ref CM)=some false)
  (e_nn:W.exmOne K (.ref CN) (.ref CN)=some true)
  (e_pe:W.exmOne K (.ref CN) (.ref CE)=some true)
  (e_kv:W.kitOne K (.ref CN) (.type "ValueError")=some true)
  (e_ne:CN≠CE)
  : ∃ fd:FuncData,(∀(s:Shared) (v:Value),BindsTo s fd ⟨[v],[]⟩ [("_law_script",v)])∧∀ base:Heap,K.In base→base.Ns mainGlobals mg→FnOk l.prog w K mg base CX0 38 fa fd ["_law_script"] (zf6 K):=by
 have e:=hfa.symm.trans (y33.m X G)
 cases e
 have T:Txt K mg aK C CN CT CP CM:=⟨⟨_,W.mg_of X G s1⟩,⟨_,W.mg_of X G s2⟩,⟨_,W.mg_of X G s3⟩,⟨_,W.mg_of X G s4⟩,⟨_,W.mg_of X G s5⟩,⟨_,W.mg_of X G s6⟩,⟨_,W.mg_of X G s7⟩,W.mg_of X G s8,fun H=>.inr ⟨_,_,_,s9,rfl,rfl,(by show 8≤sizeLine;decide),.cons ⟨_,rfl⟩ (.cons ⟨_,rfl⟩ (.cons ⟨_,rfl⟩ (.cons ⟨_,rfl⟩ (.cons ⟨_,rfl⟩ (.cons ⟨_,rfl⟩ (.cons ⟨_,rfl⟩ (.cons ⟨_,rfl⟩ .nil)))))))⟩,W.mg_none_of X G z_len,W.mg_none_of X G z_all,W.mg_none_of X G z_range,W.mg_none_of X G z_isinstance,W.mg_none_of X G z_bool,W.mg_none_of X G z_tuple,W.mg_none_of X G z_abs,W.mg_of X G aN,W.mg_of X G aT,W.mg_of X G aP,W.mg_of X G aM,xN,xT,xP,xM,⟨pg,hd,po,sa⟩,nT,nA,nR⟩
 have TF:F74.Txt K mg aK aO:=⟨W.mg_none_of X G z_len,W.mg_none_of X G z_list,W.mg_none_of X G z_tuple,W.mg_none_of X G z_range,W.mg_none_of X G z_int,W.mg_none_of X G z_isinstance,W.mg_none_of X G z_str,W.mg_of X G o3,fun H=>.inr ⟨_,_,_,o4,rfl,rfl,(by show 5≤sizeLine;decide),.cons ⟨_,rfl⟩ (.cons ⟨_,rfl⟩ (.cons ⟨_,rfl⟩ (.cons ⟨_,rfl⟩ (.cons ⟨_,rfl⟩ .nil))))⟩⟩
 have TN:TxN mg:=⟨W.mg_none_of X G z_divmod,W.mg_none_of X G z_enumerate⟩
 have TZ:TxZ K mg CZ:=⟨⟨zg,zd,zo,zs⟩,zp,zt,zn⟩
 have EM:Exm K mg CE CN CM:=⟨W.mg_of X G aE,e_mm,e_nm,e_nn,e_pe,e_kv,W.mg_none_of X G z_ValueError,e_ne⟩
 have b1:ar K d1 ["text"] []:=y1.F.b1 fun _ _ _ _ _ _ _=>rfl
 have b2:ar K d2 ["word"] []:=y2.F.b1 fun _ _ _ _ _ _ _=>rfl
 have b3:ar K d3 ["word"] []:=y3.F.b1 fun _ _ _ _ _ _ _=>rfl
 have b4:ar K d4 ["parts"] []:=y4.F.b1 fun _ _ _ _ _ _ _=>rfl
 have b5:ar K d5 ["thing","things","most"] []:=y5.F.b3 fun _ _ _ _ _ _ _ _ _=>rfl
 have b6:ar K d6 ["formula"] []:=y6.F.b1 fun _ _ _ _ _ _ _=>rfl
 have b7:ar K d7 ["formula"] []:=y7.F.b1 fun _ _ _ _ _ _ _=>rfl
 have b8:ar K d8 ["problem","tree"] []:=y8.F.b2 fun _ _ _ _ _ _ _ _=>rfl
 have b9:ar K d9 ["formulas"] []:=y9.F.b1 fun _ _ _ _ _ _ _=>rfl
 have b10:ar K d10 ["number"] []:=y10.F.b1 fun _ _ _ _ _ _ _=>rfl
 have b11:ar K d11 ["kind","new","one","other"] []:=y11.F.b4 fun _ _ _ _ _ _ _ _ _ _=>rfl
 have b12:ar K d12 ["formulas"] []:=y12.F.b1 fun _ _ _ _ _ _ _=>rfl
 have b13:ar K d13 ["_law_script","_law_k"] []:=y13.F.b2 fun _ _ _ _ _ _ _ _=>rfl
 have b14:ar K d14 ["_law_cell","_law_k"] []:=y14.F.b2 fun _ _ _ _ _ _ _ _=>rfl
 have b15:ar K d15 ["_law_cell","_law_size"] []:=y15.F.b2 fun _ _ _ _ _ _ _ _=>rfl
 have b16:ar K d16 ["_law_cell"] []:=y16.F.b1 fun _ _ _ _ _ _ _=>rfl
 have b17:ar K d17 ["_law_cell","_law_names_here","_law_deep"] []:=y17.F.b3 fun _ _ _ _ _ _ _ _ _=>rfl
 have b18:ar K d18 ["_law_pile","_law_cell","_law_names_here"] []:=y18.F.b3 fun _ _ _ _ _ _ _ _ _=>rfl
 have b19:ar K d19 ["_law_script","_law_begin","_law_names_here","_law_many"] []:=y19.F.b4 fun _ _ _ _ _ _ _ _ _ _=>rfl
 have b20:ar K d20 ["_law_formula"] []:=y20.F.b1 fun _ _ _ _ _ _ _=>rfl
 have b21:ar K d21 ["_law_due_here","_law_tree_here"] []:=y21.F.b2 fun _ _ _ _ _ _ _ _=>rfl
 have b22:ar K d22 ["_law_due_here","_law_one","_law_other"] []:=y22.F.b3 fun _ _ _ _ _ _ _ _ _=>rfl
 have b23:ar K d23 ["_law_due_here","_law_name"] []:=y23.F.b2 fun _ _ _ _ _ _ _ _=>rfl
 have b24:ar K d24 ["_law_k"] []:=y24.F.b1 fun _ _ _ _ _ _ _=>rfl
 have b25:ar K d25 ["_law_due_here","_law_taken_here"] []:=y25.F.b2 fun _ _ _ _ _ _ _ _=>rfl
 have b26:ar K d26 ["_law_due_here","_law_row"] []:=y26.F.b2 fun _ _ _ _ _ _ _ _=>rfl
 have b27:ar K d27 ["_law_due_here","_law_trees","_law_taken_here"] []:=y27.F.b3 fun _ _ _ _ _ _ _ _ _=>rfl
 have b28:ar K d28 ["_law_due_here","_law_formula","_law_taken_here"] []:=y28.F.b3 fun _ _ _ _ _ _ _ _ _=>rfl
 have b29:ar K d29 ["_law_formulas_here"] []:=y29.F.b1 fun _ _ _ _ _ _ _=>rfl
 have b30:ar K d30 ["_law_problem","_law_due_here"] []:=y30.F.b2 fun _ _ _ _ _ _ _ _=>rfl
 have b31:ar K d31 ["_law_formulas_here"] []:=y31.F.b1 fun _ _ _ _ _ _ _=>rfl
 have b32:ar K d32 ["_law_formulas_here","_law_cell"] []:=y32.F.b2 fun _ _ _ _ _ _ _ _=>rfl
 have b34:ar K d34 ["self"] []:=y34.F.b1 fun _ _ _ _ _ _ _=>rfl
 have b35:ar K d35 ["self","number"] []:=y35.F.b2 fun _ _ _ _ _ _ _ _=>rfl
 have b36:ar K d36 ["self","part"] []:=y36.F.b2 fun _ _ _ _ _ _ _ _=>rfl
 have b37:ar K d37 ["self","name","parts"] []:=y37.F.b3 fun _ _ _ _ _ _ _ _ _=>rfl
 have b38:ar K d38 ["self","name"] []:=y38.F.b2 fun _ _ _ _ _ _ _ _=>rfl
 have b39:ar K d39 ["self","one","other"] []:=y39.F.b3 fun _ _ _ _ _ _ _ _ _=>rfl
 have b40:ar K d40 ["self","parts"] []:=y40.F.b2 fun _ _ _ _ _ _ _ _=>rfl
 have b41:ar K d41 ["self","formulas"] []:=y41.F.b2 fun _ _ _ _ _ _ _ _=>rfl
 have b42:ar K d42 ["self"] []:=y42.F.b1 fun _ _ _ _ _ _ _=>rfl
 have b43:ar K d43 ["self","rows"] []:=y43.F.b2 fun _ _ _ _ _ _ _ _=>rfl
 have b44:ar K d44 ["self","formula"] []:=y44.F.b2 fun _ _ _ _ _ _ _ _=>rfl
 have b45:ar K d45 ["self","formula"] []:=y45.F.b2 fun _ _ _ _ _ _ _ _=>rfl
 have b46:ar K d46 ["self","formula"] []:=y46.F.b2 fun _ _ _ _ _ _ _ _=>rfl
 have b47:ar K d47 ["self","formula"] []:=y47.F.b2 fun _ _ _ _ _ _ _ _=>rfl
 have b48:ar K d48 ["self","formula"] []:=y48.F.b2 fun _ _ _ _ _ _ _ _=>rfl
 refine⟨_,y33.F.top fun _ _ _ _ _ _ _=>rfl,fun base _ _=>?_⟩
 have G1:=zkd (P:=l.prog) (w:=w) (base:=base) y1.F T
 have G2:=zke y2.F T G1 b1 y1.k (y1.m X G)
 have G3:=zjl y3.F T G2 b2 y2.k (y2.m X G)
 have G4:=zls (P:=l.prog) (w:=w) (base:=base) y4.F T
 have G5:=zkN (P:=l.prog) (w:=w) (base:=base) y5.F T
 have G34:=zlz (P:=l.prog) (w:=w) (base:=base) y34.F T
 have G35:=zjj (P:=l.prog) (w:=w) (base:=base) y35.F T
 have G36:=zjk (P:=l.prog) (w:=w) (base:=base) y36.F T
 have G37:=ok_add y37.F T G3 b3 y3.k (y3.m X G) G35 b35 y35.M G5 b5 y5.k (y5.m X G)
 have G38:=zkM y38.F T G3 b3 y3.k (y3.m X G) G5 b5 y5.k (y5.m X G)
 have G39:=zlq y39.F T G35 b35 y35.M G5 b5 y5.k (y5.m X G)
 have G40:=ok_row y40.F T G36 b36 y36.M G4 b4 y4.k (y4.m X G)
 have GR4:=G40.mono (k:=4) (by decide)
 have GS4:=G39.mono (k:=4) (by decide)
 have MKI:Mk K C f34:=⟨mk,y34.a,y34.i,kc⟩
 have OW:Own l.prog w K mg base C CN CT CP CM f34 f37 f38 f39 f40 _ _ _ _ _:=⟨G34,b34,MKI,W.mg_of X G aC,G37,b37,y37.M,G38,b38,y38.M,GS4,b39,y39.M,GR4,b40,y40.M⟩
 have G6:=F74.ok_itrees (P:=l.prog) (w:=w) (base:=base) y6.F TF
 have G7:=F74.ok_ifms (P:=l.prog) (w:=w) (base:=base) y7.F TF
 have G8:=zgn y8.F T OW b8 y8.k (y8.m X G) 3
 have BTR:FB l.prog w K mg base (CX1 l.prog w) 8 "add_tree" f8 _ ["problem","tree"] (zdr K C CN CM 3):=⟨G8,b8,y8.k,(y8.m X G)⟩
 have G9:=ok_pn y9.F b9 y9.k (y9.m X G) ⟨G7,b7,y7.k,(y7.m X G)⟩ 13
 have G10:=zjh (P:=l.prog) (w:=w) (base:=base) y10.F T TN
 have G11:=zlr (mg:=mg) (P:=l.prog) (w:=w) (base:=base) y11.F
 have G43:=ok_put y43.F T TZ OW
 have G42:=zji y42.F T TZ OW ⟨G10,b10,y10.k,(y10.m X G)⟩
 have OZ:OwN l.prog w K mg base CZ C CN CM f43 f42 _ _:=⟨G43,b43,y43.M,G42,b42,y42.M⟩
 have G46:=zlA y46.F TZ OZ
 have G44:=zkL y44.F T TZ OW ⟨G6,b6,y6.k,(y6.m X G)⟩ BTR
 have G45:=zj9 y45.F T TN TZ OW OZ ⟨G6,b6,y6.k,(y6.m X G)⟩ BTR
 have G48:FnOk l.prog w K mg base (CX1 l.prog w) 34 f48 _ ["self","formula"] (zbL K CZ C CN CM fun g=>F74.fdp g≤12):=zh0 y48.F T TZ OW OZ b48 y48.M G44 b44 y44.M G45 b45 y45.M G46 b46 y46.M y47.F b47 y47.M ⟨G11,b11,y11.k,(y11.m X G)⟩ 12
 have G41:=zkP y41.F TZ OW ⟨G9,b9,y9.k,(y9.m X G)⟩
 have MKZ:Mk K CZ f41:=⟨zm,y41.a,y41.i,zk⟩
 have G12:=zkQ y12.F TZ OZ G41 b41 MKZ (W.mg_of X G aZ) G48 b48 y48.M
 have BNM:FB l.prog w K mg base (CX1 l.prog w) 35 "named" f12 _ ["formulas"] (zdK K C CN CM):=⟨G12,b12,y12.k,(y12.m X G)⟩
 have G13:=F74.ok_cell (P:=l.prog) (w:=w) (base:=base) y13.F TF
 have G14:=F74.ok_mixed (mg:=mg) (P:=l.prog) (w:=w) (base:=base) y14.F
 have G15:=F74.ok_word y15.F TF ⟨G14,b14,y14.k,(y14.m X G)⟩
 have G16:=F74.ok_names y16.F ⟨G15,b15,y15.k,(y15.m X G)⟩
 have G17:=F74.ok_ltr y17.F TF b17 y17.k (y17.m X G) ⟨G14,b14,y14.k,(y14.m X G)⟩ 3
 have G18:=F74.ok_grown y18.F TF ⟨G17,b17,y17.k,(y17.m X G)⟩ ⟨G14,b14,y14.k,(y14.m X G)⟩
 have G19:=F74.ok_formulas y19.F TF ⟨G18,b18,y18.k,(y18.m X G)⟩ ⟨G14,b14,y14.k,(y14.m X G)⟩ ⟨G13,b13,y13.k,(y13.m X G)⟩
 have G20:=zg6 (P:=l.prog) (w:=w) (base:=base) y20.F b20 y20.k (y20.m X G) 12
 have G21:=zhY (P:=l.prog) (w:=w) (base:=base) y21.F T b21 y21.k (y21.m X G) 3
 have G22:=zkR (mg:=mg) (P:=l.prog) (w:=w) (base:=base) y22.F
 have G23:=zkb (mg:=mg) (P:=l.prog) (w:=w) (base:=base) y23.F
 have G24:=zka (mg:=mg) (P:=l.prog) (w:=w) (base:=base) y24.F
 have G25:=zlw y25.F ⟨G24,b24,y24.k,(y24.m X G)⟩ ⟨G23,b23,y23.k,(y23.m X G)⟩
 have G26:=zlv (P:=l.prog) (w:=w) (base:=base) y26.F T
 have G27:=zlt y27.F T ⟨G21,b21,y21.k,(y21.m X G)⟩ ⟨G22,b22,y22.k,(y22.m X G)⟩ ⟨G25,b25,y25.k,(y25.m X G)⟩ ⟨G26,b26,y26.k,(y26.m X G)⟩
 have G28:=zhZ y28.F TF b28 y28.k (y28.m X G) ⟨G23,b23,y23.k,(y23.m X G)⟩ ⟨G21,b21,y21.k,(y21.m X G)⟩ ⟨G22,b22,y22.k,(y22.m X G)⟩ ⟨G25,b25,y25.k,(y25.m X G)⟩ ⟨G26,b26,y26.k,(y26.m X G)⟩ ⟨G27,b27,y27.k,(y27.m X G)⟩ 12
 have G29:=zlx y29.F ⟨G20,b20,y20.k,(y20.m X G)⟩ ⟨G28,b28,y28.k,(y28.m X G)⟩ ⟨G26,b26,y26.k,(y26.m X G)⟩
 have G30:=zkc (P:=l.prog) (w:=w) (base:=base) y30.F T
 have G31:=zlu y31.F T TF EM BNM
 have G32:=zly y32.F T ⟨G29,b29,y29.k,(y29.m X G)⟩ ⟨G31,b31,y31.k,(y31.m X G)⟩
 exact ok_law y33.F T TF EM OW BNM ⟨G29,b29,y29.k,(y29.m X G)⟩ ⟨G30,b30,y30.k,(y30.m X G)⟩ ⟨G13,b13,y13.k,(y13.m X G)⟩ ⟨G32,b32,y32.k,(y32.m X G)⟩ ⟨G16,b16,y16.k,(y16.m X G)⟩ ⟨G19,b19,y19.k,(y19.m X G)⟩
theorem walk {l:W.OpenLaw} {q:Program} {loose:List Str} {XP:(Str→Option Value)→Heap→Prop} {YP:World→Heap→Prop} {d:DefRec} {K:Params→W.Frag} (hn:l.most=some 63) (hdf:d.params.defaults=[])
  (hY:∀(w:World) (h:Heap),YP w h→(K w.params).In h)
  (F:∀(w:World) (mg:Str→Option Value) (fa:Addr) (h:Heap),(K w.params).In h→h.Ns mainGlobals mg→mg d.name=some (.ref fa) →
   ∃ fd:FuncData,(∀(s:Shared) (u:Value),BindsTo s fd ⟨[u],[]⟩ [("_law_script",u)])∧∀ base:Heap,(K w.params).In base→base.Ns mainGlobals mg→FnOk l.prog w (K w.params) mg base CX0 38 fa fd ["_law_script"] (zf6 (K w.params))) :
  W.WalkO q loose XP YP l.row.toRowW d [] (fun f vs=>PySem.call f vs) :=
 L2.walk_of (n:=63) (k:=38) (x:="_law_script") (CX:=fun _=>CX0) (sp:=fun w=>zf6 (K w.params)) hn (by decide) hdf ⟨rfl,by decide,by decide,rfl⟩ hY F (fun _ _ a ns hl _ hS=>⟨a,ns,rfl,hS,hl,fun _=>rfl⟩) fun _ _ _ _ _ z=>z
end K74
namespace PySem.W.Fast
def tw3152173212076321383:=()
def tw12242713878521439862:=()
def tw12056787818445110959:=()
def tw13290872570371760178:=()
def tw14143945485678957620:=()
def tw11453372883977339750:=()
def tw13377025511860700645:=()
def tw16984816497830875921:=()
def tw14475611631231748869:=()
def tw17322711027949944853:=()
def tw5330984700681199980:=()
def tw12912440510714033550:=()
def tw16143766240438806808:=()
def tw4443905244635981929:=()
def tw3976593342788791203:=()
def tw6390933633778777520:=()
def tw11000504813353376909:=()
def tw6380206859393887344:=()
def tw4714391785886714836:=()
def tw5721293554680900001:=()
def tw1584888208593472117:=()
def tw13724165278589507215:=()
def tw14888907391554893062:=()
def tw17044613633439434908:=()
def tw14974421145660213136:=()
def tw7304635172265259973:=()
def tw12265077799776925839:=()
def tw2840463128333767332:=()
def tw14920693600523603755:=()
def tw9912457057237809535:=()
def tw17427609228655002511:=()
def tw11082502375568179357:=()
def tw3867085251929974124:=()
def tw17292006459259029619:=()
def tw1738761526663490270:=()
def tw17261737583473779932:=()
def tw4804051594745401439:=()
def tw4478420843918221020:=()
def tw2602856703251399736:=()
def tw4344037409111505422:=()
def tw14356450073115678165:=()
def tw7014227382537257245:=()
def tw7346594290903044639:=()
def tw3860763404262557292:=()
def tw4477645072193042097:=()
def tw2817996776673539788:=()
def tw6889689998226098071:=()
def tw10235536479941596435:=()
def tw4167704051092931664:=()
def tw13538619233499035529:=()
def tw749719452165705516:=()
def tw12064842005405388564:=()
def tw7784815393552896534:=()
def tw13422457015487409808:=()
def tw7459412424934905958:=()
def tw5324095725555185788:=()
def tw3344753653533954641:=()
def tw5818097336096425066:=()
def tw15803436460082292387:=()
def tw9611224331371681438:=()
def tw1207355421792092766:=()
def tw10660888956777159706:=()
def tw13419559723090659983:=()
def tw4038961710045118890:=()
def tw3768883304451885925:=()
def tw4637878598661283758:=()
def tw17726456145252902388:=()
def tw7875961187763328702:=()
def tw9965061700816549344:=()
def tw17841702607025112593:=()
def tw6576032937934071563:=()
def tw4487825771890402110:=()
def tw6159757151405264148:=()
def tw14055696655038413437:=()
def tw6979487792899029712:=()
def tw11356171384014984291:=()
def tw11775237569546523835:=()
def tw141720038018857135:=()
def tw2914289050434020691:=()
def tw11990106144438471324:=()
def tw10420180744051136715:=()
def tw17715885659407876586:=()
def tw11275723231475305470:=()
def tw8323209090105095547:=()
def tw5783108109025144057:=()
def tw6825794620317420111:=()
def tw15602703949140571409:=()
def tw13456472087736962501:=()
def tw16942295498278257813:=()
def tw1517075903812940899:=()
def tw7871730607162292991:=()
def tw14319011834320355943:=()
def tw1955888195902730331:=()
def tw13267159943386760637:=()
def tw3905422178679533513:=()
def tw17835209915029035023:=()
def tw6656667358511212579:=()
def tw9976996420947606929:=()
def tw5020724862864472278:=()
def tw14718462277129024148:=()
def tw11131919845509295218:=()
def tw7980931259661085043:=()
def tw3018833183118343176:=()
def tw1157581647788088131:=()
def tw15670551400635289736:=()
def tw13384225254859371285:=()
def tw1451288426022260670:=()
def tw13158433783511162928:=()
def tw489914100540131420:=()
def tw13921370299848729510:=()
def tw9096301872066813297:=()
def tw14929131410379352241:=()
def tw13245211852485619470:=()
def tw4511612801162271024:=()
def tw13664831788231853902:=()
def tw17469569433555589583:=()
def tw15401050520270193448:=()
def tw3383519971021672386:=()
def tw15398786817332498268:=()
def tw5216791100915876116:=()
def tw487226189336812827:=()
def tw10773976035679475030:=()
def tw17264670683132373408:=()
def tw17174840558641708665:=()
def tw15797915126102728483:=()
def tw9206824045944476254:=()
def tw6136998868614808817:=()
def tw11423053132354139273:=()
def tw3464953031571382045:=()
def tw4700802578990817121:=()
def tw10983404587591810256:=()
def tw15827726866703173229:=()
def tw14129487943436683458:=()
def tw8999676350096416249:=()
def tw5327257130482160800:=()
def tw14497696188607471216:=()
def tw3612655005040962339:=()
def tw7969703285885416556:=()
def tw8928186436272544482:=()
def tw7516331872819355084:=()
def tw15528597575711983386:=()
def tw17690400495786858837:=()
def tw12764210682293611533:=()
def tw16981240278290157461:=()
def tw14319363435228374409:=()
def tw8371241627892409909:=()
def tw11617102705386633250:=()
def tw11826220355385027861:=()
def tw7023891691891481840:=()
def tw2189442715412078902:=()
def tw3246937669825771328:=()
def tw4580294284770975306:=()
def tw6156867075090206523:=()
def tw6851714206669414169:=()
def tw16559239737705587843:=()
def tw5448394219631372515:=()
def tw1032929064209832491:=()
def tw7448836403156774:=()
def tw11982758997450881884:=()
def tw15659458245837837327:=()
def tw4395033091794991749:=()
def tw717154364249815640:=()
def tw11732822559083414122:=()
def tw3375726265576330854:=()
def tw5347617545704256640:=()
def tw18125138928807386325:=()
def tw1193181757550728713:=()
def tw14138871199192369011:=()
def tw14241253198080308990:=()
def tw11192246894468057283:=()
def tw6913786012149441126:=()
def tw3661725652598678542:=()
def tw15922645168578477678:=()
def tw5280941210746744629:=()
def tw11169338656264029340:=()
def tw4562699688503258402:=()
def tw305917198890723904:=()
def tw10810130441484988524:=()
def tw6521438029421022984:=()
def tw4190565607045977693:=()
def tw12190501017550748783:=()
def tw7068229356676359275:=()
def tw8937747552771923662:=()
def tw17704999208020650657:=()
def tw15972726695652392759:=()
def tw18275457545168260315:=()
def tw13130350901191767997:=()
def tw17466173923928221648:=()
def tw15748521825383255171:=()
def tw13183019170319672170:=()
def tw4693315419116915011:=()
def tw14502751267151593343:=()
def tw16531941574341374851:=()
def tw15405431990432561835:=()
def tw8794951293578585650:=()
def tw11602456504021379820:=()
def tw5298284807792314276:=()
def tw6749313065592808530:=()
def tw16973914339104403634:=()
def tw2591073691690473587:=()
def tw14746807608015587768:=()
def tw12566169270160660623:=()
def tw8435618040906045497:=()
def tw8723030073296281455:=()
def tw3681166932796671074:=()
def tw6087813072374032749:=()
def tw14225639185531369603:=()
def tw12631508070617671259:=()
def tw10984204594738926638:=()
def tw5735329712218370109:=()
def tw4253264715799444879:=()
def tw13336956429582839179:=()
def tw16370090334727593939:=()
def tw18061094246660822574:=()
def tw12585839224851423561:=()
def tw3316512874604206741:=()
def tw2981443399531636417:=()
def tw216210962180155442:=()
def tw10970441363101417213:=()
def tw8998334665750482212:=()
def tw5017216935198952302:=()
def tw17364435433076296282:=()
def tw724119389232442352:=()
def tw15078794037177987412:=()
def tw3991801208706996659:=()
def tw17930108897620320154:=()
def tw18343487663487270798:=()
def tw3636052792083046251:=()
def tw8505717475130811573:=()
def tw10880218313680545096:=()
def tw4530280902760150285:=()
def tw3248991338382566234:=()
def tw1028145717751043613:=()
def tw3497586007863416466:=()
def tw1621878421192561338:=()
def tw2975405136969844006:=()
def tw11981422617525940344:=()
def tw9647801474664618381:=()
def tw8109970567738977659:=()
def tw4635451258749462544:=()
def tw677349788875967690:=()
def tw9668211892685132210:=()
def tw11353749959866183245:=()
def tw8289192350325913672:=()
def tw9005257224057243075:=()
def tw1978583391524784725:=()
def tw10098125932538203563:=()
def tw14005731143561918188:=()
def tw8991523458898175463:=()
def tw3359778413186851447:=()
def tw3581178050860803747:=()
def tw3864258851348999937:=()
def tw1752210966201569374:=()
def tw2476162009376266113:=()
def tw6541706122228769811:=()
def tw3600820295685635727:=()
def tw17607090435591635451:=()
def tw14581377380508791620:=()
def tw16419852014030922517:=()
def tw9075080348116854507:=()
def tw2358500459318575676:=()
def tw17722606405095867007:=()
def tw15559170562825482590:=()
def tw15060813079188511997:=()
def tw17713520350982969580:=()
def tw14658231985915441521:=()
def tw17974557505366893985:=()
def tw8094257840845422211:=()
def tw5137956762429772069:=()
def tw5546523771954108327:=()
def tw15317499364832519220:=()
def tw7202829545419049777:=()
def tw17089613919957480367:=()
def tw9551537556689246899:=()
def tw2130719208712384026:=()
def tw12005102202364237239:=()
def tw17198786393530979237:=()
def tw7290819649724448900:=()
def tw5992114441713317918:=()
def tw12648123084998250984:=()
def tw2707994273391732060:=()
def tw270100080004025203:=()
def tw18000511057978568554:=()
def tw12279136959087811649:=()
def tw13157907208479954815:=()
def tw10137327760157797414:=()
def tw13756507745166006424:=()
def tw10260191180969159202:=()
def tw9821339345377086772:=()
def tw14882952516095733717:=()
def tw5025256265040403471:=()
def tw15845176496305288169:=()
def tw17550997630513685319:=()
def tw13812169517610093145:=()
def tw4825287930022825934:=()
def tw7816417207641150337:=()
def tw2514984050105452755:=()
def tw17042428161792579460:=()
def tw13921026025966557307:=()
def tw2513996496429347054:=()
def tw10166266694549223098:=()
def tw3776314588558912770:=()
def tw14912552595769992882:=()
def tw8985554242860137968:=()
def tw5611556245695173019:=()
def tw4406877632880310947:=()
def tw11320852384383356546:=()
def tw15217697238722378614:=()
def tw8999814590799063055:=()
def tw16922238866527292933:=()
def tw7525558977817005493:=()
def tw11405880177557378095:=()
def tw273676276225627181:=()
def tw13012288849319999299:=()
def tw2702424346995562379:=()
def tw14827166971563492005:=()
def tw16910750672157214626:=()
def tw15908688960152157819:=()
def tw17452562593663731483:=()
def tw6664536120603359780:=()
def tw2318727312453422421:=()
def tw13772774603059129548:=()
def tw14079002866278063918:=()
def tw9779001397777577754:=()
def tw13804928700872850746:=()
def tw12233984148664359998:=()
def tw7929705400664658471:=()
def tw11483036612321303737:=()
def tw6988975688385393296:=()
def tw7831570859213455222:=()
def tw9996435027413883408:=()
def tw11053024837614815559:=()
def tw11829786544213768815:=()
def tw15288300852782117854:=()
def tw15123572554457803700:=()
def tw17094278072008614351:=()
def tw11937507079655314276:=()
def tw3835270077900607933:=()
def tw6904240172463756894:=()
def tw5519805602285716448:=()
def tw16331239277918490114:=()
def tw14860181789119990488:=()
def tw17241615863404378876:=()
def tw8177232013752548852:=()
def tw17623169022988554562:=()
def tw11402401097515077989:=()
def tw17162610192953360971:=()
def tw14006086138795786860:=()
def tw17862470294445582405:=()
def tw16462651145091029130:=()
def tw6579194456323351480:=()
def tw17826759407178692904:=()
def tw13364803892278278498:=()
def tw6146593002276139557:=()
def tw15769363986714871:=()
def tw12353773283793989298:=()
def tw17947908473167591427:=()
def tw6068164032057804396:=()
def tw9209571299020263739:=()
def tw9387634720342924579:=()
def tw4244029528240562696:=()
def tw2383060205327421181:=()
def tw17538860010821228961:=()
def tw13633195583269559125:=()
def tw8753209809751730275:=()
def tw8156133171494038813:=()
def tw1455832743827482778:=()
def tw2402973231552895190:=()
def tw6579143200932888576:=()
def tw9989627115067255798:=()
def tw157127144954688531:=()
def tw1254449110791994046:=()
def tw4257523853466936297:=()
def tw4485142029944946501:=()
def tw9412407236111144180:=()
def tw589231141850223856:=()
def tw12467115057660772205:=()
def tw1371426108918411427:=()
def tw16705363982072653387:=()
def tw14774493025355881442:=()
def tw122935543259492199:=()
def tw1279115042171114574:=()
def tw18081312720211655061:=()
def tw11168447466365173286:=()
def tw16287658694494464315:=()
def tw73846048613333338:=()
def tw16395883511808404887:=()
def tw16782204876391580874:=()
def tw987170905191555859:=()
def tw18059555760689518634:=()
def tw1933606143988327662:=()
def tw9660405252650434128:=()
def tw9518296602083420672:=()
def tw14554539729948542234:=()
def tw2401842454485018203:=()
def tw15110210471051444775:=()
def tw7647525364058900079:=()
def tw16322179753906028904:=()
def tw7840466521587150650:=()
def tw9096448927806842659:=()
def tw10699584406776351222:=()
def tw9262092747649957906:=()
end PySem.W.Fast
open PySem PySem.W PyProof.Rows
set_option maxRecDepth 100000 in
set_option maxHeartbeats 0 in
theorem PySem.Challenge.cw_yesorno_k74_named_problem_holds : PySem.Challenge.rw_yesorno_k74_named_problem.Holds := by
 w_on;o_law;k_head;(case hw=>w_witness2)
 k_fill
 refine K74.walk (l:=PySem.Challenge.rw_yesorno_k74_named_problem) rfl rfl (fun w h Y=>W.kIn_of Y) ?F
 case F =>
  intro w mg fa h KX G hmg
  refine' K74.all_mk KX G hmg ?aC ?aN ?aT ?aP ?aM ?aZ ?aE ?y1 ?y2 ?y3 ?y4 ?y5 ?y6 ?y7 ?y8 ?y9 ?y10 ?y11 ?y12 ?y13 ?y14 ?y15 ?y16 ?y17 ?y18 ?y19 ?y20 ?y21 ?y22 ?y23 ?y24 ?y25 ?y26 ?y27 ?y28 ?y29 ?y30 ?y31 ?y32 ?y33 ?y34 ?y35 ?y36 ?y37 ?y38 ?y39 ?y40 ?y41 ?y42 ?y43 ?y44 ?y45 ?y46 ?y47 ?y48 ?s1 ?s2 ?s3 ?s4 ?s5 ?s6 ?s7 ?s8 ?s9 ?z_len ?z_all ?z_range ?z_isinstance ?z_bool ?z_tuple ?z_abs ?z_list ?z_int ?z_str ?z_divmod ?z_enumerate ?z_ValueError ?pg ?hd ?po ?sa ?mk ?kc ?nT ?nA ?nR ?xN ?xT ?xP ?xM ?o3 ?o4 ?zg ?zd ?zo ?zs ?zm ?zk ?zp ?zt ?zn ?e_mm ?e_nm ?e_nn ?e_pe ?e_kv ?e_ne
  (case aC=>k_is)
  (case aN=>k_is)
  (case aT=>k_is)
  (case aP=>k_is)
  (case aM=>k_is)
  (case aZ=>k_is)
  (case aE=>k_is)
  (case y1=>exact L2.ft_in (by k_is) (by k_is) (by k_is) (by k_is))
  (case y2=>exact L2.ft_in (by k_is) (by k_is) (by k_is) (by k_is))
  (case y3=>exact L2.ft_in (by k_is) (by k_is) (by k_is) (by k_is))
  (case y4=>exact L2.ft_in (by k_is) (by k_is) (by k_is) (by k_is))
  (case y5=>exact L2.ft_in (by k_is) (by k_is) (by k_is) (by k_is))
  (case y6=>exact L2.ft_in (by k_is) (by k_is) (by k_is) (by k_is))
  (case y7=>exact L2.ft_in (by k_is) (by k_is) (by k_is) (by k_is))
  (case y8=>exact L2.ft_in (by k_is) (by k_is) (by k_is) (by k_is))
  (case y9=>exact L2.ft_in (by k_is) (by k_is) (by k_is) (by k_is))
  (case y10=>exact L2.ft_in (by k_is) (by k_is) (by k_is) (by k_is))
  (case y11=>exact L2.ft_in (by k_is) (by k_is) (by k_is) (by k_is))
  (case y12=>exact L2.ft_in (by k_is) (by k_is) (by k_is) (by k_is))
  (case y13=>exact L2.ft_in (by k_is) (by k_is) (by k_is) (by k_is))
  (case y14=>exact L2.ft_in (by k_is) (by k_is) (by k_is) (by k_is))
  (case y15=>exact L2.ft_in (by k_is) (by k_is) (by k_is) (by k_is))
  (case y16=>exact L2.ft_in (by k_is) (by k_is) (by k_is) (by k_is))
  (case y17=>exact L2.ft_in (by k_is) (by k_is) (by k_is) (by k_is))
  (case y18=>exact L2.ft_in (by k_is) (by k_is) (by k_is) (by k_is))
  (case y19=>exact L2.ft_in (by k_is) (by k_is) (by k_is) (by k_is))
  (case y20=>exact L2.ft_in (by k_is) (by k_is) (by k_is) (by k_is))
  (case y21=>exact L2.ft_in (by k_is) (by k_is) (by k_is) (by k_is))
  (case y22=>exact L2.ft_in (by k_is) (by k_is) (by k_is) (by k_is))
  (case y23=>exact L2.ft_in (by k_is) (by k_is) (by k_is) (by k_is))
  (case y24=>exact L2.ft_in (by k_is) (by k_is) (by k_is) (by k_is))
  (case y25=>exact L2.ft_in (by k_is) (by k_is) (by k_is) (by k_is))
  (case y26=>exact L2.ft_in (by k_is) (by k_is) (by k_is) (by k_is))
  (case y27=>exact L2.ft_in (by k_is) (by k_is) (by k_is) (by k_is))
  (case y28=>exact L2.ft_in (by k_is) (by k_is) (by k_is) (by k_is))
  (case y29=>exact L2.ft_in (by k_is) (by k_is) (by k_is) (by k_is))
  (case y30=>exact L2.ft_in (by k_is) (by k_is) (by k_is) (by k_is))
  (case y31=>exact L2.ft_in (by k_is) (by k_is) (by k_is) (by k_is))
  (case y32=>exact L2.ft_in (by k_is) (by k_is) (by k_is) (by k_is))
  (case y33=>exact L2.ft_in (by k_is) (by k_is) (by k_is) (by k_is))
  (case y34=>exact L2.fm_in (by k_is) (by k_is) (by k_is) (by k_is) (by k_is))
  (case y35=>exact L2.fm_in (by k_is) (by k_is) (by k_is) (by k_is) (by k_is))
  (case y36=>exact L2.fm_in (by k_is) (by k_is) (by k_is) (by k_is) (by k_is))
  (case y37=>exact L2.fm_in (by k_is) (by k_is) (by k_is) (by k_is) (by k_is))
  (case y38=>exact L2.fm_in (by k_is) (by k_is) (by k_is) (by k_is) (by k_is))
  (case y39=>exact L2.fm_in (by k_is) (by k_is) (by k_is) (by k_is) (by k_is))
  (case y40=>exact L2.fm_in (by k_is) (by k_is) (by k_is) (by k_is) (by k_is))
  (case y41=>exact L2.fm_in (by k_is) (by k_is) (by k_is) (by k_is) (by k_is))
  (case y42=>exact L2.fm_in (by k_is) (by k_is) (by k_is) (by k_is) (by k_is))
  (case y43=>exact L2.fm_in (by k_is) (by k_is) (by k_is) (by k_is) (by k_is))
  (case y44=>exact L2.fm_in (by k_is) (by k_is) (by k_is) (by k_is) (by k_is))
  (case y45=>exact L2.fm_in (by k_is) (by k_is) (by k_is) (by k_is) (by k_is))
  (case y46=>exact L2.fm_in (by k_is) (by k_is) (by k_is) (by k_is) (by k_is))
  (case y47=>exact L2.fm_in (by k_is) (by k_is) (by k_is) (by k_is) (by k_is))
  (case y48=>exact L2.fm_in (by k_is) (by k_is) (by k_is) (by k_is) (by k_is))
  (case s1=>k_is)
  (case s2=>k_is)
  (case s3=>k_is)
  (case s4=>k_is)
  (case s5=>k_is)
  (case s6=>k_is)
  (case s7=>k_is)
  (case s8=>k_is)
  (case s9=>k_is)
  (case z_len=>k_is)
  (case z_all=>k_is)
  (case z_range=>k_is)
  (case z_isinstance=>k_is)
  (case z_bool=>k_is)
  (case z_tuple=>k_is)
  (case z_abs=>k_is)
  (case z_list=>k_is)
  (case z_int=>k_is)
  (case z_str=>k_is)
  (case z_divmod=>k_is)
  (case z_enumerate=>k_is)
  (case z_ValueError=>k_is)
  (case pg=>k_is)
  (case hd=>k_is)
  (case po=>k_is)
  (case sa=>k_is)
  (case mk=>k_is)
  (case kc=>k_is)
  (case nT=>k_is)
  (case nA=>k_is)
  (case nR=>k_is)
  (case xN=>k_exc)
  (case xT=>k_exc)
  (case xP=>k_exc)
  (case xM=>k_exc)
  (case o3=>k_is)
  (case o4=>k_is)
  (case zg=>k_is)
  (case zd=>k_is)
  (case zo=>k_is)
  (case zs=>k_is)
  (case zm=>k_is)
  (case zk=>k_is)
  (case zp=>k_is)
  (case zt=>k_is)
  (case zn=>k_is)
  (case e_mm=>kts_exm)
  (case e_nm=>kts_exm)
  (case e_nn=>kts_exm)
  (case e_pe=>kts_exm)
  (case e_kv=>kit_is)
  (case e_ne=>decide)
