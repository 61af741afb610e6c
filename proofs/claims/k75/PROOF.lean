import PyProof.Rows.All
import Wide.All
import OpenK.AllK
import Wide.FinOn
import Lean
import PyProof.EqAt
import PyProof.EqKinds
import PyProof.TupleCall
import PySem.Challenge.RW_yesorno_k75_whole_named_holds
set_option Elab.async false
set_option linter.all false
set_option maxRecDepth 100000
namespace L2
open PySem PySem.Spec PyProof.Rows
abbrev Key:=Sum Int Str
def ze8:Key→Value→Bool
  | .inl k,v=>Value.isInt k v
  | .inr x,v=>Value.isStrOf x v
def keyH (w:World):Key→Int
  | .inl k=>hashInt k
  | .inr x=>hashStr w x
theorem zbf:∀ {k:Key} {v:Value},ze8 k v=true→(∃ i t,k=Sum.inl i∧v=Value.int i t)∨(∃ x t,k=Sum.inr x∧v=Value.str x t)
  | .inl i,v,h=>by
    obtain⟨t,e⟩:=Value.isInt_shape (k:=i) (v:=v) h
    exact .inl ⟨i,t,rfl,e⟩
  | .inr x,v,h=>by
    obtain⟨t,e⟩:=Value.isStrOf_shape (x:=x) (v:=v) h
    exact .inr ⟨x,t,rfl,e⟩
theorem zkQ (i:Int) (t:Tok):ze8 (.inl i) (.int i t)=true:=by simp [ze8,Value.isInt]
theorem zkP (x:Str) (t:Tok):ze8 (.inr x) (.str x t)=true:=by simp [ze8,Value.isStrOf]
theorem key_ll (a b:Int):decide ((Sum.inl a:Key)=Sum.inl b)=(a == b):=by
  by_cases e:a=b
  · subst e;simp
  · have h:¬(Sum.inl a:Key)=Sum.inl b:=fun q=>e (Sum.inl.inj q)
    rw[decide_eq_false h]
    exact(beq_eq_false_iff_ne.mpr e).symm
theorem key_rr (a b:Str):decide ((Sum.inr a:Key)=Sum.inr b)=decide (a=b):=by
  by_cases e:a=b
  · subst e;simp
  · have h:¬(Sum.inr a:Key)=Sum.inr b:=fun q=>e (Sum.inr.inj q)
    rw[decide_eq_false h,decide_eq_false e]
theorem key_lr (a:Int) (b:Str):decide ((Sum.inl a:Key)=Sum.inr b)=false:=decide_eq_false (fun q=>nomatch q)
theorem key_rl (a:Str) (b:Int):decide ((Sum.inr a:Key)=Sum.inl b)=false:=decide_eq_false (fun q=>nomatch q)
def zbc (prog:Program) (w:World):PySem.KeyKind prog w Key where
  is:=ze8
  hash:=keyH w
  inj:=fun v a b ha hb=>by
    rcases zbf ha with ⟨i,t,rfl,rfl⟩ | ⟨x,t,rfl,rfl⟩
    · rcases zbf hb with ⟨j,u,rfl,e⟩ | ⟨y,u,rfl,e⟩
      · injection e with e1 _;rw[e1]
      · exact nomatch e
    · rcases zbf hb with ⟨j,u,rfl,e⟩ | ⟨y,u,rfl,e⟩
      · exact nomatch e
      · injection e with e1 _;rw[e1]
  byValue:=fun k v h=>by
    rcases zbf h with ⟨i,t,rfl,rfl⟩ | ⟨x,t,rfl,rfl⟩ <;> rfl
  pyHash:=fun hv h=>by
    rcases zbf hv with ⟨i,t,rfl,rfl⟩ | ⟨x,t,rfl,rfl⟩
    · exact wpAny_pyHash_int h
    · exact wpAny_pyHash_str h
  eqBool:=fun hu hv h=>by
    rcases zbf hu with ⟨i,t,rfl,rfl⟩ | ⟨x,t,rfl,rfl⟩
    · rcases zbf hv with ⟨j,u,rfl,rfl⟩ | ⟨y,u,rfl,rfl⟩
      · rw[key_ll]at h;exact wpAny_eqBool_int h
      · rw[key_lr]at h;exact SeqAt.EqAt.int_str i t y u _ _ _ _ h
    · rcases zbf hv with ⟨j,u,rfl,rfl⟩ | ⟨y,u,rfl,rfl⟩
      · rw[key_rl]at h;exact SeqAt.EqAt.str_int x t j u _ _ _ _ h
      · rw[key_rr]at h;exact wpAny_eqBool_str h
  «strs»:=fun k x t v h=>by
    rcases zbf h with ⟨i,u,rfl,e⟩ | ⟨y,u,rfl,e⟩
    · exact nomatch e
    · injection e with e1 _
      subst e1
      cases v <;> rfl
theorem ziF (prog:Program) (w:World) (i:Int) (t:Tok):(zbc prog w).is (.inl i) (.int i t)=true:=zkQ i t
theorem ziE (prog:Program) (w:World) (x:Str) (t:Tok):(zbc prog w).is (.inr x) (.str x t)=true:=zkP x t
end L2
namespace L2
open PySem PySem.Spec PyProof.Rows
inductive V where
  | non | bl (b:Bool) | int (i:Int) | str (x:Str) | byt (b:Array UInt8) | flt (b:UInt64) | ref (a:Addr) | ty (n:String)
  deriving DecidableEq
def aG:V→Value→Prop
  | .non,u=>u=Value.none
  | .bl b,u=>u=Value.bool b
  | .int i,u=>∃ t,u=Value.int i t
  | .str x,u=>∃ t,u=Value.str x t
  | .byt b,u=>∃ t,u=Value.bytes b t
  | .flt b,u=>∃ t,u=Value.float b t
  | .ref a,u=>u=Value.ref a
  | .ty n,u=>u=Value.type n
abbrev aD:List V→List Value→Prop:=Paired aG
theorem aD.length {xs:List V} {us:List Value} (r:aD xs us):xs.length=us.length:=Paired.length r
theorem aD.get:∀ {xs:List V} {us:List Value} {i:Nat} {x:V},aD xs us→xs[i]?=some x→∃ u,us[i]?=some u∧aG x u
  | _,_,_,_,.nil,e=>by simp at e
  | _,_,0,_,.cons r _,e=>by simp at e;subst e;exact⟨_,rfl,r⟩
  | _,_,i+1,x,.cons _ t,e=>by
    obtain⟨u,h1,h2⟩:=aD.get (i:=i) (x:=x) t (by simpa using e)
    exact⟨u,by simpa using h1,h2⟩
theorem aD.set {x:V} {u:Value} (r:aG x u):∀ {xs:List V} {us:List Value} (i:Nat),aD xs us→aD (xs.set i x) (us.set i u)
  | _,_,_,.nil=>.nil
  | _,_,0,.cons _ t=>.cons r t
  | _,_,i+1,.cons q t=>.cons q (aD.set r i t)
theorem aD.append:∀ {xs ys:List V} {us ws:List Value},aD xs us→aD ys ws→aD (xs++ys) (us++ws)
  | _,_,_,_,.nil,s=>s
  | _,_,_,_,.cons r t,s=>.cons r (aD.append t s)
theorem aD.take:∀ {xs:List V} {us:List Value} (n:Nat),aD xs us→aD (xs.take n) (us.take n)
  | _,_,0,_=>.nil
  | _,_,_+1,.nil=>.nil
  | _,_,n+1,.cons r t=>.cons r (aD.take n t)
theorem aD.drop:∀ {xs:List V} {us:List Value} (n:Nat),aD xs us→aD (xs.drop n) (us.drop n)
  | _,_,0,r=>r
  | _,_,_+1,.nil=>.nil
  | _,_,n+1,.cons _ t=>aD.drop n t
def zcS:Option V→Option Value→Prop
  | some v,some u=>aG v u
  | none,none=>True
  | _,_=>False
def KV {κ:Type}:List (κ × V)→List (κ × Value)→Prop:=Paired fun(p:κ × V) (q:κ × Value)=>p.1=q.1∧aG p.2 q.2
def kV:Key→V
  | .inl i=>.int i
  | .inr x=>.str x
inductive HO where
    | lst (xs:List V)
    | tup (xs:List V)
    | dK (kvs:List (Key × V)) | dT (kvs:List (List Key × V))
    | set (S:Int→Bool) (n:Nat)
    | ins (C dx:Addr) (fs:List (Str × V))
    | own (x:Addr)
    | xd (fs:List (Str × V))
    | met (f x:Addr)
    | rng (lo hi:Int)
    | frz (o:Obj) (u:HO)
    | tbl (ps:Array Value)
    | ext (φ:Heap→Prop)
abbrev Hp:=Addr→Option HO
def upd (H:Hp) (a:Addr) (o:HO):Hp:=fun b=>if b=a then some o else H b
theorem ad {H:Hp} {a:Addr} {o:HO}:upd H a o a=some o:=by unfold upd;rw[if_pos rfl]
theorem aq {H:Hp} {a b:Addr} {o:HO} (h:b≠a):upd H a o b=H b:=by unfold upd;rw[if_neg h]
theorem ziK {H:Hp} {a:Addr} {o u:HO}:upd (upd H a o) a u=upd H a u:=by
  funext b;unfold upd;split <;> rfl
theorem zds {H:Hp} {a b:Addr} {o u:HO} (h:H a=some o) (h':H b=some u) (d:o≠u):a≠b:=by
  intro e;subst e;rw[h]at h';exact d (Option.some.inj h')
theorem zag {H:Hp} {a b:Addr} {o:HO} (h:H a=some o) (h':H b=none):a≠b:=by
  intro e;subst e;rw[h]at h';cases h'
section
variable (P:Program) (w:World)
def zaT (H:Hp) (h:Heap) (a:Addr):HO→Prop
  | .lst xs=>xs.length≤sizeLine∧∃(its:List Value) (n:Nat),aD xs its∧h.get? a=some { cls:=.type "list",data:=.seq its.toArray n }
  | .tup xs=>xs.length≤sizeLine∧∃ its:List Value,aD xs its∧IsTup h a its.toArray
  | .dK kvs=>kvs.length≤sizeLine∧(a == sysModules)=false∧∃ vs,KV kvs vs∧h.DictOf (zbc P w) a vs
  | .dT kvs=>kvs.length≤sizeLine∧(a == sysModules)=false∧∃ xs:List (List Key × Addr × Value),
      Paired (fun(p:List Key × V) (q:List Key × Addr × Value)=>p.1=q.1∧H q.2.1=some (.tup (p.1.map kV))∧aG p.2 q.2.2) kvs xs ∧
      ∃ o es ep,h.get? a=some o∧o.ExactDict∧o.data=.dict es ep∧es.toList=xs.map (entryOfKey (tupleKind (zbc P w)))∧(xs.map (·.1)).Nodup
  | .set S n=>h.SetOf (intKind P w) a S n
  | .ins C dx fs=>H dx=some (.own a)∧fs.length≤1000∧dx≠a∧h.get? a=some (PySem.W.instObj C dx) ∧
      ∃ mA,h.Ns1 dx mA∧(∀ f,zcS (fs.lookup f) (mA f))∧PySem.Within mA (fs.map (·.1))
  | .own _=>∃ o,h.get? a=some o
  | .xd fs=>∃ mA,h.Ns1 a mA∧∀ f,zcS (fs.lookup f) (mA f)
  | .rng lo hi=>∃ t u v,h.get? a=some { cls:=.type "range",data:=.fields #[.int lo t,.int hi u,.int 1 v] }
  | .frz o u=>h.get? a=some o∧zaT H h a u
  | .tbl ps=>h.get? a=some { cls:=.none,data:=.fields ps }
  | .met f x=>h.get? a=some (PySem.W.methodObj (.ref f) (.ref x))
  | .ext φ=>φ h∧(∃ o,h.get? a=some o)∧∀ h1 h2:Heap,φ h1→(∀ o,h1.get? a=some o→h2.get? a=some o)→φ h2
def HOk (H:Hp) (h:Heap):Prop:=∀ a o,H a=some o→zaT P w H h a o
end
section
variable {P:Program} {w:World} {H H':Hp} {h h':Heap} {a:Addr} {o:HO}
theorem zaT.lt (x:zaT P w H h a o):a < h.objs.size:=by
  cases o with
  | lst xs=>obtain⟨_,_,_,_,e⟩:=x;exact Heap.lt_size e
  | tup xs=>obtain⟨_,_,_,p⟩:=x;exact p.lt
  | dK kvs=>obtain⟨_,_,_,_,o,_,_,e,_⟩:=x;exact Heap.lt_size e
  | dT kvs=>obtain⟨_,_,_,_,o,_,_,e,_⟩:=x;exact Heap.lt_size e
  | set S n=>obtain⟨o,_,_,_,e,_⟩:=x;exact Heap.lt_size e
  | ins C dx fs=>obtain⟨_,_,_,e,_⟩:=x;exact Heap.lt_size e
  | own y=>obtain⟨_,e⟩:=x;exact Heap.lt_size e
  | xd fs=>obtain⟨_,⟨_,_,_,e,_⟩,_⟩:=x;exact Heap.lt_size e
  | rng lo hi=>obtain⟨_,_,_,e⟩:=x;exact Heap.lt_size e
  | frz ob u=>obtain⟨e,_⟩:=x;exact Heap.lt_size e
  | tbl ps=>exact Heap.lt_size (show h.get? a=some _ from x)
  | met f y=>exact Heap.lt_size (show h.get? a=some _ from x)
  | ext φ=>obtain⟨_,⟨_,e⟩,_⟩:=x;exact Heap.lt_size e
theorem Paired.mapP {α β:Type} {F G:α→β→Prop}:∀ {l₁:List α} {l₂:List β},Paired F l₁ l₂→(∀ a b,F a b→G a b)→Paired G l₁ l₂
  | _,_,.nil,_=>.nil
  | _,_,.cons r t,f=>.cons (f _ _ r) (Paired.mapP t f)
theorem zaT.stay (x:zaT P w H h a o) (k:∀ b u,(b=a∨H b=some (.own a))→h.get? b=some u→h'.get? b=some u)
    (ho:∀ b,H b=some (.own a)→H' b=some (.own a)) (ht:∀ b xs,H b=some (.tup xs)→H' b=some (.tup xs)):zaT P w H' h' a o:=by
  induction o with
  | lst xs=>obtain⟨z,its,n,r,e⟩:=x;exact⟨z,its,n,r,k _ _ (.inl rfl) e⟩
  | tup xs=>obtain⟨z,its,r,ob,e,c⟩:=x;exact⟨z,its,r,ob,k _ _ (.inl rfl) e,c⟩
  | dK kvs=>obtain⟨z,y,vs,r,ob,es,ep,e,c⟩:=x;exact⟨z,y,vs,r,ob,es,ep,k _ _ (.inl rfl) e,c⟩
  | dT kvs =>
    obtain⟨z,y,xs,r,ob,es,ep,e,c⟩:=x
    exact⟨z,y,xs,Paired.mapP r fun p q z=>⟨z.1,ht _ _ z.2.1,z.2.2⟩,ob,es,ep,k _ _ (.inl rfl) e,c⟩
  | set S n=>obtain⟨ob,es,ep,t,e,c⟩:=x;exact⟨ob,es,ep,t,k _ _ (.inl rfl) e,c⟩
  | ins C dx fs =>
    obtain⟨d,z,ne,e,mA,⟨od,es,ep,e2,c⟩,r⟩:=x
    exact⟨ho _ d,z,ne,k _ _ (.inl rfl) e,mA,⟨od,es,ep,k _ _ (.inr d) e2,c⟩,r⟩
  | own y=>obtain⟨ob,e⟩:=x;exact⟨ob,k _ _ (.inl rfl) e⟩
  | xd fs=>obtain⟨mA,⟨od,es,ep,e,c⟩,r⟩:=x;exact⟨mA,⟨od,es,ep,k _ _ (.inl rfl) e,c⟩,r⟩
  | rng lo hi=>obtain⟨t,u,v,e⟩:=x;exact⟨t,u,v,k _ _ (.inl rfl) e⟩
  | frz ob u ih=>obtain⟨e,q⟩:=x;exact⟨k _ _ (.inl rfl) e,ih q⟩
  | tbl ps =>
    have e:h.get? a=some { cls:=.none,data:=.fields ps }:=x
    show h'.get? a=some { cls:=.none,data:=.fields ps }
    exact k a _ (.inl rfl) e
  | met f y =>
    have e:h.get? a=some (PySem.W.methodObj (.ref f) (.ref y)):=x
    show h'.get? a=some (PySem.W.methodObj (.ref f) (.ref y))
    exact k a _ (.inl rfl) e
  | ext φ=>obtain⟨p,⟨o,e⟩,st⟩:=x;exact⟨st _ _ p fun o q=>k _ _ (.inl rfl) q,⟨o,k _ _ (.inl rfl) e⟩,st⟩
theorem HOk.lt (x:HOk P w H h) (e:H a=some o):a < h.objs.size:=(x a o e).lt
theorem HOk.fresh (x:HOk P w H h) (e:h.objs.size≤a):H a=none:=by
  cases q:H a with
  | none=>rfl
  | some u=>exact absurd (Nat.lt_of_lt_of_le (x.lt q) e) (Nat.lt_irrefl _)
theorem HOk.kept (x:HOk P w H h) (k:∀ b u,h.get? b=some u→h'.get? b=some u):HOk P w H h':=fun a o e =>
  (x a o e).stay (fun b u _ q=>k b u q) (fun _ q=>q) fun _ _ q=>q
theorem HOk.laid (x:HOk P w H h) (k:∀ b u,h.get? b=some u→h'.get? b=some u) (hp:h.objs.size≤a) (new:zaT P w (upd H a o) h' a o):HOk P w (upd H a o) h':=fun b u e=>by
  have hn:=x.fresh hp
  by_cases hb:b=a
  · subst hb;rw[ad]at e;cases e;exact new
  · rw[aq hb]at e
    exact(x b u e).stay (fun c v _ q=>k c v q) (fun c q=>by rw[aq (zag q hn)];exact q) fun c xs q=>by rw[aq (zag q hn)];exact q
end
def Rd (H:Hp) (a:Addr) (u:HO):Prop:=H a=some u∨∃ o,H a=some (.frz o u)
theorem Rd.ok {P:Program} {w:World} {H:Hp} {h:Heap} {a:Addr} {u:HO} (r:Rd H a u) (x:HOk P w H h):zaT P w H h a u:=by
  rcases r with r | ⟨o,r⟩
  · exact x a u r
  · obtain⟨_,q⟩:=x a _ r
    exact q
def Mut:Option HO→Prop
  | some (.lst _)=>True
  | some (.dK _)=>True
  | some (.dT _)=>True
  | some (.set _ _)=>True
  | some (.ins _ _ _)=>True
  | some (.ext _)=>True
  | _=>False
section
variable {P:Program} {w:World} {H:Hp} {h h':Heap} {x e:Addr} {o':HO}
theorem HOk.write (ok:HOk P w H h) (mu:Mut (H x)) (he:e=x∨H e=some (.own x)) (k:∀ b u,b≠e→h.get? b=some u→h'.get? b=some u) (heo:∃ u,h'.get? e=some u)
    (new:zaT P w (upd H x o') h' x o'):HOk P w (upd H x o') h':=fun b u q=>by
  have nown:∀ c y,H c=some (.own y)→c≠x:=fun c y r z=>by subst z;rw[r]at mu;exact mu
  have ntup:∀ c xs,H c=some (.tup xs)→c≠x:=fun c xs r z=>by subst z;rw[r]at mu;exact mu
  by_cases hb:b=x
  · subst hb;rw[ad]at q;cases q;exact new
  · rw[aq hb]at q
    by_cases hbe:b=e
    · have q':H b=some (.own x):=by
        rcases he with z | z
        · exact absurd (hbe.trans z) hb
        · rw[hbe];exact z
      rw[q]at q';cases q'
      obtain⟨v,hv⟩:=heo
      exact⟨v,by rw[hbe];exact hv⟩
    · refine(ok b u q).stay (fun c v hc r=>k c v ?_ r) (fun c r=>by rw[aq (nown c b r)];exact r) fun c xs r=>by rw[aq (ntup c xs r)];exact r
      rcases hc with rfl | hc
      · exact hbe
      · rintro rfl
        rcases he with z | z
        · exact nown c b hc z
        · rw[hc]at z;cases z;exact hb rfl
end
structure Un (fs ex:List Addr) (H H':Hp) (h h':Heap):Prop where
  keep:∀ b o,h.get? b=some o→H b=none→b∉fs→b∉ex→h'.get? b=some o
  slot:∀ b o,h.get? b=some o→H b=none→b∈fs→b∉ex→∃ sl,h'.get? b=some { o with slots:=sl }
  free:∀ b o,h.get? b=some o→H b=none→b∉ex→H' b=none
  there:∀ b o,h.get? b=some o→b∉ex→∃ o',h'.get? b=some o'
  tups:∀ b xs,H b=some (.tup xs)→H' b=some (.tup xs)
  frzs:∀ b o u,H b=some (.frz o u)→H' b=some (.frz o u)
  tbls:∀ b ps,H b=some (.tbl ps)→∃ more,H' b=some (.tbl (ps++more))
section
variable {fs fs' ex ex':List Addr} {H H1 H2:Hp} {h h1 h2 h':Heap} {a x e:Addr} {o:HO}
theorem Un.any (u:Un fs ex H H1 h h1) {b:Addr} {ob:Obj} (q:h.get? b=some ob) (n:H b=none) (hx:b∉ex):∃ sl,h1.get? b=some { ob with slots:=sl }:=by
  by_cases hb:b∈fs
  · exact u.slot b ob q n hb hx
  · exact⟨ob.slots,u.keep b ob q n hb hx⟩
theorem Un.trans (a:Un fs ex H H1 h h1) (b:Un fs ex H1 H2 h1 h2):Un fs ex H H2 h h2 where
  keep:=fun c ob q n hc hx=>b.keep c ob (a.keep c ob q n hc hx) (a.free c ob q n hx) hc hx
  slot:=fun c ob q n hc hx=>by
    obtain⟨sl,e1⟩:=a.slot c ob q n hc hx
    obtain⟨sl',e2⟩:=b.slot c _ e1 (a.free c ob q n hx) hc hx
    exact⟨sl',e2⟩
  free:=fun c ob q n hx=>by
    obtain⟨o',e1⟩:=a.there c ob q hx
    exact b.free c o' e1 (a.free c ob q n hx) hx
  there:=fun c ob q hx=>by
    obtain⟨o',e1⟩:=a.there c ob q hx
    exact b.there c o' e1 hx
  tups:=fun c xs q=>b.tups c xs (a.tups c xs q)
  frzs:=fun c ob xs q=>b.frzs c ob xs (a.frzs c ob xs q)
  tbls:=fun c ps q=>by
    obtain⟨m1,e1⟩:=a.tbls c ps q
    obtain⟨m2,e2⟩:=b.tbls c _ e1
    exact⟨m1++m2,by rw[e2,Array.append_assoc]⟩
theorem Un.kept (k:∀ b u,h.get? b=some u→h'.get? b=some u):Un fs ex H H h h' :=
  ⟨fun b ob q _ _ _=>k b ob q,fun b ob q _ _ _=>⟨ob.slots,k b ob q⟩,fun _ _ _ n _=>n,fun b ob q _=>⟨ob,k b ob q⟩,fun _ _ q=>q,fun _ _ _ q=>q,fun _ ps q=>⟨#[],by rw[q];simp⟩⟩
theorem Un.refl:Un fs ex H H h h:=Un.kept fun _ _ q=>q
theorem Un.laid (k:∀ b u,h.get? b=some u→h'.get? b=some u) (hp:h.objs.size≤a) (hn:H a=none):Un fs ex H (upd H a o) h h' where
  keep:=fun b u q _ _ _=>k b u q
  slot:=fun b u q _ _ _=>⟨u.slots,k b u q⟩
  free:=fun b u q n _=>by rw[aq (Nat.ne_of_lt (Nat.lt_of_lt_of_le (Heap.lt_size q) hp))];exact n
  there:=fun b u q _=>⟨u,k b u q⟩
  tups:=fun b xs q=>by rw[aq (zag q hn)];exact q
  frzs:=fun b u xs q=>by rw[aq (zag q hn)];exact q
  tbls:=fun b ps q=>⟨#[],by rw[aq (zag q hn),q];simp⟩
theorem Un.write (mu:Mut (H x)) (he:e=x∨H e=some (.own x)) (k:∀ b u,b≠e→h.get? b=some u→h'.get? b=some u) (heo:∃ u,h'.get? e=some u):Un fs ex H (upd H x o) h h':=by
  have hx:∀ b,H b=none→b≠x:=fun b n z=>by subst z;rw[n]at mu;exact mu
  have hb:∀ b,H b=none→b≠e:=fun b n z=>by
    subst z
    rcases he with r | r
    · exact hx b n r
    · rw[n]at r;cases r
  have hm:∀ b u,H b=some u→¬Mut (some u)→b≠x:=fun b u q nm z=>by subst z;rw[q]at mu;exact nm mu
  refine⟨fun b u q n _ _=>k b u (hb b n) q,fun b u q n _ _=>⟨u.slots,k b u (hb b n) q⟩,fun b u q n _=>by rw[aq (hx b n)];exact n,fun b u q _=>?_,
    fun b xs q=>by rw[aq (hm b _ q fun z=>z)];exact q,fun b u xs q=>by rw[aq (hm b _ q fun z=>z)];exact q,fun b ps q=>⟨#[],by rw[aq (hm b _ q fun z=>z),q];simp⟩⟩
  by_cases hbe:b=e
  · subst hbe;exact heo
  · exact⟨u,k b u hbe q⟩
end
def trk (h:Heap) (H:Hp):List Addr:=(List.range h.objs.size).filter fun a=>(H a).isSome
def zen (h:Heap) (H:Hp):Heap:=PySem.W.hideAll h (trk h H)
theorem zkS (h:Heap) (H:Hp):(zen h H).objs.size=h.objs.size:=PySem.W.hideAll_size _ _
theorem zlp {h:Heap} {H:Hp} {b:Addr} {o:Obj} (e:h.get? b=some o) (n:H b=none):(zen h H).get? b=some o :=
  PySem.W.hideAll_get _ e fun hm=>by
    have q:(H b).isSome=true:=(List.mem_filter.mp hm).2
    rw[n]at q;simp at q
theorem zl8 {h:Heap} {H:Hp} {b:Addr} {o:Obj} (e:(zen h H).get? b=some o):h.get? b=some o∧H b=none:=by
  have e':h.get? b=some o:=PySem.W.of_hideAll (trk h H) e
  refine⟨e',?_⟩
  cases q:H b with
  | none=>rfl
  | some x =>
    have hm:b∈trk h H:=List.mem_filter.mpr ⟨List.mem_range.mpr (Heap.lt_size e'),by simp [q]⟩
    have z:(zen h H).get? b=none:=PySem.W.hideAll_none (trk h H) hm
    rw[z]at e;cases e
def zmg (g h:Heap) (L:Addr):List (Addr × Obj):=(List.range h.objs.size).filterMap fun a=>if a=L∨(g.get? a).isSome=true then none else(h.get? a).map fun o=>(a,o)
def zby (g h:Heap) (L d:Addr):List (Addr × Obj):=(zmg g h L).filter fun p=>decide (p.1≠d)
end L2
namespace L2
open PySem PySem.Spec PyProof.Rows
structure Mod (K:PySem.W.Frag) (mg:Str→Option Value) (base:Heap):Prop where
  kin:K.In base
  glob:base.Ns mainGlobals mg
  blt:∃ mb,base.Ns builtinsNs mb∧∀ x:Str,x≠"__name__"→mb x=bootBuiltins x
  nolimit:base.NoLimit
structure Cx where
  prog:Program
  w:World
  K:PySem.W.Frag
  mg:Str→Option Value
  base:Heap
  A:Around
  N:List Str
  s₀:Shared
  H₀:Hp
  env:Env
  outer:List Env
  stack:List Env
  ex:List Addr
  fn:Str→Bool
  calm:Bool
  pn:List (Addr × Obj)
  xe:Value→Shared→Prop
def frs (l:List Env):List Addr:=l.filterMap (·.frame)
abbrev Cx.fs (X:Cx):List Addr:=frs X.outer
def Vis (sc:Scope) (x:Str):Prop:=sc.names.lookup x=some .local∨sc.names.lookup x=some .cell∨sc.names.lookup x=some .free
def Loc (sc:Scope) (x:Str):Prop:=sc.names.lookup x=some .local∨sc.names.lookup x=some .cell
def Look (env:Env) (h:Heap) (m:Str→Option Value) (x:Str) (u:Value):Prop :=
  (env.kindOf x=some .local∧m x=some u)∨((env.kindOf x=some .cell∨env.kindOf x=some .free)∧∃ c,env.cells.lookup x=some c∧h.IsCell c (some u))
structure Cx.Ok (X:Cx):Prop where
  mod:Mod X.K X.mg X.base
  kind:X.env.scope.kind=.function
  glob:X.env.globals=mainGlobals
  blt:X.env.builtins=builtinsNs
  above:X.s₀.heap.objs.size≤X.env.locals
  inj:∀ x y c,X.env.cells.lookup x=some c→X.env.cells.lookup y=some c→x=y
  has:∀ x,(X.env.kindOf x=some .cell∨X.env.kindOf x=some .free)→∃ c,X.env.cells.lookup x=some c
  cab:∀ x c,X.fn x=true→X.env.cells.lookup x=some c→X.s₀.heap.objs.size≤c
  hd:X.calm=true→X.A.handled=none
  frames:X.A.frames=some X.stack
  stk:X.stack=X.outer∨(X.stack=X.env :: X.outer∧X.env.frame=some X.env.locals)
  exf:∀ b∈X.ex,b≠X.env.locals∧∀ x c,X.env.cells.lookup x=some c→c≠b
  bs:∀ b o,X.base.get? b=some o→X.s₀.heap.get? b=some o∧X.H₀ b=none
  bsz:X.base.objs.size≤X.s₀.heap.objs.size
  noex:∀ b o,X.base.get? b=some o→b∉X.ex
  exfs:∀ b∈X.ex,b∉X.fs
  funs:X.s₀.heap.FunFrames X.base X.outer
  frf:∀ b∈X.fs,X.H₀ b=none
structure Inv (X:Cx) (pins:List (Addr × Obj)) (σ:List (Option V)) (H:Hp) (s:Shared):Prop where
  ok:X.Ok
  os:s.os=X.s₀.os
  bare:AllBare s.gens
  base:Un X.fs X.ex X.H₀ H X.s₀.heap s.heap
  loc:∃ m,s.heap.Ns X.env.locals m∧∀(i:Nat) (x:Str) (v:V),X.N[i]?=some x→σ[i]?=some (some v)→Vis X.env.scope x→∃ u,aG v u∧Look X.env s.heap m x u
  cell:∀ x c,X.env.cells.lookup x=some c→∃ v,s.heap.IsCell c v
  free:H X.env.locals=none
  freeC:∀ x c,X.env.cells.lookup x=some c→H c=none
  pin:∀ p∈X.pn++pins,s.heap.get? p.1=some p.2∧H p.1=none∧p.1≠X.env.locals∧p.1∉X.fs∧∀ v,p.2.data≠.cell v
  hok:HOk X.prog X.w H s.heap
  len:σ.length=X.N.length
section
variable {X:Cx} {pins:List (Addr × Obj)} {σ:List (Option V)} {H H':Hp} {s:Shared} {h':Heap}
theorem Cx.Ok.nofr (ok:X.Ok) {b:Addr} {o:Obj} (e:X.base.get? b=some o):b∉X.fs:=fun hb=>by
  have:=(ok.funs.mem hb).1
  rw[e]at this;cases this
theorem Inv.bs (I:Inv X pins σ H s):∀ b o,X.base.get? b=some o→s.heap.get? b=some o∧H b=none:=fun b o e =>
  ⟨I.base.keep b o (I.ok.bs b o e).1 (I.ok.bs b o e).2 (I.ok.nofr e) (I.ok.noex b o e),I.base.free b o (I.ok.bs b o e).1 (I.ok.bs b o e).2 (I.ok.noex b o e)⟩
theorem Inv.bk (I:Inv X pins σ H s):∀ b o,X.base.get? b=some o→s.heap.get? b=some o:=fun b o e=>(I.bs b o e).1
theorem Inv.mod (I:Inv X pins σ H s):Mod X.K X.mg X.base:=I.ok.mod
theorem Inv.kIn (I:Inv X pins σ H s):X.K.In s.heap:=I.ok.mod.kin.keeps I.bk
theorem Inv.fr (I:Inv X pins σ H s):∃ m,Fr X.base X.env.locals s.heap m :=
  let ⟨m,hn,_⟩:=I.loc
  ⟨m,hn,I.bk,Nat.le_trans I.ok.bsz I.ok.above⟩
theorem Inv.lt (I:Inv X pins σ H s):X.env.locals < s.heap.objs.size:=let ⟨_,hn,_⟩:=I.loc;hn.lt
theorem Inv.sz (I:Inv X pins σ H s):X.s₀.heap.objs.size≤s.heap.objs.size:=Nat.le_trans I.ok.above (Nat.le_of_lt I.lt)
theorem Inv.nofs (I:Inv X pins σ H s) {a:Addr} (h:s.heap.objs.size≤a):a∉X.fs:=fun hb=>by
  obtain⟨_,o,ho,_⟩:=I.ok.funs.mem hb
  exact absurd (Nat.lt_of_lt_of_le (Heap.lt_size ho) (Nat.le_trans I.sz h)) (Nat.lt_irrefl _)
theorem Inv.cne (I:Inv X pins σ H s):∀ x c,X.env.cells.lookup x=some c→c≠X.env.locals:=fun x c e z=>by
  obtain⟨v,o,ho,hd⟩:=I.cell x c e
  obtain⟨m,⟨o',es,ep,ho',hd',_⟩,_⟩:=I.loc
  rw[z,ho']at ho;cases ho;rw[hd']at hd;cases hd
theorem Inv.funs (I:Inv X pins σ H s):s.heap.FunFrames X.base X.outer:=by
  have all:∀(l:List Env),(∀ b∈frs l,b∈X.fs)→X.s₀.heap.FunFrames X.base l→s.heap.FunFrames X.base l:=by
    intro l
    induction l with
    | nil=>intro _ _;trivial
    | cons env r ih =>
      intro hs hl
      obtain⟨hk,⟨L,o,hf,hn,ho,hd⟩,hr⟩:=hl
      have hL:L∈X.fs:=hs L (by unfold frs;rw[List.filterMap_cons,hf];exact List.mem_cons_self)
      obtain⟨sl,e⟩:=I.base.slot L o ho (I.ok.frf L hL) hL fun z=>I.ok.exfs L z hL
      exact⟨hk,⟨L,_,hf,hn,e,hd⟩,ih (fun b hb=>hs b (by unfold frs;rw[List.filterMap_cons,hf];exact List.mem_cons_of_mem _ hb)) hr⟩
  exact all X.outer (fun _ hb=>hb) I.ok.funs
theorem Inv.stack (I:Inv X pins σ H s):s.heap.FunFrames X.base X.stack:=by
  rcases I.ok.stk with e | ⟨e,hf⟩
  · rw[e];exact I.funs
  · rw[e]
    obtain⟨m,hn,_⟩:=I.loc
    refine .cons (by rw[I.ok.kind];decide) hf hn ?_ I.funs
    exact Heap.get?_none_of_le (Nat.le_trans I.ok.bsz I.ok.above)
theorem Inv.stkSub (I:Inv X pins σ H s):∀ b∈frs X.stack,b∈X.env.locals :: X.fs:=fun b hb=>by
  rcases I.ok.stk with e | ⟨e,hf⟩
  · rw[e]at hb;exact List.mem_cons_of_mem _ hb
  · rw[e]at hb
    unfold frs at hb
    rw[List.filterMap_cons,hf]at hb
    exact hb
theorem Inv.stkFree (I:Inv X pins σ H s):∀ b∈frs X.stack,H b=none:=fun b hb=>by
  rcases List.mem_cons.mp (I.stkSub b hb) with e | hb
  · rw[e];exact I.free
  · obtain⟨_,o,ho,_⟩:=I.ok.funs.mem hb
    exact I.base.free b o ho (I.ok.frf b hb) fun z=>I.ok.exfs b z hb
theorem Inv.step {g':Array GenState} {t':Nat} {d':Drawn} {ch:List Addr} (I:Inv X pins σ H s)
    (hch:∀ b∈ch,(b∈X.ex∨X.s₀.heap.objs.size≤b)∧b≠X.env.locals∧(∀ x c,X.env.cells.lookup x=some c→c≠b)∧∀ p∈X.pn++pins,p.1≠b)
    (keep:∀ b o,b≠X.env.locals→b∉X.fs→b∉ch→s.heap.get? b=some o→H b=none→h'.get? b=some o)
    (slot:∀ b o,b≠X.env.locals→b∈X.fs→b∉ch→s.heap.get? b=some o→H b=none→∃ sl,h'.get? b=some { o with slots:=sl }) (free:∀ b o,b∉ch→s.heap.get? b=some o→H b=none→H' b=none)
    (there:∀ b o,b∉ch→s.heap.get? b=some o→∃ o',h'.get? b=some o')
    (tups:∀ b xs,H b=some (.tup xs)→H' b=some (.tup xs)) (frzs:∀ b o u,H b=some (.frz o u)→H' b=some (.frz o u)) (tbls:∀ b ps,H b=some (.tbl ps)→∃ more,H' b=some (.tbl (ps++more)))
    (ns:∀ m,s.heap.Ns X.env.locals m→h'.Ns X.env.locals m) (hok:HOk X.prog X.w H' h') (hg:AllBare g') :
    Inv X pins σ H' { s with heap:=h',gens:=g',drawn:=d',toks:=t' }:=by
  have neL:∀ b o,X.s₀.heap.get? b=some o→b≠X.env.locals:=fun b o e=>Nat.ne_of_lt (Nat.lt_of_lt_of_le (Heap.lt_size e) I.ok.above)
  have neC:∀ b o,X.s₀.heap.get? b=some o→b∉X.ex→b∉ch:=fun b o e hx hb=>by
    rcases(hch b hb).1 with z | z
    · exact hx z
    · exact absurd (Nat.lt_of_lt_of_le (Heap.lt_size e) z) (Nat.lt_irrefl _)
  have cellK:∀ x c,X.env.cells.lookup x=some c→∀ v,s.heap.IsCell c v→h'.IsCell c v:=fun x c e v ⟨o,ho,hd⟩=>by
    have nch:c∉ch:=fun z=>(hch c z).2.2.1 x c e rfl
    by_cases hc:c∈X.fs
    · obtain⟨sl,q⟩:=slot c o (I.cne x c e) hc nch ho (I.freeC x c e)
      exact⟨_,q,hd⟩
    · exact⟨o,keep c o (I.cne x c e) hc nch ho (I.freeC x c e),hd⟩
  refine⟨I.ok,I.os,hg,⟨fun b o e n hb hx=>?_,fun b o e n hb hx=>?_,fun b o e n hx=>?_,fun b o e hx=>?_,fun b xs e=>tups b xs (I.base.tups b xs e),fun b o xs e=>frzs b o xs (I.base.frzs b o xs e),fun b ps e=>?_⟩,?_,fun x c e=>?_,?_,fun x c e=>?_,fun p hp=>?_,hok,I.len⟩
  · exact keep b o (neL b o e) hb (neC b o e hx) (I.base.keep b o e n hb hx) (I.base.free b o e n hx)
  · obtain⟨sl,e1⟩:=I.base.slot b o e n hb hx
    obtain⟨sl',e2⟩:=slot b _ (neL b o e) hb (neC b o e hx) e1 (I.base.free b o e n hx)
    exact⟨sl',e2⟩
  · obtain⟨o',e1⟩:=I.base.there b o e hx
    exact free b o' (neC b o e hx) e1 (I.base.free b o e n hx)
  · obtain⟨o',e1⟩:=I.base.there b o e hx
    exact there b o' (neC b o e hx) e1
  · obtain⟨m1,e1⟩:=I.base.tbls b ps e
    obtain⟨m2,e2⟩:=tbls b _ e1
    exact⟨m1++m2,by rw[e2,Array.append_assoc]⟩
  · obtain⟨m,hn,hl⟩:=I.loc
    refine⟨m,ns m hn,fun i x v e1 e2 e3=>?_⟩
    obtain⟨u,r,l⟩:=hl i x v e1 e2 e3
    refine⟨u,r,?_⟩
    rcases l with l | ⟨k,c,e,z⟩
    · exact .inl l
    · exact .inr ⟨k,c,e,cellK x c e _ z⟩
  · obtain⟨v,z⟩:=I.cell x c e
    exact⟨v,cellK x c e v z⟩
  · obtain⟨m,⟨o,_,_,ho,_⟩,_⟩:=I.loc
    exact free _ o (fun z=>(hch _ z).2.1 rfl) ho I.free
  · obtain⟨v,o,ho,hd⟩:=I.cell x c e
    exact free c o (fun z=>(hch c z).2.2.1 x c e rfl) ho (I.freeC x c e)
  · obtain⟨e,n,ne,nf,d⟩:=I.pin p hp
    have nch:p.1∉ch:=fun z=>(hch p.1 z).2.2.2 p hp rfl
    exact⟨keep p.1 p.2 ne nf nch e n,free p.1 p.2 nch e n,ne,nf,d⟩
theorem Inv.un {t':Nat} (I:Inv X pins σ H s) (u:Un X.fs [] H H' s.heap h') (hok:HOk X.prog X.w H' h'):Inv X pins σ H' { s with heap:=h',toks:=t' }:=by
  obtain⟨m,⟨o,es,ep,ho,r⟩,_⟩:=id I.loc
  obtain⟨sl,hL⟩:=u.any ho I.free (by simp)
  exact I.step (g':=s.gens) (d':=s.drawn) (ch:=[]) (fun _ z=>nomatch z) (fun b o _ hb _ e n=>u.keep b o e n hb (by simp)) (fun b o _ hb _ e n=>u.slot b o e n hb (by simp)) (fun b o _ e n=>u.free b o e n (by simp)) (fun b o _ e=>u.there b o e (by simp)) u.tups u.frzs u.tbls (fun m' hm=>by
    obtain⟨o',es',ep',ho',r'⟩:=hm
    rw[ho]at ho';cases ho'
    exact⟨_,es',ep',hL,r'⟩) hok I.bare
theorem Inv.call {g':Array GenState} {t':Nat} {d':Drawn} {ch:List Addr} (I:Inv X pins σ H s) (u:Un (frs X.stack) ch H H' s.heap h') (hok:HOk X.prog X.w H' h') (hg:AllBare g')
    (hch:∀ b∈ch,(b∈X.ex∨X.s₀.heap.objs.size≤b)∧b≠X.env.locals∧(∀ x c,X.env.cells.lookup x=some c→c≠b)∧∀ p∈X.pn++pins,p.1≠b) :
    Inv X pins σ H' { s with heap:=h',gens:=g',drawn:=d',toks:=t' }:=by
  obtain⟨m,⟨o,es,ep,ho,r⟩,_⟩:=id I.loc
  obtain⟨sl,hL⟩:=u.any ho I.free fun z=>(hch _ z).2.1 rfl
  exact I.step (ch:=ch) hch (fun b o hL hb hc e n=>u.keep b o e n (fun z=>(List.mem_cons.mp (I.stkSub b z)).elim hL hb) hc) (fun b o _ _ hc e n=>u.any e n hc) (fun b o hc e n=>u.free b o e n hc) (fun b o hc e=>u.there b o e hc) u.tups u.frzs u.tbls (fun m' hm=>by
    obtain⟨o',es',ep',ho',r'⟩:=hm
    rw[ho]at ho';cases ho'
    exact⟨_,es',ep',hL,r'⟩) hok hg
theorem Inv.turned {t':Nat} {it:Addr} (I:Inv X pins σ H s) (k:∀ b o,b≠it→s.heap.get? b=some o→h'.get? b=some o) (hn:H it=none) (hL:it≠X.env.locals)
    (h1:it∈X.ex∨X.s₀.heap.objs.size≤it) (h2:∀ x c,X.env.cells.lookup x=some c→c≠it) (h3:∀ p∈X.pn++pins,p.1≠it):Inv X pins σ H { s with heap:=h',toks:=t' }:=by
  have nit:∀ b u,H b=some u→b≠it:=fun b u e z=>by rw[z,hn]at e;cases e
  refine I.step (g':=s.gens) (d':=s.drawn) (ch:=[it]) (fun b hb=>?_) (fun b o _ _ hc e _=>k b o (fun z=>hc (by simp [z])) e) (fun b o _ _ hc e _=>⟨o.slots,k b o (fun z=>hc (by simp [z])) e⟩) (fun _ _ _ _ n=>n)
    (fun b o hc e=>⟨o,k b o (fun z=>hc (by simp [z])) e⟩) (fun _ _ e=>e) (fun _ _ _ e=>e) (fun b ps e=>⟨#[],by rw[e];simp⟩) (fun m hm=>?_) (fun b u e=>?_) I.bare
  · have e:b=it:=by simpa using hb
    subst e
    exact⟨h1,hL,h2,h3⟩
  · obtain⟨o,es,ep,ho,r⟩:=hm
    exact⟨o,es,ep,k _ o (Ne.symm hL) ho,r⟩
  · refine(I.hok b u e).stay (fun c v hc q=>k c v ?_ q) (fun _ q=>q) fun _ _ q=>q
    rcases hc with z | z
    · rw[z];exact nit b u e
    · exact nit c _ z
theorem Inv.tok (I:Inv X pins σ H s) (t:Nat):Inv X pins σ H { s with toks:=t }:=I.un (h':=s.heap) (t':=t) Un.refl I.hok
theorem Inv.kept {t':Nat} (I:Inv X pins σ H s) (k:∀ b u,s.heap.get? b=some u→h'.get? b=some u):Inv X pins σ H { s with heap:=h',toks:=t' }:=I.un (Un.kept k) (I.hok.kept k)
theorem Inv.laid {a:Addr} {o:HO} {t':Nat} (I:Inv X pins σ H s) (k:∀ b u,s.heap.get? b=some u→h'.get? b=some u) (hp:s.heap.objs.size≤a) (new:zaT X.prog X.w (upd H a o) h' a o) :
    Inv X pins σ (upd H a o) { s with heap:=h',toks:=t' }:=I.un (Un.laid k hp (I.hok.fresh hp)) (I.hok.laid k hp new)
theorem Inv.write {x e:Addr} {o:HO} {t':Nat} (I:Inv X pins σ H s) (mu:Mut (H x)) (he:e=x∨H e=some (.own x)) (k:∀ b u,b≠e→s.heap.get? b=some u→h'.get? b=some u) (heo:∃ u,h'.get? e=some u)
    (new:zaT X.prog X.w (upd H x o) h' x o):Inv X pins σ (upd H x o) { s with heap:=h',toks:=t' }:=I.un (Un.write mu he k heo) (I.hok.write mu he k heo new)
theorem Inv.pins_of {pins':List (Addr × Obj)} (I:Inv X pins σ H s) (h:∀ p∈pins',s.heap.get? p.1=some p.2∧H p.1=none∧p.1≠X.env.locals∧p.1∉X.fs∧∀ v,p.2.data≠.cell v):Inv X pins' σ H s :=
  ⟨I.ok,I.os,I.bare,I.base,I.loc,I.cell,I.free,I.freeC,fun p hp=>(List.mem_append.mp hp).elim (fun z=>I.pin p (List.mem_append_left _ z)) (h p),I.hok,I.len⟩
theorem zh8 {N:List Str} (hN:N.Nodup) {i j:Nat} {x:Str} (a:N[i]?=some x) (b:N[j]?=some x):i=j:=by
  obtain⟨h1,e1⟩:=List.getElem?_eq_some_iff.mp a
  obtain⟨h2,e2⟩:=List.getElem?_eq_some_iff.mp b
  exact(List.getElem_inj hN).mp (e1.trans e2.symm)
theorem zdU {M:Model} {A:Around} {E:Value→Shared→Prop} {i:Nat} {x:Str} {v:V} {u:Value} {Q:Unit→Shared→Prop} (I:Inv X pins σ H s) (hN:X.N.Nodup) (hi:X.N[i]?=some x) (hx:Loc X.env.scope x) (r:aG v u)
    (h:∀ s',Inv X pins (σ.set i (some v)) H s'→(∃ a,Heap.SameBut a s.heap s'.heap∧(a=X.env.locals∨X.env.cells.lookup x=some a))→Q () s') (hf:X.fn x=true∨X.env.scope.names.lookup x=some .local:=by first | exact .inl rfl | exact .inr rfl | assumption):wpAny M A (storeName X.env x u) Q E s:=by
  obtain⟨m,hn,hl⟩:=id I.loc
  have hcls:(X.env.scope.kind == .class||(X.env.scope.kind == .module&&X.env.locals != X.env.globals))=false:=by rw[I.ok.kind];rfl
  have hiσ:i < σ.length:=by rw[I.len];exact(List.getElem?_eq_some_iff.mp hi).1
  have cne:=I.cne
  have tracked:∀ {a:Addr} {h':Heap},(∃ o,s.heap.get? a=some o∧H a=none)→Heap.SameBut a s.heap h'→HOk X.prog X.w H h':=fun {a h'} ha hs b ob e=>by
    obtain⟨_,_,hfree⟩:=ha
    refine(I.hok b ob e).stay (fun c w' hc q=>(hs.2 c ?_).trans q) (fun _ q=>q) fun _ _ q=>q
    rintro rfl
    rcases hc with rfl | hc
    · rw[hfree]at e;cases e
    · rw[hfree]at hc;cases hc
  rcases hx with hk | hk
  · refine wpAny_storeName_local hk hn (fun h' hn' hs=>?_) hcls
    obtain⟨oL,_,_,hoL,_⟩:=id hn
    refine h _ ⟨I.ok,I.os,I.bare,⟨fun b o e n hb hx=>?_,fun b o e n hb hx=>?_,I.base.free,fun b o e hx=>?_,I.base.tups,I.base.frzs,I.base.tbls⟩,⟨_,hn',fun j y v' e1 e2 e3=>?_⟩,fun y c e=>?_,I.free,I.freeC,fun p hp=>?_,tracked ⟨oL,hoL,I.free⟩ hs,by simpa using I.len⟩ ⟨_,hs,.inl rfl⟩
    · exact(hs.2 b (Nat.ne_of_lt (Nat.lt_of_lt_of_le (Heap.lt_size e) I.ok.above))).trans (I.base.keep b o e n hb hx)
    · obtain⟨sl,e1⟩:=I.base.slot b o e n hb hx
      exact⟨sl,(hs.2 b (Nat.ne_of_lt (Nat.lt_of_lt_of_le (Heap.lt_size e) I.ok.above))).trans e1⟩
    · obtain⟨o',e1⟩:=I.base.there b o e hx
      exact⟨o',(hs.2 b (Nat.ne_of_lt (Nat.lt_of_lt_of_le (Heap.lt_size e) I.ok.above))).trans e1⟩
    · by_cases hj:j=i
      · subst hj
        rw[hi]at e1;cases e1
        rw[List.getElem?_set_self hiσ]at e2
        cases e2
        exact⟨u,r,.inl ⟨hk,by simp⟩⟩
      · rw[List.getElem?_set_ne (Ne.symm hj)]at e2
        obtain⟨u',r',q⟩:=hl j y v' e1 e2 e3
        refine⟨u',r',?_⟩
        rcases q with ⟨k,e⟩ | ⟨k,c,e,z⟩
        · refine .inl ⟨k,?_⟩
          have:y≠x:=fun e=>hj (zh8 hN e1 (e ▸ hi))
          simp [this,e]
        · exact .inr ⟨k,c,e,z.sameBut hs (cne y c e)⟩
    · obtain⟨w',z⟩:=I.cell y c e
      exact⟨w',z.sameBut hs (cne y c e)⟩
    · obtain⟨e,n,ne,nf,d⟩:=I.pin p hp
      exact⟨(hs.2 p.1 ne).trans e,n,ne,nf,d⟩
  · have hfn:X.fn x=true:=by
      rcases hf with z | z
      · exact z
      · rw[z]at hk;cases hk
    obtain⟨c,hc⟩:=I.ok.has x (.inl hk)
    obtain⟨w',z⟩:=I.cell x c hc
    refine wpAny_storeName_cell I.ok.kind hk hc z (fun h' hc' hs=>?_)
    obtain⟨oc,hoc,hocd⟩:=id z
    refine h { s with heap:=h' } ⟨I.ok,I.os,I.bare,⟨fun b o e n hb hx=>?_,fun b o e n hb hx=>?_,I.base.free,fun b o e hx=>?_,I.base.tups,I.base.frzs,I.base.tbls⟩,⟨m,hn.sameBut hs (Ne.symm (cne x c hc)),fun j y v' e1 e2 e3=>?_⟩,fun y c' e=>?_,I.free,I.freeC,fun p hp=>?_,tracked ⟨oc,hoc,I.freeC x c hc⟩ hs,by simpa using I.len⟩ ⟨c,hs,.inr hc⟩
    · exact(hs.2 b (Nat.ne_of_lt (Nat.lt_of_lt_of_le (Heap.lt_size e) (I.ok.cab x c hfn hc)))).trans (I.base.keep b o e n hb hx)
    · obtain⟨sl,e1⟩:=I.base.slot b o e n hb hx
      exact⟨sl,(hs.2 b (Nat.ne_of_lt (Nat.lt_of_lt_of_le (Heap.lt_size e) (I.ok.cab x c hfn hc)))).trans e1⟩
    · obtain⟨o',e1⟩:=I.base.there b o e hx
      exact⟨o',(hs.2 b (Nat.ne_of_lt (Nat.lt_of_lt_of_le (Heap.lt_size e) (I.ok.cab x c hfn hc)))).trans e1⟩
    · by_cases hj:j=i
      · subst hj
        rw[hi]at e1;cases e1
        rw[List.getElem?_set_self hiσ]at e2
        cases e2
        exact⟨u,r,.inr ⟨.inl hk,c,hc,hc'⟩⟩
      · rw[List.getElem?_set_ne (Ne.symm hj)]at e2
        obtain⟨u',r',q⟩:=hl j y v' e1 e2 e3
        refine⟨u',r',?_⟩
        rcases q with q | ⟨k,c',e,z'⟩
        · exact .inl q
        · refine .inr ⟨k,c',e,z'.sameBut hs ?_⟩
          rintro rfl
          exact hj (zh8 hN e1 (I.ok.inj _ _ _ e hc ▸ hi))
    · by_cases hcc:c'=c
      · subst hcc;exact⟨_,hc'⟩
      · obtain⟨w2,z2⟩:=I.cell y c' e
        exact⟨w2,z2.sameBut hs hcc⟩
    · obtain⟨e,n,ne,nf,d⟩:=I.pin p hp
      refine⟨(hs.2 p.1 ?_).trans e,n,ne,nf,d⟩
      intro q
      rw[q,hoc]at e
      have q':oc=p.2:=Option.some.inj e
      exact d w' (by rw[←q'];exact hocd)
theorem zhT {M:Model} {A:Around} {E:Value→Shared→Prop} {i:Nat} {x:Str} {v:V} {u:Value} {Q:Unit→Shared→Prop} (I:Inv X pins σ H s) (hN:X.N.Nodup) (hi:X.N[i]?=some x) (hx:Loc X.env.scope x) (r:aG v u)
    (h:∀ s',Inv X pins (σ.set i (some v)) H s'→Q () s') (hf:X.fn x=true∨X.env.scope.names.lookup x=some .local:=by first | exact .inl rfl | exact .inr rfl | assumption):wpAny M A (storeName X.env x u) Q E s :=
  zdU I hN hi hx r (fun s' I' _=>h s' I') hf
theorem Inv.call' {s':Shared} {ch:List Addr} (I:Inv X pins σ H s) (ho:s'.os=s.os) (u:Un (frs X.stack) ch H H' s.heap s'.heap) (hok:HOk X.prog X.w H' s'.heap) (hg:AllBare s'.gens)
    (hch:∀ b∈ch,(b∈X.ex∨X.s₀.heap.objs.size≤b)∧b≠X.env.locals∧(∀ x c,X.env.cells.lookup x=some c→c≠b)∧∀ p∈X.pn++pins,p.1≠b):Inv X pins σ H' s':=by
  obtain⟨h',g',d',t',o'⟩:=s'
  have e:o'=s.os:=ho
  subst e
  exact I.call (g':=g') (t':=t') (d':=d') u hok hg hch
end
abbrev XK:=Value→Option Addr→Hp→Prop
abbrev St:=List (Option V)
abbrev VK:=V→Hp→Prop
abbrev TE:=St→Hp→VK→Prop
abbrev TT:=St→Hp→(Bool→Hp→Prop)→Prop
abbrev TA:=St→Hp→(List V→Hp→Prop)→Prop
structure zbt where
  nx:St→Hp→Prop
  rt:VK
  bk:St→Hp→Prop:=fun _ _=>False
  ct:St→Hp→Prop:=fun _ _=>False
abbrev TS:=zbt→St→Hp→Prop
def EP (X:Cx) (pins:List (Addr × Obj)) (σ:St) (Q:VK) (u:Value) (s':Shared):Prop:=∃ v H',Inv X pins σ H' s'∧aG v u∧Q v H'
def TP (X:Cx) (pins:List (Addr × Obj)) (σ:St) (Q:Bool→Hp→Prop) (b:Bool) (s':Shared):Prop:=∃ H',Inv X pins σ H' s'∧Q b H'
def AP (X:Cx) (pins:List (Addr × Obj)) (σ:St) (Q:List V→Hp→Prop) (us:List Value) (s':Shared):Prop:=∃ vs H',Inv X pins σ H' s'∧aD vs us∧Q vs H'
def SP (X:Cx) (pins:List (Addr × Obj)) (D:zbt) (f:Flow) (s':Shared):Prop :=
  match f with
  | .next=>∃ σ' H',Inv X pins σ' H' s'∧D.nx σ' H'
  | .brk=>∃ σ' H',Inv X pins σ' H' s'∧D.bk σ' H'
  | .cont=>∃ σ' H',Inv X pins σ' H' s'∧D.ct σ' H'
  | .ret u=>∃ v σ' H',Inv X pins σ' H' s'∧aG v u∧D.rt v H'
def PE (X:Cx) (e:Expr) (t:TE):Prop :=
  ∀(pins:List (Addr × Obj)) (s:Shared) (σ:St) (H:Hp) (Q:VK),Inv X pins σ H s→t σ H Q→wpAny (model X.prog X.w) X.A (eval e X.env) (EP X pins σ Q) X.xe s
def PT (X:Cx) (e:Expr) (t:TT):Prop :=
  ∀(pins:List (Addr × Obj)) (s:Shared) (σ:St) (H:Hp) (Q:Bool→Hp→Prop),Inv X pins σ H s→t σ H Q→wpAny (model X.prog X.w) X.A (isTrue e X.env (eval e X.env)) (TP X pins σ Q) X.xe s
def PW (X:Cx) (e:Expr) (t:TT):Prop :=
  ∀(ze7:Sem Value) (pins:List (Addr × Obj)) (s:Shared) (σ:St) (H:Hp) (Q:Bool→Hp→Prop),Inv X pins σ H s→t σ H Q→wpAny (model X.prog X.w) X.A (isTrue e X.env ze7) (TP X pins σ Q) X.xe s
theorem PW.pt {X:Cx} {e:Expr} {t:TT} (h:PW X e t):PT X e t:=h _
def PA (X:Cx) (es:List Expr) (t:TA):Prop :=
  ∀(pos:Pos) (pins:List (Addr × Obj)) (s:Shared) (σ:St) (H:Hp) (Q:List V→Hp→Prop),Inv X pins σ H s→t σ H Q→wpAny (model X.prog X.w) X.A (spliced (backTo pos (starEach es X.env))) (AP X pins σ Q) X.xe s
def PS (X:Cx) (st:Stmt) (t:TS):Prop :=
  ∀(pins:List (Addr × Obj)) (s:Shared) (σ:St) (H:Hp) (D:zbt),Inv X pins σ H s→t D σ H→wpAny (model X.prog X.w) X.A (exec st X.env) (SP X pins D) X.xe s
def PSs (X:Cx) (st:List Stmt) (t:TS):Prop :=
  ∀(pins:List (Addr × Obj)) (s:Shared) (σ:St) (H:Hp) (D:zbt),Inv X pins σ H s→t D σ H→wpAny (model X.prog X.w) X.A (execs st X.env) (SP X pins D) X.xe s
theorem thn {α:Type} {t:Sem α} {Q Q':α→Shared→Prop} {M:Model} {A:Around} {E:Value→Shared→Prop} {s:Shared} (h:wpAny M A t Q E s) (hQ:∀ a s,Q a s→Q' a s):wpAny M A t Q' E s:=wpAny_mono h hQ fun _ _ x=>x
end L2
namespace L2
open PySem PySem.Spec PyProof.Rows
section
variable {X:Cx}
theorem bin {a b:Expr} {ta tb:TE} (ha:PE X a ta) (hb:PE X b tb) {pins:List (Addr × Obj)} {s:Shared} {σ:St} {H:Hp} {R:V→V→Hp→Prop} (I:Inv X pins σ H s) (h:ta σ H fun x H1=>tb σ H1 fun y H2=>R x y H2)
    {α:Type} {Q:α→Shared→Prop} {f:Value→Value→Sem α}
    (hf:∀ v u s2 x y H2,Inv X pins σ H2 s2→aG x v→aG y u→R x y H2→wpAny (model X.prog X.w) X.A (f v u) Q X.xe s2) :
    wpAny (model X.prog X.w) X.A (eval a X.env) (fun v s₁=>wpAny (model X.prog X.w) X.A (eval b X.env) (fun u s₂=>wpAny (model X.prog X.w) X.A (f v u) Q X.xe s₂) X.xe s₁) X.xe s:=by
  refine thn (ha pins s σ H _ I h) fun v s1 ⟨x,H1,I1,r1,q1⟩=>?_
  refine thn (hb pins s1 σ H1 _ I1 q1) fun u s2 ⟨y,H2,I2,r2,q2⟩=>?_
  exact hf v u s2 x y H2 I2 r1 r2 q2
def tVar (i:Nat):TE:=fun σ H Q=>∃ v,σ[i]?=some (some v)∧Q v H
def tC (v:V):TE:=fun _ H Q=>Q v H
theorem pe_var {i:Nat} {x:Str} {pos:Pos} (hN:X.N[i]?=some x) (hv:Vis X.env.scope x) (hd:(x == ("__debug__":Str))=false:=by decide) (hcd:(x == ("__classdict__":Str))=false:=by decide):PE X (.Name x pos) (tVar i):=by
  intro pins s σ H Q I h
  obtain⟨v,e,h⟩:=h
  obtain⟨m,hn,hl⟩:=I.loc
  obtain⟨u,r,l⟩:=hl i x v hN e hv
  have fin:EP X pins σ Q u s:=⟨v,H,I,r,h⟩
  rcases l with ⟨hk,hm⟩ | ⟨hk,c,hc,hcell⟩
  · exact wpAny_Name (wpAny_loadName_local I.ok.kind hk hn hm fin) hd
  · rcases hk with hk | hk
    · exact wpAny_Name (wpAny_loadName_cell I.ok.kind hk hc hcell fin) hd
    · exact wpAny_Name (wpAny_loadName_free I.ok.kind hk hc hcell fin hcd) hd
theorem ag {i j pos}:PE X (.Constant (.int i) j pos) (tC (.int i)):=fun _ _ _ H _ I h=>wpAny_Constant_int ⟨.int i,H,I.tok _,⟨_,rfl⟩,h⟩
theorem zcT {b j pos}:PE X (.Constant (.bool b) j pos) (tC (.bl b)):=fun _ _ _ H _ I h=>Constant_bool ⟨.bl b,H,I,rfl,h⟩
theorem zhz {j pos}:PE X (.Constant .none j pos) (tC .non):=fun _ _ _ H _ I h=>Constant_none ⟨.non,H,I,rfl,h⟩
theorem zab {x j pos}:PE X (.Constant (.str x) j pos) (tC (.str x)):=fun _ _ _ H _ I h=>Calls.Constant_str ⟨.str x,H,I.tok _,⟨_,rfl⟩,h⟩
def Gl (X:Cx) (x:Str):Prop:=X.env.kindOf x=some .globalImplicit
theorem zc4 {E:Value→Shared→Prop} {pins:List (Addr × Obj)} {s:Shared} {σ:St} {H:Hp} {x:Str} {u:Value} {pos:Pos} {Q:Value→Shared→Prop} (I:Inv X pins σ H s) (hg:Gl X x) (hm:X.mg x=some u) (h:Q u s)
    (hd:(x == ("__debug__":Str))=false:=by decide):wpAny (model X.prog X.w) X.A (eval (.Name x pos) X.env) Q E s :=
  Calls.Name_function_global I.ok.kind hg (Calls.loadGlobal_global (by rw[I.ok.glob];exact I.mod.glob.keeps I.bk) hm h) hd
theorem zeN {E:Value→Shared→Prop} {pins:List (Addr × Obj)} {s:Shared} {σ:St} {H:Hp} {x:Str} {u:Value} {pos:Pos} {Q:Value→Shared→Prop} (I:Inv X pins σ H s) (hg:Gl X x) (hm:X.mg x=none) (hv:bootBuiltins x=some u) (h:Q u s)
    (hn:x≠"__name__":=by decide) (hd:(x == ("__debug__":Str))=false:=by decide):wpAny (model X.prog X.w) X.A (eval (.Name x pos) X.env) Q E s:=by
  obtain⟨mb,h1,h2⟩:=I.mod.blt
  exact Calls.Name_function_global I.ok.kind hg (Calls.loadGlobal_builtin (by rw[I.ok.glob];exact I.mod.glob.keeps I.bk) hm (by rw[I.ok.blt];exact h1.keeps I.bk) ((h2 x hn).trans hv) h) hd
theorem zba {x:Str} {v:V} {u:Value} {pos:Pos} (hg:Gl X x) (hm:X.mg x=some u) (r:aG v u) (hd:(x == ("__debug__":Str))=false:=by decide):PE X (.Name x pos) (tC v) :=
  fun _ _ _ H _ I h=>zc4 I hg hm ⟨v,H,I,r,h⟩ hd
variable {a b:Expr} {ta tb:TE} {pos:Pos}
def PC (X:Cx) (op:CmpOp) (a b:Expr) (t:TE):Prop :=
  ∀(pins:List (Addr × Obj)) (s:Shared) (σ:St) (H:Hp) (Q:VK),Inv X pins σ H s→t σ H Q →
    wpAny (model X.prog X.w) X.A (eval a X.env) (fun v s₁=>wpAny (model X.prog X.w) X.A (eval b X.env) (fun u s₂=>wpAny (model X.prog X.w) X.A (compareOp op v u) (EP X pins σ Q) X.xe s₂) X.xe s₁) X.xe s
def tB (t:TE):TT:=fun σ H Q=>t σ H fun x H1=>∃ c,x=.bl c∧Q c H1
theorem pt_cmp {op:CmpOp} {t:TE} (h:PC X op a b t) (h1:behindInMarks op b=false:=by first | exact nobehind _ (by decide) (by decide) | rfl):PT X (.Compare a [op] [b] pos) (tB t):=by
  intro pins s σ H Q I hw
  refine wpAny_isTrue_Compare1 (thn (h pins s σ H _ I hw) fun v s1 h1=>thn h1 fun u s2 h2=>thn h2 fun c s3 ⟨x,H1,I1,r1,q1⟩=>?_) h1
  obtain⟨d,rfl,q⟩:=q1
  cases r1
  exact wpAny_truthy_bool ⟨H1,I1,q⟩
theorem zeI {e:Expr} {t:TE} (h:PE X e t) (he:∀ ze7,isTrue e X.env ze7=(do let v ←ze7;standAt e.pos;holding [v] (truthy v)):=by intro _;rfl):PT X e (tB t):=by
  intro pins s σ H Q I hw
  refine isTrue_plain (thn (h pins s σ H _ I hw) fun v s1 ⟨x,H1,I1,r1,q1⟩=>?_) (he _)
  obtain⟨d,rfl,q⟩:=q1
  cases r1
  exact wpAny_truthy_bool ⟨H1,I1,q⟩
variable {tA tB':TT} {zby:List Expr}
def tAnd (t u:TT):TT:=fun σ H Q=>t σ H fun c H1=>if c=true then u σ H1 Q else Q false H1
def tOr (t u:TT):TT:=fun σ H Q=>t σ H fun c H1=>if c=true then Q true H1 else u σ H1 Q
def tNot (t:TT):TT:=fun σ H Q=>t σ H fun c H1=>Q (!c) H1
theorem zef (ha:PT X a tA):PW X (.BoolOp .And [a] pos) tA:=by
  intro wh pins s σ H Q I h
  refine isTrue_and (thn (ha pins s σ H Q I h) fun c s1 e=>?_)
  cases c with
  | true=>exact isTrue_and_nil e
  | false=>exact e
theorem zfR (ha:PT X a tA):PW X (.BoolOp .Or [a] pos) tA:=by
  intro wh pins s σ H Q I h
  refine isTrue_or (thn (ha pins s σ H Q I h) fun c s1 e=>?_)
  cases c with
  | false=>exact isTrue_or_nil e
  | true=>exact e
theorem zd8 (ha:PT X a tA) (hb:PW X (.BoolOp .And (b :: zby) pos) tB'):PW X (.BoolOp .And (a :: b :: zby) pos) (tAnd tA tB'):=by
  intro wh pins s σ H Q I h
  refine isTrue_and (thn (ha pins s σ H _ I h) fun c s1 ⟨H1,I1,q1⟩=>?_)
  cases c with
  | true=>exact hb wh pins s1 σ H1 Q I1 q1
  | false=>exact⟨H1,I1,q1⟩
theorem zhp (ha:PT X a tA) (hb:PW X (.BoolOp .Or (b :: zby) pos) tB'):PW X (.BoolOp .Or (a :: b :: zby) pos) (tOr tA tB'):=by
  intro wh pins s σ H Q I h
  refine isTrue_or (thn (ha pins s σ H _ I h) fun c s1 ⟨H1,I1,q1⟩=>?_)
  cases c with
  | true=>exact⟨H1,I1,q1⟩
  | false=>exact hb wh pins s1 σ H1 Q I1 q1
theorem zeJ (ha:PT X a tA):PT X (.UnaryOp .Not a pos) (tNot tA):=by
  intro pins s σ H Q I h
  exact isTrue_not (ha pins s σ H (fun c H1=>Q (!c) H1) I h)
def tAndV (ta tb:TE):TE:=fun σ H Q=>ta σ H fun x H1=>∃ c,x=.bl c∧if c=true then tb σ H1 Q else Q (.bl false) H1
def tOrV (ta tb:TE):TE:=fun σ H Q=>ta σ H fun x H1=>∃ c,x=.bl c∧if c=true then Q (.bl true) H1 else tb σ H1 Q
def tNotV (ta:TE):TE:=fun σ H Q=>ta σ H fun x H1=>∃ c,x=.bl c∧Q (.bl (!c)) H1
theorem zeK {op} {t:TE} (h:PE X a t):PE X (.BoolOp op [a] pos) t:=fun pins s σ H Q I hw=>BoolOp_one (h pins s σ H Q I hw)
theorem zfU (ha:PE X a ta) (hb:PE X (.BoolOp .And (b :: zby) pos) tb):PE X (.BoolOp .And (a :: b :: zby) pos) (tAndV ta tb):=by
  intro pins s σ H Q I h
  refine BoolOp_and (thn (ha pins s σ H _ I h) fun v s1 ⟨x,H1,I1,r1,q1⟩=>?_)
  obtain⟨c,rfl,q1⟩:=q1
  cases r1
  refine wpAny_truthy_bool ?_
  cases c with
  | true=>exact hb pins s1 σ H1 Q I1 q1
  | false=>exact⟨.bl false,H1,I1,rfl,q1⟩
theorem pe_or (ha:PE X a ta) (hb:PE X (.BoolOp .Or (b :: zby) pos) tb):PE X (.BoolOp .Or (a :: b :: zby) pos) (tOrV ta tb):=by
  intro pins s σ H Q I h
  refine BoolOp_or (thn (ha pins s σ H _ I h) fun v s1 ⟨x,H1,I1,r1,q1⟩=>?_)
  obtain⟨c,rfl,q1⟩:=q1
  cases r1
  refine wpAny_truthy_bool ?_
  cases c with
  | false=>exact hb pins s1 σ H1 Q I1 q1
  | true=>exact⟨.bl true,H1,I1,rfl,q1⟩
theorem zj5 (ha:PE X a ta):PE X (.UnaryOp .Not a pos) (tNotV ta):=by
  intro pins s σ H Q I h
  refine UnaryOp_ (thn (ha pins s σ H _ I h) fun v s1 ⟨x,H1,I1,r1,q1⟩=>?_)
  obtain⟨c,rfl,q1⟩:=q1
  cases r1
  exact not_of (wpAny_truthy_bool ⟨.bl (!c),H1,I1,rfl,q1⟩)
def tIf (t:TT) (ta tb:TE):TE:=fun σ H Q=>t σ H fun c H1=>if c=true then ta σ H1 Q else tb σ H1 Q
theorem zfF {c:Expr} (hc:PT X c tA) (ha:PE X a ta) (hb:PE X b tb):PE X (.IfExp c a b pos) (tIf tA ta tb):=by
  intro pins s σ H Q I h
  refine wpAny_IfExp (thn (hc pins s σ H _ I h) fun d s1 ⟨H1,I1,q1⟩=>?_)
  cases d with
  | true=>exact ha pins s1 σ H1 Q I1 q1
  | false=>exact hb pins s1 σ H1 Q I1 q1
end
end L2
namespace L2
open PySem PySem.Spec PyProof.Rows
def SqL (K:PySem.W.Frag) (H:Hp) (a:Addr) (xs:List V):Prop :=
  Rd H a (.lst xs) ∨
    ∃(o:Obj) (its:Array Value) (n:Nat),K.lookup a=some o∧o.cls=.type "list"∧o.dict=none∧o.data=.seq its n∧its.size≤sizeLine∧aD xs its.toList
def SqT (K:PySem.W.Frag) (H:Hp) (a:Addr) (xs:List V):Prop :=
  Rd H a (.tup xs) ∨
    ∃(o:Obj) (its:Array Value) (n:Nat),K.lookup a=some o∧o.cls=.type "tuple"∧o.data=.seq its n∧its.size≤sizeLine∧aD xs its.toList
def absV:Value→Option V
  | .none=>some .non
  | .bool b=>some (.bl b)
  | .int i _=>some (.int i)
  | .str x _=>some (.str x)
  | .bytes b _=>some (.byt b)
  | .float b _=>some (.flt b)
  | .ref a=>some (.ref a)
  | .type n=>some (.ty n)
  | _=>none
theorem aG.abs {x:V} {u:Value} (r:aG x u):absV u=some x:=by
  cases x with
  | non=>cases r;rfl
  | bl _=>cases r;rfl
  | int _=>obtain⟨t,rfl⟩:=r;rfl
  | str _=>obtain⟨t,rfl⟩:=r;rfl
  | byt _=>obtain⟨t,rfl⟩:=r;rfl
  | flt _=>obtain⟨t,rfl⟩:=r;rfl
  | ref _=>cases r;rfl
  | ty _=>cases r;rfl
theorem aG.inj {x y:V} {u:Value} (r:aG x u) (q:aG y u):x=y:=Option.some.inj (r.abs.symm.trans q.abs)
theorem aD.inj:∀ {xs ys:List V} {us:List Value},aD xs us→aD ys us→xs=ys
  | _,_,_,.nil,.nil=>rfl
  | _,_,_,.cons r t,.cons r' t'=>by rw[r.inj r',aD.inj t t']
section
variable {X:Cx} {pins:List (Addr × Obj)} {σ:St} {H:Hp} {s:Shared} {a:Addr} {xs ys:List V}
theorem SqL.of {K:PySem.W.Frag} (h:H a=some (.lst xs)):SqL K H a xs:=.inl (.inl h)
theorem SqT.of {K:PySem.W.Frag} (h:H a=some (.tup xs)):SqT K H a xs:=.inl (.inl h)
theorem Inv.list (I:Inv X pins σ H s) (h:SqL X.K H a xs):∃ its:List Value,aD xs its∧PlainL s.heap a its.toArray∧xs.length≤sizeLine:=by
  rcases h with h | ⟨o,its,n,hk,hc,hd,hs,hz,r⟩
  · obtain⟨z,its,n,r,e⟩:=h.ok I.hok
    exact⟨its,r,⟨_,n,e,rfl,rfl,rfl⟩,z⟩
  · refine⟨its.toList,r,⟨o,n,I.kIn a o hk,hc,hd,by simpa using hs⟩,?_⟩
    have e:=r.length
    simp only[Array.length_toList]at e
    omega
theorem Inv.tuple (I:Inv X pins σ H s) (h:SqT X.K H a xs):∃ its:List Value,aD xs its∧IsTup s.heap a its.toArray∧xs.length≤sizeLine:=by
  rcases h with h | ⟨o,its,n,hk,hc,hs,hz,r⟩
  · obtain⟨z,its,r,p⟩:=h.ok I.hok
    exact⟨its,r,p,z⟩
  · refine⟨its.toList,r,⟨o,I.kIn a o hk,hc,n,by simpa using hs⟩,?_⟩
    have e:=r.length
    simp only[Array.length_toList]at e
    omega
theorem Inv.list_inj (I:Inv X pins σ H s) (h:SqL X.K H a xs) (h':SqL X.K H a ys):xs=ys:=by
  obtain⟨its,r,⟨o,n,e,_,_,d⟩,_⟩:=I.list h
  obtain⟨its',r',⟨o',n',e',_,_,d'⟩,_⟩:=I.list h'
  rw[e]at e';cases e'
  rw[d]at d'
  injection d' with d1 _
  have:its=its':=by simpa using congrArg Array.toList d1
  subst this
  exact r.inj r'
theorem Inv.tuple_inj (I:Inv X pins σ H s) (h:SqT X.K H a xs) (h':SqT X.K H a ys):xs=ys:=by
  obtain⟨its,r,⟨o,e,_,n,d⟩,_⟩:=I.tuple h
  obtain⟨its',r',⟨o',e',_,n',d'⟩,_⟩:=I.tuple h'
  rw[e]at e';cases e'
  rw[d]at d'
  injection d' with d1 _
  have:its=its':=by simpa using congrArg Array.toList d1
  subst this
  exact r.inj r'
end
abbrev Cx.wish (X:Cx) (E:Value→Shared→Prop):Cx:={ X with xe:=E }
abbrev Cx.nox (X:Cx):Cx:=X.wish fun _ _=>False
theorem Cx.Ok.wish {X:Cx} (ok:X.Ok) (E:Value→Shared→Prop):(X.wish E).Ok :=
  ⟨ok.mod,ok.kind,ok.glob,ok.blt,ok.above,ok.inj,ok.has,ok.cab,ok.hd,ok.frames,ok.stk,ok.exf,ok.bs,ok.bsz,ok.noex,ok.exfs,ok.funs,ok.frf⟩
theorem Cx.Ok.unwish {X:Cx} {E:Value→Shared→Prop} (ok:(X.wish E).Ok):X.Ok :=
  ⟨ok.mod,ok.kind,ok.glob,ok.blt,ok.above,ok.inj,ok.has,ok.cab,ok.hd,ok.frames,ok.stk,ok.exf,ok.bs,ok.bsz,ok.noex,ok.exfs,ok.funs,ok.frf⟩
section
variable {X:Cx} {pins:List (Addr × Obj)} {σ:St} {H:Hp} {s:Shared} {E:Value→Shared→Prop}
theorem Inv.wish (I:Inv X pins σ H s) (E:Value→Shared→Prop):Inv (X.wish E) pins σ H s:=⟨I.ok.wish E,I.os,I.bare,I.base,I.loc,I.cell,I.free,I.freeC,I.pin,I.hok,I.len⟩
theorem Inv.unwish (I:Inv (X.wish E) pins σ H s):Inv X pins σ H s:=⟨I.ok.unwish,I.os,I.bare,I.base,I.loc,I.cell,I.free,I.freeC,I.pin,I.hok,I.len⟩
theorem SP.unwish {D:zbt} {f:Flow} {s':Shared} (h:SP (X.wish E) pins D f s'):SP X pins D f s':=by
  cases f with
  | next=>obtain⟨σ',H',I,q⟩:=h;exact⟨σ',H',I.unwish,q⟩
  | brk=>obtain⟨σ',H',I,q⟩:=h;exact⟨σ',H',I.unwish,q⟩
  | cont=>obtain⟨σ',H',I,q⟩:=h;exact⟨σ',H',I.unwish,q⟩
  | ret u=>obtain⟨v,σ',H',I,r,q⟩:=h;exact⟨v,σ',H',I.unwish,r,q⟩
theorem PSs.nox {st:List Stmt} {t:TS} (h:PSs X.nox st t):PSs X st t:=fun pins s σ H D I hw =>
  wpAny_mono (h pins s σ H D (I.wish _) hw) (fun _ _ q=>q.unwish) fun _ _ z=>False.elim z
end
section
variable {X:Cx} {st:Stmt} {zby:List Stmt} {t u:TS} {e:Expr} {te:TE} {pos:Pos}
def tNext:TS:=fun D σ H=>D.nx σ H
def tSeq (t u:TS):TS:=fun D σ H=>t { D with nx:=u D } σ H
theorem zad:PSs X [] tNext:=fun _ _ σ H _ I h=>wpAny_execs_nil ⟨σ,H,I,h⟩
theorem ae (h1:PS X st t) (h2:PSs X zby u):PSs X (st :: zby) (tSeq t u):=by
  intro pins s σ H D I h
  refine wpAny_execs_cons (thn (h1 pins s σ H { D with nx:=u D } I h) fun f s1 q=>?_)
  cases f with
  | next =>
    obtain⟨σ',H',I',q⟩:=q
    exact h2 pins s1 σ' H' D I' q
  | ret v=>exact q
  | brk=>exact q
  | cont=>exact q
theorem aj (h1:PS X st t):PSs X [st] t:=by
  intro pins s σ H D I h
  refine wpAny_execs_cons (thn (h1 pins s σ H D I h) fun f s1 q=>?_)
  cases f with
  | next=>exact wpAny_execs_nil q
  | ret v=>exact q
  | brk=>exact q
  | cont=>exact q
theorem Inv.quiet {pins:List (Addr × Obj)} {σ:St} {H:Hp} {s:Shared} (I:Inv X pins σ H s):interactive X.env=false:=by simp [interactive,I.ok.kind]
def tDrop (te:TE):TS:=fun D σ H=>te σ H fun _ H1=>D.nx σ H1
theorem zaI (he:PE X e te) (hs:swapsWith e none pos.line X.env=pure false:=by rfl):PS X (.Expr e pos) (tDrop te):=by
  intro pins s σ H D I h
  exact wpAny_Expr_any (thn (he pins s σ H _ I h) fun v s1 ⟨x,H1,I1,r1,q1⟩=>⟨σ,H1,I1,q1⟩) I.quiet hs
def tRet (te:TE):TS:=fun D σ H=>te σ H D.rt
theorem ax (he:PE X e te):PS X (.Return (some e) pos) (tRet te):=by
  intro pins s σ H D I h
  exact wpAny_Return_some (thn (he pins s σ H _ I h) fun v s1 ⟨x,H1,I1,r1,q1⟩=>⟨x,σ,H1,I1,r1,q1⟩)
def tIfS (c:TT) (t u:TS):TS:=fun D σ H=>c σ H fun b H1=>if b=true then t D σ H1 else u D σ H1
theorem zao {c:Expr} {a b:List Stmt} {tc:TT} (hc:PT X c tc) (ha:PSs X a t) (hb:PSs X b u):PS X (.If c a b pos) (tIfS tc t u):=by
  intro pins s σ H D I h
  refine wpAny_If (thn (hc pins s σ H _ I h) fun d s1 ⟨H1,I1,q1⟩=>?_)
  cases d with
  | true=>exact ha pins s1 σ H1 D I1 q1
  | false=>exact hb pins s1 σ H1 D I1 q1
def tNever:TS:=fun _ _ _=>False
end
abbrev TG:=V→St→Hp→(St→Hp→Prop)→Prop
abbrev TGs:=List V→St→Hp→(St→Hp→Prop)→Prop
def PG (X:Cx) (target:Expr) (t:TG):Prop :=
  ∀(pins:List (Addr × Obj)) (s:Shared) (σ:St) (H:Hp) (v:V) (u:Value) (Q:St→Hp→Prop),Inv X pins σ H s→aG v u→t v σ H Q →
    wpAny (model X.prog X.w) X.A (assign target X.env u) (fun _ s'=>∃ σ' H',Inv X pins σ' H' s'∧Q σ' H') X.xe s
def PGs (X:Cx) (ts:List Expr) (t:TGs):Prop :=
  ∀(pins:List (Addr × Obj)) (s:Shared) (σ:St) (H:Hp) (vs:List V) (us:List Value) (Q:St→Hp→Prop),Inv X pins σ H s→aD vs us→t vs σ H Q →
    wpAny (model X.prog X.w) X.A (assignInOrder ((assignEach ts X.env).map (·.2)) us) (fun _ s'=>∃ σ' H',Inv X pins σ' H' s'∧Q σ' H') X.xe s
abbrev TSet:=V→V→V→Hp→(Hp→Prop)→Prop
def PSet (X:Cx) (t:TSet):Prop :=
  ∀(pins:List (Addr × Obj)) (s:Shared) (σ:St) (H:Hp) (o i v:V) (ov iv u:Value) (Q:Hp→Prop),Inv X pins σ H s→aG o ov→aG i iv→aG v u→t o i v H Q →
    wpAny (model X.prog X.w) X.A (setItem ov iv u) (fun _ s'=>∃ H',Inv X pins σ H' s'∧Q H') X.xe s
section
variable {X:Cx} {pos:Pos}
def zcV (i:Nat):TG:=fun v σ H Q=>Q (σ.set i (some v)) H
theorem zay {i:Nat} {x:Str} (hN:X.N.Nodup) (hi:X.N[i]?=some x) (hx:Loc X.env.scope x) (hf:X.fn x=true∨X.env.scope.names.lookup x=some .local:=by first | exact .inl rfl | exact .inr rfl | assumption):PG X (.Name x pos) (zcV i):=by
  intro pins s σ H v u Q I r h
  exact wpAny_assign_Name (zhT I hN hi hx r (fun s' I'=>⟨_,H,I',h⟩) hf)
def gNil:TGs:=fun vs σ H Q=>vs=[]∧Q σ H
def gCons (t:TG) (u:TGs):TGs:=fun vs σ H Q=>∃ v r,vs=v :: r∧t v σ H fun σ' H'=>u r σ' H' Q
theorem ziW:PGs X [] gNil:=by
  intro pins s σ H vs us Q I r h
  obtain⟨e,h⟩:=h
  subst e
  cases r
  exact assignInOrder_nil ⟨σ,H,I,h⟩
theorem zeu {e:Expr} {es:List Expr} {t:TG} {u:TGs} (h1:PG X e t) (h2:PGs X es u)
    (hs:(assignEach (e :: es) X.env).map (·.2)=assign e X.env :: (assignEach es X.env).map (·.2):=by rfl):PGs X (e :: es) (gCons t u):=by
  intro pins s σ H vs us Q I r h
  obtain⟨v,vr,e1,h⟩:=h
  subst e1
  cases r with
  | cons r rr =>
    rw[hs]
    refine assignInOrder_cons (thn (h1 pins s σ H _ _ _ I r h) fun _ s1 ⟨σ1,H1,I1,q1⟩=>?_)
    exact h2 pins s1 σ1 H1 _ _ Q I1 rr q1
def gTup (K:PySem.W.Frag) (n:Nat) (t:TGs):TG:=fun v σ H Q=>∃ a xs,v=.ref a∧SqT K H a xs∧xs.length=n∧t xs σ H Q
theorem zj2 {es:List Expr} {k:Nat} {t:TGs} {n:Nat} (hc:X.calm=true) (h:PGs X es t)
    (hn:(assignEach es X.env).length=n:=by rfl) (hst:(assignEach es X.env).findIdx? (·.1)=none:=by rfl):PG X (.Tuple es k pos) (gTup X.K n t):=by
  intro pins s σ H v u Q I r hw
  obtain⟨a,xs,e1,hq,hl,hw⟩:=hw
  subst e1
  cases r
  obtain⟨its,rv,ht,hz⟩:=I.tuple hq
  refine assign_Tuple_tuple (I.ok.hd hc) ht (by simp [hn,←hl,rv.length]) hst fun h' hx=>?_
  have I1:Inv X pins σ H { s with heap:=h' }:=I.kept (t':=s.toks) fun b o e=>hx b o (Nat.ne_of_lt (Heap.lt_size e)) e
  exact h pins _ σ H xs _ Q I1 (by simpa using rv) hw
def gSub (to ti:TE) (t:TSet):TG:=fun v σ H Q=>to σ H fun o H1=>ti σ H1 fun i H2=>t o i v H2 fun H3=>Q σ H3
theorem zj3 {o i:Expr} {to ti:TE} {t:TSet} (ho:PE X o to) (hi:PE X i ti) (hs:PSet X t)
    (ha:∀ v,assign (.Subscript o i pos) X.env v=(do
      let ov ←holding [v] (eval o X.env)
      let iv ←holding [v,ov] (eval i X.env)
      standAt pos
      holding [v,ov,iv] (setItem ov iv v)
      release [v,ov,iv] []):=by intro _;rfl):PG X (.Subscript o i pos) (gSub to ti t):=by
  intro pins s σ H v u Q I r h
  rw[ha]
  refine wpAny_bind (wpAny_holding (thn (ho pins s σ H _ I h) fun ov s1 ⟨x,H1,I1,r1,q1⟩=>?_))
  refine wpAny_bind (wpAny_holding (thn (hi pins s1 σ H1 _ I1 q1) fun iv s2 ⟨y,H2,I2,r2,q2⟩=>?_))
  refine wpAny_bind (wpAny_standAt (wpAny_bind (wpAny_holding (thn (hs pins s2 σ H2 x y v ov iv u _ I2 r1 r2 r q2) fun _ s3 ⟨H3,I3,q3⟩=>?_))))
  exact wpAny_release ⟨σ,H3,I3,q3⟩
def tAsg (te:TE) (g:TG):TS:=fun D σ H=>te σ H fun x H1=>g x σ H1 D.nx
theorem zjX {tg e:Expr} {te:TE} {g:TG} (he:PE X e te) (hg:PG X tg g) (hs:swapsWithSole [tg] e pos.line X.env=pure false:=by rfl) (hw:swappedStores [tg] e X.env=pure none:=by rfl)
    (h1:(assignEach [tg] X.env).map (·.2)=[assign tg X.env]:=by rfl):PS X (.Assign [tg] e pos) (tAsg te g):=by
  intro pins s σ H D I h
  refine wpAny_Assign_stores (thn (he pins s σ H _ I h) fun v s1 ⟨x,H1,I1,r1,q1⟩=>?_) hs hw
  rw[h1]
  exact thn (hg pins s1 σ H1 x v _ I1 r1 q1) fun _ s2 q=>q
theorem aA {i:Nat} {x:Str} {e:Expr} {te:TE} {pos':Pos} (hN:X.N.Nodup) (hi:X.N[i]?=some x) (hx:Loc X.env.scope x) (he:PE X e te) (hs:swapsWith e (some (.Name x pos')) pos.line X.env=pure false:=by rfl) (hf:X.fn x=true∨X.env.scope.names.lookup x=some .local:=by first | exact .inl rfl | exact .inr rfl | assumption) :
    PS X (.Assign [.Name x pos'] e pos) (tAsg te (zcV i)):=by
  intro pins s σ H D I h
  refine wpAny_Assign_Name (thn (he pins s σ H _ I h) fun v s1 ⟨y,H1,I1,r1,q1⟩=>?_) hs
  exact zhT I1 hN hi hx r1 (fun s2 I2=>⟨_,H1,I2,q1⟩) hf
end
section
variable {X:Cx} {pos:Pos}
def tWhile (c:TT) (tb:TS):TS:=fun D σ H=>∃ W:Nat→St→Hp→Prop,(∃ m,W m σ H)∧∀ m σ H,W m σ H →
  c σ H fun b H1=>if b=true then ∃ N:St→Hp→Prop,(∀ σ' H',N σ' H'→∃ m',m' < m∧W m' σ' H')∧tb { D with nx:=N,ct:=N,bk:=D.nx } σ H1 else D.nx σ H1
theorem zfC {c:Expr} {body:List Stmt} {tc:TT} {tb:TS} (hp:PassesOwn (model X.prog X.w) X.A X.env X.xe) (hc:PT X c tc) (hb:PSs X body tb):PS X (.While c body [] pos) (tWhile tc tb):=by
  intro pins s σ H D I h
  obtain⟨W,⟨m0,w0⟩,turn⟩:=h
  refine wpAny_While (codeAny_whileLoop (fun n s'=>∃ σ' H',Inv X pins σ' H' s'∧W n σ' H') ?_ m0 ⟨σ,H,I,w0⟩)
  rintro n s1 ⟨σ1,H1,I1,w1⟩
  refine wpAny_passesOwn hp (thn (hc pins s1 σ1 H1 _ I1 (turn n σ1 H1 w1)) fun b s2 ⟨H2,I2,q2⟩=>?_)
  cases b with
  | true =>
    obtain⟨N,hN,q2⟩:=q2
    rw[if_pos rfl]
    refine wpAny_passesOwn hp (thn (hb pins s2 σ1 H2 _ I2 q2) fun f s3 q3=>?_)
    cases f with
    | next =>
      obtain⟨σ3,H3,I3,n3⟩:=q3
      obtain⟨m',hm,w3⟩:=hN σ3 H3 n3
      exact⟨m',hm,σ3,H3,I3,w3⟩
    | cont =>
      obtain⟨σ3,H3,I3,n3⟩:=q3
      obtain⟨m',hm,w3⟩:=hN σ3 H3 n3
      exact⟨m',hm,σ3,H3,I3,w3⟩
    | brk=>exact q3
    | ret v=>exact q3
  | false =>
    rw[if_neg Bool.false_ne_true]
    exact wpAny_execs_nil ⟨σ1,H2,I2,q2⟩
end
structure It where
  go:Nat→Hp→Prop
  yld:Nat→Hp→V→Hp→Prop
  stop:Nat→Hp→Prop
def zbi (X:Cx) (pins:List (Addr × Obj)) (H:Hp) (b:Addr):Prop :=
  H b=none∧b≠X.env.locals∧b∉X.fs∧(b∈X.ex∨X.s₀.heap.objs.size≤b)∧(∀ x c,X.env.cells.lookup x=some c→c≠b)∧∀ p∈X.pn++pins,p.1≠b
theorem Inv.fpOk {X:Cx} {pins:List (Addr × Obj)} {σ:St} {H H':Hp} {s:Shared} {b:Addr} (I:Inv X pins σ H s) (hb:s.heap.objs.size≤b) (hn:H' b=none):zbi X pins H' b:=by
  refine⟨hn,Nat.ne_of_gt (Nat.lt_of_lt_of_le I.lt hb),I.nofs hb,.inr (Nat.le_trans I.sz hb),fun x c e z=>?_,fun p hp z=>?_⟩
  · obtain⟨v,q⟩:=I.cell x c e
    exact absurd (Nat.lt_of_lt_of_le q.lt (by rw[z];exact hb)) (Nat.lt_irrefl _)
  · exact absurd (Nat.lt_of_lt_of_le (Heap.lt_size (I.pin p hp).1) (by rw[z];exact hb)) (Nat.lt_irrefl _)
structure Turn (P:Program) (w:World) (K:PySem.W.Frag) (tg:Expr) (J:It) (fp:List Addr) (it:Addr) (tn:Nat→Heap→Prop):Prop where
  mem:it∈fp
  obj:∀ i h,tn i h→∀ b∈fp,∃ o,h.get? b=some o∧∀ v,o.data≠.cell v
  keep:∀ i h h',tn i h→(∀ b∈fp,∀ o,h.get? b=some o→h'.get? b=some o)→tn i h'
  item:∀(X:Cx),X.prog=P→X.w=w→X.K=K→X.calm=true→∀(i:Nat) (pins:List (Addr × Obj)) (s:Shared) (σ:St) (H:Hp) (E:Value→Shared→Prop),Inv X pins σ H s→(∀ b∈fp,zbi X pins H b)→tn i s.heap→J.go i H →
    wpAny (model P w) X.A (pyNext (.ref it)) (fun r s1=>∃ u,r=some u ∧
      wpAny (model P w) X.A (letOwnedTupleGo tg (.ref it) u) (fun _ s2=>∃ x H',Inv X pins σ H' s2∧aG x u∧J.yld i H x H'∧tn (i+1) s2.heap∧∀ b∈fp,H' b=none) E s1) E s
  done:∀(X:Cx),X.prog=P→X.w=w→X.K=K→X.calm=true→∀(i:Nat) (pins:List (Addr × Obj)) (s:Shared) (σ:St) (H:Hp) (E:Value→Shared→Prop),Inv X pins σ H s→(∀ b∈fp,zbi X pins H b)→tn i s.heap→J.stop i H →
    wpAny (model P w) X.A (pyNext (.ref it)) (fun r s1=>r=none∧Inv X pins σ H s1) E s
  self:∀(A:Around) (i:Nat) (s:Shared) (Q:Value→Shared→Prop) (E:Value→Shared→Prop),tn i s.heap→Q (.ref it) s→wpAny (model P w) A (pyIter (.ref it)) Q E s
abbrev TI:=St→Hp→(It→Hp→Prop)→Prop
def PIE (X:Cx) (pins:List (Addr × Obj)) (σ:St) (tg:Expr) (R:It→Hp→Prop) (itv:Value) (s2:Shared):Prop :=
  ∃(it:Addr) (fp:List Addr) (tn:Nat→Heap→Prop) (J:It) (H':Hp),itv=.ref it∧Inv X pins σ H' s2∧Turn X.prog X.w X.K tg J fp it tn∧tn 0 s2.heap∧(∀ b∈fp,zbi X pins H' b)∧R J H'
def PI (X:Cx) (tg iter:Expr) (wi:TI):Prop :=
  ∀(pins:List (Addr × Obj)) (s:Shared) (σ:St) (H:Hp) (R:It→Hp→Prop),Inv X pins σ H s→wi σ H R →
    wpAny (model X.prog X.w) X.A (eval iter X.env) (fun v s1=>wpAny (model X.prog X.w) X.A (pyIter v) (PIE X pins σ tg R) X.xe s1) X.xe s
theorem zfP {M:Model} {A:Around} {E:Value→Shared→Prop} {s:Shared} {tg:Expr} {it:Addr} {u:Value} {o:Obj} {n:String} {vs:Array Value} {Q:Unit→Shared→Prop} (ho:s.heap.get? it=some o) (hc:o.cls=.type n) (hd:o.data=.fields vs)
    (hn:["enumerate","zip","dict_itemiterator","dict_reverseitemiterator","odict_iterator","itertools.zip_longest","itertools.pairwise"].contains n=false) (hQ:Q () s):wpAny M A (letOwnedTupleGo tg (.ref it) u) Q E s:=by
  unfold letOwnedTupleGo
  cases tg <;> first
    | exact wpAny_pure hQ
    | (cases u <;> first
        | exact wpAny_pure hQ
        | (refine wpAny_bind (wpAny_load ho ?_)
           rw[hc,hd]
           show wpAny M A (if(["enumerate","zip","dict_itemiterator","dict_reverseitemiterator","odict_iterator","itertools.zip_longest","itertools.pairwise"].contains n&&vs[0]? == some (rawInt _))=true then _ else _) Q E s
           rw[if_neg (by intro h;rw[hn,Bool.false_and]at h;cases h)]
           exact wpAny_pure hQ))
def Itl (K:PySem.W.Frag) (a:Addr):It :=
  ⟨fun i H=>∃ xs x,SqL K H a xs∧xs[i]?=some x,fun i H x H'=>H'=H∧∀ xs,SqL K H a xs→xs[i]?=some x,fun i H=>∃ xs,SqL K H a xs∧xs.length≤i⟩
def Itt (K:PySem.W.Frag) (a:Addr):It :=
  ⟨fun i H=>∃ xs x,SqT K H a xs∧xs[i]?=some x,fun i H x H'=>H'=H∧∀ xs,SqT K H a xs→xs[i]?=some x,fun i H=>∃ xs,SqT K H a xs∧xs.length≤i⟩
def Itr (lo:Int) (n:Nat):It:=⟨fun i _=>i < n,fun i H x H'=>H'=H∧x=.int (lo+i),fun i _=>n≤i⟩
theorem zgT {P:Program} {w:World} {K:PySem.W.Frag} {tg:Expr} (a it:Addr):Turn P w K tg (Itl K a) [it] it (fun i h=>h.IsListIter it a i) where
  mem:=by simp
  obj:=fun i h st b hb=>by
    have e:b=it:=by simpa using hb
    subst e
    obtain⟨o,e,c,d⟩:=st
    exact⟨o,e,fun v z=>by rw[d]at z;cases z⟩
  keep:=fun i h h' st k=>st.at fun o e=>k it (by simp) o e
  item:=by
    intro X hP hw hK hc i pins s σ H E I hf st hg
    subst hP hw hK
    obtain⟨xs,x,hq,hx⟩:=hg
    obtain⟨its,rv,p,hz⟩:=I.list hq
    obtain⟨u,hu,ru⟩:=rv.get hx
    obtain⟨f0,f1,f2,f3,f4,f5⟩:=hf it (by simp)
    refine wpAny_pyNext_list_item st p.isList (x:=u) (by simpa using hu) fun h' st' sb=>?_
    have I1:Inv X pins σ H { s with heap:=h' }:=I.turned (t':=s.toks) (fun b o hb e=>(sb.2 b hb).trans e) f0 f1 f3 f4 f5
    obtain⟨o,e,c,d⟩:=id st'
    exact⟨u,rfl,zfP (s:={ s with heap:=h' }) e c d (by decide) ⟨x,H,I1,ru,⟨rfl,fun ys hy=>by rw[I.list_inj hy hq];exact hx⟩,st',fun b hb=>(hf b hb).1⟩⟩
  done:=by
    intro X hP hw hK hc i pins s σ H E I hf st hg
    subst hP hw hK
    obtain⟨xs,hq,hx⟩:=hg
    obtain⟨its,rv,p,hz⟩:=I.list hq
    obtain⟨f0,f1,f2,f3,f4,f5⟩:=hf it (by simp)
    have hl:=rv.length
    exact wpAny_pyNext_list_end (I.ok.hd hc) st p.isList (by simp;omega) fun h' eb=>⟨rfl,I.turned (t':=s.toks) (fun b o hb e=>eb b o hb e) f0 f1 f3 f4 f5⟩
  self:=fun _ _ _ _ _ st h=>wpAny_pyIter_listiter st h
theorem zfY {P:Program} {w:World} {K:PySem.W.Frag} {tg:Expr} (a it:Addr):Turn P w K tg (Itt K a) [it] it (fun i h=>h.IsTupleIter it a i) where
  mem:=by simp
  obj:=fun i h st b hb=>by
    have e:b=it:=by simpa using hb
    subst e
    obtain⟨o,e,c,d⟩:=st
    exact⟨o,e,fun v z=>by rw[d]at z;cases z⟩
  keep:=fun i h h' st k=>st.at fun o e=>k it (by simp) o e
  item:=by
    intro X hP hw hK hc i pins s σ H E I hf st hg
    subst hP hw hK
    obtain⟨xs,x,hq,hx⟩:=hg
    obtain⟨its,rv,p,hz⟩:=I.tuple hq
    obtain⟨u,hu,ru⟩:=rv.get hx
    obtain⟨f0,f1,f2,f3,f4,f5⟩:=hf it (by simp)
    refine wpAny_pyNext_tuple_item st (show s.heap.IsTuple a its.toArray from p) (x:=u) (by simpa using hu) fun h' st' sb=>?_
    have I1:Inv X pins σ H { s with heap:=h' }:=I.turned (t':=s.toks) (fun b o hb e=>(sb.2 b hb).trans e) f0 f1 f3 f4 f5
    obtain⟨o,e,c,d⟩:=id st'
    exact⟨u,rfl,zfP (s:={ s with heap:=h' }) e c d (by decide) ⟨x,H,I1,ru,⟨rfl,fun ys hy=>by rw[I.tuple_inj hy hq];exact hx⟩,st',fun b hb=>(hf b hb).1⟩⟩
  done:=by
    intro X hP hw hK hc i pins s σ H E I hf st hg
    subst hP hw hK
    obtain⟨xs,hq,hx⟩:=hg
    obtain⟨its,rv,p,hz⟩:=I.tuple hq
    obtain⟨f0,f1,f2,f3,f4,f5⟩:=hf it (by simp)
    have hl:=rv.length
    exact wpAny_pyNext_tuple_end (I.ok.hd hc) st (show s.heap.IsTuple a its.toArray from p) (by simp;omega) fun h' eb=>⟨rfl,I.turned (t':=s.toks) (fun b o hb e=>eb b o hb e) f0 f1 f3 f4 f5⟩
  self:=fun _ _ _ _ _ st h=>wpAny_pyIter_tupleiter st h
theorem zjt {P:Program} {w:World} {K:PySem.W.Frag} {tg:Expr} (it:Addr) (lo:Int) (n:Nat):Turn P w K tg (Itr lo n) [it] it (fun i h=>IsRangeIter h it (lo+(i:Nat) * 1) ((n:Int) - (i:Nat)) 1) where
  mem:=by simp
  obj:=fun i h st b hb=>by
    have e:b=it:=by simpa using hb
    subst e
    exact⟨_,st,fun v z=>by
      have z':Data.fields _=Data.cell v:=z
      cases z'⟩
  keep:=fun i h h' st k=>k it (by simp) _ st
  item:=by
    intro X hP hw hK hc i pins s σ H E I hf st hg
    subst hP hw hK
    obtain⟨f0,f1,f2,f3,f4,f5⟩:=hf it (by simp)
    have W:=Walks.range (prog:=X.prog) (w:=X.w) (I.ok.hd hc) it lo 1 n
    refine W.item i s _ _ hg st fun v h' tk hv st' kk=>?_
    obtain⟨t,rfl⟩:=hv
    have I1:Inv X pins σ H { s with heap:=h',toks:=tk }:=I.turned (fun b o hb e=>kk b o (by simpa using hb) e) f0 f1 f3 f4 f5
    refine⟨_,rfl,zfP (s:={ s with heap:=h',toks:=tk }) (n:="range_iterator") st' rfl rfl (by decide) ⟨.int (lo+i),H,I1,⟨t,?_⟩,⟨rfl,rfl⟩,st',fun b hb=>(hf b hb).1⟩⟩
    rw[Int.mul_one]
  done:=by
    intro X hP hw hK hc i pins s σ H E I hf st hg
    subst hP hw hK
    obtain⟨f0,f1,f2,f3,f4,f5⟩:=hf it (by simp)
    exact wpAny_pyNext_range_end (I.ok.hd hc) st (by have:n≤i:=hg;omega) fun h' eb=>⟨rfl,I.turned (t':=s.toks) (fun b o hb e=>eb b o hb e) f0 f1 f3 f4 f5⟩
  self:=fun _ _ _ _ _ st h=>wpAny_pyIter_rangeiter st h
end L2
namespace L2
open PySem PySem.Spec PyProof.Rows
section
variable {X:Cx} {tg:Expr}
def iList (K:PySem.W.Frag) (tl:TE):TI:=fun σ H R=>tl σ H fun x H1=>∃ a,x=.ref a∧(∃ xs,SqL K H1 a xs)∧R (Itl K a) H1
def iTup (K:PySem.W.Frag) (tl:TE):TI:=fun σ H R=>tl σ H fun x H1=>∃ a,x=.ref a∧(∃ xs,SqT K H1 a xs)∧R (Itt K a) H1
theorem za6 {l:Expr} {tl:TE} (hl:PE X l tl):PI X tg l (iList X.K tl):=by
  intro pins s σ H R I h
  refine thn (hl pins s σ H _ I h) fun v s1 ⟨x,H1,I1,r1,q1⟩=>?_
  obtain⟨a,e,⟨xs,hq⟩,q⟩:=q1
  subst e
  cases r1
  obtain⟨its,rv,p,hz⟩:=I1.list hq
  refine wpAny_pyIter_list p.isList ?_
  refine⟨s1.heap.objs.size,[s1.heap.objs.size],_,_,H1,rfl,I1.kept (t':=s1.toks) fun b o e=>Heap.get?_push_of_some _ e,zgT a _,⟨_,Heap.get?_push_size _ rfl,rfl,rfl⟩,fun b hb=>?_,q⟩
  have e:b=s1.heap.objs.size:=by simpa using hb
  subst e
  exact I1.fpOk (Nat.le_refl _) (I1.hok.fresh (Nat.le_refl _))
theorem zec {l:Expr} {tl:TE} (hl:PE X l tl):PI X tg l (iTup X.K tl):=by
  intro pins s σ H R I h
  refine thn (hl pins s σ H _ I h) fun v s1 ⟨x,H1,I1,r1,q1⟩=>?_
  obtain⟨a,e,⟨xs,hq⟩,q⟩:=q1
  subst e
  cases r1
  obtain⟨its,rv,p,hz⟩:=I1.tuple hq
  refine wpAny_pyIter_tuple (show s1.heap.IsTuple a its.toArray from p) ?_
  refine⟨s1.heap.objs.size,[s1.heap.objs.size],_,_,H1,rfl,I1.kept (t':=s1.toks) fun b o e=>Heap.get?_push_of_some _ e,zfY a _,⟨_,Heap.get?_push_size _ rfl,rfl,rfl⟩,fun b hb=>?_,q⟩
  have e:b=s1.heap.objs.size:=by simpa using hb
  subst e
  exact I1.fpOk (Nat.le_refl _) (I1.hok.fresh (Nat.le_refl _))
theorem zh4 {pins:List (Addr × Obj)} {σ:St} {H:Hp} {s:Shared} {R:It→Hp→Prop} {E:Value→Shared→Prop} {lo hi:Int} {t u v:Tok} {tk:Nat} (I:Inv X pins σ H s) (h1:-(2 ^ 62)≤lo) (h2:lo < 2 ^ 62) (h3:-(2 ^ 62)≤hi) (h4:hi < 2 ^ 62)
    (q:R (Itr lo (hi - lo).toNat) H):wpAny (model X.prog X.w) X.A (pyIter (.ref s.heap.objs.size)) (PIE X pins σ tg R) E { s with heap:=s.heap.push { cls:=.type "range",data:=.fields #[.int lo t,.int hi u,.int 1 v] },toks:=tk }:=by
  refine wpAny_pyIter_range (IsRange.new ..) (small_one h1 h2 h3 h4) ?_
  have I1:Inv X pins σ H { s with heap:=s.heap.push { cls:=.type "range",data:=.fields #[.int lo t,.int hi u,.int 1 v] },toks:=tk }:=I.kept fun b o e=>Heap.get?_push_of_some _ e
  refine⟨(s.heap.push { cls:=.type "range",data:=.fields #[.int lo t,.int hi u,.int 1 v] }).objs.size,[(s.heap.push { cls:=.type "range",data:=.fields #[.int lo t,.int hi u,.int 1 v] }).objs.size],_,_,H,rfl,
    I1.kept (t':=tk) fun b o e=>Heap.get?_push_of_some _ e,zjt _ lo (hi - lo).toNat,?_,fun b hb=>?_,q⟩
  · have e1:lo+((0:Nat):Int) * 1=lo:=by simp
    have e2:(((hi - lo).toNat:Nat):Int) - ((0:Nat):Int)=Builtin.Range.rangeSize lo hi 1:=by rw[rangeSize_one];split <;> omega
    show IsRangeIter _ _ (lo+((0:Nat):Int) * 1) ((((hi - lo).toNat:Nat):Int) - ((0:Nat):Int)) 1
    rw[e1,e2]
    exact Heap.get?_push_size _ rfl
  · have e:b=(s.heap.push { cls:=.type "range",data:=.fields #[.int lo t,.int hi u,.int 1 v] }).objs.size:=by simpa using hb
    subst e
    exact I1.fpOk (Nat.le_refl _) (I1.hok.fresh (Nat.le_refl _))
def iRng1 (ta:TA):TI:=fun σ H R=>ta σ H fun vs H1=>∃ j:Int,vs=[.int j]∧-(2 ^ 62)≤j∧j < 2 ^ 62∧R (Itr 0 j.toNat) H1
def iRng2 (ta:TA):TI:=fun σ H R=>ta σ H fun vs H1=>∃ i j:Int,vs=[.int i,.int j]∧(-(2 ^ 62)≤i∧i < 2 ^ 62∧-(2 ^ 62)≤j∧j < 2 ^ 62)∧R (Itr i (j - i).toNat) H1
theorem zdV {a:Expr} {ta:TA} {p pos:Pos} (hg:Gl X "range") (hm:X.mg "range"=none) (ha:PA X [a] ta) (hs:starEach [a] X.env=[(false,eval a X.env)]:=by rfl):PI X tg (.Call (.Name "range" p) [a] [] pos) (iRng1 ta):=by
  intro pins s σ H R I h
  refine Call_ (zeN I hg hm boot_range (PyProof.Rows.callWith_type1 (thn (ha pos pins s σ H _ I h) fun us s1 ⟨vs,H1,I1,r1,q1⟩=>?_) hs rfl))
  obtain⟨j,e,q1,q2,q⟩:=q1
  subst e
  cases r1 with
  | cons r rr =>
    cases rr
    obtain⟨t,rfl⟩:=r
    exact call_range_1 (zh4 I1 (by omega) (by omega) q1 q2 (by simpa using q))
theorem zkz {a b:Expr} {ta:TA} {p pos:Pos} (hg:Gl X "range") (hm:X.mg "range"=none) (ha:PA X [a,b] ta) (hs:starEach [a,b] X.env=[(false,eval a X.env),(false,eval b X.env)]:=by rfl) (hs2:starEach [b] X.env=[(false,eval b X.env)]:=by rfl) :
    PI X tg (.Call (.Name "range" p) [a,b] [] pos) (iRng2 ta):=by
  intro pins s σ H R I h
  refine Call_ (zeN I hg hm boot_range (PyProof.Rows.callWith_type1 (thn (ha pos pins s σ H _ I h) fun us s1 ⟨vs,H1,I1,r1,q1⟩=>?_) (by rw[hs,hs2]) (by rw[hs2];rfl)))
  obtain⟨i,j,e,⟨q1,q2,q3,q4⟩,q⟩:=q1
  subst e
  cases r1 with
  | cons r rr =>
    cases rr with
    | cons r' rr =>
      cases rr
      obtain⟨t,rfl⟩:=r
      obtain⟨t',rfl⟩:=r'
      exact call_range_2 (zh4 I1 q1 q2 q3 q4 q)
def tFor (wi:TI) (g:TG) (tb:TS):TS:=fun D σ H=>wi σ H fun J H1=>∃ W:Nat→Nat→St→Hp→Prop,(∃ m,W 0 m σ H1)∧∀ i m σ H,W i m σ H →
  (J.stop i H∧D.nx σ H)∨(J.go i H∧∃ N:St→Hp→Prop,(∀ σ' H',N σ' H'→∃ m',m' < m∧W (i+1) m' σ' H')∧∀ x H',J.yld i H x H'→g x σ H' fun σ2 H2=>tb { D with nx:=N,ct:=N,bk:=D.nx } σ2 H2)
def zeb (fp:List Addr) (h:Heap):List (Addr × Obj):=fp.filterMap fun b=>(h.get? b).map fun o=>(b,o)
theorem zaQ {fp:List Addr} {h:Heap} {b:Addr} {o:Obj} (hb:b∈fp) (e:h.get? b=some o):(b,o)∈zeb fp h:=List.mem_filterMap.mpr ⟨b,hb,by rw[e];rfl⟩
theorem zkG {fp:List Addr} {h:Heap} {p:Addr × Obj} (hp:p∈zeb fp h):p.1∈fp∧h.get? p.1=some p.2:=by
  obtain⟨b,hb,e⟩:=List.mem_filterMap.mp hp
  cases q:h.get? b with
  | none=>rw[q]at e;cases e
  | some o =>
    rw[q]at e
    have e':(b,o)=p:=Option.some.inj e
    subst e'
    exact⟨hb,q⟩
theorem Inv.pinned {pins:List (Addr × Obj)} {σ:St} {H:Hp} {s:Shared} {fp:List Addr} (I:Inv X pins σ H s) (hf:∀ b∈fp,zbi X pins H b) (ho:∀ b∈fp,∃ o,s.heap.get? b=some o∧∀ v,o.data≠.cell v):Inv X (pins++zeb fp s.heap) σ H s :=
  I.pins_of fun p hp=>(List.mem_append.mp hp).elim (fun z=>I.pin p (List.mem_append_right _ z)) fun z=>by
    obtain⟨hb,e⟩:=zkG z
    obtain⟨f0,f1,f2,_⟩:=hf p.1 hb
    obtain⟨o,e',d⟩:=ho p.1 hb
    rw[e]at e';cases e'
    exact⟨e,f0,f1,f2,d⟩
theorem Inv.unpinned {pins pl:List (Addr × Obj)} {σ:St} {H:Hp} {s:Shared} (I:Inv X (pins++pl) σ H s):Inv X pins σ H s:=I.pins_of fun p hp=>I.pin p (List.mem_append_right _ (List.mem_append_left _ hp))
theorem zaZ {iter:Expr} {body:List Stmt} {wi:TI} {g:TG} {tb:TS} {pos:Pos} (hp:PassesOwn (model X.prog X.w) X.A X.env X.xe) (hc:X.calm=true) (hi:PI X tg iter wi) (hg:PG X tg g) (hb:PSs X body tb)
    (hs:∀ x,foldedSetIterable iter X.env x=pure x:=by intro _;rfl):PS X (.For tg iter body [] pos) (tFor wi g tb):=by
  intro pins s σ H D I h
  refine wpAny_For (thn (hi pins s σ H _ I h) fun v s1 h1=>thn h1 fun itv s2 h2=>?_) hs
  obtain⟨it,fp,tn,J,H2,e,I2,T,st2,f2,W,⟨m0,w0⟩,turn⟩:=h2
  subst e
  have stat:∀ {H':Hp},(∀ b∈fp,H' b=none)→∀ b∈fp,zbi X pins H' b:=fun hn b hb=>⟨hn b hb,(f2 b hb).2⟩
  refine codeAny_forLoop_any (fun n s'=>∃ i σ' H',Inv X pins σ' H' s'∧tn i s'.heap∧(∀ b∈fp,H' b=none)∧W i n σ' H') ?_ m0 ⟨0,σ,H2,I2,st2,fun b hb=>(f2 b hb).1,w0⟩
  rintro n s3 ⟨i,σ3,H3,I3,st3,fr3,w3⟩
  rcases turn i n σ3 H3 w3 with ⟨stop,qn⟩ | ⟨go,N,hN,step⟩
  · refine wpAny_passesOwn hp (thn (T.done X rfl rfl rfl hc i pins s3 σ3 H3 X.xe I3 (stat fr3) st3 stop) fun r s4 ⟨hr,I4⟩=>?_)
    subst hr
    exact wpAny_execs_nil ⟨σ3,H3,I4,qn⟩
  · refine wpAny_passesOwn hp (thn (T.item X rfl rfl rfl hc i pins s3 σ3 H3 X.xe I3 (stat fr3) st3 go) fun r s4 ⟨u,hr,h4⟩=>?_)
    subst hr
    refine wpAny_passesOwn hp (thn h4 fun _ s5 ⟨x,H5,I5,r5,y5,st5,fr5⟩=>?_)
    have I5':=I5.pinned (stat fr5) (T.obj _ _ st5)
    refine wpAny_passesOwn hp (thn (hg _ s5 σ3 H5 x u _ I5' r5 (step x H5 y5)) fun _ s6 ⟨σ6,H6,I6,q6⟩=>?_)
    refine wpAny_passesOwn hp (thn (hb _ s6 σ6 H6 _ I6 q6) fun f s7 q7=>?_)
    have again:∀ {σ7:St} {H7:Hp},Inv X (pins++zeb fp s5.heap) σ7 H7 s7→N σ7 H7→∃ m,m < n∧∃ i σ' H',Inv X pins σ' H' s7∧tn i s7.heap∧(∀ b∈fp,H' b=none)∧W i m σ' H':=fun {σ7 H7} I7 n7=>by
      obtain⟨m',hm,w7⟩:=hN σ7 H7 n7
      refine⟨m',hm,i+1,σ7,H7,I7.unpinned,T.keep _ _ _ st5 fun b hb o e=>(I7.pin (b,o) (List.mem_append_right _ (List.mem_append_right _ (zaQ hb e)))).1,fun b hb=>?_,w7⟩
      obtain⟨o,e,d⟩:=T.obj _ _ st5 b hb
      exact(I7.pin (b,o) (List.mem_append_right _ (List.mem_append_right _ (zaQ hb e)))).2.1
    cases f with
    | next=>obtain⟨σ7,H7,I7,n7⟩:=q7;exact again I7 n7
    | cont=>obtain⟨σ7,H7,I7,n7⟩:=q7;exact again I7 n7
    | brk=>obtain⟨σ7,H7,I7,q7⟩:=q7;exact⟨σ7,H7,I7.unpinned,q7⟩
    | ret v=>obtain⟨x7,σ7,H7,I7,r7,q7⟩:=q7;exact⟨x7,σ7,H7,I7.unpinned,r7,q7⟩
end
theorem zfJ {K:PySem.W.Frag} {a:Addr} {xs:List V} {g:TG} {tb:TS} {D:zbt} {σ:St} {H:Hp} (Pv:Nat→St→Hp→Prop) (h0:Pv 0 σ H) (hl:∀ i σ H,i≤xs.length→Pv i σ H→SqL K H a xs)
    (hs:∀ i x σ H,xs[i]?=some x→Pv i σ H→g x σ H fun σ2 H2=>tb { D with nx:=Pv (i+1),ct:=Pv (i+1),bk:=D.nx } σ2 H2) (hd:∀ σ H,Pv xs.length σ H→D.nx σ H) :
    ∃ W:Nat→Nat→St→Hp→Prop,(∃ m,W 0 m σ H)∧∀ i m σ H,W i m σ H →
      ((Itl K a).stop i H∧D.nx σ H)∨((Itl K a).go i H∧∃ N:St→Hp→Prop,(∀ σ' H',N σ' H'→∃ m',m' < m∧W (i+1) m' σ' H')∧∀ x H',(Itl K a).yld i H x H'→g x σ H' fun σ2 H2=>tb { D with nx:=N,ct:=N,bk:=D.nx } σ2 H2):=by
  refine⟨fun i m σ H=>m=xs.length - i∧i≤xs.length∧Pv i σ H,⟨xs.length,by simp,Nat.zero_le _,h0⟩,?_⟩
  rintro i m σ H ⟨rfl,hi,p⟩
  have q:=hl i σ H hi p
  by_cases hlt:i < xs.length
  · refine .inr ⟨⟨xs,xs[i],q,by simp [hlt]⟩,Pv (i+1),fun σ' H' p'=>⟨xs.length - (i+1),by omega,rfl,hlt,p'⟩,fun x H' y=>?_⟩
    obtain⟨e,y⟩:=y
    subst e
    exact hs i x σ _ (y xs q) p
  · have e:i=xs.length:=by omega
    subst e
    exact .inl ⟨⟨xs,q,Nat.le_refl _⟩,hd σ H p⟩
theorem zgB {K:PySem.W.Frag} {a:Addr} {xs:List V} {g:TG} {tb:TS} {D:zbt} {σ:St} {H:Hp} (Pv:Nat→St→Hp→Prop) (h0:Pv 0 σ H) (hl:∀ i σ H,i≤xs.length→Pv i σ H→SqT K H a xs)
    (hs:∀ i x σ H,xs[i]?=some x→Pv i σ H→g x σ H fun σ2 H2=>tb { D with nx:=Pv (i+1),ct:=Pv (i+1),bk:=D.nx } σ2 H2) (hd:∀ σ H,Pv xs.length σ H→D.nx σ H) :
    ∃ W:Nat→Nat→St→Hp→Prop,(∃ m,W 0 m σ H)∧∀ i m σ H,W i m σ H →
      ((Itt K a).stop i H∧D.nx σ H)∨((Itt K a).go i H∧∃ N:St→Hp→Prop,(∀ σ' H',N σ' H'→∃ m',m' < m∧W (i+1) m' σ' H')∧∀ x H',(Itt K a).yld i H x H'→g x σ H' fun σ2 H2=>tb { D with nx:=N,ct:=N,bk:=D.nx } σ2 H2):=by
  refine⟨fun i m σ H=>m=xs.length - i∧i≤xs.length∧Pv i σ H,⟨xs.length,by simp,Nat.zero_le _,h0⟩,?_⟩
  rintro i m σ H ⟨rfl,hi,p⟩
  have q:=hl i σ H hi p
  by_cases hlt:i < xs.length
  · refine .inr ⟨⟨xs,xs[i],q,by simp [hlt]⟩,Pv (i+1),fun σ' H' p'=>⟨xs.length - (i+1),by omega,rfl,hlt,p'⟩,fun x H' y=>?_⟩
    obtain⟨e,y⟩:=y
    subst e
    exact hs i x σ _ (y xs q) p
  · have e:i=xs.length:=by omega
    subst e
    exact .inl ⟨⟨xs,q,Nat.le_refl _⟩,hd σ H p⟩
theorem zdY {lo:Int} {n:Nat} {g:TG} {tb:TS} {D:zbt} {σ:St} {H:Hp} (Pv:Nat→St→Hp→Prop) (h0:Pv 0 σ H)
    (hs:∀ i σ H,i < n→Pv i σ H→g (.int (lo+i)) σ H fun σ2 H2=>tb { D with nx:=Pv (i+1),ct:=Pv (i+1),bk:=D.nx } σ2 H2) (hd:∀ σ H,Pv n σ H→D.nx σ H) :
    ∃ W:Nat→Nat→St→Hp→Prop,(∃ m,W 0 m σ H)∧∀ i m σ H,W i m σ H →
      ((Itr lo n).stop i H∧D.nx σ H)∨((Itr lo n).go i H∧∃ N:St→Hp→Prop,(∀ σ' H',N σ' H'→∃ m',m' < m∧W (i+1) m' σ' H')∧∀ x H',(Itr lo n).yld i H x H'→g x σ H' fun σ2 H2=>tb { D with nx:=N,ct:=N,bk:=D.nx } σ2 H2):=by
  refine⟨fun i m σ H=>m=n - i∧i≤n∧Pv i σ H,⟨n,by simp,Nat.zero_le _,h0⟩,?_⟩
  rintro i m σ H ⟨rfl,hi,p⟩
  by_cases hlt:i < n
  · refine .inr ⟨hlt,Pv (i+1),fun σ' H' p'=>⟨n - (i+1),by omega,rfl,hlt,p'⟩,fun x H' y=>?_⟩
    obtain⟨e,y⟩:=y
    subst e y
    exact hs i σ _ hlt p
  · have e:i=n:=by omega
    subst e
    exact .inl ⟨Nat.le_refl _,hd σ H p⟩
end L2
namespace L2
open PySem PySem.Spec PyProof.Rows
abbrev R2:=V→V→Hp→VK→Prop
def OpR (X:Cx) (f:Value→Value→Sem Value) (r:R2):Prop :=
  ∀(pins:List (Addr × Obj)) (s:Shared) (σ:St) (H:Hp) (x y:V) (v u:Value) (Q:VK),Inv X pins σ H s→aG x v→aG y u→r x y H Q →
    wpAny (model X.prog X.w) X.A (f v u) (EP X pins σ Q) X.xe s
def UnR (X:Cx) (f:Value→Sem Value) (r:V→Hp→VK→Prop):Prop :=
  ∀(pins:List (Addr × Obj)) (s:Shared) (σ:St) (H:Hp) (x:V) (v:Value) (Q:VK),Inv X pins σ H s→aG x v→r x H Q →
    wpAny (model X.prog X.w) X.A (f v) (EP X pins σ Q) X.xe s
def zbI (X:Cx) (f:Value) (r:List V→Hp→VK→Prop):Prop :=
  ∀(pins:List (Addr × Obj)) (s:Shared) (σ:St) (H:Hp) (xs:List V) (us:List Value) (Q:VK),Inv X pins σ H s→aD xs us→r xs H Q →
    wpAny (model X.prog X.w) X.A (call f us) (EP X pins σ Q) X.xe s
def tOp (r:R2) (ta tb:TE):TE:=fun σ H Q=>ta σ H fun x H1=>tb σ H1 fun y H2=>r x y H2 Q
def tUn (r:V→Hp→VK→Prop) (ta:TE):TE:=fun σ H Q=>ta σ H fun x H1=>r x H1 Q
def rI (C:Int→Int→Prop) (g:Int→Int→V):R2:=fun x y H Q=>∃ i j,x=.int i∧y=.int j∧C i j∧Q (g i j) H
def rI0 (g:Int→Int→V):R2:=fun x y H Q=>∃ i j,x=.int i∧y=.int j∧Q (g i j) H
def rU (g:Int→V):V→Hp→VK→Prop:=fun x H Q=>∃ i,x=.int i∧Q (g i) H
section
variable {X:Cx} {a b c:Expr} {ta tb tc:TE} {pos:Pos}
theorem binT (ha:PE X a ta) (hb:PE X b tb) {pins:List (Addr × Obj)} {s:Shared} {σ:St} {H:Hp} {R:V→V→Hp→Prop} (I:Inv X pins σ H s)
    (h:ta σ H fun x H1=>tb σ H1 fun y H2=>R x y H2) {Q:Value→Shared→Prop} {f:Value→Value→Sem Value}
    (hf:∀ v u s2 x y H2,Inv X pins σ H2 s2→aG x v→aG y u→R x y H2→wpAny (model X.prog X.w) X.A (f v u) Q X.xe s2) :
    wpAny (model X.prog X.w) X.A (eval a X.env) (fun v s₁=>wpAny (model X.prog X.w) X.A (eval b X.env) (fun u s₂=>wpAny (model X.prog X.w) X.A (f v u) Q X.xe s₂) X.xe s₁) X.xe s:=by
  refine thn (ha pins s σ H _ I h) fun v s1 ⟨x,H1,I1,r1,q1⟩=>?_
  refine thn (hb pins s1 σ H1 _ I1 q1) fun u s2 ⟨y,H2,I2,r2,q2⟩=>?_
  exact hf v u s2 x y H2 I2 r1 r2 q2
theorem au {op:Operator} {r:R2} (ho:OpR X (binaryOp op) r) (ha:PE X a ta) (hb:PE X b tb):PE X (.BinOp a op b pos) (tOp r ta tb):=by
  intro pins s σ H Q I h
  exact wpAny_BinOp (binT ha hb I h fun v u s2 x y H2 I2 rx ry q=>ho pins s2 σ H2 x y v u Q I2 rx ry q)
theorem zaY {op:UnaryOp} {r:V→Hp→VK→Prop} (ho:UnR X (unaryOp op) r) (ha:PE X a ta):PE X (.UnaryOp op a pos) (tUn r ta):=by
  intro pins s σ H Q I h
  exact UnaryOp_ (thn (ha pins s σ H _ I h) fun v s1 ⟨x,H1,I1,r1,q1⟩=>ho pins s1 σ H1 x v Q I1 r1 q1)
theorem opI {f:Value→Value→Sem Value} {C:Int→Int→Prop} {g:Int→Int→Int}
    (rule:∀(i j:Int) (t u:Tok) (s:Shared) (Q:Value→Shared→Prop) (E:Value→Shared→Prop),C i j→Q (.int (g i j) s.toks) { s with toks:=s.toks+1 }→wpAny (model X.prog X.w) X.A (f (.int i t) (.int j u)) Q E s) :
    OpR X f (rI C fun i j=>.int (g i j)):=by
  intro pins s σ H x y v u Q I rx ry h
  obtain⟨i,j,rfl,rfl,hc,q⟩:=h
  obtain⟨t,rfl⟩:=rx
  obtain⟨t',rfl⟩:=ry
  exact rule i j t t' s _ _ hc ⟨.int (g i j),H,I.tok _,⟨_,rfl⟩,q⟩
theorem opI0 {f:Value→Value→Sem Value} {g:Int→Int→Int}
    (rule:∀(i j:Int) (t u:Tok) (s:Shared) (Q:Value→Shared→Prop) (E:Value→Shared→Prop),Q (.int (g i j) s.toks) { s with toks:=s.toks+1 }→wpAny (model X.prog X.w) X.A (f (.int i t) (.int j u)) Q E s) :
    OpR X f (rI0 fun i j=>.int (g i j)):=by
  intro pins s σ H x y v u Q I rx ry h
  obtain⟨i,j,rfl,rfl,q⟩:=h
  obtain⟨t,rfl⟩:=rx
  obtain⟨t',rfl⟩:=ry
  exact rule i j t t' s _ _ ⟨.int (g i j),H,I.tok _,⟨_,rfl⟩,q⟩
theorem opB0 {f:Value→Value→Sem Value} {g:Int→Int→Bool}
    (rule:∀(i j:Int) (t u:Tok) (s:Shared) (Q:Value→Shared→Prop) (E:Value→Shared→Prop),Q (.bool (g i j)) s→wpAny (model X.prog X.w) X.A (f (.int i t) (.int j u)) Q E s) :
    OpR X f (rI0 fun i j=>.bl (g i j)):=by
  intro pins s σ H x y v u Q I rx ry h
  obtain⟨i,j,rfl,rfl,q⟩:=h
  obtain⟨t,rfl⟩:=rx
  obtain⟨t',rfl⟩:=ry
  exact rule i j t t' s _ _ ⟨.bl (g i j),H,I,rfl,q⟩
def CDiv (i j:Int):Prop:=0 < j∧j < 1073741824
def CMul (i j:Int):Prop:=(-(2 ^ 64) < i∧i < 2 ^ 64)∨(-(2 ^ 64) < j∧j < 2 ^ 64)
theorem CMul.ok {i j:Int} (h:CMul i j):IntMulOk i j:=by
  rcases h with ⟨h1,h2⟩ | ⟨h1,h2⟩
  · exact .of_left (intBits_le_64 h1 h2)
  · exact .of_right (intBits_le_64 h1 h2)
theorem zaM:OpR X (binaryOp .Add) (rI0 fun i j=>.int (i+j)):=opI0 fun _ _ _ _ _ _ _ q=>add_int q
theorem zcc:OpR X (binaryOp .Sub) (rI0 fun i j=>.int (i - j)):=opI0 fun _ _ _ _ _ _ _ q=>sub_int q
theorem zbX:OpR X (binaryOp .Mult) (rI CMul fun i j=>.int (i * j)):=opI fun _ _ _ _ _ _ _ hc q=>mul_int q hc.ok
theorem zbh:OpR X (binaryOp .FloorDiv) (rI CDiv fun i j=>.int (i / j)):=opI fun i j _ _ _ _ _ hc q=>by
  have h1:(0:Int) < j:=hc.1
  have h2:j < 1073741824:=hc.2
  exact floordiv_int (by omega) (by rw[Int.fdiv_eq_ediv_of_nonneg i (by omega)];exact q) (.inl (PyProof.noPylong_small (by omega)))
theorem zaL:OpR X (binaryOp .Mod) (rI (fun _ j=>0 < j) fun i j=>.int (i % j)):=opI fun i j _ _ _ _ _ hc q=>by
  have h1:(0:Int) < j:=hc
  exact mod_int' (by omega) (by rw[Int.fmod_eq_emod_of_nonneg i (by omega)];exact q)
theorem unI {f:Value→Sem Value} {g:Int→Int}
    (rule:∀(i:Int) (t:Tok) (s:Shared) (Q:Value→Shared→Prop) (E:Value→Shared→Prop),Q (.int (g i) s.toks) { s with toks:=s.toks+1 }→wpAny (model X.prog X.w) X.A (f (.int i t)) Q E s) :
    UnR X f (rU fun i=>.int (g i)):=by
  intro pins s σ H x v Q I rx h
  obtain⟨i,rfl,q⟩:=h
  obtain⟨t,rfl⟩:=rx
  exact rule i t s _ _ ⟨.int (g i),H,I.tok _,⟨_,rfl⟩,q⟩
theorem zaP:UnR X (unaryOp .USub) (rU fun i=>.int (-i)):=unI fun _ _ _ _ _ q=>neg_int q
end
def scal:V→V→Bool
  | .non,.non=>true | .non,.int _=>true | .int _,.non=>true | .non,.bl _=>true | .bl _,.non=>true | .non,.str _=>true | .str _,.non=>true
  | .int _,.int _=>true | .bl _,.bl _=>true | .str _,.str _=>true | .byt _,.byt _=>true
  | .int _,.str _=>true | .str _,.int _=>true | .bl _,.str _=>true | .str _,.bl _=>true
  | _,_=>false
def rEq:R2:=fun x y H Q=>scal x y=true∧Q (.bl (decide (x=y))) H
def rNe:R2:=fun x y H Q=>scal x y=true∧Q (.bl (!decide (x=y))) H
theorem zjb {i j:Int}:decide (V.int i=V.int j)=(i == j):=by
  rw[Bool.eq_iff_iff]
  simp
theorem zkm {i j:Bool}:decide (V.bl i=V.bl j)=(i == j):=by
  rw[Bool.eq_iff_iff]
  simp
theorem zja {i j:Str}:decide (V.str i=V.str j)=(i == j):=by
  rw[Bool.eq_iff_iff]
  simp
theorem zjc {i j:Array UInt8}:decide (V.byt i=V.byt j)=(i.toList == j.toList):=by
  rw[Bool.eq_iff_iff]
  cases i
  cases j
  simp
section
variable {X:Cx} {a b c:Expr} {ta tb tc:TE} {pos:Pos}
theorem zax {pins:List (Addr × Obj)} {σ:St} {H:Hp} {s:Shared} {Q:VK} {k k':Bool} (I:Inv X pins σ H s) (q:Q (.bl k) H) (e:k=k'):EP X pins σ Q (.bool k') s:=by
  subst e
  exact⟨.bl k,H,I,rfl,q⟩
theorem zav:OpR X (compareOp .Eq) rEq:=by
  intro pins s σ H x y v u Q I rx ry h
  obtain⟨hs,q⟩:=h
  cases x with
  | non =>
    cases rx
    cases y with
    | non=>cases ry;exact PySem.EqNone.eq_none_none (zax I q (by simp))
    | bl j=>cases ry;exact PySem.EqNone.eq_none_bool (zax I q (by simp))
    | int j=>obtain⟨t',rfl⟩:=ry;exact PySem.EqNone.eq_none_int (zax I q (by simp))
    | str j=>obtain⟨t',rfl⟩:=ry;exact PySem.EqNone.eq_none_str (zax I q (by simp))
    | _=>exact absurd (show false=true from hs) Bool.false_ne_true
  | bl i =>
    cases rx
    cases y with
    | non=>cases ry;exact PySem.EqNone.eq_bool_none (zax I q (by simp))
    | bl j=>cases ry;exact eq_bool (zax I q zkm)
    | str j=>obtain⟨t',rfl⟩:=ry;exact PySem.EqMixed.eq_bool_str (zax I q (by simp))
    | _=>exact absurd (show false=true from hs) Bool.false_ne_true
  | int i =>
    obtain⟨t,rfl⟩:=rx
    cases y with
    | non=>cases ry;exact PySem.EqNone.eq_int_none (zax I q (by simp))
    | int j=>obtain⟨t',rfl⟩:=ry;exact eq_int (zax I q zjb)
    | str j=>obtain⟨t',rfl⟩:=ry;exact PySem.EqMixed.eq_int_str (zax I q (by simp))
    | _=>exact absurd (show false=true from hs) Bool.false_ne_true
  | str i =>
    obtain⟨t,rfl⟩:=rx
    cases y with
    | non=>cases ry;exact PySem.EqNone.eq_str_none (zax I q (by simp))
    | bl j=>cases ry;exact PySem.EqMixed.eq_str_bool (zax I q (by simp))
    | int j=>obtain⟨t',rfl⟩:=ry;exact PySem.EqMixed.eq_str_int (zax I q (by simp))
    | str j=>obtain⟨t',rfl⟩:=ry;exact eq_str (zax I q zja)
    | _=>exact absurd (show false=true from hs) Bool.false_ne_true
  | byt i =>
    obtain⟨t,rfl⟩:=rx
    cases y with
    | byt j=>obtain⟨t',rfl⟩:=ry;exact PySem.W.eq_bytes (zax I q zjc)
    | _=>exact absurd (show false=true from hs) Bool.false_ne_true
  | _=>cases y <;> exact absurd (show false=true from hs) Bool.false_ne_true
theorem op_ne:OpR X (compareOp .NotEq) rNe:=by
  intro pins s σ H x y v u Q I rx ry h
  obtain⟨hs,q⟩:=h
  cases x with
  | non =>
    cases rx
    cases y with
    | non=>cases ry;exact PySem.EqNone.ne_none_none (zax I q (by simp))
    | bl j=>cases ry;exact PySem.EqNone.ne_none_bool (zax I q (by simp))
    | int j=>obtain⟨t',rfl⟩:=ry;exact PySem.EqNone.ne_none_int (zax I q (by simp))
    | str j=>obtain⟨t',rfl⟩:=ry;exact PySem.EqNone.ne_none_str (zax I q (by simp))
    | _=>exact absurd (show false=true from hs) Bool.false_ne_true
  | bl i =>
    cases rx
    cases y with
    | non=>cases ry;exact PySem.EqNone.ne_bool_none (zax I q (by simp))
    | bl j=>cases ry;exact ne_bool (zax I q (congrArg not zkm))
    | str j=>obtain⟨t',rfl⟩:=ry;exact PySem.EqMixed.ne_bool_str (zax I q (by simp))
    | _=>exact absurd (show false=true from hs) Bool.false_ne_true
  | int i =>
    obtain⟨t,rfl⟩:=rx
    cases y with
    | non=>cases ry;exact PySem.EqNone.ne_int_none (zax I q (by simp))
    | int j=>obtain⟨t',rfl⟩:=ry;exact ne_int (zax I q (congrArg not zjb))
    | str j=>obtain⟨t',rfl⟩:=ry;exact PySem.EqMixed.ne_int_str (zax I q (by simp))
    | _=>exact absurd (show false=true from hs) Bool.false_ne_true
  | str i =>
    obtain⟨t,rfl⟩:=rx
    cases y with
    | non=>cases ry;exact PySem.EqNone.ne_str_none (zax I q (by simp))
    | bl j=>cases ry;exact PySem.EqMixed.ne_str_bool (zax I q (by simp))
    | int j=>obtain⟨t',rfl⟩:=ry;exact PySem.EqMixed.ne_str_int (zax I q (by simp))
    | str j=>obtain⟨t',rfl⟩:=ry;exact ne_str (zax I q (congrArg not zja))
    | _=>exact absurd (show false=true from hs) Bool.false_ne_true
  | byt i =>
    obtain⟨t,rfl⟩:=rx
    cases y with
    | byt j=>obtain⟨t',rfl⟩:=ry;exact PySem.W.ne_bytes (zax I q (congrArg not zjc))
    | _=>exact absurd (show false=true from hs) Bool.false_ne_true
  | _=>cases y <;> exact absurd (show false=true from hs) Bool.false_ne_true
theorem zjm:OpR X (compareOp .Lt) (rI0 fun i j=>.bl (decide (i < j))):=opB0 fun _ _ _ _ _ _ _ q=>lt_int q
theorem op_le:OpR X (compareOp .LtE) (rI0 fun i j=>.bl (decide (i≤j))):=opB0 fun _ _ _ _ _ _ _ q=>le_int q
theorem zcU:OpR X (compareOp .Gt) (rI0 fun i j=>.bl (decide (j < i))):=opB0 fun _ _ _ _ _ _ _ q=>gt_int q
theorem zjn:OpR X (compareOp .GtE) (rI0 fun i j=>.bl (decide (j≤i))):=opB0 fun _ _ _ _ _ _ _ q=>ge_int q
theorem zkA:OpR X (compareOp .In) (fun x y H Q=>∃ i j,x=.str i∧y=.str j∧Q (.bl (!(Builtin.Str.occurrences j i 0 j.length 1).isEmpty)) H):=by
  intro pins s σ H x y v u Q I rx ry h
  obtain⟨i,j,rfl,rfl,q⟩:=h
  obtain⟨t,rfl⟩:=rx
  obtain⟨t',rfl⟩:=ry
  exact in_str (zax I q rfl)
theorem op_isN:OpR X (compareOp .Is) (fun x y H Q=>y=.non∧Q (.bl (decide (x=.non))) H):=by
  intro pins s σ H x y v u Q I rx ry h
  obtain⟨rfl,q⟩:=h
  cases ry
  refine is_none_gen (zax I q ?_)
  cases x <;> first
    | (cases rx;rfl)
    | (obtain⟨t,rfl⟩:=rx;rfl)
theorem zlZ:OpR X (compareOp .IsNot) (fun x y H Q=>y=.non∧Q (.bl (!decide (x=.non))) H):=by
  intro pins s σ H x y v u Q I rx ry h
  obtain⟨rfl,q⟩:=h
  cases ry
  refine isnot_none_gen (zax I q ?_)
  cases x <;> first
    | (cases rx;rfl)
    | (obtain⟨t,rfl⟩:=rx;rfl)
theorem OpR.or {f:Value→Value→Sem Value} {r r':R2} (h:OpR X f r) (h':OpR X f r'):OpR X f (fun x y H Q=>r x y H Q∨r' x y H Q):=by
  intro pins s σ H x y v u Q I rx ry q
  rcases q with q | q
  · exact h pins s σ H x y v u Q I rx ry q
  · exact h' pins s σ H x y v u Q I rx ry q
theorem ay (b:Expr) {op:CmpOp} (h:op≠.In:=by decide) (h2:op≠.NotIn:=by decide):behindInMarks op b=false:=by
  have e1:(op == CmpOp.In)=false:=by cases op <;> first | rfl | exact absurd rfl h
  have e2:(op == CmpOp.NotIn)=false:=by cases op <;> first | rfl | exact absurd rfl h2
  cases b <;> simp [behindInMarks,e1,e2]
theorem zbb {op:CmpOp} {r:R2} (ho:OpR X (compareOp op) r) (ha:PE X a ta) (hb:PE X b tb) (hm:behindInMarks op b=false):PE X (.Compare a [op] [b] pos) (tOp r ta tb):=by
  intro pins s σ H Q I h
  exact wpAny_Compare1 (binT ha hb I h fun v u s2 x y H2 I2 rx ry q=>ho pins s2 σ H2 x y v u Q I2 rx ry q) hm
def tTest (t:TE):TT:=fun σ H Q=>t σ H fun x H'=>∃ k,x=.bl k∧Q k H'
theorem aw {op:CmpOp} {r:R2} (ho:OpR X (compareOp op) r) (ha:PE X a ta) (hb:PE X b tb) (hm:behindInMarks op b=false):PT X (.Compare a [op] [b] pos) (tTest (tOp r ta tb)):=by
  intro pins s σ H Q I h
  refine wpAny_isTrue_Compare1 (thn (ha pins s σ H _ I h) fun v s1 ⟨x,H1,I1,r1,q1⟩=>thn (hb pins s1 σ H1 _ I1 q1) fun u s2 ⟨y,H2,I2,r2,q2⟩ =>
    thn (ho pins s2 σ H2 x y v u _ I2 r1 r2 q2) fun c s3 ⟨z,H3,I3,r3,k,e,q3⟩=>?_) hm
  subst e
  cases r3
  exact wpAny_truthy_bool ⟨H3,I3,q3⟩
theorem zed:(sizeLine:Nat) < 2 ^ 63:=by rw[sizeLine_eq];decide
theorem zcY:OpR X (binaryOp .Add) (fun x y H Q=>∃ i j,x=.str i∧y=.str j∧i.length+j.length≤sizeLine∧Q (.str (i++j)) H):=by
  intro pins s σ H x y v u Q I rx ry h
  obtain⟨i,j,rfl,rfl,hz,q⟩:=h
  obtain⟨t,rfl⟩:=rx
  obtain⟨t',rfl⟩:=ry
  exact add_str (fun t' tk=>⟨.str (i++j),H,I.tok _,⟨_,rfl⟩,q⟩) hz
theorem zda {x:V} {us:List Value} (r:aD [x] us):∃ u,us=[u]∧aG x u:=by
  cases r with
  | cons r1 r2=>cases r2;exact⟨_,rfl,r1⟩
theorem vals2 {x y:V} {us:List Value} (r:aD [x,y] us):∃ u w',us=[u,w']∧aG x u∧aG y w':=by
  cases r with
  | cons r1 r2 =>
    cases r2 with
    | cons r3 r4=>cases r4;exact⟨_,_,rfl,r1,r3⟩
theorem zeB:zbI X (.builtin "abs") (fun xs H Q=>∃ i,xs=[.int i]∧Q (.int (if i < 0 then -i else i)) H):=by
  intro pins s σ H xs us Q I r h
  obtain⟨i,rfl,q⟩:=h
  obtain⟨u,rfl,t,rfl⟩:=zda r
  exact call_abs_int fun u tk=>⟨.int (if i < 0 then -i else i),H,I.tok _,⟨_,rfl⟩,q⟩
theorem zkY:zbI X (.type "int") (fun xs H Q=>(∃ i,xs=[.int i]∧Q (.int i) H)∨∃ k,xs=[.bl k]∧Q (.int (if k then 1 else 0)) H):=by
  intro pins s σ H xs us Q I r h
  rcases h with ⟨i,rfl,q⟩ | ⟨k,rfl,q⟩
  · obtain⟨u,rfl,t,rfl⟩:=zda r
    exact call_int_int ⟨.int i,H,I,⟨_,rfl⟩,q⟩
  · obtain⟨u,rfl,r1⟩:=zda r
    cases r1
    exact call_int_bool ⟨.int (if k then 1 else 0),H,I.tok _,⟨_,rfl⟩,q⟩
theorem ziI:zbI X (.builtin "divmod") (fun xs H Q=>∃ i j,xs=[.int i,.int j]∧CDiv i j∧∀ p,H p=none→Q (.ref p) (upd H p (.tup [.int (i / j),.int (i % j)]))):=by
  intro pins s σ H xs us Q I r h
  obtain⟨i,j,rfl,⟨h1,h2⟩,q⟩:=h
  obtain⟨u,w',rfl,⟨t,rfl⟩,⟨t',rfl⟩⟩:=vals2 r
  refine divmod_int (by omega) ?_ (.inl (PyProof.noPylong_small (by omega)))
  rw[Int.fdiv_eq_ediv_of_nonneg i (by omega),Int.fmod_eq_emod_of_nonneg i (by omega)]
  have hn:H s.heap.objs.size=none:=I.hok.fresh (Nat.le_refl _)
  refine⟨.ref s.heap.objs.size,_,?_,rfl,q _ hn⟩
  refine I.laid (fun b o e=>Heap.get?_push_of_some _ e) (Nat.le_refl _) ⟨by simp only[List.length_cons,List.length_nil];rw[sizeLine_eq];decide,[.int (i / j) s.toks,.int (i % j) (s.toks+1)],.cons ⟨_,rfl⟩ (.cons ⟨_,rfl⟩ .nil),?_⟩
  exact⟨_,Heap.get?_push_size s.heap rfl,rfl,0,rfl⟩
end
end L2
namespace L2
open PySem PySem.Spec PyProof.Rows
structure zfp (h:Heap) (x dx C:Addr) (mA:Str→Option Value):Prop where
  obj:h.get? x=some (PySem.W.instObj C dx)
  ns:h.Ns1 dx mA
  ne:dx≠x
theorem zkO {h:Heap} {dx:Addr} {mA:Str→Option Value} (n:h.Ns1 dx mA):∃ od,h.get? dx=some od∧∀ name,PySem.W.lookIn name od=some (mA name):=by
  obtain⟨o,es,ep,ho,hd,hk,_,hm⟩:=n
  refine⟨o,ho,fun name=>?_⟩
  have e:=hm name
  unfold nsFind findBy at e
  rw[←Array.find?_toList]at e
  unfold PySem.W.lookIn
  rw[hd]
  dsimp only
  split
  · rename_i y q
    rw[q]at e
    exact congrArg some e
  · rename_i q
    rw[q]at e
    have a:es.toList.any (·.refKey)=false:=by
      rw[List.any_eq_false]
      intro y hy
      obtain⟨z,t,hkey⟩:=hk y (Array.mem_toList_iff.mp hy)
      simp [DictEntry.refKey,hkey]
    have a':¬es.toList.any (·.refKey)=true:=by rw[a];exact Bool.false_ne_true
    rw[if_neg a']
    exact congrArg some e
theorem zfp.look {h:Heap} {x dx C:Addr} {mA:Str→Option Value} (I:zfp h x dx C mA):∃ od,PySem.W.InstAt h x (PySem.W.instObj C dx) C (some od)∧∀ name,PySem.W.lookIn name od=some (mA name) :=
  let ⟨od,ho,hl⟩:=zkO I.ns
  ⟨od,⟨I.obj,rfl,rfl,ho⟩,hl⟩
section
variable {prog:Program} {w:World} {A:Around} {E:Value→Shared→Prop} {s:Shared} {K:PySem.W.Frag} {x dx C f:Addr} {mA:Str→Option Value} {name:Str} {v:Value}
theorem zmd {expr:Bool} {Q:Value→Shared→Prop} (X:K.In s.heap) (I:zfp s.heap x dx C mA) (hg:PySem.W.plainGet K C name=true) (hh:PySem.W.hasDictIn K C=true)
    (ha:PySem.W.findIn K (.ref C) name=some none) (hv:mA name=some v) (hv':PySem.W.handedIn v=true) (h:Q v { s with toks:=s.toks+1 }) :
    wpAny (model prog w) A (getAttr (.ref x) name expr) Q E s:=by
  obtain⟨od,J,hl⟩:=I.look
  exact PySem.W.get_value X J (PySem.W.plainGet_of hg).1 (PySem.W.findObj_own hh ha rfl (by rw[hl,hv])) hv' h
theorem zls {pl:Sem Bool} {Q:Value × List Value→Shared→Prop} (X:K.In s.heap) (I:zfp s.heap x dx C mA) (hg:PySem.W.plainGet K C name=true)
    (hf:PySem.W.findIn K (.ref C) name=some (some (.ref f))) (ht:PySem.W.isFn K (.ref f)=true) (hv:mA name=none) (h:Q (.ref f,[.ref x]) s) :
    wpAny (model prog w) A (getMethod (.ref x) name pl) Q E s:=by
  obtain⟨od,J,hl⟩:=I.look
  exact PySem.W.method_fn X J (PySem.W.plainGet_of hg).1 (PySem.W.plainGet_of hg).2 hf (beq_iff_eq.mp ht) (by show(PySem.W.lookIn name od).map (·.isSome)=some false;rw[hl,hv];rfl) h
theorem zlK {ns:List Str} {Q:Unit→Shared→Prop} (X:K.In s.heap) (I:zfp s.heap x dx C mA)
    (hs:PySem.W.findIn K (.ref C) "__setattr__"=some (some (.builtin "object.__setattr__"))) (hp:PySem.W.plainOver K C=true) (ht:PySem.W.takerIn K C name=some none) (hh:PySem.W.hasDictIn K C=true)
    (hw:PySem.Within mA ns) (hsz:ns.length≤sizeLine)
    (h:∀ h',zfp h' x dx C (fun y=>if y=name then some v else mA y)→Heap.SameBut dx s.heap h'→Q () { s with heap:=h',toks:=s.toks+2 }) :
    wpAny (model prog w) A (setAttr (.ref x) name v) Q E s:=by
  obtain⟨od,J,hl⟩:=I.look
  refine PySem.W.set_plain X J hs (PySem.W.osa_open (s:={ s with toks:=s.toks+1 }) (r:=none) X J hp ht fun b=>?_)
  obtain⟨cd,hc,hd'⟩:=PySem.W.any_some hh
  have hx:s.heap.get? x=some ⟨.ref C,some dx,.plain,#[]⟩:=I.obj
  refine wpAny_bind (wpAny_pure (wpAny_bind (wpAny_bind (wpAny_loadPart hx (wpAny_bind (PySem.W.Looks.here (s:={ s with toks:=s.toks+1 }) (PySem.W.looks_clsIn X hc) ?_))))))
  rw[hd']
  refine wpAny_pure (a:=some dx) (wpAny_bind (wpAny_pure (wpAny_bind ?_)))
  refine wpAny_nsSet1 (s:={ s with toks:=s.toks+1 }) I.ns fun h' hn2 hs2=>?_
  obtain⟨oD,esD,epD,hoD,hdD,hcD⟩:=hn2.count (PySem.Within.cons name v hw)
  refine wpAny_bind (wpAny_lookBehind hoD (by rw[hdD];exact pastItsLine_dict (Nat.le_trans hcD (by rw[List.length_cons];omega))) ?_)
  exact wpAny_pure (h _ ⟨(hs2.2 _ (Ne.symm I.ne)).trans I.obj,hn2,I.ne⟩ hs2)
theorem zln {R:Result→Shared→Prop} {vs:List Value} {kw:List (Str × Value)} (X:K.In s.heap) (hm:PySem.W.makesIn K C=true)
    (hi:PySem.W.findIn K (.ref C) "__init__"=some (some (.ref f))) (hf:PySem.W.typeIn K (.ref f)=some (.type "function"))
    (h:codeAny (model prog w) (A.under (.builtin "type.__call__" ⟨.ref C :: vs,kw⟩)) (.call (.ref f) ⟨.ref (s.heap.objs.size+1) :: vs,kw⟩) (PySem.W.InitBack (s.heap.objs.size+1) R)
      { s with heap:=(s.heap.push PySem.W.emptyDict).push (PySem.W.instObj C s.heap.objs.size) }) :
    codeAny (model prog w) A (.call (.ref C) ⟨vs,kw⟩) R s:=by
  obtain⟨hh,g,d,t,os⟩:=s
  exact PySem.W.make_core (PySem.W.makes_of X hm) (PySem.W.looks_findIn X hi) (fun self=>PySem.W.bind_fn X self hf) (.inl rfl) h
end
def zas (f:Str) (v:V):List (Str × V)→List (Str × V)
  | []=>[(f,v)]
  | (g,x) :: r=>if g=f then(g,v) :: r else(g,x) :: zas f v r
theorem zar (f g:Str) (v:V):∀ fs:List (Str × V),(zas f v fs).lookup g=if g=f then some v else fs.lookup g
  | []=>by
    show List.lookup g [(f,v)]=_
    by_cases h:g=f
    · have hb:(g == f)=true:=beq_iff_eq.mpr h
      simp only[List.lookup,hb,if_pos h]
    · have hb:(g == f)=false:=beq_eq_false_iff_ne.mpr h
      simp only[List.lookup,hb,if_neg h]
  | (k,x) :: r=>by
    have ih:=zar f g v r
    rw[show zas f v ((k,x) :: r)=(if k=f then(k,v) :: r else(k,x) :: zas f v r) from rfl]
    by_cases hk:k=f
    · rw[if_pos hk]
      by_cases h:g=k
      · have hb:(g == k)=true:=beq_iff_eq.mpr h
        simp only[List.lookup,hb,if_pos (h.trans hk)]
      · have hb:(g == k)=false:=beq_eq_false_iff_ne.mpr h
        simp only[List.lookup,hb,if_neg (fun e:g=f=>h (e.trans hk.symm))]
    · rw[if_neg hk]
      by_cases h:g=k
      · have hb:(g == k)=true:=beq_iff_eq.mpr h
        simp only[List.lookup,hb,if_neg (fun e:g=f=>hk (h.symm.trans e))]
      · have hb:(g == k)=false:=beq_eq_false_iff_ne.mpr h
        simp only[List.lookup,hb]
        exact ih
theorem ze0 (f:Str) (v:V):∀ fs:List (Str × V),f∈(zas f v fs).map (·.1)∧∀ g,g∈fs.map (·.1)→g∈(zas f v fs).map (·.1)
  | []=>⟨by simp [zas],fun g h=>by simp at h⟩
  | (k,x) :: r=>by
    obtain⟨i1,i2⟩:=ze0 f v r
    rw[show zas f v ((k,x) :: r)=(if k=f then(k,v) :: r else(k,x) :: zas f v r) from rfl]
    by_cases hk:k=f
    · rw[if_pos hk]
      subst hk
      exact⟨by simp,fun g h=>by simpa using h⟩
    · rw[if_neg hk]
      refine⟨?_,fun g h=>?_⟩
      · rw[List.map_cons]
        exact List.mem_cons_of_mem _ i1
      · rw[List.map_cons]at h ⊢
        rcases List.mem_cons.mp h with e | e
        · exact List.mem_cons.mpr (.inl e)
        · exact List.mem_cons_of_mem _ (i2 g e)
theorem zfk (f:Str) (v:V):∀ fs:List (Str × V),(zas f v fs).length≤fs.length+1
  | []=>by simp [zas]
  | (k,x) :: r=>by
    have ih:=zfk f v r
    rw[show zas f v ((k,x) :: r)=(if k=f then(k,v) :: r else(k,x) :: zas f v r) from rfl]
    by_cases hk:k=f
    · rw[if_pos hk,List.length_cons,List.length_cons];omega
    · rw[if_neg hk,List.length_cons,List.length_cons];omega
theorem zcS.some_of {v:V} {o:Option Value} (r:zcS (some v) o):∃ u,o=some u∧aG v u:=by
  cases o with
  | none=>exact(show False from r).elim
  | some u=>exact⟨u,rfl,r⟩
theorem zcS.none_of {o:Option Value} (r:zcS none o):o=none:=by
  cases o with
  | none=>rfl
  | some u=>exact(show False from r).elim
theorem zkT {v:V} {u:Value} (r:aG v u):PySem.W.handedIn u=true:=by
  cases v with
  | non=>cases (show u=Value.none from r);rfl
  | bl b=>cases (show u=Value.bool b from r);rfl
  | int i=>obtain⟨t,e⟩:=(show ∃ t,u=Value.int i t from r);cases e;rfl
  | str x=>obtain⟨t,e⟩:=(show ∃ t,u=Value.str x t from r);cases e;rfl
  | byt b=>obtain⟨t,e⟩:=(show ∃ t,u=Value.bytes b t from r);cases e;rfl
  | flt b=>obtain⟨t,e⟩:=(show ∃ t,u=Value.float b t from r);cases e;rfl
  | ref a=>cases (show u=Value.ref a from r);rfl
  | ty n=>cases (show u=Value.type n from r);rfl
section
variable {P:Program} {w:World} {H H':Hp} {h h':Heap} {a C dx:Addr} {fs fs':List (Str × V)}
theorem zgy (hok:HOk P w H h) (e:H a=some (.ins C dx fs)):∃ mA,zfp h a dx C mA∧(∀ f,zcS (fs.lookup f) (mA f))∧PySem.Within mA (fs.map (·.1))∧fs.length≤1000∧H dx=some (.own a):=by
  obtain⟨d,z,ne,ob,mA,n,r,q⟩:=(show zaT P w H h a (.ins C dx fs) from hok a _ e)
  exact⟨mA,⟨ob,n,ne⟩,r,q,z,d⟩
end
structure Cls (K:PySem.W.Frag) (C:Addr):Prop where
  pg:PySem.W.plainGet K C Str.empty=true
  hd:PySem.W.hasDictIn K C=true
  po:PySem.W.plainOver K C=true
  sa:PySem.W.findIn K (.ref C) "__setattr__"=some (some (.builtin "object.__setattr__"))
theorem Cls.get {K:PySem.W.Frag} {C:Addr} (c:Cls K C) (f:Str):PySem.W.plainGet K C f=true:=c.pg
def zbP (K:PySem.W.Frag) (C:Addr) (f:Str):Prop:=PySem.W.findIn K (.ref C) f=some none
theorem zbP.taker {K:PySem.W.Frag} {C:Addr} {f:Str} (n:zbP K C f):PySem.W.takerIn K C f=some none:=by
  unfold PySem.W.takerIn
  rw[show PySem.W.findIn K (.ref C) f=some none from n]
  rfl
structure zbg (K:PySem.W.Frag) (C:Addr) (m:Str) (f:Addr):Prop where
  at_:PySem.W.findIn K (.ref C) m=some (some (.ref f))
  fn:PySem.W.isFn K (.ref f)=true
  kp:PySem.W.keepIn K (.ref f)=true
section
variable {X:Cx} {pins:List (Addr × Obj)} {σ:St} {H:Hp} {s:Shared} {a C dx:Addr} {fs:List (Str × V)} {f:Str} {v:V} {A:Around} {E:Value→Shared→Prop}
theorem zf6 {b:Bool} {Q:Value→Shared→Prop} (I:Inv X pins σ H s) (e:H a=some (.ins C dx fs)) (c:Cls X.K C) (n:zbP X.K C f) (l:fs.lookup f=some v)
    (h:∀ u s',Inv X pins σ H s'→aG v u→Q u s'):wpAny (model X.prog X.w) A (getAttr (.ref a) f b) Q E s:=by
  obtain⟨mA,O,r,_,_,_⟩:=zgy I.hok e
  obtain⟨u,hu,ru⟩:=zcS.some_of (v:=v) (o:=mA f) (by rw[←l];exact r f)
  exact zmd I.kIn O (c.get f) c.hd n hu (zkT ru) (h u _ (I.tok _) ru)
theorem zeE {m:Str} {g:Addr} {pl:Sem Bool} {Q:Value × List Value→Shared→Prop} (I:Inv X pins σ H s) (e:H a=some (.ins C dx fs)) (c:Cls X.K C) (k:zbg X.K C m g) (l:fs.lookup m=none)
    (h:Q (.ref g,[.ref a]) s):wpAny (model X.prog X.w) A (getMethod (.ref a) m pl) Q E s:=by
  obtain⟨mA,O,r,_,_,_⟩:=zgy I.hok e
  have hn:mA m=none:=zcS.none_of (by rw[←l];exact r m)
  exact zls I.kIn O (c.get m) k.at_ k.fn hn h
theorem zf3 {y:V} {u:Value} {Q:Unit→Shared→Prop} (I:Inv X pins σ H s) (e:H a=some (.ins C dx fs)) (c:Cls X.K C) (n:zbP X.K C f) (hl:fs.length < 1000) (ry:aG y u)
    (h:∀ s',Inv X pins σ (upd H a (.ins C dx (zas f y fs))) s'→Q () s'):wpAny (model X.prog X.w) A (setAttr (.ref a) f u) Q E s:=by
  obtain⟨mA,O,r,wi,_,ho⟩:=zgy I.hok e
  have hz:(fs.map (·.1)).length≤sizeLine:=by rw[List.length_map,sizeLine_eq];omega
  refine zlK I.kIn O c.sa c.po n.taker c.hd wi hz fun h' O' sb=>h _ ?_
  have hd:∃ o,h'.get? dx=some o:=let ⟨o,_,_,e',_⟩:=O'.ns;⟨o,e'⟩
  refine I.write (x:=a) (e:=dx) (by rw[e];exact True.intro) (.inr ho) (fun b q hb z=>(sb.2 b hb).trans z) hd ?_
  refine⟨by rw[aq O.ne];exact ho,?_,O.ne,O'.obj,_,O'.ns,fun g=>?_,fun g hg=>?_⟩
  · have:=zfk f y fs;omega
  · show zcS ((zas f y fs).lookup g) (if g=f then some u else mA g)
    rw[zar]
    by_cases q:g=f
    · rw[if_pos q,if_pos q];exact ry
    · rw[if_neg q,if_neg q];exact r g
  · by_cases q:g=f
    · rw[q];exact(ze0 f y fs).1
    · refine(ze0 f y fs).2 g (wi g fun z=>hg ?_)
      show(if g=f then some u else mA g)=none
      rw[if_neg q];exact z
theorem Inv.made (I:Inv X pins σ H s):Inv X pins σ (upd (upd H s.heap.objs.size (.own (s.heap.objs.size+1))) (s.heap.objs.size+1) (.ins C s.heap.objs.size []))
    { s with heap:=(s.heap.push PySem.W.emptyDict).push (PySem.W.instObj C s.heap.objs.size) }:=by
  have e1:(s.heap.push PySem.W.emptyDict).get? s.heap.objs.size=some PySem.W.emptyDict:=Heap.get?_push_size s.heap rfl
  have e2:((s.heap.push PySem.W.emptyDict).push (PySem.W.instObj C s.heap.objs.size)).get? (s.heap.objs.size+1)=some (PySem.W.instObj C s.heap.objs.size):=by
    have:=Heap.get?_push_size (s.heap.push PySem.W.emptyDict) (o:=PySem.W.instObj C s.heap.objs.size) rfl
    rwa [Heap.size_push]at this
  have e3:(s.heap.push PySem.W.emptyDict).Ns s.heap.objs.size (fun _=>none):=⟨PySem.W.emptyDict,#[],_,e1,rfl,(fun e he=>absurd he (by simp)),fun _=>rfl⟩
  have I1:=I.laid (a:=s.heap.objs.size) (o:=.own (s.heap.objs.size+1)) (h':=s.heap.push PySem.W.emptyDict) (t':=s.toks) (fun b u q=>Heap.get?_push_of_some _ q) (Nat.le_refl _) ⟨_,e1⟩
  refine I1.laid (a:=s.heap.objs.size+1) (o:=.ins C s.heap.objs.size []) (t':=s.toks) (fun b u q=>Heap.get?_push_of_some _ q) (Nat.le_of_eq (Heap.size_push _ _)) ?_
  have ne:s.heap.objs.size≠s.heap.objs.size+1:=Nat.ne_of_lt (Nat.lt_succ_self _)
  refine⟨by rw[aq ne,ad],Nat.zero_le _,ne,e2,fun _=>none,(Heap.Ns1.of_empty e3).at fun o q=>Heap.get?_push_of_some _ q,fun _=>True.intro,fun y hy=>absurd rfl hy⟩
theorem zme {prog:Program} {w:World} {env:Env} {e:Expr} {f:Str} {pos:Pos} {s:Shared} {Q:Value→Shared→Prop} (hb:attributeBase e f env (eval e env)=eval e env)
    (h:wpAny (model prog w) A (eval e env) (fun o s₁=>wpAny (model prog w) A (getAttr o f true) Q E s₁) E s):wpAny (model prog w) A (eval (.Attribute e f pos) env) Q E s :=
  Attribute_any_ h (by rw[arm_eval_Attribute,hb])
end
def tFld (K:PySem.W.Frag) (ta:TE) (f:Str):TE:=fun σ H Q=>ta σ H fun x H1=>∃ a C dx fs v,x=.ref a∧H1 a=some (.ins C dx fs)∧Cls K C∧zbP K C f∧fs.lookup f=some v∧Q v H1
def sFld (K:PySem.W.Frag) (ta tv:TE) (f:Str):TS:=fun D σ H=>tv σ H fun y H1=>ta σ H1 fun x H2=>∃ a C dx fs,x=.ref a∧H2 a=some (.ins C dx fs)∧Cls K C∧zbP K C f∧fs.length < 1000 ∧
  D.nx σ (upd H2 a (.ins C dx (zas f y fs)))
def InOp (X:Cx) (op:Operator) (rd:V→V→Hp→VK→Prop):Prop :=
  ∀(pins:List (Addr × Obj)) (s:Shared) (σ:St) (H:Hp) (x y:V) (u v:Value) (Q:VK),Inv X pins σ H s→aG x u→aG y v→rd x y H Q→wpAny (model X.prog X.w) X.A (inplaceOp op u v) (EP X pins σ Q) X.xe s
def zlL (K:PySem.W.Frag) (ta tv:TE) (rd:V→V→Hp→VK→Prop) (f:Str):TS:=fun D σ H=>ta σ H fun x H1=>∃ a C dx fs v,x=.ref a∧H1 a=some (.ins C dx fs)∧Cls K C∧zbP K C f∧fs.lookup f=some v ∧
  tv σ H1 fun y H2=>rd v y H2 fun z H3=>∃ dx' fs',H3 a=some (.ins C dx' fs')∧fs'.length < 1000∧D.nx σ (upd H3 a (.ins C dx' (zas f z fs')))
section
variable {X:Cx} {o e value:Expr} {f:Str} {pos pos' tpos:Pos} {ta tv:TE}
theorem zaR (he:PE X e ta) (hb:attributeBase e f X.env (eval e X.env)=eval e X.env):PE X (.Attribute e f pos) (tFld X.K ta f):=by
  intro pins s σ H Q I h
  refine zme hb (thn (he pins s σ H _ I h) fun u s1 ⟨x,H1,I1,rx,a,C,dx,fs,v,ex,ea,c,n,l,q⟩=>?_)
  subst ex
  obtain rfl:u=Value.ref a:=rx
  exact zf6 I1 ea c n l fun u' s2 I2 ru=>⟨v,H1,I2,ru,q⟩
theorem zea (ha:PE X o ta) (hv:PE X value tv) (hs:swapsWith value (some (.Attribute o f pos')) pos.line X.env=pure false):PS X (.Assign [.Attribute o f pos'] value pos) (sFld X.K ta tv f):=by
  intro pins s σ H D I h
  refine plainObj_wpAny_Assign_Attribute (thn (hv pins s σ H _ I h) fun u s1 ⟨y,H1,I1,ry,q⟩=>thn (ha pins s1 σ H1 _ I1 q) fun ov s2 ⟨x,H2,I2,rx,a,C,dx,fs,ex,ea,c,n,l,q2⟩=>?_) hs
  subst ex
  obtain rfl:ov=Value.ref a:=rx
  exact zf3 I2 ea c n l ry fun s3 I3=>⟨σ,_,I3,q2⟩
theorem zgY {op:Operator} {rd:V→V→Hp→VK→Prop} (ha:PE X o ta) (hv:PE X value tv) (hop:InOp X op rd):PS X (.AugAssign (.Attribute o f tpos) op value pos) (zlL X.K ta tv rd f):=by
  intro pins s σ H D I h
  refine wpAny_AugAssign_AttributeAny (thn (ha pins s σ H _ I h) fun ov s1 ⟨x,H1,I1,rx,a,C,dx,fs,v,ex,ea,c,n,l,q⟩=>?_)
  subst ex
  obtain rfl:ov=Value.ref a:=rx
  refine zf6 I1 ea c n l fun u s2 I2 ru=>thn (hv pins s2 σ H1 _ I2 q) fun w3 s3 ⟨y,H2,I3,ry,q3⟩=>thn (hop pins s3 σ H2 v y u w3 _ I3 ru ry q3) fun w4 s4 ⟨z,H3,I4,rz,dx',fs',ea',l',q4⟩=>?_
  exact zf3 I4 ea' c n l' rz fun s5 I5=>⟨σ,_,I5,q4⟩
def rAdd:V→V→Hp→VK→Prop:=fun x y H Q=>∃ i j,x=.int i∧y=.int j∧Q (.int (i+j)) H
theorem zkf:InOp X .Add rAdd:=by
  rintro pins s σ H x y u v Q I rx ry ⟨i,j,rfl,rfl,q⟩
  obtain⟨t,rfl⟩:=(show ∃ t,u=Value.int i t from rx)
  obtain⟨t',rfl⟩:=(show ∃ t',v=Value.int j t' from ry)
  exact PyProof.Rows.iadd_int ⟨.int (i+j),H,I.tok _,⟨_,rfl⟩,q⟩
theorem zmn {pl:Sem Bool} {m:Str} {apos:Pos} {args:List Expr} {pins:List (Addr × Obj)} {s:Shared} {σ:St} {H:Hp} {Q:Value→Shared→Prop} {te:TE} (he:PE X e te) (I:Inv X pins σ H s)
    (h:te σ H fun x H1=>∃ a C dx fs g,x=.ref a∧H1 a=some (.ins C dx fs)∧Cls X.K C∧zbg X.K C m g∧fs.lookup m=none ∧
      ∀ s1,Inv X pins σ H1 s1→wpAny (model X.prog X.w) X.A (callWith pos (.ref g) [.ref a] (backTo pos (starEach args X.env)) (backToKw pos (keywordEach [] X.env))) Q X.xe s1)
    (ht:eval (.Call (.Attribute e m apos) args [] pos) X.env=(do
      let ov ←eval e X.env
      standAt apos.atName
      let (f,first) ←holding [ov] (getMethod ov m pl)
      callWith pos f first (backTo pos (starEach args X.env)) (backToKw pos (keywordEach [] X.env)))) :
    wpAny (model X.prog X.w) X.A (eval (.Call (.Attribute e m apos) args [] pos) X.env) Q X.xe s:=by
  refine PySem.W.methodCall_KW (pl:=pl) (thn (he pins s σ H _ I h) fun u s1 ⟨x,H1,I1,rx,a,C,dx,fs,g,ex,ea,c,k,l,q⟩=>?_) ht
  subst ex
  obtain rfl:u=Value.ref a:=rx
  exact zeE I1 ea c k l (q s1 I1)
end
section
variable {X:Cx} {pins:List (Addr × Obj)} {σ:St} {H:Hp} {s:Shared} {A:Around} {E:Value→Shared→Prop} {Q:Value→Shared→Prop} {c:Value} {b:Bool}
end
end L2
namespace L2
open PySem PySem.Spec PyProof.Rows
structure aE (k:Nat) (A:Around):Prop where
  hd:A.handled=none
  dp:A.depth+3 * k+5 < recursionLimit
  un:A.units+16 * k+200 < cLine
  gd:A.guards=some []
theorem aE.mono {j k:Nat} {A:Around} (r:aE k A) (h:j≤k):aE j A:=⟨r.hd,by have:=r.dp;omega,by have:=r.un;omega,r.gd⟩
theorem aE.deeper {k:Nat} {A:Around} (r:aE (k+1) A) (env:Env):aE k (A.deeper env) :=
  ⟨r.hd,by have:=r.dp;show A.depth+1+3 * k+5 < _;omega,by have:=r.un;show A.units+3+16 * k+200 < _;omega,r.gd⟩
theorem zjF {A:Around} {C:Addr} {us:List Value} {kw:List (Str × Value)}:(A.under (.builtin "type.__call__" ⟨.ref C :: us,kw⟩)).depth=A.depth+1:=by
  first | rfl | simp [Around.under,Code.weight,Code.isCreation,Code.isGuard,Code.isCaller,Code.frames,Code.isFrame,guardIds]
theorem zjE {A:Around} {C:Addr} {us:List Value} {kw:List (Str × Value)}:(A.under (.builtin "type.__call__" ⟨.ref C :: us,kw⟩)).units=A.units+1:=by
  first | rfl | simp [Around.under,Code.cUnits,Code.frames,Code.isFrame]
theorem ziG {A:Around} {C:Addr} {us:List Value} {kw:List (Str × Value)} (h:A.guards=some []):(A.under (.builtin "type.__call__" ⟨.ref C :: us,kw⟩)).guards=some []:=by
  first | exact h | simp [Around.under,Code.guards,Code.isGuard,guardIds,pushGuards,h]
theorem aE.make {k:Nat} {A:Around} (r:aE (k+1) A) (C:Addr) (us:List Value) (kw:List (Str × Value)):aE k (A.under (.builtin "type.__call__" ⟨.ref C :: us,kw⟩)) :=
  ⟨r.hd,by have:=r.dp;rw[zjF];omega,by have:=r.un;rw[zjE];omega,ziG r.gd⟩
theorem aE.depth {k:Nat} {A:Around} (r:aE k A):A.depth < recursionLimit:=by have:=r.dp;omega
theorem aE.units {k:Nat} {A:Around} (r:aE k A):A.units+64 < cLine:=by have:=r.un;omega
def tNil:TA:=fun _ H Q=>Q [] H
def tCons (ta:TE) (tr:TA):TA:=fun σ H Q=>ta σ H fun x H1=>tr σ H1 fun xs H2=>Q (x :: xs) H2
section
variable {X:Cx} {e:Expr} {es:List Expr} {te:TE} {t:TA} {pos:Pos}
theorem ac:PA X [] tNil:=fun _ _ _ _ H Q I h=>Calls.spliced_nil ⟨[],H,I,.nil,h⟩
theorem aa (ha:PE X e te) (hr:PA X es t) (hs:starEach (e :: es) X.env=(false,eval e X.env) :: starEach es X.env:=by rfl):PA X (e :: es) (tCons te t):=by
  intro pos pins s σ H Q I h
  rw[hs]
  show wpAny _ _ (spliced ((false,eval e X.env) :: backTo pos (starEach es X.env))) _ _ s
  refine Calls.spliced_cons (thn (ha pins s σ H _ I h) fun u s1 ⟨x,H1,I1,r1,q1⟩=>?_)
  exact thn (hr pos pins s1 σ H1 _ I1 q1) fun us s2 ⟨xs,H2,I2,r2,q2⟩=>⟨x :: xs,H2,I2,.cons r1 r2,q2⟩
def tTup (t:TA):TE:=fun σ H Q=>t σ H fun xs H1=>xs.length≤sizeLine∧∀ p,H1 p=none→Q (.ref p) (upd H1 p (.tup xs))
def tLst (t:TA):TE:=fun σ H Q=>t σ H fun xs H1=>xs.length≤sizeLine∧∀ p,H1 p=none→Q (.ref p) (upd H1 p (.lst xs))
theorem zaD {x1} (h:PA X es t):PE X (.Tuple es x1 pos) (tTup t):=by
  intro pins s σ H Q I hq
  refine wpAny_Tuple_spliced (thn (h pos pins s σ H _ I hq) fun us s1 ⟨xs,H1,I1,r,z,q⟩=>⟨by rw[←r.length];exact z,?_⟩)
  have hf:H1 s1.heap.objs.size=none:=I1.hok.fresh (Nat.le_refl _)
  refine⟨.ref s1.heap.objs.size,upd H1 s1.heap.objs.size (.tup xs),I1.laid (t':=s1.toks) (fun b u e=>Heap.get?_push_of_some _ e) (Nat.le_refl _) ?_,rfl,q _ hf⟩
  exact⟨z,us,r,⟨_,Heap.get?_push_size _ rfl,rfl,_,rfl⟩⟩
theorem zam (h:PA X es t):PE X (.List es pos) (tLst t):=by
  intro pins s σ H Q I hq
  refine wpAny_List_spliced (thn (h pos pins s σ H _ I hq) fun us s1 ⟨xs,H1,I1,r,z,q⟩=>⟨by rw[←r.length];exact z,?_⟩)
  have hf:H1 s1.heap.objs.size=none:=I1.hok.fresh (Nat.le_refl _)
  refine⟨.ref s1.heap.objs.size,upd H1 s1.heap.objs.size (.lst xs),I1.laid (t':=s1.toks) (fun b u e=>Heap.get?_push_of_some _ e) (Nat.le_refl _) ?_,rfl,q _ hf⟩
  exact⟨z,us,0,r,Heap.get?_push_size _ rfl⟩
end
abbrev Sp:=List V→Hp→VK→XK→Prop
abbrev CXT:=List Env→Hp→Shared→XK→Value→Shared→Prop
structure zfr (P:Program) (w:World) (K:PySem.W.Frag) (mg:Str→Option Value) (base:Heap) (A:Around) (outer:List Env) (s:Shared) (H:Hp):Prop where
  frames:A.frames=some outer
  mod:Mod K mg base
  bs:∀ b o,base.get? b=some o→s.heap.get? b=some o∧H b=none
  bsz:base.objs.size≤s.heap.objs.size
  funs:s.heap.FunFrames base outer
  frf:∀ b∈frs outer,H b=none
  hok:HOk P w H s.heap
  bare:AllBare s.gens
def CE (outer:List Env) (P:Program) (w:World) (H:Hp) (s:Shared) (Q:VK) (u:Value) (s':Shared):Prop :=
  ∃ v H',s'.os=s.os∧AllBare s'.gens∧Un (frs outer) [] H H' s.heap s'.heap∧HOk P w H' s'.heap∧aG v u∧Q v H'
def CR (CX:CXT) (outer:List Env) (P:Program) (w:World) (H:Hp) (s:Shared) (Q:VK) (E:XK) (r:Result) (s':Shared):Prop :=
  match r with
  | .ok (.ret u)=>CE outer P w H s Q u s'
  | .ok _=>False
  | .error e=>CX outer H s E e s'
structure FnOk (P:Program) (w:World) (K:PySem.W.Frag) (mg:Str→Option Value) (base:Heap) (CX:CXT) (k:Nat) (f:Addr) (fd:FuncData) (ps:List Str) (sp:Sp):Prop where
  len:∀ vs H Q E,sp vs H Q E→vs.length=ps.length
  run:∀(A:Around) (outer:List Env) (s:Shared) (H:Hp) (args:Args) (us:List Value) (vs:List V) (Q:VK) (E:XK),aE k A→zfr P w K mg base A outer s H→BindsTo s fd args (ps.zip us)→aD vs us→sp vs H Q E →
    codeAny (model P w) A (.call (.ref f) args) (CR CX outer P w H s Q E) s
theorem FnOk.mono {P:Program} {w:World} {K:PySem.W.Frag} {mg:Str→Option Value} {base:Heap} {CX:CXT} {j k:Nat} {f:Addr} {fd:FuncData} {ps:List Str} {sp:Sp} (F:FnOk P w K mg base CX j f fd ps sp) (h:j≤k) :
    FnOk P w K mg base CX k f fd ps sp:=⟨F.len,fun A outer s H args us vs Q E hr=>F.run A outer s H args us vs Q E (hr.mono h)⟩
theorem zfr.make {P:Program} {w:World} {K:PySem.W.Frag} {mg:Str→Option Value} {base:Heap} {A:Around} {outer:List Env} {s:Shared} {H:Hp} (e:zfr P w K mg base A outer s H) (C:Addr) (us:List Value) (kw:List (Str × Value)) :
    zfr P w K mg base (A.under (.builtin "type.__call__" ⟨.ref C :: us,kw⟩)) outer s H:=⟨by first | exact e.frames | (simpa [Around.under,Code.envs,Code.isFrame,pushEnvs] using e.frames),e.mod,e.bs,e.bsz,e.funs,e.frf,e.hok,e.bare⟩
section
variable {X:Cx} {pins:List (Addr × Obj)} {σ:St} {H:Hp} {s s':Shared}
theorem Inv.env0 (I:Inv X pins σ H s):zfr X.prog X.w X.K X.mg X.base X.A X.stack s H :=
  ⟨I.ok.frames,I.ok.mod,I.bs,Nat.le_trans I.ok.bsz I.sz,I.stack,I.stkFree,I.hok,I.bare⟩
theorem Inv.after {Q:VK} {u:Value} (I:Inv X pins σ H s) (h:CE X.stack X.prog X.w H s Q u s'):EP X pins σ Q u s':=by
  obtain⟨v,H',os,bare,un,hok,r,q⟩:=h
  obtain⟨hh,g,d,t,os'⟩:=s'
  obtain rfl:os'=s.os:=os
  exact⟨v,H',I.call (h':=hh) (g':=g) (d':=d) (t':=t) (ch:=[]) un hok bare (fun b z=>absurd z (by simp)),r,q⟩
end
def tCall (sp:Sp) (dvs:List V) (E:XK) (t:TA):TE:=fun σ H Q=>t σ H fun vs H1=>sp (vs++dvs) H1 Q E
def tMeth (C:Addr) (m:Str) (sp:Sp) (dvs:List V) (E:XK) (ta:TE) (t:TA):TE:=fun σ H Q=>ta σ H fun x H1=>∃ a dx fs,x=.ref a∧H1 a=some (.ins C dx fs)∧fs.lookup m=none ∧
  t σ H1 fun vs H2=>sp (x :: (vs++dvs)) H2 Q E
def tMake (C:Addr) (sp:Sp) (dvs:List V) (E:XK) (t:TA):TE:=fun σ H Q=>t σ H fun vs H1=>∀ x dx,H1 x=none→H1 dx=none→dx≠x →
  sp (.ref x :: (vs++dvs)) (upd (upd H1 dx (.own x)) x (.ins C dx [])) (fun v H2=>v=.non∧Q (.ref x) H2) E
def av (K:PySem.W.Frag) (fd:FuncData) (ps:List Str) (ds:List Value):Prop :=
  ∀(s:Shared) (us:List Value),K.In s.heap→(us++ds).length=ps.length→BindsTo s fd ⟨us,[]⟩ (ps.zip (us++ds))
theorem av.all {K:PySem.W.Frag} {fd:FuncData} {ps:List Str} (h:∀ us:List Value,us.length=ps.length→bindArgs fd ⟨us,[]⟩=pure (ps.zip us)):av K fd ps []:=fun s us _ hl=>by
  rw[List.append_nil]at hl ⊢
  exact .of_eq (h us hl)
def zbZ (CX:CXT) (X:Cx) (E:XK):Prop:=∀(pins:List (Addr × Obj)) (σ:St) (H:Hp) (s:Shared) (e:Value) (s':Shared),Inv X pins σ H s→CX X.stack H s E e s'→X.xe e s'
section
variable {X:Cx} {CX:CXT} {k:Nat} {f C:Addr} {fd:FuncData} {ps:List Str} {sp:Sp} {dvs:List V} {ds:List Value} {E:XK} {x m:Str} {p pos apos:Pos} {e o:Expr} {es:List Expr} {ta:TE} {t:TA}
theorem zhw {pins:List (Addr × Obj)} {σ:St} {H:Hp} {s:Shared} {Q:VK} {us:List Value} {vs:List V} (F:FnOk X.prog X.w X.K X.mg X.base CX k f fd ps sp) (hr:aE k X.A) (hb:av X.K fd ps ds) (hd:aD dvs ds) (hx:zbZ CX X E)
    (I:Inv X pins σ H s) (r:aD vs us) (h:sp (vs++dvs) H Q E):wpAny (model X.prog X.w) X.A (call (.ref f) us) (EP X pins σ Q) X.xe s:=by
  have r2:aD (vs++dvs) (us++ds):=r.append hd
  have hl:(us++ds).length=ps.length:=by rw[←r2.length];exact F.len _ _ _ _ h
  refine wpAny_call (codeAny_mono (F.run X.A X.stack s H ⟨us,[]⟩ (us++ds) (vs++dvs) Q E hr I.env0 (hb s us I.kIn hl) r2 h) fun r s' hq=>?_)
  cases r with
  | error e=>exact hx pins σ H s e s' I hq
  | ok fl =>
    cases fl with
    | ret u=>exact I.after hq
    | next=>exact False.elim hq
    | brk=>exact False.elim hq
    | cont=>exact False.elim hq
theorem zaa (F:FnOk X.prog X.w X.K X.mg X.base CX k f fd ps sp) (hr:aE k X.A) (hg:Gl X x) (hm:X.mg x=some (.ref f)) (hk:PySem.W.keepIn X.K (.ref f)=true) (hb:av X.K fd ps ds) (hd:aD dvs ds) (hx:zbZ CX X E)
    (ha:PA X (e :: es) t) (hdb:(x == ("__debug__":Str))=false:=by decide) (he:starEach (e :: es) X.env=(false,eval e X.env) :: starEach es X.env:=by rfl) (hpl:(backTo pos (starEach es X.env)).any (·.1)=false:=by rfl) :
    PE X (.Call (.Name x p) (e :: es) [] pos) (tCall sp dvs E t):=by
  intro pins s σ H Q I h
  refine wpAny_Call_Name_kw (zc4 I hg hm ?_ hdb)
  refine PySem.W.callWith_K (h₀:=X.base) I.ok.mod.kin hk (thn (ha pos pins s σ H _ I h) fun us s1 ⟨vs,H1,I1,r,q⟩=>⟨I1.kIn,?_⟩) he hpl
  exact zhw F hr hb hd hx I1 r q
theorem zaJ {pl:Sem Bool} (he:PE X o ta) (c:Cls X.K C) (hm:zbg X.K C m f) (F:FnOk X.prog X.w X.K X.mg X.base CX k f fd ps sp) (hr:aE k X.A) (hb:av X.K fd ps ds) (hd:aD dvs ds) (hx:zbZ CX X E) (ha:PA X (e :: es) t)
    (hst:starEach (e :: es) X.env=(false,eval e X.env) :: starEach es X.env:=by rfl) (hpl:(backTo pos (starEach es X.env)).any (·.1)=false:=by rfl)
    (ht:eval (.Call (.Attribute o m apos) (e :: es) [] pos) X.env=(do
      let ov ←eval o X.env
      standAt apos.atName
      let (f,first) ←holding [ov] (getMethod ov m pl)
      callWith pos f first (backTo pos (starEach (e :: es) X.env)) (backToKw pos (keywordEach [] X.env))):=by rfl) :
    PE X (.Call (.Attribute o m apos) (e :: es) [] pos) (tMeth C m sp dvs E ta t):=by
  intro pins s σ H Q I h
  refine PySem.W.methodCall_KW (pl:=pl) (thn (he pins s σ H _ I h) fun u s1 ⟨x,H1,I1,rx,a,dx,fs,ex,ea,l,q⟩=>?_) ht
  subst ex
  obtain rfl:u=Value.ref a:=rx
  refine zeE I1 ea c hm l ?_
  refine PySem.W.callWith_K (first:=[.ref a]) (h₀:=X.base) I.ok.mod.kin hm.kp (thn (ha pos pins s1 σ H1 _ I1 q) fun us s2 ⟨vs,H2,I2,r,q2⟩=>⟨I2.kIn,?_⟩) hst hpl
  exact zhw (us:=.ref a :: us) (vs:=.ref a :: vs) F hr hb hd hx I2 (.cons rfl r) q2
theorem zfE {pl:Sem Bool} (he:PE X o ta) (c:Cls X.K C) (hm:zbg X.K C m f) (F:FnOk X.prog X.w X.K X.mg X.base CX k f fd ps sp) (hr:aE k X.A) (hb:av X.K fd ps ds) (hd:aD dvs ds) (hx:zbZ CX X E)
    (ht:eval (.Call (.Attribute o m apos) [] [] pos) X.env=(do
      let ov ←eval o X.env
      standAt apos.atName
      let (f,first) ←holding [ov] (getMethod ov m pl)
      callWith pos f first (backTo pos (starEach [] X.env)) (backToKw pos (keywordEach [] X.env))):=by rfl) :
    PE X (.Call (.Attribute o m apos) [] [] pos) (tMeth C m sp dvs E ta tNil):=by
  intro pins s σ H Q I h
  refine PySem.W.methodCall_KW (pl:=pl) (thn (he pins s σ H _ I h) fun u s1 ⟨x,H1,I1,rx,a,dx,fs,ex,ea,l,q⟩=>?_) ht
  subst ex
  obtain rfl:u=Value.ref a:=rx
  refine zeE I1 ea c hm l ?_
  exact PySem.W.callWith_K0 (first:=[.ref a]) I1.kIn hm.kp (zhw (us:=[.ref a]) (vs:=[.ref a]) F hr hb hd hx I1 (.cons rfl .nil) q)
structure Mk (K:PySem.W.Frag) (C f:Addr):Prop where
  makes:PySem.W.makesIn K C=true
  init:PySem.W.findIn K (.ref C) "__init__"=some (some (.ref f))
  fn:PySem.W.isFn K (.ref f)=true
  kp:PySem.W.keepIn K (.ref C)=true
theorem zh2 {pins:List (Addr × Obj)} {σ:St} {H:Hp} {s:Shared} {Q:VK} {us:List Value} {vs:List V} (M:Mk X.K C f) (F:FnOk X.prog X.w X.K X.mg X.base CX k f fd ps sp) (hr:aE (k+1) X.A) (hb:av X.K fd ps ds) (hd:aD dvs ds)
    (hx:zbZ CX X E) (I:Inv X pins σ H s) (r:aD vs us)
    (h:∀ x dx,H x=none→H dx=none→dx≠x→sp (.ref x :: (vs++dvs)) (upd (upd H dx (.own x)) x (.ins C dx [])) (fun v H2=>v=.non∧Q (.ref x) H2) E) :
    wpAny (model X.prog X.w) X.A (call (.ref C) us) (EP X pins σ Q) X.xe s:=by
  have hq:=h (s.heap.objs.size+1) s.heap.objs.size (I.hok.fresh (Nat.le_succ _)) (I.hok.fresh (Nat.le_refl _)) (Nat.ne_of_lt (Nat.lt_succ_self _))
  have I2:=Inv.made (C:=C) I
  have r2:aD (V.ref (s.heap.objs.size+1) :: (vs++dvs)) (Value.ref (s.heap.objs.size+1) :: (us++ds)):=.cons rfl (r.append hd)
  have hl:(Value.ref (s.heap.objs.size+1) :: us++ds).length=ps.length:=by
    have e:=r2.length
    rw[F.len _ _ _ _ hq]at e
    exact e.symm
  refine wpAny_call (zln (f:=f) I.kIn M.makes M.init (beq_iff_eq.mp M.fn) (codeAny_mono (F.run _ X.stack _ _ ⟨Value.ref (s.heap.objs.size+1) :: us,[]⟩ (Value.ref (s.heap.objs.size+1) :: (us++ds)) _ _ E (hr.make C us [])
    (I2.env0.make C us []) (hb _ (Value.ref (s.heap.objs.size+1) :: us) I2.kIn hl) r2 hq) fun r s' hq'=>?_))
  cases r with
  | error e=>exact hx pins σ _ _ e s' I2 hq'
  | ok fl =>
    cases fl with
    | ret u =>
      obtain⟨v,H',I3,rv,ev,q3⟩:=I2.after hq'
      subst ev
      exact⟨rv,⟨V.ref (s.heap.objs.size+1),H',I3,rfl,q3⟩⟩
    | next=>exact False.elim hq'
    | brk=>exact False.elim hq'
    | cont=>exact False.elim hq'
theorem zlW (M:Mk X.K C f) (F:FnOk X.prog X.w X.K X.mg X.base CX k f fd ps sp) (hr:aE (k+1) X.A) (hg:Gl X x) (hm:X.mg x=some (.ref C)) (hb:av X.K fd ps ds) (hd:aD dvs ds) (hx:zbZ CX X E)
    (ha:PA X (e :: es) t) (hdb:(x == ("__debug__":Str))=false:=by decide) (he:starEach (e :: es) X.env=(false,eval e X.env) :: starEach es X.env:=by rfl) (hpl:(backTo pos (starEach es X.env)).any (·.1)=false:=by rfl) :
    PE X (.Call (.Name x p) (e :: es) [] pos) (tMake C sp dvs E t):=by
  intro pins s σ H Q I h
  refine wpAny_Call_Name_kw (zc4 I hg hm ?_ hdb)
  refine PySem.W.callWith_K (h₀:=X.base) I.ok.mod.kin M.kp (thn (ha pos pins s σ H _ I h) fun us s1 ⟨vs,H1,I1,r,q⟩=>⟨I1.kIn,?_⟩) he hpl
  exact zh2 M F hr hb hd hx I1 r q
theorem zla (M:Mk X.K C f) (F:FnOk X.prog X.w X.K X.mg X.base CX k f fd ps sp) (hr:aE (k+1) X.A) (hg:Gl X x) (hm:X.mg x=some (.ref C)) (hb:av X.K fd ps ds) (hd:aD dvs ds) (hx:zbZ CX X E)
    (hdb:(x == ("__debug__":Str))=false:=by decide):PE X (.Call (.Name x p) [] [] pos) (tMake C sp dvs E tNil):=by
  intro pins s σ H Q I h
  refine wpAny_Call_Name_kw (zc4 I hg hm ?_ hdb)
  exact PySem.W.callWith_K0 I.kIn M.kp (zh2 (us:=[]) M F hr hb hd hx I .nil h)
end
section
variable {X:Cx} {CX:CXT} {k:Nat} {f C:Addr} {fd:FuncData} {ps ks:List Str} {sp:Sp} {E:XK} {x m:Str} {p pos apos kpos:Pos} {e o:Expr} {es:List Expr} {kws:List Keyword} {te ta:TE} {t tk:TA} {nm:Option Str}
variable {g:List Value→List Value→List Value} {gV:List V→List V→List V}
end
structure zae (N P:List Str) (sc:Scope):Prop where
  kind:sc.kind=.function
  co:sc.isCoroutine=false
  gen:sc.isGenerator=false
  nd:N.Nodup
  pre:N.take P.length=P
  par:∀ x∈P,sc.names.lookup x=some .local∨sc.names.lookup x=some .cell
  nofree:∀ y∈sc.names,y.2≠.free
theorem zhf {kindOf:Str→Option NameKind} {x:Str}:∀ {binds:List (Str × Value)} {m:Str→Option Value},(∀ v,(x,v)∉binds)→bindL kindOf binds m x=m x
  | [],_,_=>rfl
  | (n,v) :: r,m,h=>by
    unfold bindL
    rw[zhf fun w hw=>h w (List.mem_cons_of_mem _ hw)]
    split
    · have:x≠n:=by rintro rfl;exact h v List.mem_cons_self
      simp [this]
    · rfl
theorem zhh {kindOf:Str→Option NameKind} {x:Str}:∀ {binds:List (Str × Value)} {m:Str→Option Value},(∀ v,(x,v)∉binds)→bindC kindOf binds m x=m x
  | [],_,_=>rfl
  | (n,v) :: r,m,h=>by
    unfold bindC
    rw[zhh fun w hw=>h w (List.mem_cons_of_mem _ hw)]
    split
    · rfl
    · have:x≠n:=by rintro rfl;exact h v List.mem_cons_self
      simp [this]
theorem zhg {kindOf:Str→Option NameKind} {x:Str} {v:Value}:∀ {P:List Str} {vs:List Value} {i:Nat} {m:Str→Option Value},P.Nodup→P[i]?=some x→vs[i]?=some v→kindOf x=some .local →
    bindL kindOf (P.zip vs) m x=some v
  | [],_,_,_,_,h,_,_=>by simp at h
  | _ :: _,[],_,_,_,_,h,_=>by simp at h
  | p :: P,w :: vs,0,m,nd,h1,h2,hk=>by
    simp at h1 h2;subst h1;subst h2
    show bindL kindOf ((p,w) :: P.zip vs) m p=_
    unfold bindL
    rw[zhf fun v hv=>(List.nodup_cons.mp nd).1 (List.of_mem_zip hv).1,if_pos hk]
    simp
  | p :: P,w :: vs,i+1,m,nd,h1,h2,hk=>by
    show bindL kindOf ((p,w) :: P.zip vs) m x=_
    unfold bindL
    exact zhg (i:=i) (List.nodup_cons.mp nd).2 (by simpa using h1) (by simpa using h2) hk
theorem zhi {kindOf:Str→Option NameKind} {x:Str} {v:Value}:∀ {P:List Str} {vs:List Value} {i:Nat} {m:Str→Option Value},P.Nodup→P[i]?=some x→vs[i]?=some v→kindOf x≠some .local →
    bindC kindOf (P.zip vs) m x=some v
  | [],_,_,_,_,h,_,_=>by simp at h
  | _ :: _,[],_,_,_,_,h,_=>by simp at h
  | p :: P,w :: vs,0,m,nd,h1,h2,hk=>by
    simp at h1 h2;subst h1;subst h2
    show bindC kindOf ((p,w) :: P.zip vs) m p=_
    unfold bindC
    rw[zhh fun v hv=>(List.nodup_cons.mp nd).1 (List.of_mem_zip hv).1,if_neg hk]
    simp
  | p :: P,w :: vs,i+1,m,nd,h1,h2,hk=>by
    show bindC kindOf ((p,w) :: P.zip vs) m x=_
    unfold bindC
    exact zhi (i:=i) (List.nodup_cons.mp nd).2 (by simpa using h1) (by simpa using h2) hk
def zdr (N:List Str) (vs:List V):St:=vs.map some++List.replicate (N.length - vs.length) none
def zbT (CX:CXT) (P:Program) (w:World) (K:PySem.W.Frag) (mg:Str→Option Value) (base:Heap) (N:List Str) (qual:Str) (scope:Scope) (f:Addr) (cd:Value) (A:Around) (outer:List Env) (s:Shared) (H:Hp) (E:XK):Cx where
  prog:=P
  w:=w
  K:=K
  mg:=mg
  base:=base
  A:=A.deeper (envOfC qual scope s.heap.objs.size f cd)
  N:=N
  s₀:=s
  H₀:=H
  env:=envOfC qual scope s.heap.objs.size f cd
  outer:=outer
  stack:=envOfC qual scope s.heap.objs.size f cd :: outer
  ex:=[]
  calm:=true
  fn:=fun _=>true
  pn:=[]
  xe:=fun e s'=>wpAny (model P w) (A.deeper (envOfC qual scope s.heap.objs.size f cd)) (leaving (envOfC qual scope s.heap.objs.size f cd) e) (fun _ s''=>CX outer H s E e s'') (fun e' s''=>CX outer H s E e' s'') s'
theorem zik {sc:Scope} {n:Nat} {x:Str} (h:sc.names.lookup x=some .cell):∃ c,(cellsFrom n sc.names []).lookup x=some c:=by
  have q:=PySem.W.cellsFrom_some sc.names n [] (.inl h)
  exact Option.isSome_iff_exists.mp q
theorem zkR {CX:CXT} {P:Program} {w:World} {K:PySem.W.Frag} {mg:Str→Option Value} {base:Heap} {N ps:List Str} {qual:Str} {scope:Scope} {f:Addr} {cd:Value} {A:Around} {outer:List Env} {s s1:Shared} {H:Hp} {E:XK} {us:List Value} {vs:List V}
    (S:zae N ps scope) (hd:A.handled=none) (e0:zfr P w K mg base A outer s H) (hl:vs.length=ps.length) (r:aD vs us)
    (x:InCallC s s.heap.objs.size (bindL (envOfC qual scope s.heap.objs.size f cd).kindOf (ps.zip us) fun _=>none) (cellsFrom (s.heap.objs.size+1) scope.names []) (bindC (envOfC qual scope s.heap.objs.size f cd).kindOf (ps.zip us) fun _=>none) s1) :
    Inv (zbT CX P w K mg base N qual scope f cd A outer s H E) [] (zdr N vs) H s1:=by
  have hpl:ps.length≤N.length:=by have:=congrArg List.length S.pre;rw[List.length_take]at this;omega
  obtain⟨h1,tk,rfl,hk⟩:=x.done
  have noA:∀ b:Addr,b∉(zbT CX P w K mg base N qual scope f cd A outer s H E).ex:=fun b z=>absurd (show b∈([]:List Addr) from z) (by simp)
  refine⟨⟨e0.mod,S.kind,rfl,rfl,Nat.le_refl _,fun y z c h1 h2=>?_,fun y hy=>?_,fun y c _ h=>?_,fun _=>hd,Around.frames_deeper e0.frames,.inr ⟨rfl,rfl⟩,fun b z=>absurd z (noA b),e0.bs,e0.bsz,fun b _ _=>noA b,fun b z=>absurd z (noA b),e0.funs,e0.frf⟩,
    rfl,e0.bare,Un.kept hk,⟨_,x.toInCall.ns,fun i y v h1 h2 h3=>?_⟩,fun y c h=>⟨_,x.cell y c h⟩,e0.hok.fresh (Nat.le_refl _),fun y c h=>?_,fun p hp=>absurd (show p∈([]:List (Addr × Obj)) from hp) (by simp),e0.hok.kept hk,?_⟩
  · exact name_of_addr x.apart (PySem.mem_of_lookup h1) (PySem.mem_of_lookup h2)
  · have hy:scope.names.lookup y=some .cell∨scope.names.lookup y=some .free:=hy
    rcases hy with hy | hy
    · exact zik hy
    · exact absurd rfl (S.nofree _ (PySem.mem_of_lookup hy))
  · exact Nat.le_of_lt (x.above y c (PySem.mem_of_lookup h))
  · have hi:i < vs.length:=by
      unfold zdr at h2
      by_cases hi:i < vs.length
      · exact hi
      · rw[List.getElem?_append_right (by simpa using hi)]at h2
        rw[List.getElem?_replicate]at h2
        split at h2 <;> cases h2
    have ha:vs[i]?=some v:=by
      unfold zdr at h2
      rw[List.getElem?_append_left (by simpa using hi),List.getElem?_map]at h2
      cases e:vs[i]? with
      | none=>rw[e]at h2;cases h2
      | some a=>rw[e]at h2;cases h2;rfl
    obtain⟨u,hu,rv⟩:=r.get ha
    have hp:ps[i]?=some y:=by
      rw[←S.pre,List.getElem?_take_of_lt (by omega)];exact h1
    have ndP:ps.Nodup:=by rw[←S.pre];exact S.nd.sublist (List.take_sublist _ _)
    refine⟨u,rv,?_⟩
    rcases S.par y (List.mem_of_getElem? hp) with k | k
    · exact .inl ⟨k,zhg ndP hp hu k⟩
    · obtain⟨c,e⟩:=zik (n:=s.heap.objs.size+1) k
      refine .inr ⟨.inl k,c,e,?_⟩
      have q:=x.cell y c e
      rw[zhi ndP hp hu (by show scope.names.lookup y≠_;rw[k];decide)]at q
      exact q
  · exact e0.hok.fresh (Nat.le_of_lt (x.above y c (PySem.mem_of_lookup h)))
  · unfold zdr
    show _=N.length
    rw[List.length_append,List.length_map,List.length_replicate]
    omega
theorem fn_of {CX:CXT} {P:Program} {w:World} {K:PySem.W.Frag} {mg:Str→Option Value} {base:Heap} {k:Nat} {f:Addr} {name qual:Str} {params:Arguments} {body:List Stmt} {scope:Scope} {dV kV doc pm cdv ct oc:Value} {an od:Option Addr}
    {osl:Array (Option Value)} {N ps:List Str} {sp:Sp} (lk:K.lookup f=some ⟨oc,od,.func (PySem.W.fnOf name qual params body scope dV kV doc pm an cdv ct),osl⟩) (hcd:PySem.W.codeIn K cdv qual=true) (S:zae N ps scope)
    (len:∀ vs H Q E,sp vs H Q E→vs.length=ps.length)
    (hbody:∀(A:Around) (outer:List Env) (s:Shared) (H:Hp) (vs:List V) (Q:VK) (E:XK),aE k (A.deeper (envOfC qual scope s.heap.objs.size f cdv))→sp vs H Q E →
      ∃ t,PSs (zbT CX P w K mg base N qual scope f cdv A outer s H E) body t∧t { nx:=fun _ H'=>Q .non H',rt:=Q } (zdr N vs) H) :
    FnOk P w K mg base CX (k+1) f (PySem.W.fnOf name qual params body scope dV kV doc pm an cdv ct) ps sp:=by
  refine⟨len,fun A outer s H args us vs Q E hr e0 hb r hsp=>?_⟩
  have hl:=len _ _ _ _ hsp
  have KX:K.In s.heap:=e0.mod.kin.keeps fun b o e=>(e0.bs b o e).1
  have lim:s.heap.NoLimit:=e0.mod.nolimit.keeps fun b o e=>(e0.bs b o e).1
  have hkind:∀ y∈ps.zip us,scope.names.lookup y.1=some .local∨(scope.names.lookup y.1=some .cell∧((cellsFrom (s.heap.objs.size+1) scope.names []).lookup y.1).isSome=true):=fun⟨n,v⟩ hy=>by
    rcases S.par n (List.of_mem_zip hy).1 with q | q
    · exact .inl q
    · exact .inr ⟨q,PySem.W.cellsFrom_some _ _ _ (.inl q)⟩
  refine codeAny_call_function hr.depth (KX _ _ lk) rfl S.co S.gen rfl (PySem.W.codeRec_of KX hcd) (hb _ _ _ _ ?_)
  refine wpAny_newFunctionEnv_cells S.kind hkind fun env he s1 x=>?_
  subst he
  refine⟨lim.keeps x.toInCall.keep,codeAny_func ?_⟩
  obtain⟨t,ht,hq⟩:=hbody A outer s H vs Q E (hr.deeper _) hsp
  have I:Inv (zbT CX P w K mg base N qual scope f cdv A outer s H E) [] (zdr N vs) H s1:=zkR S hr.hd e0 hl r x
  refine wpAny_mono (ht [] s1 (zdr N vs) H _ I hq) (fun fl s' hs=>?_) fun e s' hs=>hs
  have fin:∀ {σ':St} {H':Hp} {v:V} {u:Value},Inv (zbT CX P w K mg base N qual scope f cdv A outer s H E) [] σ' H' s'→aG v u→Q v H'→CE outer P w H s Q u s' :=
    fun {σ' H' v u} J rv q=>⟨v,H',J.os,J.bare,J.base,J.hok,rv,q⟩
  cases fl with
  | ret u =>
    obtain⟨v,σ',H',J,rv,q⟩:=hs
    exact fin J rv q
  | next =>
    obtain⟨σ',H',J,q⟩:=hs
    exact fin (v:=V.non) (u:=Value.none) J rfl q
  | brk =>
    obtain⟨_,_,_,q⟩:=hs
    exact False.elim q
  | cont =>
    obtain⟨_,_,_,q⟩:=hs
    exact False.elim q
end L2
namespace L2
open PySem PySem.Spec PyProof.Rows
section
variable {X:Cx} {x:Str} {p pos:Pos} {e:Expr} {es:List Expr} {t:TA} {id T:String} {r:List V→Hp→VK→Prop}
def tCB (r:List V→Hp→VK→Prop) (t:TA):TE:=fun σ H Q=>t σ H fun vs H1=>r vs H1 Q
theorem zap (hc:zbI X (.builtin id) r) (hg:Gl X x) (hm:X.mg x=none) (hv:bootBuiltins x=some (.builtin id)) (ha:PA X (e :: es) t) (hn:x≠"__name__":=by decide) (hdb:(x == ("__debug__":Str))=false:=by decide)
    (he:starEach (e :: es) X.env=(false,eval e X.env) :: starEach es X.env:=by rfl) (hpl:(backTo pos (starEach es X.env)).any (·.1)=false:=by rfl):PE X (.Call (.Name x p) (e :: es) [] pos) (tCB r t):=by
  intro pins s σ H Q I h
  refine wpAny_Call_Name_kw (zeN I hg hm hv ?_ hn hdb)
  exact PyProof.Rows.callWith_builtin1 (thn (ha pos pins s σ H _ I h) fun us s1 ⟨vs,H1,I1,r1,q1⟩=>hc pins s1 σ H1 vs us Q I1 r1 q1) he hpl
theorem zbD (hc:zbI X (.type T) r) (hg:Gl X x) (hm:X.mg x=none) (hv:bootBuiltins x=some (.type T)) (ha:PA X (e :: es) t) (hn:x≠"__name__":=by decide) (hdb:(x == ("__debug__":Str))=false:=by decide)
    (he:starEach (e :: es) X.env=(false,eval e X.env) :: starEach es X.env:=by rfl) (hpl:(backTo pos (starEach es X.env)).any (·.1)=false:=by rfl):PE X (.Call (.Name x p) (e :: es) [] pos) (tCB r t):=by
  intro pins s σ H Q I h
  refine wpAny_Call_Name_kw (zeN I hg hm hv ?_ hn hdb)
  exact PyProof.Rows.callWith_type1 (thn (ha pos pins s σ H _ I h) fun us s1 ⟨vs,H1,I1,r1,q1⟩=>hc pins s1 σ H1 vs us Q I1 r1 q1) he hpl
end
end L2
namespace HT
open PySem PyProof.Rows
section
open PySem.SeqAt
open PySem.AutoSeq1 (wpAny_loadPart')
open PySem.MeetsSeq PySem.MeetsSeq2 PySem.MeetsSeq3
end
section
variable {prog:Program} {w:World} {A:Around} {E:Value→Shared→Prop} {s:Shared}
def sIx (n d:Nat):Option Int→Nat
  | none=>d
  | some v=>if v < 0 then(v+(n:Int)).toNat else min v.toNat n
theorem sIx_none (n d:Nat):sIx n d none=d:=rfl
theorem sIx_nat (n d k:Nat):sIx n d (some (k:Int))=min k n:=by
  show(if(k:Int) < 0 then((k:Int)+(n:Int)).toNat else min (k:Int).toNat n)=min k n
  rw[if_neg (by omega),Int.toNat_natCast]
theorem sIx_le (n d:Nat) (hd:d≤n) (o:Option Int):sIx n d o≤n:=by
  cases o with
  | none=>exact hd
  | some v =>
    show(if v < 0 then(v+(n:Int)).toNat else min v.toNat n)≤n
    by_cases hv:v < 0
    · rw[if_pos hv];omega
    · rw[if_neg hv];exact Nat.min_le_right _ _
theorem zjf (v:Int) (n d:Nat):(if v < 0 then max (v+(n:Int)) 0 else min v (n:Int))=((sIx n d (some v):Nat):Int):=by
  show(if v < 0 then max (v+(n:Int)) 0 else min v (n:Int))=(((if v < 0 then(v+(n:Int)).toNat else min v.toNat n):Nat):Int)
  by_cases hv:v < 0
  · simp only[if_pos hv];omega
  · simp only[if_neg hv];omega
theorem zjN (lo hi:Option Int) (n:Nat):Builtin.Slice.sliceAdjust lo hi 1 (n:Int)=(((sIx n 0 lo:Nat):Int),((sIx n n hi:Nat):Int)):=by
  have h1:¬((1:Int) < 0):=by omega
  unfold Builtin.Slice.sliceAdjust
  simp only[h1,if_false]
  refine Prod.ext ?_ ?_
  · cases lo with
    | none=>rfl
    | some v=>exact zjf v n 0
  · cases hi with
    | none=>rfl
    | some v=>exact zjf v n n
theorem zjw (i j:Nat):Builtin.Slice.slicePlaces (i:Int) (j:Int) 1=j - i:=by
  unfold Builtin.Slice.slicePlaces
  have h1:(1:Int) > 0:=by omega
  simp only[h1,if_true,Int.ediv_one]
  split <;> omega
theorem zf2 {v:Value} {o:Option Int} {Q:Option Int→Shared→Prop} (p:IsPart v o) (h:Q o s):wpAny (model prog w) A (Builtin.Slice.slicePartIndex v) Q E s:=by
  cases p with
  | none=>exact slicePart_none h
  | int i t=>exact slicePart_int h
theorem zfN {sl:Addr} {vl vu:Value} {lo hi:Option Int} {n:Nat} {Q:Int × Int × Nat→Shared→Prop} (hs:s.heap.IsSliceOf sl vl vu .none) (pl:IsPart vl lo) (pu:IsPart vu hi)
    (h:Q (((sIx n 0 lo:Nat):Int),1,sIx n n hi - sIx n 0 lo) s):wpAny (model prog w) A (Builtin.Slice.sliceApplied (.ref sl) (pure (n:Int))) Q E s:=by
  obtain⟨os,hos,hcs,hds⟩:=id hs
  unfold Builtin.Slice.sliceApplied Builtin.Slice.sliceFields
  refine wpAny_bind (wpAny_bind (wpAny_field hos hds (x:=vl) rfl (wpAny_bind (wpAny_field hos hds (x:=vu) rfl (wpAny_bind (wpAny_field hos hds (x:=.none) rfl (wpAny_pure ?_)))))))
  refine wpAny_bind (slicePart_none ?_)
  show wpAny _ _ (if((1:Int) == 0)=true then _ else _) _ _ s
  rw[if_neg (by decide)]
  refine wpAny_bind (zf2 pl (wpAny_bind (zf2 pu (wpAny_bind (wpAny_pure ?_)))))
  show wpAny _ _ (match Builtin.Slice.sliceAdjust lo hi 1 (n:Int) with | (lo,hi)=>pure (lo,(1:Int),Builtin.Slice.slicePlaces lo hi 1)) _ _ s
  rw[zjN lo hi n]
  show wpAny _ _ (pure (((sIx n 0 lo:Nat):Int),(1:Int),Builtin.Slice.slicePlaces ((sIx n 0 lo:Nat):Int) ((sIx n n hi:Nat):Int) 1)) _ _ s
  rw[zjw]
  exact wpAny_pure h
theorem zk7 (xs:Array Value) (i k:Nat):((List.range k).filterMap fun(m:Nat)=>xs[((i:Int)+(m:Int) * 1).toNat]?).toArray=((xs.toList.drop i).take k).toArray:=by
  have e:(fun(m:Nat)=>xs[((i:Int)+(m:Int) * 1).toNat]?)=fun m=>xs[i+m]?:=by
    funext m
    have:((i:Int)+(m:Int) * 1).toNat=i+m:=by omega
    rw[this]
  rw[e]
  have:=pick_run xs i k
  rw[List.filterMap_map]at this
  have e2:((fun x=>xs[x]?) ∘ fun x=>i+x)=fun m=>xs[i+m]?:=rfl
  rw[e2]at this
  rw[this]
theorem getItem_tuple_cut {t sl:Addr} {items:Array Value} {vl vu:Value} {lo hi:Option Int} {Q:Value→Shared→Prop} (ht:IsTup s.heap t items) (hs:s.heap.IsSliceOf sl vl vu .none) (pl:IsPart vl lo) (pu:IsPart vu hi)
    (hw:¬(sIx items.size 0 lo=0∧sIx items.size items.size hi=items.size))
    (h:Q (.ref s.heap.objs.size) { s with heap:=s.heap.push { cls:=.type "tuple",data:=.seq ((items.toList.drop (sIx items.size 0 lo)).take (sIx items.size items.size hi - sIx items.size 0 lo)).toArray } })
    (hsz:items.size≤sizeLine):wpAny (model prog w) A (getItem (.ref t) (.ref sl)) Q E s:=by
  have htake:sizeOk (.seq ((items.toList.drop (sIx items.size 0 lo)).take (sIx items.size items.size hi - sIx items.size 0 lo)).toArray):=by
    show((items.toList.drop (sIx items.size 0 lo)).take (sIx items.size items.size hi - sIx items.size 0 lo)).toArray.size≤sizeLine
    rw[List.size_toArray,List.length_take,List.length_drop,Array.length_toList]
    omega
  have hj:sIx items.size items.size hi≤items.size:=sIx_le _ _ (Nat.le_refl _) hi
  obtain⟨os,hos,hcs,hds⟩:=id hs
  have hTs:s.TypeIs (.ref sl) "slice":=⟨os,hos,hcs⟩
  unfold getItem
  try with_reducible refine wpAny_holding ?_
  first | refine wpAny_bind (wpAny_pure ?_) | skip
  refine wpAny_bind (wpAny_sequenceKey ht.typeIs (by decide) ?_)
  refine wpAny_bind (wpAny_callSpecial?_slot (name:=Str.ofString "__getitem__") ht.typeIs PyProof.Rows.slot_tuple_getitem
    (wpAny_call_entry PyProof.Rows.slot_tuple_getitem ht.typeIs entry_tuple_getitem ?_ (args_tuple_getitem _ _)))
  show wpAny _ _ (Builtin.Tuple.tupleItemsOf (.ref t) >>= _) _ _ s
  refine wpAny_bind (tupleItemsOf_ ht ?_)
  refine wpAny_bind (wpAny_typeOf hTs ?_)
  rw[if_pos (by decide)]
  refine wpAny_bind (zfN hs pl pu ?_)
  have hno:¬((((sIx items.size 0 lo:Nat):Int) == 0&&(1:Int) == 1&&(sIx items.size items.size hi - sIx items.size 0 lo) == items.size)=true):=by
    intro q
    rw[Bool.and_eq_true,Bool.and_eq_true]at q
    have q1:((sIx items.size 0 lo:Nat):Int)=0:=eq_of_beq q.1.1
    have q2:sIx items.size items.size hi - sIx items.size 0 lo=items.size:=eq_of_beq q.2
    exact hw ⟨by omega,by omega⟩
  show wpAny _ _ (if(((sIx items.size 0 lo:Nat):Int) == 0&&(1:Int) == 1&&(sIx items.size items.size hi - sIx items.size 0 lo) == items.size)=true then _ else _) _ _ s
  rw[if_neg hno,zk7]
  first
    | exact wpAny_bind (m:=Builtin.Tuple.tupleExact _) (wpAny_newObj_type (wpAny_pure ⟨_,rfl,wpAny_pure h⟩) htake)
    | exact wpAny_bind (m:=Builtin.Tuple.tupleExact _) (wpAny_newObj_type (wpAny_bind (wpAny_pure (wpAny_pure ⟨_,rfl,wpAny_pure h⟩))) htake)
    | exact wpAny_bind (wpAny_bind (m:=Builtin.Tuple.tupleExact _) (wpAny_newObj_type (wpAny_pure (wpAny_pure ⟨_,rfl,wpAny_pure h⟩)) htake))
    | exact wpAny_bind (wpAny_bind (m:=Builtin.Tuple.tupleExact _) (wpAny_newObj_type (wpAny_pure ⟨_,rfl,wpAny_pure h⟩) htake))
end
end HT
namespace L2
open PySem PySem.Spec PyProof.Rows
abbrev TO:=St→Hp→(Option Int→Hp→Prop)→Prop
def PO (X:Cx) (e:Option Expr) (t:TO):Prop :=
  ∀(pins:List (Addr × Obj)) (s:Shared) (σ:St) (H:Hp) (Q:Option Int→Hp→Prop),Inv X pins σ H s→t σ H Q →
    wpAny (model X.prog X.w) X.A (evalPart e X.env) (fun u s'=>∃ o H',Inv X pins σ H' s'∧IsPart u o∧Q o H') X.xe s
def zlH:TO:=fun _ H Q=>Q none H
def tPart (t:TE):TO:=fun σ H Q=>t σ H fun x H1=>∃ i,x=.int i∧Q (some i) H1
section
variable {X:Cx} {e:Expr} {te:TE} {lo hi:Option Expr} {tl th:TO} {pos p2:Pos}
theorem zb5:PO X none zlH:=by
  intro pins s σ H Q I h
  rw[evalPart_none]
  exact wpAny_pure ⟨none,H,I,.none,h⟩
theorem zb4 (h:PE X e te):PO X (some e) (tPart te):=by
  intro pins s σ H Q I hw
  rw[evalPart_some]
  refine thn (h pins s σ H _ I hw) fun u s1 ⟨x,H1,I1,r1,q1⟩=>?_
  obtain⟨i,rfl,q⟩:=q1
  obtain⟨t,rfl⟩:=r1
  exact⟨some i,H1,I1,.int i t,q⟩
def SlR (X:Cx) (r:V→Option Int→Option Int→Hp→VK→Prop):Prop :=
  ∀(pins:List (Addr × Obj)) (s:Shared) (σ:St) (H:Hp) (x:V) (v vl vu:Value) (lo hi:Option Int) (sl:Addr) (Q:VK),Inv X pins σ H s→aG x v→s.heap.IsSliceOf sl vl vu .none→IsPart vl lo→IsPart vu hi→r x lo hi H Q →
    ∃ T id,typeLookup (.type T) "__getitem__"=pure (some (.builtin id))∧s.TypeIs v T∧wpAny (model X.prog X.w) X.A (getItem v (.ref sl)) (EP X pins σ Q) X.xe s
theorem SlR.or {r r':V→Option Int→Option Int→Hp→VK→Prop} (h:SlR X r) (h':SlR X r'):SlR X (fun x lo hi H Q=>r x lo hi H Q∨r' x lo hi H Q):=by
  intro pins s σ H x v vl vu lo hi sl Q I rx hs pl pu q
  rcases q with q | q
  · exact h pins s σ H x v vl vu lo hi sl Q I rx hs pl pu q
  · exact h' pins s σ H x v vl vu lo hi sl Q I rx hs pl pu q
def tSl (r:V→Option Int→Option Int→Hp→VK→Prop) (te:TE) (tl th:TO):TE:=fun σ H Q=>te σ H fun x H1=>tl σ H1 fun l H2=>th σ H2 fun u H3=>r x l u H3 Q
theorem zbG {r:V→Option Int→Option Int→Hp→VK→Prop} (hr:SlR X r) (he:PE X e te) (hl:PO X lo tl) (hu:PO X hi th):PE X (.Subscript e (.Slice lo hi none p2) pos) (tSl r te tl th):=by
  intro pins s σ H Q I h
  refine Subscript_ (thn (he pins s σ H _ I h) fun v s1 ⟨x,H1,I1,r1,q1⟩=>?_)
  refine wpAny_Slice (thn (hl pins s1 σ H1 _ I1 q1) fun vl s2 ⟨l,H2,I2,pl,q2⟩=>thn (hu pins s2 σ H2 _ I2 q2) fun vu s3 ⟨u,H3,I3,pu,q3⟩=>?_)
  rw[evalPart_none]
  refine wpAny_pure ?_
  have I4:Inv X pins σ H3 { s3 with heap:=s3.heap.push { cls:=.type "slice",data:=.fields #[vl,vu,.none] } }:=I3.kept (t':=s3.toks) fun b ob q=>Heap.get?_push_of_some _ q
  obtain⟨T,id,hT,ht,hg⟩:=hr pins { s3 with heap:=s3.heap.push { cls:=.type "slice",data:=.fields #[vl,vu,.none] } } σ H3 x v vl vu l u s3.heap.objs.size Q I4 r1 (Heap.IsSliceOf.new ..) pl pu q3
  show wpAny (model X.prog X.w) X.A (subscriptTail e (.Slice lo hi none p2) v (.ref s3.heap.objs.size)) (EP X pins σ Q) X.xe { s3 with heap:=s3.heap.push { cls:=.type "slice",data:=.fields #[vl,vu,.none] } }
  exact tail_any (ops:=[.ref s3.heap.objs.size,v]) ht hT hg (by with_unfolding_all rfl)
def zbz (xs:List V) (lo hi:Option Int):List V:=(xs.drop (HT.sIx xs.length 0 lo)).take (HT.sIx xs.length xs.length hi - HT.sIx xs.length 0 lo)
theorem zfl (xs:List V) (lo hi:Option Int):(zbz xs lo hi).length≤xs.length:=by
  unfold zbz
  rw[List.length_take,List.length_drop]
  omega
def rSlT (K:PySem.W.Frag):V→Option Int→Option Int→Hp→VK→Prop:=fun x lo hi H Q=>∃ a xs,x=.ref a∧SqT K H a xs ∧
  ¬(HT.sIx xs.length 0 lo=0∧HT.sIx xs.length xs.length hi=xs.length)∧∀ p,H p=none→Q (.ref p) (upd H p (.tup (zbz xs lo hi)))
theorem zht:SlR X (rSlT X.K):=by
  intro pins s σ H x v vl vu lo hi sl Q I rx hs pl pu h
  obtain⟨a,xs,rfl,hx,hw,q⟩:=h
  cases rx
  obtain⟨its,r,ht,hz⟩:=I.tuple hx
  have hlen:its.toArray.size=xs.length:=by rw[List.size_toArray];exact r.length.symm
  refine⟨"tuple",_,PyProof.Rows.slot_tuple_getitem.lookup,ht.typeIs,?_⟩
  refine HT.getItem_tuple_cut ht hs pl pu (by rw[hlen];exact hw) ?_ (by rw[hlen];exact hz)
  rw[hlen]
  refine⟨.ref s.heap.objs.size,_,I.laid (t':=s.toks) (o:=.tup (zbz xs lo hi)) (fun b ob q=>Heap.get?_push_of_some _ q) (Nat.le_refl _) ?_,rfl,q _ (I.hok.fresh (Nat.le_refl _))⟩
  exact⟨Nat.le_trans (zfl xs lo hi) hz,_,(r.drop (HT.sIx xs.length 0 lo)).take (HT.sIx xs.length xs.length hi - HT.sIx xs.length 0 lo),IsTup.new _ _⟩
end
end L2
namespace L2
open PySem PySem.Spec PyProof.Rows
def ixN (n:Nat) (i:Int):Option Nat:=if 0≤i then(if i < n then some i.toNat else none) else if -(n:Int)≤i then some (i+n).toNat else none
def atI {α:Type} (xs:List α) (i:Int):Option α:=(ixN xs.length i).bind fun j=>xs[j]?
theorem zgx {n:Nat} {i:Int} {j:Nat} (h:ixN n i=some j):seqIndex? i n=some j∧j < n∧-(n:Int)≤i∧i < n:=by
  unfold ixN at h
  by_cases h0:0≤i
  · rw[if_pos h0]at h
    by_cases h1:i < n
    · rw[if_pos h1]at h
      have e:i.toNat=j:=Option.some.inj h
      exact⟨by rw[seqIndex_of h0 h1,e],by omega,by omega,h1⟩
    · rw[if_neg h1]at h;cases h
  · rw[if_neg h0]at h
    by_cases h1:-(n:Int)≤i
    · rw[if_pos h1]at h
      have e:(i+n).toNat=j:=Option.some.inj h
      exact⟨by rw[seqIndex_neg (by omega) h1,e],by omega,h1,by omega⟩
    · rw[if_neg h1]at h;cases h
theorem zei {α:Type} {xs:List α} {i:Int} {v:α} (h:atI xs i=some v):∃ j,seqIndex? i xs.length=some j∧xs[j]?=some v∧j < xs.length∧-(xs.length:Int)≤i∧i < xs.length:=by
  unfold atI at h
  cases e:ixN xs.length i with
  | none=>rw[e]at h;cases h
  | some j =>
    rw[e]at h
    obtain⟨h1,h2,h3,h4⟩:=zgx e
    exact⟨j,h1,h,h2,h3,h4⟩
theorem zah {α:Type} {xs:List α} {j:Nat} {v:α} (h:xs[j]?=some v):atI xs (j:Int)=some v:=by
  have hj:j < xs.length:=(List.getElem?_eq_some_iff.mp h).1
  have e:ixN xs.length (j:Int)=some j:=by
    unfold ixN
    rw[if_pos (by omega),if_pos (by omega)];simp
  unfold atI;rw[e];exact h
theorem zil {α:Type} (xs:List α) (v:α):atI (xs++[v]) (-1)=some v:=by
  have hl:(xs++[v]).length=xs.length+1:=by simp
  have e:ixN (xs++[v]).length (-1)=some xs.length:=by
    unfold ixN
    rw[hl,if_neg (by decide),if_pos (by omega)]
    congr 1
    omega
  unfold atI
  rw[e]
  show(xs++[v])[xs.length]?=some v
  simp
def zmm (b:Expr):Prop:=∀ o i,subscripted b false o i=operate [o,i] (getItem o i)
def IxR (X:Cx) (r:R2):Prop :=
  ∀(value slice:Expr) (pins:List (Addr × Obj)) (s:Shared) (σ:St) (H:Hp) (x y:V) (v u:Value) (Q:VK),Inv X pins σ H s→aG x v→aG y u→r x y H Q →
    subscripted slice false v u=operate [v,u] (getItem v u)→wpAny (model X.prog X.w) X.A (subscriptTail value slice v u) (EP X pins σ Q) X.xe s
def MtR (X:Cx) (id:String) (r:V→List V→Hp→VK→Prop):Prop :=
  ∀(pins:List (Addr × Obj)) (s:Shared) (σ:St) (H:Hp) (x:V) (xs:List V) (v:Value) (us:List Value) (Q:VK),Inv X pins σ H s→aG x v→aD xs us→r x xs H Q →
    wpAny (model X.prog X.w) X.A (call (.builtin id) (v :: us)) (EP X pins σ Q) X.xe s
section
variable {X:Cx} {a b:Expr} {ta tb:TE} {pos:Pos}
theorem IxR.or {r r':R2} (h:IxR X r) (h':IxR X r'):IxR X (fun x y H Q=>r x y H Q∨r' x y H Q):=by
  intro value slice pins s σ H x y v u Q I rx ry q hs
  rcases q with q | q
  · exact h value slice pins s σ H x y v u Q I rx ry q hs
  · exact h' value slice pins s σ H x y v u Q I rx ry q hs
theorem MtR.or {id:String} {r r':V→List V→Hp→VK→Prop} (h:MtR X id r) (h':MtR X id r'):MtR X id (fun x xs H Q=>r x xs H Q∨r' x xs H Q):=by
  intro pins s σ H x xs v us Q I rx rs q
  rcases q with q | q
  · exact h pins s σ H x xs v us Q I rx rs q
  · exact h' pins s σ H x xs v us Q I rx rs q
theorem aF {r:R2} (hr:IxR X r) (ha:PE X a ta) (hb:PE X b tb) (hs:zmm b):PE X (.Subscript a b pos) (tOp r ta tb):=by
  intro pins s σ H Q I h
  exact Subscript_ (binT ha hb I h fun v u s2 x y H2 I2 rx ry q=>hr a b pins s2 σ H2 x y v u Q I2 rx ry q (hs _ _))
def rIxL (K:PySem.W.Frag):R2:=fun x y H Q=>∃ p xs i v,x=.ref p∧y=.int i∧SqL K H p xs∧atI xs i=some v∧Q v H
def rIxT (K:PySem.W.Frag):R2:=fun x y H Q=>∃ p xs i v,x=.ref p∧y=.int i∧SqT K H p xs∧atI xs i=some v∧Q v H
def rIxS:R2:=fun x y H Q=>∃ z i c,x=.str z∧y=.int i∧z.length≤sizeLine∧atI z.cps.toList i=some c∧Q (.str ⟨#[c]⟩) H
theorem zaN:IxR X (rIxL X.K):=by
  intro value slice pins s σ H x y v u Q I rx ry h hs
  obtain⟨p,xs,i,z,rfl,rfl,hq,he,q⟩:=h
  cases rx
  obtain⟨t,rfl⟩:=ry
  obtain⟨its,r,pl,hz⟩:=I.list hq
  obtain⟨j,h1,h2,h3,h4,h5⟩:=zei he
  obtain⟨w,ew,rw'⟩:=r.get h2
  have hl:=r.length
  have hn:=zed
  have fin:EP X pins σ Q w s:=⟨z,H,I,rw',q⟩
  by_cases h0:0≤i
  · have hj:i.toNat=j:=by
      rw[seqIndex_of h0 h5]at h1
      exact Option.some.inj h1
    exact item_listR pl.isList h0 (by omega) (by rw[hj];simpa using ew) fin hs
  · have hj:(i+(its.toArray.size:Int)).toNat=j:=by
      rw[seqIndex_neg (by omega) h4]at h1
      rw[List.size_toArray,←hl]
      exact Option.some.inj h1
    exact subscriptTail_builtinR (x:=w) pl.isList.typeIs slot_list_getitem.lookup
      (wpAny_getItem_list_neg (Q:=fun r s'=>r=w∧EP X pins σ Q r s') pl.isList (by omega) (by rw[List.size_toArray] <;> omega) (by omega) (by rw[hj];simpa using ew) ⟨rfl,fin⟩) hs
theorem zat:IxR X (rIxT X.K):=by
  intro value slice pins s σ H x y v u Q I rx ry h hs
  obtain⟨p,xs,i,z,rfl,rfl,hq,he,q⟩:=h
  cases rx
  obtain⟨t,rfl⟩:=ry
  obtain⟨its,r,pl,hz⟩:=I.tuple hq
  obtain⟨j,h1,h2,h3,h4,h5⟩:=zei he
  obtain⟨w,ew,rw'⟩:=r.get h2
  have hl:=r.length
  have hn:=zed
  have fin:EP X pins σ Q w s:=⟨z,H,I,rw',q⟩
  exact subscriptTail_builtinR (x:=w) pl.typeIs slot_tuple_getitem.lookup
    (getItem_tuple (j:=j) (Q:=fun r s'=>r=w∧EP X pins σ Q r s') pl (by omega) (by omega) (by rw[List.size_toArray,←hl];exact h1) (by simpa using ew) ⟨rfl,fin⟩) hs
theorem zkd:IxR X rIxS:=by
  intro value slice pins s σ H x y v u Q I rx ry h hs
  obtain⟨z,i,c,rfl,rfl,hz,he,q⟩:=h
  obtain⟨t,rfl⟩:=rx
  obtain⟨t',rfl⟩:=ry
  obtain⟨j,h1,h2,h3,h4,h5⟩:=zei he
  have hl:z.cps.toList.length=z.length:=by simp [Str.length]
  rw[hl]at h1 h4 h5
  have hn:=zed
  exact tail_any (typeIs_str s z t) slot_str_getitem.lookup (getItem_str (c:=c) (by
    have e1:decide (i < -(2 ^ 63:Int))=false:=decide_eq_false (by omega)
    have e2:decide (i≥2 ^ 63)=false:=decide_eq_false (by omega)
    rw[e1,e2,Bool.or_false]) (by rw[h1];simpa using h2) ⟨.str ⟨#[c]⟩,H,I.tok _,⟨_,rfl⟩,q⟩) hs
theorem zjD (its:List Value) (n j:Nat) (u:Value):Obj.mapSeq (·.setIfInBounds j u) { cls:=.type "list",data:=.seq its.toArray n }={ cls:=.type "list",data:=.seq (its.set j u).toArray n }:=by
  simp [Obj.mapSeq]
theorem Inv.lst {pins:List (Addr × Obj)} {σ:St} {H:Hp} {s:Shared} {p:Addr} {xs:List V} (I:Inv X pins σ H s) (h:H p=some (.lst xs)) :
    ∃(its:List Value) (n:Nat),aD xs its∧s.heap.get? p=some { cls:=.type "list",data:=.seq its.toArray n }∧xs.length≤sizeLine:=by
  obtain⟨z,its,n,r,e⟩:=I.hok p _ h
  exact⟨its,n,r,e,z⟩
theorem Inv.lstUpd {pins:List (Addr × Obj)} {σ:St} {H:Hp} {s:Shared} {p:Addr} {xs ys:List V} {its its':List Value} {n n':Nat} {f:Obj→Obj} (I:Inv X pins σ H s) (h:H p=some (.lst xs))
    (ho:s.heap.get? p=some { cls:=.type "list",data:=.seq its.toArray n }) (hf:f { cls:=.type "list",data:=.seq its.toArray n }={ cls:=.type "list",data:=.seq its'.toArray n' }) (r:aD ys its') (hz:ys.length≤sizeLine) (t:Nat) :
    Inv X pins σ (upd H p (.lst ys)) { s with heap:=s.heap.update p f,toks:=t }:=by
  have e:(s.heap.update p f).get? p=some { cls:=.type "list",data:=.seq its'.toArray n' }:=by
    rw[Heap.get?_update_self f ho (by rw[hf] <;> rfl),hf]
  refine I.write (x:=p) (e:=p) (by rw[h];trivial) (.inl rfl) (fun b u hb q=>(Heap.get?_update_other _ _ (Ne.symm hb)).trans q) ⟨_,e⟩ ?_
  exact⟨hz,its',n',r,e⟩
def rSetL:V→V→V→Hp→(Hp→Prop)→Prop:=fun o i v H Q=>∃ p xs k j,o=.ref p∧i=.int k∧H p=some (.lst xs)∧ixN xs.length k=some j∧Q (upd H p (.lst (xs.set j v)))
theorem zhZ:PSet X rSetL:=by
  intro pins s σ H o i v ov iv u Q I ro ri rv h
  obtain⟨p,xs,k,j,rfl,rfl,hp,hj,q⟩:=h
  cases ro
  obtain⟨t,rfl⟩:=ri
  obtain⟨its,n,r,ho,hz⟩:=I.lst hp
  obtain⟨h1,h2,h3,h4⟩:=zgx hj
  have hl:=r.length
  have hn:=zed
  have I':Inv X pins σ (upd H p (.lst (xs.set j v))) { s with heap:=s.heap.update p (Obj.mapSeq (·.setIfInBounds j u)) } :=
    I.lstUpd hp ho (zjD its n j u) (r.set rv j) (by rw[List.length_set];exact hz) s.toks
  by_cases h0:0≤k
  · have hk:k.toNat=j:=by
      rw[seqIndex_of h0 h4]at h1
      exact Option.some.inj h1
    exact PySem.W.ki_setAt ho h0 (by omega) (by rw[List.size_toArray,←hl];exact h4) (by rw[hk];exact⟨_,I',q⟩)
  · have hk:(k+(its.toArray.size:Int)).toNat=j:=by
      rw[seqIndex_neg (by omega) h3]at h1
      rw[List.size_toArray,←hl]
      exact Option.some.inj h1
    exact PySem.W.ki_setBack ho (by omega) (by rw[List.size_toArray,←hl];exact h3) (by omega) (by rw[hk];exact⟨_,I',q⟩)
theorem zis (lo hi:Option Int) (n:Nat):(sliceBounds lo hi none n).1=((HT.sIx n 0 lo:Nat):Int)∧(sliceBounds lo hi none n).2.1=((HT.sIx n n hi:Nat):Int)∧(sliceBounds lo hi none n).2.2=1:=by
  refine⟨?_,?_,rfl⟩
  · cases lo with
    | none=>simp [sliceBounds,HT.sIx]
    | some i =>
      simp only[sliceBounds,HT.sIx,Option.getD_none,show(1:Int) > 0 by decide,if_true]
      by_cases h:i < 0
      · simp only[h,if_true] <;> omega
      · simp only[h,if_false] <;> omega
  · cases hi with
    | none=>simp [sliceBounds,HT.sIx]
    | some i =>
      simp only[sliceBounds,HT.sIx,Option.getD_none,show(1:Int) > 0 by decide,if_true]
      by_cases h:i < 0
      · simp only[h,if_true] <;> omega
      · simp only[h,if_false] <;> omega
theorem zhk (its:List Value) (lo hi:Option Int):slicePick its.toArray lo hi none=((its.drop (HT.sIx its.length 0 lo)).take (HT.sIx its.length its.length hi - HT.sIx its.length 0 lo)).toArray:=by
  obtain⟨h1,h2,h3⟩:=zis lo hi its.toArray.size
  unfold slicePick
  rw[h1,h2,h3]
  simp only[sliceRange_one,pick_run,List.size_toArray] <;> rfl
def rSlL (K:PySem.W.Frag):V→Option Int→Option Int→Hp→VK→Prop:=fun x lo hi H Q=>∃ a xs,x=.ref a∧SqL K H a xs∧∀ p,H p=none→Q (.ref p) (upd H p (.lst (zbz xs lo hi)))
theorem zee:SlR X (rSlL X.K):=by
  intro pins s σ H x v vl vu lo hi sl Q I rx hs pl pu h
  obtain⟨a,xs,rfl,hx,q⟩:=h
  cases rx
  obtain⟨its,r,ht,hz⟩:=I.list hx
  have hlen:=r.length
  refine⟨"list",_,slot_list_getitem.lookup,ht.isList.typeIs,?_⟩
  refine wpAny_getItem_list_slice ht.isList hs pl pu .none (by simp) ?_ (by rw[List.size_toArray] <;> omega)
  rw[zhk,←hlen]
  refine⟨.ref s.heap.objs.size,_,I.laid (t':=s.toks) (o:=.lst (zbz xs lo hi)) (fun b ob q=>Heap.get?_push_of_some _ q) (Nat.le_refl _) ?_,rfl,q _ (I.hok.fresh (Nat.le_refl _))⟩
  exact⟨Nat.le_trans (zfl xs lo hi) hz,_,0,(r.drop (HT.sIx xs.length 0 lo)).take (HT.sIx xs.length xs.length hi - HT.sIx xs.length 0 lo),Heap.get?_push_size _ rfl⟩
def zcw:V→Bool
  | .non=>true
  | .bl _=>true
  | .int _=>true
  | .str _=>true
  | _=>false
def eqV:V→V→Bool
  | .non,.non=>true
  | .bl a,.bl b=>a == b
  | .bl a,.int b=>(if a then 1 else 0) == b
  | .int a,.bl b=>a == (if b then 1 else 0)
  | .int a,.int b=>a == b
  | .str a,.str b=>a == b
  | _,_=>false
theorem zeO {A:Around} {s:Shared} {y x:V} {u v:Value} (ry:aG y u) (rx:aG x v) (fy:zcw y=true) (fx:zcw x=true):SeqAt.EqAt A s u v (eqV y x):=by
  cases y with
  | non =>
    cases ry
    cases x with
    | non=>cases rx;exact SeqAt.EqAt.same _
    | bl b=>cases rx;exact SeqAt.EqAt.none_bool b
    | int b=>obtain⟨t,rfl⟩:=rx;exact SeqAt.EqAt.none_int b t
    | str b=>obtain⟨t,rfl⟩:=rx;exact SeqAt.EqAt.none_str b t
    | _=>exact absurd (show false=true from fx) Bool.false_ne_true
  | bl a =>
    cases ry
    cases x with
    | non=>cases rx;exact SeqAt.EqAt.bool_none a
    | bl b=>cases rx;exact SeqAt.EqAt.bool_bool a b
    | int b=>obtain⟨t,rfl⟩:=rx;exact SeqAt.EqAt.bool_int a b t
    | str b=>obtain⟨t,rfl⟩:=rx;exact SeqAt.EqAt.bool_str a b t
    | _=>exact absurd (show false=true from fx) Bool.false_ne_true
  | int a =>
    obtain⟨t',rfl⟩:=ry
    cases x with
    | non=>cases rx;exact SeqAt.EqAt.int_none a t'
    | bl b=>cases rx;exact SeqAt.EqAt.int_bool a t' b
    | int b=>obtain⟨t,rfl⟩:=rx;exact SeqAt.EqAt.int_int a t' b t
    | str b=>obtain⟨t,rfl⟩:=rx;exact SeqAt.EqAt.int_str a t' b t
    | _=>exact absurd (show false=true from fx) Bool.false_ne_true
  | str a =>
    obtain⟨t',rfl⟩:=ry
    cases x with
    | non=>cases rx;exact SeqAt.EqAt.str_none a t'
    | bl b=>cases rx;exact SeqAt.EqAt.str_bool a t' b
    | int b=>obtain⟨t,rfl⟩:=rx;exact SeqAt.EqAt.str_int a t' b t
    | str b=>obtain⟨t,rfl⟩:=rx;exact SeqAt.EqAt.str_str a t' b t
    | _=>exact absurd (show false=true from fx) Bool.false_ne_true
  | _=>exact absurd (show false=true from fy) Bool.false_ne_true
def eqU (x:V) (u:Value):Bool:=match u with
  | .none=>eqV .non x
  | .bool b=>eqV (.bl b) x
  | .int i _=>eqV (.int i) x
  | .str z _=>eqV (.str z) x
  | _=>false
theorem zki {x y:V} {u:Value} (r:aG y u) (f:zcw y=true):eqU x u=eqV y x:=by
  cases y with
  | non=>cases r;rfl
  | bl b=>cases r;rfl
  | int i=>obtain⟨t,rfl⟩:=r;rfl
  | str z=>obtain⟨t,rfl⟩:=r;rfl
  | _=>exact absurd (show false=true from f) Bool.false_ne_true
theorem zej {x:V}:∀ {xs:List V} {us:List Value},aD xs us→xs.all zcw=true→us.any (eqU x)=xs.any fun y=>eqV y x
  | _,_,.nil,_=>rfl
  | y :: xs,u :: us,.cons r t,f=>by
    rw[List.all_cons,Bool.and_eq_true]at f
    rw[List.any_cons,List.any_cons,zki r f.1,zej t f.2]
theorem zdL {A:Around} {s:Shared} {x:V} {v:Value} (rx:aG x v) (fx:zcw x=true):∀ {xs:List V} {us:List Value},aD xs us→xs.all zcw=true→∀ u∈us,SeqAt.EqAt A s u v (eqU x u)
  | _,_,.nil,_=>fun u hu=>by cases hu
  | y :: xs,u :: us,.cons r t,f=>fun u' hu=>by
    rw[List.all_cons,Bool.and_eq_true]at f
    rcases List.mem_cons.mp hu with rfl | hu
    · rw[zki r f.1];exact zeO r rx f.1 fx
    · exact zdL rx fx t f.2 u' hu
def inV (x:V) (xs:List V):Bool:=xs.any fun y=>eqV y x
def rIn (K:PySem.W.Frag) (neg:Bool):R2:=fun x y H Q=>∃ p xs,y=.ref p∧(SqL K H p xs∨SqT K H p xs)∧zcw x=true∧xs.all zcw=true∧Q (.bl (if neg then !inV x xs else inV x xs)) H
theorem zeY:OpR X (compareOp .In) (rIn X.K false):=by
  intro pins s σ H x y v u Q I rx ry h
  obtain⟨p,xs,rfl,hq,fx,fs,q⟩:=h
  cases ry
  rcases hq with hq | hq
  · obtain⟨its,r,pl,hz⟩:=I.list hq
    refine SeqAt.in_listAt (eqU x) pl.isList (fun w hw=>zdL rx fx r fs w (by simpa using hw)) ⟨.bl _,H,I,rfl,?_⟩
    rw[show its.toArray.any (eqU x)=its.any (eqU x) by simp,zej r fs]
    exact q
  · obtain⟨its,r,pl,hz⟩:=I.tuple hq
    refine SeqAt.in_tupleAt (eqU x) pl (fun w hw=>zdL rx fx r fs w (by simpa using hw)) ⟨.bl _,H,I,rfl,?_⟩
    rw[show its.toArray.any (eqU x)=its.any (eqU x) by simp,zej r fs]
    exact q
theorem ziu:OpR X (compareOp .NotIn) (rIn X.K true):=by
  intro pins s σ H x y v u Q I rx ry h
  obtain⟨p,xs,rfl,hq,fx,fs,q⟩:=h
  cases ry
  rcases hq with hq | hq
  · obtain⟨its,r,pl,hz⟩:=I.list hq
    refine SeqAt.notIn_listAt (eqU x) pl.isList (fun w hw=>zdL rx fx r fs w (by simpa using hw)) ⟨.bl _,H,I,rfl,?_⟩
    rw[show its.toArray.any (eqU x)=its.any (eqU x) by simp,zej r fs]
    exact q
  · obtain⟨its,r,pl,hz⟩:=I.tuple hq
    refine SeqAt.notIn_tupleAt (eqU x) pl (fun w hw=>zdL rx fx r fs w (by simpa using hw)) ⟨.bl _,H,I,rfl,?_⟩
    rw[show its.toArray.any (eqU x)=its.any (eqU x) by simp,zej r fs]
    exact q
theorem zan:zbI X (.builtin "len") (fun xs H Q=>∃ p ys,xs=[.ref p]∧(SqL X.K H p ys∨SqT X.K H p ys)∧Q (.int ys.length) H):=by
  intro pins s σ H xs us Q I r h
  obtain⟨p,ys,rfl,hq,q⟩:=h
  obtain⟨u,rfl,rx⟩:=zda r
  cases rx
  have hn:=zed
  rcases hq with hq | hq
  · obtain⟨its,r',pl,hz⟩:=I.list hq
    have hlen:=r'.length
    exact Calls.call_len_list pl.isList (by simp only[List.size_toArray] <;> omega) ⟨.int ys.length,H,I.tok _,⟨s.toks+1,by rw[List.size_toArray,hlen]⟩,q⟩
  · obtain⟨its,r',pl,hz⟩:=I.tuple hq
    have hlen:=r'.length
    exact len_tuple pl (by simp only[List.size_toArray] <;> omega) ⟨.int ys.length,H,I.tok _,⟨s.toks+1,by rw[List.size_toArray,hlen]⟩,q⟩
theorem zdR:zbI X (.builtin "len") (fun xs H Q=>∃ z,xs=[.str z]∧z.length≤sizeLine∧Q (.int z.length) H):=by
  intro pins s σ H xs us Q I r h
  obtain⟨z,rfl,hz,q⟩:=h
  obtain⟨u,rfl,t,rfl⟩:=zda r
  have hn:=zed
  exact len_str (by omega) ⟨.int z.length,H,I.tok _,⟨_,rfl⟩,q⟩
theorem zbI.or {f:Value} {r r':List V→Hp→VK→Prop} (h:zbI X f r) (h':zbI X f r'):zbI X f (fun xs H Q=>r xs H Q∨r' xs H Q):=by
  intro pins s σ H xs us Q I rs q
  rcases q with q | q
  · exact h pins s σ H xs us Q I rs q
  · exact h' pins s σ H xs us Q I rs q
theorem zdQ:zbI X (.type "list") (fun xs H Q=>∃ p ys,xs=[.ref p]∧(SqL X.K H p ys∨SqT X.K H p ys)∧∀ l,H l=none→Q (.ref l) (upd H l (.lst ys))):=by
  intro pins s σ H xs us Q I r h
  obtain⟨p,ys,rfl,hq,q⟩:=h
  obtain⟨u,rfl,rx⟩:=zda r
  cases rx
  have fin:∀(its:List Value),aD ys its→ys.length≤sizeLine→∀(h':Heap) (c':Nat),(∀ b o',s.heap.get? b=some o'→h'.get? b=some o') →
      h'.get? s.heap.objs.size=some { cls:=.type "list",dict:=none,data:=.seq its.toArray c',slots:=#[] }→EP X pins σ Q (.ref s.heap.objs.size) { s with heap:=h' }:=fun its r' hz h' c' kp e =>
    ⟨.ref s.heap.objs.size,_,I.laid (t':=s.toks) kp (Nat.le_refl _) (show zaT X.prog X.w _ h' _ (.lst ys) from⟨hz,its,c',r',e⟩),rfl,q _ (I.hok.fresh (Nat.le_refl _))⟩
  rcases hq with hq | hq
  · obtain⟨its,r',pl,hz⟩:=I.list hq
    have hlen:=r'.length
    obtain⟨o,ho,hc,n,hd⟩:=pl.isList
    exact call_list_seq p (.inl rfl) ho hc hd (fun h' c' kp e=>fin its r' hz h' c' kp e) (by simp only[List.size_toArray] <;> omega)
  · obtain⟨its,r',pl,hz⟩:=I.tuple hq
    have hlen:=r'.length
    obtain⟨o,ho,hc,n,hd⟩:=pl
    exact call_list_seq p (.inr rfl) ho hc hd (fun h' c' kp e=>fin its r' hz h' c' kp e) (by simp only[List.size_toArray] <;> omega)
theorem zcy:zbI X (.type "tuple") (fun xs H Q=>∃ p ys,xs=[.ref p]∧((SqL X.K H p ys∧∀ l,H l=none→Q (.ref l) (upd H l (.tup ys)))∨(SqT X.K H p ys∧Q (.ref p) H))):=by
  intro pins s σ H xs us Q I r h
  obtain⟨p,ys,rfl,h⟩:=h
  obtain⟨u,rfl,rx⟩:=zda r
  cases rx
  rcases h with ⟨hq,q⟩ | ⟨hq,q⟩
  · obtain⟨its,r',pl,hz⟩:=I.list hq
    have hlen:=r'.length
    refine call_tuple_list pl.isList (fun h' kp=>?_) (by simp only[List.size_toArray] <;> omega)
    have I1:Inv X pins σ H { s with heap:=h' }:=I.kept (t':=s.toks) kp
    have I2:Inv X pins σ (upd H h'.objs.size (.tup ys)) { s with heap:=h'.push { cls:=.type "tuple",data:=.seq its.toArray } } :=
      I1.laid (t':=s.toks) (fun b o e=>Heap.get?_push_of_some _ e) (Nat.le_refl _) (show zaT X.prog X.w _ _ _ (.tup ys) from⟨hz,its,r',IsTup.new _ _⟩)
    exact⟨.ref h'.objs.size,_,I2,rfl,q _ (I1.hok.fresh (Nat.le_refl _))⟩
  · obtain⟨its,r',pl,hz⟩:=I.tuple hq
    exact call_tuple_same pl ⟨.ref p,H,I,rfl,q⟩
def tyV (K:PySem.W.Frag) (T:String) (x:V) (H:Hp):Prop:=match x with
  | .str _=>T="str"
  | .int _=>T="int"
  | .ref p=>(T="list"∧∃ xs,SqL K H p xs)∨(T="tuple"∧∃ o,K.lookup p=some o∧o.cls=.type "tuple"∧o.dict=none) ∨
      (T="dict"∧((∃ kvs,H p=some (.dK kvs))∨∃ kvs,H p=some (.dT kvs)))∨(T="set"∧∃ S n,H p=some (.set S n))
  | _=>False
theorem tyV_is {pins:List (Addr × Obj)} {σ:St} {H:Hp} {s:Shared} {T:String} {x:V} {v:Value} (I:Inv X pins σ H s) (r:aG x v) (ty:tyV X.K T x H) :
    s.TypeIs v T∧∀ a,v=.ref a→∃ ob,s.heap.get? a=some ob∧ob.dict=none:=by
  cases x with
  | str z =>
    obtain⟨t,rfl⟩:=r
    cases (show T="str" from ty)
    exact⟨typeIs_str s z t,fun _ e=>nomatch e⟩
  | int i =>
    obtain⟨t,rfl⟩:=r
    cases (show T="int" from ty)
    exact⟨typeIs_int s i t,fun _ e=>nomatch e⟩
  | ref p =>
    cases r
    rcases ty with ⟨rfl,xs,hq⟩ | ⟨rfl,o,hk,hc,hd⟩ | ⟨rfl,hk⟩ | ⟨rfl,S,n,hk⟩
    · obtain⟨its,_,pl,_⟩:=I.list hq
      refine⟨pl.isList.typeIs,fun a e=>?_⟩
      cases e
      obtain⟨o,n,e,c,hd,_⟩:=pl
      exact⟨o,e,hd⟩
    · refine⟨⟨o,I.kIn p o hk,hc⟩,fun a e=>?_⟩
      cases e
      exact⟨o,I.kIn _ o hk,hd⟩
    · have z:∃ o,s.heap.get? p=some o∧o.ExactDict:=by
        rcases hk with ⟨kvs,hk⟩ | ⟨kvs,hk⟩
        · obtain⟨_,_,_,_,o,_,_,e,ex,_⟩:=I.hok p _ hk
          exact⟨o,e,ex⟩
        · obtain⟨_,_,_,_,o,_,_,e,ex,_⟩:=I.hok p _ hk
          exact⟨o,e,ex⟩
      obtain⟨o,e,ex⟩:=z
      refine⟨⟨o,e,ex.1⟩,fun a e2=>?_⟩
      cases e2
      exact⟨o,e,ex.2.1⟩
    · obtain⟨o,_,_,_,e,ex,_⟩:=I.hok p _ hk
      refine⟨⟨o,e,ex.1⟩,fun a e2=>?_⟩
      cases e2
      exact⟨o,e,ex.2.1⟩
  | _=>exact False.elim ty
def tBM (K:PySem.W.Frag) (T:String) (r:V→List V→Hp→VK→Prop) (to:TE) (t:TA):TE:=fun σ H Q=>to σ H fun x H1=>tyV K T x H1∧t σ H1 fun xs H2=>r x xs H2 Q
variable {o e:Expr} {es:List Expr} {to:TE} {t:TA} {name:Str} {apos cpos:Pos} {T id:String} {r:V→List V→Hp→VK→Prop}
theorem zbB (pa:PlainAttrs T) (slot:Slot T name id) (hty:typeOf (.builtin id)=pure (.type "method_descriptor")) (hm:MtR X id r) (ho:PE X o to) (ha:PA X (e :: es) t)
    (hbase:attributeBase o name X.env (eval o X.env)=eval o X.env:=by rfl)
    (hfew:((backTo cpos (starEach (e :: es) X.env)).all (fun x=>!x.1)&&(backToKw cpos (keywordEach [] X.env)).all (fun x=>x.1.isSome)
      && decide ((e :: es).length+([]:List Keyword).length+(if([]:List Keyword).isEmpty then 0 else 1) < 30))=true:=by rfl)
    (hline:(apos.endLine == cpos.line)=true:=by rfl) (hs:starEach (e :: es) X.env=(false,eval e X.env) :: starEach es X.env:=by rfl) (hplain:(backTo cpos (starEach es X.env)).any (·.1)=false:=by rfl) :
    PE X (.Call (.Attribute o name apos) (e :: es) [] cpos) (tBM X.K T r to t):=by
  intro pins s σ H Q I h
  refine wpAny_Call_method_late hbase hfew hline rfl (thn (ho pins s σ H _ I h) fun v s1 ⟨x,H1,I1,r1,ty,q1⟩=>?_)
  obtain⟨h1,h2⟩:=tyV_is I1 r1 ty
  refine⟨T,id,pa,slot,hty,h1,h2,?_⟩
  have hA:=ha cpos pins s1 σ H1 _ I1 q1
  rw[hs]at hA ⊢
  refine Calls.callWith_builtin (by show(false||(backTo cpos (starEach es X.env)).any (·.1))=false;rw[hplain] <;> rfl) (Calls.evalArgs_plain ?_)
  exact thn hA fun us s2 ⟨vs,H2,I2,r2,q2⟩=>hm pins s2 σ H2 x vs v us Q I2 r1 r2 q2
end
end L2
namespace L2
open PySem PySem.Spec PyProof.Rows
def MtM (X:Cx) (id:String) (r:V→List V→Hp→VK→Prop):Prop :=
  ∀(pins:List (Addr × Obj)) (s:Shared) (σ:St) (H:Hp) (x:V) (xs:List V) (v:Value) (us:List Value) (Q:VK),Inv X pins σ H s→aG x v→aD xs us→r x xs H Q →
    wpAny (model X.prog X.w) X.A (call (.builtin id) (v :: us)) (EP X pins σ Q) X.xe s
theorem aD.one:∀ {x:V} {us:List Value},aD [x] us→∃ u,us=[u]∧aG x u
  | _,_,.cons r .nil=>⟨_,rfl,r⟩
theorem aD.two:∀ {x y:V} {us:List Value},aD [x,y] us→∃ u v,us=[u,v]∧aG x u∧aG y v
  | _,_,_,.cons r (.cons q .nil)=>⟨_,_,rfl,r,q⟩
theorem aD.rep {xs:List V} {us:List Value} (h:aD xs us):∀ k:Nat,aD (List.replicate k xs).flatten (List.replicate k us).flatten
  | 0=>.nil
  | k+1=>by
    rw[List.replicate_succ,List.replicate_succ,List.flatten_cons,List.flatten_cons]
    exact aD.append h (aD.rep h k)
theorem zhb (its:List Value):∀(k:Nat) (acc:List Value),
    List.foldl (fun x1 x2=>x1++x2) acc.toArray (List.replicate k its.toArray)=(acc++(List.replicate k its).flatten).toArray
  | 0,acc=>by simp
  | k+1,acc=>by
    have e:acc.toArray++its.toArray=(acc++its).toArray:=by simp
    have e2:(acc++its)++(List.replicate k its).flatten=acc++(List.replicate (k+1) its).flatten:=by
      rw[List.replicate_succ,List.flatten_cons,List.append_assoc]
    rw[←e2,←zhb its k (acc++its),←e,List.replicate_succ,List.foldl_cons]
section
variable {X:Cx} {pins:List (Addr × Obj)} {σ:St} {H:Hp} {s:Shared} {l b:Addr} {xs ys zs:List V}
theorem Inv.lset {its its':List Value} {n:Nat} {f:Array Value→Array Value} {t':Nat} (I:Inv X pins σ H s) (hH:H l=some (.lst xs))
    (e:s.heap.get? l=some { cls:=.type "list",data:=.seq its.toArray n }) (hf:f its.toArray=its'.toArray) (hv:aD ys its') (hz:ys.length≤sizeLine) :
    Inv X pins σ (upd H l (.lst ys)) { s with heap:=s.heap.update l (Obj.mapSeq f),toks:=t' }:=by
  have q:=PySem.IsL.update e f
  rw[hf]at q
  refine I.write (x:=l) (e:=l) (by rw[hH];exact trivial) (.inl rfl) (fun b' u hb hu=>(Heap.get?_update_other s.heap (Obj.mapSeq f) (Ne.symm hb)).trans hu) ⟨_,q⟩ ?_
  exact⟨hz,its',_,hv,q⟩
theorem Inv.lnew {its:List Value} {t':Nat} (I:Inv X pins σ H s) (hv:aD ys its) (hz:ys.length≤sizeLine) :
    Inv X pins σ (upd H s.heap.objs.size (.lst ys)) { s with heap:=s.heap.push { cls:=.type "list",data:=.seq its.toArray },toks:=t' } :=
  I.laid (fun _ _ q=>Heap.get?_push_of_some _ q) (Nat.le_refl _) ⟨hz,its,0,hv,Heap.get?_push_size _ rfl⟩
theorem Inv.fresh (I:Inv X pins σ H s):H s.heap.objs.size=none:=I.hok.fresh (Nat.le_refl _)
theorem Inv.lstM (I:Inv X pins σ H s) (hH:H l=some (.lst xs)):xs.length≤sizeLine∧∃(its:List Value) (n:Nat),aD xs its∧xs.length=its.length∧s.heap.get? l=some { cls:=.type "list",data:=.seq its.toArray n }:=by
  obtain⟨z,its,n,r,e⟩:=I.hok l _ hH
  exact⟨z,its,n,r,r.length,e⟩
theorem zh7 {n:Nat} (h:n≤sizeLine):Builtin.List.listTooLong n=false:=by
  unfold Builtin.List.listTooLong
  exact decide_eq_false (by omega)
end
section
variable {X:Cx}
def zlP:V→List V→Hp→VK→Prop:=fun x vs H Q=>∃ l xs y,x=.ref l∧vs=[y]∧H l=some (.lst xs)∧xs.length < sizeLine∧Q .non (upd H l (.lst (xs++[y])))
theorem zaS:MtM X "list.append" zlP:=by
  intro pins s σ H x vs v us Q I rx rv h
  obtain⟨l,xs,y,rfl,rfl,hH,hz,q⟩:=h
  cases rx
  obtain⟨u,rfl,ru⟩:=rv.one
  obtain⟨z,its,n,r,hl,e⟩:=I.lstM hH
  refine call_meets F.slot_list_append ⟨_,e,rfl⟩ F.entry_list_append (F.args_list_append_2 _ _) (PySem.list_append l its.toArray n u (by rw[List.size_toArray];omega)) ⟨e,?_⟩
  refine⟨.non,_,I.lset (its':=its++[u]) hH e (by simp) (r.append (.cons ru .nil)) ?_,rfl,q⟩
  rw[List.length_append,List.length_singleton]
  omega
def zlO:V→List V→Hp→VK→Prop:=fun x vs H Q=>∃ l b xs zs,x=.ref l∧vs=[.ref b]∧H l=some (.lst xs)∧H b=some (.lst zs)∧xs.length+zs.length≤sizeLine∧Q .non (upd H l (.lst (xs++zs)))
theorem zkN:MtM X "list.extend" zlO:=by
  intro pins s σ H x vs v us Q I rx rv h
  obtain⟨l,b,xs,zs,rfl,rfl,hH,hB,hz,q⟩:=h
  cases rx
  obtain⟨u,rfl,ru⟩:=rv.one
  cases ru
  obtain⟨z,its,n,r,hl,e⟩:=I.lstM hH
  obtain⟨z2,its2,n2,r2,hl2,e2⟩:=I.lstM hB
  have hsz:its.toArray.size+its2.toArray.size≤sizeLine:=by rw[List.size_toArray,List.size_toArray];omega
  have hlong:¬(!its.toArray.isEmpty&&Builtin.List.listTooLong (its.toArray.size+its2.toArray.size))=true:=by
    rw[zh7 hsz,Bool.and_false]
    exact Bool.false_ne_true
  refine call_meets F.slot_list_extend ⟨_,e,rfl⟩ F.entry_list_extend (F.args_list_extend_2 _ _)
    (AutoSeq1.list_extend_list_list_0 l its.toArray n b its2.toArray n2 hlong (by rw[List.size_toArray];omega) (by omega)) ⟨e,e2,?_⟩
  refine⟨.non,_,I.lset (its':=its++its2) hH e (by simp) (r.append r2) ?_,rfl,q⟩
  rw[List.length_append]
  omega
def rCat:R2:=fun x y H Q=>∃ l b xs zs,x=.ref l∧y=.ref b∧H l=some (.lst xs)∧H b=some (.lst zs)∧xs.length+zs.length≤sizeLine∧∀ p,H p=none→Q (.ref p) (upd H p (.lst (xs++zs)))
theorem zcW:OpR X (binaryOp .Add) rCat:=by
  intro pins s σ H x y v u Q I rx ry h
  obtain⟨l,b,xs,zs,rfl,rfl,hH,hB,hz,q⟩:=h
  cases rx
  cases ry
  obtain⟨z,its,n,r,hl,e⟩:=I.lstM hH
  obtain⟨z2,its2,n2,r2,hl2,e2⟩:=I.lstM hB
  refine PySem.P.add_list e e2 ?_ (by rw[List.size_toArray,List.size_toArray];omega)
  have ea:its.toArray++its2.toArray=(its++its2).toArray:=by simp
  rw[ea]
  exact⟨.ref _,_,I.lnew (t':=s.toks) (r.append r2) (by rw[List.length_append];omega),rfl,q _ I.fresh⟩
def rRep:R2:=fun x y H Q=>∃ l k xs,x=.ref l∧y=.int k∧H l=some (.lst xs)∧-(2 ^ 63)≤k∧k < 2 ^ 63∧xs.length * k.toNat≤sizeLine ∧
  ∀ p,H p=none→Q (.ref p) (upd H p (.lst (List.replicate k.toNat xs).flatten))
theorem zi4 {α:Type} (xs:List α) (k:Nat):(List.replicate k xs).flatten.length=k * xs.length:=by
  induction k with
  | zero=>simp
  | succ k ih=>rw[List.replicate_succ,List.flatten_cons,List.length_append,ih,Nat.succ_mul,Nat.add_comm]
theorem op_rep:OpR X (binaryOp .Mult) rRep:=by
  intro pins s σ H x y v u Q I rx ry h
  obtain⟨l,k,xs,rfl,rfl,hH,h1,h2,hz,q⟩:=h
  cases rx
  obtain⟨t,rfl⟩:=ry
  obtain⟨z,its,n,r,hl,e⟩:=I.lstM hH
  have hlen:its.toArray.size * k.toNat≤sizeLine:=by rw[List.size_toArray,←hl];exact hz
  have hcap:¬its.toArray.size * k.toNat > (2 ^ 63 - 1) / 8:=by
    have:(sizeLine:Nat)≤(2 ^ 63 - 1) / 8:=by decide
    omega
  have hfit:¬(!Builtin.List.listFitsIndex k)=true:=by
    rw[fitsIndex_both h1 h2]
    exact Bool.false_ne_true
  have hlong:¬Builtin.List.listTooLong (its.toArray.size * k.toNat)=true:=by
    rw[zh7 hlen]
    exact Bool.false_ne_true
  have hnew:List.foldl (fun x1 x2=>x1++x2) #[] (List.replicate (if its.toArray.isEmpty=true then 0 else k.toNat) its.toArray)=(List.replicate k.toNat its).flatten.toArray:=by
    have f0:∀ m:Nat,List.foldl (fun x1 x2=>x1++x2) #[] (List.replicate m its.toArray)=(List.replicate m its).flatten.toArray:=fun m=>by
      have:=zhb its m []
      rw[List.nil_append]at this
      exact this
    rw[f0]
    cases its with
    | nil=>simp
    | cons a r'=>rw[if_neg (by simp)]
  refine wpAny_binaryOp_repeat_ref (T:="list") (U:="int") (by decide) ⟨_,e,rfl⟩ (fun s'=>typeIs_int s' k t) noFill_list_mul F.fills_int_mul F.slot_int_rmul repeat_list F.slot_int_index.lookup
    (call_meets F.slot_int_rmul (typeIs_int s k t) F.entry_int_rmul (F.args_int_rmul_2 _ _) (int___rmul___int_list k t l its.toArray n)
      ⟨e,rfl,⟨_,e,rfl⟩,call_meets F.slot_list_mul ⟨_,e,rfl⟩ F.entry_list_mul (F.args_list_mul_2 _ _) (AutoListH.list___mul___list_int_3 l its.toArray n k t hfit hcap hlong) ⟨e,?_⟩⟩)
  rw[hnew]
  exact⟨.ref _,_,I.lnew (t':=s.toks) (r.rep k.toNat) (by rw[zi4,Nat.mul_comm];exact hz),rfl,q _ I.fresh⟩
end
section
variable {prog:Program} {w:World} {A:Around} {E:Value→Shared→Prop} {s:Shared}
end
section
variable {X:Cx}
end
end L2
namespace Att
open PySem PySem.W PySem.Calls PyProof.Rows
theorem zf9 {P:Params} {h:Heap}:∀(ns:List Int) (vs:List Value),WellAll P h vs (ns.map WData.int)→IntsAre vs ns:=by
  intro ns
  induction ns with
  | nil =>
    intro vs w
    rw[List.map_nil]at w
    cases w
    exact .nil
  | cons n ns ih =>
    intro vs w
    rw[List.map_cons]at w
    cases w with
    | cons a b =>
      cases a
      exact .cons _ _ (ih _ b)
theorem zkv {l:OpenLaw} {n:Nat} (hn:l.most=some n) {P:Params} {h:Heap} {args:List WData} {vals:List Value}
    (hpre:l.row.toRowW.claim.pre args=true) (hwl:WellAll P h vals args) :
    ∃ a vs ns,vals=[Value.ref a]∧args=[WData.list (ns.map WData.int)]∧h.get? a=some { cls:=.type "list",data:=.seq vs.toArray }∧IntsAre vs ns∧ns.length≤n:=by
  have hsh:WShape.hasAll [] args [.list .int]=true:=(pre_splitW hpre).1
  have hc:l.pre.holds [] { args:=args }=true:=(pre_splitW hpre).2
  obtain⟨d,r,rfl,h1,h2⟩:=hasAllW_cons hsh
  obtain rfl:=hasAllW_nil h2
  obtain⟨xs,rfl,h3⟩:=hasW_list h1
  obtain⟨ns,rfl⟩:=items_int h3
  have hlen:ns.length≤n:=by
    unfold OpenLaw.pre at hc
    have h4:(WTm.not (.lt (.lit (.int (n:Int))) (.len (.arg 0)))).holds [] { args:=[.list (ns.map .int)] }=true:=by
      have h4:=(holds_andW hc).1
      rw[hn]at h4
      exact h4
    have h5:=condW_of h4 (w_not (w_lt w_lit (w_len_list (w_arg rfl))))
    rw[List.length_map]at h5
    refine Nat.le_of_not_lt fun q=>?_
    have q':(n:Int) < ((ns.length:Nat):Int):=by omega
    first
      | (rw[decide_eq_true q']at h5;exact absurd h5 (by decide))
      | (simp at h5;omega)
  cases hwl with
  | cons w1 w2 =>
    cases w2
    cases w1 with
    | list ho hall=>exact⟨_,_,ns,rfl,rfl,ho,zf9 ns _ hall,hlen⟩
theorem zkx (l:OpenLaw) (args:List WData):l.row.toRowW.claim.post args (.bool true) args=true :=
  postW_of (r:=l.row.toRowW) (X:=(true == true))
    (show WShape.has [] (.bool true) .bool=true by first | rfl | decide | simp [WShape.has,WShape.arms,WShape.armsAll])
    (show(WTm.eq .res (.lit (.bool true))).value [] { args:=args,res:=some (.bool true),after:=args }=some (.bool (true == true)) from w_eq_bool (w_res rfl) w_lit) rfl
theorem attach_call {l:OpenLaw} {n:Nat} {q:Program} {loose:List Str} {XP:(Str→Option Value)→Heap→Prop} {YP:World→Heap→Prop} {d:DefRec}
    (hn:l.most=some n) (hdf:d.params.defaults=[])
    (call:∀(w:World) (s₀ s₁:Shared) (mg mb:Str→Option Value) (fa:Addr) (o:Obj) (pm cd doc:Value) (a:Addr) (vs:List Value) (ns:List Int),
      Ground q loose [] XP w s₀ mg mb s₁.heap→YP w s₁.heap →
      s₁.heap.get? fa=some o→o.data=.func (docDef d.name d.params d.body d.scope pm cd doc)→s₁.heap.CodeRec cd d.name→mg d.name=some (.ref fa) →
      s₁.heap.get? a=some { cls:=.type "list",data:=.seq vs.toArray }→IntsAre vs ns→ns.length≤n→s₁.gens=#[] →
      codeAny (model l.prog w) callerA (.call (.ref fa) ⟨[.ref a],[]⟩) (fun r s'=>r=.ok (.ret (.bool true))∧OldK s₁.heap s'.heap∧s'.os=s₁.os∧AllBare s'.gens) s₁) :
    WalkO q loose XP YP l.row.toRowW d [] (fun f vs=>PySem.call f vs):=by
  intro w s₀ s₁ mg mb G Y fa o pm cd doc dV kV ho hd hcd hD hmg hg args vals as hpre hlay hrd hwl hlo
  obtain rfl:dV=.none:=Dflts.none hD hdf
  obtain rfl:kV=.none:=Dflts.noKw hD
  obtain⟨a,vs,ns,rfl,rfl,hobj,hints,hlen⟩:=zkv hn hpre hwl
  refine enter_call (codeAny_mono (call w s₀ s₁ mg mb fa o pm cd doc a vs ns G Y ho (fd_plain hd) hcd hmg hobj hints hlen hg) fun r s' hq=>?_)
  obtain⟨rfl,h2,h3,h4⟩:=hq
  exact⟨.inl ⟨.bool true,.bool true,[],rfl,fun _=>rfl,.bool true,zkx l _,fun _=>⟨List.Pairwise.nil,fun _ hm=>(nomatch hm)⟩⟩,h2,h3,h4⟩
section
variable {prog:Program} {w:World} {A:Around} {E:Value→Shared→Prop} {s:Shared} {K:Frag}
def ledger (h:Heap) (L d:Addr):List (Addr × Obj):=(List.range h.objs.size).filterMap fun a=>if a=L∨a=d then none else(h.get? a).map fun o=>(a,o)
end
end Att
namespace L2
open PySem PySem.Spec PyProof.Rows
theorem zgO:∀ {vs:List Value} {ns:List Int},IntsAre vs ns→aD (ns.map V.int) vs
  | _,_,.nil=>.nil
  | _,_,.cons n t h=>.cons ⟨t,rfl⟩ (zgO h)
def Only (H:Hp):Prop:=∀ b,H b=none∨∃ o xs,H b=some (.frz o (.lst xs))
theorem zlo {P:Program} {w:World} {K:PySem.W.Frag} {mg mb:Str→Option Value} {CX:CXT} {k:Nat} {fa a:Addr} {fd:FuncData} {x:Str} {sp:Sp} {s₁:Shared} {vs:List Value} {ns:List Int}
    (KX:K.In s₁.heap) (hns:s₁.heap.Ns mainGlobals mg) (hb:s₁.heap.Ns builtinsNs mb) (hbb:∀ x:Str,x≠"__name__"→mb x=bootBuiltins x) (hlim:s₁.heap.NoLimit) (hg:s₁.gens=#[])
    (ha:s₁.heap.get? a=some { cls:=.type "list",data:=.seq vs.toArray }) (hi:IntsAre vs ns) (hl:ns.length≤sizeLine) (hr:aE k callerA)
    (F:∀ base:Heap,K.In base→base.Ns mainGlobals mg→FnOk P w K mg base CX k fa fd [x] sp) (hbind:∀(s:Shared) (u:Value),BindsTo s fd ⟨[u],[]⟩ [(x,u)])
    (hsp:∀ H:Hp,Only H→SqL K H a (ns.map V.int)→sp [.ref a] H (fun v _=>v=.bl true) fun _ _ _=>False)
    (hCX:∀ H e s',CX [] H s₁ (fun _ _ _=>False) e s'→False) :
    codeAny (model P w) callerA (.call (.ref fa) ⟨[.ref a],[]⟩) (fun r s'=>r=.ok (.ret (.bool true))∧OldK s₁.heap s'.heap∧s'.os=s₁.os∧AllBare s'.gens) s₁:=by
  have rv:=zgO hi
  have lenV:=hi.length
  have core:∀ H:Hp,Only H→SqL K H a (ns.map V.int)→HOk P w H s₁.heap→(∀ b,H b≠none→b=a)→(H a≠none→K.lookup a=none) →
      codeAny (model P w) callerA (.call (.ref fa) ⟨[.ref a],[]⟩) (fun r s'=>r=.ok (.ret (.bool true))∧OldK s₁.heap s'.heap∧s'.os=s₁.os∧AllBare s'.gens) s₁:=by
    intro H hO hS hok hA hK
    have base_of:∀ {b:Addr} {o:Obj},s₁.heap.get? b=some o→H b=none→(zen s₁.heap H).get? b=some o:=fun e n=>zlp e n
    have noA:∀ {b:Addr} {o:Obj} {es:Array DictEntry} {ep:Nat},s₁.heap.get? b=some o→o.data=.dict es ep→H b=none:=fun {b o es ep} e d=>by
      cases q:H b with
      | none=>rfl
      | some u =>
        have e':b=a:=hA b (by rw[q];simp)
        subst e'
        rw[ha]at e;cases e
        have d':Data.seq vs.toArray _=Data.dict es ep:=d
        cases d'
    have nsK:∀ {b:Addr} {m:Str→Option Value},s₁.heap.Ns b m→(zen s₁.heap H).Ns b m:=fun {b m} ⟨o,es,ep,e,d,r⟩=>⟨o,es,ep,base_of e (noA e d),d,r⟩
    have hKb:K.In (zen s₁.heap H):=fun b o e=>base_of (KX b o e) (by
      cases q:H b with
      | none=>rfl
      | some u =>
        have e':b=a:=hA b (by rw[q];simp)
        subst e'
        rw[hK (by rw[q];simp)]at e;cases e)
    have hM:Mod K mg (zen s₁.heap H):=⟨hKb,nsK hns,⟨mb,nsK hb,hbb⟩,let ⟨mc,h1,h2⟩:=hlim;⟨mc,nsK h1,h2⟩⟩
    have e0:zfr P w K mg (zen s₁.heap H) callerA [] s₁ H:=⟨rfl,hM,fun b o e=>zl8 e,Nat.le_of_eq (zkS _ _),trivial,fun b hb=>absurd (show b∈([]:List Addr) from hb) (by simp),hok,.of_eq hg⟩
    refine codeAny_mono ((F _ hKb (nsK hns)).run callerA [] s₁ H ⟨[.ref a],[]⟩ [.ref a] [.ref a] _ _ hr e0 (hbind s₁ (.ref a)) (.cons rfl .nil) (hsp H hO hS)) fun r s' h=>?_
    cases r with
    | error e=>exact(hCX H e s' h).elim
    | ok fl =>
      cases fl with
      | next=>exact False.elim h
      | brk=>exact False.elim h
      | cont=>exact False.elim h
      | ret u =>
        obtain⟨v,H',os,bare,un,hok',r',q⟩:=h
        have q':v=.bl true:=q
        subst q'
        obtain rfl:u=Value.bool true:=r'
        refine⟨rfl,OldK.of_keep fun b o e=>?_,os,bare⟩
        cases q:H b with
        | none=>exact un.keep b o e q (by intro z;exact absurd (show b∈([]:List Addr) from z) (by simp)) (by simp)
        | some u =>
          rcases hO b with z | ⟨ob,xs,z⟩
          · rw[q]at z;cases z
          · have z2:=un.frzs b ob _ z
            obtain⟨e1,_⟩:=hok b _ z
            obtain⟨e2,_⟩:=hok' b _ z2
            rw[e]at e1;cases e1
            exact e2
  cases hk:K.lookup a with
  | some o =>
    have e:=KX a o hk
    rw[ha]at e
    cases e
    refine core (fun _=>none) (fun _=>.inl rfl) (.inr ⟨_,vs.toArray,_,hk,rfl,rfl,rfl,by rw[List.size_toArray,lenV];exact hl,by simpa using rv⟩) (fun b u z=>by have z':(none:Option HO)=some u:=z;cases z') (fun b z=>absurd rfl z) fun z=>absurd rfl z
  | none =>
    refine core (fun b=>if b=a then some (.frz { cls:=.type "list",data:=.seq vs.toArray } (.lst (ns.map V.int))) else none) (fun b=>?_) (.inl (.inr ⟨{ cls:=.type "list",data:=.seq vs.toArray },if_pos rfl⟩)) (fun b u z=>?_) (fun b z=>?_) fun _=>hk
    · by_cases hb:b=a
      · exact .inr ⟨_,_,if_pos hb⟩
      · exact .inl (if_neg hb)
    · by_cases hb:b=a
      · have z':=(if_pos hb).symm.trans z
        cases z'
        subst hb
        exact⟨ha,by rw[List.length_map];exact hl,vs,_,rv,ha⟩
      · have z':=(if_neg hb).symm.trans z
        cases z'
    · by_cases hb:b=a
      · exact hb
      · exact absurd (if_neg hb) z
end L2
namespace L2
open PySem PySem.Spec PyProof.Rows
abbrev KOf {K:PySem.W.Frag} {h:Heap} (_:K.In h):PySem.W.Frag:=K
theorem walk_of {l:PySem.W.OpenLaw} {n k:Nat} {q:Program} {loose:List Str} {XP:(Str→Option Value)→Heap→Prop} {YP:World→Heap→Prop} {d:DefRec} {K:Params→PySem.W.Frag} {CX:World→CXT} {sp:World→Sp} {x:Str}
    (hn:l.most=some n) (hn2:n≤sizeLine) (hdf:d.params.defaults=[]) (hr:aE k callerA)
    (hY:∀(w:World) (h:Heap),YP w h→(K w.params).In h)
    (F:∀(w:World) (mg:Str→Option Value) (fa:Addr) (h:Heap),(K w.params).In h→h.Ns mainGlobals mg→mg d.name=some (.ref fa) →
      ∃ fd:FuncData,(∀(s:Shared) (u:Value),BindsTo s fd ⟨[u],[]⟩ [(x,u)]) ∧
        ∀ base:Heap,(K w.params).In base→base.Ns mainGlobals mg→FnOk l.prog w (K w.params) mg base (CX w) k fa fd [x] (sp w))
    (hsp:∀(w:World) (H:Hp) (a:Addr) (ns:List Int),ns.length≤n→Only H→SqL (K w.params) H a (ns.map V.int)→sp w [.ref a] H (fun v _=>v=.bl true) fun _ _ _=>False)
    (hCX:∀(w:World) (H:Hp) (s:Shared) (e:Value) (s':Shared),CX w [] H s (fun _ _ _=>False) e s'→False) :
    PySem.W.WalkO q loose XP YP l.row.toRowW d [] (fun f vs=>PySem.call f vs):=by
  refine Att.attach_call hn hdf fun w s₀ s₁ mg mb fa o pm cd doc a vs ns G Y ho hd hcd hmg hobj hints hlen hg=>?_
  have KX:=hY w _ Y
  obtain⟨fd,hb,hF⟩:=F w mg fa _ KX G.T.g hmg
  exact zlo KX G.T.g G.T.b G.T.builtins G.T.nolimit hg hobj hints (Nat.le_trans hlen hn2) hr hF hb (fun H hO hS=>hsp w H a ns hlen hO hS) fun H e s'=>hCX w H s₁ e s'
end L2
namespace L2
open PySem PySem.Spec PyProof.Rows
def zbd (s:Stmt) (j:Nat):Stmt:=match s with
  | .ClassDef _ _ _ body _ _ _ _ _ _ _=>body.getD j (.Pass ⟨0,0,0,0⟩)
  | _=>.Pass ⟨0,0,0,0⟩
def zck (s:Stmt):Arguments:=match s with
  | .FunctionDef _ a _ _ _ _ _ _ _ _=>a
  | _=>{ posonlyargs:=[],args:=[],vararg:=none,kwonlyargs:=[],kw_defaults:=[],kwarg:=none,defaults:=[] }
def zaO (s:Stmt):List Stmt:=match s with
  | .FunctionDef _ _ b _ _ _ _ _ _ _=>b
  | _=>[]
def ao (s:Stmt):Scope:=match s with
  | .FunctionDef _ _ _ _ _ _ sc _ _ _=>sc
  | _=>{ kind:=.function,names:=[],isGenerator:=false,isCoroutine:=false }
abbrev CX0:CXT:=fun _ _ _ _ _ _=>False
abbrev E0:XK:=fun _ _ _=>False
theorem zal {X:Cx}:zbZ CX0 X E0:=fun _ _ _ _ _ _ _ h=>h.elim
structure Fun (K:PySem.W.Frag) (x qual:Str) (st:Stmt) (f:Addr) (fd:FuncData):Prop where
  ex:∃(oc:Value) (od:Option Addr) (kV doc pm:Value) (an:Option Addr) (cdv ct:Value) (osl:Array (Option Value)),
    fd=PySem.W.fnOf x qual (zck st) (zaO st) (ao st) .none kV doc pm an cdv ct∧K.lookup f=some ⟨oc,od,.func fd,osl⟩∧PySem.W.codeIn K cdv qual=true
  kp:PySem.W.keepIn K (.ref f)=true
section
variable {P:Program} {w:World} {K:PySem.W.Frag} {mg:Str→Option Value} {base:Heap}
theorem Fun.ok {x qual:Str} {st:Stmt} {f:Addr} {fd:FuncData} {N ps:List Str} {k:Nat} {sp:Sp} (F:Fun K x qual st f fd) (S:zae N ps (ao st)) (len:∀ vs H Q E,sp vs H Q E→vs.length=ps.length)
    (hbody:∀(cdv:Value) (A:Around) (outer:List Env) (s:Shared) (H:Hp) (vs:List V) (Q:VK) (E:XK),aE k (A.deeper (envOfC qual (ao st) s.heap.objs.size f cdv))→sp vs H Q E →
      ∃ t,PSs (zbT CX0 P w K mg base N qual (ao st) f cdv A outer s H E).nox (zaO st) t∧t { nx:=fun _ H'=>Q .non H',rt:=Q } (zdr N vs) H):FnOk P w K mg base CX0 (k+1) f fd ps sp:=by
  obtain⟨oc,od,kV,doc,pm,an,cdv,ct,osl,rfl,lk,hcd⟩:=F.ex
  refine fn_of lk hcd S len fun A outer s H vs Q E hr hsp=>?_
  obtain⟨t,h,q⟩:=hbody cdv A outer s H vs Q E hr hsp
  exact⟨t,h.nox,q⟩
theorem Fun.binds {x qual:Str} {st:Stmt} {f:Addr} {fd:FuncData} {ps:List Str} (F:Fun K x qual st f fd)
    (h:∀(kV doc pm:Value) (an:Option Addr) (cdv ct:Value) (us:List Value),us.length=ps.length→bindArgs (PySem.W.fnOf x qual (zck st) (zaO st) (ao st) .none kV doc pm an cdv ct) ⟨us,[]⟩=pure (ps.zip us)):av K fd ps []:=by
  obtain⟨oc,od,kV,doc,pm,an,cdv,ct,osl,rfl,lk,hcd⟩:=F.ex
  exact .all (h kV doc pm an cdv ct)
theorem zkh {x qual:Str} {st:Stmt} {f:Addr} {oc:Value} {od an:Option Addr} {osl:Array (Option Value)} {kV doc pm cdv ct:Value} (l:K.lookup f=some ⟨oc,od,.func (PySem.W.fnOf x qual (zck st) (zaO st) (ao st) .none kV doc pm an cdv ct),osl⟩)
    (c:PySem.W.codeIn K cdv qual=true) (k:PySem.W.keepIn K (.ref f)=true):Fun K x qual st f (PySem.W.fnOf x qual (zck st) (zaO st) (ao st) .none kV doc pm an cdv ct):=⟨⟨oc,od,kV,doc,pm,an,cdv,ct,osl,rfl,l,c⟩,k⟩
end
theorem hu_of {A:Around} {k:Nat} (hr:aE k A):A.units+1 < cLine:=Nat.lt_of_le_of_lt (Nat.add_le_add_left (by decide:1≤64) _) hr.units
theorem zbS {n:Nat} (h:n≤1000):n < sizeLine:=Nat.lt_of_le_of_lt h (by decide)
section
variable {X:Cx}
theorem pv (i:Nat) {x:Str} {pos:Pos} (hN:X.N[i]?=some x:=by rfl) (hv:Vis X.env.scope x:=by first | exact Or.inl rfl | exact Or.inr (Or.inl rfl) | exact Or.inr (Or.inr rfl)) (hd:(x == ("__debug__":Str))=false:=by decide)
    (hcd:(x == ("__classdict__":Str))=false:=by decide):PE X (.Name x pos) (tVar i):=pe_var hN hv hd hcd
end
theorem zbM {A B:Prop} (h:B):if false=true then A else B:=by
  rw[if_neg Bool.false_ne_true]
  exact h
theorem zcq {A B:Prop} (h:A):if true=true then A else B:=by
  rw[if_pos rfl]
  exact h
theorem aI {c A B:Prop} [Decidable c] (h1:c→A) (h2:¬c→B):if c then A else B:=by
  by_cases h:c
  · rw[if_pos h]
    exact h1 h
  · rw[if_neg h]
    exact h2 h
def ar (H H':Hp):Prop:=∀ b o,H b=some o→H' b=some o
theorem ar.refl (H:Hp):ar H H:=fun _ _ h=>h
theorem ar.trans {H H1 H2:Hp} (a:ar H H1) (b:ar H1 H2):ar H H2:=fun c o h=>b c o (a c o h)
theorem ar.free {H H':Hp} (e:ar H H') {l:Addr} (h:H' l=Option.none):H l=Option.none:=by
  cases q:H l with
  | none=>rfl
  | some o =>
    rw[e l o q]at h
    cases h
theorem ar.seq {K:PySem.W.Frag} {H H':Hp} {a:Addr} {xs:List V} (e:ar H H') (h:SqL K H a xs):SqL K H' a xs:=by
  rcases h with (h | ⟨o,h⟩) | h
  · exact .inl (.inl (e _ _ h))
  · exact .inl (.inr ⟨o,e _ _ h⟩)
  · exact .inr h
end L2
theorem lS0:0≤PySem.sizeLine:=by decide
theorem lS1:1≤PySem.sizeLine:=by decide
theorem lS2:2≤PySem.sizeLine:=by decide
theorem lS3:3≤PySem.sizeLine:=by decide
theorem lS4:4≤PySem.sizeLine:=by decide
namespace L2
open PySem PySem.Spec PyProof.Rows
section
variable {X:Cx} {e l:Expr} {te tl:TE} {pos:Pos} {tg:Expr}
def rSlS:V→Option Int→Option Int→Hp→VK→Prop:=fun x lo hi H Q=>∃ z,x=.str z∧z.length≤sizeLine∧Q (.str (Txt.slice z lo hi)) H
theorem ziX {v:Value} {o:Option Int} (p:IsPart v o):∃ q:Option (Int × Tok),v=partValue q∧q.map (·.1)=o:=by
 cases p with
 | none=>exact⟨none,rfl,rfl⟩
 | int i t=>exact⟨some (i,t),rfl,rfl⟩
theorem zjU:SlR X rSlS:=by
 intro pins s σ H x v vl vu lo hi sl Q I rx hs pl pu h
 obtain⟨z,rfl,hz,q⟩:=h
 obtain⟨t,rfl⟩:=rx
 obtain⟨ql,rfl,rfl⟩:=ziX pl
 obtain⟨qu,rfl,rfl⟩:=ziX pu
 obtain⟨o,ho,hc,hd⟩:=hs
 refine⟨"str",_,F.slot_str_getitem.lookup,typeIs_str _ _ _,?_⟩
 refine wpAny_getItem_str_slice (l:=ql) (u:=qu) (st:=none) ⟨o,ho,hc,hd⟩ rfl ?_
 exact post_val_or_str ⟨Nat.le_trans (Txt.slice_le z _ _) hz,fun t' k=>⟨.str (Txt.slice z (ql.map (·.1)) (qu.map (·.1))),H,I.tok _,⟨_,rfl⟩,q⟩⟩
def Its (z:Str):It:=⟨fun i _=>i < z.length,fun i H x H'=>H'=H∧∃ c,z.cps[i]?=some c∧x=.str ⟨#[c]⟩,fun i _=>z.length≤i⟩
theorem zhS {P:Program} {w:World} {K:W.Frag} {ty:String} (hty:ty="str_ascii_iterator"∨ty="str_iterator") (it:Addr) (z:Str) (t:Tok):Turn P w K tg (Its z) [it] it (fun i h=>h.IsStrIter it ty z t i) where
 mem:=by simp
 obj:=fun i h st b hb=>by
  have e:b=it:=by simpa using hb
  subst e
  obtain⟨o,e,c,d⟩:=st
  exact⟨o,e,fun v z=>by rw[d]at z;cases z⟩
 keep:=fun i h h' st k=>by
  obtain⟨o,e,r⟩:=st
  exact⟨o,k it (by simp) o e,r⟩
 item:=by
  intro X hP hw hK hc i pins s σ H E I hf st hg
  subst hP hw hK
  have hi:i < z.cps.size:=hg
  have hx:z.cps[i]?=some z.cps[i]:=by simp [hi]
  obtain⟨f0,f1,f2,f3,f4,f5⟩:=hf it (by simp)
  rcases hty with rfl | rfl
  ·refine wpAny_pyNext_ascii_item st hx fun h' st' sb=>?_
   have I1:Inv X pins σ H { s with heap:=h',toks:=s.toks+1 }:=I.turned (t':=s.toks+1) (fun b o hb e=>(sb.2 b hb).trans e) f0 f1 f3 f4 f5
   obtain⟨o,e,c,d⟩:=id st'
   exact⟨_,rfl,zfP (s:={ s with heap:=h',toks:=s.toks+1 }) e c d (by decide) ⟨.str ⟨#[z.cps[i]]⟩,H,I1,⟨_,rfl⟩,⟨rfl,_,hx,rfl⟩,st',fun b hb=>(hf b hb).1⟩⟩
  ·refine wpAny_pyNext_wide_item st hx fun h' st' sb=>?_
   have I1:Inv X pins σ H { s with heap:=h',toks:=s.toks+1 }:=I.turned (t':=s.toks+1) (fun b o hb e=>(sb.2 b hb).trans e) f0 f1 f3 f4 f5
   obtain⟨o,e,c,d⟩:=id st'
   exact⟨_,rfl,zfP (s:={ s with heap:=h',toks:=s.toks+1 }) e c d (by decide) ⟨.str ⟨#[z.cps[i]]⟩,H,I1,⟨_,rfl⟩,⟨rfl,_,hx,rfl⟩,st',fun b hb=>(hf b hb).1⟩⟩
 done:=by
  intro X hP hw hK hc i pins s σ H E I hf st hg
  subst hP hw hK
  have hi:z.cps.size≤i:=hg
  have hx:z.cps[i]?=none:=by simp [hi]
  obtain⟨f0,f1,f2,f3,f4,f5⟩:=hf it (by simp)
  rcases hty with rfl | rfl
  ·exact wpAny_pyNext_ascii_end (I.ok.hd hc) st hx fun h' eb=>⟨rfl,I.turned (t':=s.toks) (fun b o hb e=>eb b o hb e) f0 f1 f3 f4 f5⟩
  ·exact wpAny_pyNext_wide_end (I.ok.hd hc) st hx fun h' eb=>⟨rfl,I.turned (t':=s.toks) (fun b o hb e=>eb b o hb e) f0 f1 f3 f4 f5⟩
 self:=fun _ _ _ _ _ st h=>by
  rcases hty with rfl | rfl
  ·exact wpAny_pyIter_striter_ascii st h
  ·exact wpAny_pyIter_striter_wide st h
def iStr (tl:TE):TI:=fun σ H R=>tl σ H fun x H1=>∃ z,x=.str z∧R (Its z) H1
theorem zj1 (hl:PE X l tl):PI X tg l (iStr tl):=by
 intro pins s σ H R I h
 refine thn (hl pins s σ H _ I h) fun v s1 ⟨x,H1,I1,r1,q1⟩=>?_
 obtain⟨z,e,q⟩:=q1
 subst e
 obtain⟨t,rfl⟩:=r1
 have fp:∀ b∈[s1.heap.objs.size],zbi X pins H1 b:=fun b hb=>by
  have e:b=s1.heap.objs.size:=by simpa using hb
  subst e
  exact I1.fpOk (Nat.le_refl _) (I1.hok.fresh (Nat.le_refl _))
 cases ha:z.cps.all (· < 128) with
 | true =>
  refine wpAny_pyIter_ascii ha ?_
  exact⟨s1.heap.objs.size,[s1.heap.objs.size],_,_,H1,rfl,I1.kept (t':=s1.toks) fun b o e=>Heap.get?_push_of_some _ e,zhS (.inl rfl) _ z t,⟨_,Heap.get?_push_size _ rfl,rfl,rfl⟩,fp,q⟩
 | false =>
  refine wpAny_pyIter_wide ha ?_
  exact⟨s1.heap.objs.size,[s1.heap.objs.size],_,_,H1,rfl,I1.kept (t':=s1.toks) fun b o e=>Heap.get?_push_of_some _ e,zhS (.inr rfl) _ z t,⟨_,Heap.get?_push_size _ rfl,rfl,rfl⟩,fp,q⟩
theorem zgN (hc:X.calm=true):zbI X (.builtin "all") (fun xs H Q=>∃(p:Addr) (bs:List Bool),xs=[.ref p]∧SqL X.K H p (bs.map V.bl)∧Q (.bl (bs.all id)) H):=by
 intro pins s σ H xs us Q I r h
 obtain⟨p,bs,rfl,hq,q⟩:=h
 obtain⟨u,rfl,rx⟩:=zda r
 cases rx
 obtain⟨its,rv,pl,hz⟩:=I.list hq
 have hl:=rv.length
 rw[List.length_map]at hl
 have hp:p < s.heap.objs.size:=by
  obtain⟨o,ho,_⟩:=pl.isList
  exact Heap.lt_size ho
 have hne:p≠s.heap.objs.size:=Nat.ne_of_lt hp
 refine call_all_walk (wpAny_pyIter_list pl.isList ?_)
 refine⟨s.heap.objs.size,[s.heap.objs.size,p],[s.heap.objs.size],its.toArray.size,_,_,fun i=>bs.getD i true,rfl,Walks.list (show X.A.in1.handled=none from I.ok.hd hc) _ p hne its.toArray,⟨⟨_,Heap.get?_push_size _ rfl,rfl,rfl⟩,pl.isList.push _⟩,?_,fun h' tk hk=>?_⟩
 ·intro i v s' Q' E' hv hQ
  have hv':its[i]?=some v:=by simpa using hv
  have hi:i < its.length:=(List.getElem?_eq_some_iff.mp hv').1
  have hb:bs[i]?=some (bs.getD i true):=by
   rw[List.getD_eq_getElem?_getD,List.getElem?_eq_getElem (by omega)]
   rfl
  obtain⟨w',e1,e2⟩:=rv.get (i:=i) (x:=.bl (bs.getD i true)) (by rw[List.getElem?_map,hb];rfl)
  rw[hv']at e1
  cases e1
  cases (show v=Value.bool _ from e2)
  exact wpAny_truthy_bool hQ
 ·have e:(List.range its.toArray.size).all (fun i=>bs.getD i true)=bs.all id:=by
   rw[Bool.eq_iff_iff,List.all_eq_true,List.all_eq_true]
   constructor
   ·intro h x hx
    obtain⟨i,hi,rfl⟩:=List.mem_iff_getElem.mp hx
    have:=h i (List.mem_range.mpr (by simp only[List.size_toArray];omega))
    rw[List.getD_eq_getElem?_getD,List.getElem?_eq_getElem hi]at this
    exact this
   ·intro h i hi
    have hi':i < bs.length:=by have:=List.mem_range.mp hi;simp only[List.size_toArray]at this;omega
    rw[List.getD_eq_getElem?_getD,List.getElem?_eq_getElem hi']
    exact h _ (List.getElem_mem hi')
  refine⟨.bl (bs.all id),H,I.kept (t':=tk) fun b o eb=>hk b o ?_ (Heap.get?_push_of_some _ eb),congrArg Value.bool e,q⟩
  intro hm
  have:b=s.heap.objs.size:=by simpa using hm
  exact absurd (Heap.lt_size eb) (by rw[this];exact Nat.lt_irrefl _)
end
structure Clo (X:Cx) (scope:Scope) (cl:List (Str × Addr)):Prop where
 eq:closureFor scope X.env=pure cl
 sub:∀ y c,cl.lookup y=some c→X.env.cells.lookup y=some c
 has:∀ y,((relabel scope X.env).names.lookup y=some .cell∨(relabel scope X.env).names.lookup y=some .free)→∃ c,cl.lookup y=some c
theorem zlw {X:Cx} {scope:Scope} (hfree:∀ x∈scope.names,x.2≠.free) (hcell:∀ x∈scope.names,x.2≠.cell):Clo X scope []:=by
 refine⟨closureFor_none hfree,fun y c h=>by simp at h,fun y h=>?_⟩
 have e:(relabel scope X.env).names=scope.names:=by
  unfold relabel
  refine map_eq_self (fun x hx=>?_)
  obtain⟨n,k⟩:=x
  have:(k == NameKind.free)=false:=by simpa using hfree _ hx
  simp [this]
 rw[e]at h
 rcases h with h | h
 ·exact absurd rfl (hcell _ (PySem.mem_of_lookup h))
 ·exact absurd rfl (hfree _ (PySem.mem_of_lookup h))
def az (X:Cx) (N':List Str) (scope:Scope) (cl:List (Str × Addr)) (fp:List Addr) (s₃:Shared) (H₃:Hp):Cx where
 prog:=X.prog
 w:=X.w
 K:=X.K
 mg:=X.mg
 base:=X.base
 A:=X.A
 N:=N'
 s₀:=s₃
 H₀:=H₃
 env:=compEnvC scope cl s₃.heap.objs.size X.env
 outer:=X.stack
 stack:=X.stack
 ex:=fp
 calm:=X.calm
 fn:=fun _=>false
 pn:=[]
 xe:=fun _ _=>False
def fvs (σ:St) (ix:List Nat):St:=ix.map fun i=>(σ[i]?).join
def tLC (wi:TI) (ix:List Nat) (te:TE):TE:=fun σ H Q=>wi σ H fun J H1=>∀ D,H1 D=none →
 ∃ W:Nat→Nat→List V→Hp→Prop,(∃ m,W 0 m [] (upd H1 D (.lst []))) ∧
  ∀ i m ys H',W i m ys H'→H' D=some (.lst ys) ∧
   ((J.stop i H'∧Q (.ref D) H')∨(J.go i H'∧∀ x H'',J.yld i H' x H''→te (some x :: fvs σ ix) H'' fun y H3 =>
    H3 D=some (.lst ys)∧ys.length < sizeLine∧∃ m',m' < m∧W (i+1) m' (ys++[y]) (upd H3 D (.lst (ys++[y])))))
theorem zdc {prog:Program} {w:World} {A:Around} {R:Result→Shared→Prop} {s:Shared} {elt target iter:Expr} {scope:Scope} {pos:Pos} {it acc:Value} {env:Env} (I:Nat→Shared→Prop)
  (turn:∀ n s,I n s→wpAny (model prog w) A (pyNext it) (fun r s₁=>match r with
   | none=>R (.ok .next) s₁
   | some v=>wpAny (model prog w) A (letOwnedTupleGo target it v) (fun _ s₁'=>wpAny (model prog w) A (assign target env v) (fun _ s₂=>wpAny (model prog w) A (eval elt env) (fun x s₃ =>
     wpAny (model prog w) A (call (.builtin "list.append") [acc,x]) (fun _ s₄=>∃ m,m < n∧I m s₄) (notedBy (model prog w) A env fun e s'=>R (.error e) s') s₃)
     (notedBy (model prog w) A env fun e s'=>R (.error e) s') s₂) (notedBy (model prog w) A env fun e s'=>R (.error e) s') s₁') (notedBy (model prog w) A env fun e s'=>R (.error e) s') s₁) (notedBy (model prog w) A env fun e s'=>R (.error e) s') s)
  (n:Nat) (h:I n s) :
  codeAny (model prog w) A (.compLoop (.ListComp elt [⟨target,iter,[],0⟩] scope pos) 0 it acc env) R s:=by
 refine codeAny_loop rfl I (fun n s hI=>?_) n h
 show wpAny _ _ ((compTurn (.ListComp elt [⟨target,iter,[],0⟩] scope pos) 0 it acc env).onRaise (fun x=>do noteFrame x env;theTreesLotGoes x)) _ _ s
 refine wpAny_noted ?_
 rw[compTurn_list1]
 refine wpAny_bind (wpAny_standAt (wpAny_bind (wpAny_mono (turn n s hI) (fun r s₁ h₁=>?_) fun _ _ h'=>h')))
 cases r with
 | none=>exact wpAny_pure h₁
 | some v =>
  refine wpAny_bind (wpAny_mono h₁ (fun _ s₁' h₁'=>?_) fun _ _ h'=>h')
  exact wpAny_bind (wpAny_mono h₁' (fun _ s₂ h₂=>wpAny_bind (wpAny_bind (wpAny_mono h₂ (fun x s₃ h₃=>wpAny_bind (wpAny_mono h₃
   (fun _ s₄ h₄=>wpAny_pure (wpAny_pure ⟨rfl,h₄⟩)) fun _ _ h'=>h')) fun _ _ h'=>h'))) fun _ _ h'=>h')
section
variable {X:Cx} {N':List Str} {scope:Scope} {cl:List (Str × Addr)} {fp:List Addr} {pins:List (Addr × Obj)} {σ:St} {H:Hp} {s:Shared}
theorem zbr (I:Inv X pins σ H s) (C:Clo X scope cl) (hkind:scope.kind=.function) (hf:∀ b∈fp,zbi X pins H b) (hlt:∀ b∈fp,b < s.heap.objs.size):(az X N' scope cl fp s H).Ok where
 mod:=I.ok.mod
 kind:=hkind
 glob:=I.ok.glob
 blt:=I.ok.blt
 above:=Nat.le_refl _
 inj:=fun x y c h1 h2=>I.ok.inj x y c (C.sub x c h1) (C.sub y c h2)
 has:=fun x h=>C.has x h
 cab:=fun x c h=>by cases (show false=true from h)
 hd:=I.ok.hd
 frames:=I.ok.frames
 stk:=.inl rfl
 exf:=fun b hb=>⟨Nat.ne_of_lt (hlt b hb),fun x c h=>(hf b hb).2.2.2.2.1 x c (C.sub x c h)⟩
 bs:=fun b o h=>I.bs b o h
 bsz:=Nat.le_trans I.ok.bsz I.sz
 noex:=fun b o h hb=>by
  rcases(hf b hb).2.2.2.1 with z | z
  ·exact I.ok.noex b o h z
  ·exact absurd (Nat.lt_of_lt_of_le (Heap.lt_size h) (Nat.le_trans I.ok.bsz z)) (Nat.lt_irrefl _)
 exfs:=fun b hb hs=>by
  rcases List.mem_cons.mp (I.stkSub b hs) with z | z
  ·exact(hf b hb).2.1 z
  ·exact(hf b hb).2.2.1 z
 funs:=I.stack
 frf:=I.stkFree
theorem zcm {ix:List Nat} {h₁:Heap} {t':Nat} {m:Str→Option Value} (I:Inv X pins σ H s) (C:Clo X scope cl) (hkind:scope.kind=.function) (hf:∀ b∈fp,zbi X pins H b) (hlt:∀ b∈fp,b < s.heap.objs.size)
  (hlen:N'.length=ix.length+1) (hix:∀(j i:Nat),ix[j]?=some i→∃ y,X.N[i]?=some y∧N'[j+1]?=some y∧(X.env.kindOf y=some .cell∨X.env.kindOf y=some .free)∧((relabel scope X.env).names.lookup y=some .cell∨(relabel scope X.env).names.lookup y=some .free))
  (hn:h₁.Ns s.heap.objs.size m) (hk:∀ b o,s.heap.get? b=some o→h₁.get? b=some o):Inv (az X N' scope cl fp s H) [] (none :: fvs σ ix) H { s with heap:=h₁,toks:=t' }:=by
 have cellK:∀ x c,cl.lookup x=some c→∃ v,h₁.IsCell c v:=fun x c h=>by
  obtain⟨v,o,ho,hd⟩:=I.cell x c (C.sub x c h)
  exact⟨v,o,hk c o ho,hd⟩
 refine⟨zbr I C hkind hf hlt,rfl,I.bare,Un.kept hk,⟨m,hn,fun i y v h1 h2 h3=>?_⟩,cellK,I.hok.fresh (Nat.le_refl _),fun x c h=>I.freeC x c (C.sub x c h),fun p hp=>absurd (show p∈([]:List (Addr × Obj)) from hp) (by simp),I.hok.kept hk,?_⟩
 ·cases i with
  | zero=>cases (show some (none:Option V)=some (some v) from h2)
  | succ j =>
   have h2':(fvs σ ix)[j]?=some (some v):=h2
   unfold fvs at h2'
   rw[List.getElem?_map]at h2'
   cases e:ix[j]? with
   | none=>rw[e]at h2';cases h2'
   | some i =>
    rw[e]at h2'
    have h4:(σ[i]?).join=some v:=Option.some.inj h2'
    have h5:σ[i]?=some (some v):=by
     cases e':σ[i]? with
     | none=>rw[e']at h4;cases h4
     | some q =>
      rw[e']at h4
      have h6:q=some v:=h4
      rw[h6]
    obtain⟨y',n1,n2,k1,k2⟩:=hix j i e
    have ey:y'=y:=Option.some.inj (n2.symm.trans h1)
    subst ey
    obtain⟨m0,hn0,hl0⟩:=I.loc
    have hv0:Vis X.env.scope y':=k1.elim (fun z=>.inr (.inl z)) fun z=>.inr (.inr z)
    obtain⟨u,ru,l⟩:=hl0 i y' v n1 h5 hv0
    refine⟨u,ru,.inr ⟨k2,?_⟩⟩
    rcases l with ⟨k,_⟩ | ⟨_,c,ec,o,ho,hd⟩
    ·rcases k1 with z | z
     ·rw[z]at k;cases k
     ·rw[z]at k;cases k
    ·obtain⟨c',ec'⟩:=C.has y' k2
     have:c'=c:=Option.some.inj ((C.sub _ _ ec').symm.trans ec)
     subst this
     exact⟨c',ec',o,hk c' o ho,hd⟩
 ·show(none :: fvs σ ix:St).length=N'.length
  rw[hlen]
  simp [fvs]
theorem zcF {σ':St} {H':Hp} {s':Shared} {h':Heap} (I:Inv X pins σ H s) (J:Inv (az X N' scope cl fp s H) [] σ' H' s') (hf:∀ b∈fp,zbi X pins H b) (hs:Heap.SameBut s.heap.objs.size s'.heap h'):Inv X pins σ H' { s' with heap:=h' }:=by
 have ne:∀ b o,s.heap.get? b=some o→b≠s.heap.objs.size:=fun b o e=>Nat.ne_of_lt (Heap.lt_size e)
 have eq:∀ b,b≠s.heap.objs.size→h'.get? b=s'.heap.get? b:=fun b hb=>hs.2 b hb
 have B:=J.base
 have u:Un (frs X.stack) fp H H' s.heap h' :=
  ⟨fun b o e n h1 h2=>(eq b (ne b o e)).trans (B.keep b o e n h1 h2),fun b o e n h1 h2=>by
   obtain⟨sl,q⟩:=B.slot b o e n h1 h2
   exact⟨sl,(eq b (ne b o e)).trans q⟩,fun b o e n h1=>B.free b o e n h1,fun b o e h1=>by
   obtain⟨o',q⟩:=B.there b o e h1
   exact⟨o',(eq b (ne b o e)).trans q⟩,B.tups,B.frzs,B.tbls⟩
 have hfree:H' s.heap.objs.size=none:=J.free
 have hok:HOk X.prog X.w H' h':=fun b ob e=>by
  refine(J.hok b ob e).stay (fun c w' hc q=>(eq c ?_).trans q) (fun _ q=>q) fun _ _ q=>q
  rintro rfl
  rcases hc with z | z
  ·rw[←z,hfree]at e;cases e
  ·rw[hfree]at z;cases z
 exact I.call' (s':={ s' with heap:=h' }) (ch:=fp) J.os u hok J.bare fun b hb=>⟨(hf b hb).2.2.2.1,(hf b hb).2.1,(hf b hb).2.2.2.2.1,(hf b hb).2.2.2.2.2⟩
end
section
variable {X:Cx} {N':List Str} {scope:Scope} {elt iter:Expr} {x:Str} {px pos:Pos} {wi:TI} {te:TE} {ix:List Nat}
theorem pe_lc (hc:X.calm=true) (hkind:scope.kind=.function) (hcell:∀ y∈scope.names,y.2≠.cell) (hnames:∀ y∈scope.names,y.2=.local→scope.names.lookup y.1=some .local) (hx:scope.names.lookup x=some .local)
  (hclo:X.Ok→∃ cl,Clo X scope cl) (hN:N'.Nodup) (hN0:N'[0]?=some x) (hlen:N'.length=ix.length+1)
  (hix:∀(j i:Nat),ix[j]?=some i→∃ y,X.N[i]?=some y∧N'[j+1]?=some y∧(X.env.kindOf y=some .cell∨X.env.kindOf y=some .free)∧((relabel scope X.env).names.lookup y=some .cell∨(relabel scope X.env).names.lookup y=some .free))
  (hi:PI X (.Name x px) iter wi) (he:∀ cl fp s₃ H₃,PE (az X N' scope cl fp s₃ H₃) elt te) (hs:∀ v,foldedSetIterable iter X.env v=pure v:=by intro _;rfl) :
  PE X (.ListComp elt [⟨.Name x px,iter,[],0⟩] scope pos) (tLC wi ix te):=by
 intro pins s σ H Q I h
 obtain⟨cl,C⟩:=hclo I.ok
 rw[eval_ListComp]
 refine wpAny_comprehension_free (use:=none) rfl hs C.eq hkind hnames (thn (hi pins s σ H _ I h) fun v s1 h1=>thn h1 fun itv s2 h2=>?_)
 obtain⟨it,fp,tn,J,H2,e,I2,T,st2,f2,q2⟩:=h2
 subst e
 have hD:H2 s2.heap.objs.size=none:=I2.fresh
 obtain⟨W,⟨m0,w0⟩,turn⟩:=q2 s2.heap.objs.size hD
 refine wpAny_newObj_type (wpAny_newFunctionEnv hcell (by intro y hy;simp at hy) (fun h₁ hns₁ hsb₁=>?_) hkind)
 dsimp only at hns₁ hsb₁ ⊢
 have I3:Inv X pins σ (upd H2 s2.heap.objs.size (.lst [])) { s2 with heap:=s2.heap.push { cls:=.type "list",data:=.seq ([]:List Value).toArray },toks:=s2.toks }:=I2.lnew .nil (Nat.zero_le _)
 generalize hs3:({ s2 with heap:=s2.heap.push { cls:=.type "list",data:=.seq ([]:List Value).toArray },toks:=s2.toks }:Shared)=s3 at I3
 have e3:s3.heap=s2.heap.push { cls:=.type "list",data:=.seq ([]:List Value).toArray }:=by rw[←hs3]
 generalize hDD:s2.heap.objs.size=D at *
 generalize hH3:upd H2 D (.lst [])=H3 at *
 have lt2:∀ b∈fp,b < s2.heap.objs.size:=fun b hb=>by
  obtain⟨o,ho,_⟩:=T.obj 0 _ st2 b hb
  exact Heap.lt_size ho
 have neD:∀ b∈fp,b≠D:=fun b hb=>by rw[←hDD];exact Nat.ne_of_lt (lt2 b hb)
 have f3:∀ b∈fp,zbi X pins H3 b:=fun b hb=>⟨by rw[←hH3,aq (neD b hb)];exact(f2 b hb).1,(f2 b hb).2⟩
 have sz3:s3.heap.objs.size=D+1:=by rw[e3,Heap.size_push,hDD]
 have lt3:∀ b∈fp,b < s3.heap.objs.size:=fun b hb=>by have q:=lt2 b hb;rw[sz3];rw[hDD]at q;exact Nat.lt_succ_of_lt q
 have old:∀ b o,s3.heap.get? b=some o→h₁.get? b=some o:=fun b o eb=>by
  have hb:b < D+1:=by rw[←sz3];exact Heap.lt_size eb
  refine hsb₁.extBut b o ?_ (Heap.get?_push_of_some _ (by rw[←e3];exact eb))
  rw[Heap.size_push,hDD]
  exact Nat.ne_of_lt hb
 have szC:(s2.heap.push { cls:=.type "list",data:=.seq ([]:List Value).toArray }).objs.size=s3.heap.objs.size:=by rw[e3]
 have os3:s3.os=s2.os:=by rw[←hs3]
 rw[szC]at hns₁ hsb₁
 have I4:Inv (az X N' scope cl fp s3 H3) [] (none :: fvs σ ix) H3 { s3 with heap:=h₁,toks:=s2.toks+([]:List (Str × Value)).length }:=zcm I3 C hkind f3 lt3 hlen hix hns₁ old
 have st4:tn 0 h₁:=T.keep 0 _ _ st2 fun b hb o eb=>old b o (by rw[e3];exact Heap.get?_push_of_some _ eb)
 have stat:∀ {H':Hp},(∀ b∈fp,H' b=none)→∀ b∈fp,zbi (az X N' scope cl fp s3 H3) [] H' b:=fun hn b hb =>
  ⟨hn b hb,Nat.ne_of_lt (lt3 b hb),fun hs'=>(zbr (N':=N') I3 C hkind f3 lt3).exfs b hb hs',.inl hb,fun y c hy=>((zbr (N':=N') I3 C hkind f3 lt3).exf b hb).2 y c hy,fun p hp=>absurd (show p∈([]:List (Addr × Obj)) from hp) (by simp)⟩
 have loop:∀ s4:Shared,s4={ s3 with heap:=h₁,toks:=s2.toks+([]:List (Str × Value)).length } →
   codeAny (model X.prog X.w) X.A (.compLoop (.ListComp elt [⟨.Name x px,iter,[],0⟩] scope pos) 0 (.ref it) (.ref D) (compEnvC scope cl s3.heap.objs.size X.env))
    (compPost (model X.prog X.w) X.A X.xe none (EP X pins σ Q) (.ref D) s3.heap.objs.size) s4:=by
  rintro s4 rfl
  refine zdc (fun n s'=>∃ i σ0 H' ys,Inv (az X N' scope cl fp s3 H3) [] (σ0 :: fvs σ ix) H' s'∧tn i s'.heap∧(∀ b∈fp,H' b=none)∧W i n ys H') ?_ m0 ⟨0,none,H3,[],I4,st4,fun b hb=>(f3 b hb).1,w0⟩
  rintro n s5 ⟨i,σ0,H5,ys,I5,st5,fr5,w5⟩
  obtain⟨hD5,alt⟩:=turn i n ys H5 w5
  rcases alt with ⟨stop,q⟩ | ⟨go,step⟩
  ·refine thn (T.done (az X N' scope cl fp s3 H3) rfl rfl rfl hc i [] s5 _ H5 _ I5 (stat fr5) st5 stop) fun r s6 ⟨hr,I6⟩=>?_
   subst hr
   obtain⟨m,hn,_⟩:=I6.loc
   exact⟨m,hn,fun h' hsb=>⟨.ref D,H5,zcF I3 I6 f3 hsb,rfl,q⟩⟩
  ·refine thn (T.item (az X N' scope cl fp s3 H3) rfl rfl rfl hc i [] s5 _ H5 _ I5 (stat fr5) st5 go) fun r s6 ⟨u,hr,h6⟩=>?_
   subst hr
   refine thn h6 fun _ s7 ⟨y7,H7,I7,r7,yl7,st7,fr7⟩=>?_
   have I7':=I7.pinned (stat fr7) (T.obj _ _ st7)
   have G:PG (az X N' scope cl fp s3 H3) (.Name x px) (zcV 0):=zay hN hN0 (.inl (lookup_relabel_local hx)) (.inr (lookup_relabel_local hx))
   refine wpAny_mono (G _ s7 _ H7 y7 u (fun σ' H'=>σ'=some y7 :: fvs σ ix∧H'=H7) I7' r7 ⟨rfl,rfl⟩) (fun _ s8 h8=>?_) fun _ _ f=>False.elim f
   obtain⟨σ8,H8,I8,rfl,rfl⟩:=h8
   refine wpAny_mono (he cl fp s3 H3 _ s8 _ H8 _ I8 (step y7 H8 yl7)) (fun yv s9 h9=>?_) fun _ _ f=>False.elim f
   obtain⟨y9,H9,I9,r9,hD9,hl9,m',hm',w9⟩:=h9
   refine wpAny_mono (zaS (X:=az X N' scope cl fp s3 H3) _ s9 _ H9 (.ref D) [y9] (.ref D) [yv] (fun _ H'=>H'=upd H9 D (.lst (ys++[y9]))) I9 rfl (.cons r9 .nil) ⟨D,ys,y9,rfl,rfl,hD9,hl9,rfl⟩) (fun _ s10 h10=>?_) fun _ _ f=>False.elim f
   obtain⟨_,H10,I10,_,rfl⟩:=h10
   refine⟨m',hm',i+1,some y7,_,ys++[y9],I10.unpinned,T.keep _ _ _ st7 fun b hb o eb=>(I10.pin (b,o) (List.mem_append_right _ (List.mem_append_right _ (zaQ hb eb)))).1,fun b hb=>?_,w9⟩
   obtain⟨o,eb,d⟩:=T.obj _ _ st7 b hb
   exact(I10.pin (b,o) (List.mem_append_right _ (List.mem_append_right _ (zaQ hb eb)))).2.1
 subst hs3
 have fin:=codeAny_compStart_list (loop _ rfl) (T.self X.A 0 _ _ _ st4 (loop _ rfl))
 exact fin
end
end L2
namespace L2
open PySem PySem.Spec PyProof.Rows
section
variable {X:Cx} {e l:Expr} {es:List Expr} {te tl:TE} {pos:Pos} {tg:Expr}
def tFmt (te:TE):TE:=fun σ H Q=>te σ H fun x H1=>(∃ z,x=.str z∧z.length≤sizeLine∧Q (.str z) H1)∨∃ i:Int,x=.int i∧i.natAbs.log2 < 1920∧Q (.str (toString i)) H1
theorem zeo (he:PE X e te):PE X (.FormattedValue e (-1) none pos) (tFmt te):=by
 intro pins s σ H Q I h
 refine FormattedValue_plain (thn (he pins s σ H _ I h) fun v s1 ⟨x,H1,I1,r1,q1⟩=>?_)
 rcases q1 with ⟨z,rfl,hz,q⟩ | ⟨i,rfl,hi,q⟩
 ·obtain⟨t,rfl⟩:=r1
  exact formatField_str (fun t' tk=>⟨.str z,H1,I1.tok _,⟨_,rfl⟩,q⟩) hz
 ·obtain⟨t,rfl⟩:=r1
  exact formatField_int_small hi ⟨.str _,H1,I1.tok _,⟨_,rfl⟩,q⟩
def tRepr (te:TE):TE:=fun σ H Q=>te σ H fun x H1=>∃ z,x=.str z∧(reprText z).length≤sizeLine∧Q (.str (reprText z)) H1
theorem pe_fvr (he:PE X e te):PE X (.FormattedValue e 114 none pos) (tRepr te):=by
 intro pins s σ H Q I h
 refine wpAny_FormattedValue_repr (thn (he pins s σ H _ I h) fun v s1 ⟨x,H1,I1,r1,q1⟩=>?_)
 obtain⟨z,rfl,hz,q⟩:=q1
 obtain⟨t,rfl⟩:=r1
 refine wpAny_pyReprObj_str ?_ hz
 exact formatField_str (fun t' tk=>⟨.str (reprText z),H1,I1.tok _,⟨_,rfl⟩,q⟩) hz
abbrev TJ:=St→Hp→Str→(Str→Hp→Prop)→Prop
def PJ (X:Cx) (es:List Expr) (t:TJ):Prop :=
 ∀(pins:List (Addr × Obj)) (s:Shared) (σ:St) (H:Hp) (acc:Str) (Q:Str→Hp→Prop) (R:Str→Shared→Prop),Inv X pins σ H s→t σ H acc Q→(∀ out s1 H1,Inv X pins σ H1 s1→Q out H1→R out s1)→Joins (model X.prog X.w) X.A X.xe (evalEach es X.env) acc R s
def jNil:TJ:=fun _ H acc Q=>Q acc H
def jCons (te:TE) (t:TJ):TJ:=fun σ H acc Q=>te σ H fun x H1=>∃ y,x=.str y∧(acc++y).length≤sizeLine∧t σ H1 (acc++y) Q
theorem zdG:PJ X [] jNil:=fun _ _ _ _ _ _ _ I h k=>k _ _ _ I h
theorem zaU {t:TJ} (he:PE X e te) (hr:PJ X es t):PJ X (e :: es) (jCons te t):=by
 intro pins s σ H acc Q R I h k
 refine thn (he pins s σ H _ I h) fun v s1 ⟨x,H1,I1,r1,q1⟩=>?_
 obtain⟨y,rfl,hz,q⟩:=q1
 obtain⟨t,rfl⟩:=r1
 exact⟨y,_,rfl,hz,hr pins s1 σ H1 _ Q R I1 q k⟩
def zlI (t:TJ):TE:=fun σ H Q=>t σ H Str.empty fun out H1=>out.length≤sizeLine∧Q (.str out) H1
theorem zcd {v1 v2:Expr} {t:TJ} (h:PJ X (v1 :: v2 :: es) t):PE X (.JoinedStr (v1 :: v2 :: es) pos) (zlI t):=by
 intro pins s σ H Q I hw
 exact wpAny_JoinedStr (h pins s σ H _ _ _ I hw fun out s1 H1 I1 q=>⟨q.1,.str out,H1,I1.tok _,⟨_,rfl⟩,q.2⟩)
def iSeq (K:W.Frag) (tl:TE):TI:=fun σ H R=>tl σ H fun x H1=>∃ a,x=.ref a∧(((∃ xs,SqL K H1 a xs)∧R (Itl K a) H1)∨((∃ xs,SqT K H1 a xs)∧R (Itt K a) H1))
theorem zhx (hl:PE X l tl):PI X tg l (iSeq X.K tl):=by
 intro pins s σ H R I h
 refine thn (hl pins s σ H _ I h) fun v s1 ⟨x,H1,I1,r1,q1⟩=>?_
 obtain⟨a,rfl,q⟩:=q1
 cases r1
 have fp:∀ b∈[s1.heap.objs.size],zbi X pins H1 b:=fun b hb=>by
  have e:b=s1.heap.objs.size:=by simpa using hb
  subst e
  exact I1.fpOk (Nat.le_refl _) (I1.hok.fresh (Nat.le_refl _))
 rcases q with ⟨⟨xs,hq⟩,q⟩ | ⟨⟨xs,hq⟩,q⟩
 ·obtain⟨its,rv,p,hz⟩:=I1.list hq
  refine wpAny_pyIter_list p.isList ?_
  exact⟨s1.heap.objs.size,[s1.heap.objs.size],_,_,H1,rfl,I1.kept (t':=s1.toks) fun b o e=>Heap.get?_push_of_some _ e,zgT a _,⟨_,Heap.get?_push_size _ rfl,rfl,rfl⟩,fp,q⟩
 ·obtain⟨its,rv,p,hz⟩:=I1.tuple hq
  refine wpAny_pyIter_tuple (show s1.heap.IsTuple a its.toArray from p) ?_
  exact⟨s1.heap.objs.size,[s1.heap.objs.size],_,_,H1,rfl,I1.kept (t':=s1.toks) fun b o e=>Heap.get?_push_of_some _ e,zfY a _,⟨_,Heap.get?_push_size _ rfl,rfl,rfl⟩,fp,q⟩
end
theorem zfK {env:Env}:∀(l:List (Str × NameKind)) (acc:List (Str × Addr)),(∀ y∈l,y.2=.free→∃ c,env.cells.lookup y.1=some c) →
  ∃ cl,(forIn l acc (fun(y:Str × NameKind) cs=>if(y.2 == NameKind.free)=true then do let c ←cellOf env y.1;pure (ForInStep.yield ((y.1,c) :: cs)) else pure (ForInStep.yield cs)):Sem (List (Str × Addr)))=pure cl ∧
   (∀ y c,cl.lookup y=some c→acc.lookup y=some c∨env.cells.lookup y=some c)∧∀ y,((y,NameKind.free)∈l∨∃ c,acc.lookup y=some c)→∃ c,cl.lookup y=some c
 | [],acc,_=>⟨acc,rfl,fun _ _ h=>.inl h,fun y h=>h.elim (fun z=>by cases z) fun z=>z⟩
 | (n,k) :: r,acc,hf=>by
  by_cases hk:k=.free
  ·subst hk
   obtain⟨c,hc⟩:=hf (n,.free) List.mem_cons_self rfl
   obtain⟨cl,e1,e2,e3⟩:=zfK r ((n,c) :: acc) fun y hy=>hf y (List.mem_cons_of_mem _ hy)
   refine⟨cl,?_,fun y d h=>?_,fun y h=>?_⟩
   ·rw[List.forIn_cons]
    have ec:cellOf env n=pure c:=by unfold cellOf;rw[show env.cells.lookup n=some c from hc]
    have eb:(NameKind.free == NameKind.free)=true:=rfl
    simp only[eb,if_true,ec,pure_bind]
    exact e1
   ·rcases e2 y d h with z | z
    ·by_cases hy:y=n
     ·subst hy
      rw[List.lookup_cons,beq_self_eq_true]at z
      cases z
      exact .inr hc
     ·rw[List.lookup_cons,beq_eq_false_iff_ne.mpr hy]at z
      exact .inl z
    ·exact .inr z
   ·refine e3 y ?_
    by_cases hy:y=n
    ·subst hy
     exact .inr ⟨c,by rw[List.lookup_cons,beq_self_eq_true]⟩
    ·rcases h with z | ⟨d,z⟩
     ·rcases List.mem_cons.mp z with z | z
      ·exact absurd (congrArg Prod.fst z) hy
      ·exact .inl z
     ·exact .inr ⟨d,by rw[List.lookup_cons,beq_eq_false_iff_ne.mpr hy];exact z⟩
  ·obtain⟨cl,e1,e2,e3⟩:=zfK r acc fun y hy=>hf y (List.mem_cons_of_mem _ hy)
   refine⟨cl,?_,e2,fun y h=>e3 y ?_⟩
   ·rw[List.forIn_cons]
    have hb:(k == NameKind.free)=false:=by simpa using hk
    simp only[hb,Bool.false_eq_true,if_false,pure_bind]
    exact e1
   ·rcases h with z | z
    ·rcases List.mem_cons.mp z with z | z
     ·exact absurd (congrArg Prod.snd z).symm hk
     ·exact .inl z
    ·exact .inr z
theorem zbY {X:Cx} {scope sc:Scope} (ok:X.Ok) (hsc:X.env.scope=sc) (hcell:∀ x∈scope.names,x.2≠.cell)
  (hf:∀ y∈scope.names,y.2=.free→sc.names.lookup y.1=some .cell∨sc.names.lookup y.1=some .free):∃ cl,Clo X scope cl:=by
 obtain⟨cl,e1,e2,e3⟩:=zfK (env:=X.env) scope.names [] fun y hy h=>ok.has y.1 (by
  show X.env.scope.names.lookup y.1=_∨X.env.scope.names.lookup y.1=_
  rw[hsc]
  exact hf y hy h)
 refine⟨cl,?_,fun y c h=>(e2 y c h).elim (fun z=>by cases z) fun z=>z,fun y h=>e3 y (.inl ?_)⟩
 ·unfold closureFor
  have e0:(forIn scope.names ([]:List (Str × Addr)) (fun(x:Str × NameKind) cs=>match x with
    | (name,kind)=>if(kind == NameKind.free)=true then do let c ←cellOf X.env name;pure (ForInStep.yield ((name,c) :: cs)) else pure (ForInStep.yield cs)):Sem (List (Str × Addr)))=pure cl:=e1
  show(forIn scope.names ([]:List (Str × Addr)) _ >>= fun z=>pure z)=pure cl
  rw[bind_pure]
  exact e0
 ·have m:∃ k,(k=.cell∨k=.free)∧(y,k)∈(relabel scope X.env).names:=by
   rcases h with h | h
   ·exact⟨_,.inl rfl,PySem.mem_of_lookup h⟩
   ·exact⟨_,.inr rfl,PySem.mem_of_lookup h⟩
  obtain⟨k,hk,hm⟩:=m
  unfold relabel at hm
  obtain⟨⟨n0,k0⟩,h0,ez⟩:=List.mem_map.mp hm
  by_cases hc:(k0 == NameKind.free&&X.env.scope.kind == .function&&X.env.kindOf n0 == some .cell)=true
  ·dsimp only at ez
   rw[if_pos hc]at ez
   have en:n0=y:=congrArg Prod.fst ez
   have ef:k0=.free:=by
    rw[Bool.and_eq_true,Bool.and_eq_true]at hc
    simpa using hc.1.1
   rw[en,ef]at h0
   exact h0
  ·dsimp only at ez
   rw[if_neg hc]at ez
   have en:n0=y:=congrArg Prod.fst ez
   have ek:k0=k:=congrArg Prod.snd ez
   rw[en,ek]at h0
   rcases hk with z | z
   ·exact absurd z (hcell _ h0)
   ·rw[z]at h0
    exact h0
def tLCI (wi:TI) (ix:List Nat) (tc:TT) (te:TE):TE:=fun σ H Q=>wi σ H fun J H1=>∀ D,H1 D=none →
 ∃ W:Nat→Nat→List V→Hp→Prop,(∃ m,W 0 m [] (upd H1 D (.lst []))) ∧
  ∀ i m ys H',W i m ys H'→H' D=some (.lst ys) ∧
   ((J.stop i H'∧Q (.ref D) H')∨(J.go i H'∧∀ x H'',J.yld i H' x H''→tc (some x :: fvs σ ix) H'' fun b H3 =>
    if b=true then te (some x :: fvs σ ix) H3 fun y H4=>H4 D=some (.lst ys)∧ys.length < sizeLine∧∃ m',m' < m∧W (i+1) m' (ys++[y]) (upd H4 D (.lst (ys++[y])))
    else ∃ m',m' < m∧W (i+1) m' ys H3))
theorem ze5 {prog:Program} {w:World} {A:Around} {R:Result→Shared→Prop} {s:Shared} {elt target iter c:Expr} {scope:Scope} {pos:Pos} {it acc:Value} {env:Env} (J:Nat→Shared→Prop)
  (step:∀ n s,J n s→wpAny (model prog w) A (pyNext it) (fun r s1=>match r with
   | none=>R (.ok .next) s1
   | some v=>wpAny (model prog w) A (letOwnedTupleGo target it v) (fun _ s2=>wpAny (model prog w) A (assign target env v) (fun _ s3=>wpAny (model prog w) A (isTrue c env (eval c env)) (fun b s4=>if b=true then wpAny (model prog w) A (eval elt env) (fun x s5 =>
     wpAny (model prog w) A (call (.builtin "list.append") [acc,x]) (fun _ s6=>∃ m,m < n∧J m s6) (notedBy (model prog w) A env fun e s'=>R (.error e) s') s5) (notedBy (model prog w) A env fun e s'=>R (.error e) s') s4
     else ∃ m,m < n∧J m s4) (notedBy (model prog w) A env fun e s'=>R (.error e) s') s3)
     (notedBy (model prog w) A env fun e s'=>R (.error e) s') s2) (notedBy (model prog w) A env fun e s'=>R (.error e) s') s1) (notedBy (model prog w) A env fun e s'=>R (.error e) s') s)
  (n:Nat) (h0:J n s):codeAny (model prog w) A (.compLoop (.ListComp elt [⟨target,iter,[c],0⟩] scope pos) 0 it acc env) R s:=by
 refine codeAny_loop rfl J (fun n s hJ=>?_) n h0
 show wpAny _ A ((compTurn (.ListComp elt [⟨target,iter,[c],0⟩] scope pos) 0 it acc env).onRaise (fun x=>do noteFrame x env;theTreesLotGoes x)) _ _ s
 refine wpAny_noted ?_
 rw[compTurn_list]
 refine wpAny_bind (wpAny_standAt (wpAny_bind (wpAny_mono (step n s hJ) (fun r s1 h1=>?_) fun _ _ z=>z)))
 cases r with
 | none=>exact wpAny_pure h1
 | some v =>
  refine wpAny_bind (wpAny_mono h1 (fun _ s2 h2=>?_) fun _ _ z=>z)
  refine wpAny_bind (wpAny_mono h2 (fun _ s3 h3=>?_) fun _ _ z=>z)
  refine wpAny_bind ?_
  rw[List.forIn_cons]
  refine wpAny_bind ?_
  rw[if_pos rfl]
  refine wpAny_bind (wpAny_mono h3 (fun b s4 h4=>wpAny_pure ?_) fun _ _ z=>z)
  show wpAny _ A (forIn ([]:List Expr) b _) _ _ s4
  rw[List.forIn_nil]
  refine wpAny_pure ?_
  cases b with
  | false=>exact wpAny_pure ⟨rfl,h4⟩
  | true=>exact wpAny_bind (wpAny_bind (wpAny_mono h4 (fun x s5 h5=>wpAny_bind (wpAny_mono h5 (fun _ s6 h6=>wpAny_pure (wpAny_pure ⟨rfl,h6⟩)) fun _ _ z=>z)) fun _ _ z=>z))
section
variable {X:Cx} {N':List Str} {scope:Scope} {elt iter c:Expr} {x:Str} {px pos:Pos} {wi:TI} {tc:TT} {te:TE} {ix:List Nat}
theorem zhA (hc:X.calm=true) (hkind:scope.kind=.function) (hcell:∀ y∈scope.names,y.2≠.cell) (hnames:∀ y∈scope.names,y.2=.local→scope.names.lookup y.1=some .local) (hx:scope.names.lookup x=some .local)
  (hclo:X.Ok→∃ cl,Clo X scope cl) (hN:N'.Nodup) (hN0:N'[0]?=some x) (hlen:N'.length=ix.length+1)
  (hix:∀(j i:Nat),ix[j]?=some i→∃ y,X.N[i]?=some y∧N'[j+1]?=some y∧(X.env.kindOf y=some .cell∨X.env.kindOf y=some .free)∧((relabel scope X.env).names.lookup y=some .cell∨(relabel scope X.env).names.lookup y=some .free))
  (hi:PI X (.Name x px) iter wi) (ht:∀ cl fp s₃ H₃,PT (az X N' scope cl fp s₃ H₃) c tc) (he:∀ cl fp s₃ H₃,PE (az X N' scope cl fp s₃ H₃) elt te) (hs:∀ v,foldedSetIterable iter X.env v=pure v:=by intro _;rfl) :
  PE X (.ListComp elt [⟨.Name x px,iter,[c],0⟩] scope pos) (tLCI wi ix tc te):=by
 intro pins s σ H Q I h
 obtain⟨cl,C⟩:=hclo I.ok
 rw[eval_ListComp]
 refine wpAny_comprehension_free (use:=none) rfl hs C.eq hkind hnames (thn (hi pins s σ H _ I h) fun v s1 h1=>thn h1 fun itv s2 h2=>?_)
 obtain⟨it,fp,tn,J,H2,e,I2,T,st2,f2,q2⟩:=h2
 subst e
 have hD:H2 s2.heap.objs.size=none:=I2.fresh
 obtain⟨W,⟨m0,w0⟩,turn⟩:=q2 s2.heap.objs.size hD
 refine wpAny_newObj_type (wpAny_newFunctionEnv hcell (by intro y hy;simp at hy) (fun h₁ hns₁ hsb₁=>?_) hkind)
 dsimp only at hns₁ hsb₁ ⊢
 have I3:Inv X pins σ (upd H2 s2.heap.objs.size (.lst [])) { s2 with heap:=s2.heap.push { cls:=.type "list",data:=.seq ([]:List Value).toArray },toks:=s2.toks }:=I2.lnew .nil (Nat.zero_le _)
 generalize hs3:({ s2 with heap:=s2.heap.push { cls:=.type "list",data:=.seq ([]:List Value).toArray },toks:=s2.toks }:Shared)=s3 at I3
 have e3:s3.heap=s2.heap.push { cls:=.type "list",data:=.seq ([]:List Value).toArray }:=by rw[←hs3]
 generalize hDD:s2.heap.objs.size=D at *
 generalize hH3:upd H2 D (.lst [])=H3 at *
 have lt2:∀ b∈fp,b < s2.heap.objs.size:=fun b hb=>by
  obtain⟨o,ho,_⟩:=T.obj 0 _ st2 b hb
  exact Heap.lt_size ho
 have neD:∀ b∈fp,b≠D:=fun b hb=>by rw[←hDD];exact Nat.ne_of_lt (lt2 b hb)
 have f3:∀ b∈fp,zbi X pins H3 b:=fun b hb=>⟨by rw[←hH3,aq (neD b hb)];exact(f2 b hb).1,(f2 b hb).2⟩
 have sz3:s3.heap.objs.size=D+1:=by rw[e3,Heap.size_push,hDD]
 have lt3:∀ b∈fp,b < s3.heap.objs.size:=fun b hb=>by have q:=lt2 b hb;rw[sz3];rw[hDD]at q;exact Nat.lt_succ_of_lt q
 have old:∀ b o,s3.heap.get? b=some o→h₁.get? b=some o:=fun b o eb=>by
  have hb:b < D+1:=by rw[←sz3];exact Heap.lt_size eb
  refine hsb₁.extBut b o ?_ (Heap.get?_push_of_some _ (by rw[←e3];exact eb))
  rw[Heap.size_push,hDD]
  exact Nat.ne_of_lt hb
 have szC:(s2.heap.push { cls:=.type "list",data:=.seq ([]:List Value).toArray }).objs.size=s3.heap.objs.size:=by rw[e3]
 rw[szC]at hns₁ hsb₁
 have I4:Inv (az X N' scope cl fp s3 H3) [] (none :: fvs σ ix) H3 { s3 with heap:=h₁,toks:=s2.toks+([]:List (Str × Value)).length }:=zcm I3 C hkind f3 lt3 hlen hix hns₁ old
 have st4:tn 0 h₁:=T.keep 0 _ _ st2 fun b hb o eb=>old b o (by rw[e3];exact Heap.get?_push_of_some _ eb)
 have stat:∀ {H':Hp},(∀ b∈fp,H' b=none)→∀ b∈fp,zbi (az X N' scope cl fp s3 H3) [] H' b:=fun hn b hb =>
  ⟨hn b hb,Nat.ne_of_lt (lt3 b hb),fun hs'=>(zbr (N':=N') I3 C hkind f3 lt3).exfs b hb hs',.inl hb,fun y c hy=>((zbr (N':=N') I3 C hkind f3 lt3).exf b hb).2 y c hy,fun p hp=>absurd (show p∈([]:List (Addr × Obj)) from hp) (by simp)⟩
 have loop:∀ s4:Shared,s4={ s3 with heap:=h₁,toks:=s2.toks+([]:List (Str × Value)).length } →
   codeAny (model X.prog X.w) X.A (.compLoop (.ListComp elt [⟨.Name x px,iter,[c],0⟩] scope pos) 0 (.ref it) (.ref D) (compEnvC scope cl s3.heap.objs.size X.env))
    (compPost (model X.prog X.w) X.A X.xe none (EP X pins σ Q) (.ref D) s3.heap.objs.size) s4:=by
  rintro s4 rfl
  refine ze5 (fun n s'=>∃ i σ0 H' ys,Inv (az X N' scope cl fp s3 H3) [] (σ0 :: fvs σ ix) H' s'∧tn i s'.heap∧(∀ b∈fp,H' b=none)∧W i n ys H') ?_ m0 ⟨0,none,H3,[],I4,st4,fun b hb=>(f3 b hb).1,w0⟩
  rintro n s5 ⟨i,σ0,H5,ys,I5,st5,fr5,w5⟩
  obtain⟨hD5,alt⟩:=turn i n ys H5 w5
  rcases alt with ⟨stop,q⟩ | ⟨go,step⟩
  ·refine thn (T.done (az X N' scope cl fp s3 H3) rfl rfl rfl hc i [] s5 _ H5 _ I5 (stat fr5) st5 stop) fun r s6 ⟨hr,I6⟩=>?_
   subst hr
   obtain⟨m,hn,_⟩:=I6.loc
   exact⟨m,hn,fun h' hsb=>⟨.ref D,H5,zcF I3 I6 f3 hsb,rfl,q⟩⟩
  ·refine thn (T.item (az X N' scope cl fp s3 H3) rfl rfl rfl hc i [] s5 _ H5 _ I5 (stat fr5) st5 go) fun r s6 ⟨u,hr,h6⟩=>?_
   subst hr
   refine thn h6 fun _ s7 ⟨y7,H7,I7,r7,yl7,st7,fr7⟩=>?_
   have I7':=I7.pinned (stat fr7) (T.obj _ _ st7)
   have G:PG (az X N' scope cl fp s3 H3) (.Name x px) (zcV 0):=zay hN hN0 (.inl (lookup_relabel_local hx)) (.inr (lookup_relabel_local hx))
   refine wpAny_mono (G _ s7 _ H7 y7 u (fun σ' H'=>σ'=some y7 :: fvs σ ix∧H'=H7) I7' r7 ⟨rfl,rfl⟩) (fun _ s8 h8=>?_) fun _ _ f=>False.elim f
   obtain⟨σ8,H8,I8,rfl,rfl⟩:=h8
   have fin:∀ {σ9:Option V} {H9:Hp} {s9:Shared} {zs:List V} {m':Nat},Inv (az X N' scope cl fp s3 H3) ([]++zeb fp s7.heap) (σ9 :: fvs σ ix) H9 s9→m' < n→W (i+1) m' zs H9→∃ m,m < n∧∃ i σ0 H' ys,Inv (az X N' scope cl fp s3 H3) [] (σ0 :: fvs σ ix) H' s9∧tn i s9.heap∧(∀ b∈fp,H' b=none)∧W i m ys H':=fun {σ9 H9 s9 zs m'} I9 hm' w9=>by
    refine⟨m',hm',i+1,σ9,H9,zs,I9.unpinned,T.keep _ _ _ st7 fun b hb o eb=>(I9.pin (b,o) (List.mem_append_right _ (List.mem_append_right _ (zaQ hb eb)))).1,fun b hb=>?_,w9⟩
    obtain⟨o,eb,d⟩:=T.obj _ _ st7 b hb
    exact(I9.pin (b,o) (List.mem_append_right _ (List.mem_append_right _ (zaQ hb eb)))).2.1
   refine wpAny_mono (ht cl fp s3 H3 _ s8 _ H8 _ I8 (step y7 H8 yl7)) (fun b s9 h9=>?_) fun _ _ f=>False.elim f
   obtain⟨H9,I9,q9⟩:=h9
   cases b with
   | false =>
    obtain⟨m',hm',w9⟩:=q9
    exact fin I9 hm' w9
   | true =>
    refine wpAny_mono (he cl fp s3 H3 _ s9 _ H9 _ I9 q9) (fun yv s10 h10=>?_) fun _ _ f=>False.elim f
    obtain⟨y10,H10,I10,r10,hD10,hl10,m',hm',w10⟩:=h10
    refine wpAny_mono (zaS (X:=az X N' scope cl fp s3 H3) _ s10 _ H10 (.ref D) [y10] (.ref D) [yv] (fun _ H'=>H'=upd H10 D (.lst (ys++[y10]))) I10 rfl (.cons r10 .nil) ⟨D,ys,y10,rfl,rfl,hD10,hl10,rfl⟩) (fun _ s11 h11=>?_) fun _ _ f=>False.elim f
    obtain⟨_,H11,I11,_,rfl⟩:=h11
    exact fin I11 hm' w10
 subst hs3
 have fin:=codeAny_compStart_list (loop _ rfl) (T.self X.A 0 _ _ _ st4 (loop _ rfl))
 exact fin
end
end L2
namespace L2
open PySem PySem.Spec PyProof.Rows
theorem Inv.skip {X:Cx} {pins:List (Addr × Obj)} {σ:St} {H:Hp} {s:Shared} {h':Heap} {C:Addr} (I:Inv X pins σ H s) (hs:Heap.SameBut C s.heap h') (hC:X.s₀.heap.objs.size≤C) (hl:C≠X.env.locals) (hcl:∀ x c,X.env.cells.lookup x=some c→c≠C) (hp:∀ p∈X.pn++pins,p.1≠C) (hf:H C=none) :
  Inv X pins σ H { s with heap:=h' }:=by
 have eq:∀ b,b≠C→h'.get? b=s.heap.get? b:=fun b hb=>hs.2 b hb
 have nm:∀ {b:Addr},b∉[C]→b≠C:=fun h z=>h (by rw[z];exact List.mem_cons_self)
 have u:Un (frs X.stack) [C] H H s.heap h':=⟨fun b o e _ _ h2=>(eq b (nm h2)).trans e,fun b o e _ _ h2=>⟨o.slots,(eq b (nm h2)).trans e⟩,fun b o e n _=>n,fun b o e h1=>⟨o,(eq b (nm h1)).trans e⟩,fun _ _ q=>q,fun _ _ _ q=>q,fun _ ps q=>⟨#[],by rw[q];simp⟩⟩
 have hok:HOk X.prog X.w H h':=fun b ob e=>by
  refine(I.hok b ob e).stay (fun c w' hq q=>(eq c ?_).trans q) (fun _ q=>q) fun _ _ q=>q
  rintro rfl
  rcases hq with z | z
  ·rw[←z,hf]at e;cases e
  ·rw[hf]at z;cases z
 refine I.call' (s':={ s with heap:=h' }) (ch:=[C]) rfl u hok I.bare fun b hb=>?_
 have e:b=C:=List.mem_singleton.mp hb
 subst e
 exact⟨.inr hC,hl,hcl,hp⟩
section
variable {X:Cx} {N':List Str} {scope:Scope} {elt iter:Expr} {x:Str} {px pos:Pos} {wi:TI} {te:TE} {ix:List Nat}
theorem zfD {i:Nat} {y0:Str} {py spos:Pos} (hNy:X.N.Nodup) (hiy:X.N[i]?=some y0) (hy:Loc X.env.scope y0) (hc:X.calm=true) (hkind:scope.kind=.function) (hcell:∀ y∈scope.names,y.2≠.cell) (hnames:∀ y∈scope.names,y.2=.local→scope.names.lookup y.1=some .local) (hx:scope.names.lookup x=some .local)
  (hclo:X.Ok→∃ cl,Clo X scope cl) (hN:N'.Nodup) (hN0:N'[0]?=some x) (hlen:N'.length=ix.length+1)
  (hix:∀(j i:Nat),ix[j]?=some i→∃ y,X.N[i]?=some y∧N'[j+1]?=some y∧(X.env.kindOf y=some .cell∨X.env.kindOf y=some .free)∧((relabel scope X.env).names.lookup y=some .cell∨(relabel scope X.env).names.lookup y=some .free))
  (hi:PI X (.Name x px) iter wi) (he:∀ cl fp s₃ H₃,PE (az X N' scope cl fp s₃ H₃) elt te) (hsw:swapsWith (.ListComp elt [⟨.Name x px,iter,[],0⟩] scope pos) (some (.Name y0 py)) spos.line X.env=pure true:=by rfl)
  (hf:X.fn y0=true∨X.env.scope.names.lookup y0=some .local:=by first | exact .inl rfl | exact .inr rfl | assumption) (hs:∀ v,foldedSetIterable iter X.env v=pure v:=by intro _;rfl) :
  PS X (.Assign [.Name y0 py] (.ListComp elt [⟨.Name x px,iter,[],0⟩] scope pos) spos) (tAsg (tLC wi ix te) (zcV i)):=by
 intro pins s σ H Dn I h
 obtain⟨cl,C⟩:=hclo I.ok
 rw[exec_Assign_Name_used _ _ _ _ hsw]
 refine wpAny_bind (wpAny_standAt (wpAny_bind ?_))
 rw[arm_evalThenUse_ListComp]
 refine wpAny_bind (wpAny_mono (wpAny_comprehension_free (use:=some (assign (.Name y0 py) X.env)) (Q:=fun _ s'=>∃ σ' H',Inv X pins σ' H' s'∧Dn.nx σ' H') rfl hs C.eq hkind hnames (thn (hi pins s σ H _ I h) fun v s1 h1=>thn h1 fun itv s2 h2=>?_)) (fun _ s' h'=>wpAny_pure (wpAny_pure h')) fun _ _ z=>z)
 obtain⟨it,fp,tn,J,H2,e,I2,T,st2,f2,q2⟩:=h2
 subst e
 have hD:H2 s2.heap.objs.size=none:=I2.fresh
 obtain⟨W,⟨m0,w0⟩,turn⟩:=q2 s2.heap.objs.size hD
 refine wpAny_newObj_type (wpAny_newFunctionEnv hcell (by intro y hy;simp at hy) (fun h₁ hns₁ hsb₁=>?_) hkind)
 dsimp only at hns₁ hsb₁ ⊢
 have I3:Inv X pins σ (upd H2 s2.heap.objs.size (.lst [])) { s2 with heap:=s2.heap.push { cls:=.type "list",data:=.seq ([]:List Value).toArray },toks:=s2.toks }:=I2.lnew .nil (Nat.zero_le _)
 generalize hs3:({ s2 with heap:=s2.heap.push { cls:=.type "list",data:=.seq ([]:List Value).toArray },toks:=s2.toks }:Shared)=s3 at I3
 have e3:s3.heap=s2.heap.push { cls:=.type "list",data:=.seq ([]:List Value).toArray }:=by rw[←hs3]
 generalize hDD:s2.heap.objs.size=D at *
 generalize hH3:upd H2 D (.lst [])=H3 at *
 have lt2:∀ b∈fp,b < s2.heap.objs.size:=fun b hb=>by
  obtain⟨o,ho,_⟩:=T.obj 0 _ st2 b hb
  exact Heap.lt_size ho
 have neD:∀ b∈fp,b≠D:=fun b hb=>by rw[←hDD];exact Nat.ne_of_lt (lt2 b hb)
 have f3:∀ b∈fp,zbi X pins H3 b:=fun b hb=>⟨by rw[←hH3,aq (neD b hb)];exact(f2 b hb).1,(f2 b hb).2⟩
 have sz3:s3.heap.objs.size=D+1:=by rw[e3,Heap.size_push,hDD]
 have lt3:∀ b∈fp,b < s3.heap.objs.size:=fun b hb=>by have q:=lt2 b hb;rw[sz3];rw[hDD]at q;exact Nat.lt_succ_of_lt q
 have old:∀ b o,s3.heap.get? b=some o→h₁.get? b=some o:=fun b o eb=>by
  have hb:b < D+1:=by rw[←sz3];exact Heap.lt_size eb
  refine hsb₁.extBut b o ?_ (Heap.get?_push_of_some _ (by rw[←e3];exact eb))
  rw[Heap.size_push,hDD]
  exact Nat.ne_of_lt hb
 have szC:(s2.heap.push { cls:=.type "list",data:=.seq ([]:List Value).toArray }).objs.size=s3.heap.objs.size:=by rw[e3]
 have os3:s3.os=s2.os:=by rw[←hs3]
 rw[szC]at hns₁ hsb₁
 have I4:Inv (az X N' scope cl fp s3 H3) [] (none :: fvs σ ix) H3 { s3 with heap:=h₁,toks:=s2.toks+([]:List (Str × Value)).length }:=zcm I3 C hkind f3 lt3 hlen hix hns₁ old
 have st4:tn 0 h₁:=T.keep 0 _ _ st2 fun b hb o eb=>old b o (by rw[e3];exact Heap.get?_push_of_some _ eb)
 have stat:∀ {H':Hp},(∀ b∈fp,H' b=none)→∀ b∈fp,zbi (az X N' scope cl fp s3 H3) [] H' b:=fun hn b hb =>
  ⟨hn b hb,Nat.ne_of_lt (lt3 b hb),fun hs'=>(zbr (N':=N') I3 C hkind f3 lt3).exfs b hb hs',.inl hb,fun y c hy=>((zbr (N':=N') I3 C hkind f3 lt3).exf b hb).2 y c hy,fun p hp=>absurd (show p∈([]:List (Addr × Obj)) from hp) (by simp)⟩
 have loop:∀ s4:Shared,s4={ s3 with heap:=h₁,toks:=s2.toks+([]:List (Str × Value)).length } →
   codeAny (model X.prog X.w) X.A (.compLoop (.ListComp elt [⟨.Name x px,iter,[],0⟩] scope pos) 0 (.ref it) (.ref D) (compEnvC scope cl s3.heap.objs.size X.env))
    (compPost (model X.prog X.w) X.A X.xe (some (assign (.Name y0 py) X.env)) (fun _ s'=>∃ σ' H',Inv X pins σ' H' s'∧Dn.nx σ' H') (.ref D) s3.heap.objs.size) s4:=by
  rintro s4 rfl
  refine zdc (fun n s'=>∃ i σ0 H' ys,Inv (az X N' scope cl fp s3 H3) [] (σ0 :: fvs σ ix) H' s'∧tn i s'.heap∧(∀ b∈fp,H' b=none)∧W i n ys H') ?_ m0 ⟨0,none,H3,[],I4,st4,fun b hb=>(f3 b hb).1,w0⟩
  rintro n s5 ⟨i,σ0,H5,ys,I5,st5,fr5,w5⟩
  obtain⟨hD5,alt⟩:=turn i n ys H5 w5
  rcases alt with ⟨stop,q⟩ | ⟨go,step⟩
  ·refine thn (T.done (az X N' scope cl fp s3 H3) rfl rfl rfl hc i [] s5 _ H5 _ I5 (stat fr5) st5 stop) fun r s6 ⟨hr,I6⟩=>?_
   subst hr
   obtain⟨m,hn,_⟩:=I6.loc
   have Io:Inv X pins σ H5 s6:=zcF (h':=s6.heap) I3 I6 f3 ⟨rfl,fun _ _=>rfl⟩
   refine wpAny_assign_Name (zdU (v:=.ref D) Io hNy hiy hy rfl (fun s7 I7 ⟨a,sb,ha⟩=>?_) hf)
   have ltC:∀ x c,X.env.cells.lookup x=some c→c < s3.heap.objs.size:=fun x c e=>by
    obtain⟨v,hv⟩:=I3.cell x c e
    exact hv.lt
   have hCa:s3.heap.objs.size≠a:=by
    rintro rfl
    rcases ha with z | z
    ·exact absurd I3.lt (by rw[←z];exact Nat.lt_irrefl _)
    ·exact absurd (ltC _ _ z) (Nat.lt_irrefl _)
   refine⟨m,hn.sameBut sb hCa,fun h' hsb=>⟨_,H5,?_,q⟩⟩
   exact I7.skip hsb I3.sz (Nat.ne_of_gt I3.lt) (fun x c e=>Nat.ne_of_lt (ltC x c e)) (fun p hp=>Nat.ne_of_lt (Heap.lt_size (I3.pin p hp).1)) I6.free
  ·refine thn (T.item (az X N' scope cl fp s3 H3) rfl rfl rfl hc i [] s5 _ H5 _ I5 (stat fr5) st5 go) fun r s6 ⟨u,hr,h6⟩=>?_
   subst hr
   refine thn h6 fun _ s7 ⟨y7,H7,I7,r7,yl7,st7,fr7⟩=>?_
   have I7':=I7.pinned (stat fr7) (T.obj _ _ st7)
   have G:PG (az X N' scope cl fp s3 H3) (.Name x px) (zcV 0):=zay hN hN0 (.inl (lookup_relabel_local hx)) (.inr (lookup_relabel_local hx))
   refine wpAny_mono (G _ s7 _ H7 y7 u (fun σ' H'=>σ'=some y7 :: fvs σ ix∧H'=H7) I7' r7 ⟨rfl,rfl⟩) (fun _ s8 h8=>?_) fun _ _ f=>False.elim f
   obtain⟨σ8,H8,I8,rfl,rfl⟩:=h8
   refine wpAny_mono (he cl fp s3 H3 _ s8 _ H8 _ I8 (step y7 H8 yl7)) (fun yv s9 h9=>?_) fun _ _ f=>False.elim f
   obtain⟨y9,H9,I9,r9,hD9,hl9,m',hm',w9⟩:=h9
   refine wpAny_mono (zaS (X:=az X N' scope cl fp s3 H3) _ s9 _ H9 (.ref D) [y9] (.ref D) [yv] (fun _ H'=>H'=upd H9 D (.lst (ys++[y9]))) I9 rfl (.cons r9 .nil) ⟨D,ys,y9,rfl,rfl,hD9,hl9,rfl⟩) (fun _ s10 h10=>?_) fun _ _ f=>False.elim f
   obtain⟨_,H10,I10,_,rfl⟩:=h10
   refine⟨m',hm',i+1,some y7,_,ys++[y9],I10.unpinned,T.keep _ _ _ st7 fun b hb o eb=>(I10.pin (b,o) (List.mem_append_right _ (List.mem_append_right _ (zaQ hb eb)))).1,fun b hb=>?_,w9⟩
   obtain⟨o,eb,d⟩:=T.obj _ _ st7 b hb
   exact(I10.pin (b,o) (List.mem_append_right _ (List.mem_append_right _ (zaQ hb eb)))).2.1
 subst hs3
 have fin:=codeAny_compStart_list (loop _ rfl) (T.self X.A 0 _ _ _ st4 (loop _ rfl))
 exact fin
end
section
variable {X:Cx} {N':List Str} {scope:Scope} {elt iter c:Expr} {x:Str} {px pos:Pos} {wi:TI} {tc:TT} {te:TE} {ix:List Nat}
theorem zkw {i:Nat} {y0:Str} {py spos:Pos} (hNy:X.N.Nodup) (hiy:X.N[i]?=some y0) (hy:Loc X.env.scope y0) (hc:X.calm=true) (hkind:scope.kind=.function) (hcell:∀ y∈scope.names,y.2≠.cell) (hnames:∀ y∈scope.names,y.2=.local→scope.names.lookup y.1=some .local) (hx:scope.names.lookup x=some .local)
  (hclo:X.Ok→∃ cl,Clo X scope cl) (hN:N'.Nodup) (hN0:N'[0]?=some x) (hlen:N'.length=ix.length+1)
  (hix:∀(j i:Nat),ix[j]?=some i→∃ y,X.N[i]?=some y∧N'[j+1]?=some y∧(X.env.kindOf y=some .cell∨X.env.kindOf y=some .free)∧((relabel scope X.env).names.lookup y=some .cell∨(relabel scope X.env).names.lookup y=some .free))
  (hi:PI X (.Name x px) iter wi) (ht:∀ cl fp s₃ H₃,PT (az X N' scope cl fp s₃ H₃) c tc) (he:∀ cl fp s₃ H₃,PE (az X N' scope cl fp s₃ H₃) elt te) (hsw:swapsWith (.ListComp elt [⟨.Name x px,iter,[c],0⟩] scope pos) (some (.Name y0 py)) spos.line X.env=pure true:=by rfl)
  (hf:X.fn y0=true∨X.env.scope.names.lookup y0=some .local:=by first | exact .inl rfl | exact .inr rfl | assumption) (hs:∀ v,foldedSetIterable iter X.env v=pure v:=by intro _;rfl) :
  PS X (.Assign [.Name y0 py] (.ListComp elt [⟨.Name x px,iter,[c],0⟩] scope pos) spos) (tAsg (tLCI wi ix tc te) (zcV i)):=by
 intro pins s σ H Dn I h
 obtain⟨cl,C⟩:=hclo I.ok
 rw[exec_Assign_Name_used _ _ _ _ hsw]
 refine wpAny_bind (wpAny_standAt (wpAny_bind ?_))
 rw[arm_evalThenUse_ListComp]
 refine wpAny_bind (wpAny_mono (wpAny_comprehension_free (use:=some (assign (.Name y0 py) X.env)) (Q:=fun _ s'=>∃ σ' H',Inv X pins σ' H' s'∧Dn.nx σ' H') rfl hs C.eq hkind hnames (thn (hi pins s σ H _ I h) fun v s1 h1=>thn h1 fun itv s2 h2=>?_)) (fun _ s' h'=>wpAny_pure (wpAny_pure h')) fun _ _ z=>z)
 obtain⟨it,fp,tn,J,H2,e,I2,T,st2,f2,q2⟩:=h2
 subst e
 have hD:H2 s2.heap.objs.size=none:=I2.fresh
 obtain⟨W,⟨m0,w0⟩,turn⟩:=q2 s2.heap.objs.size hD
 refine wpAny_newObj_type (wpAny_newFunctionEnv hcell (by intro y hy;simp at hy) (fun h₁ hns₁ hsb₁=>?_) hkind)
 dsimp only at hns₁ hsb₁ ⊢
 have I3:Inv X pins σ (upd H2 s2.heap.objs.size (.lst [])) { s2 with heap:=s2.heap.push { cls:=.type "list",data:=.seq ([]:List Value).toArray },toks:=s2.toks }:=I2.lnew .nil (Nat.zero_le _)
 generalize hs3:({ s2 with heap:=s2.heap.push { cls:=.type "list",data:=.seq ([]:List Value).toArray },toks:=s2.toks }:Shared)=s3 at I3
 have e3:s3.heap=s2.heap.push { cls:=.type "list",data:=.seq ([]:List Value).toArray }:=by rw[←hs3]
 generalize hDD:s2.heap.objs.size=D at *
 generalize hH3:upd H2 D (.lst [])=H3 at *
 have lt2:∀ b∈fp,b < s2.heap.objs.size:=fun b hb=>by
  obtain⟨o,ho,_⟩:=T.obj 0 _ st2 b hb
  exact Heap.lt_size ho
 have neD:∀ b∈fp,b≠D:=fun b hb=>by rw[←hDD];exact Nat.ne_of_lt (lt2 b hb)
 have f3:∀ b∈fp,zbi X pins H3 b:=fun b hb=>⟨by rw[←hH3,aq (neD b hb)];exact(f2 b hb).1,(f2 b hb).2⟩
 have sz3:s3.heap.objs.size=D+1:=by rw[e3,Heap.size_push,hDD]
 have lt3:∀ b∈fp,b < s3.heap.objs.size:=fun b hb=>by have q:=lt2 b hb;rw[sz3];rw[hDD]at q;exact Nat.lt_succ_of_lt q
 have old:∀ b o,s3.heap.get? b=some o→h₁.get? b=some o:=fun b o eb=>by
  have hb:b < D+1:=by rw[←sz3];exact Heap.lt_size eb
  refine hsb₁.extBut b o ?_ (Heap.get?_push_of_some _ (by rw[←e3];exact eb))
  rw[Heap.size_push,hDD]
  exact Nat.ne_of_lt hb
 have szC:(s2.heap.push { cls:=.type "list",data:=.seq ([]:List Value).toArray }).objs.size=s3.heap.objs.size:=by rw[e3]
 rw[szC]at hns₁ hsb₁
 have I4:Inv (az X N' scope cl fp s3 H3) [] (none :: fvs σ ix) H3 { s3 with heap:=h₁,toks:=s2.toks+([]:List (Str × Value)).length }:=zcm I3 C hkind f3 lt3 hlen hix hns₁ old
 have st4:tn 0 h₁:=T.keep 0 _ _ st2 fun b hb o eb=>old b o (by rw[e3];exact Heap.get?_push_of_some _ eb)
 have stat:∀ {H':Hp},(∀ b∈fp,H' b=none)→∀ b∈fp,zbi (az X N' scope cl fp s3 H3) [] H' b:=fun hn b hb =>
  ⟨hn b hb,Nat.ne_of_lt (lt3 b hb),fun hs'=>(zbr (N':=N') I3 C hkind f3 lt3).exfs b hb hs',.inl hb,fun y c hy=>((zbr (N':=N') I3 C hkind f3 lt3).exf b hb).2 y c hy,fun p hp=>absurd (show p∈([]:List (Addr × Obj)) from hp) (by simp)⟩
 have loop:∀ s4:Shared,s4={ s3 with heap:=h₁,toks:=s2.toks+([]:List (Str × Value)).length } →
   codeAny (model X.prog X.w) X.A (.compLoop (.ListComp elt [⟨.Name x px,iter,[c],0⟩] scope pos) 0 (.ref it) (.ref D) (compEnvC scope cl s3.heap.objs.size X.env))
    (compPost (model X.prog X.w) X.A X.xe (some (assign (.Name y0 py) X.env)) (fun _ s'=>∃ σ' H',Inv X pins σ' H' s'∧Dn.nx σ' H') (.ref D) s3.heap.objs.size) s4:=by
  rintro s4 rfl
  refine ze5 (fun n s'=>∃ i σ0 H' ys,Inv (az X N' scope cl fp s3 H3) [] (σ0 :: fvs σ ix) H' s'∧tn i s'.heap∧(∀ b∈fp,H' b=none)∧W i n ys H') ?_ m0 ⟨0,none,H3,[],I4,st4,fun b hb=>(f3 b hb).1,w0⟩
  rintro n s5 ⟨i,σ0,H5,ys,I5,st5,fr5,w5⟩
  obtain⟨hD5,alt⟩:=turn i n ys H5 w5
  rcases alt with ⟨stop,q⟩ | ⟨go,step⟩
  ·refine thn (T.done (az X N' scope cl fp s3 H3) rfl rfl rfl hc i [] s5 _ H5 _ I5 (stat fr5) st5 stop) fun r s6 ⟨hr,I6⟩=>?_
   subst hr
   obtain⟨m,hn,_⟩:=I6.loc
   have Io:Inv X pins σ H5 s6:=zcF (h':=s6.heap) I3 I6 f3 ⟨rfl,fun _ _=>rfl⟩
   refine wpAny_assign_Name (zdU (v:=.ref D) Io hNy hiy hy rfl (fun s7 I7 ⟨a,sb,ha⟩=>?_) hf)
   have ltC:∀ x c,X.env.cells.lookup x=some c→c < s3.heap.objs.size:=fun x c e=>by
    obtain⟨v,hv⟩:=I3.cell x c e
    exact hv.lt
   have hCa:s3.heap.objs.size≠a:=by
    rintro rfl
    rcases ha with z | z
    ·exact absurd I3.lt (by rw[←z];exact Nat.lt_irrefl _)
    ·exact absurd (ltC _ _ z) (Nat.lt_irrefl _)
   refine⟨m,hn.sameBut sb hCa,fun h' hsb=>⟨_,H5,?_,q⟩⟩
   exact I7.skip hsb I3.sz (Nat.ne_of_gt I3.lt) (fun x c e=>Nat.ne_of_lt (ltC x c e)) (fun p hp=>Nat.ne_of_lt (Heap.lt_size (I3.pin p hp).1)) I6.free
  ·refine thn (T.item (az X N' scope cl fp s3 H3) rfl rfl rfl hc i [] s5 _ H5 _ I5 (stat fr5) st5 go) fun r s6 ⟨u,hr,h6⟩=>?_
   subst hr
   refine thn h6 fun _ s7 ⟨y7,H7,I7,r7,yl7,st7,fr7⟩=>?_
   have I7':=I7.pinned (stat fr7) (T.obj _ _ st7)
   have G:PG (az X N' scope cl fp s3 H3) (.Name x px) (zcV 0):=zay hN hN0 (.inl (lookup_relabel_local hx)) (.inr (lookup_relabel_local hx))
   refine wpAny_mono (G _ s7 _ H7 y7 u (fun σ' H'=>σ'=some y7 :: fvs σ ix∧H'=H7) I7' r7 ⟨rfl,rfl⟩) (fun _ s8 h8=>?_) fun _ _ f=>False.elim f
   obtain⟨σ8,H8,I8,rfl,rfl⟩:=h8
   have fin:∀ {σ9:Option V} {H9:Hp} {s9:Shared} {zs:List V} {m':Nat},Inv (az X N' scope cl fp s3 H3) ([]++zeb fp s7.heap) (σ9 :: fvs σ ix) H9 s9→m' < n→W (i+1) m' zs H9→∃ m,m < n∧∃ i σ0 H' ys,Inv (az X N' scope cl fp s3 H3) [] (σ0 :: fvs σ ix) H' s9∧tn i s9.heap∧(∀ b∈fp,H' b=none)∧W i m ys H':=fun {σ9 H9 s9 zs m'} I9 hm' w9=>by
    refine⟨m',hm',i+1,σ9,H9,zs,I9.unpinned,T.keep _ _ _ st7 fun b hb o eb=>(I9.pin (b,o) (List.mem_append_right _ (List.mem_append_right _ (zaQ hb eb)))).1,fun b hb=>?_,w9⟩
    obtain⟨o,eb,d⟩:=T.obj _ _ st7 b hb
    exact(I9.pin (b,o) (List.mem_append_right _ (List.mem_append_right _ (zaQ hb eb)))).2.1
   refine wpAny_mono (ht cl fp s3 H3 _ s8 _ H8 _ I8 (step y7 H8 yl7)) (fun b s9 h9=>?_) fun _ _ f=>False.elim f
   obtain⟨H9,I9,q9⟩:=h9
   cases b with
   | false =>
    obtain⟨m',hm',w9⟩:=q9
    exact fin I9 hm' w9
   | true =>
    refine wpAny_mono (he cl fp s3 H3 _ s9 _ H9 _ I9 q9) (fun yv s10 h10=>?_) fun _ _ f=>False.elim f
    obtain⟨y10,H10,I10,r10,hD10,hl10,m',hm',w10⟩:=h10
    refine wpAny_mono (zaS (X:=az X N' scope cl fp s3 H3) _ s10 _ H10 (.ref D) [y10] (.ref D) [yv] (fun _ H'=>H'=upd H10 D (.lst (ys++[y10]))) I10 rfl (.cons r10 .nil) ⟨D,ys,y10,rfl,rfl,hD10,hl10,rfl⟩) (fun _ s11 h11=>?_) fun _ _ f=>False.elim f
    obtain⟨_,H11,I11,_,rfl⟩:=h11
    exact fin I11 hm' w10
 subst hs3
 have fin:=codeAny_compStart_list (loop _ rfl) (T.self X.A 0 _ _ _ st4 (loop _ rfl))
 exact fin
end
end L2
namespace L2
open PySem PySem.Spec PyProof.Rows
inductive Dt where
 | non | bl (b:Bool) | int (i:Int) | str (x:Str) | tup (xs:List Dt) | lst (xs:List Dt)
mutual
def peq:Dt→Dt→Bool
 | .non,.non=>true
 | .bl a,.bl b=>a == b
 | .bl a,.int b=>(if a then 1 else 0) == b
 | .int a,.bl b=>a == (if b then 1 else 0)
 | .int a,.int b=>a == b
 | .str a,.str b=>a == b
 | .tup xs,.tup ys=>zbs xs ys
 | .lst xs,.lst ys=>zbs xs ys
 | _,_=>false
def zbs:List Dt→List Dt→Bool
 | [],[]=>true
 | x :: xs,y :: ys=>peq x y&&zbs xs ys
 | _,_=>false
end
mutual
def dep:Dt→Nat
 | .tup xs=>zau xs+1
 | .lst xs=>zau xs+1
 | _=>0
def zau:List Dt→Nat
 | []=>0
 | x :: xs=>max (dep x) (zau xs)
end
mutual
def nob:Dt→Bool
 | .bl _=>false
 | .tup xs=>zdC xs
 | .lst xs=>zdC xs
 | _=>true
def zdC:List Dt→Bool
 | []=>true
 | x :: xs=>nob x&&zdC xs
end
mutual
theorem zbw:∀ d:Dt,peq d d=true
 | .non=>rfl
 | .bl _=>by simp [peq]
 | .int _=>by simp [peq]
 | .str _=>by simp [peq]
 | .tup xs=>by simp only[peq];exact zeX xs
 | .lst xs=>by simp only[peq];exact zeX xs
theorem zeX:∀ d:List Dt,zbs d d=true
 | []=>by simp [zbs]
 | x :: xs=>by simp only[zbs,zbw x,zeX xs,Bool.and_self]
end
mutual
theorem zhy:∀ d e:Dt,nob d=true→nob e=true→peq d e=true→d=e
 | .non,e,_,_,h=>by cases e <;> first | rfl | (simp [peq]at h)
 | .bl _,e,h,_,_=>by simp [nob]at h
 | .int _,e,_,h2,h=>by cases e <;> first | (simp [nob]at h2;done) | (simp [peq]at h;done) | (simp [peq]at h;rw[h])
 | .str _,e,_,h2,h=>by cases e <;> first | (simp [peq]at h;done) | (simp [peq]at h;rw[h])
 | .tup xs,e,h1,h2,h=>by
  cases e with
  | tup ys=>simp only[peq]at h;simp only[nob]at h1 h2;rw[zgo xs ys h1 h2 h]
  | _=>simp [peq]at h
 | .lst xs,e,h1,h2,h=>by
  cases e with
  | lst ys=>simp only[peq]at h;simp only[nob]at h1 h2;rw[zgo xs ys h1 h2 h]
  | _=>simp [peq]at h
theorem zgo:∀ d e:List Dt,zdC d=true→zdC e=true→zbs d e=true→d=e
 | [],e,_,_,h=>by cases e <;> first | rfl | (simp [zbs]at h)
 | x :: xs,e,h1,h2,h=>by
  cases e with
  | nil=>simp [zbs]at h
  | cons y ys =>
   simp only[zbs,Bool.and_eq_true]at h
   simp only[zdC,Bool.and_eq_true]at h1 h2
   rw[zhy x y h1.1 h2.1 h.1,zgo xs ys h1.2 h2.2 h.2]
end
mutual
def Has (K:W.Frag) (H:Hp):Dt→V→Prop
 | .non,v=>v=.non
 | .bl b,v=>v=.bl b
 | .int i,v=>v=.int i
 | .str x,v=>v=.str x
 | .tup ds,v=>∃ a xs,v=.ref a∧SqT K H a xs∧HasL K H ds xs
 | .lst ds,v=>∃ a xs,v=.ref a∧SqL K H a xs∧HasL K H ds xs
def HasL (K:W.Frag) (H:Hp):List Dt→List V→Prop
 | [],vs=>vs=[]
 | d :: ds,vs=>∃ v r,vs=v :: r∧Has K H d v∧HasL K H ds r
end
theorem HasL.length {K:W.Frag} {H:Hp}:∀ {ds:List Dt} {vs:List V},HasL K H ds vs→ds.length=vs.length
 | [],vs,h=>by simp only[HasL]at h;rw[h];rfl
 | d :: ds,vs,h=>by
  simp only[HasL]at h
  obtain⟨v,r,rfl,_,h2⟩:=h
  rw[List.length_cons,List.length_cons,HasL.length h2]
theorem HasL.get {K:W.Frag} {H:Hp}:∀ {ds:List Dt} {vs:List V} {i:Nat} {v:V},HasL K H ds vs→vs[i]?=some v→∃ d,ds[i]?=some d∧Has K H d v
 | [],vs,i,v,h,e=>by simp only[HasL]at h;rw[h]at e;simp at e
 | d :: ds,vs,i,v,h,e=>by
  simp only[HasL]at h
  obtain⟨v0,r,rfl,h1,h2⟩:=h
  cases i with
  | zero=>simp at e;subst e;exact⟨d,rfl,h1⟩
  | succ i =>
   obtain⟨d',e1,e2⟩:=HasL.get (i:=i) h2 (by simpa using e)
   exact⟨d',by simpa using e1,e2⟩
theorem HasL.getD {K:W.Frag} {H:Hp}:∀ {ds:List Dt} {vs:List V} {i:Nat} {d:Dt},HasL K H ds vs→ds[i]?=some d→∃ v,vs[i]?=some v∧Has K H d v
 | [],vs,i,d,h,e=>by simp at e
 | d0 :: ds,vs,i,d,h,e=>by
  simp only[HasL]at h
  obtain⟨v0,r,rfl,h1,h2⟩:=h
  cases i with
  | zero=>simp at e;subst e;exact⟨v0,rfl,h1⟩
  | succ i =>
   obtain⟨v,e1,e2⟩:=HasL.getD (i:=i) h2 (by simpa using e)
   exact⟨v,by simpa using e1,e2⟩
theorem HasL.append {K:W.Frag} {H:Hp}:∀ {ds es:List Dt} {vs ws:List V},HasL K H ds vs→HasL K H es ws→HasL K H (ds++es) (vs++ws)
 | [],es,vs,ws,h,h'=>by simp only[HasL]at h;rw[h];exact h'
 | d :: ds,es,vs,ws,h,h'=>by
  simp only[HasL]at h
  obtain⟨v,r,rfl,h1,h2⟩:=h
  show HasL K H (d :: (ds++es)) (v :: (r++ws))
  simp only[HasL]
  exact⟨v,r++ws,rfl,h1,HasL.append h2 h'⟩
theorem HasL.one {K:W.Frag} {H:Hp} {d:Dt} {v:V} (h:Has K H d v):HasL K H [d] [v]:=by
 simp only[HasL]
 exact⟨v,[],rfl,h,rfl⟩
theorem HasL.ints {K:W.Frag} {H:Hp}:∀ ns:List Int,HasL K H (ns.map Dt.int) (ns.map V.int)
 | []=>by simp [HasL]
 | n :: ns=>by
  simp only[List.map_cons,HasL]
  exact⟨_,_,rfl,by simp only[Has],HasL.ints ns⟩
mutual
def nol:Dt→Bool
 | .lst _=>false
 | .tup xs=>zbo xs
 | _=>true
def zbo:List Dt→Bool
 | []=>true
 | x :: xs=>nol x&&zbo xs
end
def zak (H H':Hp):Prop:=∀ b xs,Rd H b (.tup xs)→Rd H' b (.tup xs)
theorem zak.sq {K:W.Frag} {H H':Hp} {a:Addr} {xs:List V} (k:zak H H') (h:SqT K H a xs):SqT K H' a xs:=h.elim (fun z=>.inl (k a xs z)) .inr
theorem zak.trans {H H1 H2:Hp} (a:zak H H1) (b:zak H1 H2):zak H H2:=fun c xs h=>b c xs (a c xs h)
theorem zak.of_same {H H':Hp} (e:ar H H'):zak H H':=fun b xs h=>by
 rcases h with h | ⟨o,h⟩
 ·exact .inl (e _ _ h)
 ·exact .inr ⟨o,e _ _ h⟩
theorem zak.lst {H:Hp} {l:Addr} {xs ys:List V} (h:H l=some (.lst xs)):zak H (upd H l (.lst ys)):=fun b zs q=>by
 rcases q with q | ⟨o,q⟩
 ·exact .inl (by rw[aq (zds q h (fun z=>by cases z))];exact q)
 ·exact .inr ⟨o,by rw[aq (zds q h (fun z=>by cases z))];exact q⟩
mutual
theorem Has.keep {K:W.Frag} {H H':Hp} (k:zak H H'):∀ {d:Dt} {v:V},nol d=true→Has K H d v→Has K H' d v
 | .non,v,_,h=>by simp only[Has]at h ⊢;exact h
 | .bl _,v,_,h=>by simp only[Has]at h ⊢;exact h
 | .int _,v,_,h=>by simp only[Has]at h ⊢;exact h
 | .str _,v,_,h=>by simp only[Has]at h ⊢;exact h
 | .tup ds,v,n,h=>by
  simp only[Has]at h ⊢
  simp only[nol]at n
  obtain⟨a,xs,e,h1,h2⟩:=h
  exact⟨a,xs,e,k.sq h1,HasL.keep k n h2⟩
 | .lst _,v,n,h=>by simp [nol]at n
theorem HasL.keep {K:W.Frag} {H H':Hp} (k:zak H H'):∀ {ds:List Dt} {vs:List V},zbo ds=true→HasL K H ds vs→HasL K H' ds vs
 | [],vs,_,h=>by simp only[HasL]at h ⊢;exact h
 | d :: ds,vs,n,h=>by
  simp only[HasL]at h ⊢
  simp only[zbo,Bool.and_eq_true]at n
  obtain⟨v,r,e,h1,h2⟩:=h
  exact⟨v,r,e,Has.keep k n.1 h1,HasL.keep k n.2 h2⟩
end
section
variable {X:Cx} {pins:List (Addr × Obj)} {σ:St} {H:Hp} {s:Shared}
theorem zhU (I:Inv X pins σ H s) {a:Addr} {xs ys:List V} (h:SqL X.K H a xs) (h':SqT X.K H a ys):False:=by
 obtain⟨its,_,p,_⟩:=I.list h
 obtain⟨jts,_,q,_⟩:=I.tuple h'
 obtain⟨o,e,c,_⟩:=p.isList
 obtain⟨o',e',c',_⟩:=q
 rw[e]at e'
 cases e'
 rw[c]at c'
 exact absurd (Value.type.inj c') (by decide)
mutual
theorem Has.inj (I:Inv X pins σ H s):∀(d e:Dt) (v:V),Has X.K H d v→Has X.K H e v→d=e
 | .non,e,v,h,h'=>by
  simp only[Has]at h
  subst h
  cases e <;> simp only[Has]at h' <;> first | rfl | (cases h';done) | (obtain⟨_,_,z,_⟩:=h';cases z)
 | .bl b,e,v,h,h'=>by
  simp only[Has]at h
  subst h
  cases e <;> simp only[Has]at h' <;> first | (cases h';done) | (cases h';rfl) | (obtain⟨_,_,z,_⟩:=h';cases z)
 | .int b,e,v,h,h'=>by
  simp only[Has]at h
  subst h
  cases e <;> simp only[Has]at h' <;> first | (cases h';done) | (cases h';rfl) | (obtain⟨_,_,z,_⟩:=h';cases z)
 | .str b,e,v,h,h'=>by
  simp only[Has]at h
  subst h
  cases e <;> simp only[Has]at h' <;> first | (cases h';done) | (cases h';rfl) | (obtain⟨_,_,z,_⟩:=h';cases z)
 | .tup ds,e,v,h,h'=>by
  simp only[Has]at h
  obtain⟨a,xs,rfl,h1,h2⟩:=h
  cases e with
  | tup es =>
   simp only[Has]at h'
   obtain⟨a',ys,z,h3,h4⟩:=h'
   cases z
   rw[I.tuple_inj h3 h1]at h4
   rw[HasL.inj I ds es xs h2 h4]
  | lst es =>
   simp only[Has]at h'
   obtain⟨a',ys,z,h3,h4⟩:=h'
   cases z
   exact(zhU I h3 h1).elim
  | _=>simp only[Has]at h';cases h'
 | .lst ds,e,v,h,h'=>by
  simp only[Has]at h
  obtain⟨a,xs,rfl,h1,h2⟩:=h
  cases e with
  | lst es =>
   simp only[Has]at h'
   obtain⟨a',ys,z,h3,h4⟩:=h'
   cases z
   rw[I.list_inj h3 h1]at h4
   rw[HasL.inj I ds es xs h2 h4]
  | tup es =>
   simp only[Has]at h'
   obtain⟨a',ys,z,h3,h4⟩:=h'
   cases z
   exact(zhU I h1 h3).elim
  | _=>simp only[Has]at h';cases h'
theorem HasL.inj (I:Inv X pins σ H s):∀(ds es:List Dt) (vs:List V),HasL X.K H ds vs→HasL X.K H es vs→ds=es
 | [],es,vs,h,h'=>by
  simp only[HasL]at h
  subst h
  cases es with
  | nil=>rfl
  | cons e es=>simp only[HasL]at h';obtain⟨_,_,z,_⟩:=h';cases z
 | d :: ds,es,vs,h,h'=>by
  simp only[HasL]at h
  obtain⟨v,r,rfl,h1,h2⟩:=h
  cases es with
  | nil=>simp only[HasL]at h';cases h'
  | cons e es =>
   simp only[HasL]at h'
   obtain⟨v',r',z,h3,h4⟩:=h'
   cases z
   rw[Has.inj I d e v h1 h3,HasL.inj I ds es r h2 h4]
end
def zci (ds es:List Dt) (j:Nat):Bool:=match ds[j]?,es[j]? with
 | some d,some e=>peq d e
 | _,_=>true
theorem zjL (d e:Dt) (ds es:List Dt):zci (d :: ds) (e :: es) 0=peq d e:=rfl
theorem zfg:∀(ds es:List Dt),((List.range (min ds.length es.length)).all (zci ds es)&&ds.length == es.length)=zbs ds es
 | [],[]=>by simp [zbs]
 | [],e :: es=>by simp [zbs]
 | d :: ds,[]=>by simp [zbs]
 | d :: ds,e :: es=>by
  have ih:=zfg ds es
  have e1:min (d :: ds).length (e :: es).length=min ds.length es.length+1:=by simp only[List.length_cons];omega
  rw[e1,List.range_succ_eq_map,List.all_cons,zjL,List.all_map]
  have e2:(zci (d :: ds) (e :: es) ∘ Nat.succ)=zci ds es:=by funext j;rfl
  rw[e2,List.length_cons,List.length_cons]
  simp only[zbs]
  rw[←ih,Bool.and_assoc]
  congr 2
  simp
theorem zlx {ds es:List Dt} (h:ds.length=es.length):(List.range ds.length).all (zci ds es)=zbs ds es:=by
 rw[←zfg,←h,Nat.min_self]
 simp
theorem zk9 {ds es:List Dt} (h:ds.length≠es.length):zbs ds es=false:=by
 rw[←zfg]
 have:(ds.length == es.length)=false:=by simpa using h
 rw[this,Bool.and_false]
theorem zb8 (I:Inv X pins σ H s) {a:Addr} {xs:List V} {ds:List Dt} (h:SqT X.K H a xs) (g:HasL X.K H ds xs):∃ its:List Value,aD xs its∧s.heap.IsTuple a its.toArray∧its.toArray.size=ds.length:=by
 obtain⟨its,r,p,_⟩:=I.tuple h
 exact⟨its,r,p,by rw[List.size_toArray,←r.length,←g.length]⟩
theorem zb9 (I:Inv X pins σ H s) {a:Addr} {xs:List V} {ds:List Dt} (h:SqL X.K H a xs) (g:HasL X.K H ds xs):∃ its:List Value,aD xs its∧s.heap.IsList a its.toArray∧its.toArray.size=ds.length:=by
 obtain⟨its,r,p,_⟩:=I.list h
 exact⟨its,r,p.isList,by rw[List.size_toArray,←r.length,←g.length]⟩
def zjh (s:Shared) (A:Around) (ds es:List Dt) (xs ys:List V):Prop :=
 ∀(us zs:List Value),aD xs us→aD ys zs→∀(j:Nat) (u z:Value),us[j]?=some u→zs[j]?=some z→SeqAt.EqAt A.in1 s u z (zci ds es j)
theorem rcTT (I:Inv X pins σ H s) {A:Around} {a b:Addr} {xs ys:List V} {ds es:List Dt} (h1:SqT X.K H a xs) (g1:HasL X.K H ds xs) (h2:SqT X.K H b ys) (g2:HasL X.K H es ys) (hu:A.units < cLine)
  (he:zjh s A ds es xs ys):SeqAt.RcAt A s (.ref a) (.ref b) (zbs ds es)∧SeqAt.RcNeAt A s (.ref a) (.ref b) (!zbs ds es):=by
 obtain⟨its,r1,p1,z1⟩:=zb8 I h1 g1
 obtain⟨jts,r2,p2,z2⟩:=zb8 I h2 g2
 have q:∀ j (k1:j < its.toArray.size) (k2:j < jts.toArray.size),SeqAt.EqAt A.in1 s its.toArray[j] jts.toArray[j] (zci ds es j):=fun j k1 k2=>he its jts r1 r2 j _ _ (by simp at k1 ⊢) (by simp at k2 ⊢)
 have t1:=SeqAt.RcAt.tuples (e:=zci ds es) p1 p2 hu q
 have t2:=SeqAt.RcNeAt.tuples (e:=zci ds es) p1 p2 hu q
 rw[z1,z2,zfg]at t1 t2
 exact⟨t1,t2⟩
theorem rcLL (I:Inv X pins σ H s) {A:Around} {a b:Addr} {xs ys:List V} {ds es:List Dt} (h1:SqL X.K H a xs) (g1:HasL X.K H ds xs) (h2:SqL X.K H b ys) (g2:HasL X.K H es ys) (hu:A.units < cLine)
  (he:zjh s A ds es xs ys):SeqAt.RcAt A s (.ref a) (.ref b) (zbs ds es)∧SeqAt.RcNeAt A s (.ref a) (.ref b) (!zbs ds es):=by
 obtain⟨its,r1,p1,z1⟩:=zb9 I h1 g1
 obtain⟨jts,r2,p2,z2⟩:=zb9 I h2 g2
 by_cases hl:ds.length=es.length
 ·have q:∀ j (k1:j < its.toArray.size) (k2:j < jts.toArray.size),SeqAt.EqAt A.in1 s its.toArray[j] jts.toArray[j] (zci ds es j):=fun j k1 k2=>he its jts r1 r2 j _ _ (by simp at k1 ⊢) (by simp at k2 ⊢)
  have t1:=SeqAt.RcAt.lists (e:=zci ds es) p1 p2 (by rw[z1,z2,hl]) hu q
  have t2:=SeqAt.RcNeAt.lists (e:=zci ds es) p1 p2 (by rw[z1,z2,hl]) hu q
  rw[z1,zlx hl]at t1 t2
  exact⟨t1,t2⟩
 ·have hne:(its.toArray.size != jts.toArray.size)=true:=by rw[z1,z2];simpa using hl
  rw[zk9 hl]
  exact⟨SeqAt.RcAt.lists_lengths p1 p2 hne hu,SeqAt.RcNeAt.lists_lengths p1 p2 hne hu⟩
theorem zc3 {A:Around} {d:Dt} (h:A.units+dep d < cLine):A.units < cLine:=Nat.lt_of_le_of_lt (Nat.le_add_right _ _) h
mutual
theorem zkj (I:Inv X pins σ H s):∀(d e:Dt) (v w:V) (u z:Value) (A:Around),Has X.K H d v→Has X.K H e w→aG v u→aG w z→A.units+dep d < cLine→SeqAt.EqAt A s u z (peq d e)
 | .non,e,v,w,u,z,A,h,h',r,r',hu=>by
  have hu':=zc3 hu
  simp only[Has]at h
  subst h
  cases e with
  | tup es =>
   simp only[Has]at h'
   obtain⟨b,ys,rfl,h3,h4⟩:=h'
   obtain⟨_,_,p,_⟩:=zb8 I h3 h4
   cases (show z=Value.ref b from r')
   cases (show u=Value.none from r)
   exact SeqAt.EqAt.none_tuple p hu'
  | lst es =>
   simp only[Has]at h'
   obtain⟨b,ys,rfl,h3,h4⟩:=h'
   obtain⟨_,_,p,_⟩:=zb9 I h3 h4
   cases (show z=Value.ref b from r')
   cases (show u=Value.none from r)
   exact SeqAt.EqAt.none_list p hu'
  | _=>simp only[Has]at h';subst h';exact zeO r r' rfl rfl
 | .bl k,e,v,w,u,z,A,h,h',r,r',hu=>by
  have hu':=zc3 hu
  simp only[Has]at h
  subst h
  cases e with
  | tup es =>
   simp only[Has]at h'
   obtain⟨b,ys,rfl,h3,h4⟩:=h'
   obtain⟨_,_,p,_⟩:=zb8 I h3 h4
   cases (show z=Value.ref b from r')
   cases (show u=Value.bool k from r)
   exact SeqAt.EqAt.bool_tuple k p hu'
  | lst es =>
   simp only[Has]at h'
   obtain⟨b,ys,rfl,h3,h4⟩:=h'
   obtain⟨_,_,p,_⟩:=zb9 I h3 h4
   cases (show z=Value.ref b from r')
   cases (show u=Value.bool k from r)
   exact SeqAt.EqAt.bool_list k p hu'
  | _=>simp only[Has]at h';subst h';exact zeO r r' rfl rfl
 | .int k,e,v,w,u,z,A,h,h',r,r',hu=>by
  have hu':=zc3 hu
  simp only[Has]at h
  subst h
  cases e with
  | tup es =>
   simp only[Has]at h'
   obtain⟨b,ys,rfl,h3,h4⟩:=h'
   obtain⟨_,_,p,_⟩:=zb8 I h3 h4
   cases (show z=Value.ref b from r')
   obtain⟨t,rfl⟩:=r
   exact SeqAt.EqAt.int_tuple k t p hu'
  | lst es =>
   simp only[Has]at h'
   obtain⟨b,ys,rfl,h3,h4⟩:=h'
   obtain⟨_,_,p,_⟩:=zb9 I h3 h4
   cases (show z=Value.ref b from r')
   obtain⟨t,rfl⟩:=r
   exact SeqAt.EqAt.int_list k t p hu'
  | _=>simp only[Has]at h';subst h';exact zeO r r' rfl rfl
 | .str k,e,v,w,u,z,A,h,h',r,r',hu=>by
  have hu':=zc3 hu
  simp only[Has]at h
  subst h
  cases e with
  | tup es =>
   simp only[Has]at h'
   obtain⟨b,ys,rfl,h3,h4⟩:=h'
   obtain⟨_,_,p,_⟩:=zb8 I h3 h4
   cases (show z=Value.ref b from r')
   obtain⟨t,rfl⟩:=r
   exact SeqAt.EqAt.str_tuple k t p hu'
  | lst es =>
   simp only[Has]at h'
   obtain⟨b,ys,rfl,h3,h4⟩:=h'
   obtain⟨_,_,p,_⟩:=zb9 I h3 h4
   cases (show z=Value.ref b from r')
   obtain⟨t,rfl⟩:=r
   exact SeqAt.EqAt.str_list k t p hu'
  | _=>simp only[Has]at h';subst h';exact zeO r r' rfl rfl
 | .tup ds,e,v,w,u,z,A,h,h',r,r',hu=>by
  have hu':=zc3 hu
  have hd:=h
  simp only[Has]at h
  obtain⟨a,xs,rfl,h1,h2⟩:=h
  cases (show u=Value.ref a from r)
  obtain⟨_,_,p,_⟩:=zb8 I h1 h2
  have hi:A.in1.units+zau ds < cLine:=by simp only[dep]at hu;rw[Around.in1_units];omega
  cases e with
  | tup es =>
   have he:=h'
   simp only[Has]at h'
   obtain⟨b,ys,rfl,h3,h4⟩:=h'
   cases (show z=Value.ref b from r')
   by_cases hab:a=b
   ·subst hab
    rw[Has.inj I _ _ _ hd he,zbw]
    exact SeqAt.EqAt.same _
   ·have q:=(rcTT I h1 h2 h3 h4 hu' fun us zs ru rz j u z e1 e2=>zeP I ds es xs ys us zs A.in1 h2 h4 ru rz hi j u z e1 e2).1
    simp only[peq]
    exact SeqAt.EqAt.of_refs hab q
  | lst es =>
   simp only[Has]at h'
   obtain⟨b,ys,rfl,h3,h4⟩:=h'
   cases (show z=Value.ref b from r')
   obtain⟨_,_,p',_⟩:=zb9 I h3 h4
   exact SeqAt.EqAt.tuple_list p p' hu'
  | non=>simp only[Has]at h';subst h';cases (show z=Value.none from r');exact SeqAt.EqAt.tuple_none p hu'
  | bl k=>simp only[Has]at h';subst h';cases (show z=Value.bool k from r');exact SeqAt.EqAt.tuple_bool k p hu'
  | int k=>simp only[Has]at h';subst h';obtain⟨t,rfl⟩:=r';exact SeqAt.EqAt.tuple_int k t p hu'
  | str k=>simp only[Has]at h';subst h';obtain⟨t,rfl⟩:=r';exact SeqAt.EqAt.tuple_str k t p hu'
 | .lst ds,e,v,w,u,z,A,h,h',r,r',hu=>by
  have hu':=zc3 hu
  have hd:=h
  simp only[Has]at h
  obtain⟨a,xs,rfl,h1,h2⟩:=h
  cases (show u=Value.ref a from r)
  obtain⟨_,_,p,_⟩:=zb9 I h1 h2
  have hi:A.in1.units+zau ds < cLine:=by simp only[dep]at hu;rw[Around.in1_units];omega
  cases e with
  | lst es =>
   have he:=h'
   simp only[Has]at h'
   obtain⟨b,ys,rfl,h3,h4⟩:=h'
   cases (show z=Value.ref b from r')
   by_cases hab:a=b
   ·subst hab
    rw[Has.inj I _ _ _ hd he,zbw]
    exact SeqAt.EqAt.same _
   ·have q:=(rcLL I h1 h2 h3 h4 hu' fun us zs ru rz j u z e1 e2=>zeP I ds es xs ys us zs A.in1 h2 h4 ru rz hi j u z e1 e2).1
    simp only[peq]
    exact SeqAt.EqAt.of_refs hab q
  | tup es =>
   simp only[Has]at h'
   obtain⟨b,ys,rfl,h3,h4⟩:=h'
   cases (show z=Value.ref b from r')
   obtain⟨_,_,p',_⟩:=zb8 I h3 h4
   exact SeqAt.EqAt.list_tuple p p' hu'
  | non=>simp only[Has]at h';subst h';cases (show z=Value.none from r');exact SeqAt.EqAt.list_none p hu'
  | bl k=>simp only[Has]at h';subst h';cases (show z=Value.bool k from r');exact SeqAt.EqAt.list_bool k p hu'
  | int k=>simp only[Has]at h';subst h';obtain⟨t,rfl⟩:=r';exact SeqAt.EqAt.list_int k t p hu'
  | str k=>simp only[Has]at h';subst h';obtain⟨t,rfl⟩:=r';exact SeqAt.EqAt.list_str k t p hu'
theorem zeP (I:Inv X pins σ H s):∀(ds es:List Dt) (vs ws:List V) (us zs:List Value) (A:Around),HasL X.K H ds vs→HasL X.K H es ws→aD vs us→aD ws zs→A.units+zau ds < cLine →
  ∀(j:Nat) (u z:Value),us[j]?=some u→zs[j]?=some z→SeqAt.EqAt A s u z (zci ds es j)
 | [],es,vs,ws,us,zs,A,h,h',r,r',hu,j,u,z,e1,e2=>by
  simp only[HasL]at h
  subst h
  cases r
  simp at e1
 | d :: ds,es,vs,ws,us,zs,A,h,h',r,r',hu,j,u,z,e1,e2=>by
  simp only[HasL]at h
  obtain⟨v,rs,rfl,h1,h2⟩:=h
  cases r with
  | cons r1 r2 =>
   cases es with
   | nil =>
    simp only[HasL]at h'
    subst h'
    cases r'
    simp at e2
   | cons e es =>
    simp only[HasL]at h'
    obtain⟨w,rt,rfl,h3,h4⟩:=h'
    simp only[zau]at hu
    cases r' with
    | cons r3 r4 =>
     cases j with
     | zero =>
      simp at e1 e2
      subst e1 e2
      exact zkj I d e v w _ _ A h1 h3 r1 r3 (by omega)
     | succ j=>exact zeP I ds es rs rt _ _ A h2 h4 r2 r4 (by omega) j u z (by simpa using e1) (by simpa using e2)
end
end
end L2
namespace L2
open PySem PySem.Spec PyProof.Rows
section
variable {X:Cx} {pins:List (Addr × Obj)} {σ:St} {H:Hp} {s:Shared}
theorem rc_D (I:Inv X pins σ H s) (A:Around) (d e:Dt) (v w:V) (u z:Value) (h:Has X.K H d v) (h':Has X.K H e w) (r:aG v u) (r':aG w z) (hu:A.units+dep d < cLine) :
  SeqAt.RcAt A s u z (peq d e)∧SeqAt.RcNeAt A s u z (!peq d e):=by
 have hu':=zc3 hu
 cases d with
 | non =>
  simp only[Has]at h
  subst h
  cases (show u=Value.none from r)
  cases e with
  | non =>
   simp only[Has]at h'
   subst h'
   cases (show z=Value.none from r')
   exact⟨SeqAt.RcAt.none_none,SeqAt.RcNeAt.none_none⟩
  | bl k2 =>
   simp only[Has]at h'
   subst h'
   cases (show z=Value.bool k2 from r')
   exact⟨SeqAt.RcAt.none_bool k2,SeqAt.RcNeAt.none_bool k2⟩
  | int k2 =>
   simp only[Has]at h'
   subst h'
   obtain⟨t2,rfl⟩:=r'
   exact⟨SeqAt.RcAt.none_int k2 t2,SeqAt.RcNeAt.none_int k2 t2⟩
  | str k2 =>
   simp only[Has]at h'
   subst h'
   obtain⟨t2,rfl⟩:=r'
   exact⟨SeqAt.RcAt.none_str k2 t2,SeqAt.RcNeAt.none_str k2 t2⟩
  | tup es =>
   simp only[Has]at h'
   obtain⟨b,ys,rfl,h3,h4⟩:=h'
   obtain⟨_,_,p,_⟩:=zb8 I h3 h4
   cases (show z=Value.ref b from r')
   exact⟨SeqAt.RcAt.none_tuple p hu',SeqAt.RcNeAt.none_tuple p hu'⟩
  | lst es =>
   simp only[Has]at h'
   obtain⟨b,ys,rfl,h3,h4⟩:=h'
   obtain⟨_,_,p,_⟩:=zb9 I h3 h4
   cases (show z=Value.ref b from r')
   exact⟨SeqAt.RcAt.none_list p hu',SeqAt.RcNeAt.none_list p hu'⟩
 | bl k1 =>
  simp only[Has]at h
  subst h
  cases (show u=Value.bool k1 from r)
  cases e with
  | non =>
   simp only[Has]at h'
   subst h'
   cases (show z=Value.none from r')
   exact⟨SeqAt.RcAt.bool_none k1,SeqAt.RcNeAt.bool_none k1⟩
  | bl k2 =>
   simp only[Has]at h'
   subst h'
   cases (show z=Value.bool k2 from r')
   exact⟨SeqAt.RcAt.bool_bool k1 k2,SeqAt.RcNeAt.bool_bool k1 k2⟩
  | int k2 =>
   simp only[Has]at h'
   subst h'
   obtain⟨t2,rfl⟩:=r'
   exact⟨SeqAt.RcAt.bool_int k1 k2 t2,SeqAt.RcNeAt.bool_int k1 k2 t2⟩
  | str k2 =>
   simp only[Has]at h'
   subst h'
   obtain⟨t2,rfl⟩:=r'
   exact⟨SeqAt.RcAt.bool_str k1 k2 t2,SeqAt.RcNeAt.bool_str k1 k2 t2⟩
  | tup es =>
   simp only[Has]at h'
   obtain⟨b,ys,rfl,h3,h4⟩:=h'
   obtain⟨_,_,p,_⟩:=zb8 I h3 h4
   cases (show z=Value.ref b from r')
   exact⟨SeqAt.RcAt.bool_tuple k1 p hu',SeqAt.RcNeAt.bool_tuple k1 p hu'⟩
  | lst es =>
   simp only[Has]at h'
   obtain⟨b,ys,rfl,h3,h4⟩:=h'
   obtain⟨_,_,p,_⟩:=zb9 I h3 h4
   cases (show z=Value.ref b from r')
   exact⟨SeqAt.RcAt.bool_list k1 p hu',SeqAt.RcNeAt.bool_list k1 p hu'⟩
 | int k1 =>
  simp only[Has]at h
  subst h
  obtain⟨t1,rfl⟩:=r
  cases e with
  | non =>
   simp only[Has]at h'
   subst h'
   cases (show z=Value.none from r')
   exact⟨SeqAt.RcAt.int_none k1 t1,SeqAt.RcNeAt.int_none k1 t1⟩
  | bl k2 =>
   simp only[Has]at h'
   subst h'
   cases (show z=Value.bool k2 from r')
   exact⟨SeqAt.RcAt.int_bool k1 t1 k2,SeqAt.RcNeAt.int_bool k1 t1 k2⟩
  | int k2 =>
   simp only[Has]at h'
   subst h'
   obtain⟨t2,rfl⟩:=r'
   exact⟨SeqAt.RcAt.int_int k1 t1 k2 t2,SeqAt.RcNeAt.int_int k1 t1 k2 t2⟩
  | str k2 =>
   simp only[Has]at h'
   subst h'
   obtain⟨t2,rfl⟩:=r'
   exact⟨SeqAt.RcAt.int_str k1 t1 k2 t2,SeqAt.RcNeAt.int_str k1 t1 k2 t2⟩
  | tup es =>
   simp only[Has]at h'
   obtain⟨b,ys,rfl,h3,h4⟩:=h'
   obtain⟨_,_,p,_⟩:=zb8 I h3 h4
   cases (show z=Value.ref b from r')
   exact⟨SeqAt.RcAt.int_tuple k1 t1 p hu',SeqAt.RcNeAt.int_tuple k1 t1 p hu'⟩
  | lst es =>
   simp only[Has]at h'
   obtain⟨b,ys,rfl,h3,h4⟩:=h'
   obtain⟨_,_,p,_⟩:=zb9 I h3 h4
   cases (show z=Value.ref b from r')
   exact⟨SeqAt.RcAt.int_list k1 t1 p hu',SeqAt.RcNeAt.int_list k1 t1 p hu'⟩
 | str k1 =>
  simp only[Has]at h
  subst h
  obtain⟨t1,rfl⟩:=r
  cases e with
  | non =>
   simp only[Has]at h'
   subst h'
   cases (show z=Value.none from r')
   exact⟨SeqAt.RcAt.str_none k1 t1,SeqAt.RcNeAt.str_none k1 t1⟩
  | bl k2 =>
   simp only[Has]at h'
   subst h'
   cases (show z=Value.bool k2 from r')
   exact⟨SeqAt.RcAt.str_bool k1 t1 k2,SeqAt.RcNeAt.str_bool k1 t1 k2⟩
  | int k2 =>
   simp only[Has]at h'
   subst h'
   obtain⟨t2,rfl⟩:=r'
   exact⟨SeqAt.RcAt.str_int k1 t1 k2 t2,SeqAt.RcNeAt.str_int k1 t1 k2 t2⟩
  | str k2 =>
   simp only[Has]at h'
   subst h'
   obtain⟨t2,rfl⟩:=r'
   exact⟨SeqAt.RcAt.str_str k1 t1 k2 t2,SeqAt.RcNeAt.str_str k1 t1 k2 t2⟩
  | tup es =>
   simp only[Has]at h'
   obtain⟨b,ys,rfl,h3,h4⟩:=h'
   obtain⟨_,_,p,_⟩:=zb8 I h3 h4
   cases (show z=Value.ref b from r')
   exact⟨SeqAt.RcAt.str_tuple k1 t1 p hu',SeqAt.RcNeAt.str_tuple k1 t1 p hu'⟩
  | lst es =>
   simp only[Has]at h'
   obtain⟨b,ys,rfl,h3,h4⟩:=h'
   obtain⟨_,_,p,_⟩:=zb9 I h3 h4
   cases (show z=Value.ref b from r')
   exact⟨SeqAt.RcAt.str_list k1 t1 p hu',SeqAt.RcNeAt.str_list k1 t1 p hu'⟩
 | tup ds =>
  simp only[Has]at h
  obtain⟨a,xs,rfl,h1,h2⟩:=h
  cases (show u=Value.ref a from r)
  obtain⟨_,_,p,_⟩:=zb8 I h1 h2
  have hi:A.in1.units+zau ds < cLine:=by simp only[dep]at hu;rw[Around.in1_units];omega
  cases e with
  | non =>
   simp only[Has]at h'
   subst h'
   cases (show z=Value.none from r')
   exact⟨SeqAt.RcAt.tuple_none p hu',SeqAt.RcNeAt.tuple_none p hu'⟩
  | bl k2 =>
   simp only[Has]at h'
   subst h'
   cases (show z=Value.bool k2 from r')
   exact⟨SeqAt.RcAt.tuple_bool k2 p hu',SeqAt.RcNeAt.tuple_bool k2 p hu'⟩
  | int k2 =>
   simp only[Has]at h'
   subst h'
   obtain⟨t2,rfl⟩:=r'
   exact⟨SeqAt.RcAt.tuple_int k2 t2 p hu',SeqAt.RcNeAt.tuple_int k2 t2 p hu'⟩
  | str k2 =>
   simp only[Has]at h'
   subst h'
   obtain⟨t2,rfl⟩:=r'
   exact⟨SeqAt.RcAt.tuple_str k2 t2 p hu',SeqAt.RcNeAt.tuple_str k2 t2 p hu'⟩
  | tup es =>
   simp only[Has]at h'
   obtain⟨b,ys,rfl,h3,h4⟩:=h'
   cases (show z=Value.ref b from r')
   simp only[peq]
   exact rcTT I h1 h2 h3 h4 hu' fun us zs ru rz j u z e1 e2=>zeP I ds es xs ys us zs A.in1 h2 h4 ru rz hi j u z e1 e2
  | lst es =>
   simp only[Has]at h'
   obtain⟨b,ys,rfl,h3,h4⟩:=h'
   cases (show z=Value.ref b from r')
   obtain⟨_,_,p',_⟩:=zb9 I h3 h4
   exact⟨SeqAt.RcAt.tuple_list p p' hu',SeqAt.RcNeAt.tuple_list p p' hu'⟩
 | lst ds =>
  simp only[Has]at h
  obtain⟨a,xs,rfl,h1,h2⟩:=h
  cases (show u=Value.ref a from r)
  obtain⟨_,_,p,_⟩:=zb9 I h1 h2
  have hi:A.in1.units+zau ds < cLine:=by simp only[dep]at hu;rw[Around.in1_units];omega
  cases e with
  | non =>
   simp only[Has]at h'
   subst h'
   cases (show z=Value.none from r')
   exact⟨SeqAt.RcAt.list_none p hu',SeqAt.RcNeAt.list_none p hu'⟩
  | bl k2 =>
   simp only[Has]at h'
   subst h'
   cases (show z=Value.bool k2 from r')
   exact⟨SeqAt.RcAt.list_bool k2 p hu',SeqAt.RcNeAt.list_bool k2 p hu'⟩
  | int k2 =>
   simp only[Has]at h'
   subst h'
   obtain⟨t2,rfl⟩:=r'
   exact⟨SeqAt.RcAt.list_int k2 t2 p hu',SeqAt.RcNeAt.list_int k2 t2 p hu'⟩
  | str k2 =>
   simp only[Has]at h'
   subst h'
   obtain⟨t2,rfl⟩:=r'
   exact⟨SeqAt.RcAt.list_str k2 t2 p hu',SeqAt.RcNeAt.list_str k2 t2 p hu'⟩
  | tup es =>
   simp only[Has]at h'
   obtain⟨b,ys,rfl,h3,h4⟩:=h'
   cases (show z=Value.ref b from r')
   obtain⟨_,_,p',_⟩:=zb8 I h3 h4
   exact⟨SeqAt.RcAt.list_tuple p p' hu',SeqAt.RcNeAt.list_tuple p p' hu'⟩
  | lst es =>
   simp only[Has]at h'
   obtain⟨b,ys,rfl,h3,h4⟩:=h'
   cases (show z=Value.ref b from r')
   simp only[peq]
   exact rcLL I h1 h2 h3 h4 hu' fun us zs ru rz j u z e1 e2=>zeP I ds es xs ys us zs A.in1 h2 h4 ru rz hi j u z e1 e2
def rEqD (K:W.Frag):R2:=fun x y H Q=>∃ d e,Has K H d x∧Has K H e y∧dep d≤60∧Q (.bl (peq d e)) H
def rNeD (K:W.Frag):R2:=fun x y H Q=>∃ d e,Has K H d x∧Has K H e y∧dep d≤60∧Q (.bl (!peq d e)) H
theorem zhC (hu:X.A.units+64 < cLine):OpR X (compareOp .Eq) (rEqD X.K):=by
 intro pins s σ H x y v u Q I rx ry h
 obtain⟨d,e,h1,h2,hd,q⟩:=h
 exact(rc_D I X.A d e x y v u h1 h2 rx ry (by omega)).1 _ _ _ _ ⟨.bl _,H,I,rfl,q⟩
theorem op_neD (hu:X.A.units+64 < cLine):OpR X (compareOp .NotEq) (rNeD X.K):=by
 intro pins s σ H x y v u Q I rx ry h
 obtain⟨d,e,h1,h2,hd,q⟩:=h
 exact(rc_D I X.A d e x y v u h1 h2 rx ry (by omega)).2 _ _ _ _ ⟨.bl _,H,I,rfl,q⟩
open Classical in
noncomputable def hitD (K:W.Frag) (H:Hp) (d:Dt) (u:Value):Bool:=decide (∃(v:V) (d':Dt),aG v u∧Has K H d' v∧peq d' d=true)
open Classical in
theorem zgA (I:Inv X pins σ H s) {d d':Dt} {v:V} {u:Value} (r:aG v u) (h:Has X.K H d' v):hitD X.K H d u=peq d' d:=by
 unfold hitD
 cases e:peq d' d with
 | true=>exact decide_eq_true ⟨v,d',r,h,e⟩
 | false =>
  refine decide_eq_false fun⟨v',d2,r',h',e'⟩=>?_
  rw[r'.inj r]at h'
  rw[Has.inj I _ _ _ h' h,e]at e'
  cases e'
theorem zdN (I:Inv X pins σ H s) {d:Dt}:∀ {ds:List Dt} {vs:List V} {us:List Value},HasL X.K H ds vs→aD vs us→us.any (hitD X.K H d)=ds.any fun d'=>peq d' d
 | [],vs,us,h,r=>by
  simp only[HasL]at h
  subst h
  cases r
  rfl
 | d' :: ds,vs,us,h,r=>by
  simp only[HasL]at h
  obtain⟨v,rs,rfl,h1,h2⟩:=h
  cases r with
  | cons r1 r2=>rw[List.any_cons,List.any_cons,zgA I r1 h1,zdN I h2 r2]
theorem zc7 (I:Inv X pins σ H s) {A:Around} {d:Dt} {x:V} {ux:Value} (hx:Has X.K H d x) (rx:aG x ux):∀ {ds:List Dt} {vs:List V} {us:List Value},HasL X.K H ds vs→aD vs us→A.units+zau ds < cLine→∀ u∈us,SeqAt.EqAt A s u ux (hitD X.K H d u)
 | [],vs,us,h,r,hu,u,hm=>by
  simp only[HasL]at h
  subst h
  cases r
  cases hm
 | d' :: ds,vs,us,h,r,hu,u,hm=>by
  simp only[HasL]at h
  obtain⟨v,rs,rfl,h1,h2⟩:=h
  simp only[zau]at hu
  cases r with
  | cons r1 r2 =>
   rcases List.mem_cons.mp hm with rfl | hm
   ·rw[zgA I r1 h1]
    exact zkj I d' d v x _ _ A h1 hx r1 rx (by omega)
   ·exact zc7 I hx rx h2 r2 (by omega) u hm
def rInD (K:W.Frag) (neg:Bool):R2:=fun x y H Q=>∃ p xs ds d,y=.ref p∧(SqL K H p xs∨SqT K H p xs)∧HasL K H ds xs∧Has K H d x∧zau ds≤60∧Q (.bl (if neg then !(ds.any fun d'=>peq d' d) else ds.any fun d'=>peq d' d)) H
theorem zj6 (hu:X.A.units+64 < cLine):OpR X (compareOp .In) (rInD X.K false):=by
 intro pins s σ H x y v u Q I rx ry h
 obtain⟨p,xs,ds,d,rfl,hq,hs,hx,hd,q⟩:=h
 cases ry
 have hin:X.A.in1.units+zau ds < cLine:=by rw[Around.in1_units];omega
 rcases hq with hq | hq
 ·obtain⟨its,r,pl,hz⟩:=I.list hq
  refine SeqAt.in_listAt (hitD X.K H d) pl.isList (fun w hw=>zc7 I hx rx hs r hin w (by simpa using hw)) ⟨.bl _,H,I,rfl,?_⟩
  rw[show its.toArray.any (hitD X.K H d)=its.any (hitD X.K H d) by simp,zdN I hs r]
  exact q
 ·obtain⟨its,r,pl,hz⟩:=I.tuple hq
  refine SeqAt.in_tupleAt (hitD X.K H d) pl (fun w hw=>zc7 I hx rx hs r hin w (by simpa using hw)) ⟨.bl _,H,I,rfl,?_⟩
  rw[show its.toArray.any (hitD X.K H d)=its.any (hitD X.K H d) by simp,zdN I hs r]
  exact q
theorem zg0 (hu:X.A.units+64 < cLine):OpR X (compareOp .NotIn) (rInD X.K true):=by
 intro pins s σ H x y v u Q I rx ry h
 obtain⟨p,xs,ds,d,rfl,hq,hs,hx,hd,q⟩:=h
 cases ry
 have hin:X.A.in1.units+zau ds < cLine:=by rw[Around.in1_units];omega
 rcases hq with hq | hq
 ·obtain⟨its,r,pl,hz⟩:=I.list hq
  refine SeqAt.notIn_listAt (hitD X.K H d) pl.isList (fun w hw=>zc7 I hx rx hs r hin w (by simpa using hw)) ⟨.bl _,H,I,rfl,?_⟩
  rw[show its.toArray.any (hitD X.K H d)=its.any (hitD X.K H d) by simp,zdN I hs r]
  exact q
 ·obtain⟨its,r,pl,hz⟩:=I.tuple hq
  refine SeqAt.notIn_tupleAt (hitD X.K H d) pl (fun w hw=>zc7 I hx rx hs r hin w (by simpa using hw)) ⟨.bl _,H,I,rfl,?_⟩
  rw[show its.toArray.any (hitD X.K H d)=its.any (hitD X.K H d) by simp,zdN I hs r]
  exact q
def zlN (K:W.Frag):V→List V→Hp→VK→Prop:=fun x vs H Q=>∃ l xs ds y d j,x=.ref l∧vs=[y]∧H l=some (.lst xs)∧HasL K H ds xs∧Has K H d y∧zau ds≤60 ∧
 (∃ dj,ds[j]?=some dj∧peq dj d=true)∧(∀ m dm,m < j→ds[m]?=some dm→peq dm d=false)∧Q (.int (j:Nat)) H
theorem zcR (hu:X.A.units+64 < cLine):MtM X "list.index" (zlN X.K):=by
 intro pins s σ H x vs v us Q I rx rv h
 obtain⟨l,xs,ds,y,d,j,rfl,rfl,hH,hs,hy,hd,⟨dj,ej,hj⟩,hno,q⟩:=h
 cases rx
 obtain⟨u,rfl,ru⟩:=rv.one
 obtain⟨z,its,n,r,hl,e⟩:=I.lstM hH
 have hlen:=hs.length
 have hjl:j < ds.length:=(List.getElem?_eq_some_iff.mp ej).1
 have hin:X.A.in1.units+zau ds < cLine:=by rw[Around.in1_units];omega
 have at_:∀ m (hm:m < its.toArray.size),∃ dm,ds[m]?=some dm∧hitD X.K H d its.toArray[m]=peq dm d:=fun m hm=>by
  have hm':m < ds.length:=by rw[List.size_toArray]at hm;omega
  obtain⟨w,e1,e2⟩:=hs.getD (List.getElem?_eq_getElem hm')
  obtain⟨wv,e3,e4⟩:=r.get e1
  have e5:its.toArray[m]=wv:=by
   have:its[m]?=some wv:=e3
   simp only[List.getElem_toArray]
   rw[List.getElem?_eq_getElem (by rw[List.size_toArray]at hm;exact hm)]at this
   exact Option.some.inj this
  exact⟨_,List.getElem?_eq_getElem hm',by rw[e5];exact zgA I e4 e2⟩
 have hjs:j < its.toArray.size:=by rw[List.size_toArray];omega
 have hsm:(j:Int) < 2 ^ 63 - 1:=by
  have:=sizeLine_eq
  omega
 refine call_meets F.slot_list_index ⟨_,e,rfl⟩ F.entry_list_index (F.args_list_index_2 _ _) (SeqAt.list_indexAt l its.toArray n none #[] u (hitD X.K H d) j hjs hsm ?_ ?_) ⟨e,?_,?_⟩
 ·obtain⟨dm,e1,e2⟩:=at_ j hjs
  rw[ej]at e1
  cases e1
  rw[e2,hj]
 ·intro m hm hlt
  obtain⟨dm,e1,e2⟩:=at_ m hm
  rw[e2,hno m dm hlt e1]
 ·intro w hw
  exact zc7 I hy ru hs r hin w (by simpa using hw)
 ·exact⟨.int (j:Nat),H,I.tok _,⟨_,rfl⟩,q⟩
end
end L2
namespace L2
open PySem PySem.Spec PyProof.Rows
structure FB (P:Program) (w:World) (K:W.Frag) (mg:Str→Option Value) (base:Heap) (CX:CXT) (k:Nat) (x:Str) (f:Addr) (fd:FuncData) (ps:List Str) (sp:Sp):Prop where
 ok:FnOk P w K mg base CX k f fd ps sp
 b:av K fd ps []
 kp:W.keepIn K (.ref f)=true
 m:mg x=some (.ref f)
theorem bsz (n:Nat) (h:n≤1000):n≤sizeLine:=Nat.le_of_lt (zbS h)
theorem zgd {k:Nat} {A:Around} (hr:aE k A):A.units+64 < cLine:=hr.units
theorem zaW {α:Type} {xs:List α} {i:Nat} {x:α} (h:xs[i]?=some x):xs.take (i+1)=xs.take i++[x]:=by
 rw[List.take_add_one,h]
 rfl
theorem ak {H:Hp} {p:Addr} (h:H p=none) (o:HO):ar H (upd H p o):=fun b u q=>by rw[aq (zag q h)];exact q
theorem ar.upd {H0 H:Hp} {l:Addr} {o:HO} (s:ar H0 H) (h:H0 l=none):ar H0 (upd H l o):=fun b u q=>by rw[aq (zag q h)];exact s b u q
theorem ar.kt {H H':Hp} (s:ar H H'):zak H H':=zak.of_same s
theorem ar.tup {K:W.Frag} {H H':Hp} {a:Addr} {xs:List V} (s:ar H H') (h:SqT K H a xs):SqT K H' a xs:=s.kt.sq h
structure Wk (J:It) (n:Nat) (Ok:Hp→Prop):Prop where
 stop:∀ i H,Ok H→n≤i→J.stop i H
 go:∀ i H,Ok H→i < n→J.go i H
theorem zkZ {lo:Int} {n:Nat}:Wk (Itr lo n) n (fun _=>True):=⟨fun _ _ _ h=>h,fun _ _ _ h=>h⟩
theorem za5 {K:W.Frag} {a:Addr} {xs:List V}:Wk (Itl K a) xs.length (fun H=>SqL K H a xs):=⟨fun _ _ h hi=>⟨xs,h,hi⟩,fun i _ h hi=>⟨xs,xs[i],h,by simp [hi]⟩⟩
theorem zd7 {K:W.Frag} {a:Addr} {xs:List V}:Wk (Itt K a) xs.length (fun H=>SqT K H a xs):=⟨fun _ _ h hi=>⟨xs,h,hi⟩,fun i _ h hi=>⟨xs,xs[i],h,by simp [hi]⟩⟩
def LcW (n:Nat) (D:Addr) (Pv:Nat→List V→Hp→Prop) (i m:Nat) (ys:List V) (H:Hp):Prop:=m=n - i∧i≤n∧ys.length≤i∧H D=some (.lst ys)∧Pv i ys H
def zhM (n:Nat) (D:Addr) (Pv:Nat→List V→Hp→Prop) (i:Nat) (ys:List V):VK:=fun y H3=>H3 D=some (.lst ys)∧ys.length < sizeLine∧∃ m',m' < n - i∧LcW n D Pv (i+1) m' (ys++[y]) (upd H3 D (.lst (ys++[y])))
def zhL (n:Nat) (D:Addr) (Pv:Nat→List V→Hp→Prop) (i:Nat) (ys:List V) (H3:Hp):Prop:=∃ m',m' < n - i∧LcW n D Pv (i+1) m' ys H3
theorem zbQ {n:Nat} {D:Addr} {Pv:Nat→List V→Hp→Prop} {i:Nat} {ys:List V} {y:V} {H3:Hp} (hn:n≤sizeLine) (hi:i < n) (hl:ys.length≤i) (hD:H3 D=some (.lst ys)) (p:Pv (i+1) (ys++[y]) (upd H3 D (.lst (ys++[y])))):zhM n D Pv i ys y H3 :=
 ⟨hD,by omega,n - (i+1),by omega,rfl,hi,by rw[List.length_append,List.length_singleton];omega,ad,p⟩
theorem zfd {n:Nat} {D:Addr} {Pv:Nat→List V→Hp→Prop} {i:Nat} {ys:List V} {H3:Hp} (hi:i < n) (hl:ys.length≤i) (hD:H3 D=some (.lst ys)) (p:Pv (i+1) ys H3):zhL n D Pv i ys H3 :=
 ⟨n - (i+1),by omega,rfl,hi,by omega,hD,p⟩
theorem zep {J:It} {n:Nat} {Ok:Hp→Prop} {te:TE} {fv:St} {H1:Hp} {D:Addr} {R:Hp→Prop} (W:Wk J n Ok) (Pv:Nat→List V→Hp→Prop) (hok:∀ i ys H,Pv i ys H→Ok H) (h0:Pv 0 [] (upd H1 D (.lst [])))
  (hs:∀ i ys H' x H'',i < n→ys.length≤i→H' D=some (.lst ys)→Pv i ys H'→J.yld i H' x H''→te (some x :: fv) H'' (zhM n D Pv i ys)) (hd:∀ ys H',H' D=some (.lst ys)→Pv n ys H'→R H') :
  ∃ W:Nat→Nat→List V→Hp→Prop,(∃ m,W 0 m [] (upd H1 D (.lst [])))∧∀ i m ys H',W i m ys H'→H' D=some (.lst ys) ∧
   ((J.stop i H'∧R H')∨(J.go i H'∧∀ x H'',J.yld i H' x H''→te (some x :: fv) H'' fun y H3=>H3 D=some (.lst ys)∧ys.length < sizeLine∧∃ m',m' < m∧W (i+1) m' (ys++[y]) (upd H3 D (.lst (ys++[y]))))):=by
 refine⟨LcW n D Pv,⟨n,rfl,Nat.zero_le _,Nat.zero_le _,ad,h0⟩,?_⟩
 rintro i m ys H' ⟨rfl,hi,hl,hD,p⟩
 refine⟨hD,?_⟩
 by_cases hlt:i < n
 ·exact .inr ⟨W.go i H' (hok _ _ _ p) hlt,fun x H'' y=>hs i ys H' x H'' hlt hl hD p y⟩
 ·have e:i=n:=by omega
  subst e
  exact .inl ⟨W.stop i H' (hok _ _ _ p) (Nat.le_refl _),hd ys H' hD p⟩
theorem zfW {J:It} {n:Nat} {Ok:Hp→Prop} {tc:TT} {te:TE} {fv:St} {H1:Hp} {D:Addr} {R:Hp→Prop} (W:Wk J n Ok) (Pv:Nat→List V→Hp→Prop) (hok:∀ i ys H,Pv i ys H→Ok H) (h0:Pv 0 [] (upd H1 D (.lst [])))
  (hs:∀ i ys H' x H'',i < n→ys.length≤i→H' D=some (.lst ys)→Pv i ys H'→J.yld i H' x H''→tc (some x :: fv) H'' fun b H3=>if b=true then te (some x :: fv) H3 (zhM n D Pv i ys) else zhL n D Pv i ys H3)
  (hd:∀ ys H',H' D=some (.lst ys)→Pv n ys H'→R H') :
  ∃ W:Nat→Nat→List V→Hp→Prop,(∃ m,W 0 m [] (upd H1 D (.lst [])))∧∀ i m ys H',W i m ys H'→H' D=some (.lst ys) ∧
   ((J.stop i H'∧R H')∨(J.go i H'∧∀ x H'',J.yld i H' x H''→tc (some x :: fv) H'' fun b H3 =>
    if b=true then te (some x :: fv) H3 fun y H4=>H4 D=some (.lst ys)∧ys.length < sizeLine∧∃ m',m' < m∧W (i+1) m' (ys++[y]) (upd H4 D (.lst (ys++[y])))
    else ∃ m',m' < m∧W (i+1) m' ys H3)):=by
 refine⟨LcW n D Pv,⟨n,rfl,Nat.zero_le _,Nat.zero_le _,ad,h0⟩,?_⟩
 rintro i m ys H' ⟨rfl,hi,hl,hD,p⟩
 refine⟨hD,?_⟩
 by_cases hlt:i < n
 ·exact .inr ⟨W.go i H' (hok _ _ _ p) hlt,fun x H'' y=>hs i ys H' x H'' hlt hl hD p y⟩
 ·have e:i=n:=by omega
  subst e
  exact .inl ⟨W.stop i H' (hok _ _ _ p) (Nat.le_refl _),hd ys H' hD p⟩
theorem zbO {J:It} {n:Nat} {Ok:Hp→Prop} {g:TG} {tb:TS} {D:zbt} {σ:St} {H:Hp} (W:Wk J n Ok) (Pv:Nat→St→Hp→Prop) (hok:∀ i σ H,Pv i σ H→Ok H) (h0:Pv 0 σ H)
  (hs:∀ i σ H x H',i < n→Pv i σ H→J.yld i H x H'→g x σ H' fun σ2 H2=>tb { D with nx:=Pv (i+1),ct:=Pv (i+1),bk:=D.nx } σ2 H2) (hd:∀ σ H,Pv n σ H→D.nx σ H) :
  ∃ W:Nat→Nat→St→Hp→Prop,(∃ m,W 0 m σ H)∧∀ i m σ H,W i m σ H →
   (J.stop i H∧D.nx σ H)∨(J.go i H∧∃ N:St→Hp→Prop,(∀ σ' H',N σ' H'→∃ m',m' < m∧W (i+1) m' σ' H')∧∀ x H',J.yld i H x H'→g x σ H' fun σ2 H2=>tb { D with nx:=N,ct:=N,bk:=D.nx } σ2 H2):=by
 refine⟨fun i m σ H=>m=n - i∧i≤n∧Pv i σ H,⟨n,by simp,Nat.zero_le _,h0⟩,?_⟩
 rintro i m σ H ⟨rfl,hi,p⟩
 by_cases hlt:i < n
 ·exact .inr ⟨W.go i H (hok _ _ _ p) hlt,Pv (i+1),fun σ' H' p'=>⟨n - (i+1),by omega,rfl,hlt,p'⟩,fun x H' y=>hs i σ H x H' hlt p y⟩
 ·have e:i=n:=by omega
  subst e
  exact .inl ⟨W.stop i H (hok _ _ _ p) (Nat.le_refl _),hd σ H p⟩
theorem Has.int {K:W.Frag} {H:Hp} {i:Int}:Has K H (.int i) (.int i):=by simp only[Has]
theorem Has.str' {K:W.Frag} {H:Hp} {x:Str}:Has K H (.str x) (.str x):=by simp only[Has]
theorem HasL.nil {K:W.Frag} {H:Hp}:HasL K H [] []:=by simp only[HasL]
theorem HasL.cons {K:W.Frag} {H:Hp} {d:Dt} {ds:List Dt} {v:V} {vs:List V} (h:Has K H d v) (r:HasL K H ds vs):HasL K H (d :: ds) (v :: vs):=by
 simp only[HasL]
 exact⟨v,vs,rfl,h,r⟩
theorem Has.tup' {K:W.Frag} {H:Hp} {ds:List Dt} {a:Addr} {xs:List V} (h:SqT K H a xs) (r:HasL K H ds xs):Has K H (.tup ds) (.ref a):=by
 simp only[Has]
 exact⟨a,xs,rfl,h,r⟩
theorem Has.lst' {K:W.Frag} {H:Hp} {ds:List Dt} {a:Addr} {xs:List V} (h:SqL K H a xs) (r:HasL K H ds xs):Has K H (.lst ds) (.ref a):=by
 simp only[Has]
 exact⟨a,xs,rfl,h,r⟩
theorem ze1 {K:W.Frag} {H:Hp}:∀ {ns:List Int} {vs:List V},HasL K H (ns.map Dt.int) vs→vs=ns.map V.int
 | [],vs,h=>by simp only[List.map_nil,HasL]at h;rw[h];rfl
 | n :: ns,vs,h=>by
  simp only[List.map_cons,HasL]at h
  obtain⟨v,r,rfl,h1,h2⟩:=h
  simp only[Has]at h1
  rw[h1,ze1 h2]
  rfl
def dP (t:Int × Int):Dt:=.tup [.int t.1,.int t.2]
abbrev rLenS (K:W.Frag):List V→Hp→VK→Prop:=fun xs H Q=>∃ p ys,xs=[.ref p]∧(SqL K H p ys∨SqT K H p ys)∧Q (.int ys.length) H
end L2
namespace PySem
open Sem (wp)
namespace F
end F
section
variable {prog:Program} {w:World} {K:Type} [DecidableEq K] {knd:KeyKind prog w K} {A:Around}
end
end PySem
namespace L2
open PySem PySem.Spec PyProof.Rows
section
variable {κ:Type} [DecidableEq κ]
def za0 (kvs:List (κ × V)) (k:κ):Option V:=(kvs.find? fun kv=>decide (kv.1=k)).map (·.2)
def zbn (kvs:List (κ × V)) (k:κ) (v:V):List (κ × V) :=
 if(kvs.any fun kv=>decide (kv.1=k))=true then kvs.map (fun kv=>if kv.1=k then(kv.1,v) else kv) else kvs++[(k,v)]
theorem zbu {p:κ × V} {r:List (κ × V)} {k:κ} (e:p.1=k):za0 (p :: r) k=some p.2:=by simp [za0,List.find?_cons,e]
theorem zbv {p:κ × V} {r:List (κ × V)} {k:κ} (e:¬p.1=k):za0 (p :: r) k=za0 r k:=by simp [za0,List.find?_cons,e]
theorem zdJ (k:κ):∀ kvs:List (κ × V),(kvs.any fun kv=>decide (kv.1=k))=(za0 kvs k).isSome
 | []=>rfl
 | p :: r=>by
  rw[List.any_cons]
  by_cases e:p.1=k
  ·simp only[zbu e,decide_eq_true e,Bool.true_or,Option.isSome_some]
  ·rw[zbv e,decide_eq_false e,Bool.false_or];exact zdJ k r
theorem zhP (k j:κ) (y:V):∀ kvs:List (κ × V),za0 (kvs.map fun kv=>if kv.1=k then(kv.1,y) else kv) j=(za0 kvs j).map fun x=>if j=k then y else x
 | []=>rfl
 | p :: r=>by
  have ih:=zhP k j y r
  rw[List.map_cons]
  by_cases h:p.1=k
  ·rw[if_pos h]
   by_cases e:p.1=j
   ·rw[zbu (p:=(p.1,y)) e,zbu e,Option.map_some,if_pos (e.symm.trans h)]
   ·rw[zbv (p:=(p.1,y)) e,zbv e,ih]
  ·rw[if_neg h]
   by_cases e:p.1=j
   ·rw[zbu (p:=p) e,zbu e,Option.map_some,if_neg (fun z=>h (e.trans z))]
   ·rw[zbv (p:=p) e,zbv e,ih]
theorem zgR (k j:κ) (y:V):∀ kvs:List (κ × V),za0 kvs k=none→za0 (kvs++[(k,y)]) j=if j=k then some y else za0 kvs j
 | [],_=>by
  by_cases e:k=j
  ·rw[if_pos e.symm];exact zbu (p:=(k,y)) e
  ·rw[if_neg (fun z=>e z.symm)];exact zbv (p:=(k,y)) e
 | p :: r,hn=>by
  rw[List.cons_append]
  have hk:¬p.1=k:=fun z=>by rw[zbu z]at hn;cases hn
  rw[zbv hk]at hn
  have ih:=zgR k j y r hn
  by_cases e:p.1=j
  ·rw[zbu e,zbu e,if_neg (fun z=>hk (e.trans z))]
  ·rw[zbv e,zbv e,ih]
theorem zhO (kvs:List (κ × V)) (k j:κ) (y:V):za0 (zbn kvs k y) j=if j=k then some y else za0 kvs j:=by
 unfold zbn
 by_cases a:(kvs.any fun kv=>decide (kv.1=k))=true
 ·rw[if_pos a,zhP]
  rw[zdJ]at a
  by_cases e:j=k
  ·obtain⟨x,hx⟩:=Option.isSome_iff_exists.mp a
   rw[if_pos e,e,hx,Option.map_some,if_pos rfl]
  ·rw[if_neg e]
   cases za0 kvs j with
   | none=>rfl
   | some x=>rw[Option.map_some,if_neg e]
 ·rw[if_neg a]
  refine zgR k j y kvs ?_
  rw[zdJ]at a
  cases q:za0 kvs k with
  | none=>rfl
  | some x=>rw[q]at a;exact(a rfl).elim
theorem zdb (kvs:List (κ × V)) (k:κ) (v:V):(zbn kvs k v).length≤kvs.length+1:=by
 unfold zbn
 split
 ·rw[List.length_map];omega
 ·rw[List.length_append,List.length_cons,List.length_nil];omega
theorem zcS.isSome_eq {o:Option V} {u:Option Value} (r:zcS o u):o.isSome=u.isSome:=by
 cases o with
 | none=>cases u with
  | none=>rfl
  | some _=>exact(show False from r).elim
 | some _=>cases u with
  | none=>exact(show False from r).elim
  | some _=>rfl
theorem KV.val {kvs:List (κ × V)} {vs:List (κ × Value)} (r:KV kvs vs) (k:κ):zcS (za0 kvs k) (valueAt vs k):=by
 unfold KV at r
 induction r with
 | nil=>exact True.intro
 | @cons p q ps qs h t ih =>
  obtain⟨h1,h2⟩:=h
  by_cases e:p.1=k
  ·have e':q.1=k:=h1.symm.trans e
   have b:valueAt (q :: qs) k=some q.2:=by simp [valueAt,List.find?_cons,e']
   rw[zbu e,b];exact h2
  ·have e':¬q.1=k:=fun z=>e (h1.trans z)
   have b:valueAt (q :: qs) k=valueAt qs k:=by simp [valueAt,List.find?_cons,e']
   rw[zbv e,b];exact ih
theorem KV.any {kvs:List (κ × V)} {vs:List (κ × Value)} (r:KV kvs vs) (k:κ):(kvs.any fun kv=>decide (kv.1=k))=vs.any fun kv=>decide (kv.1=k):=by
 unfold KV at r
 induction r with
 | nil=>rfl
 | cons h t ih=>rw[List.any_cons,List.any_cons,ih,h.1]
theorem KV.repl {kvs:List (κ × V)} {vs:List (κ × Value)} (r:KV kvs vs) (k:κ) {y:V} {u:Value} (ry:aG y u) :
  KV (kvs.map fun kv=>if kv.1=k then(kv.1,y) else kv) (vs.map fun kv=>if kv.1=k then(kv.1,u) else kv):=by
 unfold KV at r ⊢
 induction r with
 | nil=>exact .nil
 | @cons p q ps qs h t ih =>
  rw[List.map_cons,List.map_cons]
  refine .cons ?_ ih
  obtain⟨h1,h2⟩:=h
  by_cases e:p.1=k
  ·rw[if_pos e,if_pos (h1.symm.trans e)];exact⟨h1,ry⟩
  ·rw[if_neg e,if_neg (fun z=>e (h1.trans z))];exact⟨h1,h2⟩
theorem KV.put {kvs:List (κ × V)} {vs:List (κ × Value)} (r:KV kvs vs) (k:κ) {y:V} {u:Value} (ry:aG y u):KV (zbn kvs k y) (stored vs k u):=by
 unfold zbn stored
 rw[r.any k]
 by_cases e:(vs.any fun kv=>decide (kv.1=k))=true
 ·rw[if_pos e,if_pos e];exact r.repl k ry
 ·rw[if_neg e,if_neg e];exact Paired.snoc r ⟨rfl,ry⟩
theorem KV.length {kvs:List (κ × V)} {vs:List (κ × Value)} (r:KV kvs vs):kvs.length=vs.length:=Paired.length r
end
theorem zjo {P:Program} {w:World} {k:Key} {u:Value} (r:aG (kV k) u):(zbc P w).is k u=true:=by
 cases k with
 | inl i=>obtain⟨t,e⟩:=(show ∃ t,u=Value.int i t from r);subst e;exact ziF P w i t
 | inr x=>obtain⟨t,e⟩:=(show ∃ t,u=Value.str x t from r);subst e;exact ziE P w x t
theorem zg9 {P:Program} {w:World}:∀ {ks:List Key} {us:List Value},aD (ks.map kV) us→ItemsAre (zbc P w) ks us
 | [],_,r=>by rw[List.map_nil]at r;cases r;exact .nil
 | k :: ks,_,r=>by
  rw[List.map_cons]at r
  cases r with
  | cons h t=>exact .cons (zjo h) (zg9 t)
abbrev KT (H:Hp):List (List Key × V)→List (List Key × Addr × Value)→Prop:=Paired fun p q=>p.1=q.1∧H q.2.1=some (.tup (p.1.map kV))∧aG p.2 q.2.2
theorem KT.val {H:Hp} {kvs:List (List Key × V)} {xs:List (List Key × Addr × Value)} (r:KT H kvs xs) (k:List Key):zcS (za0 kvs k) ((atKey xs k).map (·.2)):=by
 induction r with
 | nil=>exact True.intro
 | @cons p q ps qs h t ih =>
  obtain⟨h1,_,h2⟩:=h
  by_cases e:p.1=k
  ·have e':q.1=k:=h1.symm.trans e
   have b:atKey (q :: qs) k=some q.2:=by simp [atKey,List.find?_cons,e']
   rw[zbu e,b];exact h2
  ·have e':¬q.1=k:=fun z=>e (h1.trans z)
   have b:atKey (q :: qs) k=atKey qs k:=by simp [atKey,List.find?_cons,e']
   rw[zbv e,b];exact ih
theorem KT.repl {H:Hp} {kvs:List (List Key × V)} {xs:List (List Key × Addr × Value)} (r:KT H kvs xs) (k:List Key) {y:V} {u:Value} (ry:aG y u) :
  KT H (kvs.map fun kv=>if kv.1=k then(kv.1,y) else kv) (xs.map (putAt k u)):=by
 induction r with
 | nil=>exact .nil
 | @cons p q ps qs h t ih =>
  rw[List.map_cons,List.map_cons]
  refine .cons ?_ ih
  obtain⟨h1,h2,h3⟩:=h
  unfold putAt
  by_cases e:p.1=k
  ·rw[if_pos e,if_pos (h1.symm.trans e)];exact⟨h1,h2,ry⟩
  ·rw[if_neg e,if_neg (fun z=>e (h1.trans z))];exact⟨h1,h2,h3⟩
theorem KT.put {H:Hp} {kvs:List (List Key × V)} {xs:List (List Key × Addr × Value)} (r:KT H kvs xs) (k:List Key) {b:Addr} {y:V} {u:Value} (hb:H b=some (.tup (k.map kV))) (ry:aG y u) :
  KT H (zbn kvs k y) (storedH xs k b u):=by
 have e:(kvs.any fun kv=>decide (kv.1=k))=(atKey xs k).isSome:=by
  rw[zdJ,(r.val k).isSome_eq,Option.isSome_map]
 unfold zbn storedH
 rw[e]
 by_cases q:(atKey xs k).isSome=true
 ·rw[if_pos q,if_pos q];exact r.repl k ry
 ·rw[if_neg q,if_neg q];exact Paired.snoc r ⟨rfl,hb,ry⟩
theorem KT.keeps {H H':Hp} {kvs:List (List Key × V)} {xs:List (List Key × Addr × Value)} (r:KT H kvs xs) (ht:∀ b ys,H b=some (.tup ys)→H' b=some (.tup ys)):KT H' kvs xs :=
 Paired.mapP r fun _ _ z=>⟨z.1,ht _ _ z.2.1,z.2.2⟩
section
variable {P:Program} {w:World} {H:Hp} {h:Heap} {a:Addr}
theorem rd_of {u:HO} (ok:HOk P w H h) (e:Rd H a u):zaT P w H h a u:=e.ok ok
theorem dk_rd {kvs:List (Key × V)} (ok:HOk P w H h) (e:Rd H a (.dK kvs)):kvs.length≤sizeLine∧(a == sysModules)=false∧∃ vs,KV kvs vs∧h.DictOf (zbc P w) a vs :=
 show zaT P w H h a (.dK kvs) from rd_of ok e
theorem zjr {kvs:List (Key × V)} (ok:HOk P w H h) (e:H a=some (.dK kvs)):kvs.length≤sizeLine∧(a == sysModules)=false∧∃ vs,KV kvs vs∧h.DictOf (zbc P w) a vs:=dk_rd ok (.inl e)
theorem zhG {ks:List Key} (ok:HOk P w H h) (e:H a=some (.tup (ks.map kV))):(tupleKind (zbc P w)).is h ks a:=by
 obtain⟨_,its,r,o,h1,h2,n,h3⟩:=(show zaT P w H h a (.tup (ks.map kV)) from ok a _ e)
 exact⟨o,its.toArray,n,h1,h2,h3,by simpa using zg9 r⟩
theorem dt_rd {kvs:List (List Key × V)} (ok:HOk P w H h) (e:Rd H a (.dT kvs)):kvs.length≤sizeLine∧(a == sysModules)=false ∧
  ∃ xs,KT H kvs xs∧h.DictOfH (tupleKind (zbc P w)) a xs:=by
 obtain⟨z,y,xs,r,o,es,ep,h1,h2,h3,h4,h5⟩:=(show zaT P w H h a (.dT kvs) from rd_of ok e)
 refine⟨z,y,xs,r,o,es,ep,h1,h2,h3,h4,fun x hx=>?_,h5⟩
 have all:∀ {l:List (List Key × V)} {m:List (List Key × Addr × Value)},KT H l m→∀ x∈m,(tupleKind (zbc P w)).is h x.1 x.2.1:=by
  intro l m q
  induction q with
  | nil=>intro x hx;exact nomatch hx
  | @cons p q ps qs hq t ih =>
   intro x hx
   rcases List.mem_cons.mp hx with e | hx
   ·subst e
    exact zhG ok (by rw[←hq.1];exact hq.2.1)
   ·exact ih x hx
 exact all r x hx
theorem dt_of {kvs:List (List Key × V)} (ok:HOk P w H h) (e:H a=some (.dT kvs)):kvs.length≤sizeLine∧(a == sysModules)=false ∧
  ∃ xs,KT H kvs xs∧h.DictOfH (tupleKind (zbc P w)) a xs:=dt_rd ok (.inl e)
end
def zft (H:Hp) (a:Addr) (y:V) (r:Option V):Prop :=
 (∃ kvs k,Rd H a (.dK kvs)∧y=kV k∧r=za0 kvs k)∨∃ kvs k b,Rd H a (.dT kvs)∧y=.ref b∧H b=some (.tup (k.map kV))∧r=za0 kvs k
def zfs (H:Hp) (a:Addr) (y v:V) (H':Hp):Prop :=
 (∃ kvs k,H a=some (.dK kvs)∧y=kV k∧kvs.length < sizeLine∧H'=upd H a (.dK (zbn kvs k v))) ∨
 ∃ kvs k b,H a=some (.dT kvs)∧y=.ref b∧H b=some (.tup (k.map kV))∧kvs.length < sizeLine∧H'=upd H a (.dT (zbn kvs k v))
theorem zft.k {H:Hp} {a:Addr} {kvs:List (Key × V)} {k:Key} (e:H a=some (.dK kvs)):zft H a (kV k) (za0 kvs k):=.inl ⟨kvs,k,.inl e,rfl,rfl⟩
theorem zft.t {H:Hp} {a b:Addr} {kvs:List (List Key × V)} {k:List Key} (e:H a=some (.dT kvs)) (eb:H b=some (.tup (k.map kV))):zft H a (.ref b) (za0 kvs k):=.inr ⟨kvs,k,b,.inl e,rfl,eb,rfl⟩
theorem zfs.k {H:Hp} {a:Addr} {kvs:List (Key × V)} {k:Key} {v:V} (e:H a=some (.dK kvs)) (hl:kvs.length < sizeLine):zfs H a (kV k) v (upd H a (.dK (zbn kvs k v))):=.inl ⟨kvs,k,e,rfl,hl,rfl⟩
theorem zfs.t {H:Hp} {a b:Addr} {kvs:List (List Key × V)} {k:List Key} {v:V} (e:H a=some (.dT kvs)) (eb:H b=some (.tup (k.map kV))) (hl:kvs.length < sizeLine) :
  zfs H a (.ref b) v (upd H a (.dT (zbn kvs k v))):=.inr ⟨kvs,k,b,e,rfl,eb,hl,rfl⟩
section
variable {X:Cx} {pins:List (Addr × Obj)} {σ:St} {H:Hp} {s:Shared} {a:Addr} {y v:V} {u r:Value} {o:Option V} {A:Around} {E:Value→Shared→Prop}
theorem Inv.big (I:Inv X pins σ H s):sysModules < s.heap.objs.size:=by
 have h:mainGlobals < s.heap.objs.size:=(I.mod.glob.keeps I.bk).lt
 exact Nat.lt_trans (by decide) h
theorem d_in {Q:Value→Shared→Prop} (hu:A.units+1 < cLine) (I:Inv X pins σ H s) (g:zft H a y o) (ry:aG y u) (h:∀ s',Inv X pins σ H s'→Q (.bool o.isSome) s') :
  wpAny (model X.prog X.w) A (compareOp .In u (.ref a)) Q E s:=by
 rcases g with ⟨kvs,k,e,ey,l⟩ | ⟨kvs,k,b,e,ey,eb,l⟩
 ·subst ey
  obtain⟨z,hd,vs,rel,dd⟩:=dk_rd I.hok e
  refine wpAny_in_of (zjo ry) hd dd.mapOf ?_
  rw[←(rel.val k).isSome_eq,←l]
  exact h _ (I.tok _)
 ·subst ey
  cases (show u=Value.ref b from ry)
  obtain⟨z,hd,xs,rel,dd⟩:=dt_rd I.hok e
  refine wpAny_in_heap (tupleKind_room_in1 hu) (zhG I.hok eb) hd dd ?_
  have q:=(rel.val k).isSome_eq
  rw[Option.isSome_map]at q
  rw[←q,←l]
  exact h _ (I.tok _)
theorem zgF {h':Heap} {t':Nat} {ob:HO} (I:Inv X pins σ H s) (mu:Mut (H a)) (hs:Heap.SameBut a s.heap h') (he:∃ q,h'.get? a=some q) (new:zaT X.prog X.w (upd H a ob) h' a ob) :
  Inv X pins σ (upd H a ob) { s with heap:=h',toks:=t' } :=
 I.write (x:=a) (e:=a) mu (.inl rfl) (fun b q hb z=>(hs.2 b hb).trans z) he new
theorem zkk {P:Program} {w:World} {H':Hp} {h':Heap} {kvs:List (Key × V)} {vs:List (Key × Value)} (z:kvs.length≤sizeLine) (hd:(a == sysModules)=false) (rel:KV kvs vs) (dd:h'.DictOf (zbc P w) a vs) :
  zaT P w H' h' a (.dK kvs):=⟨z,hd,vs,rel,dd⟩
theorem zkV {H':Hp} {Q:Unit→Shared→Prop} (hu:A.units+1 < cLine) (I:Inv X pins σ H s) (g:zfs H a y v H') (ry:aG y u) (rv:aG v r) (h:∀ s',Inv X pins σ H' s'→Q () s') :
  wpAny (model X.prog X.w) A (setItem (.ref a) u r) Q E s:=by
 rcases g with ⟨kvs,k,e,ey,l,eH⟩ | ⟨kvs,k,b,e,ey,eb,l,eH⟩
 ·subst ey eH
  obtain⟨z,hd,vs,rel,dd⟩:=zjr I.hok e
  have hz:vs.length≤sizeLine:=by rw[←rel.length];exact z
  have hl:(zbn kvs k v).length≤sizeLine:=by have:=zdb kvs k v;omega
  refine wpAny_setItem_pairs (hsz:=hz) (zjo ry) dd fun h' dd' hs=>h _ ?_
  have he:∃ q,h'.get? a=some q:=let ⟨q,_,_,hq,_⟩:=dd';⟨q,hq⟩
  exact zgF I (by rw[e];exact True.intro) hs he (zkk hl hd (rel.put k rv) dd')
 ·subst ey eH
  cases (show u=Value.ref b from ry)
  obtain⟨z,hd,xs,rel,dd⟩:=dt_of I.hok e
  have hz:xs.length≤sizeLine:=by rw[←Paired.length rel];exact z
  have hl:(zbn kvs k v).length≤sizeLine:=by have:=zdb kvs k v;omega
  refine wpAny_setItem_heap (hsz:=hz) (tupleKind_room_in1 hu) (zhG I.hok eb) dd fun h' dd' hs=>h _ ?_
  obtain⟨q,es,ep,hq,h2,h3,h4,_,h5⟩:=dd'
  refine zgF I (by rw[e];exact True.intro) hs ⟨q,hq⟩ ⟨hl,hd,_,(rel.put k eb rv).keeps fun c ys ec=>?_,q,es,ep,hq,h2,h3,h4,h5⟩
  rw[aq (zds ec e (fun z=>nomatch z))]
  exact ec
end
section
variable {X:Cx} {pins:List (Addr × Obj)} {σ:St} {H:Hp} {s:Shared} {a:Addr} {kvs:List (Key × V)} {k:Key} {u:Value} {A:Around} {E:Value→Shared→Prop}
end
def tDIn (ty td:TE):TE:=fun σ H Q=>ty σ H fun y H1=>td σ H1 fun x H2=>∃ a o,x=.ref a∧zft H2 a y o∧Q (.bl o.isSome) H2
def sDPut (td ty tv:TE):TS:=fun D σ H=>tv σ H fun v H1=>td σ H1 fun x H2=>ty σ H2 fun y H3=>∃ a H4,x=.ref a∧zfs H3 a y v H4∧D.nx σ H4
section
variable {X:Cx} {o i e value:Expr} {pos pos' tpos:Pos} {td ty tv:TE}
theorem pc_din (hu:X.A.units+1 < cLine) (hi:PE X i ty) (ho:PE X o td):PC X .In i o (tDIn ty td):=by
 intro pins s σ H Q I h
 refine thn (hi pins s σ H _ I h) fun iv s1 ⟨y,H1,I1,ry,q1⟩=>thn (ho pins s1 σ H1 _ I1 q1) fun u s2 ⟨x,H2,I2,rx,a,ov,ex,g,q2⟩=>?_
 subst ex
 obtain rfl:u=Value.ref a:=rx
 exact d_in hu I2 g ry fun s3 I3=>⟨.bl ov.isSome,H2,I3,rfl,q2⟩
theorem zlS (hu:X.A.units+1 < cLine) (ho:PE X o td) (hi:PE X i ty) (hv:PE X value tv) (hs:swapsWith value (some (.Subscript o i pos')) pos.line X.env=pure false) :
  PS X (.Assign [.Subscript o i pos'] value pos) (sDPut td ty tv):=by
 intro pins s σ H D I h
 refine wpAny_Assign_Subscript (thn (hv pins s σ H _ I h) fun r s1 ⟨v,H1,I1,rv,q1⟩=>thn (ho pins s1 σ H1 _ I1 q1) fun u s2 ⟨x,H2,I2,rx,q2⟩=>thn (hi pins s2 σ H2 _ I2 q2) fun iv s3 ⟨y,H3,I3,ry,a,H4,ex,g,q3⟩=>?_) hs
 subst ex
 obtain rfl:u=Value.ref a:=rx
 exact zkV hu I3 g ry rv fun s4 I4=>⟨σ,H4,I4,q3⟩
end
theorem zlt {P:Program} {w:World} {H:Hp} (h:Heap) (hb:sysModules < h.objs.size):zaT P w H (h.push { cls:=.type "dict",data:=.dict #[] }) h.objs.size (.dK []) :=
 ⟨Nat.zero_le _,beq_eq_false_iff_ne.mpr (Ne.symm (Nat.ne_of_lt hb)),[],.nil,Heap.DictOf.new h⟩
def tDNewK:TE:=fun _ H Q=>∀ p,H p=none→Q (.ref p) (upd H p (.dK []))
section
variable {X:Cx} {pos:Pos}
theorem zlb:PE X (.Dict [] [] pos) tDNewK:=fun pins s σ H Q I h =>
 wpAny_Dict_empty ⟨.ref s.heap.objs.size,_,I.laid (a:=s.heap.objs.size) (o:=.dK []) (t':=s.toks) (fun _ _ q=>Heap.get?_push_of_some _ q) (Nat.le_refl _) (zlt s.heap I.big),rfl,h _ (I.hok.fresh (Nat.le_refl _))⟩
end
def zct (kvs more:List (Key × V)):List (Key × V):=more.foldl (fun acc kv=>zbn acc kv.1 kv.2) kvs
theorem KV.merge:∀ {more:List (Key × V)} {rs:List (Key × Value)} {kvs:List (Key × V)} {vs:List (Key × Value)},KV more rs→KV kvs vs→KV (zct kvs more) (merged vs rs):=by
 intro more rs kvs vs r
 unfold KV at r
 induction r generalizing kvs vs with
 | nil=>intro q;exact q
 | @cons p q ps qs h t ih =>
  intro r0
  have e:KV (zbn kvs p.1 p.2) (stored vs q.1 q.2):=by
   have:=r0.put p.1 h.2
   rw[←h.1];exact this
  exact ih e
theorem zdp:∀(more kvs:List (Key × V)),(zct kvs more).length≤kvs.length+more.length
 | [],kvs=>by show kvs.length≤kvs.length+0;omega
 | p :: r,kvs=>by
  have h1:=zdp r (zbn kvs p.1 p.2)
  have h2:=zdb kvs p.1 p.2
  show(zct (zbn kvs p.1 p.2) r).length≤_
  rw[List.length_cons];omega
section
variable {X:Cx} {pins:List (Addr × Obj)} {σ:St} {H:Hp} {s:Shared} {a:Addr} {y d:V} {u r:Value} {o:Option V} {A:Around} {E:Value→Shared→Prop}
end
section
variable {X:Cx} {o e f:Expr} {apos cpos:Pos} {td ty tx:TE}
end
section
variable {X:Cx} {pins:List (Addr × Obj)} {σ:St} {H:Hp} {s:Shared} {a:Addr} {kvs:List (Key × V)} {A:Around} {E:Value→Shared→Prop}
end
section
variable {X:Cx} {pins:List (Addr × Obj)} {σ:St} {H:Hp} {s:Shared} {a:Addr} {y:V} {u:Value} {A:Around} {E:Value→Shared→Prop}
end
end L2
namespace L2
open PySem PySem.Spec PyProof.Rows
section
variable {X:Cx}
end
section
variable {κ:Type} [DecidableEq κ]
end
end L2
namespace L2
open PySem PySem.Spec PyProof.Rows
section
variable {X:Cx}
end
end L2
namespace L2
open PySem PySem.Spec PyProof.Rows
theorem zi6 {ps:List Int} {i:Nat} {x:V} (h:(ps.map V.int)[i]?=some x):∃ k,ps[i]?=some k∧x=.int k:=by
 rw[List.getElem?_map]at h
 cases e:ps[i]? with
 | none=>rw[e]at h;cases h
 | some k =>
  rw[e]at h
  exact⟨k,rfl,(Option.some.inj h).symm⟩
def aH:List Int→List Int→List Int
 | acc,[]=>acc
 | acc,p :: ps=>aH (if p∈acc then acc else acc++[p]) ps
theorem zcE {n:Int}:∀(ps acc:List Int),n∈aH acc ps↔n∈acc∨n∈ps
 | [],acc=>by simp [aH]
 | p :: ps,acc=>by
  unfold aH
  rw[zcE ps]
  by_cases e:p∈acc
  ·rw[if_pos e]
   constructor
   ·rintro (h | h)
    ·exact .inl h
    ·exact .inr (List.mem_cons_of_mem _ h)
   ·rintro (h | h)
    ·exact .inl h
    ·rcases List.mem_cons.mp h with rfl | h
     ·exact .inl e
     ·exact .inr h
  ·rw[if_neg e]
   simp only[List.mem_append,List.mem_cons,List.not_mem_nil,or_false]
   exact or_assoc
def nf (row held:List Int):List Int:=aH [] (row.filter fun p=>decide (-p∉held))
end L2
namespace L2
open PySem PySem.Spec PyProof.Rows
section
variable {X:Cx}
end
end L2
namespace L2
open PySem PySem.Spec PyProof.Rows
section
variable {X:Cx} {N':List Str} {scope:Scope} {cl:List (Str × Addr)} {fp:List Addr} {pins:List (Addr × Obj)} {σ:St} {H:Hp} {s:Shared}
end
section
variable {X:Cx} {N':List Str} {scope:Scope} {elt iter tg:Expr} {L:Nat} {pos:Pos} {wi:TI} {g:TG} {te:TE} {ix:List Nat}
end
section
variable {X:Cx} {N':List Str} {scope:Scope} {elt iter c tg:Expr} {L:Nat} {pos:Pos} {wi:TI} {g:TG} {tc:TT} {te:TE} {ix:List Nat}
end
end L2
namespace L2
open PySem PySem.Spec PyProof.Rows
theorem Inv.turnedLaid {X:Cx} {pins:List (Addr × Obj)} {σ:St} {H:Hp} {s:Shared} {h':Heap} {fp:List Addr} {a:Addr} {o:HO} {t':Nat} (I:Inv X pins σ H s) (hf:∀ b∈fp,zbi X pins H b) (k:∀ b u,b∉fp→s.heap.get? b=some u→h'.get? b=some u) (hp:s.heap.objs.size≤a) (new:zaT X.prog X.w (upd H a o) h' a o) :
  Inv X pins σ (upd H a o) { s with heap:=h',toks:=t' }:=by
 have hn:=I.hok.fresh hp
 have nfp:∀ b u,H b=some u→b∉fp:=fun b u e z=>by rw[(hf b z).1]at e;cases e
 have un:Un (frs X.stack) fp H (upd H a o) s.heap h':=⟨fun b u q _ _ hx=>k b u hx q,fun b u q _ _ hx=>⟨u.slots,k b u hx q⟩,fun b u q n _=>by rw[aq (Nat.ne_of_lt (Nat.lt_of_lt_of_le (Heap.lt_size q) hp))];exact n,
  fun b u q hx=>⟨u,k b u hx q⟩,fun b xs q=>by rw[aq (zag q hn)];exact q,fun b u xs q=>by rw[aq (zag q hn)];exact q,fun b ps q=>⟨#[],by rw[aq (zag q hn),q];simp⟩⟩
 have hok:HOk X.prog X.w (upd H a o) h':=fun b u e=>by
  by_cases hb:b=a
  ·subst hb;rw[ad]at e;cases e;exact new
  ·rw[aq hb]at e
   refine(I.hok b u e).stay (fun c v hc q=>k c v ?_ q) (fun c q=>by rw[aq (zag q hn)];exact q) fun c xs q=>by rw[aq (zag q hn)];exact q
   rcases hc with z | z
   ·rw[z];exact nfp b u e
   ·exact nfp c _ z
 exact I.call (g':=s.gens) (d':=s.drawn) (ch:=fp) un hok I.bare fun b hb=>⟨(hf b hb).2.2.2.1,(hf b hb).2.1,(hf b hb).2.2.2.2.1,(hf b hb).2.2.2.2.2⟩
def Ite (K:W.Frag) (a:Addr):It :=
 ⟨fun i H=>∃ xs x,SqL K H a xs∧xs[i]?=some x,fun i H x H'=>∃ p y,x=.ref p∧H p=none∧H'=upd H p (.tup [.int i,y])∧∀ xs,SqL K H a xs→xs[i]?=some y,fun i H=>∃ xs,SqL K H a xs∧xs.length≤i⟩
theorem zlC {K:W.Frag} {a:Addr} {xs:List V}:Wk (Ite K a) xs.length (fun H=>SqL K H a xs):=⟨fun _ _ h hi=>⟨xs,h,hi⟩,fun i _ h hi=>⟨xs,xs[i],h,by simp [hi]⟩⟩
theorem zkr {P:Program} {w:World} {K:W.Frag} {elts:List Expr} {x1:Nat} {pos:Pos} (a e it:Addr) (hei:e≠it):Turn P w K (.Tuple elts x1 pos) (Ite K a) [e,it] e (fun i h=>(∃ old,IsEnum h e it ((i:Nat):Int) old)∧h.IsListIter it a i) where
 mem:=by simp
 obj:=fun i h st b hb=>by
  obtain⟨⟨old,he⟩,o,ho,hc,hd⟩:=st
  rcases List.mem_cons.mp hb with rfl | hb
  ·exact⟨_,he,fun v z=>by
    have z':Data.fields _=Data.cell v:=z
    cases z'⟩
  ·have e':=List.mem_singleton.mp hb
   subst e'
   exact⟨o,ho,fun v z=>by rw[hd]at z;cases z⟩
 keep:=fun i h h' st k=>⟨by
  obtain⟨old,he⟩:=st.1
  exact⟨old,k e (by simp) _ he⟩,st.2.at fun o q=>k it (by simp) o q⟩
 item:=by
  intro X hP hw hK hc i pins s σ H E I hf st hg
  subst hP hw hK
  obtain⟨xs,x,hq,hx⟩:=hg
  obtain⟨its,rv,p,hz⟩:=I.list hq
  obtain⟨u,hu,ru⟩:=rv.get hx
  obtain⟨⟨old,he⟩,hit⟩:=st
  obtain⟨oi,hoi,hci,hdi⟩:=id hit
  refine wpAny_pyNext_enum_item he hit p.isList (x:=u) (by simpa using hu) hei fun h' ho st' hT hsz hk=>?_
  refine⟨_,rfl,wpAny_letOwnedTupleGo_enum ho fun h2 he2 hs2=>?_⟩
  replace hs2:Heap.SameBut e h' h2:=hs2
  have heH:e < s.heap.objs.size:=Heap.lt_size he
  have hiH:it < s.heap.objs.size:=Heap.lt_size hoi
  have hT2:h2.get? s.heap.objs.size=some { cls:=.type "tuple",data:=.seq #[.int i s.toks,u] }:=(hs2.2 _ (Nat.ne_of_gt heH)).trans hT
  have kk:∀ b o,b∉[e,it]→s.heap.get? b=some o→h2.get? b=some o:=fun b o hb q=>by
   have hbe:b≠e:=fun z=>hb (by simp [z])
   have hbi:b≠it:=fun z=>hb (by simp [z])
   exact(hs2.2 b hbe).trans (hk b o hbe hbi q)
  have new:zaT X.prog X.w (upd H s.heap.objs.size (.tup [.int i,x])) h2 s.heap.objs.size (.tup [.int i,x]):=by
   refine⟨?_,[.int i s.toks,u],.cons ⟨_,rfl⟩ (.cons ru .nil),_,hT2,?_⟩
   ·exact Nat.le_of_lt (zbS (show 2≤1000 by decide))
   ·first | exact⟨rfl,rfl,_,rfl⟩ | exact⟨rfl,_,rfl⟩ | exact⟨rfl,rfl⟩
  refine⟨.ref s.heap.objs.size,_,I.turnedLaid (t':=s.toks+1) hf kk (Nat.le_refl _) new,rfl,⟨_,x,rfl,I.fresh,rfl,fun ys hy=>by rw[I.list_inj hy hq];exact hx⟩,⟨⟨u,by simpa using he2⟩,?_⟩,?_⟩
  ·exact st'.at fun o q=>(hs2.2 it (Ne.symm hei)).trans q
  ·intro b hb
   have hlt':b < s.heap.objs.size:=by
    rcases List.mem_cons.mp hb with rfl | hb
    ·exact heH
    ·rw[List.mem_singleton.mp hb];exact hiH
   rw[aq (Nat.ne_of_lt hlt')]
   exact(hf b hb).1
 done:=by
  intro X hP hw hK hc i pins s σ H E I hf st hg
  subst hP hw hK
  obtain⟨xs,hq,hx⟩:=hg
  obtain⟨its,rv,p,hz⟩:=I.list hq
  obtain⟨⟨old,he⟩,hit⟩:=st
  obtain⟨f0,f1,f2,f3,f4,f5⟩:=hf it (by simp)
  have hl:=rv.length
  exact wpAny_pyNext_enum_end (I.ok.hd hc) he hit p.isList (by simp;omega) fun h' eb=>⟨rfl,I.turned (t':=s.toks) (fun b o hb q=>eb b o hb q) f0 f1 f3 f4 f5⟩
 self:=fun _ _ _ _ _ st h=>by
  obtain⟨⟨old,he⟩,_⟩:=st
  exact wpAny_pyIter_enum he h
section
variable {X:Cx}
def iEnum (K:W.Frag) (ta:TA):TI:=fun σ H R=>ta σ H fun vs H1=>∃ a,vs=[.ref a]∧(∃ xs,SqL K H1 a xs)∧R (Ite K a) H1
theorem zlT {elts:List Expr} {x1:Nat} {pt:Pos} {a:Expr} {ta:TA} {p pos:Pos} (hg:Gl X "enumerate") (hm:X.mg "enumerate"=none) (ha:PA X [a] ta) (hs:starEach [a] X.env=[(false,eval a X.env)]:=by rfl):PI X (.Tuple elts x1 pt) (.Call (.Name "enumerate" p) [a] [] pos) (iEnum X.K ta):=by
 intro pins s σ H R I h
 refine Call_ (zeN I hg hm boot_enumerate (PyProof.Rows.callWith_type1 (thn (ha pos pins s σ H _ I h) fun us s1 ⟨vs,H1,I1,r1,q1⟩=>?_) hs rfl))
 obtain⟨a,e,⟨xs,hq⟩,q⟩:=q1
 subst e
 obtain⟨u,rfl,ru⟩:=r1.one
 cases ru
 obtain⟨its,rv,p,hz⟩:=I1.list hq
 refine call_enumerate_list p.isList fun h' he hit hz' kk=>?_
 refine wpAny_pyIter_enum he ?_
 have I2:Inv X pins σ H1 { s1 with heap:=h' }:=I1.kept (t':=s1.toks) kk
 refine⟨_,[s1.heap.objs.size+1,s1.heap.objs.size],_,Ite X.K a,H1,rfl,I2,zkr a (s1.heap.objs.size+1) s1.heap.objs.size (Nat.succ_ne_self _),⟨⟨_,he⟩,hit⟩,fun b hb=>?_,q⟩
 have hle:s1.heap.objs.size≤b:=by
  rcases List.mem_cons.mp hb with rfl | hb
  ·omega
  ·rw[List.mem_singleton.mp hb];exact Nat.le_refl _
 exact I1.fpOk hle (I1.hok.fresh hle)
end
end L2
namespace L2
open PySem PySem.Spec PyProof.Rows
section
variable {X:Cx}
end
end L2
namespace L2
open PySem PySem.Spec PyProof.Rows
section
variable {X:Cx} {tg:Expr}
def zlM:V→List V→Hp→VK→Prop:=fun x vs H Q=>∃ d b kvs more,x=.ref d∧vs=[.ref b]∧d≠b∧H d=some (.dK kvs)∧H b=some (.dK more)∧kvs.length+more.length≤sizeLine∧Q .non (upd H d (.dK (zct kvs more)))
theorem zkM:MtR X "dict.update" zlM:=by
 intro pins s σ H x vs v us Q I rx rv h
 obtain⟨d,b,kvs,more,rfl,rfl,hne,hd,hb,hz,q⟩:=h
 cases rx
 obtain⟨u,rfl,ru⟩:=rv.one
 cases ru
 obtain⟨z1,sy1,vs1,rel1,dd1⟩:=zjr I.hok hd
 obtain⟨z2,sy2,vs2,rel2,dd2⟩:=zjr I.hok hb
 have l1:=rel1.length
 have l2:=rel2.length
 refine call_meetsIn PySem.F.slot_dict_update dd1.typeIs PySem.F.entry_dict_update (PySem.F.args_dict_update_2 _ _) (meets_dict_update (zbc X.prog X.w) d b hne sy2) ⟨vs1,vs2,dd1,dd2,by omega,fun h' g1 g2 hs=>?_⟩
 have lm:=zdp more kvs
 have new:=zkk (H':=upd H d (.dK (zct kvs more))) (h':=h') (by omega) sy1 (rel2.merge rel1) g1
 have he:∃ q,h'.get? d=some q:=let ⟨q,_,_,hq,_⟩:=g1;⟨q,hq⟩
 exact⟨.non,_,zgF I (by rw[hd];exact True.intro) hs he new,rfl,q⟩
end
end L2
namespace L2
open PySem PySem.Spec PyProof.Rows
set_option maxRecDepth 100000
section
variable {prog:Program} {w:World} {A:Around} {E:Value→Shared→Prop} {s:Shared} {J:Addr} {fp wr:List Addr} {G:Array GenState→Array GenState→Prop} {n:Nat} {P:Nat→Value→Prop} {St:Nat→Shared→Prop}
end
end L2
namespace L2
open PySem PySem.Spec PyProof.Rows
set_option maxRecDepth 100000
section
variable {prog:Program} {w:World} {A:Around} {R:Result→Shared→Prop} {J:Addr} {fp wr:List Addr} {n:Nat} {P:Nat→Value→Prop} {St:Nat→Heap→Prop} {kw:List (Str × Value)}
end
section
variable {prog:Program} {w:World} {A:Around} {E:Value→Shared→Prop} {s:Shared}
end
section
variable {X:Cx}
end
end L2
namespace HT
open PySem PyProof.Rows
section
variable {prog:Program} {w:World} {A:Around} {E:Value→Shared→Prop} {s:Shared}
end
end HT
namespace L2
open PySem PySem.Spec PyProof.Rows
section
variable {X:Cx}
end
end L2
namespace L2
open PySem PySem.Spec PyProof.Rows
section
variable {X:Cx} {tg:Expr}
end
end L2
namespace L2
open PySem PySem.Spec PyProof.Rows
set_option maxRecDepth 100000
section
variable {X:Cx}
end
end L2
namespace L2
open PySem PySem.Spec PyProof.Rows
set_option maxRecDepth 100000
section
variable {X:Cx}
end
end L2
namespace L2
open PySem PySem.Spec PyProof.Rows
section
variable {P:Program} {w:World}
abbrev Sgn:=Str × List Key
def zhN (P:Program) (w:World) (h:Heap) (k:Sgn) (a:Addr):Prop :=
 ∃(o:Obj) (t:Tok) (q:Addr) (n:Nat),h.get? a=some o∧o.cls=.type "tuple"∧o.data=.seq #[.str k.1 t,.ref q] n∧IsTupleKey (zbc P w) h k.2 q
theorem zhN.inj {h:Heap} {a:Addr} {x y:Sgn} (hx:zhN P w h x a) (hy:zhN P w h y a):x=y:=by
 obtain⟨o,t,q,n,ho,_,hd,hi⟩:=hx
 obtain⟨o',t',q',n',ho',_,hd',hi'⟩:=hy
 cases ho.symm.trans ho'
 have e:=hd.symm.trans hd'
 injection e with e _
 have e2:[Value.str x.1 t,.ref q]=[Value.str y.1 t',.ref q']:=congrArg Array.toList e
 injection e2 with e3 e4
 injection e3 with e5 _
 injection e4 with e6 _
 injection e6 with e7
 subst e7
 exact Prod.ext e5 (hi.inj hi')
variable {A:Around} {E:Value→Shared→Prop} {s:Shared}
end
section
variable {prog:Program} {w:World} {K:Type} [DecidableEq K] {knd:HeapKind prog w K} {A:Around} {E:Value→Shared→Prop} {s:Shared}
end
end L2
namespace L2
open PySem PySem.Spec PyProof.Rows
section
variable {X:Cx}
end
end L2
namespace HT
open PySem PySem.Spec PyProof.Rows
section
variable {prog:Program} {w:World} {A:Around} {E:Value→Shared→Prop} {s:Shared}
end
end HT
namespace L2
open PySem PySem.Spec PyProof.Rows
section
variable {X:Cx} {e st:Expr} {te ts:TE} {pos p2:Pos}
end
end L2
namespace L2
open PySem PySem.Spec PyProof.Rows
section
variable {prog:Program} {w:World} {A:Around} {E:Value→Shared→Prop} {s:Shared}
def TuI (h:Heap) (it t:Addr) (i:Nat) (xs:Array Value):Prop:=h.IsTupleIter it t i∧h.IsTuple t xs
theorem TuI.ext {h h':Heap} {it t b:Addr} {i:Nat} {xs:Array Value} (x:TuI h it t i xs) (hs:Heap.ExtBut b h h') (h1:it≠b) (h2:t≠b):TuI h' it t i xs:=⟨x.1.extBut hs h1,x.2.extBut hs h2⟩
end
section
variable {prog:Program} {w:World} {A:Around} {E:Value→Shared→Prop} {s:Shared}
end
end L2
namespace L2
open PySem PySem.Spec PyProof.Rows
section
variable {X:Cx}
theorem zgq {e:Expr} {f:Str} {pos:Pos} {ta:TE} (K:W.Frag) (hK:X.K=K) (he:PE X e ta) (hb:attributeBase e f X.env (eval e X.env)=eval e X.env):PE X (.Attribute e f pos) (tFld K ta f):=by
 subst hK
 exact zaR he hb
end
end L2
namespace L2
open PySem PySem.Spec PyProof.Rows
section
variable {X:Cx}
end
end L2
namespace L2
open PySem PySem.Spec PyProof.Rows
section
variable {prog:Program} {w:World} {A:Around} {E:Value→Shared→Prop} {s:Shared}
end
end L2
namespace L2
open PySem PySem.Spec PyProof.Rows
end L2
namespace L2
open PySem PySem.Spec PyProof.Rows
section
variable {prog:Program} {w:World} {A:Around} {E:Value→Shared→Prop} {s:Shared}
end
end L2
namespace L2
open PySem PySem.Spec PyProof.Rows
section
variable {X:Cx}
end
end L2
namespace L2
open PySem PySem.Spec PyProof.Rows
section
variable {P:Program} {w:World} {H H':Hp} {h h' B:Heap} {a:Addr} {o:HO}
theorem zaT.there (x:zaT P w H h a o):∃ ob,h.get? a=some ob:=by
 cases o with
 | lst xs=>obtain⟨_,_,_,_,q⟩:=x;exact⟨_,q⟩
 | tup xs=>obtain⟨_,_,_,ob,q,_⟩:=x;exact⟨_,q⟩
 | dK kvs=>obtain⟨_,_,_,_,o,_,_,q,_⟩:=x;exact⟨_,q⟩
 | dT kvs=>obtain⟨_,_,_,_,o,_,_,q,_⟩:=x;exact⟨_,q⟩
 | set S n=>obtain⟨o,_,_,_,q,_⟩:=x;exact⟨_,q⟩
 | ins C dx fs=>obtain⟨_,_,_,q,_⟩:=x;exact⟨_,q⟩
 | own y=>exact x
 | xd fs=>obtain⟨_,⟨_,_,_,q,_⟩,_⟩:=x;exact⟨_,q⟩
 | rng lo hi=>obtain⟨_,_,_,q⟩:=x;exact⟨_,q⟩
 | frz ob u=>exact⟨_,x.1⟩
 | tbl ps=>exact⟨_,(show h.get? a=some _ from x)⟩
 | met f y=>exact⟨_,(show h.get? a=some _ from x)⟩
 | ext φ=>exact x.2.1
def Trk (H:Hp) (h B:Heap):Prop:=∀ b ob,H b≠none→h.get? b=some ob→B.get? b=some ob
def Old (fs:List Addr) (H:Hp) (h B:Heap):Prop:=∀ b ob,h.get? b=some ob→b∉fs→∃ ob',B.get? b=some ob'∧(H b=none→ob'=ob)
theorem HOk.stays (ok:HOk P w H h) (t:Trk H h B) (k:B.StaysIn h'):HOk P w H h':=fun a o e =>
 (ok a o e).stay (fun b u hb q=>k b u (t b u (hb.elim (fun z=>by rw[z,e];exact nofun) fun z=>by rw[z];exact nofun) q)) (fun _ q=>q) fun _ _ q=>q
theorem Trk.stays (ok:HOk P w H h) (t:Trk H h B) (k:B.StaysIn h'):Trk H h' B:=fun b ob hb e=>by
 cases q:H b with
 | none=>exact absurd q hb
 | some u =>
  obtain⟨ob1,e1⟩:=(ok b u q).there
  have z:=t b ob1 hb e1
  have z2:=k b ob1 z
  rw[e]at z2
  cases z2
  exact z
end
def CX1 (P:Program) (w:World):CXT:=fun outer H s E e s'=>∃(ea C:Addr) (H':Hp) (B:Heap) (a0:Value),e=.ref ea∧s'.os=s.os∧AllBare s'.gens∧Un (frs outer) [] H H' s.heap s'.heap∧HOk P w H' s'.heap ∧
 Heap.FlyingW B outer ea (.ref C) a0 s'.heap∧Trk H' s'.heap B∧Old (frs outer) H s.heap B∧E (.ref C) none H'
structure Xe1 (X:Cx) (E:XK):Prop where
 xe:X.xe=fun e s'=>wpAny (model X.prog X.w) X.A (leaving X.env e) (fun _ s''=>CX1 X.prog X.w X.outer X.H₀ X.s₀ E e s'') (fun e' s''=>CX1 X.prog X.w X.outer X.H₀ X.s₀ E e' s'') s'
 stk:X.stack=X.env :: X.outer
 fr:X.env.frame=some X.env.locals
 ex:X.ex=[]
section
variable {X:Cx} {E:XK} {pins:List (Addr × Obj)} {σ:St} {H H':Hp} {s s':Shared} {B:Heap} {ea C:Addr} {a0:Value}
theorem zjd (hx:Xe1 X E) (I:Inv X pins σ H s) {s'':Shared} (os:s''.os=s.os) (bare:AllBare s''.gens) (u:Un (frs X.stack) [] H H' s.heap s'.heap) (ok:HOk X.prog X.w H' s'.heap)
  (fl:Heap.FlyingW B X.outer ea (.ref C) a0 s''.heap) (sm:s'.heap.UpToSlots s''.heap) (trk:Trk H' s'.heap B) (old:Old (frs X.stack) H s.heap B) (hE:E (.ref C) none H') :
  CX1 X.prog X.w X.outer X.H₀ X.s₀ E (.ref ea) s'':=by
 have hfs:frs X.stack=X.env.locals :: X.fs:=by
  rw[hx.stk]
  unfold frs
  rw[List.filterMap_cons,hx.fr]
  rfl
 have nx:∀ b,b∉X.ex:=fun b hb=>by rw[hx.ex]at hb;cases hb
 have nf:∀ b ob,X.s₀.heap.get? b=some ob→b∉X.fs→b∉frs X.stack:=fun b ob e hb z=>by
  rw[hfs]at z
  rcases List.mem_cons.mp z with z | z
  ·exact absurd (Nat.lt_of_lt_of_le (Heap.lt_size e) I.ok.above) (by rw[z];exact Nat.lt_irrefl _)
  ·exact hb z
 have st:B.StaysIn s''.heap:=fl.1
 have U:=I.base
 have old':Old X.fs X.H₀ X.s₀.heap B:=fun b ob e hb=>by
  obtain⟨o1,e1⟩:=U.there b ob e (nx b)
  obtain⟨o',eB,hB⟩:=old b o1 e1 (nf b ob e hb)
  refine⟨o',eB,fun n=>?_⟩
  have k:=U.keep b ob e n hb (nx b)
  rw[e1]at k
  cases k
  exact hB (U.free b ob e n (nx b))
 have slot:∀ b ob,X.s₀.heap.get? b=some ob→X.H₀ b=none→b∈X.fs→∃ sl,s''.heap.get? b=some { ob with slots:=sl }:=fun b ob e n hb=>by
  obtain⟨sl,k⟩:=U.slot b ob e n hb (nx b)
  obtain⟨sl2,k2⟩:=u.any k (U.free b ob e n (nx b)) (by simp)
  obtain⟨_,o3,e3,hd⟩:=I.ok.funs.mem hb
  rw[e]at e3
  cases e3
  obtain⟨sl3,k3⟩:=sm b _ k2 fun vs q=>hd vs q
  exact⟨sl3,k3⟩
 refine⟨ea,C,H',B,a0,rfl,os.trans I.os,bare,⟨fun b ob e n hb _=>?_,fun b ob e n hb _=>slot b ob e n hb,fun b ob e n _=>?_,fun b ob e _=>?_,fun b xs q=>u.tups b xs (U.tups b xs q),fun b ob xs q=>u.frzs b ob xs (U.frzs b ob xs q),fun b ps q=>?_⟩,
  ok.stays trk st,fl,Trk.stays ok trk st,old',hE⟩
 ·obtain⟨o',eB,hB⟩:=old' b ob e hb
  rw[hB n]at eB
  exact st b ob eB
 ·obtain⟨o1,e1⟩:=U.there b ob e (nx b)
  exact u.free b o1 e1 (U.free b ob e n (nx b)) (by simp)
 ·by_cases hb:b∈X.fs
  ·obtain⟨sl,k⟩:=slot b ob e (I.ok.frf b hb) hb
   exact⟨_,k⟩
  ·obtain⟨o',eB,_⟩:=old' b ob e hb
   exact⟨o',st b o' eB⟩
 ·obtain⟨m1,e1⟩:=U.tbls b ps q
  obtain⟨m2,e2⟩:=u.tbls b _ e1
  exact⟨m1++m2,by rw[e2,Array.append_assoc]⟩
theorem zaw (hx:Xe1 X E):zbZ (CX1 X.prog X.w) X E:=by
 intro pins σ H s e s' I h
 obtain⟨ea,C,H',B,a0,rfl,os,bare,u,ok,fl,trk,old,hE⟩:=h
 rw[hx.xe]
 have fl2:=fl
 rw[hx.stk]at fl2
 have hfr:X.A.frames=some (X.env :: X.outer):=by rw[I.ok.frames,hx.stk]
 exact wpAny_leaves_onW hfr hx.fr fl2 fun h' fl' sm=>zjd hx I os bare u ok fl' sm trk old hE
theorem zlB {h':Heap} {vs:List Value} (hx:Xe1 X E) (I:Inv X pins σ H s) (m:Heap.MadeExcOf s.heap h' ea (.ref C) vs) (hE:E (.ref C) none H):X.xe (.ref ea) { s with heap:=h' }:=by
 rw[hx.xe]
 have hl:s.heap.FunFrames (W.hideAll s.heap (frs X.stack)) X.stack:=W.funFrames_hide I.stack fun env he a ha=>List.mem_filterMap.mpr ⟨env,he,ha⟩
 have hl2:s.heap.FunFrames (W.hideAll s.heap (frs X.stack)) (X.env :: X.outer):=by
  have z:=hl
  rw[show X.stack=X.env :: X.outer from hx.stk]at z ⊢
  exact z
 have hfr:X.A.frames=some (X.env :: X.outer):=by rw[I.ok.frames,hx.stk]
 refine wpAny_leaves_madeW (base:=W.hideAll s.heap (frs X.stack)) (h:=s.heap) hfr hx.fr (fun b ob q=>W.of_hideAll _ q) hl2 m fun h'' t fl _ _ sm=>?_
 refine zjd (s':={ s with heap:=h' }) hx I rfl I.bare (Un.kept m.keeps) (I.hok.kept m.keeps) fl sm (fun b ob hb q=>?_) (fun b ob q hb=>⟨ob,W.hideAll_get _ q hb,fun _=>rfl⟩) hE
 cases z:H b with
 | none=>exact absurd z hb
 | some v =>
  obtain⟨o1,e1⟩:=(I.hok b v z).there
  have e2:=m.keeps b o1 e1
  have q':h'.get? b=some ob:=q
  rw[q']at e2
  cases e2
  exact W.hideAll_get _ e1 fun y=>hb (I.stkFree b y)
theorem own_at {K:W.Frag} {hp:Heap} {bmB:List Value} {newId:String} (XI:K.In hp) (q:W.excIn K C bmB newId=true) :
  ∃ bm N nm qn bs hdct sn sub ab col dd k0 k1 k2 k3 k5 mN,hp.get? C=some (excClassObj nm qn C N bs bm hdct sn sub ab col dd k0 k1 k2 k3 k5 newId)∧hp.Ns N mN∧mN "__init__"=none∧OwnTail hp bmB bm:=by
 unfold W.excIn at q
 split at q
 ·rename_i d1 c1 l1 hC1
  split at q
  ·rename_i C2 bm2 y0 y1 y2 y3 n2 y5 hm2 hs2
   simp only[Bool.and_eq_true,beq_iff_eq,Bool.not_eq_true']at q
   obtain⟨⟨⟨⟨⟨rfl,rfl⟩,hdl⟩,htl⟩,hno⟩,hin⟩:=q
   obtain⟨nm,bs,mro,ns,qn,hd,sn,sub,ab,col,del⟩:=c1
   dsimp only at hm2 hdl hno hin
   subst hm2 hdl
   have hsl:l1=#[y0,y1,y2,y3,some (.builtin n2),y5]:=by
    obtain⟨l⟩:=l1
    simp only at hs2
    rw[hs2]
   subst hsl
   exact⟨bm2,ns,nm,qn,bs,hd,sn,sub,ab,col,d1,y0,y1,y2,y3,y5,_,XI _ _ hC1,.of_isNs (W.isNs_of_in XI hno),W.nsMap_none_of_in XI hno hin,W.tail_of_in XI htl⟩
  ·cases q
 ·cases q
variable {e0:Expr} {zby:List Expr} {t:TA} {x:Str} {np cpos pos:Pos} {Bn newId initId:String} {bm:List Value}
def tRaise (E:XK) (C:Addr) (t:TA):TS:=fun _ σ H=>t σ H fun vs H1=>vs.length≤sizeLine∧E (.ref C) none H1
theorem zcD (hx:Xe1 X E) (hc:X.calm=true) (hg:Gl X x) (hm:X.mg x=some (.ref C)) (F:ExcBaseFacts Bn newId initId bm) (q:W.excIn X.K C bm newId=true) (ha:PA X (e0 :: zby) t)
  (hdb:(x == ("__debug__":Str))=false:=by decide) (hse:starEach (e0 :: zby) X.env=(false,eval e0 X.env) :: starEach zby X.env:=by rfl) (hpl:(backTo cpos (starEach zby X.env)).any (·.1)=false:=by rfl) :
  PS X (.Raise (some (.Call (.Name x np) (e0 :: zby) [] cpos)) none pos) (tRaise E C t):=by
 intro pins s σ H D I h
 obtain⟨tl,N,nm,qn,bs,hdct,sn,sub,ab,col,dd,k0,k1,k2,k3,k5,mN,hC,hN,hni,T⟩:=own_at (C:=C) I.mod.kin q
 refine wpAny_Raise_call_subT (C:=C) (nm:=nm) (q:=qn) (N:=N) (bs:=bs) (bm:=tl) (hdct:=hdct) (sn:=sn) (sub:=sub) (ab:=ab) (col:=col) (dd:=dd) (k0:=k0) (k1:=k1) (k2:=k2) (k3:=k3) (k5:=k5) F (mN:=mN)
  (T.hasType F.hasBase) (I.ok.hd hc) (by rw[hse];show(false||(backTo cpos (starEach zby X.env)).any (·.1))=false;rw[hpl];rfl) hni (zc4 I hg hm ⟨rfl,?_⟩ hdb)
 have g:=ha cpos pins s σ H _ I h
 rw[hse]at g ⊢
 refine Calls.evalArgs_plain (wpAny_mono g (fun vs s2 ⟨ws,H2,I2,r2,hz,hE⟩=>?_) fun _ _ y=>y)
 exact⟨rfl,by rw[←r2.length];exact hz,I2.bk _ _ hC,hN.keeps I2.bk,T.keeps I2.bk,fun h' ea m=>zlB hx I2 m hE⟩
end
end L2
namespace L2
open PySem PySem.Spec PyProof.Rows
abbrev Cx.susp (X:Cx) (ea:Addr):Cx:={ X with A:=X.A.mark (some (.ref ea)),calm:=false,xe:=fun _ _=>False }
abbrev Cx.tryc (X:Cx) (pins:List (Addr × Obj)) (E1:Value→Shared→Prop):Cx:={ X with pn:=X.pn++pins,xe:=E1 }
section
variable {X:Cx} {pins:List (Addr × Obj)} {σ:St} {H H':Hp} {s s':Shared} {B:Heap} {ea C:Addr} {a0:Value} {D:zbt} {f:Flow} {E1:Value→Shared→Prop}
theorem Inv.susp (I:Inv X pins σ H s) (ea:Addr):Inv (X.susp ea) pins σ H s :=
 ⟨⟨I.ok.mod,I.ok.kind,I.ok.glob,I.ok.blt,I.ok.above,I.ok.inj,I.ok.has,I.ok.cab,fun z=>(by cases z),I.ok.frames,I.ok.stk,I.ok.exf,I.ok.bs,I.ok.bsz,I.ok.noex,I.ok.exfs,I.ok.funs,I.ok.frf⟩,I.os,I.bare,I.base,I.loc,I.cell,I.free,I.freeC,I.pin,I.hok,I.len⟩
theorem Inv.unsusp (ok:X.Ok) (I:Inv (X.susp ea) pins σ H s):Inv X pins σ H s:=⟨ok,I.os,I.bare,I.base,I.loc,I.cell,I.free,I.freeC,I.pin,I.hok,I.len⟩
theorem SP.unsusp (ok:X.Ok) (h:SP (X.susp ea) pins D f s):SP X pins D f s:=by
 cases f with
 | next=>obtain⟨a,b,I,q⟩:=h;exact⟨a,b,I.unsusp ok,q⟩
 | brk=>obtain⟨a,b,I,q⟩:=h;exact⟨a,b,I.unsusp ok,q⟩
 | cont=>obtain⟨a,b,I,q⟩:=h;exact⟨a,b,I.unsusp ok,q⟩
 | ret u=>obtain⟨v,a,b,I,r,q⟩:=h;exact⟨v,a,b,I.unsusp ok,r,q⟩
theorem Inv.tryc (I:Inv X pins σ H s) (E1:Value→Shared→Prop):Inv (X.tryc pins E1) [] σ H s :=
 ⟨⟨I.ok.mod,I.ok.kind,I.ok.glob,I.ok.blt,I.ok.above,I.ok.inj,I.ok.has,I.ok.cab,I.ok.hd,I.ok.frames,I.ok.stk,I.ok.exf,I.ok.bs,I.ok.bsz,I.ok.noex,I.ok.exfs,I.ok.funs,I.ok.frf⟩,I.os,I.bare,I.base,I.loc,I.cell,I.free,I.freeC,
  fun p hp=>I.pin p (by simpa using hp),I.hok,I.len⟩
theorem Inv.untryc {pins1:List (Addr × Obj)} (ok:X.Ok) (I:Inv (X.tryc pins E1) pins1 σ H s):Inv X pins σ H s :=
 ⟨ok,I.os,I.bare,I.base,I.loc,I.cell,I.free,I.freeC,fun p hp=>I.pin p (List.mem_append_left _ hp),I.hok,I.len⟩
theorem SP.untryc {pins1:List (Addr × Obj)} (ok:X.Ok) (h:SP (X.tryc pins E1) pins1 D f s):SP X pins D f s:=by
 cases f with
 | next=>obtain⟨a,b,I,q⟩:=h;exact⟨a,b,I.untryc ok,q⟩
 | brk=>obtain⟨a,b,I,q⟩:=h;exact⟨a,b,I.untryc ok,q⟩
 | cont=>obtain⟨a,b,I,q⟩:=h;exact⟨a,b,I.untryc ok,q⟩
 | ret u=>obtain⟨v,a,b,I,r,q⟩:=h;exact⟨v,a,b,I.untryc ok,r,q⟩
structure Came (X:Cx) (pins:List (Addr × Obj)) (σ:St) (H:Hp) (s:Shared) (H':Hp) (B:Heap) (s':Shared):Prop where
 I:Inv X pins σ H s
 os:s'.os=s.os
 bare:AllBare s'.gens
 u:Un (frs X.stack) [] H H' s.heap s'.heap
 ok:HOk X.prog X.w H' s'.heap
 trk:Trk H' s'.heap B
 old:Old (frs X.stack) H s.heap B
theorem Came.inv (c:Came X pins σ H s H' B s') {h':Heap} (st:B.StaysIn h') (sm:s'.heap.UpToSlots h'):Inv X pins σ H' { s' with heap:=h' }:=by
 have slot:∀ b ob,s.heap.get? b=some ob→H b=none→b∈frs X.stack→∃ sl,h'.get? b=some { ob with slots:=sl }:=fun b ob e n hb=>by
  obtain⟨sl,k⟩:=c.u.slot b ob e n hb (by simp)
  obtain⟨_,o3,e3,hd⟩:=c.I.stack.mem hb
  rw[e]at e3
  cases e3
  obtain⟨sl3,k3⟩:=sm b _ k fun vs q=>hd vs q
  exact⟨sl3,k3⟩
 refine c.I.call' (s':={ s' with heap:=h' }) (ch:=[]) c.os ⟨fun b ob e n hb _=>?_,fun b ob e n hb _=>slot b ob e n hb,fun b ob e n _=>c.u.free b ob e n (by simp),fun b ob e _=>?_,c.u.tups,c.u.frzs,c.u.tbls⟩ (c.ok.stays c.trk st) c.bare (fun b hb=>by cases hb)
 ·obtain⟨o',eB,hB⟩:=c.old b ob e hb
  rw[hB n]at eB
  exact st b ob eB
 ·by_cases hb:b∈frs X.stack
  ·obtain⟨sl,k⟩:=slot b ob e (c.I.stkFree b hb) hb
   exact⟨_,k⟩
  ·obtain⟨o',eB,_⟩:=c.old b ob e hb
   exact⟨o',st b o' eB⟩
def PH (X:Cx) (hs:List ExceptHandler) (th:Addr→TS):Prop :=
 ∀(pins:List (Addr × Obj)) (σ:St) (H:Hp) (s:Shared) (H':Hp) (B:Heap) (s':Shared) (D:zbt) (ea C:Addr) (a0:Value) (h':Heap),Came X pins σ H s H' B s'→Heap.FlyingW B X.stack ea (.ref C) a0 h'→s'.heap.UpToSlots h'→th C D σ H' →
  wpAny (model X.prog X.w) X.A (handleBy (.ref ea) X.env hs) (SP X pins D) X.xe { s' with heap:=h' }
theorem zk8 {hs:List ExceptHandler}:PH X hs (fun _=>tNever):=fun _ _ _ _ _ _ _ _ _ _ _ _ _ _ _ z=>z.elim
def tExc (K:W.Frag) (C1:Addr) (ts:TS) (th:Addr→TS):Addr→TS:=fun C D σ H=>∃ b,W.exmOne K (.ref C) (.ref C1)=some b∧if b=true then ts D σ H else th C D σ H
theorem zlU {x:Str} {np pos:Pos} {b0:Stmt} {suite:List Stmt} {zby:List ExceptHandler} {C1:Addr} {ts:TS} {th:Addr→TS} (hg:Gl X x) (hm:X.mg x=some (.ref C1)) (hs:∀ ea,PSs (X.susp ea) (b0 :: suite) ts) (hr:PH X zby th)
  (hdb:(x == ("__debug__":Str))=false:=by decide):PH X (.ExceptHandler (some (.Name x np)) none (b0 :: suite) pos :: zby) (tExc X.K C1 ts th):=by
 intro pins σ H s H' B s' D ea C a0 h' c fl sm h
 obtain⟨b,hb,h⟩:=h
 have I:=c.inv fl.1 sm
 have I':=I.susp ea
 obtain⟨oe,he,hcl⟩:=fl.there
 have LT:W.Looks (model X.prog X.w) h' (typeOf (.ref ea)) (.ref C):=hcl ▸ (W.Looks.ld he).andThen .now
 refine wpAny_handleBy_cons (codeAny_handlers_test (zc4 (X:=X.susp ea) I' hg hm ?_ hdb)) (by intro q;cases q)
 refine W.exm_one (M:=model X.prog X.w) (K:=X.K) (h:=h') I.kIn LT hb _ _ _ _ (fun _ _ q=>q) ?_
 cases b with
 | true =>
  refine codeAny_handlers_suite (lands_againW fl fun h2 fl2 sm2=>?_)
  have I2:=(c.inv fl2.1 (sm.trans sm2)).susp ea
  exact wpAny_mono (hs ea pins _ σ H' D I2 h) (fun f s2 q=>q.unsusp I.ok) fun _ _ q=>q.elim
 | false=>exact hr pins σ H s H' B s' D ea C a0 h' c fl sm h
end
end L2
namespace L2
open PySem PySem.Spec PyProof.Rows
section
variable {X:Cx} {pins:List (Addr × Obj)} {σ:St} {H H':Hp} {s s':Shared} {B:Heap} {ea C:Addr} {a0:Value} {D:zbt} {f:Flow}
end
end L2
namespace L2
open PySem
abbrev zd2:Str:="abcdefghijklmnopqrstuvwxyz"
theorem zlA:zd2.cps.toList.length=26:=by decide +kernel
theorem zko {α:Type} {xs:List α} {i:Int} (h0:0≤i) (h1:i < (xs.length:Int)):∃ c,atI xs i=some c:=by
 have hk:i.toNat < xs.length:=by omega
 have e:i=((i.toNat:Nat):Int):=by omega
 have q:atI xs ((i.toNat:Nat):Int)=some xs[i.toNat]:=zah (List.getElem?_eq_getElem hk)
 rw[←e]at q
 exact⟨_,q⟩
theorem zim (a b:Str):(a++b).length=a.length+b.length:=by
 show(a.cps++b.cps).size=a.cps.size+b.cps.size
 exact Array.size_append
theorem zje {w:Str} {lo hi:Option Int} {n:Nat} (h:w.length≤n):(Txt.slice w lo hi).length≤n:=Nat.le_trans (Txt.slice_le w lo hi) h
theorem zev (c:Nat):(⟨#[c]⟩:Str).length=1:=rfl
theorem szS {n:Nat} (h:n≤1000):n≤sizeLine:=Nat.le_of_lt (zbS h)
end L2
namespace L2
open PySem PySem.Spec PyProof.Rows
section
variable {M:Model} {A:Around} {E:Value→Shared→Prop} {s:Shared}
theorem zjK {base:Heap} {l:List Env} {e:Addr} {cls a0 fl:Value} {fo:Option Addr} {Q:Unit→Shared→Prop} (st:base.StaysIn s.heap) (fr:s.heap.FunFrames base l) (tr:s.heap.TracedAtW base e cls a0 fl)
  (k:∀ h',base.StaysIn h'→h'.FunFrames base l→h'.TracedAtW base e cls a0 (fo.elim .none fun f=>rawInt f)→(∀ b o,s.heap.get? b=some o→(∀ vs,o.data≠.fields vs)→h'.get? b=some o)→Q () { s with heap:=h' }) :
  wpAny M A (setFlight (.ref e) fo) Q E s:=by
 obtain⟨oe,vs,T,oT,ts,ge,gcls,gd,g1,gnT,gTe,gT,gdT,g3⟩:=tr
 have lt3:=(Array.getElem?_eq_some_iff.mp g3).1
 have oth:∀ b,b≠T→(s.heap.update T (Obj.mapFields (·.setIfInBounds 3 (fo.elim Value.none fun f=>rawInt f)))).get? b=s.heap.get? b:=fun b nb=>Heap.get?_update_other _ _ (Ne.symm nb)
 have nr:∀ b o,s.heap.get? b=some o→(∀ vs,o.data≠.fields vs)→b≠T:=by
  intro b o hb hnf q
  rw[q,gT]at hb
  cases hb
  exact hnf ts gdT
 unfold setFlight
 refine wpAny_bind (wpAny_field ge gd g1 ?_)
 rw[if_pos (by simp)]
 refine wpAny_setField gT gdT lt3 (k _ ?_ ?_ ?_ ?_)
 ·intro b o q
  rw[oth b fun z=>by rw[z,gnT]at q;cases q]
  exact st b o q
 ·exact fr.of_keeps fun b o hb hnf=>⟨o,(oth b (nr b o hb hnf)).trans hb,rfl⟩
 ·exact⟨oe,vs,T,_,_,(oth e (Ne.symm gTe)).trans ge,gcls,gd,g1,gnT,gTe,Heap.get?_update_self _ gT (Obj.isFreed_of_fields (Obj.data_mapFields gdT _)),Obj.data_mapFields gdT _,by simp [lt3]⟩
 ·exact fun b o hb hnf=>(oth b (nr b o hb hnf)).trans hb
theorem zjG {base:Heap} {env:Env} {outer:List Env} {L e:Addr} {cls a0 fl:Value} {Q:Unit→Shared→Prop} (af:A.frames=some (env :: outer)) (ef:env.frame=some L) (st:base.StaysIn s.heap) (hen:base.get? e=none)
  (fr:s.heap.FunFrames base (env :: outer)) (tr:s.heap.TracedAtW base e cls a0 fl) (k:∀ h',Heap.FlyingW base outer e cls a0 h'→s.heap.UpToSlots h'→Q () { s with heap:=h' }):wpAny M A (leaving env (.ref e)) Q E s:=by
 by_cases hz:fl=rawInt L
 ·subst hz
  unfold leaving
  refine wpAny_bind (wpAny_noteFrame_againW ef tr ?_)
  refine wpAny_landsW ⟨st,hen,fr,tr⟩ fun h' hfl sm=>?_
  obtain⟨k1,k2,⟨_,_,k3⟩,k4⟩:=hfl
  exact k h' ⟨k1,k2,k3,k4⟩ sm
 ·obtain⟨oe,vs,T,oT,ts,ge,⟨gc,g0⟩,gd,g1,gnT,gTe,gT,gdT,g3⟩:=tr
  subst gc
  have oth:∀ b,b≠T→(s.heap.update T (Obj.mapFields (·.setIfInBounds 3 Value.none))).get? b=s.heap.get? b:=fun b nb=>Heap.get?_update_other _ _ (Ne.symm nb)
  have nr:∀ b o,s.heap.get? b=some o→(∀ vs,o.data≠.fields vs)→b≠T:=by
   intro b o hb hnf q
   rw[q,gT]at hb
   cases hb
   exact hnf ts gdT
  unfold leaving noteFrame
  simp only[ef]
  refine wpAny_bind (wpAny_bind (wpAny_field ge gd g1 ?_))
  rw[if_pos (by simp)]
  refine wpAny_bind (wpAny_field gT gdT g3 ?_)
  rw[if_neg (by simpa using hz)]
  refine wpAny_bind (wpAny_setField gT gdT (Array.getElem?_eq_some_iff.mp g3).1 ?_)
  refine wpAny_newEntryW af (fr.of_keeps fun b o hb hnf=>⟨o,(oth b (nr b o hb hnf)).trans hb,rfl⟩) ef ((oth e (Ne.symm gTe)).trans ge) (fun b o q=>(oth b fun z=>by rw[z,gnT]at q;cases q).trans (st b o q)) hen gd (Array.getElem?_eq_some_iff.mp g1).1 g0 fun h' hL=>?_
  obtain⟨k1,⟨_,_,k2⟩,k3,k4⟩:=hL
  exact k h' ⟨k1,hen,k2,k3⟩ fun b o hb hnf=>k4 b o ((oth b (nr b o hb hnf)).trans hb) hnf
theorem zf7 {h h' base base':Heap} {c:Addr} (sb:Heap.SameBut c h h') (hb:∀ b,base.get? b=none→base'.get? b=none):∀ {l:List Env},h.FunFrames base l→(∀ env∈l,env.frame≠some c)→h'.FunFrames base' l
 | [],_,_=>trivial
 | env :: l,⟨hk,⟨L,o,e1,e2,e3,e4⟩,r⟩,hc=>by
  have nL:L≠c:=fun z=>hc env (List.mem_cons_self ..) (by rw[e1,z])
  exact⟨hk,⟨L,o,e1,hb L e2,(sb.2 L nL).trans e3,e4⟩,zf7 sb hb r fun env' he=>hc env' (List.mem_cons_of_mem _ he)⟩
end
section
variable {X:Cx} {E:XK} {pins:List (Addr × Obj)} {σ:St} {H H':Hp} {s s':Shared} {B:Heap} {ea C:Addr} {a0:Value}
theorem Xe1.frs (hx:Xe1 X E):L2.frs X.stack=X.env.locals :: X.fs:=by
 rw[hx.stk]
 unfold L2.frs
 rw[List.filterMap_cons,hx.fr]
 rfl
theorem zlu (hx:Xe1 X E) (I:Inv X pins σ H s) {s'':Shared} {c:Addr} (hc:X.s₀.heap.objs.size≤c) (hcf:c∉X.fs) (os:s''.os=s.os) (bare:AllBare s''.gens) (u:Un (frs X.stack) [] H H' s.heap s'.heap) (ok:HOk X.prog X.w H' s'.heap)
  (fl:Heap.FlyingW B X.outer ea (.ref C) a0 s''.heap) (sm:∀ b o,b≠c→s'.heap.get? b=some o→(∀ vs,o.data≠.fields vs)→∃ sl,s''.heap.get? b=some { o with slots:=sl }) (trk:Trk H' s'.heap B)
  (old:∀ b ob,b≠c→s.heap.get? b=some ob→b∉frs X.stack→∃ ob',B.get? b=some ob'∧(H b=none→ob'=ob)) (hE:E (.ref C) none H') :
  CX1 X.prog X.w X.outer X.H₀ X.s₀ E (.ref ea) s'':=by
 have hfs:=hx.frs
 have nx:∀ b,b∉X.ex:=fun b hb=>by rw[hx.ex]at hb;cases hb
 have nc:∀ b ob,X.s₀.heap.get? b=some ob→b≠c:=fun b ob e z=>absurd (z ▸ Heap.lt_size e) (Nat.not_lt.mpr hc)
 have nf:∀ b ob,X.s₀.heap.get? b=some ob→b∉X.fs→b∉frs X.stack:=fun b ob e hb z=>by
  rw[hfs]at z
  rcases List.mem_cons.mp z with z | z
  ·exact absurd (Nat.lt_of_lt_of_le (Heap.lt_size e) I.ok.above) (by rw[z];exact Nat.lt_irrefl _)
  ·exact hb z
 have st:B.StaysIn s''.heap:=fl.1
 have U:=I.base
 have old':Old X.fs X.H₀ X.s₀.heap B:=fun b ob e hb=>by
  obtain⟨o1,e1⟩:=U.there b ob e (nx b)
  obtain⟨o',eB,hB⟩:=old b o1 (nc b ob e) e1 (nf b ob e hb)
  refine⟨o',eB,fun n=>?_⟩
  have k:=U.keep b ob e n hb (nx b)
  rw[e1]at k
  cases k
  exact hB (U.free b ob e n (nx b))
 have slot:∀ b ob,X.s₀.heap.get? b=some ob→X.H₀ b=none→b∈X.fs→∃ sl,s''.heap.get? b=some { ob with slots:=sl }:=fun b ob e n hb=>by
  obtain⟨sl,k⟩:=U.slot b ob e n hb (nx b)
  obtain⟨sl2,k2⟩:=u.any k (U.free b ob e n (nx b)) (by simp)
  obtain⟨_,o3,e3,hd⟩:=I.ok.funs.mem hb
  rw[e]at e3
  cases e3
  obtain⟨sl3,k3⟩:=sm b _ (fun z=>hcf (z ▸ hb)) k2 fun vs q=>hd vs q
  exact⟨sl3,k3⟩
 refine⟨ea,C,H',B,a0,rfl,os.trans I.os,bare,⟨fun b ob e n hb _=>?_,fun b ob e n hb _=>slot b ob e n hb,fun b ob e n _=>?_,fun b ob e _=>?_,fun b xs q=>u.tups b xs (U.tups b xs q),fun b ob xs q=>u.frzs b ob xs (U.frzs b ob xs q),fun b ps q=>?_⟩,
  ok.stays trk st,fl,Trk.stays ok trk st,old',hE⟩
 ·obtain⟨o',eB,hB⟩:=old' b ob e hb
  rw[hB n]at eB
  exact st b ob eB
 ·obtain⟨o1,e1⟩:=U.there b ob e (nx b)
  exact u.free b o1 e1 (U.free b ob e n (nx b)) (by simp)
 ·by_cases hb:b∈X.fs
  ·obtain⟨sl,k⟩:=slot b ob e (I.ok.frf b hb) hb
   exact⟨_,k⟩
  ·obtain⟨o',eB,_⟩:=old' b ob e hb
   exact⟨o',st b o' eB⟩
 ·obtain⟨m1,e1⟩:=U.tbls b ps q
  obtain⟨m2,e2⟩:=u.tbls b _ e1
  exact⟨m1++m2,by rw[e2,Array.append_assoc]⟩
theorem zfm {N':List Str} {scope:Scope} {cl:List (Str × Addr)} {fp:List Addr} {Qc:Value→Shared→Prop} {acc:Value} (hx:Xe1 X E) (I:Inv X pins σ H s) (f3:∀ b∈fp,zbi X pins H b) :
  zbZ (CX1 X.prog X.w) ((az X N' scope cl fp s H).wish (notedBy (model X.prog X.w) X.A (compEnvC scope cl s.heap.objs.size X.env) fun e s'=>compPost (model X.prog X.w) X.A X.xe none Qc acc s.heap.objs.size (.error e) s')) E:=by
 intro pins' σ' H5 s5 e s' J5 h
 obtain⟨ea,Cc,H',B,a0,rfl,os,bare,u,ok,fl,trk,old,hE⟩:=h
 have J5':Inv (az X N' scope cl fp s H) pins' σ' H5 s5:=J5.unwish
 have fl2:Heap.FlyingW B (X.env :: X.outer) ea (.ref Cc) a0 s'.heap:=hx.stk ▸ (show Heap.FlyingW B X.stack ea (.ref Cc) a0 s'.heap from fl)
 have af:X.A.frames=some (X.env :: X.outer):=by rw[I.ok.frames,hx.stk]
 show wpAny (model X.prog X.w) X.A (noteFrame (.ref ea) X.env) (fun _ s''=>compPost (model X.prog X.w) X.A X.xe none Qc acc s.heap.objs.size (.error (.ref ea)) s'') (fun e s''=>compPost (model X.prog X.w) X.A X.xe none Qc acc s.heap.objs.size (.error e) s'') s'
 refine wpAny_looks_onW af hx.fr fl2 fun h1 held sm1=>?_
 have cm:Came (az X N' scope cl fp s H) pins' σ' H5 s5 H' B s':=⟨J5',os,bare,u,ok,trk,old⟩
 have J6:=cm.inv held.1 sm1
 obtain⟨m,hn,_⟩:=J6.loc
 have hn':h1.Ns s.heap.objs.size m:=hn
 have Hc:H' s.heap.objs.size=none:=J6.free
 refine⟨m,hn',fun h2 hsb cenv' _=>?_⟩
 have I5:Inv X pins σ H5 s5:=zcF I (J5'.pins_of (pins':=[]) (fun p hp=>by cases hp)) f3 (Heap.SameBut.refl _ _)
 generalize hcc:s.heap.objs.size=c at *
 have hcs:X.s₀.heap.objs.size≤c:=hcc ▸ I.sz
 have hcf:c∉X.fs:=I.nofs (Nat.le_of_eq hcc)
 have hcl:X.env.locals≠c:=hcc ▸ Nat.ne_of_lt I.lt
 have hcn:c∉frs X.stack:=by
  rw[hx.frs]
  intro z
  rcases List.mem_cons.mp z with z | z
  ·exact hcl z.symm
  ·exact hcf z
 obtain⟨oe,vs,T,oT,ts,ge,gc,gd,g1,gnT,gTe,gT,gdT,g3⟩:=held.2.2.2
 have nd:∀ b o ws,h1.get? b=some o→o.data=.fields ws→b≠c:=by
  intro b o ws e1 e2 z
  obtain⟨o',es,ep,e3,e4,_⟩:=hn'
  rw[z,e3]at e1
  cases e1
  rw[e4]at e2
  cases e2
 have hen':(W.hideAll B [c]).get? ea=none:=by
  cases z:(W.hideAll B [c]).get? ea with
  | none=>rfl
  | some o =>
   have:=W.of_hideAll _ z
   rw[held.2.1]at this
   cases this
 have hnn:∀ b,B.get? b=none→(W.hideAll B [c]).get? b=none:=by
  intro b q
  cases z:(W.hideAll B [c]).get? b with
  | none=>rfl
  | some o =>
   have:=W.of_hideAll _ z
   rw[q]at this
   cases this
 have st':(W.hideAll B [c]).StaysIn h2:=by
  intro b o q
  have nb:b≠c:=by
   intro z
   rw[z,W.hideAll_none [c] (by simp)]at q
   cases q
  exact(hsb.2 b nb).trans (held.1 b o (W.of_hideAll _ q))
 have fr':h2.FunFrames (W.hideAll B [c]) (X.env :: X.outer):=by
  refine zf7 hsb hnn held.2.2.1 fun env he z=>hcn ?_
  rw[hx.stk]
  exact List.mem_filterMap.mpr ⟨env,he,z⟩
 have tr':h2.TracedAtW (W.hideAll B [c]) ea (.ref Cc) a0 (rawInt X.env.locals) :=
  ⟨oe,vs,T,oT,ts,(hsb.2 _ (nd _ _ _ ge gd)).trans ge,gc,gd,g1,hnn T gnT,gTe,(hsb.2 _ (nd _ _ _ gT gdT)).trans gT,gdT,g3⟩
 unfold PySem.passOn
 refine wpAny_bind (wpAny_field ((hsb.2 _ (nd _ _ _ ge gd)).trans ge) gd g1 ?_)
 rw[if_neg (by simp)]
 refine wpAny_bind (zjK st' fr' tr' fun h3 k1 k2 k3 k4=>?_)
 refine wpAny_throw ?_
 rw[hx.xe]
 refine zjG af hx.fr k1 hen' k2 k3 fun h4 hfl sm4=>?_
 refine zlu (s':=s') hx I5 hcs hcf os bare u ok hfl (fun b o nb e hnf=>?_) (fun b ob hb e=>W.hideAll_get _ (trk b ob hb e) fun z=>hb ?_) (fun b ob nb e hb=>?_) hE
 ·obtain⟨sl1,e1⟩:=sm1 b o e hnf
  obtain⟨sl2,e2⟩:=sm4 b _ (k4 b _ ((hsb.2 b nb).trans e1) hnf) hnf
  exact⟨sl2,e2⟩
 ·rw[List.mem_singleton.mp z]
  exact Hc
 ·obtain⟨ob',eB,hB⟩:=old b ob e hb
  exact⟨ob',W.hideAll_get _ eB (by simpa using nb),hB⟩
end
section
variable {X:Cx} {N':List Str} {scope:Scope} {elt iter:Expr} {x:Str} {px pos:Pos} {wi:TI} {te:TE} {ix:List Nat} {E:XK}
theorem pe_lcX (hx1:Xe1 X E) (hc:X.calm=true) (hkind:scope.kind=.function) (hcell:∀ y∈scope.names,y.2≠.cell) (hnames:∀ y∈scope.names,y.2=.local→scope.names.lookup y.1=some .local) (hx:scope.names.lookup x=some .local)
  (hclo:X.Ok→∃ cl,Clo X scope cl) (hN:N'.Nodup) (hN0:N'[0]?=some x) (hlen:N'.length=ix.length+1)
  (hix:∀(j i:Nat),ix[j]?=some i→∃ y,X.N[i]?=some y∧N'[j+1]?=some y∧(X.env.kindOf y=some .cell∨X.env.kindOf y=some .free)∧((relabel scope X.env).names.lookup y=some .cell∨(relabel scope X.env).names.lookup y=some .free))
  (hi:PI X (.Name x px) iter wi) (he:∀ cl fp s₃ H₃ xe0,zbZ (CX1 X.prog X.w) ((az X N' scope cl fp s₃ H₃).wish xe0) E→PE ((az X N' scope cl fp s₃ H₃).wish xe0) elt te) (hs:∀ v,foldedSetIterable iter X.env v=pure v:=by intro _;rfl) :
  PE X (.ListComp elt [⟨.Name x px,iter,[],0⟩] scope pos) (tLC wi ix te):=by
 intro pins s σ H Q I h
 obtain⟨cl,C⟩:=hclo I.ok
 rw[eval_ListComp]
 refine wpAny_comprehension_free (use:=none) rfl hs C.eq hkind hnames (thn (hi pins s σ H _ I h) fun v s1 h1=>thn h1 fun itv s2 h2=>?_)
 obtain⟨it,fp,tn,J,H2,e,I2,T,st2,f2,q2⟩:=h2
 subst e
 have hD:H2 s2.heap.objs.size=none:=I2.fresh
 obtain⟨W,⟨m0,w0⟩,turn⟩:=q2 s2.heap.objs.size hD
 refine wpAny_newObj_type (wpAny_newFunctionEnv hcell (by intro y hy;simp at hy) (fun h₁ hns₁ hsb₁=>?_) hkind)
 dsimp only at hns₁ hsb₁ ⊢
 have I3:Inv X pins σ (upd H2 s2.heap.objs.size (.lst [])) { s2 with heap:=s2.heap.push { cls:=.type "list",data:=.seq ([]:List Value).toArray },toks:=s2.toks }:=I2.lnew .nil (Nat.zero_le _)
 generalize hs3:({ s2 with heap:=s2.heap.push { cls:=.type "list",data:=.seq ([]:List Value).toArray },toks:=s2.toks }:Shared)=s3 at I3
 have e3:s3.heap=s2.heap.push { cls:=.type "list",data:=.seq ([]:List Value).toArray }:=by rw[←hs3]
 generalize hDD:s2.heap.objs.size=D at *
 generalize hH3:upd H2 D (.lst [])=H3 at *
 have lt2:∀ b∈fp,b < s2.heap.objs.size:=fun b hb=>by
  obtain⟨o,ho,_⟩:=T.obj 0 _ st2 b hb
  exact Heap.lt_size ho
 have neD:∀ b∈fp,b≠D:=fun b hb=>by rw[←hDD];exact Nat.ne_of_lt (lt2 b hb)
 have f3:∀ b∈fp,zbi X pins H3 b:=fun b hb=>⟨by rw[←hH3,aq (neD b hb)];exact(f2 b hb).1,(f2 b hb).2⟩
 have sz3:s3.heap.objs.size=D+1:=by rw[e3,Heap.size_push,hDD]
 have lt3:∀ b∈fp,b < s3.heap.objs.size:=fun b hb=>by have q:=lt2 b hb;rw[sz3];rw[hDD]at q;exact Nat.lt_succ_of_lt q
 have old:∀ b o,s3.heap.get? b=some o→h₁.get? b=some o:=fun b o eb=>by
  have hb:b < D+1:=by rw[←sz3];exact Heap.lt_size eb
  refine hsb₁.extBut b o ?_ (Heap.get?_push_of_some _ (by rw[←e3];exact eb))
  rw[Heap.size_push,hDD]
  exact Nat.ne_of_lt hb
 have szC:(s2.heap.push { cls:=.type "list",data:=.seq ([]:List Value).toArray }).objs.size=s3.heap.objs.size:=by rw[e3]
 have os3:s3.os=s2.os:=by rw[←hs3]
 rw[szC]at hns₁ hsb₁
 have I4:Inv (az X N' scope cl fp s3 H3) [] (none :: fvs σ ix) H3 { s3 with heap:=h₁,toks:=s2.toks+([]:List (Str × Value)).length }:=zcm I3 C hkind f3 lt3 hlen hix hns₁ old
 have st4:tn 0 h₁:=T.keep 0 _ _ st2 fun b hb o eb=>old b o (by rw[e3];exact Heap.get?_push_of_some _ eb)
 have stat:∀ {H':Hp},(∀ b∈fp,H' b=none)→∀ b∈fp,zbi (az X N' scope cl fp s3 H3) [] H' b:=fun hn b hb =>
  ⟨hn b hb,Nat.ne_of_lt (lt3 b hb),fun hs'=>(zbr (N':=N') I3 C hkind f3 lt3).exfs b hb hs',.inl hb,fun y c hy=>((zbr (N':=N') I3 C hkind f3 lt3).exf b hb).2 y c hy,fun p hp=>absurd (show p∈([]:List (Addr × Obj)) from hp) (by simp)⟩
 have loop:∀ s4:Shared,s4={ s3 with heap:=h₁,toks:=s2.toks+([]:List (Str × Value)).length } →
   codeAny (model X.prog X.w) X.A (.compLoop (.ListComp elt [⟨.Name x px,iter,[],0⟩] scope pos) 0 (.ref it) (.ref D) (compEnvC scope cl s3.heap.objs.size X.env))
    (compPost (model X.prog X.w) X.A X.xe none (EP X pins σ Q) (.ref D) s3.heap.objs.size) s4:=by
  rintro s4 rfl
  refine zdc (fun n s'=>∃ i σ0 H' ys,Inv (az X N' scope cl fp s3 H3) [] (σ0 :: fvs σ ix) H' s'∧tn i s'.heap∧(∀ b∈fp,H' b=none)∧W i n ys H') ?_ m0 ⟨0,none,H3,[],I4,st4,fun b hb=>(f3 b hb).1,w0⟩
  rintro n s5 ⟨i,σ0,H5,ys,I5,st5,fr5,w5⟩
  obtain⟨hD5,alt⟩:=turn i n ys H5 w5
  rcases alt with ⟨stop,q⟩ | ⟨go,step⟩
  ·refine thn (T.done (az X N' scope cl fp s3 H3) rfl rfl rfl hc i [] s5 _ H5 _ I5 (stat fr5) st5 stop) fun r s6 ⟨hr,I6⟩=>?_
   subst hr
   obtain⟨m,hn,_⟩:=I6.loc
   exact⟨m,hn,fun h' hsb=>⟨.ref D,H5,zcF I3 I6 f3 hsb,rfl,q⟩⟩
  ·refine thn (T.item (az X N' scope cl fp s3 H3) rfl rfl rfl hc i [] s5 _ H5 _ I5 (stat fr5) st5 go) fun r s6 ⟨u,hr,h6⟩=>?_
   subst hr
   refine thn h6 fun _ s7 ⟨y7,H7,I7,r7,yl7,st7,fr7⟩=>?_
   have I7':=I7.pinned (stat fr7) (T.obj _ _ st7)
   have G:PG (az X N' scope cl fp s3 H3) (.Name x px) (zcV 0):=zay hN hN0 (.inl (lookup_relabel_local hx)) (.inr (lookup_relabel_local hx))
   refine wpAny_mono (G _ s7 _ H7 y7 u (fun σ' H'=>σ'=some y7 :: fvs σ ix∧H'=H7) I7' r7 ⟨rfl,rfl⟩) (fun _ s8 h8=>?_) fun _ _ f=>False.elim f
   obtain⟨σ8,H8,I8,rfl,rfl⟩:=h8
   refine wpAny_mono (he cl fp s3 H3 _ (zfm (Qc:=EP X pins σ Q) (acc:=.ref D) hx1 I3 f3) _ s8 _ H8 _ (I8.wish _) (step y7 H8 yl7)) (fun yv s9 h9=>?_) fun _ _ f=>f
   obtain⟨y9,H9,I9w,r9,hD9,hl9,m',hm',w9⟩:=h9
   have I9:=I9w.unwish
   refine wpAny_mono (zaS (X:=az X N' scope cl fp s3 H3) _ s9 _ H9 (.ref D) [y9] (.ref D) [yv] (fun _ H'=>H'=upd H9 D (.lst (ys++[y9]))) I9 rfl (.cons r9 .nil) ⟨D,ys,y9,rfl,rfl,hD9,hl9,rfl⟩) (fun _ s10 h10=>?_) fun _ _ f=>False.elim f
   obtain⟨_,H10,I10,_,rfl⟩:=h10
   refine⟨m',hm',i+1,some y7,_,ys++[y9],I10.unpinned,T.keep _ _ _ st7 fun b hb o eb=>(I10.pin (b,o) (List.mem_append_right _ (List.mem_append_right _ (zaQ hb eb)))).1,fun b hb=>?_,w9⟩
   obtain⟨o,eb,d⟩:=T.obj _ _ st7 b hb
   exact(I10.pin (b,o) (List.mem_append_right _ (List.mem_append_right _ (zaQ hb eb)))).2.1
 subst hs3
 have fin:=codeAny_compStart_list (loop _ rfl) (T.self X.A 0 _ _ _ st4 (loop _ rfl))
 exact fin
end
end L2
namespace L2
open PySem PySem.Spec PyProof.Rows
section
variable {X:Cx} {N':List Str} {scope:Scope} {elt iter:Expr} {x:Str} {px pos:Pos} {wi:TI} {te:TE} {ix:List Nat} {E:XK}
theorem zeW (hx1:Xe1 X E) {i:Nat} {y0:Str} {py spos:Pos} (hNy:X.N.Nodup) (hiy:X.N[i]?=some y0) (hy:Loc X.env.scope y0) (hc:X.calm=true) (hkind:scope.kind=.function) (hcell:∀ y∈scope.names,y.2≠.cell) (hnames:∀ y∈scope.names,y.2=.local→scope.names.lookup y.1=some .local) (hx:scope.names.lookup x=some .local)
  (hclo:X.Ok→∃ cl,Clo X scope cl) (hN:N'.Nodup) (hN0:N'[0]?=some x) (hlen:N'.length=ix.length+1)
  (hix:∀(j i:Nat),ix[j]?=some i→∃ y,X.N[i]?=some y∧N'[j+1]?=some y∧(X.env.kindOf y=some .cell∨X.env.kindOf y=some .free)∧((relabel scope X.env).names.lookup y=some .cell∨(relabel scope X.env).names.lookup y=some .free))
  (hi:PI X (.Name x px) iter wi) (he:∀ cl fp s₃ H₃ xe0,zbZ (CX1 X.prog X.w) ((az X N' scope cl fp s₃ H₃).wish xe0) E→PE ((az X N' scope cl fp s₃ H₃).wish xe0) elt te) (hsw:swapsWith (.ListComp elt [⟨.Name x px,iter,[],0⟩] scope pos) (some (.Name y0 py)) spos.line X.env=pure true:=by rfl)
  (hf:X.fn y0=true∨X.env.scope.names.lookup y0=some .local:=by first | exact .inl rfl | exact .inr rfl | assumption) (hs:∀ v,foldedSetIterable iter X.env v=pure v:=by intro _;rfl) :
  PS X (.Assign [.Name y0 py] (.ListComp elt [⟨.Name x px,iter,[],0⟩] scope pos) spos) (tAsg (tLC wi ix te) (zcV i)):=by
 intro pins s σ H Dn I h
 obtain⟨cl,C⟩:=hclo I.ok
 rw[exec_Assign_Name_used _ _ _ _ hsw]
 refine wpAny_bind (wpAny_standAt (wpAny_bind ?_))
 rw[arm_evalThenUse_ListComp]
 refine wpAny_bind (wpAny_mono (wpAny_comprehension_free (use:=some (assign (.Name y0 py) X.env)) (Q:=fun _ s'=>∃ σ' H',Inv X pins σ' H' s'∧Dn.nx σ' H') rfl hs C.eq hkind hnames (thn (hi pins s σ H _ I h) fun v s1 h1=>thn h1 fun itv s2 h2=>?_)) (fun _ s' h'=>wpAny_pure (wpAny_pure h')) fun _ _ z=>z)
 obtain⟨it,fp,tn,J,H2,e,I2,T,st2,f2,q2⟩:=h2
 subst e
 have hD:H2 s2.heap.objs.size=none:=I2.fresh
 obtain⟨W,⟨m0,w0⟩,turn⟩:=q2 s2.heap.objs.size hD
 refine wpAny_newObj_type (wpAny_newFunctionEnv hcell (by intro y hy;simp at hy) (fun h₁ hns₁ hsb₁=>?_) hkind)
 dsimp only at hns₁ hsb₁ ⊢
 have I3:Inv X pins σ (upd H2 s2.heap.objs.size (.lst [])) { s2 with heap:=s2.heap.push { cls:=.type "list",data:=.seq ([]:List Value).toArray },toks:=s2.toks }:=I2.lnew .nil (Nat.zero_le _)
 generalize hs3:({ s2 with heap:=s2.heap.push { cls:=.type "list",data:=.seq ([]:List Value).toArray },toks:=s2.toks }:Shared)=s3 at I3
 have e3:s3.heap=s2.heap.push { cls:=.type "list",data:=.seq ([]:List Value).toArray }:=by rw[←hs3]
 generalize hDD:s2.heap.objs.size=D at *
 generalize hH3:upd H2 D (.lst [])=H3 at *
 have lt2:∀ b∈fp,b < s2.heap.objs.size:=fun b hb=>by
  obtain⟨o,ho,_⟩:=T.obj 0 _ st2 b hb
  exact Heap.lt_size ho
 have neD:∀ b∈fp,b≠D:=fun b hb=>by rw[←hDD];exact Nat.ne_of_lt (lt2 b hb)
 have f3:∀ b∈fp,zbi X pins H3 b:=fun b hb=>⟨by rw[←hH3,aq (neD b hb)];exact(f2 b hb).1,(f2 b hb).2⟩
 have sz3:s3.heap.objs.size=D+1:=by rw[e3,Heap.size_push,hDD]
 have lt3:∀ b∈fp,b < s3.heap.objs.size:=fun b hb=>by have q:=lt2 b hb;rw[sz3];rw[hDD]at q;exact Nat.lt_succ_of_lt q
 have old:∀ b o,s3.heap.get? b=some o→h₁.get? b=some o:=fun b o eb=>by
  have hb:b < D+1:=by rw[←sz3];exact Heap.lt_size eb
  refine hsb₁.extBut b o ?_ (Heap.get?_push_of_some _ (by rw[←e3];exact eb))
  rw[Heap.size_push,hDD]
  exact Nat.ne_of_lt hb
 have szC:(s2.heap.push { cls:=.type "list",data:=.seq ([]:List Value).toArray }).objs.size=s3.heap.objs.size:=by rw[e3]
 have os3:s3.os=s2.os:=by rw[←hs3]
 rw[szC]at hns₁ hsb₁
 have I4:Inv (az X N' scope cl fp s3 H3) [] (none :: fvs σ ix) H3 { s3 with heap:=h₁,toks:=s2.toks+([]:List (Str × Value)).length }:=zcm I3 C hkind f3 lt3 hlen hix hns₁ old
 have st4:tn 0 h₁:=T.keep 0 _ _ st2 fun b hb o eb=>old b o (by rw[e3];exact Heap.get?_push_of_some _ eb)
 have stat:∀ {H':Hp},(∀ b∈fp,H' b=none)→∀ b∈fp,zbi (az X N' scope cl fp s3 H3) [] H' b:=fun hn b hb =>
  ⟨hn b hb,Nat.ne_of_lt (lt3 b hb),fun hs'=>(zbr (N':=N') I3 C hkind f3 lt3).exfs b hb hs',.inl hb,fun y c hy=>((zbr (N':=N') I3 C hkind f3 lt3).exf b hb).2 y c hy,fun p hp=>absurd (show p∈([]:List (Addr × Obj)) from hp) (by simp)⟩
 have loop:∀ s4:Shared,s4={ s3 with heap:=h₁,toks:=s2.toks+([]:List (Str × Value)).length } →
   codeAny (model X.prog X.w) X.A (.compLoop (.ListComp elt [⟨.Name x px,iter,[],0⟩] scope pos) 0 (.ref it) (.ref D) (compEnvC scope cl s3.heap.objs.size X.env))
    (compPost (model X.prog X.w) X.A X.xe (some (assign (.Name y0 py) X.env)) (fun _ s'=>∃ σ' H',Inv X pins σ' H' s'∧Dn.nx σ' H') (.ref D) s3.heap.objs.size) s4:=by
  rintro s4 rfl
  refine zdc (fun n s'=>∃ i σ0 H' ys,Inv (az X N' scope cl fp s3 H3) [] (σ0 :: fvs σ ix) H' s'∧tn i s'.heap∧(∀ b∈fp,H' b=none)∧W i n ys H') ?_ m0 ⟨0,none,H3,[],I4,st4,fun b hb=>(f3 b hb).1,w0⟩
  rintro n s5 ⟨i,σ0,H5,ys,I5,st5,fr5,w5⟩
  obtain⟨hD5,alt⟩:=turn i n ys H5 w5
  rcases alt with ⟨stop,q⟩ | ⟨go,step⟩
  ·refine thn (T.done (az X N' scope cl fp s3 H3) rfl rfl rfl hc i [] s5 _ H5 _ I5 (stat fr5) st5 stop) fun r s6 ⟨hr,I6⟩=>?_
   subst hr
   obtain⟨m,hn,_⟩:=I6.loc
   have Io:Inv X pins σ H5 s6:=zcF (h':=s6.heap) I3 I6 f3 ⟨rfl,fun _ _=>rfl⟩
   refine wpAny_assign_Name (zdU (v:=.ref D) Io hNy hiy hy rfl (fun s7 I7 ⟨a,sb,ha⟩=>?_) hf)
   have ltC:∀ x c,X.env.cells.lookup x=some c→c < s3.heap.objs.size:=fun x c e=>by
    obtain⟨v,hv⟩:=I3.cell x c e
    exact hv.lt
   have hCa:s3.heap.objs.size≠a:=by
    rintro rfl
    rcases ha with z | z
    ·exact absurd I3.lt (by rw[←z];exact Nat.lt_irrefl _)
    ·exact absurd (ltC _ _ z) (Nat.lt_irrefl _)
   refine⟨m,hn.sameBut sb hCa,fun h' hsb=>⟨_,H5,?_,q⟩⟩
   exact I7.skip hsb I3.sz (Nat.ne_of_gt I3.lt) (fun x c e=>Nat.ne_of_lt (ltC x c e)) (fun p hp=>Nat.ne_of_lt (Heap.lt_size (I3.pin p hp).1)) I6.free
  ·refine thn (T.item (az X N' scope cl fp s3 H3) rfl rfl rfl hc i [] s5 _ H5 _ I5 (stat fr5) st5 go) fun r s6 ⟨u,hr,h6⟩=>?_
   subst hr
   refine thn h6 fun _ s7 ⟨y7,H7,I7,r7,yl7,st7,fr7⟩=>?_
   have I7':=I7.pinned (stat fr7) (T.obj _ _ st7)
   have G:PG (az X N' scope cl fp s3 H3) (.Name x px) (zcV 0):=zay hN hN0 (.inl (lookup_relabel_local hx)) (.inr (lookup_relabel_local hx))
   refine wpAny_mono (G _ s7 _ H7 y7 u (fun σ' H'=>σ'=some y7 :: fvs σ ix∧H'=H7) I7' r7 ⟨rfl,rfl⟩) (fun _ s8 h8=>?_) fun _ _ f=>False.elim f
   obtain⟨σ8,H8,I8,rfl,rfl⟩:=h8
   refine wpAny_mono (he cl fp s3 H3 _ (zfm (Qc:=fun _ s'=>∃ σ' H',Inv X pins σ' H' s'∧Dn.nx σ' H') (acc:=.ref D) hx1 I3 f3) _ s8 _ H8 _ (I8.wish _) (step y7 H8 yl7)) (fun yv s9 h9=>?_) fun _ _ f=>f
   obtain⟨y9,H9,I9w,r9,hD9,hl9,m',hm',w9⟩:=h9
   have I9:=I9w.unwish
   refine wpAny_mono (zaS (X:=az X N' scope cl fp s3 H3) _ s9 _ H9 (.ref D) [y9] (.ref D) [yv] (fun _ H'=>H'=upd H9 D (.lst (ys++[y9]))) I9 rfl (.cons r9 .nil) ⟨D,ys,y9,rfl,rfl,hD9,hl9,rfl⟩) (fun _ s10 h10=>?_) fun _ _ f=>False.elim f
   obtain⟨_,H10,I10,_,rfl⟩:=h10
   refine⟨m',hm',i+1,some y7,_,ys++[y9],I10.unpinned,T.keep _ _ _ st7 fun b hb o eb=>(I10.pin (b,o) (List.mem_append_right _ (List.mem_append_right _ (zaQ hb eb)))).1,fun b hb=>?_,w9⟩
   obtain⟨o,eb,d⟩:=T.obj _ _ st7 b hb
   exact(I10.pin (b,o) (List.mem_append_right _ (List.mem_append_right _ (zaQ hb eb)))).2.1
 subst hs3
 have fin:=codeAny_compStart_list (loop _ rfl) (T.self X.A 0 _ _ _ st4 (loop _ rfl))
 exact fin
end
end L2
namespace L2
open PySem PySem.Spec PyProof.Rows
section
variable {X:Cx} {CX:CXT} {k:Nat} {f C:Addr} {fd:FuncData} {ps:List Str} {sp:Sp} {dvs:List V} {ds:List Value} {E:XK} {x m:Str} {p pos apos:Pos} {e o:Expr} {es:List Expr} {ta:TE} {t:TA}
def zgH (CX:CXT) (X:Cx) (E:XK) (σ:St):Prop:=∀(pins:List (Addr × Obj)) (H:Hp) (s:Shared) (e:Value) (s':Shared),Inv X pins σ H s→CX X.stack H s E e s'→X.xe e s'
def tCallS (σ0:St) (sp:Sp) (dvs:List V) (E:XK) (t:TA):TE:=fun σ H Q=>σ=σ0∧tCall sp dvs E t σ H Q
theorem zlc {σ0:St} (F:FnOk X.prog X.w X.K X.mg X.base CX k f fd ps sp) (hr:aE k X.A) (hg:Gl X x) (hm:X.mg x=some (.ref f)) (hk:W.keepIn X.K (.ref f)=true) (hb:av X.K fd ps ds) (hd:aD dvs ds) (hx:zgH CX X E σ0)
  (ha:PA X (e :: es) t) (hdb:(x == ("__debug__":Str))=false:=by decide) (he:starEach (e :: es) X.env=(false,eval e X.env) :: starEach es X.env:=by rfl) (hpl:(backTo pos (starEach es X.env)).any (·.1)=false:=by rfl) :
  PE X (.Call (.Name x p) (e :: es) [] pos) (tCallS σ0 sp dvs E t):=by
 rintro pins s σ H Q I ⟨rfl,h⟩
 refine wpAny_Call_Name_kw (zc4 I hg hm ?_ hdb)
 refine W.callWith_K (h₀:=X.base) I.ok.mod.kin hk (thn (ha pos pins s σ H _ I h) fun us s1 ⟨vs,H1,I1,r,q⟩=>⟨I1.kIn,?_⟩) he hpl
 have r2:aD (vs++dvs) (us++ds):=r.append hd
 have hl:(us++ds).length=ps.length:=by rw[←r2.length];exact F.len _ _ _ _ q
 refine wpAny_call (codeAny_mono (F.run X.A X.stack s1 H1 ⟨us,[]⟩ (us++ds) (vs++dvs) Q E hr I1.env0 (hb s1 us I1.kIn hl) r2 q) fun r s' hq=>?_)
 cases r with
 | error e=>exact hx pins H1 s1 e s' I1 hq
 | ok fl =>
  cases fl with
  | ret u=>exact I1.after hq
  | next=>exact False.elim hq
  | brk=>exact False.elim hq
  | cont=>exact False.elim hq
def tTryS (tb:XK→St→TS) (th:Addr→TS):TS:=fun D σ H=>tb (fun c _ H'=>∃ C,c=.ref C∧th C D σ H') σ D σ H
theorem zlR {body:List Stmt} {h0:ExceptHandler} {hs:List ExceptHandler} {pos:Pos} {tb:XK→St→TS} {th:Addr→TS} (hst:X.stack=X.env :: X.outer) (hfr:X.env.frame=some X.env.locals)
  (hb:∀(pins:List (Addr × Obj)) (E1:Value→Shared→Prop) (Eb:XK) (σ0:St),zgH (CX1 X.prog X.w) (X.tryc pins E1) Eb σ0→PSs (X.tryc pins E1) body (tb Eb σ0)) (hh:PH X (h0 :: hs) th) :
  PS X (.Try body (h0 :: hs) [] [] pos) (tTryS tb th):=by
 intro pins s σ H D I h
 refine wpAny_Try_except ?_
 have hp:zgH (CX1 X.prog X.w) (X.tryc pins (fun e s1=>wpAny (model X.prog X.w) X.A (noteFrame e X.env) (fun _ s2=>wpAny (model X.prog X.w) X.A (setFlight e none) (fun _ s3=>wpAny (model X.prog X.w) X.A (handleBy e X.env (h0 :: hs)) (SP X pins D) X.xe s3) X.xe s2) X.xe s1))
   (fun c _ H'=>∃ C,c=.ref C∧th C D σ H') σ:=by
  intro pins1 H1 s1 e s' I1 hcx
  obtain⟨ea,C,H',B,a0,rfl,os,bare,u,ok,fl,trk,old,C',ec,hE⟩:=hcx
  cases ec
  have c:Came X pins σ H1 s1 H' B s':=⟨I1.untryc I.ok,os,bare,u,ok,trk,old⟩
  have fl':Heap.FlyingW B (X.env :: X.outer) ea (.ref C) a0 s'.heap:=by
   have z:=fl
   rw[show(X.tryc pins _).stack=X.env :: X.outer from hst]at z
   exact z
  have hfs:X.A.frames=some (X.env :: X.outer):=by rw[I.ok.frames,hst]
  refine wpAny_looks_onW hfs hfr fl' fun h2 fl2 sm2=>?_
  refine wpAny_landsW fl2 fun h3 fl3 sm3=>?_
  rw[←hst]at fl3
  exact hh pins σ H1 s1 H' B s' D ea C a0 h3 c fl3 (sm2.trans sm3) hE
 refine wpAny_mono (hb pins _ _ σ hp [] s σ H D (I.tryc _) h) (fun f s1 q=>?_) fun e s1 q=>q
 have q':SP X pins D f s1:=q.untryc I.ok
 cases f with
 | next=>exact wpAny_execs_nil q'
 | brk=>exact q'
 | cont=>exact q'
 | ret u=>exact q'
end
end L2
namespace L2
open PySem PySem.Spec PyProof.Rows
section
variable {X:Cx}
end
end L2
namespace L2
open PySem PySem.Spec PyProof.Rows PySem.Builtin.Str
section
variable {X:Cx}
end
end L2
namespace L2
open PySem PySem.Spec PyProof.Rows
section
variable {prog:Program} {w:World} {A:Around} {E:Value→Shared→Prop} {s:Shared}
end
section
variable {X:Cx}
end
end L2
namespace L2
open PySem PySem.Spec PyProof.Rows
set_option maxRecDepth 100000
theorem zgJ (a:Value):checkTypeCall "set" ⟨[a],[]⟩=pure ():=by kernel_rfl
theorem zhl (a:Value):checkBuiltinCall "set.__new__" ⟨[.type "set",a],[]⟩=pure ():=by kernel_rfl
theorem zc9:plainId "set.update.loop"=true:=by decide +kernel
theorem zek:entryFor table "set.update.loop"=some Builtin.«set.update.loop»:=entryFor_of_tree (by kernel_rfl)
theorem zir:isSubtype (.type "list") (.type "set")=pure false:=by rw[isSubtype_type];kernel_rfl
theorem ze6:isSubtype (.type "list") (.type "frozenset")=pure false:=by rw[isSubtype_type];kernel_rfl
section
variable {prog:Program} {w:World} {A:Around} {E:Value→Shared→Prop} {s:Shared}
theorem zhm (a:Value):Meets (Builtin.«set.__new__» ⟨[.type "set",a],[]⟩) (fun _ R s=>∀ led:Bool,R (.ok (.ret (.ref s.heap.objs.size))) { s with heap:=s.heap.push { cls:=.type "set",dict:=none,data:=.set #[] 0 (.fresh 0 0 led) } }) :=
 .of_wp fun prog w A R s h=>by
  unfold Builtin.«set.__new__» Builtin.Frozenset.newClass
  have hsub:=sub_set_self
  obtain⟨hp,g,d,tk,os⟩:=s
  dsimp only
  wp_walk
  refine wpAny_askSetting (wpAny_pure ?_)
  dsimp only
  simp only[newObj]
  refine wpAny_bind (wpAny_alloc (wpAny_pure ?_))
  exact wpAny_pure ⟨_,rfl,h _⟩
theorem zga {M:Model} {self a:Value} {Q:Unit→Shared→Prop} (hT:s.TypeIs self "set") (hQ:Q () s) :
  wpAny M A (checkBuiltinCall "set.__init__" ⟨[self,a],[]⟩) Q E s:=by
 simp only[checkBuiltinCall,kind_set_init,split_set_init,sig_set_init]
 refine wpAny_bind (wpAny_isInstance hT sub_set_self ?_)
 simp only[Bool.not_true,Bool.false_eq_true,if_false]
 unfold Bind.checkArgs
 dsimp only
 refine wpAny_bind (m:=Bind.printed "set" true _ _) (PyProof.Rows.printed_name (by decide) ?_)
 refine wpAny_bind (m:=Bind.printed "*" false _ _) (PyProof.Rows.printed_star (self:=self) rfl hT fun short=>?_)
 have hrn:(Manifest.Receiver.self == Manifest.Receiver.none)=false:=by decide
 have hn:(if(Manifest.Receiver.self == Manifest.Receiver.none)=true then [self,a].length else [self,a].length - 1)=1:=by simp [hrn]
 rw[hn]
 simp only[List.map_nil]
 have hc:Bind.check ⟨.positional,"set","*",.self,[⟨"iterable",.posOnly,false⟩]⟩ "set" short 1 []=pure ():=by
  simp [Bind.check,Bind.checkCount,Bind.isPositional]
  intro h
  exact absurd h (by decide)
 rw[hc]
 exact wpAny_pure hQ
def addS (p:(Int→Bool) × Nat) (k:Int):(Int→Bool) × Nat:=(fun k'=>p.1 k'||decide (k'=k),if p.1 k then p.2 else p.2+1)
theorem zeG (hh:A.handled=none) {a it l:Addr} {its:List Value} {ns:List Int} (hai:a≠it) (hal:a≠l) (hil:l≠it) (rv:aD (ns.map V.int) its) {R:Result→Shared→Prop} :
  ∀(m i:Nat) (s:Shared) (p:(Int→Bool) × Nat),i+m=ns.length→s.heap.IsListIter it l i→s.heap.IsList l its.toArray→s.heap.SetOf (intKind prog w) a p.1 p.2→p.2+m < scanBound →
   (∀(h':Heap) (tk:Nat),h'.SetOf (intKind prog w) a ((ns.drop i).foldl addS p).1 ((ns.drop i).foldl addS p).2→(∀ b o,b≠a→b≠it→s.heap.get? b=some o→h'.get? b=some o)→R (.ok (.ret .none)) { s with heap:=h',toks:=tk }) →
   codeAny (model prog w) A (.builtin "set.update.loop" ⟨[.ref a,.ref it],[]⟩) R s
 | 0,i,s,p,e,hit,hl,hS,_,q=>by
  refine codeAny_builtin zek ?_
  rw[Around.under_plainId zc9 _]
  show wpAny _ A.in1 (pyNext (.ref it) >>= _) _ _ s
  have il:its.length=ns.length:=by have:=rv.length;rw[List.length_map]at this;omega
  refine wpAny_bind (wpAny_pyNext_list_end (show A.in1.handled=none from hh) hit hl (by simp;omega) fun h' eb=>?_)
  have e0:ns.drop i=[]:=List.drop_eq_nil_of_le (by omega)
  rw[e0]at q
  obtain⟨o,es,ep,t,ho,r⟩:=hS
  exact wpAny_pure (q h' s.toks ⟨o,es,ep,t,eb _ _ hai ho,r⟩ fun b o _ hb h=>eb b o hb h)
 | m+1,i,s,p,e,hit,hl,hS,hb,q=>by
  refine codeAny_builtin zek ?_
  rw[Around.under_plainId zc9 _]
  show wpAny _ A.in1 (pyNext (.ref it) >>= _) _ _ s
  have hi:i < ns.length:=by omega
  obtain⟨u,hu,t,rfl⟩:=rv.get (i:=i) (x:=.int ns[i]) (by rw[List.getElem?_map,List.getElem?_eq_getElem hi];rfl)
  refine wpAny_bind (wpAny_pyNext_list_item hit hl (x:=.int ns[i] t) (by simpa using hu) fun h1 hit1 sb=>?_)
  show wpAny _ A.in1 (holding [Value.int ns[i] t] (setAdd a (Value.int ns[i] t)) >>= _) _ _ _
  refine wpAny_bind (wpAny_holding ?_)
  unfold setAdd
  refine wpAny_holding ?_
  have hS1:h1.SetOf (intKind prog w) a p.1 p.2:=by
   obtain⟨o,es,ep,tt,ho,r⟩:=hS
   exact⟨o,es,ep,tt,sb.extBut _ _ hai ho,r⟩
  have hk:(intKind prog w).is ns[i] (.int ns[i] t)=true:=by
   show Value.isInt ns[i] (.int ns[i] t)=true
   simp [Value.isInt]
  refine wpAny_bind ((intKind prog w).pyHash hk ?_)
  refine wpAny_setAddHashed_of (knd:=intKind prog w) hk rfl hS1 (by omega) fun h2 sb2 hS2=>?_
  have hit2:=hit1.extBut sb2.extBut (Ne.symm hai)
  have hl2:=(hl.extBut sb.extBut hil).extBut sb2.extBut (Ne.symm hal)
  refine wpAny_pure ⟨plainId_quiet zc9 _,?_⟩
  refine zeG hh hai hal hil rv m (i+1) _ (addS p ns[i]) (by omega) hit2 hl2 hS2 (by simp only[addS];split <;> omega) fun h' tk hS' k'=>?_
  rw[List.drop_eq_getElem_cons hi,List.foldl_cons]at q
  exact q h' tk hS' fun b o h1' h2' h3=>k' b o h1' h2' (sb2.extBut _ _ h1' (sb.extBut _ _ h2' h3))
theorem ziy {a l:Addr} {led:Bool} {its:List Value} {ns:List Int} (rv:aD (ns.map V.int) its) {R:Value→Shared→Prop} (hh:A.handled=none) (hal:a≠l) (h0:s.heap.get? a=some { cls:=.type "set",dict:=none,data:=.set #[] 0 (.fresh 0 0 led) }) (hS:s.heap.SetOf (intKind prog w) a (fun _=>false) 0) (hL:s.heap.IsList l its.toArray) (hb:ns.length < scanBound)
  (q:∀(h':Heap) (tk:Nat),h'.SetOf (intKind prog w) a (ns.foldl addS (fun _=>false,0)).1 (ns.foldl addS (fun _=>false,0)).2→(∀ b o,b≠a→s.heap.get? b=some o→h'.get? b=some o)→R .none { s with heap:=h',toks:=tk }) :
  wpAny (model prog w) A.in1 (Builtin.«set.__init__» ⟨[.ref a,.ref l],[]⟩) (fun fin s'=>∃ r,fin=.done (.ret r)∧R r s') E s:=by
 have hT:s.TypeIs (.ref a) "set":=hS.typeIs
 have hTl:s.TypeIs (.ref l) "list":=by
  obtain⟨o,ho,hc,_⟩:=hL
  exact⟨o,ho,hc⟩
 have h1:=zir
 have h2:=ze6
 unfold Builtin.«set.__init__» noKeywords Builtin.Frozenset.updateFrom Builtin.Frozenset.isAnySet
 wp_walk using wpAny_load h0,wpAny_pyIter_list hL
 have li:l < s.heap.objs.size:=by
  obtain⟨o,ho,_⟩:=hL
  exact Heap.lt_size ho
 have ai:a < s.heap.objs.size:=Heap.lt_size h0
 have S1:(s.heap.push { cls:=.type "list_iterator",data:=.fields #[.ref l,.int 0 0] }).SetOf (intKind prog w) a (fun _=>false) 0:=by
  obtain⟨o,es,ep,t,ho,r⟩:=hS
  exact⟨o,es,ep,t,Heap.get?_push_of_some _ ho,r⟩
 refine zeG (A:=A.in1) hh (Nat.ne_of_lt ai) hal (Nat.ne_of_lt li) rv ns.length 0 _ (fun _=>false,0) (by omega) ⟨_,Heap.get?_push_size _ rfl,rfl,rfl⟩ (hL.at fun o e=>Heap.get?_push_of_some _ e) S1 (by show 0+ns.length < scanBound;omega) fun h' tk hS' k'=>?_
 rw[List.drop_zero]at hS'
 refine wpAny_pure (wpAny_pure ⟨_,rfl,q h' tk hS' fun b o nb e=>k' b o nb (fun z=>?_) (Heap.get?_push_of_some _ e)⟩)
 have:=Heap.lt_size e
 rw[z]at this
 exact Nat.lt_irrefl _ this
set_option maxHeartbeats 1000000 in
theorem zhn {l:Addr} {its:List Value} {ns:List Int} (rv:aD (ns.map V.int) its) {Q:Value→Shared→Prop} (hh:A.handled=none) (hL:s.heap.IsList l its.toArray) (hb:ns.length < scanBound)
  (q:∀(h':Heap) (tk:Nat),h'.SetOf (intKind prog w) s.heap.objs.size (ns.foldl addS (fun _=>false,0)).1 (ns.foldl addS (fun _=>false,0)).2→(∀ b o,s.heap.get? b=some o→h'.get? b=some o)→Q (.ref s.heap.objs.size) { s with heap:=h',toks:=tk }) :
  wpAny (model prog w) A (call (.type "set") [.ref l]) Q E s:=by
 obtain⟨c,tl,hmro⟩:=F.called_set.mro
 have hmade:=F.called_set.made
 have hsub:=F.called_set.sub
 refine wpAny_call (codeAny_of_tree ?_)
 show wpAny _ _ (callAny (.type "set") _) _ _ _
 refine wpAny_pure ⟨Code.quiet_builtin _ (by decide +kernel),codeAny_builtin F.entry_type_call ?_⟩
 rw[Around.under_plain (weight_type_call_type "set" [.ref l] []) (units_type_call_type "set" [.ref l] [])]
 have h1:=F.called_set.notType
 have h2:=F.called_set.canCreate
 have hct:=zgJ (.ref l)
 repeat (any_goals (first | assumption | wp_step))
 refine codeAny_mono (codeAny_call_builtin F.called_set.plain F.entry_set_new (wpAny_of_eq (zhl _) (zhm (.ref l) prog w A.in1 (wants (fun obj s₁=>∃ led:Bool,obj=.ref s.heap.objs.size∧s₁={ s with heap:=s.heap.push { cls:=.type "set",dict:=none,data:=.set #[] 0 (.fresh 0 0 led) } }) E) s fun led=>⟨led,rfl,rfl⟩))) fun r s₁ hr=>?_
 cases r with
 | error e=>exact hr
 | ok fl =>
  cases fl with
  | ret obj =>
   obtain⟨led,rfl,rfl⟩:=hr
   have hS:(s.heap.push { cls:=.type "set",dict:=none,data:=.set #[] 0 (.fresh 0 0 led) }).get? s.heap.objs.size=some { cls:=.type "set",dict:=none,data:=.set #[] 0 (.fresh 0 0 led) }:=Heap.get?_push_size _ rfl
   have hT:Shared.TypeIs { s with heap:=s.heap.push { cls:=.type "set",dict:=none,data:=.set #[] 0 (.fresh 0 0 led) } } (.ref s.heap.objs.size) "set":=⟨_,hS,rfl⟩
   have hli:=F.called_set.init.lookup
   have hbi:=F.called_set.init.bind (.ref s.heap.objs.size)
   repeat (any_goals (first | assumption | wp_step))
   have hS0:(s.heap.push { cls:=.type "set",dict:=none,data:=.set #[] 0 (.fresh 0 0 led) }).SetOf (intKind prog w) s.heap.objs.size (fun _=>false) 0:=by
    refine⟨_,_,_,_,hS,⟨rfl,rfl,rfl⟩,rfl,(fun e he=>by cases he),(fun k=>⟨fun h=>(by cases h),fun⟨e,he,_⟩=>by cases he⟩),(by show 0 < scanBound;decide),?_,rfl⟩
    cases led <;> decide
   have ll:s.heap.objs.size≠l:=fun z=>by
    obtain⟨o,ho,_⟩:=hL
    exact Nat.lt_irrefl _ (z ▸ Heap.lt_size ho)
   refine codeAny_mono (codeAny_call_builtin (R:=wants (fun r s₂=>r=.none∧Q (.ref s.heap.objs.size) s₂) E) F.called_set.init.plain F.entry_set_init (zga hT ?_)) fun r₂ s₂ hr₂=>?_
   ·refine wpAny_mono (ziy (A:=A.in1) (R:=fun r s₂=>r=.none∧Q (.ref s.heap.objs.size) s₂) rv hh ll hS hS0 (hL.at fun o e=>Heap.get?_push_of_some _ e) hb fun h' tk hS' k'=>⟨rfl,q h' tk hS' fun b o e=>k' b o (fun z=>?_) (Heap.get?_push_of_some _ e)⟩) (fun fin s' h=>?_) fun _ _ e=>e
    ·have:=Heap.lt_size e
     rw[z]at this
     exact Nat.lt_irrefl _ this
    ·obtain⟨r,rfl,h⟩:=h
     exact h
   ·cases r₂ with
    | error e=>exact hr₂
    | ok fl₂ =>
     cases fl₂ with
     | ret r =>
      obtain⟨rfl,hq⟩:=hr₂
      repeat (any_goals (first | assumption | wp_step))
     | _=>exact hr₂.elim
  | _=>exact hr.elim
end
section
variable {X:Cx}
def zdd (ns:List Int):(Int→Bool) × Nat:=ns.foldl addS (fun _=>false,0)
theorem ziH (hc:X.calm=true):zbI X (.type "set") (fun xs H Q=>∃ p ns,xs=[.ref p]∧SqL X.K H p (ns.map V.int)∧ns.length≤100∧∀ a,H a=none→Q (.ref a) (upd H a (.set (zdd ns).1 (zdd ns).2))):=by
 intro pins s σ H xs us Q I r h
 obtain⟨p,ns,rfl,hq,hn,q⟩:=h
 obtain⟨u,rfl,rx⟩:=zda r
 cases rx
 obtain⟨its,rv,pl,hz⟩:=I.list hq
 refine zhn rv (I.ok.hd hc) pl.isList (Nat.lt_of_le_of_lt hn (by decide)) fun h' tk hS kp=>?_
 exact⟨.ref s.heap.objs.size,_,I.laid (t':=tk) kp (Nat.le_refl _) (show zaT X.prog X.w _ h' _ (.set (zdd ns).1 (zdd ns).2) from hS),rfl,q _ (I.hok.fresh (Nat.le_refl _))⟩
theorem zgM:zbI X (.builtin "len") (fun xs H Q=>∃ a S n,xs=[.ref a]∧H a=some (.set S n)∧n≤1000∧Q (.int (n:Nat)) H):=by
 intro pins s σ H xs us Q I r h
 obtain⟨a,S,n,rfl,ha,hn,q⟩:=h
 obtain⟨u,rfl,rx⟩:=zda r
 cases rx
 have hS:s.heap.SetOf (intKind X.prog X.w) a S n:=I.hok _ _ ha
 obtain⟨o,es,ep,t,ho,hex,hd,_,_,_,hf,he⟩:=hS
 refine call_len_set ho hex hd hf (by omega) ?_
 rw[he]
 exact⟨.int n,H,I.kept (t':=s.toks+1+1) fun b o e=>e,⟨_,rfl⟩,q⟩
end
theorem addS_le:∀(ns:List Int) (p:(Int→Bool) × Nat),(ns.foldl addS p).2≤p.2+ns.length
 | [],p=>Nat.le_refl _
 | k :: ns,p=>by
  have h:=addS_le ns (addS p k)
  rw[List.foldl_cons,List.length_cons]
  have h2:(addS p k).2≤p.2+1:=by simp only[addS];split <;> omega
  omega
theorem zjg:∀(ns:List Int) (p:(Int→Bool) × Nat),(ns.foldl addS p).2=p.2+ns.length↔(ns.Nodup∧∀ k∈ns,p.1 k=false)
 | [],p=>by simp
 | k :: ns,p=>by
  have h:=zjg ns (addS p k)
  have l:=addS_le ns (addS p k)
  rw[List.foldl_cons,List.length_cons]
  cases c:p.1 k with
  | true =>
   have e:(addS p k).2=p.2:=by simp [addS,c]
   rw[e]at l
   constructor
   ·intro z
    omega
   ·intro z
    have:=z.2 k (by simp)
    rw[c]at this
    cases this
  | false =>
   have e:(addS p k).2=p.2+1:=by simp [addS,c]
   rw[e]at h
   have e2:p.2+(ns.length+1)=p.2+1+ns.length:=by omega
   rw[e2,h,List.nodup_cons]
   constructor
   ·rintro ⟨n1,n2⟩
    refine⟨⟨fun m=>?_,n1⟩,fun j hj=>?_⟩
    ·have:=n2 k m
     simp [addS]at this
    ·rcases List.mem_cons.mp hj with rfl | hj
     ·exact c
     ·have:=n2 j hj
      simp only[addS,Bool.or_eq_false_iff]at this
      exact this.1
   ·rintro ⟨⟨n1,n2⟩,n3⟩
    refine⟨n2,fun j hj=>?_⟩
    simp only[addS,Bool.or_eq_false_iff]
    exact⟨n3 j (List.mem_cons_of_mem _ hj),decide_eq_false fun z=>n1 (z ▸ hj)⟩
theorem zjv (ns:List Int):(zdd ns).2=ns.length↔ns.Nodup:=by
 have h:=zjg ns (fun _=>false,0)
 rw[Nat.zero_add]at h
 exact h.trans ⟨fun z=>z.1,fun z=>⟨z,fun _ _=>rfl⟩⟩
end L2
namespace L2
open PySem
section
variable {K:W.Frag} {h:Heap} {mg:Str→Option Value} {C f:Addr} {fd:FuncData} {n x q:Str} {st:Stmt} {oc kV doc pm cdv ct:Value} {od an:Option Addr} {osl:Array (Option Value)}
structure FT (K:W.Frag) (n x:Str) (st:Stmt) (f:Addr) (fd:FuncData):Prop where
 a:W.nsIn K mainGlobals n=some (some (.ref f))
 F:Fun K x x st f fd
 k:W.keepIn K (.ref f)=true
theorem FT.m (z:FT K n x st f fd) (X:K.In h) (G:h.Ns mainGlobals mg):mg n=some (.ref f):=W.mg_of X G z.a
theorem ft_in (a:W.nsIn K mainGlobals n=some (some (.ref f))) (l:K.lookup f=some ⟨oc,od,.func (W.fnOf x x (zck st) (zaO st) (ao st) .none kV doc pm an cdv ct),osl⟩) (c:W.codeIn K cdv x=true) (k:W.keepIn K (.ref f)=true):FT K n x st f (W.fnOf x x (zck st) (zaO st) (ao st) .none kV doc pm an cdv ct):=⟨a,zkh l c k,k⟩
structure FM (K:W.Frag) (C:Addr) (x q:Str) (st:Stmt) (f:Addr) (fd:FuncData):Prop where
 a:W.findIn K (.ref C) x=some (some (.ref f))
 i:W.isFn K (.ref f)=true
 F:Fun K x q st f fd
 k:W.keepIn K (.ref f)=true
theorem FM.M (z:FM K C x q st f fd):zbg K C x f:=⟨z.a,z.i,z.k⟩
theorem fm_in (a:W.findIn K (.ref C) x=some (some (.ref f))) (i:W.isFn K (.ref f)=true) (l:K.lookup f=some ⟨oc,od,.func (W.fnOf x q (zck st) (zaO st) (ao st) .none kV doc pm an cdv ct),osl⟩) (c:W.codeIn K cdv q=true) (k:W.keepIn K (.ref f)=true):FM K C x q st f (W.fnOf x q (zck st) (zaO st) (ao st) .none kV doc pm an cdv ct):=⟨a,i,zkh l c k,k⟩
abbrev Bd (x q:Str) (st:Stmt) (ps:List Str) (us:List Value):Prop:=∀(kV doc pm:Value) (an:Option Addr) (cdv ct:Value),bindArgs (W.fnOf x q (zck st) (zaO st) (ao st) .none kV doc pm an cdv ct) ⟨us,[]⟩=pure (ps.zip us)
theorem Fun.b1 {p:Str} (F:Fun K x q st f fd) (h:∀ a,Bd x q st [p] [a]):av K fd [p] []:=F.binds fun kV doc pm an cdv ct us hl=>match us,hl with | [_],_=>h _ kV doc pm an cdv ct
theorem Fun.b2 {p p2:Str} (F:Fun K x q st f fd) (h:∀ a b,Bd x q st [p,p2] [a,b]):av K fd [p,p2] []:=F.binds fun kV doc pm an cdv ct us hl=>match us,hl with | [_,_],_=>h _ _ kV doc pm an cdv ct
theorem Fun.b3 {p p2 p3:Str} (F:Fun K x q st f fd) (h:∀ a b c,Bd x q st [p,p2,p3] [a,b,c]):av K fd [p,p2,p3] []:=F.binds fun kV doc pm an cdv ct us hl=>match us,hl with | [_,_,_],_=>h _ _ _ kV doc pm an cdv ct
theorem Fun.b4 {p p2 p3 p4:Str} (F:Fun K x q st f fd) (h:∀ a b c d,Bd x q st [p,p2,p3,p4] [a,b,c,d]):av K fd [p,p2,p3,p4] []:=F.binds fun kV doc pm an cdv ct us hl=>match us,hl with | [_,_,_,_],_=>h _ _ _ _ kV doc pm an cdv ct
theorem Fun.top {p:Str} (F:Fun K x q st f fd) (h:∀ a,Bd x q st [p] [a]):∀(s:Shared) (v:Value),BindsTo s fd ⟨[v],[]⟩ [(p,v)]:=fun s v=>by
 obtain⟨oc,od,kV,doc,pm,an,cdv,ct,osl,rfl,lk,hcd⟩:=F.ex
 exact .of_eq (h v kV doc pm an cdv ct)
end
end L2
namespace F75
open PySem L2
def top (i:Nat):Stmt:=PySem.Challenge.pw_yesorno_k75_whole_named_holds.main.body.getD i (.Pass ⟨0,0,0,0⟩)
abbrev s_inner_trees:Stmt:=top 2
abbrev s_inner_formulas:Stmt:=top 3
abbrev s__law_cell_at:Stmt:=top 34
abbrev s__law_mixed:Stmt:=top 35
abbrev s__law_word:Stmt:=top 36
abbrev s__law_names:Stmt:=top 37
abbrev s__law_tree:Stmt:=top 38
abbrev s__law_grown:Stmt:=top 39
abbrev s__law_formulas:Stmt:=top 40
def ofsV:List V:=[.str "not",.str "and",.str "or",.str "then",.str "as"]
theorem zlm:ofsV.all zcw=true:=by decide +kernel
structure Txt (K:W.Frag) (mg:Str→Option Value) (aB aO:Addr):Prop where
 len:mg "len"=none
 list:mg "list"=none
 tuple:mg "tuple"=none
 range:mg "range"=none
 int:mg "int"=none
 isi:mg "isinstance"=none
 str:mg "str"=none
 ofs:mg "OF_FORMULAS"=some (.ref aO)
 tO:∀ H,SqT K H aO ofsV
theorem szM {n:Nat} (h:n≤16000000):n≤sizeLine:=Nat.le_trans h (by rw[sizeLine_eq];decide)
theorem zaK (a b:Str):(a++b).length=a.length+b.length:=by
 show(a.cps++b.cps).size=a.cps.size+b.cps.size
 exact Array.size_append
inductive Tr where
 | node (n:Str) (ts:List Tr)
mutual
def dTr:Tr→Dt
 | .node n ts=>.tup [.str n,.tup (zaE ts)]
def zaE:List Tr→List Dt
 | []=>[]
 | t :: ts=>dTr t :: zaE ts
end
mutual
def wt (zs:List Str):Tr→Nat
 | .node n ts=>n.length+2+wts zs ts+(if n∈zs∧ts.length≤3 then 0 else 1000000)
def wts (zs:List Str):List Tr→Nat
 | []=>0
 | t :: ts=>wt zs t+2+wts zs ts
end
mutual
def dp:Tr→Nat
 | .node _ ts=>1+dps ts
def dps:List Tr→Nat
 | []=>0
 | t :: ts=>max (dp t) (dps ts)
end
theorem zbl:∀ ts:List Tr,zaE ts=ts.map dTr
 | []=>rfl
 | t :: ts=>by simp only[zaE,List.map_cons,zbl ts]
theorem dTrs_length (ts:List Tr):(zaE ts).length=ts.length:=by rw[zbl,List.length_map]
theorem modB (a:Int) {b:Int} (h:0 < b):0≤a % b∧a % b < b:=⟨Int.emod_nonneg _ (by omega),Int.emod_lt_of_pos _ h⟩
theorem dps_le {n:Nat}:∀ {ts:List Tr},dps ts≤n→∀ t∈ts,dp t≤n
 | t :: ts,h,u,hu=>by
  simp only[dps]at h
  rcases List.mem_cons.mp hu with rfl | hu
  ·omega
  ·exact dps_le (ts:=ts) (by omega) u hu
theorem zeM {n:Nat}:∀ {ts:List Tr},(∀ t∈ts,dp t≤n)→dps ts≤n
 | [],_=>Nat.zero_le _
 | t :: ts,h=>by
  simp only[dps]
  have h1:=h t (by simp)
  have h2:=zeM (ts:=ts) fun u hu=>h u (List.mem_cons_of_mem _ hu)
  omega
theorem zgb {zs:List Str} {n:Nat}:∀ {ts:List Tr},(∀ t∈ts,wt zs t≤n)→wts zs ts≤(n+2) * ts.length
 | [],_=>by simp [wts]
 | t :: ts,h=>by
  simp only[wts,List.length_cons,Nat.mul_add]
  have h1:=h t (by simp)
  have h2:=zgb (zs:=zs) (ts:=ts) fun u hu=>h u (List.mem_cons_of_mem _ hu)
  omega
mutual
theorem zcN:∀ t:Tr,nol (dTr t)=true
 | .node n ts=>by simp only[dTr,nol,zbo,nols_dTrs ts,Bool.and_self]
theorem nols_dTrs:∀ ts:List Tr,zbo (zaE ts)=true
 | []=>rfl
 | t :: ts=>by simp only[zaE,zbo,zcN t,nols_dTrs ts,Bool.and_self]
end
mutual
theorem zgE:∀ t:Tr,dep (dTr t)≤2 * dp t
 | .node n ts=>by
  have:=zdZ ts
  simp only[dTr,dp,dep,zau]
  omega
theorem zdZ:∀ ts:List Tr,zau (zaE ts)≤2 * dps ts
 | []=>by simp [zaE,zau]
 | t :: ts=>by
  have:=zgE t
  have:=zdZ ts
  simp only[zaE,dps,zau]
  omega
end
inductive Fm where
 | plain (z:Str)
 | bare (z:Str)
 | same (a b:Tr)
 | unlike (ts:List Tr)
 | not (f:Fm)
 | bin (k:Str) (f g:Fm)
def dFm:Fm→Dt
 | .plain z=>.tup [.str "plain",.str z]
 | .bare z=>.tup [.str z]
 | .same a b=>.tup [.str "same",dTr a,dTr b]
 | .unlike ts=>.tup [.str "unlike",.tup (zaE ts)]
 | .not f=>.tup [.str "not",dFm f]
 | .bin k f g=>.tup [.str k,dFm f,dFm g]
def fwt (zs:List Str):Fm→Nat
 | .plain z=>z.length+(if z∈zs then 0 else 1000000)
 | .bare z=>z.length+1000
 | .same a b=>wt zs a+3+wt zs b
 | .unlike ts=>1008+wts zs ts+(if 2≤ts.length∧ts.length≤5 then 0 else 1000000)
 | .not f=>4+fwt zs f
 | .bin k f g=>1004+k.length+fwt zs f+fwt zs g
def fdp:Fm→Nat
 | .not f=>1+fdp f
 | .bin _ f g=>1+max (fdp f) (fdp g)
 | _=>1
def FOk:Fm→Prop
 | .plain _=>True
 | .bare z=>z="always"∨z="never"
 | .same a b=>dp a≤3∧dp b≤3
 | .unlike ts=>∀ t∈ts,dp t≤3
 | .not f=>FOk f
 | .bin k f g=>(k="and"∨k="or"∨k="then"∨k="as")∧FOk f∧FOk g
theorem fdp_pos (f:Fm):1≤fdp f:=by cases f <;> simp only[fdp] <;> omega
theorem nol_dFm:∀ f:Fm,nol (dFm f)=true
 | .plain z=>rfl
 | .bare z=>rfl
 | .same a b=>by simp only[dFm,nol,zbo,zcN,Bool.and_self]
 | .unlike ts=>by simp only[dFm,nol,zbo,nols_dTrs,Bool.and_self]
 | .not f=>by simp only[dFm,nol,zbo,nol_dFm f,Bool.and_self]
 | .bin k f g=>by simp only[dFm,nol,zbo,nol_dFm f,nol_dFm g,Bool.and_self]
theorem dep_dFm:∀ f:Fm,FOk f→dep (dFm f)≤fdp f+8
 | .plain z,_=>by simp only[dFm,dep,zau,fdp];omega
 | .bare z,_=>by simp only[dFm,dep,zau,fdp];omega
 | .same a b,h=>by
  have:=zgE a
  have:=zgE b
  simp only[FOk]at h
  simp only[dFm,dep,zau,fdp]
  omega
 | .unlike ts,h=>by
  have:=zdZ ts
  simp only[FOk]at h
  have:=zeM h
  simp only[dFm,dep,zau,fdp]
  omega
 | .not f,h=>by
  have:=dep_dFm f h
  simp only[dFm,dep,zau,fdp]
  omega
 | .bin k f g,h=>by
  have:=dep_dFm f h.2.1
  have:=dep_dFm g h.2.2
  simp only[dFm,dep,zau,fdp]
  omega
section
variable {K:W.Frag} {H:Hp}
theorem tr_at {n:Str} {ts:List Tr} {v:V} (h:Has K H (dTr (.node n ts)) v):∃ p q xs,v=.ref p∧SqT K H p [.str n,.ref q]∧SqT K H q xs∧HasL K H (zaE ts) xs:=by
 simp only[dTr,Has,HasL]at h
 obtain⟨p,ys,rfl,hp,v1,r1,rfl,rfl,v2,r2,rfl,⟨q,xs,rfl,hq,hx⟩,rfl⟩:=h
 exact⟨p,q,xs,rfl,hp,hq,hx⟩
theorem of_tr {n:Str} {ts:List Tr} {p q:Addr} {xs:List V} (hp:SqT K H p [.str n,.ref q]) (hq:SqT K H q xs) (hx:HasL K H (zaE ts) xs):Has K H (dTr (.node n ts)) (.ref p):=by
 simp only[dTr]
 exact Has.tup' hp (.cons Has.str' (.cons (Has.tup' hq hx) .nil))
theorem trs_get {ts:List Tr} {xs:List V} {i:Nat} {x:V} (h:HasL K H (zaE ts) xs) (e:xs[i]?=some x):∃ t,ts[i]?=some t∧Has K H (dTr t) x:=by
 rw[zbl]at h
 obtain⟨d,e1,e2⟩:=h.get e
 rw[List.getElem?_map]at e1
 cases q:ts[i]? with
 | none=>rw[q]at e1;cases e1
 | some t =>
  rw[q]at e1
  cases e1
  exact⟨t,rfl,e2⟩
theorem fms_get {fs:List Fm} {xs:List V} {i:Nat} {x:V} (h:HasL K H (fs.map dFm) xs) (e:xs[i]?=some x):∃ t,fs[i]?=some t∧Has K H (dFm t) x:=by
 obtain⟨d,e1,e2⟩:=h.get e
 rw[List.getElem?_map]at e1
 cases q:fs[i]? with
 | none=>rw[q]at e1;cases e1
 | some t =>
  rw[q]at e1
  cases e1
  exact⟨t,rfl,e2⟩
theorem nols_fms:∀ fs:List Fm,zbo (fs.map dFm)=true
 | []=>rfl
 | f :: fs=>by simp only[List.map_cons,zbo,nol_dFm,nols_fms fs,Bool.and_self]
end
theorem FnOk.no {P:Program} {w:World} {K:W.Frag} {mg:Str→Option Value} {base:Heap} {CX:CXT} {k:Nat} {f:Addr} {fd:FuncData} {ps:List Str} {sp:Sp} (h:∀ vs H Q E,¬sp vs H Q E):FnOk P w K mg base CX k f fd ps sp :=
 ⟨fun vs H Q E q=>absurd q (h _ _ _ _),fun A outer s H args us vs Q E _ _ _ _ hs=>absurd hs (h _ _ _ _)⟩
end F75
namespace F75
open PySem L2
def hdF:Fm→Str
 | .plain _=>"plain"
 | .bare z=>z
 | .same _ _=>"same"
 | .unlike _=>"unlike"
 | .not _=>"not"
 | .bin k _ _=>k
def tlF:Fm→List Dt
 | .plain z=>[.str z]
 | .bare _=>[]
 | .same a b=>[dTr a,dTr b]
 | .unlike ts=>[.tup (zaE ts)]
 | .not f=>[dFm f]
 | .bin _ f g=>[dFm f,dFm g]
def zcz:Fm→List Tr
 | .same a b=>[a,b]
 | .unlike ts=>ts
 | _=>[]
def zaG:Fm→List Fm
 | .not f=>[f]
 | .bin _ f g=>[f,g]
 | _=>[]
theorem dFm_eq (f:Fm):dFm f=.tup (.str (hdF f) :: tlF f):=by cases f <;> rfl
theorem hd_plain {f:Fm} (h:FOk f) (e:hdF f="plain"):∃ z,f=.plain z:=by
 cases f with
 | plain z=>exact⟨z,rfl⟩
 | bare z=>rcases h with rfl | rfl <;> exact absurd e (by simp only[hdF];decide +kernel)
 | bin k f g =>
  rcases h.1 with rfl | rfl | rfl | rfl <;> exact absurd e (by simp only[hdF];decide +kernel)
 | _=>exact absurd e (by simp only[hdF];decide +kernel)
theorem hd_same {f:Fm} (h:FOk f) (e:hdF f="same"):∃ a b,f=.same a b:=by
 cases f with
 | same a b=>exact⟨a,b,rfl⟩
 | bare z=>rcases h with rfl | rfl <;> exact absurd e (by simp only[hdF];decide +kernel)
 | bin k f g =>
  rcases h.1 with rfl | rfl | rfl | rfl <;> exact absurd e (by simp only[hdF];decide +kernel)
 | _=>exact absurd e (by simp only[hdF];decide +kernel)
theorem hd_unlike {f:Fm} (h:FOk f) (e:hdF f="unlike"):∃ ts,f=.unlike ts:=by
 cases f with
 | unlike ts=>exact⟨ts,rfl⟩
 | bare z=>rcases h with rfl | rfl <;> exact absurd e (by simp only[hdF];decide +kernel)
 | bin k f g =>
  rcases h.1 with rfl | rfl | rfl | rfl <;> exact absurd e (by simp only[hdF];decide +kernel)
 | _=>exact absurd e (by simp only[hdF];decide +kernel)
theorem hd_not {f:Fm} (h:FOk f) (e:hdF f="not"):∃ g,f=.not g:=by
 cases f with
 | not g=>exact⟨g,rfl⟩
 | bare z=>rcases h with rfl | rfl <;> exact absurd e (by simp only[hdF];decide +kernel)
 | bin k f g =>
  rcases h.1 with rfl | rfl | rfl | rfl <;> exact absurd e (by simp only[hdF];decide +kernel)
 | _=>exact absurd e (by simp only[hdF];decide +kernel)
theorem inV_strs {z:Str} {ws:List Str}:inV (.str z) (ws.map V.str)=true↔z∈ws:=by
 unfold inV
 rw[List.any_eq_true]
 constructor
 ·rintro ⟨y,hy,e⟩
  obtain⟨w,hw,rfl⟩:=List.mem_map.mp hy
  have:w=z:=eq_of_beq e
  rw[←this]
  exact hw
 ·intro h
  exact⟨.str z,List.mem_map.mpr ⟨z,h,rfl⟩,beq_self_eq_true z⟩
theorem zke {z:Str}:inV (.str z) ofsV=true↔z="not"∨z="and"∨z="or"∨z="then"∨z="as":=by
 rw[show ofsV=(["not","and","or","then","as"]:List Str).map V.str from rfl,inV_strs]
 simp
section
variable {P:Program} {w:World} {K:W.Frag} {mg:Str→Option Value} {base:Heap} {aB aO:Addr} {f:Addr} {fd:FuncData}
theorem fm_at {H:Hp} {g:Fm} {v:V} (h:Has K H (dFm g) v):∃ p xs,v=.ref p∧SqT K H p (.str (hdF g) :: xs)∧HasL K H (tlF g) xs:=by
 rw[dFm_eq]at h
 simp only[Has,HasL]at h
 obtain⟨p,ys,rfl,hp,v1,xs,rfl,rfl,hx⟩:=h
 exact⟨p,xs,rfl,hp,hx⟩
def sp_itrees (K:W.Frag):Sp:=fun vs H Q _=>∃(g:Fm) (v:V),vs=[v]∧Has K H (dFm g) v∧FOk g∧∀(H':Hp) (l:Addr) (xs:List V),ar H H'→H l=none→H' l=some (.lst xs)→HasL K H' (zaE (zcz g)) xs→Q (.ref l) H'
def sp_ifms (K:W.Frag):Sp:=fun vs H Q _=>∃(g:Fm) (v:V),vs=[v]∧Has K H (dFm g) v∧FOk g∧∀(H':Hp) (l:Addr) (xs:List V),ar H H'→H l=none→H' l=some (.lst xs)→HasL K H' ((zaG g).map dFm) xs→Q (.ref l) H'
theorem zgK:zae ["formula"] ["formula"] (ao s_inner_trees):=⟨rfl,rfl,rfl,by decide +kernel,rfl,by decide +kernel,by decide +kernel⟩
theorem cut2 (a b c:V):zbz [a,b,c] (some 1) none=[b,c]:=rfl
theorem ok_itrees (F:Fun K "inner_trees" "inner_trees" s_inner_trees f fd) (T:Txt K mg aB aO):FnOk P w K mg base CX0 1 f fd ["formula"] (sp_itrees K):=by
 refine F.ok zgK (fun vs H Q E h=>?_) (fun cdv A outer s H vs Q E hr h=>?_)
 ·obtain⟨g,v,rfl,_⟩:=h
  rfl
 obtain⟨g,v,rfl,hg,ok,q⟩:=h
 refine⟨_,(ae (zao (aw zav (aF zat (pv 0) ag (fun _ _=>rfl)) zab (ay _))
   (aj (ax (zbD zdQ rfl T.list PyProof.Rows.Boot.list (aa (zbG zht (pv 0) (zb4 ag) zb5) ac))))
   zad)
  (aj (ax (zfF (aw zav (aF zat (pv 0) ag (fun _ _=>rfl)) zab (ay _)) (zbD zdQ rfl T.list PyProof.Rows.Boot.list (aa (aF zat (pv 0) ag (fun _ _=>rfl)) ac)) (zam ac))))),?_⟩
 obtain⟨p,xs,rfl,hp,hx⟩:=fm_at hg
 have a0:atI (V.str (hdF g) :: xs) 0=some (.str (hdF g)):=zah (j:=0) rfl
 refine⟨_,rfl,p,_,_,_,rfl,rfl,hp,a0,rfl,_,rfl,aI (fun c=>?_) (fun c=>?_)⟩
 ·have e:hdF g="same":=by
   have:=of_decide_eq_true c
   injection this
  obtain⟨a,b,rfl⟩:=hd_same ok e
  simp only[tlF,HasL]at hx
  obtain⟨va,r1,rfl,ha,vb,r2,rfl,hb,rfl⟩:=hx
  refine⟨_,rfl,_,rfl,p,_,rfl,hp,(fun h=>absurd h.1 (show ¬(1:Nat)=0 by decide)),fun p1 hp1=>?_⟩
  rw[cut2]
  have s1:ar H (upd H p1 (.tup [va,vb])):=ak hp1 _
  have n1:=ad (H:=H) (a:=p1) (o:=.tup [va,vb])
  generalize upd H p1 (.tup [va,vb])=H1 at s1 n1
  refine⟨p1,_,rfl,.inr (SqT.of n1),fun l hl=>?_⟩
  have s2:ar H1 (upd H1 l (.lst [va,vb])):=ak hl _
  exact q _ l _ (s1.trans s2) (s1.free hl) ad (.cons (ha.keep (s1.trans s2).kt (zcN _)) (.cons (hb.keep (s1.trans s2).kt (zcN _)) .nil))
 have c':hdF g≠"same":=fun e=>c (by rw[e];decide +kernel)
 refine⟨_,rfl,p,_,_,_,rfl,rfl,hp,a0,rfl,_,rfl,aI (fun d=>?_) (fun d=>?_)⟩
 ·have e:hdF g="unlike":=by
   have:=of_decide_eq_true d
   injection this
  obtain⟨ts,rfl⟩:=hd_unlike ok e
  simp only[tlF,HasL,Has]at hx
  obtain⟨va,r1,rfl,⟨r,ys,rfl,hr1,hy⟩,rfl⟩:=hx
  refine⟨_,rfl,p,_,_,_,rfl,rfl,hp,rfl,r,_,rfl,.inr hr1,fun l hl=>?_⟩
  have s2:ar H (upd H l (.lst ys)):=ak hl _
  exact q _ l _ s2 hl ad (hy.keep s2.kt (nols_dTrs _))
 ·have d':hdF g≠"unlike":=fun e=>d (by rw[e];decide +kernel)
  refine⟨lS0,fun l hl=>?_⟩
  have e:zcz g=[]:=by
   cases g with
   | same a b=>exact absurd rfl c'
   | unlike ts=>exact absurd rfl d'
   | _=>rfl
  exact q _ l [] (ak hl _) hl ad (by rw[e];exact HasL.nil)
theorem zfh:zae ["formula"] ["formula"] (ao s_inner_formulas):=⟨rfl,rfl,rfl,by decide +kernel,rfl,by decide +kernel,by decide +kernel⟩
theorem ok_ifms (F:Fun K "inner_formulas" "inner_formulas" s_inner_formulas f fd) (T:Txt K mg aB aO):FnOk P w K mg base CX0 1 f fd ["formula"] (sp_ifms K):=by
 refine F.ok zfh (fun vs H Q E h=>?_) (fun cdv A outer s H vs Q E hr h=>?_)
 ·obtain⟨g,v,rfl,_⟩:=h
  rfl
 obtain⟨g,v,rfl,hg,ok,q⟩:=h
 refine⟨_,(aj (ax (zfF (aw zeY (aF zat (pv 0) ag (fun _ _=>rfl)) (zba (v:=.ref aO) rfl T.ofs rfl) rfl) (zbD zdQ rfl T.list PyProof.Rows.Boot.list (aa (zbG zht (pv 0) (zb4 ag) zb5) ac)) (zam ac)))),?_⟩
 obtain⟨p,xs,rfl,hp,hx⟩:=fm_at hg
 have a0:atI (V.str (hdF g) :: xs) 0=some (.str (hdF g)):=zah (j:=0) rfl
 refine⟨_,rfl,p,_,_,_,rfl,rfl,hp,a0,aO,ofsV,rfl,.inr (T.tO H),rfl,zlm,_,rfl,aI (fun c=>?_) (fun c=>?_)⟩
 ·have e:=zke.mp c
  have key:∃ ys:List V,xs=ys∧HasL K H ((zaG g).map dFm) ys∧zbz (.str (hdF g) :: ys) (some 1) none=ys∧HT.sIx (V.str (hdF g) :: ys).length 0 (some 1)≠0:=by
   cases g with
   | not g =>
    have hx':=hx
    simp only[tlF,HasL]at hx'
    obtain⟨va,r1,rfl,ha,rfl⟩:=hx'
    exact⟨_,rfl,hx,rfl,show ¬(1:Nat)=0 by decide⟩
   | bin k f g =>
    have hx':=hx
    simp only[tlF,HasL]at hx'
    obtain⟨va,r1,rfl,ha,vb,r2,rfl,hb,rfl⟩:=hx'
    exact⟨_,rfl,hx,rfl,show ¬(1:Nat)=0 by decide⟩
   | bare z=>rcases ok with rfl | rfl <;> exact absurd e (by simp only[hdF];decide +kernel)
   | _=>exact absurd e (by simp only[hdF];decide +kernel)
  obtain⟨ys,rfl,hy,ec,en⟩:=key
  refine⟨_,rfl,_,rfl,p,_,rfl,hp,(fun h=>absurd h.1 en),fun p1 hp1=>?_⟩
  rw[ec]
  have s1:ar H (upd H p1 (.tup xs)):=ak hp1 _
  have n1:=ad (H:=H) (a:=p1) (o:=.tup xs)
  generalize upd H p1 (.tup xs)=H1 at s1 n1
  refine⟨p1,_,rfl,.inr (SqT.of n1),fun l hl=>?_⟩
  have s2:ar H1 (upd H1 l (.lst xs)):=ak hl _
  exact q _ l _ (s1.trans s2) (s1.free hl) ad (hy.keep (s1.trans s2).kt (nols_fms _))
 ·have c':=fun e=>c (zke.mpr e)
  refine⟨lS0,fun l hl=>?_⟩
  have e:zaG g=[]:=by
   cases g with
   | not g=>exact absurd (.inl rfl) c'
   | bin k f g=>exact absurd (.inr ok.1) c'
   | _=>rfl
  exact q _ l [] (ak hl _) hl ad (by rw[e];exact HasL.nil)
end
end F75
namespace F75
open PySem L2
def fsum (zs:List Str) (fs:List Fm):Nat:=(fs.map fun g=>fwt zs g+1).sum
theorem fsum_mem {zs:List Str}:∀ {fs:List Fm} {g:Fm},g∈fs→fwt zs g≤fsum zs fs
 | a :: fs,g,h=>by
  have e:fsum zs (a :: fs)=fwt zs a+1+fsum zs fs:=by simp [fsum]
  rcases List.mem_cons.mp h with rfl | h
  ·omega
  ·have:=fsum_mem (zs:=zs) h
   omega
theorem zfI {zs:List Str} (a b:List Fm):fsum zs (a++b)=fsum zs a+fsum zs b:=by simp [fsum]
theorem zii {zs:List Str} (g:Fm):fsum zs [g]=fwt zs g+1:=by simp [fsum]
def marks:List Nat:=[98,120,102,122]
structure GdZ (z:Str):Prop where
 l1:1≤z.length
 l8:z.length≤8
 ab:∀ c∈z.cps.toList,c∈zd2.cps.toList
 mr:∃ c∈z.cps.toList,c∈marks
theorem zgG (a b:Str):(a++b).cps.toList=a.cps.toList++b.cps.toList:=by
 show(a.cps++b.cps).toList=_
 exact Array.toList_append
theorem zeh (a:Str):a.cps.toList.length=a.length:=by simp [Str.length]
theorem zk3 {x:Str} {j:Int} (h0:0≤j):(Txt.slice x none (some j)).cps.toList=x.cps.toList.take j.toNat:=by
 by_cases h:j≤x.cps.toList.length
 ·have e:=eq_of_beq (PyProof.Rows.slice_closes_to (x:=x) ⟨h0,h⟩)
  rw[e]
  simp
 ·have e:Txt.slice x none (some j)=x:=by
   have hn:(x.length:Int)≤j:=by rw[zeh]at h;omega
   have hz:(Builtin.Str.strSliceIndices none (some j) 1 x.length).length=x.length:=by
    unfold Builtin.Str.strSliceIndices
    simp only[show(1:Int) > 0 by decide,if_true]
    have e1:¬j < 0:=by omega
    simp only[e1,if_false]
    have e2:max 0 (min j (x.length:Int))=((x.length:Nat):Int):=by omega
    rw[e2]
    have e3:sliceRange 0 ((x.length:Nat):Int) 1=(List.range (x.length - 0)).map (0+·):=sliceRange_one 0 x.length
    rw[e3]
    simp
   unfold Txt.slice
   rw[if_pos (by rw[hz];simp)]
  rw[e,List.take_of_length_le (by omega)]
theorem zju {x:Str} {j:Int} (h0:0≤j):(Txt.slice x (some j) none).cps.toList=x.cps.toList.drop j.toNat:=by
 by_cases h:j≤x.length
 ·rw[PyProof.Rows.slice_from_eq h0 h rfl]
  show(x.cps.toList.drop j.toNat).take ((x.length:Int) - j).toNat=_
  rw[List.take_of_length_le]
  rw[List.length_drop,zeh]
  omega
 ·rw[PyProof.Rows.slice_beyond (by omega),List.drop_eq_nil_of_le (by rw[zeh];omega)]
  rfl
theorem zmf {α:Type} {xs:List α} {i:Int} {c:α} (h:atI xs i=some c):c∈xs:=by
 obtain⟨j,_,h2,_⟩:=zei h
 exact List.mem_of_getElem? h2
theorem gd_of {y:Str} {at_:Int} {c:Nat} (h0:0≤at_) (hy:y.length≤7) (ha:∀ c∈y.cps.toList,c∈zd2.cps.toList) (hc:c∈marks) (hca:c∈zd2.cps.toList):GdZ (Txt.slice y none (some at_)++⟨#[c]⟩++Txt.slice y (some at_) none):=by
 have e:(Txt.slice y none (some at_)++⟨#[c]⟩++Txt.slice y (some at_) none).cps.toList=y.cps.toList.take at_.toNat++[c]++y.cps.toList.drop at_.toNat:=by
  rw[zgG,zgG,zk3 h0,zju h0]
 have hl:(Txt.slice y none (some at_)++⟨#[c]⟩++Txt.slice y (some at_) none).length=y.length+1:=by
  rw[←zeh,e,List.length_append,List.length_append,List.length_take,List.length_drop,zeh]
  simp only[List.length_singleton]
  omega
 refine⟨by omega,by omega,fun d hd=>?_,c,by rw[e];simp,hc⟩
 rw[e]at hd
 rcases List.mem_append.mp hd with hd | hd
 ·rcases List.mem_append.mp hd with hd | hd
  ·exact ha d (List.mem_of_mem_take hd)
  ·rw[List.mem_singleton.mp hd]
   exact hca
 ·exact ha d (List.mem_of_mem_drop hd)
section
variable {P:Program} {w:World} {K:W.Frag} {mg:Str→Option Value} {base:Heap} {aB aO:Addr} {f fF fM fW:Addr} {fd dF dM dW:FuncData}
def sp_cell (K:W.Frag):Sp:=fun vs H Q _=>∃(a:Addr) (ns:List Int) (k:Int),vs=[.ref a,.int k]∧SqL K H a (ns.map V.int)∧0≤k∧∀ i:Int,Q (.int i) H
theorem zf8:zae ["_law_script","_law_k"] ["_law_script","_law_k"] (ao s__law_cell_at):=⟨rfl,rfl,rfl,by decide +kernel,rfl,by decide +kernel,by decide +kernel⟩
theorem ok_cell (F:Fun K "_law_cell_at" "_law_cell_at" s__law_cell_at f fd) (T:Txt K mg aB aO):FnOk P w K mg base CX0 1 f fd ["_law_script","_law_k"] (sp_cell K):=by
 refine F.ok zf8 (fun vs H Q E h=>?_) (fun cdv A outer s H vs Q E hr h=>?_)
 ·obtain⟨a,ns,k,rfl,_⟩:=h
  rfl
 obtain⟨a,ns,k,rfl,hS,k0,q⟩:=h
 refine⟨_,(ae (zao (aw zjm (pv 1) (zap zan rfl T.len PySem.boot_len (aa (pv 0) ac)) (ay _))
   (aj (ax (aF zaN (pv 0) (pv 1) (fun _ _=>rfl))))
   zad)
  (aj (ax ag))),?_⟩
 refine⟨_,rfl,_,rfl,a,_,rfl,.inl hS,_,_,rfl,rfl,_,rfl,aI (fun c=>?_) (fun c=>?_)⟩
 ·have hc:k < ((ns.map V.int).length:Nat):=of_decide_eq_true c
  obtain⟨x,hx⟩:=zko (xs:=ns.map V.int) k0 hc
  obtain⟨j,_,hj,_⟩:=zei hx
  rw[List.getElem?_map]at hj
  cases e:ns[j]? with
  | none=>rw[e]at hj;cases hj
  | some n =>
   rw[e]at hj
   cases hj
   exact⟨_,rfl,_,rfl,a,_,_,_,rfl,rfl,hS,hx,q n⟩
 ·exact q 0
def zbF:Sp:=fun vs H Q _=>∃ c k:Int,vs=[.int c,.int k]∧∀ i:Int,Q (.int i) H
theorem sc__law_mixed:zae ["_law_cell","_law_k","_law_mix"] ["_law_cell","_law_k"] (ao s__law_mixed):=⟨rfl,rfl,rfl,by decide +kernel,rfl,by decide +kernel,by decide +kernel⟩
theorem ok_mixed (F:Fun K "_law_mixed" "_law_mixed" s__law_mixed f fd):FnOk P w K mg base CX0 1 f fd ["_law_cell","_law_k"] zbF:=by
 refine F.ok sc__law_mixed (fun vs H Q E h=>?_) (fun cdv A outer s H vs Q E hr h=>?_)
 ·obtain⟨c,k,rfl,_⟩:=h
  rfl
 obtain⟨c,k,rfl,q⟩:=h
 refine⟨_,(ae (aA (i:=2) sc__law_mixed.nd rfl (Or.inl rfl) (au zaL (au zbX (au zaM (au zaM (pv 0) (au zbX ag (pv 1))) ag) ag) ag))
  (aj (ax (au zaL (au zaM (au zbX (pv 2) (pv 2)) (au zbX ag (pv 2))) ag)))),?_⟩
 have b:=modB ((c+7919 * k+11) * 48271) (show(0:Int) < 2147483647 by decide)
 exact⟨_,rfl,_,rfl,_,_,rfl,rfl,.inl ⟨by decide,by decide⟩,_,_,rfl,rfl,_,_,rfl,rfl,_,_,rfl,rfl,.inr ⟨by decide,by decide⟩,_,_,rfl,rfl,(by show(0:Int) < 2147483647;decide),_,rfl,_,rfl,_,_,rfl,rfl,.inl ⟨by omega,by omega⟩,_,rfl,_,_,rfl,rfl,.inl ⟨by decide,by decide⟩,_,_,rfl,rfl,_,_,rfl,rfl,(by show(0:Int) < 2147483399;decide),q _⟩
def ziL:Sp:=fun vs H Q _=>∃ c n:Int,vs=[.int c,.int n]∧0≤n∧n≤8∧∀(z:Str),(z.length:Int)=n→(∀ c∈z.cps.toList,c∈zd2.cps.toList)→Q (.str z) H
theorem zcf:zae ["_law_cell","_law_size","_law_letters","_law_word_here","_law_k"] ["_law_cell","_law_size"] (ao s__law_word):=⟨rfl,rfl,rfl,by decide +kernel,rfl,by decide +kernel,by decide +kernel⟩
theorem ok_word (F:Fun K "_law_word" "_law_word" s__law_word f fd) (T:Txt K mg aB aO) (BM:FB P w K mg base CX0 1 "_law_mixed" fM dM ["_law_cell","_law_k"] zbF):FnOk P w K mg base CX0 2 f fd ["_law_cell","_law_size"] ziL:=by
 refine F.ok zcf (fun vs H Q E h=>?_) (fun cdv A outer s H vs Q E hr h=>?_)
 ·obtain⟨c,n,rfl,_⟩:=h
  rfl
 obtain⟨c,n,rfl,h0,h8,q⟩:=h
 refine⟨_,(ae (aA (i:=2) zcf.nd rfl (Or.inl rfl) zab)
  (ae (aA (i:=3) zcf.nd rfl (Or.inl rfl) zab)
  (ae (zaZ PassesOwn.never rfl (zdV rfl T.range (aa (pv 1) ac)) (zay (i:=4) zcf.nd rfl (Or.inl rfl))
   (aj (aA (i:=3) zcf.nd rfl (Or.inl rfl) (au zcY (pv 3) (aF zkd (pv 2) (au zaL (au zbh (zaa BM.ok hr rfl BM.m BM.kp BM.b .nil zal (aa (pv 0) (aa (pv 4) ac))) ag) ag) (fun _ _=>rfl))))))
  (aj (ax (pv 3)))))),?_⟩
 refine⟨_,rfl,n,rfl,by omega,by omega,zdY (lo:=0) (n:=n.toNat) (fun i σ H'=>H'=H∧∃(y:Str) (k:Option V),σ=[some (.int c),some (.int n),some (.str zd2),some (.str y),k]∧y.length=i∧∀ c∈y.cps.toList,c∈zd2.cps.toList)
  ⟨rfl,"",none,rfl,by decide +kernel,by decide +kernel⟩ ?_ ?_⟩
 ·rintro i σ H' hi ⟨rfl,y,k,rfl,hy,hya⟩
  refine⟨_,rfl,_,rfl,_,rfl,_,rfl,c,_,rfl,fun mx=>?_⟩
  have m:=modB (mx / 31) (show(0:Int) < 26 by decide)
  obtain⟨ch,hch⟩:=zko (xs:=zd2.cps.toList) m.1 (by rw[zlA];exact m.2)
  refine⟨_,_,rfl,rfl,⟨by decide,by decide⟩,_,_,rfl,rfl,(by show(0:Int) < 26;decide),zd2,_,ch,rfl,rfl,szS (by decide +kernel),hch,y,_,rfl,rfl,szS (by rw[zev];omega),rfl,_,_,rfl,?_,fun d hd=>?_⟩
  ·rw[zim,zev,hy]
  ·rw[zgG]at hd
   rcases List.mem_append.mp hd with hd | hd
   ·exact hya d hd
   ·rw[List.mem_singleton.mp hd]
    exact zmf hch
 ·rintro σ H' ⟨rfl,y,k,rfl,hy,hya⟩
  exact⟨_,rfl,q y (by omega) hya⟩
def sp_names:Sp:=fun vs H Q _=>∃ c:Int,vs=[.int c]∧∀(H':Hp) (l:Addr) (zs:List Str),ar H H'→H l=none→H' l=some (.lst (zs.map V.str))→zs.length=4→(∀ z∈zs,GdZ z)→Q (.ref l) H'
theorem zb0:zae ["_law_cell","_law_base","_law_at","_law_names_here"] ["_law_cell"] (ao s__law_names):=⟨rfl,rfl,rfl,by decide +kernel,rfl,by decide +kernel,by decide +kernel⟩
theorem zge {zs:List Str} {i:Nat} (h:i < zs.length):∃ z∈zs,atI (zs.map V.str) (i:Int)=some (.str z) :=
 ⟨zs[i],List.getElem_mem h,zah (by rw[List.getElem?_map,List.getElem?_eq_getElem h];rfl)⟩
set_option maxHeartbeats 1000000 in
theorem ok_names (F:Fun K "_law_names" "_law_names" s__law_names f fd) (BW:FB P w K mg base CX0 2 "_law_word" fW dW ["_law_cell","_law_size"] ziL):FnOk P w K mg base CX0 3 f fd ["_law_cell"] sp_names:=by
 refine F.ok zb0 (fun vs H Q E h=>?_) (fun cdv A outer s H vs Q E hr h=>?_)
 ·obtain⟨c,rfl,_⟩:=h
  rfl
 obtain⟨c,rfl,q⟩:=h
 refine⟨_,(ae (aA (i:=1) zb0.nd rfl (Or.inr rfl) (zaa BW.ok hr rfl BW.m BW.kp BW.b .nil zal (aa (pv 0) (aa (au zaL (pv 0) ag) ac))))
  (ae (aA (i:=2) zb0.nd rfl (Or.inr rfl) (au zaL (au zbh (pv 0) ag) ag))
  (ae (zfD (i:=3) (N':=["_law_letter","_law_base","_law_at"]) (ix:=[1,2]) zb0.nd rfl (Or.inl rfl) rfl rfl (by decide +kernel) (by decide +kernel) rfl (fun ok=>zbY (sc:=ao s__law_names) ok rfl (by decide +kernel) (by decide +kernel)) (by decide +kernel) rfl rfl (fun j i h=>match j,h with | 0,h=>by cases h;exact⟨_,rfl,rfl,.inl rfl,.inl rfl⟩ | 1,h=>by cases h;exact⟨_,rfl,rfl,.inl rfl,.inl rfl⟩ | n+2,h=>by simp at h) (zj1 zab) (fun _ _ _ _=>(au zcY (au zcY (zbG zjU (pv 1) zb5 (zb4 (pv 2))) (pv 0)) (zbG zjU (pv 1) (zb4 (pv 2)) zb5))))
  (ae (zao (aw zav (au zaL (au zbh (pv 0) ag) ag) ag (ay _))
   (aj (aA (i:=3) zb0.nd rfl (Or.inl rfl) (zam (aa zab (aa (aF zaN (pv 3) ag (fun _ _=>rfl)) (aa zab (aa (aF zaN (pv 3) ag (fun _ _=>rfl)) ac)))))))
   zad)
  (aj (ax (pv 3))))))),?_⟩
 have b7:=modB c (show(0:Int) < 7 by decide)
 have b8:=modB (c / 8) (show(0:Int) < 8 by decide)
 refine⟨_,rfl,_,rfl,_,_,rfl,rfl,(by show(0:Int) < 7;decide),c,c % 7,rfl,by omega,by omega,fun y hyl hya=>?_⟩
 have hy:y.length≤8:=by omega
 refine⟨_,rfl,_,_,rfl,rfl,⟨by decide,by decide⟩,_,_,rfl,rfl,(by show(0:Int) < 8;decide),?_⟩
 have k1:(Txt.slice y none (some (c / 8 % 8))).length≤8:=zje hy
 have k2:(Txt.slice y (some (c / 8 % 8)) none).length≤8:=zje hy
 have e4:(("bxfz":Str)).length=4:=by decide +kernel
 refine⟨_,rfl,fun D hD=>⟨fun i m ys H'=>m=4 - i∧i≤4∧(∃ zs:List Str,zs.length=i∧(∀ z∈zs,GdZ z)∧ys=zs.map V.str)∧H'=upd H D (.lst ys),⟨4,rfl,Nat.zero_le _,⟨[],rfl,(fun z hz=>nomatch hz),rfl⟩,rfl⟩,?_⟩⟩
 rintro i m ys H' ⟨rfl,hi,⟨zs,hzl,hzg,rfl⟩,rfl⟩
 refine⟨ad,?_⟩
 by_cases hlt:i < 4
 ·refine .inr ⟨(show i < (("bxfz":Str)).length by rw[e4];exact hlt),fun x H'' y'=>?_⟩
  obtain⟨rfl,ch,hch,rfl⟩:=y'
  refine⟨_,rfl,_,rfl,_,rfl,y,rfl,szS (by omega),_,rfl,_,_,rfl,rfl,szS (by rw[zev];omega),?_⟩
  refine⟨_,rfl,_,rfl,_,rfl,y,rfl,szS (by omega),_,_,rfl,rfl,szS (by rw[zim,zev];omega),ad,?_,4 - (i+1),by omega,rfl,hlt,⟨zs++[Txt.slice y none (some (c / 8 % 8))++⟨#[ch]⟩++Txt.slice y (some (c / 8 % 8)) none],?_,?_,?_⟩,ziK⟩
  ·rw[List.length_map,hzl]
   exact Nat.lt_of_lt_of_le hlt (by decide)
  ·rw[List.length_append,hzl];rfl
  ·intro z hz
   rcases List.mem_append.mp hz with hz | hz
   ·exact hzg z hz
   ·rw[List.mem_singleton.mp hz]
    have cm:ch∈("bxfz":Str).cps.toList:=List.mem_of_getElem? (i:=i) (by rw[Array.getElem?_toList];exact hch)
    have two:∀ c∈("bxfz":Str).cps.toList,c∈marks∧c∈zd2.cps.toList:=by decide +kernel
    exact gd_of b8.1 (by omega) hya (two ch cm).1 (two ch cm).2
  ·rw[List.map_append];rfl
 ·have hi4:i=4:=by omega
  subst hi4
  refine .inl ⟨(show(("bxfz":Str)).length≤4 by rw[e4];exact Nat.le_refl _),?_⟩
  have s1:ar H (upd H D (.lst (zs.map V.str))):=ak hD _
  have n1:=ad (H:=H) (a:=D) (o:=.lst (zs.map V.str))
  generalize upd H D (.lst (zs.map V.str))=H1 at s1 n1
  refine⟨_,rfl,_,_,rfl,rfl,⟨by decide,by decide⟩,_,_,rfl,rfl,(by show(0:Int) < 3;decide),rfl,_,rfl,aI (fun _=>?_) (fun _=>?_)⟩
  ·obtain⟨z1,m1,a1⟩:=zge (zs:=zs) (i:=1) (by omega)
   obtain⟨z3,m3,a3⟩:=zge (zs:=zs) (i:=3) (by omega)
   refine⟨_,rfl,D,_,_,_,rfl,rfl,SqL.of n1,a1,_,rfl,D,_,_,_,rfl,rfl,SqL.of n1,a3,lS4,fun l hl=>⟨_,rfl,?_⟩⟩
   refine q _ l ["za",z1,"zc",z3] (s1.trans (ak hl _)) (s1.free hl) ad rfl (fun z hz=>?_)
   simp only[List.mem_cons,List.not_mem_nil,or_false]at hz
   rcases hz with rfl | rfl | rfl | rfl
   ·exact⟨by decide +kernel,by decide +kernel,by decide +kernel,by decide +kernel⟩
   ·exact hzg _ m1
   ·exact⟨by decide +kernel,by decide +kernel,by decide +kernel,by decide +kernel⟩
   ·exact hzg _ m3
  ·exact⟨_,rfl,q _ D zs s1 hD n1 hzl hzg⟩
end
end F75
namespace F75
open PySem L2
def W:Nat→Nat
 | 0=>22
 | d+1=>22+3 * (W d+2)
theorem zkW (xs:List V):zbz xs none (some 1)=xs.take 1:=by
 cases xs with
 | nil=>rfl
 | cons a t =>
  have:HT.sIx (a :: t).length (a :: t).length (some 1)=1:=by
   simp [HT.sIx]
  unfold zbz
  rw[this]
  simp [HT.sIx]
theorem HasL.rep {K:W.Frag} {H:Hp} {ds:List Dt} {vs:List V} (h:HasL K H ds vs):∀ n:Nat,HasL K H (List.replicate n ds).flatten (List.replicate n vs).flatten
 | 0=>HasL.nil
 | n+1=>by
  rw[List.replicate_succ,List.replicate_succ,List.flatten_cons,List.flatten_cons]
  exact h.append (HasL.rep h n)
theorem HasL.take {K:W.Frag} {H:Hp}:∀ {ds:List Dt} {vs:List V} (n:Nat),HasL K H ds vs→HasL K H (ds.take n) (vs.take n)
 | _,_,0,_=>HasL.nil
 | [],vs,n+1,h=>by
  simp only[HasL]at h
  subst h
  exact HasL.nil
 | d :: ds,vs,n+1,h=>by
  simp only[HasL]at h
  obtain⟨v,r,rfl,h1,h2⟩:=h
  exact .cons h1 (HasL.take n h2)
theorem zk5 (n:Nat) (ts:List Tr):(List.replicate n (zaE ts)).flatten=zaE (List.replicate n ts).flatten:=by
 induction n with
 | zero=>rfl
 | succ n ih=>rw[List.replicate_succ,List.replicate_succ,List.flatten_cons,List.flatten_cons,ih,zbl,zbl,zbl,List.map_append]
theorem zks (n:Nat) (ts:List Tr):(zaE ts).take n=zaE (ts.take n):=by rw[zbl,zbl,List.map_take]
section
variable {P:Program} {w:World} {K:W.Frag} {mg:Str→Option Value} {base:Heap} {aB aO:Addr} {f fM:Addr} {fd dM:FuncData}
def Names (H:Hp) (nl:Addr) (zs:List Str):Prop:=H nl=some (.lst (zs.map V.str))∧zs.length=4∧∀ z∈zs,z.length≤20
theorem Names.same {H H':Hp} {nl:Addr} {zs:List Str} (h:Names H nl zs) (s:ar H H'):Names H' nl zs:=⟨s _ _ h.1,h.2⟩
theorem Names.get {H:Hp} {nl:Addr} {zs:List Str} (h:Names H nl zs) (c:Int):∃ z,atI (zs.map V.str) (c % 4)=some (.str z)∧z.length≤20∧z∈zs:=by
 have b:=modB c (show(0:Int) < 4 by decide)
 have e:c % 4=(((c % 4).toNat:Nat):Int):=by omega
 obtain⟨z,hz,ha⟩:=zge (zs:=zs) (i:=(c % 4).toNat) (by rw[h.2.1];omega)
 rw[←e]at ha
 exact⟨z,ha,h.2.2 z hz,hz⟩
def zdF (K:W.Frag) (n:Nat):Sp:=fun vs H Q _=>∃(c:Int) (nl:Addr) (zs:List Str) (d:Nat),vs=[.int c,.ref nl,.int (d:Int)]∧Names H nl zs∧d < n∧∀(H':Hp) (p:Addr) (t:Tr),ar H H'→Has K H' (dTr t) (.ref p)→dp t≤d+1→wt zs t≤W d→Q (.ref p) H'
theorem zcg:zae ["_law_cell","_law_names_here","_law_deep","_law_many","_law_inner"] ["_law_cell","_law_names_here","_law_deep"] (ao s__law_tree):=⟨rfl,rfl,rfl,by decide +kernel,rfl,by decide +kernel,by decide +kernel⟩
theorem tree4 (T:Txt K mg aB aO) {cdv:Value} {A:Around} {outer:List Env} {s:Shared} {H0:Hp} {E:XK} :
  ∃ t,PSs (zbT CX0 P w K mg base ["_law_cell","_law_names_here","_law_deep","_law_many","_law_inner"] "_law_tree" (ao s__law_tree) f cdv A outer s H0 E).nox ((zaO s__law_tree).drop 4) t ∧
   ∀(Dn:zbt) (H:Hp) (c:Int) (nl:Addr) (zs:List Str) (v2 v3:Option V) (l:Addr) (xs:List V) (ts:List Tr) (d:Nat),Names H nl zs→H l=some (.lst xs)→HasL K H (zaE ts) xs→dps ts≤d→ts.length≤3→22+wts zs ts≤W d →
    (∀(H':Hp) (p:Addr) (t:Tr),ar H H'→Has K H' (dTr t) (.ref p)→dp t≤d+1→wt zs t≤W d→Dn.rt (.ref p) H') →
    t Dn [some (.int c),some (.ref nl),v2,v3,some (.ref l)] H:=by
 refine⟨_,(aj (ax (zaD (aa (aF zaN (pv 1) (au zaL (pv 0) ag) (fun _ _=>rfl)) (aa (zbD zcy rfl T.tuple PyProof.Rows.Boot.tuple (aa (pv 4) ac)) ac))))),?_⟩
 intro Dn H c nl zs v2 v3 l xs ts d hN hl hx hd t3 hw q
 obtain⟨z,hz,z20,zin⟩:=hN.get c
 refine⟨_,rfl,_,rfl,_,_,rfl,rfl,(by show(0:Int) < 4;decide),nl,_,_,_,rfl,rfl,SqL.of hN.1,hz,_,rfl,l,_,rfl,.inl ⟨SqL.of hl,fun l2 hl2=>⟨lS2,fun p hp=>?_⟩⟩⟩
 have s1:ar H (upd H l2 (.tup xs)):=ak hl2 _
 have s2:ar (upd H l2 (.tup xs)) (upd (upd H l2 (.tup xs)) p (.tup [.str z,.ref l2])):=ak hp _
 have s12:=s1.trans s2
 refine q _ p (.node z ts) s12 (of_tr (SqT.of ad) (SqT.of (s2 _ _ ad)) (hx.keep s12.kt (nols_dTrs _))) ?_ ?_
 ·simp only[dp]
  omega
 ·simp only[wt]
  rw[if_pos ⟨zin,t3⟩]
  omega
theorem fin_w {zs:List Str} {ts:List Tr} {d:Nat} (h3:ts.length≤3) (h0:d=0→ts=[]) (hw:∀ t∈ts,wt zs t≤W (d - 1)):22+wts zs ts≤W d:=by
 cases d with
 | zero=>rw[h0 rfl];simp [wts,W]
 | succ d =>
  have h:=zgb hw
  rw[Nat.add_sub_cancel]at h
  have h2:=Nat.mul_le_mul_left (W d+2) h3
  simp only[W]
  omega
set_option maxHeartbeats 1000000 in
theorem tree2 {n:Nat} (T:Txt K mg aB aO) (IH:FnOk P w K mg base CX0 (n+1) f fd ["_law_cell","_law_names_here","_law_deep"] (zdF K n)) (b:av K fd ["_law_cell","_law_names_here","_law_deep"] []) (kp:W.keepIn K (.ref f)=true) (m:mg "_law_tree"=some (.ref f))
  (BM:FB P w K mg base CX0 1 "_law_mixed" fM dM ["_law_cell","_law_k"] zbF) {cdv:Value} {A:Around} {outer:List Env} {s:Shared} {H0:Hp} {E:XK} (hr:aE (n+1) (A.deeper (PyProof.Rows.envOfC "_law_tree" (ao s__law_tree) s.heap.objs.size f cdv))) :
  ∃ t,PSs (zbT CX0 P w K mg base ["_law_cell","_law_names_here","_law_deep","_law_many","_law_inner"] "_law_tree" (ao s__law_tree) f cdv A outer s H0 E).nox ((zaO s__law_tree).drop 2) t ∧
   ∀(Dn:zbt) (H:Hp) (c:Int) (nl:Addr) (zs:List Str) (d mn:Nat),Names H nl zs→d < n+1→mn≤3→(mn=0∨1≤d) →
    (∀(H':Hp) (p:Addr) (t:Tr),ar H H'→Has K H' (dTr t) (.ref p)→dp t≤d+1→wt zs t≤W d→Dn.rt (.ref p) H') →
    t Dn [some (.int c),some (.ref nl),some (.int (d:Int)),some (.int (mn:Int)),none] H:=by
 have hr1:aE 1 _:=hr.mono (by omega)
 obtain⟨t4,h4,q4⟩:=tree4 (f:=f) (P:=P) (w:=w) (base:=base) (cdv:=cdv) (A:=A) (s:=s) (outer:=outer) (H0:=H0) (E:=E) T
 refine⟨_,(ae (zfD (i:=4) (N':=["_law_k","_law_names_here","_law_cell","_law_deep"]) (ix:=[1,0,2]) zcg.nd rfl (Or.inl rfl) rfl rfl (by decide +kernel) (by decide +kernel) rfl (fun ok=>zbY (sc:=ao s__law_tree) ok rfl (by decide +kernel) (by decide +kernel)) (by decide +kernel) rfl rfl (fun j i h=>match j,h with | 0,h=>by cases h;exact⟨_,rfl,rfl,.inl rfl,.inl rfl⟩ | 1,h=>by cases h;exact⟨_,rfl,rfl,.inl rfl,.inl rfl⟩ | 2,h=>by cases h;exact⟨_,rfl,rfl,.inl rfl,.inl rfl⟩ | n+3,h=>by simp at h) (zdV rfl T.range (aa (pv 3) ac)) (fun _ _ _ _=>(zaa IH hr rfl m kp b .nil zal (aa (zaa BM.ok hr1 rfl BM.m BM.kp BM.b .nil zal (aa (pv 2) (aa (au zaM ag (pv 0)) ac))) (aa (pv 1) (aa (au zcc (pv 3) ag) ac))))))
   (ae (zao (aw zav (au zaL (au zbh (pv 0) ag) ag) ag (ay _))
    (aj (aA (i:=4) zcg.nd rfl (Or.inl rfl) (au op_rep (zbG zee (pv 4) zb5 (zb4 ag)) (pv 3))))
    zad) h4)),?_⟩
 intro Dn H c nl zs d mn hN hd m3 md q
 refine⟨_,rfl,_,rfl,by omega,by omega,fun D hD=>zep zkZ (fun i us H'=>ar H H'∧∃ ts:List Tr,HasL K H' (zaE ts) us∧ts.length=i∧∀ t∈ts,dp t≤d∧wt zs t≤W (d - 1)) (fun _ _ _ _=>trivial) ⟨ak hD _,[],HasL.nil,rfl,fun t ht=>nomatch ht⟩ ?_ ?_⟩
 ·rintro i us H8 x H4 hi hly hDs ⟨s4,ts,hts,tl,tok⟩ ⟨rfl,rfl⟩
  have hi':i < mn:=by
   have:i < ((mn:Int)).toNat:=hi
   omega
  obtain⟨d',rfl⟩:∃ d',d=d'+1:=⟨d - 1,by omega⟩
  have ed:(((d'+1:Nat):Int) - 1)=(d':Int):=by omega
  refine⟨_,rfl,_,rfl,_,_,rfl,rfl,c,_,rfl,fun mx=>⟨_,rfl,_,rfl,_,_,rfl,rfl,mx,nl,zs,d',congrArg (fun z=>[V.int mx,V.ref nl,V.int z]) ed,hN.same s4,by omega,fun H5 p t s5 ht h1 h2=>?_⟩⟩
  have hDs5:=s5 _ _ hDs
  have kt:=zak.lst (ys:=us++[.ref p]) hDs5
  refine zbQ (szM (by show((mn:Int)).toNat≤16000000;omega)) hi hly hDs5 ⟨(s4.trans s5).upd hD,ts++[t],?_,by rw[List.length_append,tl];rfl,fun u hu=>?_⟩
  ·rw[zbl,List.map_append,←zbl]
   exact HasL.append (hts.keep (s5.kt.trans kt) (nols_dTrs _)) (HasL.one (ht.keep kt (zcN _)))
  ·rcases List.mem_append.mp hu with hu | hu
   ·exact tok u hu
   ·rw[List.mem_singleton.mp hu]
    exact⟨h1,h2⟩
 rintro us H4 hDs ⟨s4,ts,hts,tl,tok⟩
 have tl':ts.length=mn:=by
  have:ts.length=((mn:Int)).toNat:=tl
  omega
 have h0:d=0→ts=[]:=fun e=>List.length_eq_zero_iff.mp (by omega)
 refine⟨_,rfl,_,_,rfl,rfl,⟨by decide,by decide⟩,_,_,rfl,rfl,(by show(0:Int) < 4;decide),rfl,_,rfl,aI (fun _=>?_) (fun _=>?_)⟩
 ·refine⟨_,rfl,_,rfl,D,_,rfl,SqL.of hDs,fun p hp=>?_⟩
  rw[zkW]
  have s5:ar H4 (upd H4 p (.lst (us.take 1))):=ak hp _
  have n5:=ad (H:=H4) (a:=p) (o:=.lst (us.take 1))
  generalize upd H4 p (.lst (us.take 1))=H5 at s5 n5
  have ul:(us.take 1).length≤1:=by rw[List.length_take];omega
  refine⟨_,rfl,p,_,_,rfl,rfl,n5,by omega,by omega,szM ?_,fun p2 hp2=>?_⟩
  ·have:=Nat.mul_le_mul ul (show((mn:Int)).toNat≤3 by omega)
   omega
  rw[show((mn:Int)).toNat=mn by omega]
  have s6:ar H5 (upd H5 p2 (.lst (List.replicate mn (us.take 1)).flatten)):=ak hp2 _
  have s46:=s5.trans s6
  have mem:∀ t∈(List.replicate mn (ts.take 1)).flatten,t∈ts:=fun t ht=>by
   obtain⟨l,hl,hlt⟩:=List.mem_flatten.mp ht
   rw[(List.mem_replicate.mp hl).2]at hlt
   exact List.mem_of_mem_take hlt
  have len:(List.replicate mn (ts.take 1)).flatten.length≤3:=by
   rw[zi4]
   have:(ts.take 1).length≤1:=by rw[List.length_take];omega
   have:=Nat.mul_le_mul m3 this
   omega
  refine q4 Dn _ c nl zs _ _ p2 _ (List.replicate mn (ts.take 1)).flatten d (hN.same (s4.trans s46)) ad ?_ (zeM fun t ht=>(tok t (mem t ht)).1) len (fin_w len (fun e=>?_) fun t ht=>(tok t (mem t ht)).2) fun H' p' t s7=>q H' p' t ((s4.trans s46).trans s7)
  ·rw[←zk5,←zks]
   exact HasL.rep (HasL.take 1 (hts.keep s46.kt (nols_dTrs _))) mn
  ·rw[h0 e]
   refine List.eq_nil_iff_forall_not_mem.mpr fun t ht=>?_
   obtain⟨l,hl,hlt⟩:=List.mem_flatten.mp ht
   rw[(List.mem_replicate.mp hl).2]at hlt
   simp at hlt
 ·exact q4 Dn H4 c nl zs _ _ D us ts d (hN.same s4) hDs hts (zeM fun t ht=>(tok t ht).1) (by omega) (fin_w (by omega) h0 fun t ht=>(tok t ht).2) fun H' p' t s7=>q H' p' t (s4.trans s7)
set_option maxHeartbeats 1000000 in
theorem ok_ltr (F:Fun K "_law_tree" "_law_tree" s__law_tree f fd) (T:Txt K mg aB aO) (b:av K fd ["_law_cell","_law_names_here","_law_deep"] []) (kp:W.keepIn K (.ref f)=true) (m:mg "_law_tree"=some (.ref f))
  (BM:FB P w K mg base CX0 1 "_law_mixed" fM dM ["_law_cell","_law_k"] zbF):∀ n,FnOk P w K mg base CX0 (n+1) f fd ["_law_cell","_law_names_here","_law_deep"] (zdF K n)
 | 0=>FnOk.no fun _ _ _ _ ⟨_,_,_,_,_,_,h,_⟩=>absurd h (Nat.not_lt_zero _)
 | n+1=>by
  have IH:=ok_ltr F T b kp m BM n
  refine F.ok (k:=n+1) zcg (fun vs H Q E h=>?_) (fun cdv A outer s H vs Q E hr h=>?_)
  ·obtain⟨c,nl,zs,d,rfl,_⟩:=h
   rfl
  obtain⟨c,nl,zs,d,rfl,hN,hd,q⟩:=h
  obtain⟨t2,h2,q2⟩:=tree2 (outer:=outer) (H0:=H) (E:=E) T IH b kp m BM hr
  refine⟨_,(ae (aA (i:=3) zcg.nd rfl (Or.inl rfl) (aF zaN (zam (aa ag (aa ag (aa ag (aa ag (aa ag ac)))))) (au zaL (au zbh (pv 0) ag) ag) (fun _ _=>rfl)))
   (ae (zao (aw zav (pv 2) ag (ay _))
    (aj (aA (i:=3) zcg.nd rfl (Or.inl rfl) ag))
    zad) h2)),?_⟩
  have b5:=modB (c / 4) (show(0:Int) < 5 by decide)
  obtain⟨mn,hm,m3⟩:∃ mn:Nat,atI [V.int 0,.int 0,.int 1,.int 2,.int 3] (c / 4 % 5)=some (.int (mn:Int))∧mn≤3:=by
   have:c / 4 % 5=0∨c / 4 % 5=1∨c / 4 % 5=2∨c / 4 % 5=3∨c / 4 % 5=4:=by omega
   rcases this with e | e | e | e | e <;> rw[e]
   ·exact⟨0,rfl,by decide⟩
   ·exact⟨0,rfl,by decide⟩
   ·exact⟨1,rfl,by decide⟩
   ·exact⟨2,rfl,by decide⟩
   ·exact⟨3,rfl,by decide⟩
  refine⟨(by show 5≤sizeLine;decide),fun l0 hl0=>?_⟩
  have s1:ar H (upd H l0 (.lst [V.int 0,.int 0,.int 1,.int 2,.int 3])):=ak hl0 _
  have n1:=ad (H:=H) (a:=l0) (o:=.lst [V.int 0,.int 0,.int 1,.int 2,.int 3])
  generalize upd H l0 (.lst [V.int 0,.int 0,.int 1,.int 2,.int 3])=H1 at s1 n1
  have fin:∀(H':Hp) (p:Addr) (t:Tr),ar H1 H'→Has K H' (dTr t) (.ref p)→dp t≤d+1→wt zs t≤W d→Q (.ref p) H':=fun H' p t s2=>q H' p t (s1.trans s2)
  refine⟨_,rfl,_,_,rfl,rfl,⟨by decide,by decide⟩,_,_,rfl,rfl,(by show(0:Int) < 5;decide),l0,_,_,_,rfl,rfl,SqL.of n1,hm,_,rfl,rfl,_,rfl,aI (fun e=>?_) (fun e=>?_)⟩
  ·exact q2 _ H1 c nl zs d 0 (hN.same s1) hd (by decide) (.inl rfl) fin
  ·have d1:1≤d:=Nat.pos_of_ne_zero fun z=>e (by rw[z];decide)
   exact q2 _ H1 c nl zs d mn (hN.same s1) hd m3 (.inr d1) fin
end
end F75
namespace F75
open PySem L2
theorem cut_m1 (ini:List V) (z:V):zbz (ini++[z]) none (some (-1))=ini:=by
 unfold zbz
 have e:HT.sIx (ini++[z]).length (ini++[z]).length (some (-1))=ini.length:=by
  show(if(-1:Int) < 0 then((-1:Int)+((ini++[z]).length:Int)).toNat else min (-1:Int).toNat (ini++[z]).length)=ini.length
  rw[if_pos (by decide),List.length_append]
  simp only[List.length_singleton]
  omega
 rw[e,HT.sIx_none,List.drop_zero,Nat.sub_zero,List.take_left]
theorem cut_m2 (ini:List V) (y z:V):zbz (ini++[y,z]) none (some (-2))=ini:=by
 unfold zbz
 have e:HT.sIx (ini++[y,z]).length (ini++[y,z]).length (some (-2))=ini.length:=by
  show(if(-2:Int) < 0 then((-2:Int)+((ini++[y,z]).length:Int)).toNat else min (-2:Int).toNat (ini++[y,z]).length)=ini.length
  rw[if_pos (by decide),List.length_append]
  simp only[List.length_cons,List.length_nil]
  omega
 rw[e,HT.sIx_none,List.drop_zero,Nat.sub_zero,List.take_left]
theorem at_m1 (ini:List V) (y z:V):atI (ini++[y,z]) (-1)=some z:=by
 rw[show ini++[y,z]=(ini++[y])++[z] by simp]
 exact zil _ _
theorem at_m2 (ini:List V) (y z:V):atI (ini++[y,z]) (-2)=some y:=by
 have hl:(ini++[y,z]).length=ini.length+2:=by simp
 have e:ixN (ini++[y,z]).length (-2)=some ini.length:=by
  unfold ixN
  rw[hl,if_neg (by decide),if_pos (by omega)]
  congr 1
  omega
 unfold atI
 rw[e]
 show(ini++[y,z])[ini.length]?=some y
 simp
theorem HasL.split {K:W.Frag} {H:Hp}:∀ {a b:List Dt} {vs:List V},HasL K H (a++b) vs→∃ us ws,vs=us++ws∧HasL K H a us∧HasL K H b ws
 | [],b,vs,h=>⟨[],vs,rfl,HasL.nil,h⟩
 | d :: a,b,vs,h=>by
  have h':HasL K H (d :: (a++b)) vs:=h
  simp only[HasL]at h'
  obtain⟨v,r,rfl,h1,h2⟩:=h'
  obtain⟨us,ws,rfl,g1,g2⟩:=HasL.split (a:=a) h2
  exact⟨v :: us,ws,rfl,.cons h1 g1,g2⟩
theorem HasL.two {K:W.Frag} {H:Hp} {d e:Dt} {ws:List V} (h:HasL K H [d,e] ws):∃ x y,ws=[x,y]∧Has K H d x∧Has K H e y:=by
 simp only[HasL]at h
 obtain⟨x,r,rfl,h1,y,r2,rfl,h2,rfl⟩:=h
 exact⟨x,y,rfl,h1,h2⟩
theorem HasL.uno {K:W.Frag} {H:Hp} {d:Dt} {ws:List V} (h:HasL K H [d] ws):∃ x,ws=[x]∧Has K H d x:=by
 simp only[HasL]at h
 obtain⟨x,r,rfl,h1,rfl⟩:=h
 exact⟨x,rfl,h1⟩
theorem zgh {α:Type} {xs:List α} (h:1≤xs.length):∃ ini x,xs=ini++[x]:=by
 refine⟨xs.dropLast,xs.getLast (by intro e;rw[e]at h;simp at h),?_⟩
 rw[List.dropLast_concat_getLast]
theorem zk2 {α:Type} {xs:List α} (h:2≤xs.length):∃ ini x y,xs=ini++[x,y]:=by
 obtain⟨a,y,rfl⟩:=zgh (xs:=xs) (by omega)
 obtain⟨b,x,rfl⟩:=zgh (xs:=a) (by rw[List.length_append]at h;simp only[List.length_singleton]at h;omega)
 exact⟨b,x,y,by simp⟩
section
variable {P:Program} {w:World} {K:W.Frag} {mg:Str→Option Value} {base:Heap} {aB aO:Addr} {f fM fT:Addr} {fd dM dT':FuncData}
structure zb7 (zs:List Str) (fs:List Fm) (i:Nat):Prop where
 ok:∀ g∈fs,FOk g∧fdp g≤i
 sm:fsum zs fs≤4000 * i
 le:fs.length≤i
theorem zb7.put {zs:List Str} {fs fs0:List Fm} {i:Nat} {g:Fm} (h:zb7 zs fs i) (hm:∀ u∈fs0,u∈fs) (hl:fs0.length≤fs.length) (hg:FOk g) (hd:fdp g≤i+1) (hw:fsum zs fs0+fwt zs g+1≤4000 * (i+1)):zb7 zs (fs0++[g]) (i+1):=by
 refine⟨fun u hu=>?_,?_,?_⟩
 ·rcases List.mem_append.mp hu with hu | hu
  ·have:=h.ok u (hm u hu)
   exact⟨this.1,by omega⟩
  ·rw[List.mem_singleton.mp hu]
   exact⟨hg,hd⟩
 ·rw[zfI,zii]
  omega
 ·have:=h.le
  rw[List.length_append,List.length_singleton]
  omega
def zhW (K:W.Frag):Sp:=fun vs H Q _=>∃(pl nl:Addr) (c:Int) (xs:List V) (fs:List Fm) (zs:List Str) (i:Nat),vs=[.ref pl,.int c,.ref nl]∧H pl=some (.lst xs)∧HasL K H (fs.map dFm) xs∧Names H nl zs∧zb7 zs fs i∧i≤17 ∧
 ∀(H':Hp) (l:Addr) (ys:List V) (gs:List Fm),ar H H'→H' l=some (.lst ys)→HasL K H' (gs.map dFm) ys→zb7 zs gs (i+1)→Q (.ref l) H'
abbrev NG:List Str:=["_law_pile","_law_cell","_law_names_here","_law_kind","_law_more","_law_one","_law_other","_law_trees","_law_k","_law_tree_here"]
theorem za7:zae NG ["_law_pile","_law_cell","_law_names_here"] (ao s__law_grown):=⟨rfl,rfl,rfl,by decide +kernel,rfl,by decide +kernel,by decide +kernel⟩
theorem zdz {H:Hp} {us:List V} {x:V} {l:Addr} {fs0:List Fm} {g:Fm} (hu:HasL K H (fs0.map dFm) us) (hx:Has K H (dFm g) x) (hl:H l=none):HasL K (upd H l (.lst (us++[x]))) ((fs0++[g]).map dFm) (us++[x]):=by
 have s:ar H (upd H l (.lst (us++[x]))):=ak hl _
 rw[List.map_append]
 exact HasL.append (hu.keep s.kt (nols_fms _)) (HasL.one (hx.keep s.kt (nol_dFm _)))
theorem grown9 (T:Txt K mg aB aO) {cdv:Value} {A:Around} {outer:List Env} {s:Shared} {H0:Hp} {E:XK} :
  ∃ t,PSs (zbT CX0 P w K mg base NG "_law_grown" (ao s__law_grown) f cdv A outer s H0 E).nox ((zaO s__law_grown).drop 9) t ∧
   ∀(Dn:zbt) (H:Hp) (pl nl:Addr) (mo:Int) (xs:List V) (fs:List Fm) (zs:List Str) (i:Nat) (v1 v3 v5 v6 v7 v8 v9:Option V),H pl=some (.lst xs)→HasL K H (fs.map dFm) xs→Names H nl zs→zb7 zs fs i→i≤17 →
    (∀(H':Hp) (l:Addr) (ys:List V) (gs:List Fm),ar H H'→H' l=some (.lst ys)→HasL K H' (gs.map dFm) ys→zb7 zs gs (i+1)→Dn.rt (.ref l) H') →
    t Dn [some (.ref pl),v1,some (.ref nl),v3,some (.int mo),v5,v6,v7,v8,v9] H:=by
 refine⟨_,(aj (ax (au zcW (pv 0) (zam (aa (zaD (aa zab (aa (aF zaN (pv 2) (au zaL (pv 4) ag) (fun _ _=>rfl)) ac))) ac))))),?_⟩
 intro Dn H pl nl mo xs fs zs i v1 v3 v5 v6 v7 v8 v9 hpl hx hN hP hi q
 obtain⟨z,hz,z20,zin⟩:=hN.get mo
 have xl:xs.length=fs.length:=by rw[←hx.length,List.length_map]
 have:=hP.le
 refine⟨_,rfl,_,rfl,_,rfl,_,_,rfl,rfl,(by show(0:Int) < 4;decide),nl,_,_,_,rfl,rfl,SqL.of hN.1,hz,lS2,fun p hp=>⟨lS1,fun b hb=>?_⟩⟩
 have s1:ar H (upd H p (.tup [.str "plain",.str z])):=ak hp _
 have n1:=ad (H:=H) (a:=p) (o:=.tup [.str "plain",.str z])
 generalize upd H p (.tup [.str "plain",.str z])=H1 at s1 n1 hb ⊢
 have s2:ar H1 (upd H1 b (.lst [.ref p])):=ak hb _
 have n2:=ad (H:=H1) (a:=b) (o:=.lst [.ref p])
 generalize upd H1 b (.lst [.ref p])=H2 at s2 n2
 have s12:=s1.trans s2
 refine⟨pl,b,_,_,rfl,rfl,s12 _ _ hpl,n2,szM (by rw[List.length_singleton];omega),fun l hl=>?_⟩
 refine q _ l _ (fs++[.plain z]) (s12.trans (ak hl _)) ad (zdz (hx.keep s12.kt (nols_fms _)) (Has.tup' (SqT.of (s2 _ _ n1)) (.cons Has.str' (.cons Has.str' .nil))) hl) (hP.put (g:=.plain z) (fun _ h=>h) (Nat.le_refl _) trivial (by simp only[fdp];omega) ?_)
 have:=hP.sm
 simp only[fwt]
 rw[if_pos zin]
 omega
end
end F75
namespace F75
open PySem L2
section
variable {P:Program} {w:World} {K:W.Frag} {mg:Str→Option Value} {base:Heap} {aB aO:Addr} {f fM fT:Addr} {fd dM dT':FuncData}
def zd3 (zs:List Str) (K:W.Frag) (H:Hp) (o:Addr) (t:Tr):Prop:=Has K H (dTr t) (.ref o)∧dp t≤3∧wt zs t≤310
theorem zd3.same {zs:List Str} {H H':Hp} {o:Addr} {t:Tr} (h:zd3 zs K H o t) (s:ar H H'):zd3 zs K H' o t:=⟨h.1.keep s.kt (zcN _),h.2⟩
theorem W1:W 1≤310:=by decide
theorem W2:W 2≤310:=by decide
theorem W0:W 0≤310:=by decide
set_option maxHeartbeats 1000000 in
theorem grown8 (T:Txt K mg aB aO) (BT:FB P w K mg base CX0 4 "_law_tree" fT dT' ["_law_cell","_law_names_here","_law_deep"] (zdF K 3)) (BM:FB P w K mg base CX0 1 "_law_mixed" fM dM ["_law_cell","_law_k"] zbF)
  {cdv:Value} {A:Around} {outer:List Env} {s:Shared} {H0:Hp} {E:XK} (hr:aE 4 (A.deeper (PyProof.Rows.envOfC "_law_grown" (ao s__law_grown) s.heap.objs.size f cdv))) :
  ∃ t,PSs (zbT CX0 P w K mg base NG "_law_grown" (ao s__law_grown) f cdv A outer s H0 E).nox ((zaO s__law_grown).drop 8) t ∧
   ∀(Dn:zbt) (H:Hp) (pl nl o:Addr) (ki mo:Int) (xs:List V) (fs:List Fm) (zs:List Str) (t1:Tr) (i:Nat) (v1 v6:Option V),H pl=some (.lst xs)→HasL K H (fs.map dFm) xs→Names H nl zs→zb7 zs fs i→i≤17→zd3 zs K H o t1 →
    (∀(H':Hp) (l:Addr) (ys:List V) (gs:List Fm),ar H H'→H' l=some (.lst ys)→HasL K H' (gs.map dFm) ys→zb7 zs gs (i+1)→Dn.rt (.ref l) H') →
    t Dn [some (.ref pl),v1,some (.ref nl),some (.int ki),some (.int mo),some (.ref o),v6,none,none,none] H:=by
 have hu:=zgd hr
 have hr1:aE 1 _:=hr.mono (by decide)
 obtain⟨t9,h9,q9⟩:=grown9 (f:=f) (P:=P) (w:=w) (base:=base) (cdv:=cdv) (A:=A) (s:=s) (outer:=outer) (H0:=H0) (E:=E) T
 refine⟨_,(ae (zao (aw zav (pv 3) ag (ay _))
   (ae (aA (i:=7) za7.nd rfl (Or.inl rfl) (zam (aa (pv 5) ac)))
    (ae (zaZ PassesOwn.never rfl (zdV rfl T.range (aa (au zaM ag (au zaL (au zbh (pv 4) ag) ag)) ac)) (zay (i:=8) za7.nd rfl (Or.inl rfl))
     (ae (aA (i:=9) za7.nd rfl (Or.inl rfl) (zaa BT.ok hr rfl BT.m BT.kp BT.b .nil zal (aa (zaa BM.ok hr1 rfl BM.m BM.kp BM.b .nil zal (aa (pv 4) (aa (au zaM ag (pv 8)) ac))) (aa (pv 2) (aa ag ac)))))
      (aj (zao (aw (zg0 hu) (pv 9) (pv 7) rfl)
       (aj (zaI (zbB PySem.F.plainAttrs_list PySem.F.slot_list_append PySem.F.type_list_append zaS (pv 7) (aa (pv 9) ac))))
       zad))))
    (aj (zao (aw zcU (zap zan rfl T.len PySem.boot_len (aa (pv 7) ac)) ag (ay _))
     (aj (ax (au zcW (pv 0) (zam (aa (zaD (aa zab (aa (zbD zcy rfl T.tuple PyProof.Rows.Boot.tuple (aa (pv 7) ac)) ac))) ac)))))
     zad))))
   zad) h9),?_⟩
 intro Dn H pl nl o ki mo xs fs zs t1 i v1 v6 hpl hx hN hP hi ho q
 refine⟨_,rfl,rfl,_,rfl,aI (fun _=>?_) (fun _=>q9 Dn H pl nl mo xs fs zs i _ _ _ _ _ _ _ hpl hx hN hP hi q)⟩
 refine⟨_,rfl,lS1,fun tl htl=>?_⟩
 have s1:ar H (upd H tl (.lst [.ref o])):=ak htl _
 have n1:=ad (H:=H) (a:=tl) (o:=.lst [.ref o])
 generalize upd H tl (.lst [.ref o])=H1 at s1 n1
 have b4:=modB (mo / 9) (show(0:Int) < 4 by decide)
 have ho1:=ho.same s1
 refine⟨_,rfl,_,_,rfl,rfl,⟨by decide,by decide⟩,_,_,rfl,rfl,(by show(0:Int) < 4;decide),_,_,rfl,rfl,_,rfl,(by show -(2 ^ 62)≤1+mo / 9 % 4;omega),(by show 1+mo / 9 % 4 < 2 ^ 62;omega),zdY (lo:=0) (n:=(1+mo / 9 % 4).toNat) (fun j σ H'=>ar H H'∧∃(us:List V) (ts:List Tr) (v8 v9:Option V),σ=[some (.ref pl),v1,some (.ref nl),some (.int ki),some (.int mo),some (.ref o),v6,some (.ref tl),v8,v9]∧H' tl=some (.lst us)∧HasL K H' (zaE ts) us∧ts.length≤j+1∧∀ t∈ts,dp t≤3∧wt zs t≤310)
  ⟨s1,[.ref o],[t1],none,none,rfl,n1,HasL.one ho1.1,Nat.le_refl _,fun t ht=>by rw[List.mem_singleton.mp ht];exact ho.2⟩ ?_ ?_⟩
 ·rintro j σ H2 hj ⟨s2,us,ts,v8,v9,rfl,hl2,hts,tl2,tok⟩
  refine⟨_,rfl,_,rfl,_,_,rfl,rfl,mo,_,rfl,fun mx=>⟨_,rfl,mx,nl,zs,1,rfl,hN.same s2,by decide,fun H3 p t s3 ht h1 h2=>?_⟩⟩
  have hts3:=hts.keep s3.kt (nols_dTrs _)
  have hl3:=s3 _ _ hl2
  have dd:=zdZ ts
  have dm:=zeM fun t ht=>(tok t ht).1
  have ul:us.length=ts.length:=by rw[←hts.length,dTrs_length]
  have w1:=W1
  refine⟨_,rfl,_,rfl,tl,us,zaE ts,dTr t,rfl,.inl (SqL.of hl3),hts3,ht,by omega,_,rfl,aI (fun _=>?_) (fun _=>?_)⟩
  ·have kt:=zak.lst (ys:=us++[.ref p]) hl3
   refine⟨_,rfl,.inl ⟨rfl,_,SqL.of hl3⟩,_,rfl,tl,_,_,rfl,rfl,hl3,zbS (by omega),(s2.trans s3).upd htl,us++[.ref p],ts++[t],_,_,rfl,ad,?_,by rw[List.length_append,List.length_singleton];omega,fun u hu'=>?_⟩
   ·rw[zbl,List.map_append,←zbl]
    exact HasL.append (hts3.keep kt (nols_dTrs _)) (HasL.one (ht.keep kt (zcN _)))
   ·rcases List.mem_append.mp hu' with hu' | hu'
    ·exact tok u hu'
    ·rw[List.mem_singleton.mp hu']
     exact⟨by omega,by omega⟩
  ·exact⟨s2.trans s3,us,ts,_,_,rfl,hl3,hts3,by omega,tok⟩
 rintro σ H2 ⟨s2,us,ts,v8,v9,rfl,hl2,hts,tl2,tok⟩
 have xl:xs.length=fs.length:=by rw[←hx.length,List.length_map]
 have hle:=hP.le
 refine⟨_,rfl,tl,_,rfl,.inl (SqL.of hl2),_,_,rfl,rfl,_,rfl,aI (fun c2=>?_) (fun _=>?_)⟩
 ·refine⟨_,rfl,_,rfl,tl,_,rfl,.inl ⟨SqL.of hl2,fun tp htp=>⟨lS2,fun p hp=>⟨lS1,fun b hb=>?_⟩⟩⟩⟩
  have s3:ar H2 (upd H2 tp (.tup us)):=ak htp _
  have n3:=ad (H:=H2) (a:=tp) (o:=.tup us)
  generalize upd H2 tp (.tup us)=H3 at s3 n3 hp hb ⊢
  have s4:ar H3 (upd H3 p (.tup [.str "unlike",.ref tp])):=ak hp _
  have n4:=ad (H:=H3) (a:=p) (o:=.tup [.str "unlike",.ref tp])
  generalize upd H3 p (.tup [.str "unlike",.ref tp])=H4 at s4 n4 hb ⊢
  have s5:ar H4 (upd H4 b (.lst [.ref p])):=ak hb _
  have n5:=ad (H:=H4) (a:=b) (o:=.lst [.ref p])
  generalize upd H4 b (.lst [.ref p])=H5 at s5 n5
  have s25:=(s3.trans s4).trans s5
  have s05:=s2.trans s25
  refine⟨pl,b,_,_,rfl,rfl,s05 _ _ hpl,n5,szM (by rw[List.length_singleton];omega),fun l hl=>?_⟩
  have hg:Has K H5 (dFm (.unlike ts)) (.ref p):=Has.tup' (SqT.of (s5 _ _ n4)) (.cons Has.str' (.cons (Has.tup' (SqT.of (s5 _ _ (s4 _ _ n3))) (hts.keep s25.kt (nols_dTrs _))) .nil))
  refine q _ l _ (fs++[.unlike ts]) (s05.trans (ak hl _)) ad (zdz (hx.keep s05.kt (nols_fms _)) hg hl) (hP.put (g:=.unlike ts) (fun _ h=>h) (Nat.le_refl _) (fun t ht=>(tok t ht).1) (by simp only[fdp];omega) ?_)
  have h1:=zgb fun t ht=>(tok t ht).2
  have h5:ts.length≤5:=by omega
  have h2:=Nat.mul_le_mul_left (310+2) h5
  have:=hP.sm
  have l2:(1:Int) < ((us.length:Nat):Int):=of_decide_eq_true c2
  have ul2:us.length=ts.length:=by rw[←hts.length,dTrs_length]
  simp only[fwt]
  rw[if_pos ⟨by omega,h5⟩]
  omega
 ·exact q9 Dn H2 pl nl mo xs fs zs i _ _ _ _ _ _ _ (s2 _ _ hpl) (hx.keep s2.kt (nols_fms _)) (hN.same s2) hP hi fun H' l ys gs s3=>q H' l ys gs (s2.trans s3)
theorem zjJ (c:Int):∃ k:Str,atI [V.str "and",.str "or",.str "then",.str "as"] (c % 4)=some (.str k)∧(k="and"∨k="or"∨k="then"∨k="as")∧k.length≤4:=by
 have b:=modB c (show(0:Int) < 4 by decide)
 have:c % 4=0∨c % 4=1∨c % 4=2∨c % 4=3:=by omega
 rcases this with e | e | e | e <;> rw[e]
 ·exact⟨"and",rfl,.inl rfl,by decide +kernel⟩
 ·exact⟨"or",rfl,.inr (.inl rfl),by decide +kernel⟩
 ·exact⟨"then",rfl,.inr (.inr (.inl rfl)),by decide +kernel⟩
 ·exact⟨"as",rfl,.inr (.inr (.inr rfl)),by decide +kernel⟩
set_option maxHeartbeats 1000000 in
theorem grown7 (T:Txt K mg aB aO) (BT:FB P w K mg base CX0 4 "_law_tree" fT dT' ["_law_cell","_law_names_here","_law_deep"] (zdF K 3)) (BM:FB P w K mg base CX0 1 "_law_mixed" fM dM ["_law_cell","_law_k"] zbF)
  {cdv:Value} {A:Around} {outer:List Env} {s:Shared} {H0:Hp} {E:XK} (hr:aE 4 (A.deeper (PyProof.Rows.envOfC "_law_grown" (ao s__law_grown) s.heap.objs.size f cdv))) :
  ∃ t,PSs (zbT CX0 P w K mg base NG "_law_grown" (ao s__law_grown) f cdv A outer s H0 E).nox ((zaO s__law_grown).drop 7) t ∧
   ∀(Dn:zbt) (H:Hp) (pl nl o:Addr) (ki mo:Int) (xs:List V) (fs:List Fm) (zs:List Str) (t1:Tr) (i:Nat) (v1 v6:Option V),H pl=some (.lst xs)→HasL K H (fs.map dFm) xs→Names H nl zs→zb7 zs fs i→i≤17→zd3 zs K H o t1 →
    (∀(H':Hp) (l:Addr) (ys:List V) (gs:List Fm),ar H H'→H' l=some (.lst ys)→HasL K H' (gs.map dFm) ys→zb7 zs gs (i+1)→Dn.rt (.ref l) H') →
    t Dn [some (.ref pl),v1,some (.ref nl),some (.int ki),some (.int mo),some (.ref o),v6,none,none,none] H:=by
 obtain⟨t8,h8,q8⟩:=grown8 (f:=f) (outer:=outer) (H0:=H0) (E:=E) T BT BM hr
 refine⟨_,(ae (zao (PW.pt (zd8 (aw zcU (pv 3) ag (ay _)) (zd8 (aw zjm (pv 3) ag (ay _)) (zef (aw zcU (zap zan rfl T.len PySem.boot_len (aa (pv 0) ac)) ag (ay _))))))
   (aj (ax (au zcW (zbG zee (pv 0) zb5 (zb4 (zaY zaP ag))) (zam (aa (zaD (aa (aF zaN (zam (aa zab (aa zab (aa zab (aa zab ac))))) (au zaL (pv 4) ag) (fun _ _=>rfl)) (aa (aF zaN (pv 0) (zaY zaP ag) (fun _ _=>rfl)) (aa (aF zaN (pv 0) (zaY zaP ag) (fun _ _=>rfl)) ac)))) ac)))))
   zad) h8),?_⟩
 intro Dn H pl nl o ki mo xs fs zs t1 i v1 v6 hpl hx hN hP hi ho q
 have go:=q8 Dn H pl nl o ki mo xs fs zs t1 i v1 v6 hpl hx hN hP hi ho q
 have xl:xs.length=fs.length:=by rw[←hx.length,List.length_map]
 refine⟨_,rfl,_,_,rfl,rfl,_,rfl,aI (fun _=>⟨_,rfl,_,_,rfl,rfl,_,rfl,aI (fun _=>⟨_,rfl,pl,_,rfl,.inl (SqL.of hpl),_,_,rfl,rfl,_,rfl,aI (fun c=>?_) (fun _=>go)⟩) (fun _=>zbM go)⟩) (fun _=>zbM go)⟩
 have c':(1:Int) < ((xs.length:Nat):Int):=of_decide_eq_true c
 obtain⟨ini,g1,g2,rfl⟩:=zk2 (xs:=fs) (by omega)
 rw[List.map_append]at hx
 obtain⟨us,ws,rfl,hus,hws⟩:=HasL.split hx
 obtain⟨x1,x2,rfl,hx1,hx2⟩:=HasL.two hws
 have hle:=hP.le
 have hsm:=hP.sm
 rw[zfI]at hsm
 have h12:fsum zs [g1,g2]=fwt zs g1+1+(fwt zs g2+1):=by simp [fsum]
 rw[h12]at hsm
 obtain⟨k,hk,kk,k4⟩:=zjJ mo
 have o1:=hP.ok g1 (by simp)
 have o2:=hP.ok g2 (by simp)
 refine⟨_,rfl,_,rfl,_,rfl,pl,_,rfl,SqL.of hpl,fun p hp=>?_⟩
 rw[cut_m2]
 have s1:ar H (upd H p (.lst us)):=ak hp _
 have n1:=ad (H:=H) (a:=p) (o:=.lst us)
 generalize upd H p (.lst us)=H1 at s1 n1
 refine⟨lS4,fun kl hkl=>?_⟩
 have s2:ar H1 (upd H1 kl (.lst [V.str "and",.str "or",.str "then",.str "as"])):=ak hkl _
 have n2:=ad (H:=H1) (a:=kl) (o:=.lst [V.str "and",.str "or",.str "then",.str "as"])
 generalize upd H1 kl (.lst [V.str "and",.str "or",.str "then",.str "as"])=H2 at s2 n2
 have s02:=s1.trans s2
 have hpl2:=s02 _ _ hpl
 refine⟨_,rfl,_,_,rfl,rfl,(by show(0:Int) < 4;decide),kl,_,_,_,rfl,rfl,SqL.of n2,hk,_,rfl,_,rfl,pl,_,_,_,rfl,rfl,SqL.of hpl2,at_m2 us x1 x2,_,rfl,_,rfl,pl,_,_,_,rfl,rfl,SqL.of hpl2,at_m1 us x1 x2,lS3,fun r hr'=>⟨lS1,fun b hb=>?_⟩⟩
 have s3:ar H2 (upd H2 r (.tup [.str k,x1,x2])):=ak hr' _
 have n3:=ad (H:=H2) (a:=r) (o:=.tup [.str k,x1,x2])
 generalize upd H2 r (.tup [.str k,x1,x2])=H3 at s3 n3 hb ⊢
 have s4:ar H3 (upd H3 b (.lst [.ref r])):=ak hb _
 have n4:=ad (H:=H3) (a:=b) (o:=.lst [.ref r])
 generalize upd H3 b (.lst [.ref r])=H4 at s4 n4
 have s04:=(s02.trans s3).trans s4
 have n14:=((s2.trans s3).trans s4) _ _ n1
 have ul:us.length≤100:=by
  rw[List.length_append]at xl
  simp only[List.length_cons,List.length_nil,List.length_append]at xl hle
  omega
 refine⟨p,b,_,_,rfl,rfl,n14,n4,szM (by rw[List.length_singleton];omega),fun l hl=>?_⟩
 have hg:Has K H4 (dFm (.bin k g1 g2)) (.ref r):=Has.tup' (SqT.of (s4 _ _ n3)) (.cons Has.str' (.cons (hx1.keep s04.kt (nol_dFm _)) (.cons (hx2.keep s04.kt (nol_dFm _)) .nil)))
 refine q _ l _ (ini++[.bin k g1 g2]) (s04.trans (ak hl _)) ad (zdz (hus.keep s04.kt (nols_fms _)) hg hl) (hP.put (g:=.bin k g1 g2) (fun u hu=>List.mem_append_left _ hu) (by rw[List.length_append];omega) ⟨kk,o1.1,o2.1⟩ (by simp only[fdp];omega) ?_)
 simp only[fwt]
 omega
end
end F75
namespace F75
open PySem L2
section
variable {P:Program} {w:World} {K:W.Frag} {mg:Str→Option Value} {base:Heap} {aB aO:Addr} {f fM fT fC fG:Addr} {fd dM dT' dC dG:FuncData}
theorem zeA {i:Nat}:∀ {fs:List Fm},(∀ g∈fs,FOk g∧fdp g≤i)→zau (fs.map dFm)≤i+8
 | [],_=>by simp [zau]
 | g :: fs,h=>by
  have h1:=h g (by simp)
  have h2:=dep_dFm g h1.1
  have h3:=zeA (fs:=fs) fun u hu=>h u (List.mem_cons_of_mem _ hu)
  simp only[List.map_cons,zau]
  omega
set_option maxHeartbeats 1000000 in
theorem grown6 (T:Txt K mg aB aO) (BT:FB P w K mg base CX0 4 "_law_tree" fT dT' ["_law_cell","_law_names_here","_law_deep"] (zdF K 3)) (BM:FB P w K mg base CX0 1 "_law_mixed" fM dM ["_law_cell","_law_k"] zbF)
  {cdv:Value} {A:Around} {outer:List Env} {s:Shared} {H0:Hp} {E:XK} (hr:aE 4 (A.deeper (PyProof.Rows.envOfC "_law_grown" (ao s__law_grown) s.heap.objs.size f cdv))) :
  ∃ t,PSs (zbT CX0 P w K mg base NG "_law_grown" (ao s__law_grown) f cdv A outer s H0 E).nox ((zaO s__law_grown).drop 6) t ∧
   ∀(Dn:zbt) (H:Hp) (pl nl o:Addr) (ki mo:Int) (xs:List V) (fs:List Fm) (zs:List Str) (t1:Tr) (i:Nat) (v1 v6:Option V),H pl=some (.lst xs)→HasL K H (fs.map dFm) xs→Names H nl zs→zb7 zs fs i→i≤17→zd3 zs K H o t1 →
    (∀(H':Hp) (l:Addr) (ys:List V) (gs:List Fm),ar H H'→H' l=some (.lst ys)→HasL K H' (gs.map dFm) ys→zb7 zs gs (i+1)→Dn.rt (.ref l) H') →
    t Dn [some (.ref pl),v1,some (.ref nl),some (.int ki),some (.int mo),some (.ref o),v6,none,none,none] H:=by
 have hu:=zgd hr
 obtain⟨t7,h7,q7⟩:=grown7 (f:=f) (outer:=outer) (H0:=H0) (E:=E) T BT BM hr
 refine⟨_,(ae (zao (PW.pt (zd8 (aw zav (pv 3) ag (ay _)) (zef (aw (op_neD hu) (pv 0) (zam ac) rfl))))
   (aj (ax (au zcW (zbG zee (pv 0) zb5 (zb4 (zaY zaP ag))) (zam (aa (zaD (aa zab (aa (aF zaN (pv 0) (zaY zaP ag) (fun _ _=>rfl)) ac))) ac)))))
   zad) h7),?_⟩
 intro Dn H pl nl o ki mo xs fs zs t1 i v1 v6 hpl hx hN hP hi ho q
 have xl:xs.length=fs.length:=by rw[←hx.length,List.length_map]
 refine⟨_,rfl,rfl,_,rfl,aI (fun _=>?_) (fun _=>zbM (q7 Dn H pl nl o ki mo xs fs zs t1 i v1 v6 hpl hx hN hP hi ho q))⟩
 refine⟨_,rfl,lS0,fun e he=>?_⟩
 have s1:ar H (upd H e (.lst [])):=ak he _
 have n1:=ad (H:=H) (a:=e) (o:=.lst [])
 generalize upd H e (.lst [])=H1 at s1 n1
 have hpl1:=s1 _ _ hpl
 have hx1:=hx.keep s1.kt (nols_fms _)
 have dd:=zeA hP.ok
 refine⟨.lst (fs.map dFm),.lst [],Has.lst' (SqL.of hpl1) hx1,Has.lst' (SqL.of n1) HasL.nil,(by simp only[dep];omega),_,rfl,?_⟩
 have q1:∀(H':Hp) (l:Addr) (ys:List V) (gs:List Fm),ar H1 H'→H' l=some (.lst ys)→HasL K H' (gs.map dFm) ys→zb7 zs gs (i+1)→Dn.rt (.ref l) H':=fun H' l ys gs s2=>q H' l ys gs (s1.trans s2)
 by_cases hne:fs=[]
 ·subst hne
  exact zbM (q7 Dn H1 pl nl o ki mo xs [] zs t1 i v1 v6 hpl1 hx1 (hN.same s1) hP hi (ho.same s1) q1)
 have e0:peq (.lst (fs.map dFm)) (.lst [])=false:=by
  cases fs with
  | nil=>exact absurd rfl hne
  | cons t ts=>rfl
 rw[e0]
 refine zcq ?_
 obtain⟨ini,g1,rfl⟩:=zgh (xs:=fs) (Nat.pos_of_ne_zero fun z=>hne (List.length_eq_zero_iff.mp z))
 rw[List.map_append]at hx1
 obtain⟨us,ws,rfl,hus,hws⟩:=HasL.split hx1
 obtain⟨x1,rfl,hx1'⟩:=HasL.uno hws
 have hle:=hP.le
 have hsm:=hP.sm
 rw[zfI,zii]at hsm
 have o1:=hP.ok g1 (by simp)
 refine⟨_,rfl,_,rfl,_,rfl,pl,_,rfl,SqL.of hpl1,fun p hp=>?_⟩
 rw[cut_m1]
 have s2:ar H1 (upd H1 p (.lst us)):=ak hp _
 have n2:=ad (H:=H1) (a:=p) (o:=.lst us)
 generalize upd H1 p (.lst us)=H2 at s2 n2
 have hpl2:=s2 _ _ hpl1
 refine⟨_,rfl,_,rfl,pl,_,_,_,rfl,rfl,SqL.of hpl2,zil us x1,lS2,fun r hr'=>⟨lS1,fun b hb=>?_⟩⟩
 have s3:ar H2 (upd H2 r (.tup [.str "not",x1])):=ak hr' _
 have n3:=ad (H:=H2) (a:=r) (o:=.tup [.str "not",x1])
 generalize upd H2 r (.tup [.str "not",x1])=H3 at s3 n3 hb ⊢
 have s4:ar H3 (upd H3 b (.lst [.ref r])):=ak hb _
 have n4:=ad (H:=H3) (a:=b) (o:=.lst [.ref r])
 generalize upd H3 b (.lst [.ref r])=H4 at s4 n4
 have s14:=(s2.trans s3).trans s4
 have n24:=(s3.trans s4) _ _ n2
 have ul:us.length≤100:=by
  simp only[List.length_cons,List.length_nil,List.length_append]at xl hle
  omega
 refine⟨p,b,_,_,rfl,rfl,n24,n4,szM (by rw[List.length_singleton];omega),fun l hl=>?_⟩
 have hg:Has K H4 (dFm (.not g1)) (.ref r):=Has.tup' (SqT.of (s4 _ _ n3)) (.cons Has.str' (.cons (hx1'.keep s14.kt (nol_dFm _)) .nil))
 refine q1 _ l _ (ini++[.not g1]) (s14.trans (ak hl _)) ad (zdz (hus.keep s14.kt (nols_fms _)) hg hl) (hP.put (g:=.not g1) (fun u hu=>List.mem_append_left _ hu) (by rw[List.length_append];omega) o1.1 (by simp only[fdp];omega) ?_)
 simp only[fwt]
 omega
set_option maxHeartbeats 1000000 in
theorem grown4 (T:Txt K mg aB aO) (BT:FB P w K mg base CX0 4 "_law_tree" fT dT' ["_law_cell","_law_names_here","_law_deep"] (zdF K 3)) (BM:FB P w K mg base CX0 1 "_law_mixed" fM dM ["_law_cell","_law_k"] zbF)
  {cdv:Value} {A:Around} {outer:List Env} {s:Shared} {H0:Hp} {E:XK} (hr:aE 4 (A.deeper (PyProof.Rows.envOfC "_law_grown" (ao s__law_grown) s.heap.objs.size f cdv))) :
  ∃ t,PSs (zbT CX0 P w K mg base NG "_law_grown" (ao s__law_grown) f cdv A outer s H0 E).nox ((zaO s__law_grown).drop 4) t ∧
   ∀(Dn:zbt) (H:Hp) (pl nl o o2:Addr) (ki mo:Int) (xs:List V) (fs:List Fm) (zs:List Str) (t1 t2:Tr) (i:Nat) (v1:Option V),H pl=some (.lst xs)→HasL K H (fs.map dFm) xs→Names H nl zs→zb7 zs fs i→i≤17→zd3 zs K H o t1→zd3 zs K H o2 t2 →
    (∀(H':Hp) (l:Addr) (ys:List V) (gs:List Fm),ar H H'→H' l=some (.lst ys)→HasL K H' (gs.map dFm) ys→zb7 zs gs (i+1)→Dn.rt (.ref l) H') →
    t Dn [some (.ref pl),v1,some (.ref nl),some (.int ki),some (.int mo),some (.ref o),some (.ref o2),none,none,none] H:=by
 have hu:=zgd hr
 obtain⟨t6,h6,q6⟩:=grown6 (f:=f) (outer:=outer) (H0:=H0) (E:=E) T BT BM hr
 refine⟨_,(ae (zao (PW.pt (zhp (aw zav (pv 3) ag (ay _)) (zfR (aw zav (pv 3) ag (ay _)))))
   (aj (ax (au zcW (pv 0) (zam (aa (zaD (aa zab (aa (pv 5) (aa (aF zaN (zam (aa (pv 6) (aa (pv 5) ac))) (zbD zkY rfl T.int PyProof.Rows.Boot.int (aa (zbb zav (au zaL (au zbh (pv 4) ag) ag) ag (ay _)) ac)) (fun _ _=>rfl)) ac)))) ac)))))
   zad)
  (ae (zao (aw zav (pv 3) ag (ay _))
   (aj (ax (au zcW (pv 0) (zam (aa (zaD (aa (aF zaN (zam (aa zab (aa zab ac))) (au zaL (pv 4) ag) (fun _ _=>rfl)) ac)) ac)))))
   zad) h6)),?_⟩
 intro Dn H pl nl o o2 ki mo xs fs zs t1 t2 i v1 hpl hx hN hP hi ho ho2 q
 have xl:xs.length=fs.length:=by rw[←hx.length,List.length_map]
 have hle:=hP.le
 have hsm:=hP.sm
 have same:∀ kk:Bool,∃(x:Addr) (t:Tr),atI [V.ref o2,.ref o] (if kk then 1 else 0)=some (.ref x)∧zd3 zs K H x t:=fun kk=>by
  cases kk
  ·exact⟨o2,t2,rfl,ho2⟩
  ·exact⟨o,t1,rfl,ho⟩
 have ret:∀(H':Hp) (r b l x:Addr) (t:Tr),ar H H'→zd3 zs K H x t→H' r=none→(upd H' r (.tup [.str "same",.ref o,.ref x])) b=none→(upd (upd H' r (.tup [.str "same",.ref o,.ref x])) b (.lst [.ref r])) l=none →
   Dn.rt (.ref l) (upd (upd (upd H' r (.tup [.str "same",.ref o,.ref x])) b (.lst [.ref r])) l (.lst (xs++[.ref r]))):=fun H' r b l x t s' hxt hr' hb hl=>by
  have s3:ar H' (upd H' r (.tup [.str "same",.ref o,.ref x])):=ak hr' _
  have n3:=ad (H:=H') (a:=r) (o:=.tup [.str "same",.ref o,.ref x])
  generalize upd H' r (.tup [.str "same",.ref o,.ref x])=H3 at s3 n3 hb hl ⊢
  have s4:ar H3 (upd H3 b (.lst [.ref r])):=ak hb _
  generalize upd H3 b (.lst [.ref r])=H4 at s4 hl ⊢
  have s04:=(s'.trans s3).trans s4
  have hg:Has K H4 (dFm (.same t1 t)) (.ref r):=Has.tup' (SqT.of (s4 _ _ n3)) (.cons Has.str' (.cons (ho.same s04).1 (.cons (hxt.same s04).1 .nil)))
  refine q _ l _ (fs++[.same t1 t]) (s04.trans (ak hl _)) ad (zdz (hx.keep s04.kt (nols_fms _)) hg hl) (hP.put (g:=.same t1 t) (fun _ h=>h) (Nat.le_refl _) ⟨ho.2.1,hxt.2.1⟩ (by simp only[fdp];omega) ?_)
  have h1:=ho.2.2
  have h2:=hxt.2.2
  simp only[fwt]
  omega
 have next:=q6 Dn H pl nl o ki mo xs fs zs t1 i v1 (some (.ref o2)) hpl hx hN hP hi ho q
 refine⟨_,rfl,rfl,_,rfl,aI (fun _=>zcq ?_) (fun _=>⟨_,rfl,rfl,_,rfl,aI (fun _=>?_) (fun _=>?_)⟩)⟩
 ·refine⟨_,rfl,_,rfl,_,rfl,_,rfl,lS2,fun e he=>?_⟩
  have s1:ar H (upd H e (.lst [.ref o2,.ref o])):=ak he _
  have n1:=ad (H:=H) (a:=e) (o:=.lst [.ref o2,.ref o])
  generalize upd H e (.lst [.ref o2,.ref o])=H1 at s1 n1
  refine⟨_,rfl,_,_,rfl,rfl,⟨by decide,by decide⟩,_,_,rfl,rfl,(by show(0:Int) < 6;decide),rfl,.inr ⟨_,rfl,?_⟩⟩
  obtain⟨x,t,hxa,hxt⟩:=same (decide (V.int (mo / 9 % 6)=V.int 0))
  exact⟨e,_,_,_,rfl,rfl,SqL.of n1,hxa,lS3,fun r hr'=>⟨lS1,fun b hb=>⟨pl,b,_,_,rfl,rfl,(ak hb _) _ _ ((ak hr' _) _ _ (s1 _ _ hpl)),ad,szM (by rw[List.length_singleton];omega),fun l hl=>ret H1 r b l x t s1 hxt hr' hb hl⟩⟩⟩
 ·refine⟨_,rfl,_,rfl,_,rfl,_,rfl,lS2,fun e he=>?_⟩
  have s1:ar H (upd H e (.lst [.ref o2,.ref o])):=ak he _
  have n1:=ad (H:=H) (a:=e) (o:=.lst [.ref o2,.ref o])
  generalize upd H e (.lst [.ref o2,.ref o])=H1 at s1 n1
  refine⟨_,rfl,_,_,rfl,rfl,⟨by decide,by decide⟩,_,_,rfl,rfl,(by show(0:Int) < 6;decide),rfl,.inr ⟨_,rfl,?_⟩⟩
  obtain⟨x,t,hxa,hxt⟩:=same (decide (V.int (mo / 9 % 6)=V.int 0))
  exact⟨e,_,_,_,rfl,rfl,SqL.of n1,hxa,lS3,fun r hr'=>⟨lS1,fun b hb=>⟨pl,b,_,_,rfl,rfl,(ak hb _) _ _ ((ak hr' _) _ _ (s1 _ _ hpl)),ad,szM (by rw[List.length_singleton];omega),fun l hl=>ret H1 r b l x t s1 hxt hr' hb hl⟩⟩⟩
 ·refine⟨_,rfl,rfl,_,rfl,aI (fun _=>?_) (fun _=>next)⟩
  refine⟨_,rfl,lS2,fun e he=>?_⟩
  have s1:ar H (upd H e (.lst [.str "always",.str "never"])):=ak he _
  have n1:=ad (H:=H) (a:=e) (o:=.lst [.str "always",.str "never"])
  generalize upd H e (.lst [.str "always",.str "never"])=H1 at s1 n1
  obtain⟨z,hz,zok,z6⟩:∃ z:Str,atI [V.str "always",.str "never"] (mo % 2)=some (.str z)∧(z="always"∨z="never")∧z.length≤6:=by
   have b:=modB mo (show(0:Int) < 2 by decide)
   have:mo % 2=0∨mo % 2=1:=by omega
   rcases this with e | e <;> rw[e]
   ·exact⟨"always",rfl,.inl rfl,by decide +kernel⟩
   ·exact⟨"never",rfl,.inr rfl,by decide +kernel⟩
  refine⟨_,rfl,_,_,rfl,rfl,(by show(0:Int) < 2;decide),e,_,_,_,rfl,rfl,SqL.of n1,hz,lS1,fun r hr'=>⟨lS1,fun b hb=>?_⟩⟩
  have s3:ar H1 (upd H1 r (.tup [.str z])):=ak hr' _
  have n3:=ad (H:=H1) (a:=r) (o:=.tup [.str z])
  generalize upd H1 r (.tup [.str z])=H3 at s3 n3 hb ⊢
  have s4:ar H3 (upd H3 b (.lst [.ref r])):=ak hb _
  have n4:=ad (H:=H3) (a:=b) (o:=.lst [.ref r])
  generalize upd H3 b (.lst [.ref r])=H4 at s4 n4
  have s04:=(s1.trans s3).trans s4
  refine⟨pl,b,_,_,rfl,rfl,s04 _ _ hpl,n4,szM (by rw[List.length_singleton];omega),fun l hl=>?_⟩
  have hg:Has K H4 (dFm (.bare z)) (.ref r):=Has.tup' (SqT.of (s4 _ _ n3)) (.cons Has.str' .nil)
  refine q _ l _ (fs++[.bare z]) (s04.trans (ak hl _)) ad (zdz (hx.keep s04.kt (nols_fms _)) hg hl) (hP.put (g:=.bare z) (fun _ h=>h) (Nat.le_refl _) zok (by simp only[fdp];omega) ?_)
  simp only[fwt]
  omega
set_option maxHeartbeats 1000000 in
theorem ok_grown (F:Fun K "_law_grown" "_law_grown" s__law_grown f fd) (T:Txt K mg aB aO) (BT:FB P w K mg base CX0 4 "_law_tree" fT dT' ["_law_cell","_law_names_here","_law_deep"] (zdF K 3)) (BM:FB P w K mg base CX0 1 "_law_mixed" fM dM ["_law_cell","_law_k"] zbF) :
  FnOk P w K mg base CX0 5 f fd ["_law_pile","_law_cell","_law_names_here"] (zhW K):=by
 refine F.ok za7 (fun vs H Q E h=>?_) (fun cdv A outer s H vs Q E hr h=>?_)
 ·obtain⟨pl,nl,c,xs,fs,zs,i,rfl,_⟩:=h
  rfl
 obtain⟨pl,nl,c,xs,fs,zs,i,rfl,hpl,hx,hN,hP,hi,q⟩:=h
 have hr1:aE 1 _:=hr.mono (by decide)
 obtain⟨t4,h4,q4⟩:=grown4 (f:=f) (outer:=outer) (H0:=H) (E:=E) T BT BM hr
 refine⟨_,(ae (aA (i:=3) za7.nd rfl (Or.inl rfl) (au zaL (pv 1) ag))
  (ae (aA (i:=4) za7.nd rfl (Or.inl rfl) (au zbh (pv 1) ag))
  (ae (aA (i:=5) za7.nd rfl (Or.inl rfl) (zaa BT.ok hr rfl BT.m BT.kp BT.b .nil zal (aa (zaa BM.ok hr1 rfl BM.m BM.kp BM.b .nil zal (aa (pv 4) (aa ag ac))) (aa (pv 2) (aa (au zaL (pv 4) ag) ac)))))
  (ae (aA (i:=6) za7.nd rfl (Or.inl rfl) (zaa BT.ok hr rfl BT.m BT.kp BT.b .nil zal (aa (zaa BM.ok hr1 rfl BM.m BM.kp BM.b .nil zal (aa (pv 4) (aa ag ac))) (aa (pv 2) (aa (au zaL (au zbh (pv 4) ag) ag) ac))))) h4)))),?_⟩
 have b1:=modB (c / 13) (show(0:Int) < 3 by decide)
 have b2:=modB (c / 13 / 3) (show(0:Int) < 3 by decide)
 have e1:c / 13 % 3=(((c / 13 % 3).toNat:Nat):Int):=by omega
 have e2:c / 13 / 3 % 3=(((c / 13 / 3 % 3).toNat:Nat):Int):=by omega
 have wl:∀ d:Nat,d < 3→W d≤310:=fun d hd=>by
  have:d=0∨d=1∨d=2:=by omega
  rcases this with rfl | rfl | rfl
  ·exact W0
  ·exact W1
  ·exact W2
 refine⟨_,rfl,_,_,rfl,rfl,(by show(0:Int) < 13;decide),_,rfl,_,_,rfl,rfl,⟨by decide,by decide⟩,_,rfl,_,_,rfl,fun m1=>⟨_,rfl,_,rfl,_,_,rfl,rfl,(by show(0:Int) < 3;decide),m1,nl,zs,(c / 13 % 3).toNat,?_,hN,by omega,fun H1 o t1 s1 ht1 d1 w1=>?_⟩⟩
 ·rw[←e1]
  rfl
 refine⟨_,rfl,_,_,rfl,fun m2=>⟨_,rfl,_,rfl,_,_,rfl,rfl,⟨by decide,by decide⟩,_,_,rfl,rfl,(by show(0:Int) < 3;decide),m2,nl,zs,(c / 13 / 3 % 3).toNat,?_,hN.same s1,by omega,fun H2 o2 t2 s2 ht2 d2 w2=>?_⟩⟩
 ·rw[←e2]
  rfl
 have l1:=wl _ (show(c / 13 % 3).toNat < 3 by omega)
 have l2:=wl _ (show(c / 13 / 3 % 3).toNat < 3 by omega)
 have s12:=s1.trans s2
 exact q4 _ H2 pl nl o o2 _ _ xs fs zs t1 t2 i _ (s12 _ _ hpl) (hx.keep s12.kt (nols_fms _)) (hN.same s12) hP hi ⟨ht1.keep s2.kt (zcN _),by omega,by omega⟩ ⟨ht2,by omega,by omega⟩ fun H' l ys gs s3=>q H' l ys gs (s12.trans s3)
def sp_formulas (K:W.Frag):Sp:=fun vs H Q _=>∃(a nl:Addr) (ns:List Int) (zs:List Str) (b m:Int),vs=[.ref a,.int b,.ref nl,.int m]∧SqL K H a (ns.map V.int)∧0≤b∧Names H nl zs∧0≤m∧m≤16 ∧
 ∀(H':Hp) (l:Addr) (ys:List V) (gs:List Fm),ar H H'→H' l=some (.lst ys)→HasL K H' (gs.map dFm) ys→zb7 zs gs m.toNat→Q (.ref l) H'
theorem zbW:zae ["_law_script","_law_begin","_law_names_here","_law_many","_law_pile","_law_k"] ["_law_script","_law_begin","_law_names_here","_law_many"] (ao s__law_formulas):=⟨rfl,rfl,rfl,by decide +kernel,rfl,by decide +kernel,by decide +kernel⟩
set_option maxHeartbeats 1000000 in
theorem ok_formulas (F:Fun K "_law_formulas" "_law_formulas" s__law_formulas f fd) (T:Txt K mg aB aO) (BG:FB P w K mg base CX0 5 "_law_grown" fG dG ["_law_pile","_law_cell","_law_names_here"] (zhW K)) (BM:FB P w K mg base CX0 1 "_law_mixed" fM dM ["_law_cell","_law_k"] zbF)
  (BC:FB P w K mg base CX0 1 "_law_cell_at" fC dC ["_law_script","_law_k"] (sp_cell K)):FnOk P w K mg base CX0 6 f fd ["_law_script","_law_begin","_law_names_here","_law_many"] (sp_formulas K):=by
 refine F.ok zbW (fun vs H Q E h=>?_) (fun cdv A outer s H vs Q E hr h=>?_)
 ·obtain⟨a,nl,ns,zs,b,m,rfl,_⟩:=h
  rfl
 obtain⟨a,nl,ns,zs,b,m,rfl,hS,b0,hN,m0,m16,q⟩:=h
 have hr1:aE 1 _:=hr.mono (by decide)
 refine⟨_,(ae (aA (i:=4) zbW.nd rfl (Or.inl rfl) (zam ac))
  (ae (zaZ PassesOwn.never rfl (zdV rfl T.range (aa (pv 3) ac)) (zay (i:=5) zbW.nd rfl (Or.inl rfl))
   (aj (aA (i:=4) zbW.nd rfl (Or.inl rfl) (zaa BG.ok hr rfl BG.m BG.kp BG.b .nil zal (aa (pv 4) (aa (au zbh (zaa BM.ok hr1 rfl BM.m BM.kp BM.b .nil zal (aa (zaa BC.ok hr1 rfl BC.m BC.kp BC.b .nil zal (aa (pv 0) (aa (au zaM (pv 1) (pv 5)) ac))) (aa (pv 5) ac))) ag) (aa (pv 2) ac)))))))
  (aj (ax (pv 4))))),?_⟩
 refine⟨lS0,fun l hl=>?_⟩
 have s1:ar H (upd H l (.lst [])):=ak hl _
 have n1:=ad (H:=H) (a:=l) (o:=.lst [])
 generalize upd H l (.lst [])=H1 at s1 n1
 refine⟨_,rfl,m,rfl,by omega,by omega,zdY (lo:=0) (n:=m.toNat) (fun i σ H'=>ar H H'∧∃(l:Addr) (ys:List V) (gs:List Fm) (v5:Option V),σ=[some (.ref a),some (.int b),some (.ref nl),some (.int m),some (.ref l),v5]∧H' l=some (.lst ys)∧HasL K H' (gs.map dFm) ys∧zb7 zs gs i)
  ⟨s1,l,[],[],none,rfl,n1,HasL.nil,(fun g hg=>nomatch hg),by simp [fsum],Nat.le_refl _⟩ ?_ ?_⟩
 ·rintro i σ H2 hi ⟨s2,l2,ys,gs,v5,rfl,hl2,hy,hP⟩
  refine⟨_,rfl,_,rfl,_,rfl,_,rfl,_,_,rfl,rfl,a,ns,_,rfl,s2.seq hS,by omega,fun c=>⟨_,rfl,_,_,rfl,fun mx=>⟨_,_,rfl,rfl,⟨by decide,by decide⟩,_,rfl,l2,nl,_,ys,gs,zs,i,rfl,hl2,hy,hN.same s2,hP,by omega,fun H3 l3 zs3 gs3 s3 hl3 hy3 hP3=>?_⟩⟩⟩
  exact⟨s2.trans s3,l3,zs3,gs3,_,rfl,hl3,hy3,hP3⟩
 ·rintro σ H2 ⟨s2,l2,ys,gs,v5,rfl,hl2,hy,hP⟩
  exact⟨_,rfl,q H2 l2 ys gs s2 hl2 hy hP⟩
end
end F75
namespace K75
open PySem L2
def top (i:Nat):Stmt:=PySem.Challenge.pw_yesorno_k75_whole_named_holds.main.body.getD i (.Pass ⟨0,0,0,0⟩)
abbrev s_inner_trees:Stmt:=top 2
abbrev s_inner_formulas:Stmt:=top 3
abbrev zgj:Stmt:=top 19
abbrev zgk:Stmt:=top 20
abbrev zfB:Stmt:=top 21
abbrev zjk:Stmt:=top 22
abbrev zhv:Stmt:=top 23
abbrev zjl:Stmt:=zbd (top 24) 0
abbrev zfz:Stmt:=zbd (top 24) 1
abbrev zfA:Stmt:=zbd (top 24) 2
abbrev sAdd:Stmt:=zbd (top 24) 3
abbrev zhu:Stmt:=zbd (top 24) 4
abbrev zjj:Stmt:=zbd (top 24) 5
abbrev sRow:Stmt:=zbd (top 24) 6
abbrev zdw:Stmt:=top 26
abbrev zdm:Stmt:=top 28
abbrev zeD:Stmt:=top 29
abbrev zd5:Stmt:=top 30
abbrev zcK:Stmt:=zbd (top 31) 0
abbrev zcJ:Stmt:=zbd (top 31) 1
abbrev zcI:Stmt:=zbd (top 31) 2
abbrev zbJ:Stmt:=zbd (top 31) 3
abbrev zaq:Stmt:=zbd (top 31) 4
abbrev zcr:Stmt:=zbd (top 31) 5
abbrev zbK:Stmt:=zbd (top 31) 6
abbrev zbp:Stmt:=zbd (top 31) 7
abbrev zgi:Stmt:=top 32
abbrev s__law_mixed:Stmt:=top 35
abbrev s__law_word:Stmt:=top 36
abbrev s__law_names:Stmt:=top 37
abbrev s__law_tree:Stmt:=top 38
abbrev s__law_grown:Stmt:=top 39
abbrev s__law_formulas:Stmt:=top 40
abbrev zdP:Stmt:=top 41
abbrev zcZ:Stmt:=top 42
abbrev zdn:Stmt:=top 43
abbrev zdo:Stmt:=top 44
abbrev zcH:Stmt:=top 45
abbrev zb2:Stmt:=top 46
abbrev zc1:Stmt:=top 47
abbrev zc0:Stmt:=top 48
abbrev zdS:Stmt:=top 49
abbrev abc:Str:="abcdefghijklmnopqrstuvwxyz"
def isL (c:Str):Bool:=!(Builtin.Str.occurrences abc c 0 abc.length 1).isEmpty
def zdk (z:Str):List Bool:=z.cps.toList.map fun c=>isL ⟨#[c]⟩
def zdT:List V:=[.str "or",.str "and",.str "not",.str "never",.str "always",.str "then",.str "as",.str "unlike"]
def zfO (z:Str):Bool:=decide ((0:Int) < (z.length:Int))&&(zdk z).all id
def za9 (z:Str):Bool:=zfO z&&(decide ((z.length:Int)≤8)&&!inV (.str z) zdT)
theorem sz (n:Nat) (h:n≤1000):n≤sizeLine:=Nat.le_of_lt (zbS h)
theorem zmk:abc.cps.toList.length=26:=by decide +kernel
theorem zjI:zdT.all zcw=true:=by decide +kernel
theorem zie (z:Str):(zdk z).length=z.length:=by simp [zdk,Str.length]
theorem zaK (a b:Str):(a++b).length=a.length+b.length:=by
 show(a.cps++b.cps).size=a.cps.size+b.cps.size
 exact Array.size_append
theorem zk1 {z:Str} {i ch:Nat} (hch:z.cps[i]?=some ch):(zdk z).take (i+1)=(zdk z).take i++[isL ⟨#[ch]⟩]:=by
 have hb:(zdk z)[i]?=some (isL ⟨#[ch]⟩):=by
  unfold zdk
  rw[List.getElem?_map,Array.getElem?_toList,hch]
  rfl
 rw[List.take_add_one,hb]
 rfl
theorem zl0 (c:Nat):(⟨#[c]⟩:Str).length=1:=rfl
abbrev Tm:=Str × List Int
def dT (t:Tm):Dt:=.tup [.str t.1,.tup (t.2.map Dt.int)]
theorem zg3:∀ ns:List Int,zdC (ns.map Dt.int)=true
 | []=>by simp [zdC]
 | n :: ns=>by simp only[List.map_cons,zdC,nob,Bool.true_and];exact zg3 ns
theorem zeZ:∀ ns:List Int,zbo (ns.map Dt.int)=true
 | []=>by simp [zbo]
 | n :: ns=>by simp only[List.map_cons,zbo,nol,Bool.true_and];exact zeZ ns
theorem zdj:∀ ns:List Int,zau (ns.map Dt.int)=0
 | []=>by simp [zau]
 | n :: ns=>by simp only[List.map_cons,zau,dep,zdj ns];rfl
theorem zkb (t:Tm):nob (dT t)=true:=by simp only[dT,nob,zdC,zg3,Bool.and_self]
theorem zka (t:Tm):nol (dT t)=true:=by simp only[dT,nol,zbo,zeZ,Bool.and_self]
theorem dep_dT (t:Tm):dep (dT t)=2:=by simp only[dT,dep,zau,zdj];rfl
theorem zbU:∀ T:List Tm,zbo (T.map dT)=true
 | []=>by simp [zbo]
 | t :: T=>by simp only[List.map_cons,zbo,zka,Bool.true_and];exact zbU T
theorem zij:∀ T:List Tm,zau (T.map dT)≤2
 | []=>by simp [zau]
 | t :: T=>by
  have h:=zij T
  simp only[List.map_cons,zau,dep_dT]
  omega
theorem zmb {a b:Int} (h:Dt.int a=Dt.int b):a=b:=by cases h;rfl
theorem zif:∀ {as bs:List Int},as.map Dt.int=bs.map Dt.int→as=bs
 | [],[],_=>rfl
 | [],b :: bs,h=>by cases h
 | a :: as,[],h=>by cases h
 | a :: as,b :: bs,h=>by
  rw[List.map_cons,List.map_cons]at h
  injection h with h1 h2
  rw[zmb h1,zif h2]
theorem dT_inj {a b:Tm} (h:dT a=dT b):a=b:=by
 obtain⟨n,ps⟩:=a
 obtain⟨m,qs⟩:=b
 unfold dT at h
 injection h with h
 injection h with h1 h2
 injection h1 with h1
 injection h2 with h2 _
 injection h2 with h2
 have e1:n=m:=h1
 have e2:ps=qs:=zif h2
 rw[e1,e2]
theorem peq_dT (a b:Tm):peq (dT a) (dT b)=decide (a=b):=by
 by_cases h:a=b
 ·subst h
  rw[zbw,decide_eq_true rfl]
 ·rw[decide_eq_false h]
  cases e:peq (dT a) (dT b) with
  | false=>rfl
  | true=>exact absurd (dT_inj (zhy _ _ (zkb a) (zkb b) e)) h
inductive Out where
 | num (n:Nat) | name | term | many | part
def bad (T:List Tm) (ps:List Int):Bool:=decide (3 < ps.length)||ps.any fun p=>decide (p < 0)||decide ((T.length:Int)≤p)
def zdD (T:List Tm) (good:Bool) (t:Tm):Out × List Tm :=
 if good=false then(.name,T) else if bad T t.2=true then(.term,T) else if t∈T then(.num (T.idxOf t),T) else if 60≤T.length then(.many,T) else(.num T.length,T++[t])
theorem zdO {α:Type} [BEq α] [LawfulBEq α] {code:α→Dt} (hc:∀ a b,peq (code a) (code b)=true↔a=b) (T:List α) (t:α):((T.map code).any fun d=>peq d (code t))=decide (t∈T):=by
 rw[Bool.eq_iff_iff,List.any_eq_true]
 constructor
 ·rintro ⟨d,hd,e⟩
  obtain⟨u,hu,rfl⟩:=List.mem_map.mp hd
  rw[hc]at e
  rw[←e]
  exact decide_eq_true hu
 ·intro h
  exact⟨code t,List.mem_map.mpr ⟨t,of_decide_eq_true h,rfl⟩,zbw _⟩
theorem zih {α:Type} [BEq α] [LawfulBEq α] {code:α→Dt} (hc:∀ a b,peq (code a) (code b)=true↔a=b) (T:List α) (t:α):(T.map code).findIdx (fun d=>peq d (code t))=T.idxOf t:=by
 rw[List.findIdx_map]
 unfold List.idxOf
 congr 1
 funext a
 show peq (code a) (code t)=(a == t)
 rw[Bool.eq_iff_iff,hc,beq_iff_eq]
theorem zkg (a b:Tm):peq (dT a) (dT b)=true↔a=b:=by
 rw[peq_dT]
 exact decide_eq_true_iff
inductive At where
 | plain (z:Str)
 | same (a b:Int)
 deriving DecidableEq
def dA:At→Dt
 | .plain z=>.tup [.str "plain",.str z]
 | .same a b=>.tup [.str "same",.int a,.int b]
theorem zkc (t:At):nob (dA t)=true:=by cases t <;> simp only[dA,nob,zdC,Bool.and_self]
theorem zcs (t:At):nol (dA t)=true:=by cases t <;> simp only[dA,nol,zbo,Bool.and_self]
theorem zkl (t:At):dep (dA t)=1:=by cases t <;> simp only[dA,dep,zau] <;> rfl
theorem dA_inj {a b:At} (h:dA a=dA b):a=b:=by
 cases a <;> cases b
 all_goals
  unfold dA at h
  injection h with h
  injection h with h1 h2
  injection h2 with h2 h3
  first
   | (injection h2 with h2;injection h3 with h3 _;injection h3 with h3;rw[h2,h3])
   | (injection h2 with h2;rw[h2])
   | (injection h1 with h1;exact absurd h1 (by decide +kernel))
   | cases h2
theorem zj4 (a b:At):peq (dA a) (dA b)=decide (a=b):=by
 by_cases h:a=b
 ·subst h
  rw[zbw,decide_eq_true rfl]
 ·rw[decide_eq_false h]
  cases e:peq (dA a) (dA b) with
  | false=>rfl
  | true=>exact absurd (dA_inj (zhy _ _ (zkc a) (zkc b) e)) h
theorem zhH (a b:At):peq (dA a) (dA b)=true↔a=b:=by
 rw[zj4]
 exact decide_eq_true_iff
def dR (r:List Int):Dt:=.tup (r.map Dt.int)
theorem zaX (r:List Int):nol (dR r)=true:=by simp only[dR,nol,zeZ]
theorem zai {α:Type} {code:α→Dt} (hc:∀ a,nol (code a)=true):∀ T:List α,zbo (T.map code)=true
 | []=>by simp [zbo]
 | t :: T=>by simp only[List.map_cons,zbo,hc,Bool.true_and];exact zai hc T
theorem ze2 {α:Type} {code:α→Dt} {n:Nat} (hc:∀ a,dep (code a)≤n):∀ T:List α,zau (T.map code)≤n
 | []=>by simp [zau]
 | t :: T=>by
  have h:=ze2 hc T
  have:=hc t
  simp only[List.map_cons,zau]
  omega
theorem kTA:¬(("terms":Str)="atoms"):=by decide +kernel
theorem kTR:¬(("terms":Str)="rows"):=by decide +kernel
theorem kAR:¬(("atoms":Str)="rows"):=by decide +kernel
def zcA (tl al rl:Addr):List (Str × V):=zas "rows" (.ref rl) (zas "atoms" (.ref al) (zas "terms" (.ref tl) []))
theorem zdx (tl al rl:Addr):(zcA tl al rl).lookup ("terms":Str)=some (.ref tl):=by
 unfold zcA
 rw[zar,if_neg kTR,zar,if_neg kTA,zar,if_pos rfl]
theorem zcl (tl al rl:Addr):(zcA tl al rl).lookup ("atoms":Str)=some (.ref al):=by
 unfold zcA
 rw[zar,if_neg kAR,zar,if_pos rfl]
theorem zdh (tl al rl:Addr):(zcA tl al rl).lookup ("rows":Str)=some (.ref rl):=by
 unfold zcA
 rw[zar,if_pos rfl]
theorem zcO (tl al rl:Addr) {m:Str} (h1:¬m="rows") (h2:¬m="atoms") (h3:¬m="terms"):(zcA tl al rl).lookup m=none:=by
 unfold zcA
 rw[zar,if_neg h1,zar,if_neg h2,zar,if_neg h3]
 all_goals rfl
def Fr1 (H H':Hp) (z:Addr):Prop:=∀ b o,H b=some o→b≠z→H' b=some o
theorem Fr1.of_same {H H':Hp} {z:Addr} (s:ar H H'):Fr1 H H' z:=fun b o e _=>s b o e
theorem Fr1.trans {H H1 H2:Hp} {z:Addr} (a:Fr1 H H1 z) (b:Fr1 H1 H2 z):Fr1 H H2 z:=fun c o e n=>b c o (a c o e n) n
theorem Fr1.keepT {H H':Hp} {z:Addr} {xs:List V} (f:Fr1 H H' z) (h:H z=some (.lst xs)):zak H H':=fun b ys q=>by
 rcases q with q | ⟨o,q⟩
 ·exact .inl (f b _ q (zds q h (fun e=>by cases e)))
 ·exact .inr ⟨o,f b _ q (zds q h (fun e=>by cases e))⟩
structure zaB (K:W.Frag) (C:Addr) (H:Hp) (p tl al rl:Addr) (T:List Tm) (As:List At) (Rs:List (List Int)):Prop where
 ob:∃ dx,H p=some (.ins C dx (zcA tl al rl))
 tm:∃ xs,H tl=some (.lst xs)∧HasL K H (T.map dT) xs
 am:∃ xs,H al=some (.lst xs)∧HasL K H (As.map dA) xs
 rm:∃ xs,H rl=some (.lst xs)∧HasL K H (Rs.map dR) xs
 na:al≠tl
 nr:rl≠tl
 nx:rl≠al
theorem zaB.keep {K:W.Frag} {C:Addr} {H H':Hp} {p tl al rl z:Addr} {T:List Tm} {As:List At} {Rs:List (List Int)} {zs:List V} (h:zaB K C H p tl al rl T As Rs) (f:Fr1 H H' z) (hz:H z=some (.lst zs)) (n1:z≠tl) (n2:z≠al) (n3:z≠rl):zaB K C H' p tl al rl T As Rs:=by
 obtain⟨⟨dx,h1⟩,⟨xs,h2,h3⟩,⟨ys,h4,h5⟩,⟨ws,h6,h7⟩,h8,h9,h10⟩:=h
 exact⟨⟨dx,f _ _ h1 (zds h1 hz (fun e=>by cases e))⟩,⟨xs,f _ _ h2 n1.symm,h3.keep (f.keepT hz) (zbU T)⟩,⟨ys,f _ _ h4 n2.symm,h5.keep (f.keepT hz) (zai zcs As)⟩,⟨ws,f _ _ h6 n3.symm,h7.keep (f.keepT hz) (zai zaX Rs)⟩,h8,h9,h10⟩
theorem zaB.same {K:W.Frag} {C:Addr} {H H':Hp} {p tl al rl:Addr} {T:List Tm} {As:List At} {Rs:List (List Int)} (h:zaB K C H p tl al rl T As Rs) (s:ar H H'):zaB K C H' p tl al rl T As Rs:=by
 obtain⟨⟨dx,h1⟩,⟨xs,h2,h3⟩,⟨ys,h4,h5⟩,⟨ws,h6,h7⟩,h8,h9,h10⟩:=h
 exact⟨⟨dx,s _ _ h1⟩,⟨xs,s _ _ h2,h3.keep (.of_same s) (zbU T)⟩,⟨ys,s _ _ h4,h5.keep (.of_same s) (zai zcs As)⟩,⟨ws,s _ _ h6,h7.keep (.of_same s) (zai zaX Rs)⟩,h8,h9,h10⟩
theorem zaB.setT {K:W.Frag} {C:Addr} {H:Hp} {p tl al rl:Addr} {T T':List Tm} {As:List At} {Rs:List (List Int)} {us:List V} (h:zaB K C H p tl al rl T As Rs) (hs:HasL K (upd H tl (.lst us)) (T'.map dT) us):zaB K C (upd H tl (.lst us)) p tl al rl T' As Rs:=by
 obtain⟨⟨dx,h1⟩,⟨xs,h2,h3⟩,⟨ys,h4,h5⟩,⟨ws,h6,h7⟩,h8,h9,h10⟩:=h
 have kt:zak H (upd H tl (.lst us)):=zak.lst h2
 exact⟨⟨dx,by rw[aq (zds h1 h2 (fun e=>by cases e))];exact h1⟩,⟨us,ad,hs⟩,⟨ys,by rw[aq h8];exact h4,h5.keep kt (zai zcs As)⟩,⟨ws,by rw[aq h9];exact h6,h7.keep kt (zai zaX Rs)⟩,h8,h9,h10⟩
theorem zaB.setA {K:W.Frag} {C:Addr} {H:Hp} {p tl al rl:Addr} {T:List Tm} {As As':List At} {Rs:List (List Int)} {us:List V} (h:zaB K C H p tl al rl T As Rs) (hs:HasL K (upd H al (.lst us)) (As'.map dA) us):zaB K C (upd H al (.lst us)) p tl al rl T As' Rs:=by
 obtain⟨⟨dx,h1⟩,⟨xs,h2,h3⟩,⟨ys,h4,h5⟩,⟨ws,h6,h7⟩,h8,h9,h10⟩:=h
 have kt:zak H (upd H al (.lst us)):=zak.lst h4
 exact⟨⟨dx,by rw[aq (zds h1 h4 (fun e=>by cases e))];exact h1⟩,⟨xs,by rw[aq h8.symm];exact h2,h3.keep kt (zbU T)⟩,⟨us,ad,hs⟩,⟨ws,by rw[aq h10];exact h6,h7.keep kt (zai zaX Rs)⟩,h8,h9,h10⟩
theorem zaB.setR {K:W.Frag} {C:Addr} {H:Hp} {p tl al rl:Addr} {T:List Tm} {As:List At} {Rs Rs':List (List Int)} {us:List V} (h:zaB K C H p tl al rl T As Rs) (hs:HasL K (upd H rl (.lst us)) (Rs'.map dR) us):zaB K C (upd H rl (.lst us)) p tl al rl T As Rs':=by
 obtain⟨⟨dx,h1⟩,⟨xs,h2,h3⟩,⟨ys,h4,h5⟩,⟨ws,h6,h7⟩,h8,h9,h10⟩:=h
 have kt:zak H (upd H rl (.lst us)):=zak.lst h6
 exact⟨⟨dx,by rw[aq (zds h1 h6 (fun e=>by cases e))];exact h1⟩,⟨xs,by rw[aq h9.symm];exact h2,h3.keep kt (zbU T)⟩,⟨ys,by rw[aq h10.symm];exact h4,h5.keep kt (zai zcs As)⟩,⟨us,ad,hs⟩,h8,h9,h10⟩
def SqI (K:W.Frag) (H:Hp) (q:Addr) (ps:List Int):Prop:=SqL K H q (ps.map V.int)∨SqT K H q (ps.map V.int)
theorem SqI.same {K:W.Frag} {H H':Hp} {q:Addr} {ps:List Int} (h:SqI K H q ps) (s:ar H H'):SqI K H' q ps:=h.elim (fun z=>.inl (s.seq z)) fun z=>.inr ((zak.of_same s).sq z)
def Low (z:Str):Prop:=z.length≤100∧∀ c∈z.cps.toList,c < 1000
theorem Low.repr {z:Str} (h:Low z):(reprText z).length≤1002:=by
 have:=StrLaws.reprText_len z fun c hc=>Nat.lt_of_lt_of_le (h.2 c hc) (by decide)
 have:=h.1
 omega
def zhX:Sp:=fun vs H Q _=>∃ z:Str,vs=[.str z]∧z.length≤1000∧∀ H',ar H H'→Q (.bl (zfO z)) H'
def zhY:Sp:=fun vs H Q _=>∃ z:Str,vs=[.str z]∧z.length≤1000∧∀ H',ar H H'→Q (.bl (za9 z)) H'
def zeV (CN:Addr):Sp:=fun vs H Q E=>∃ z:Str,vs=[.str z]∧Low z∧if za9 z=true then ∀ H',ar H H'→Q .non H' else ∀ H',ar H H'→E (.ref CN) none H'
def zdy (K:W.Frag) (CM:Addr):Sp:=fun vs H Q E=>∃(a tl:Addr) (m:Int) (xs:List V) (ds:List Dt) (d:Dt),vs=[.ref a,.ref tl,.int m]∧Has K H d (.ref a)∧H tl=some (.lst xs)∧HasL K H ds xs∧zau ds≤50∧ds.length≤1000∧0≤m∧m≤1000 ∧
 if(ds.any fun e=>peq e d)=true then ∀ H',ar H H'→Q (.int ((ds.findIdx fun e=>peq e d):Nat)) H' else if m≤(ds.length:Int) then ∀ H',ar H H'→E (.ref CM) none H' else Q (.int (ds.length:Nat)) (upd H tl (.lst (xs++[.ref a])))
def zjT (C:Addr):Sp:=fun vs H Q _=>∃(p dx:Addr),vs=[.ref p]∧H p=some (.ins C dx [])∧∀(tl al rl:Addr) (H':Hp),H tl=none→H al=none→H rl=none→al≠tl→rl≠tl→rl≠al→H' p=some (.ins C dx (zcA tl al rl))→H' tl=some (.lst [])→H' al=some (.lst [])→H' rl=some (.lst []) →
 (∀ b o,H b=some o→b≠p→H' b=some o)→Q .non H'
def zeU (K:W.Frag) (C CT:Addr):Sp:=fun vs H Q E=>∃(p tl al rl:Addr) (T:List Tm) (As:List At) (Rs:List (List Int)) (n:Int),vs=[.ref p,.int n]∧zaB K C H p tl al rl T As Rs∧-1000≤n∧n≤1000 ∧
 if n < 0∨(T.length:Int)≤n then ∀ H',ar H H'→E (.ref CT) none H' else Q .non H
def zaf (m:Nat) (n:Int):Bool:=decide (n=0)||decide ((m:Int) < n)||decide (n < -(m:Int))
def zgV (K:W.Frag) (C CP:Addr):Sp:=fun vs H Q E=>∃(p tl al rl:Addr) (T:List Tm) (As:List At) (Rs:List (List Int)) (n:Int),vs=[.ref p,.int n]∧zaB K C H p tl al rl T As Rs∧-1000≤n∧n≤1000 ∧
 if zaf As.length n=true then ∀ H',ar H H'→E (.ref CP) none H' else Q .non H
theorem za3 {H:Hp} {p:Addr} (h:H p=none) (o:HO):ar H (upd H p o):=fun b u q=>by rw[aq (zag q h)];exact q
abbrev bmV:List Value:=[.type "ValueError",.type "Exception",.type "BaseException",.type "object"]
structure Txt (K:W.Frag) (mg:Str→Option Value) (aK C CN CT CP CM:Addr):Prop where
 small:∃ t,mg "SMALL_LETTERS"=some (.str abc t)
 longest:∃ t,mg "LONGEST_NAME"=some (.int 8 t)
 parts:∃ t,mg "MOST_TERM_PARTS"=some (.int 3 t)
 terms:∃ t,mg "MOST_TERMS"=some (.int 60 t)
 atoms:∃ t,mg "MOST_ATOMS"=some (.int 40 t)
 rparts:∃ t,mg "MOST_ROW_PARTS"=some (.int 20 t)
 rows:∃ t,mg "MOST_ROWS"=some (.int 200 t)
 kept:mg "KEPT_WORDS"=some (.ref aK)
 tup:∀ H,SqT K H aK zdT
 len:mg "len"=none
 all:mg "all"=none
 range:mg "range"=none
 isi:mg "isinstance"=none
 bool:mg "bool"=none
 tuple:mg "tuple"=none
 abs:mg "abs"=none
 bname:mg "BadName"=some (.ref CN)
 bterm:mg "BadTerm"=some (.ref CT)
 bpart:mg "BadPart"=some (.ref CP)
 bmany:mg "TooMany"=some (.ref CM)
 xname:W.excIn K CN bmV "ValueError.__new__"=true
 xterm:W.excIn K CT bmV "ValueError.__new__"=true
 xpart:W.excIn K CP bmV "ValueError.__new__"=true
 xmany:W.excIn K CM bmV "ValueError.__new__"=true
 cl:Cls K C
 nT:zbP K C "terms"
 nA:zbP K C "atoms"
 nR:zbP K C "rows"
section
variable {P:Program} {w:World} {K:W.Frag} {mg:Str→Option Value} {base:Heap} {aK C CN CT CP CM:Addr}
theorem Fun.okX {x qual:Str} {st:Stmt} {f:Addr} {fd:FuncData} {N ps:List Str} {k:Nat} {sp:Sp} (F:Fun K x qual st f fd) (S:zae N ps (ao st)) (len:∀ vs H Q E,sp vs H Q E→vs.length=ps.length)
  (hbody:∀(cdv:Value) (A:Around) (outer:List Env) (s:Shared) (H:Hp) (vs:List V) (Q:VK) (E:XK),aE k (A.deeper (PyProof.Rows.envOfC qual (ao st) s.heap.objs.size f cdv))→sp vs H Q E →
   ∃ t,PSs (zbT (CX1 P w) P w K mg base N qual (ao st) f cdv A outer s H E) (zaO st) t∧t { nx:=fun _ H'=>Q .non H',rt:=Q } (zdr N vs) H):FnOk P w K mg base (CX1 P w) (k+1) f fd ps sp:=by
 obtain⟨oc,od,kV,doc,pm,an,cdv,ct,osl,rfl,lk,hcd⟩:=F.ex
 exact fn_of lk hcd S len fun A outer s H vs Q E hr hsp=>hbody cdv A outer s H vs Q E hr hsp
theorem xe1 {N:List Str} {qual:Str} {scope:Scope} {f:Addr} {cd:Value} {A:Around} {outer:List Env} {s:Shared} {H:Hp} {E:XK}:Xe1 (zbT (CX1 P w) P w K mg base N qual scope f cd A outer s H E) E:=⟨rfl,rfl,rfl,rfl⟩
theorem zem {k:Nat} {A:Around} (hr:aE k A):A.units+64 < cLine:=hr.units
theorem scIW:zae ["text"] ["text"] (ao zgj):=⟨rfl,rfl,rfl,by decide +kernel,rfl,by decide +kernel,by decide +kernel⟩
theorem zkD {f:Addr} {fd:FuncData} (F:Fun K "is_word" "is_word" zgj f fd) (T:Txt K mg aK C CN CT CP CM):FnOk P w K mg base CX0 1 f fd ["text"] zhX:=by
 obtain⟨t1,e1⟩:=T.small
 refine F.ok scIW (fun vs H Q E h=>?_) (fun cdv A outer s H vs Q E hr h=>?_)
 ·obtain⟨z,rfl,_⟩:=h
  rfl
 obtain⟨z,rfl,hz,q⟩:=h
 refine⟨_,aj (ax (zfU (zbb zcU (zap zdR rfl T.len PySem.boot_len (aa (pv 0) ac)) ag (ay _))
  (zeK (zap (zgN rfl) rfl T.all PyProof.Rows.Boot.all (aa
   (pe_lc (N':=["letter"]) (ix:=[]) rfl rfl (by decide +kernel) (by decide +kernel) rfl (fun _=>⟨[],zlw (by decide +kernel) (by decide +kernel)⟩) (by decide +kernel) rfl rfl (fun j i h=>by simp at h)
    (zj1 (pv 0)) (fun cl fp s₃ H₃=>zbb zkA (pv 0) (zba (v:=.str abc) rfl e1 ⟨_,rfl⟩) rfl)) ac))))),?_⟩
 refine⟨_,rfl,z,rfl,sz _ hz,_,_,rfl,rfl,_,rfl,?_⟩
 refine aI (fun c=>?_) (fun c=>?_)
 ·have c':(0:Int) < (z.length:Int):=of_decide_eq_true c
  refine⟨_,rfl,z,rfl,fun D hD=>⟨fun i m ys H'=>m=z.length - i∧i≤z.length∧ys=((zdk z).take i).map V.bl∧H'=upd H D (.lst ys),⟨z.length,rfl,Nat.zero_le _,rfl,rfl⟩,?_⟩⟩
  rintro i m ys H' ⟨rfl,hi,rfl,rfl⟩
  refine⟨ad,?_⟩
  by_cases hlt:i < z.length
  ·refine .inr ⟨hlt,fun x H'' y=>?_⟩
   obtain⟨rfl,ch,hch,rfl⟩:=y
   have et:=zk1 hch
   refine⟨_,rfl,_,_,rfl,rfl,ad,?_,z.length - (i+1),by omega,rfl,hlt,?_,ziK⟩
   ·rw[List.length_map,List.length_take,zie]
    exact Nat.lt_of_le_of_lt (Nat.le_trans (Nat.min_le_right _ _) hz) (by decide)
   ·rw[et,List.map_append]
    rfl
  ·have hi':i=z.length:=by omega
   subst hi'
   refine .inl ⟨Nat.le_refl _,D,zdk z,rfl,SqL.of (by rw[ad,List.take_of_length_le (by rw[zie];exact Nat.le_refl _)]),?_⟩
   have:=q _ (za3 hD (.lst (((zdk z).take z.length).map V.bl)))
   unfold zfO at this
   rw[c,Bool.true_and]at this
   exact this
 ·have:=q H (ar.refl H)
  unfold zfO at this
  rw[Bool.eq_false_iff.mpr c,Bool.false_and]at this
  exact this
theorem scIN:zae ["word"] ["word"] (ao zgk):=⟨rfl,rfl,rfl,by decide +kernel,rfl,by decide +kernel,by decide +kernel⟩
theorem zkE {f g:Addr} {fd gd:FuncData} (F:Fun K "is_name" "is_name" zgk f fd) (T:Txt K mg aK C CN CT CP CM) (G:FnOk P w K mg base CX0 1 g gd ["text"] zhX) (bG:av K gd ["text"] []) (kG:W.keepIn K (.ref g)=true) (mG:mg "is_word"=some (.ref g)) :
  FnOk P w K mg base CX0 2 f fd ["word"] zhY:=by
 obtain⟨t2,e2⟩:=T.longest
 refine F.ok scIN (fun vs H Q E h=>?_) (fun cdv A outer s H vs Q E hr h=>?_)
 ·obtain⟨z,rfl,_⟩:=h
  rfl
 obtain⟨z,rfl,hz,q⟩:=h
 refine⟨_,aj (ax (zfU (zaa G hr rfl mG kG bG .nil zal (aa (pv 0) ac)) (zfU (zbb op_le (zap zdR rfl T.len PySem.boot_len (aa (pv 0) ac)) (zba (v:=.int 8) rfl e2 ⟨_,rfl⟩) (ay _))
  (zeK (zbb ziu (pv 0) (zba (v:=.ref aK) rfl T.kept rfl) rfl))))),?_⟩
 refine⟨_,rfl,z,rfl,hz,fun H1 s1=>⟨_,rfl,?_⟩⟩
 refine aI (fun c=>?_) (fun c=>?_)
 ·refine⟨_,rfl,z,rfl,sz _ hz,_,_,rfl,rfl,_,rfl,?_⟩
  refine aI (fun c2=>?_) (fun c2=>?_)
  ·refine⟨_,rfl,aK,zdT,rfl,.inr (T.tup H1),rfl,zjI,?_⟩
   have:=q H1 s1
   unfold za9 at this
   rw[c,c2,Bool.true_and,Bool.true_and]at this
   exact this
  ·have:=q H1 s1
   unfold za9 at this
   rw[c,Bool.eq_false_iff.mpr c2,Bool.true_and,Bool.false_and]at this
   exact this
 ·have:=q H1 s1
  unfold za9 at this
  rw[Bool.eq_false_iff.mpr c,Bool.false_and]at this
  exact this
theorem scAN:zae ["word"] ["word"] (ao zfB):=⟨rfl,rfl,rfl,by decide +kernel,rfl,by decide +kernel,by decide +kernel⟩
theorem zjB {f g:Addr} {fd gd:FuncData} (F:Fun K "ask_name" "ask_name" zfB f fd) (T:Txt K mg aK C CN CT CP CM) (G:FnOk P w K mg base CX0 2 g gd ["word"] zhY) (bG:av K gd ["word"] []) (kG:W.keepIn K (.ref g)=true) (mG:mg "is_name"=some (.ref g)) :
  FnOk P w K mg base (CX1 P w) 3 f fd ["word"] (zeV CN):=by
 refine Fun.okX F scAN (fun vs H Q E h=>?_) (fun cdv A outer s H vs Q E hr h=>?_)
 ·obtain⟨z,rfl,_⟩:=h
  rfl
 obtain⟨z,rfl,lo,h⟩:=h
 refine⟨_,aj (zao (zeJ (zeI (zaa G hr rfl mG kG bG .nil zal (aa (pv 0) ac))))
  (aj (zcD (C:=CN) xe1 rfl rfl T.bname PySem.F.excBase_ValueError T.xname (aa (zcd (zaU (pe_fvr (pv 0)) (zaU zab zdG))) ac))) zad),?_⟩
 refine⟨_,rfl,z,rfl,Nat.le_trans lo.1 (by decide),fun H1 s1=>⟨_,rfl,?_⟩⟩
 have hre:=lo.repr
 cases e:za9 z with
 | true =>
  rw[e]at h
  exact zbM (h H1 s1)
 | false =>
  rw[e,if_neg (by decide)]at h
  refine zcq ?_
  refine⟨_,rfl,z,rfl,Nat.le_trans hre (by decide),_,rfl,?_,_,rfl,?_,?_,(by show 1≤sizeLine;decide),h H1 s1⟩
  ·rw[zaK]
   exact Nat.le_trans (Nat.add_le_add_left hre _) (by decide +kernel)
  ·rw[zaK,zaK]
   exact Nat.le_trans (Nat.add_le_add_right (Nat.add_le_add_left hre _) _) (by decide +kernel)
  ·rw[zaK,zaK]
   exact Nat.le_trans (Nat.add_le_add_right (Nat.add_le_add_left hre _) _) (by decide +kernel)
theorem scPl:zae ["thing","things","most"] ["thing","things","most"] (ao zhv):=⟨rfl,rfl,rfl,by decide +kernel,rfl,by decide +kernel,by decide +kernel⟩
theorem zgr {n:Int} (h1:-1000≤n) (h2:n≤1000):n.natAbs.log2 < 1920∧((toString n:String):Str).length≤1002:=by
 have hb:n.natAbs≤1000:=by omega
 refine⟨?_,?_⟩
 ·by_cases h0:n.natAbs=0
  ·rw[h0]
   decide
  ·have:=(Nat.log2_lt h0 (k:=1920)).mpr (Nat.lt_of_le_of_lt hb (by decide +kernel))
   exact this
 ·have:=PyProof.Rows.len_str_of_int n
  omega
theorem zli {f:Addr} {fd:FuncData} (F:Fun K "place_of" "place_of" zhv f fd) (T:Txt K mg aK C CN CT CP CM):FnOk P w K mg base (CX1 P w) 1 f fd ["thing","things","most"] (zdy K CM):=by
 refine Fun.okX F scPl (fun vs H Q E h=>?_) (fun cdv A outer s H vs Q E hr h=>?_)
 ·obtain⟨a,tl,m,xs,ds,d,rfl,_⟩:=h
  rfl
 obtain⟨a,tl,m,xs,ds,d,rfl,ht,hl,hs,hd,hn,m0,m1,h⟩:=h
 have hu:=zem hr
 have hlen:xs.length=ds.length:=hs.length.symm
 obtain⟨hlog,hsl⟩:=zgr (n:=m) (by omega) m1
 refine⟨_,ae (zao (aw (zj6 hu) (pv 0) (pv 1) rfl) (aj (ax (zbB PySem.F.plainAttrs_list PySem.F.slot_list_index PySem.F.type_list_index (zcR hu) (pv 1) (aa (pv 0) ac)))) zad)
  (ae (zao (aw zjn (zap zan rfl T.len PySem.boot_len (aa (pv 1) ac)) (pv 2) (ay _))
   (aj (zcD (C:=CM) xe1 rfl rfl T.bmany PySem.F.excBase_ValueError T.xmany (aa (zcd (zaU zab (zaU (zeo (pv 2)) (zaU zab zdG)))) ac))) zad)
  (ae (zaI (zbB PySem.F.plainAttrs_list PySem.F.slot_list_append PySem.F.type_list_append zaS (pv 1) (aa (pv 0) ac)))
  (aj (ax (au zcc (zap zan rfl T.len PySem.boot_len (aa (pv 1) ac)) ag))))),?_⟩
 refine⟨_,rfl,_,rfl,tl,xs,ds,d,rfl,.inl (SqL.of hl),hs,ht,Nat.le_trans hd (by decide),_,rfl,?_⟩
 refine aI (fun c=>?_) (fun c=>?_)
 ·have c':(ds.any fun e=>peq e d)=true:=c
  rw[if_pos c']at h
  have hlt:(ds.findIdx fun e=>peq e d) < ds.length:=List.findIdx_lt_length_of_exists (by simpa using c')
  refine⟨_,rfl,.inl ⟨rfl,_,SqL.of hl⟩,_,rfl,tl,xs,ds,_,d,ds.findIdx (fun e=>peq e d),rfl,rfl,hl,hs,ht,Nat.le_trans hd (by decide),⟨_,List.getElem?_eq_getElem hlt,List.findIdx_getElem (w:=hlt)⟩,fun j dj h1 h2=>?_,h H (ar.refl H)⟩
  obtain⟨h3,h4⟩:=List.getElem?_eq_some_iff.mp h2
  have z:=List.not_of_lt_findIdx (p:=fun e=>peq e d) h1
  rw[h4]at z
  cases e:peq dj d with
  | false=>rfl
  | true=>rw[e]at z;cases z
 ·have c':¬(ds.any fun e=>peq e d)=true:=c
  rw[if_neg c']at h
  refine⟨_,rfl,tl,xs,rfl,.inl (SqL.of hl),_,rfl,_,_,rfl,rfl,_,rfl,aI (fun c2=>?_) (fun c2=>?_)⟩
  ·have c3:m≤((xs.length:Nat):Int):=of_decide_eq_true c2
   rw[hlen]at c3
   rw[if_pos c3]at h
   refine⟨_,rfl,by decide +kernel,_,rfl,.inr ⟨m,rfl,hlog,_,rfl,?_,_,rfl,?_,?_,(by show 1≤sizeLine;decide),h H (ar.refl H)⟩⟩
   all_goals
    simp only[zaK]
    first
     | exact Nat.le_trans (Nat.add_le_add_left hsl _) (by decide +kernel)
     | exact Nat.le_trans (Nat.add_le_add_right (Nat.add_le_add_left hsl _) _) (by decide +kernel)
  ·have c3:¬m≤((xs.length:Nat):Int):=fun z=>c2 (decide_eq_true z)
   rw[hlen]at c3
   rw[if_neg c3]at h
   refine⟨_,rfl,.inl ⟨rfl,_,SqL.of hl⟩,_,rfl,tl,xs,_,rfl,rfl,hl,Nat.lt_of_le_of_lt (by rw[hlen];exact hn) (by decide),?_⟩
   refine⟨_,rfl,tl,_,rfl,.inl (SqL.of ad),_,_,rfl,rfl,?_⟩
   have e:(((xs++[V.ref a]).length:Nat):Int) - 1=(ds.length:Nat):=by rw[List.length_append,hlen];simp
   show Q (.int ((((xs++[V.ref a]).length:Nat):Int) - 1)) _
   rw[e]
   exact h
theorem scI:zae ["self"] ["self"] (ao zjl):=⟨rfl,rfl,rfl,by decide +kernel,rfl,by decide +kernel,by decide +kernel⟩
theorem zl6 {f:Addr} {fd:FuncData} (F:Fun K "__init__" "Problem.__init__" zjl f fd) (T:Txt K mg aK C CN CT CP CM):FnOk P w K mg base CX0 1 f fd ["self"] (zjT C):=by
 refine F.ok scI (fun vs H Q E h=>?_) (fun cdv A outer s H vs Q E hr h=>?_)
 ·obtain⟨p,dx,rfl,_⟩:=h
  rfl
 obtain⟨p,dx,rfl,hp,k⟩:=h
 refine⟨_,ae (zea (pv 0) (zam ac) rfl) (ae (zea (pv 0) (zam ac) rfl) (aj (zea (pv 0) (zam ac) rfl))),?_⟩
 refine⟨lS0,fun tl ht=>?_⟩
 have n1:p≠tl:=zag hp ht
 refine⟨_,rfl,p,C,dx,[],rfl,(by rw[aq n1];exact hp),T.cl,T.nT,(by show 0 < 1000;decide),?_⟩
 refine⟨lS0,fun al ha=>?_⟩
 have a1:al≠p:=fun z=>by rw[z,ad]at ha;cases ha
 have a2:al≠tl:=fun z=>by rw[z,aq n1.symm,ad]at ha;cases ha
 have a0:H al=none:=by rw[aq a1,aq a2]at ha;exact ha
 refine⟨_,rfl,p,C,dx,_,rfl,(by rw[aq a1.symm,ad]),T.cl,T.nA,(by show 1 < 1000;decide),?_⟩
 refine⟨lS0,fun rl hrl=>?_⟩
 have r1:rl≠p:=fun z=>by rw[z,ad]at hrl;cases hrl
 have r2:rl≠al:=fun z=>by rw[z,aq a1,ad]at hrl;cases hrl
 have r3:rl≠tl:=fun z=>by rw[z,aq n1.symm,aq a2.symm,aq n1.symm,ad]at hrl;cases hrl
 have r0:H rl=none:=by rw[aq r1,aq r2,aq r1,aq r3]at hrl;exact hrl
 refine⟨_,rfl,p,C,dx,_,rfl,(by rw[aq r1.symm,ad]),T.cl,T.nR,(by show 2 < 1000;decide),?_⟩
 refine k tl al rl _ ht a0 r0 a2 r3 r2 ad ?_ ?_ ?_ fun b o e hb=>?_
 ·rw[aq n1.symm,aq r3.symm,aq n1.symm,aq a2.symm,aq n1.symm,ad]
 ·rw[aq a1,aq r2.symm,aq a1,ad]
 ·rw[aq r1,ad]
 ·rw[aq hb,aq (zag e r0),aq hb,aq (zag e a0),aq hb,aq (zag e ht)]
  exact e
theorem scAT:zae ["self","number"] ["self","number"] (ao zfz):=⟨rfl,rfl,rfl,by decide +kernel,rfl,by decide +kernel,by decide +kernel⟩
theorem zjz {f:Addr} {fd:FuncData} (F:Fun K "ask_term" "Problem.ask_term" zfz f fd) (T:Txt K mg aK C CN CT CP CM):FnOk P w K mg base (CX1 P w) 1 f fd ["self","number"] (zeU K C CT):=by
 refine Fun.okX F scAT (fun vs H Q E h=>?_) (fun cdv A outer s H vs Q E hr h=>?_)
 ·obtain⟨p,tl,al,rl,T,As,Rs,n,rfl,_⟩:=h
  rfl
 obtain⟨p,tl,al,rl,T',As,Rs,n,rfl,S,h1,h2,h⟩:=h
 obtain⟨⟨dx,ho⟩,⟨xs,hl,hs⟩,_⟩:=id S
 have hlen:xs.length=T'.length:=by rw[←hs.length,List.length_map]
 obtain⟨hlog,hsl⟩:=zgr h1 h2
 refine⟨_,aj (zao (PW.pt (zhp (aw zjm (pv 1) ag (ay _)) (zfR (aw zjn (pv 1) (zap zan rfl T.len PySem.boot_len (aa (zaR (pv 0) rfl) ac)) (ay _)))))
  (aj (zcD (C:=CT) xe1 rfl rfl T.bterm PySem.F.excBase_ValueError T.xterm (aa (zcd (zaU (zeo (pv 1)) (zaU zab zdG))) ac))) zad),?_⟩
 refine⟨_,rfl,_,_,rfl,rfl,_,rfl,aI (fun c=>zcq ?_) (fun c=>⟨_,rfl,_,rfl,p,C,dx,_,_,rfl,ho,T.cl,T.nT,zdx _ _ _,tl,xs,rfl,.inl (SqL.of hl),_,_,rfl,rfl,_,rfl,aI (fun c2=>?_) (fun c2=>?_)⟩)⟩
 rotate_left 2
 ·have c':¬n < 0:=fun z=>c (decide_eq_true z)
  have c2':¬((xs.length:Nat):Int)≤n:=fun z=>c2 (decide_eq_true z)
  rw[hlen]at c2'
  rw[if_neg (by omega)]at h
  exact h
 all_goals
  have hcond:n < 0∨(T'.length:Int)≤n:=by
   first
    | exact .inl (of_decide_eq_true c)
    | exact .inr (by have z:((xs.length:Nat):Int)≤n:=of_decide_eq_true c2;rw[hlen]at z;exact z)
  rw[if_pos hcond]at h
  refine⟨_,rfl,.inr ⟨n,rfl,hlog,_,rfl,?_,_,rfl,?_,?_,(by show 1≤sizeLine;decide),h H (ar.refl H)⟩⟩
  ·rw[zaK]
   exact Nat.le_trans (Nat.add_le_add_left hsl _) (by decide +kernel)
  ·rw[zaK,zaK]
   exact Nat.le_trans (Nat.add_le_add_right (Nat.add_le_add_left hsl _) _) (by decide +kernel)
  ·rw[zaK,zaK]
   exact Nat.le_trans (Nat.add_le_add_right (Nat.add_le_add_left hsl _) _) (by decide +kernel)
theorem scAP:zae ["self","part"] ["self","part"] (ao zfA):=⟨rfl,rfl,rfl,by decide +kernel,rfl,by decide +kernel,by decide +kernel⟩
theorem zjA {f:Addr} {fd:FuncData} (F:Fun K "ask_part" "Problem.ask_part" zfA f fd) (T:Txt K mg aK C CN CT CP CM):FnOk P w K mg base (CX1 P w) 1 f fd ["self","part"] (zgV K C CP):=by
 refine Fun.okX F scAP (fun vs H Q E h=>?_) (fun cdv A outer s H vs Q E hr h=>?_)
 ·obtain⟨p,tl,al,rl,T,As,Rs,n,rfl,_⟩:=h
  rfl
 obtain⟨p,tl,al,rl,T',As,Rs,n,rfl,S,h1,h2,h⟩:=h
 obtain⟨⟨dx,ho⟩,_,⟨xs,hl,hs⟩,_⟩:=id S
 have hlen:xs.length=As.length:=by rw[←hs.length,List.length_map]
 obtain⟨hlog,hsl⟩:=zgr h1 h2
 refine⟨_,aj (zao (PW.pt (zhp (aw zav (pv 1) ag (ay _)) (zfR (aw zcU (zap zeB rfl T.abs PyProof.Rows.Boot.abs (aa (pv 1) ac)) (zap zan rfl T.len PySem.boot_len (aa (zaR (pv 0) rfl) ac)) (ay _)))))
  (aj (zcD (C:=CP) xe1 rfl rfl T.bpart PySem.F.excBase_ValueError T.xpart (aa (zcd (zaU (zeo (pv 1)) (zaU zab zdG))) ac))) zad),?_⟩
 refine⟨_,rfl,rfl,_,rfl,aI (fun c=>zcq ?_) (fun c=>⟨_,rfl,n,rfl,_,rfl,p,C,dx,_,_,rfl,ho,T.cl,T.nA,zcl _ _ _,al,xs,rfl,.inl (SqL.of hl),_,_,rfl,rfl,_,rfl,aI (fun c2=>?_) (fun c2=>?_)⟩)⟩
 rotate_left 2
 ·have c':¬n=0:=fun z=>c (decide_eq_true (by rw[z]))
  have c2':¬((xs.length:Nat):Int) < (if n < 0 then -n else n):=fun z=>c2 (decide_eq_true z)
  rw[hlen]at c2'
  have hb:zaf As.length n=false:=by
   unfold zaf
   have a1:¬((As.length:Nat):Int) < n:=by split at c2' <;> omega
   have a2:¬n < -((As.length:Nat):Int):=by split at c2' <;> omega
   rw[decide_eq_false c',decide_eq_false a1,decide_eq_false a2]
   rfl
  rw[if_neg (by rw[hb];decide)]at h
  exact h
 all_goals
  have hb:zaf As.length n=true:=by
   unfold zaf
   first
    | (have c':V.int n=V.int 0:=of_decide_eq_true c
       have c2':n=0:=by injection c'
       rw[decide_eq_true c2'];rfl)
    | (have z:((xs.length:Nat):Int) < (if n < 0 then -n else n):=of_decide_eq_true c2
       rw[hlen]at z
       split at z
       ·rw[decide_eq_true (show n < -((As.length:Nat):Int) by omega),Bool.or_true]
       ·rw[decide_eq_true (show((As.length:Nat):Int) < n by omega),Bool.or_true,Bool.true_or])
  rw[if_pos hb]at h
  refine⟨_,rfl,.inr ⟨n,rfl,hlog,_,rfl,?_,_,rfl,?_,?_,(by show 1≤sizeLine;decide),h H (ar.refl H)⟩⟩
  ·rw[zaK]
   exact Nat.le_trans (Nat.add_le_add_left hsl _) (by decide +kernel)
  ·rw[zaK,zaK]
   exact Nat.le_trans (Nat.add_le_add_right (Nat.add_le_add_left hsl _) _) (by decide +kernel)
  ·rw[zaK,zaK]
   exact Nat.le_trans (Nat.add_le_add_right (Nat.add_le_add_left hsl _) _) (by decide +kernel)
end
end K75
namespace K75
open PySem L2
def Fr2 (H H':Hp) (z y:Addr):Prop:=∀ b o,H b=some o→b≠z→b≠y→H' b=some o
theorem Fr2.of1 {H H':Hp} {z y:Addr} (f:Fr1 H H' z):Fr2 H H' z y:=fun b o e n _=>f b o e n
theorem Fr2.of_same {H H':Hp} {z y:Addr} (s:ar H H'):Fr2 H H' z y:=fun b o e _ _=>s b o e
theorem Fr2.trans {H H1 H2:Hp} {z y:Addr} (a:Fr2 H H1 z y) (b:Fr2 H1 H2 z y):Fr2 H H2 z y:=fun c o e n m=>b c o (a c o e n m) n m
def zc2 (As:List At) (z:Str):Out × List At :=
 if za9 z=false then(.name,As) else if .plain z∈As then(.num (As.idxOf (.plain z)+1),As) else if 40≤As.length then(.many,As) else(.num (As.length+1),As++[.plain z])
def addS (n:Nat) (As:List At) (a b:Int):Out × List At :=
 if a < 0∨(n:Int)≤a∨b < 0∨(n:Int)≤b then(.term,As) else if .same b a∈As then(.num (As.idxOf (.same b a)+1),As) else if .same a b∈As then(.num (As.idxOf (.same a b)+1),As) else if 40≤As.length then(.many,As) else(.num (As.length+1),As++[.same a b])
def aH:List Int→List Int→List Int
 | acc,[]=>acc
 | acc,p :: ps=>aH (if p∈acc then acc else acc++[p]) ps
def zdE (m:Nat) (Rs:List (List Int)) (ps:List Int):Out × List (List Int) :=
 if ps.any (zaf m)=true then(.part,Rs) else if 20 < ps.length then(.many,Rs) else if 200≤Rs.length then(.many,Rs) else(.num Rs.length,Rs++[aH [] ps])
def Told (K:W.Frag) (C CN CT CP CM:Addr) (H:Hp) (p tl al rl:Addr) (T:List Tm) (As:List At) (Rs:List (List Int)) (Q:VK) (E:XK):Out→Prop
 | .num k=>∀ H',zaB K C H' p tl al rl T As Rs→Fr2 H H' al rl→Q (.int (k:Nat)) H'
 | .name=>∀ H',ar H H'→E (.ref CN) none H'
 | .term=>∀ H',ar H H'→E (.ref CT) none H'
 | .part=>∀ H',ar H H'→E (.ref CP) none H'
 | .many=>∀ H',ar H H'→E (.ref CM) none H'
def ziN (K:W.Frag) (C CN CT CP CM:Addr):Sp:=fun vs H Q E=>∃(p tl al rl:Addr) (T:List Tm) (As:List At) (Rs:List (List Int)) (z:Str),vs=[.ref p,.str z]∧zaB K C H p tl al rl T As Rs∧Low z∧As.length≤1000 ∧
 Told K C CN CT CP CM H p tl al rl T (zc2 As z).2 Rs Q E (zc2 As z).1
def zhs (K:W.Frag) (C CN CT CP CM:Addr):Sp:=fun vs H Q E=>∃(p tl al rl:Addr) (T:List Tm) (As:List At) (Rs:List (List Int)) (a b:Int),vs=[.ref p,.int a,.int b]∧zaB K C H p tl al rl T As Rs∧(-1000≤a∧a≤1000)∧(-1000≤b∧b≤1000)∧As.length≤1000 ∧
 Told K C CN CT CP CM H p tl al rl T (addS T.length As a b).2 Rs Q E (addS T.length As a b).1
def spRow (K:W.Frag) (C CN CT CP CM:Addr):Sp:=fun vs H Q E=>∃(p tl al rl q:Addr) (T:List Tm) (As:List At) (Rs:List (List Int)) (ps:List Int),vs=[.ref p,.ref q]∧zaB K C H p tl al rl T As Rs∧SqI K H q ps∧ps.length≤1000∧(∀ i∈ps,-1000≤i∧i≤1000)∧Rs.length≤1000 ∧
 Told K C CN CT CP CM H p tl al rl T As (zdE As.length Rs ps).2 Q E (zdE As.length Rs ps).1
def zjS (K:W.Frag):Sp:=fun vs H Q _=>∃(q:Addr) (ps:List Int),vs=[.ref q]∧SqI K H q ps∧ps.length≤1000∧∀(H':Hp) (l:Addr),ar H H'→H' l=some (.tup ((aH [] ps).map V.int))→Q (.ref l) H'
theorem zlV (a b:Int):peq (.int a) (.int b)=decide (a=b):=by
 simp only[peq]
 rfl
theorem q1 {Q:VK} {n:Nat} {H:Hp} (h:Q (.int ((n+1:Nat):Int)) H):Q (.int (((n:Nat):Int)+1)) H:=h
theorem zfG:∀(ps acc:List Int),(aH acc ps).length≤acc.length+ps.length
 | [],acc=>by simp [aH]
 | p :: ps,acc=>by
  unfold aH
  have h:=zfG ps (if p∈acc then acc else acc++[p])
  split at h <;> simp only[List.length_append,List.length_cons,List.length_singleton,List.length_nil]at h ⊢ <;> split <;> simp_all <;> omega
theorem zg1 {ps:List Int} {i:Nat} {k:Int}:∀ {acc:List Int},ps[i]?=some k→aH acc (ps.take (i+1))=if k∈aH acc (ps.take i) then aH acc (ps.take i) else aH acc (ps.take i)++[k]:=by
 induction ps generalizing i with
 | nil=>intro acc h;simp at h
 | cons p ps ih =>
  intro acc h
  cases i with
  | zero =>
   simp at h
   subst h
   simp [aH]
  | succ i =>
   simp only[List.take_succ_cons,aH]
   exact ih (by simpa using h)
section
variable {P:Program} {w:World} {K:W.Frag} {mg:Str→Option Value} {base:Heap} {aK C CN CT CP CM:Addr}
theorem ziV {H:Hp} {p tl al rl a:Addr} {T:List Tm} {As:List At} {Rs:List (List Int)} {t:At} {Q:VK} {E:XK} (S:zaB K C H p tl al rl T As Rs) (ha:Has K H (dA t) (.ref a)) (len:As.length≤1000)
  (k1:t∈As→∀ H',ar H H'→Q (.int (As.idxOf t:Nat)) H') (k2:t∉As→40≤As.length→∀ H',ar H H'→E (.ref CM) none H')
  (k3:t∉As→¬40≤As.length→∀ H',zaB K C H' p tl al rl T (As++[t]) Rs→Fr1 H H' al→Q (.int (As.length:Nat)) H'):zdy K CM [.ref a,.ref al,.int 40] H Q E:=by
 obtain⟨xs,hl,hs⟩:=id S.am
 refine⟨a,al,40,xs,As.map dA,dA t,rfl,ha,hl,hs,Nat.le_trans (ze2 (n:=1) (fun a=>by rw[zkl];exact Nat.le_refl _) As) (by decide),by rw[List.length_map];exact len,by decide,by decide,?_⟩
 rw[zdO zhH,zih zhH,List.length_map]
 by_cases hm:t∈As
 ·rw[if_pos (decide_eq_true hm)]
  exact k1 hm
 ·rw[if_neg (by rw[decide_eq_false hm];decide)]
  by_cases h40:40≤As.length
  ·rw[if_pos (by omega)]
   exact k2 hm h40
  ·rw[if_neg (by omega)]
   have kt:zak H (upd H al (.lst (xs++[.ref a]))):=zak.lst hl
   refine k3 hm h40 _ (S.setA ?_) fun b o e hb=>by rw[aq hb];exact e
   rw[List.map_append]
   exact(hs.keep kt (zai zcs As)).append (HasL.one (ha.keep kt (zcs t)))
theorem scP:zae ["self","name"] ["self","name"] (ao zhu):=⟨rfl,rfl,rfl,by decide +kernel,rfl,by decide +kernel,by decide +kernel⟩
theorem zlh {f fN fP:Addr} {fd dN dP:FuncData} (F:Fun K "add_plain" "Problem.add_plain" zhu f fd) (T:Txt K mg aK C CN CT CP CM)
  (GN:FnOk P w K mg base (CX1 P w) 3 fN dN ["word"] (zeV CN)) (bN:av K dN ["word"] []) (kN:W.keepIn K (.ref fN)=true) (mN:mg "ask_name"=some (.ref fN))
  (GP:FnOk P w K mg base (CX1 P w) 1 fP dP ["thing","things","most"] (zdy K CM)) (bP:av K dP ["thing","things","most"] []) (kP:W.keepIn K (.ref fP)=true) (mP:mg "place_of"=some (.ref fP)) :
  FnOk P w K mg base (CX1 P w) 4 f fd ["self","name"] (ziN K C CN CT CP CM):=by
 obtain⟨t40,e40⟩:=T.atoms
 refine Fun.okX F scP (fun vs H Q E h=>?_) (fun cdv A outer s H vs Q E hr h=>?_)
 ·obtain⟨p,tl,al,rl,T,As,Rs,z,rfl,_⟩:=h
  rfl
 obtain⟨p,tl,al,rl,T',As,Rs,z,rfl,S,lo,len,h⟩:=h
 have hr1:aE 1 _:=hr.mono (by decide)
 refine⟨_,ae (zaI (zaa GN hr rfl mN kN bN .nil (zaw xe1) (aa (pv 1) ac)))
  (aj (ax (au zaM (zaa GP hr1 rfl mP kP bP .nil (zaw xe1) (aa (zaD (aa zab (aa (pv 1) ac))) (aa (zaR (pv 0) rfl) (aa (zba (v:=.int 40) rfl e40 ⟨_,rfl⟩) ac)))) ag))),?_⟩
 refine⟨_,rfl,z,rfl,lo,?_⟩
 cases hg:za9 z with
 | false =>
  rw[if_neg (by decide)]
  have e:zc2 As z=(.name,As):=if_pos hg
  rw[e]at h
  exact h
 | true =>
 rw[if_pos rfl]
 intro H1 s1
 refine⟨_,rfl,lS2,fun a ha=>?_⟩
 have s2:ar H1 (upd H1 a (.tup [.str "plain",.str z])):=za3 ha _
 have s12:=s1.trans s2
 have S2:=S.same s12
 obtain⟨⟨dx,ho⟩,_⟩:=id S2
 have hd:Has K (upd H1 a (.tup [.str "plain",.str z])) (dA (.plain z)) (.ref a):=by
  simp only[dA,Has,HasL]
  exact⟨a,_,rfl,SqT.of ad,_,_,rfl,rfl,_,_,rfl,rfl,rfl⟩
 refine⟨_,rfl,p,C,dx,_,_,rfl,ho,T.cl,T.nA,zcl _ _ _,?_⟩
 refine ziV (CM:=CM) (E:=E) (Q:=fun x H'=>rI0 (fun i j=>.int (i+j)) x (.int 1) H' Q) S2 hd len (fun hm H' s'=>?_) (fun hm h40 H' s'=>?_) (fun hm h40 H' S' fr=>?_)
 ·have e:zc2 As z=(.num (As.idxOf (.plain z)+1),As):=by unfold zc2;rw[if_neg (by rw[hg];decide),if_pos hm]
  rw[e]at h
  exact⟨_,_,rfl,rfl,q1 <| h H' (S2.same s') (Fr2.of_same (s12.trans s'))⟩
 ·have e:zc2 As z=(.many,As):=by unfold zc2;rw[if_neg (by rw[hg];decide),if_neg hm,if_pos h40]
  rw[e]at h
  exact h H' (s12.trans s')
 ·have e:zc2 As z=(.num (As.length+1),As++[.plain z]):=by unfold zc2;rw[if_neg (by rw[hg];decide),if_neg hm,if_neg h40]
  rw[e]at h
  exact⟨_,_,rfl,rfl,q1 <| h H' S' ((Fr2.of_same s12).trans (Fr2.of1 fr))⟩
theorem scSm:zae ["self","one","other","turned"] ["self","one","other"] (ao zjj):=⟨rfl,rfl,rfl,by decide +kernel,rfl,by decide +kernel,by decide +kernel⟩
theorem zl2 {f fT fP:Addr} {fd dT' dP:FuncData} (F:Fun K "add_same" "Problem.add_same" zjj f fd) (T:Txt K mg aK C CN CT CP CM)
  (GT:FnOk P w K mg base (CX1 P w) 1 fT dT' ["self","number"] (zeU K C CT)) (bT:av K dT' ["self","number"] []) (mT:zbg K C "ask_term" fT)
  (GP:FnOk P w K mg base (CX1 P w) 1 fP dP ["thing","things","most"] (zdy K CM)) (bP:av K dP ["thing","things","most"] []) (kP:W.keepIn K (.ref fP)=true) (mP:mg "place_of"=some (.ref fP)) :
  FnOk P w K mg base (CX1 P w) 2 f fd ["self","one","other"] (zhs K C CN CT CP CM):=by
 obtain⟨t40,e40⟩:=T.atoms
 refine Fun.okX F scSm (fun vs H Q E h=>?_) (fun cdv A outer s H vs Q E hr h=>?_)
 ·obtain⟨p,tl,al,rl,T,As,Rs,a,b,rfl,_⟩:=h
  rfl
 obtain⟨p,tl,al,rl,T',As,Rs,a,b,rfl,S,⟨a1,a2⟩,⟨b1,b2⟩,len,h⟩:=h
 have hu:=zem hr
 refine⟨_,ae (zaI (zaJ (pv 0) T.cl mT GT hr bT .nil (zaw xe1) (aa (pv 1) ac)))
  (ae (zaI (zaJ (pv 0) T.cl mT GT hr bT .nil (zaw xe1) (aa (pv 2) ac)))
  (ae (aA (i:=3) scSm.nd rfl (Or.inl rfl) (zaD (aa zab (aa (pv 2) (aa (pv 1) ac)))))
  (ae (zao (aw (zj6 hu) (pv 3) (zaR (pv 0) rfl) rfl) (aj (ax (au zaM (zbB PySem.F.plainAttrs_list PySem.F.slot_list_index PySem.F.type_list_index (zcR hu) (zaR (pv 0) rfl) (aa (pv 3) ac)) ag))) zad)
  (aj (ax (au zaM (zaa GP hr rfl mP kP bP .nil (zaw xe1) (aa (zaD (aa zab (aa (pv 1) (aa (pv 2) ac)))) (aa (zaR (pv 0) rfl) (aa (zba (v:=.int 40) rfl e40 ⟨_,rfl⟩) ac)))) ag)))))),?_⟩
 obtain⟨⟨dx,ho⟩,_,⟨xs,hl,hs⟩,_⟩:=id S
 have no:=zcO tl al rl (m:="ask_term") (by decide +kernel) (by decide +kernel) (by decide +kernel)
 refine⟨_,rfl,p,dx,_,rfl,ho,no,_,rfl,p,tl,al,rl,T',As,Rs,a,rfl,S,a1,a2,?_⟩
 by_cases ca:a < 0∨(T'.length:Int)≤a
 ·rw[if_pos ca]
  have e:addS T'.length As a b=(.term,As):=if_pos (ca.elim .inl fun z=>.inr (.inl z))
  rw[e]at h
  exact h
 rw[if_neg ca]
 refine⟨_,rfl,p,dx,_,rfl,ho,no,_,rfl,p,tl,al,rl,T',As,Rs,b,rfl,S,b1,b2,?_⟩
 by_cases cb:b < 0∨(T'.length:Int)≤b
 ·rw[if_pos cb]
  have e:addS T'.length As a b=(.term,As):=if_pos (.inr (.inr cb))
  rw[e]at h
  exact h
 rw[if_neg cb]
 have cn:¬(a < 0∨(T'.length:Int)≤a∨b < 0∨(T'.length:Int)≤b):=by omega
 refine⟨_,rfl,_,rfl,lS3,fun u hu'=>?_⟩
 have s1:ar H (upd H u (.tup [.str "same",.int b,.int a])):=za3 hu' _
 have hd:Has K (upd H u (.tup [.str "same",.int b,.int a])) (dA (.same b a)) (.ref u):=by
  simp only[dA,Has,HasL]
  exact⟨u,_,rfl,SqT.of ad,_,_,rfl,rfl,_,_,rfl,rfl,_,_,rfl,rfl,rfl⟩
 have S1:=S.same s1
 have hs1:=hs.keep (.of_same s1) (zai zcs As)
 have dp:zau (As.map dA)≤60:=Nat.le_trans (ze2 (n:=1) (fun a=>by rw[zkl];exact Nat.le_refl _) As) (by decide)
 refine⟨_,rfl,_,rfl,p,C,dx,_,_,rfl,s1 _ _ ho,T.cl,T.nA,zcl _ _ _,al,xs,As.map dA,dA (.same b a),rfl,.inl (SqL.of (s1 _ _ hl)),hs1,hd,dp,_,rfl,?_⟩
 have ea:=zdO zhH As (.same b a)
 by_cases hm:At.same b a∈As
 ·rw[decide_eq_true hm]at ea
  refine aI (fun _=>?_) (fun c=>absurd ea c)
  have e:addS T'.length As a b=(.num (As.idxOf (.same b a)+1),As):=by unfold addS;rw[if_neg cn,if_pos hm]
  rw[e]at h
  have hlt:=List.idxOf_lt_length_of_mem hm
  refine⟨_,rfl,p,C,dx,_,_,rfl,s1 _ _ ho,T.cl,T.nA,zcl _ _ _,.inl ⟨rfl,_,SqL.of (s1 _ _ hl)⟩,_,rfl,al,xs,As.map dA,_,dA (.same b a),As.idxOf (.same b a),rfl,rfl,s1 _ _ hl,hs1,hd,dp,⟨dA (.same b a),?_,zbw _⟩,fun m dm h1 h2=>?_,_,_,rfl,rfl,q1 (h _ S1 (Fr2.of_same s1))⟩
  ·rw[List.getElem?_map,List.getElem?_eq_getElem hlt]
   simp
  ·rw[List.getElem?_map]at h2
   cases q:As[m]? with
   | none=>rw[q]at h2;cases h2
   | some v =>
    rw[q]at h2
    have e':dm=dA v:=(Option.some.inj h2).symm
    rw[e',zj4]
    refine decide_eq_false fun z=>?_
    obtain⟨hm',hv⟩:=List.getElem?_eq_some_iff.mp q
    have z':=List.not_of_lt_findIdx (p:=(· == At.same b a)) h1
    rw[hv,z,beq_self_eq_true]at z'
    cases z'
 ·rw[decide_eq_false hm]at ea
  refine aI (fun c=>absurd (show false=true from ea.symm.trans c) (by decide)) (fun _=>?_)
  refine⟨_,rfl,_,rfl,lS3,fun v hv=>?_⟩
  have s2:ar (upd H u (.tup [.str "same",.int b,.int a])) (upd (upd H u (.tup [.str "same",.int b,.int a])) v (.tup [.str "same",.int a,.int b])):=za3 hv _
  have s12:=s1.trans s2
  have S2:=S.same s12
  have hd2:Has K (upd (upd H u (.tup [.str "same",.int b,.int a])) v (.tup [.str "same",.int a,.int b])) (dA (.same a b)) (.ref v):=by
   simp only[dA,Has,HasL]
   exact⟨v,_,rfl,SqT.of ad,_,_,rfl,rfl,_,_,rfl,rfl,_,_,rfl,rfl,rfl⟩
  refine⟨_,rfl,p,C,dx,_,_,rfl,s12 _ _ ho,T.cl,T.nA,zcl _ _ _,?_⟩
  refine ziV (CM:=CM) (E:=E) (Q:=fun x H'=>rI0 (fun i j=>.int (i+j)) x (.int 1) H' Q) S2 hd2 len (fun hm2 H' s'=>?_) (fun hm2 h40 H' s'=>?_) (fun hm2 h40 H' S' fr=>?_)
  ·have e:addS T'.length As a b=(.num (As.idxOf (.same a b)+1),As):=by unfold addS;rw[if_neg cn,if_neg hm,if_pos hm2]
   rw[e]at h
   exact⟨_,_,rfl,rfl,q1 <| h H' (S2.same s') (Fr2.of_same (s12.trans s'))⟩
  ·have e:addS T'.length As a b=(.many,As):=by unfold addS;rw[if_neg cn,if_neg hm,if_neg hm2,if_pos h40]
   rw[e]at h
   exact h H' (s12.trans s')
  ·have e:addS T'.length As a b=(.num (As.length+1),As++[.same a b]):=by unfold addS;rw[if_neg cn,if_neg hm,if_neg hm2,if_neg h40]
   rw[e]at h
   exact⟨_,_,rfl,rfl,q1 <| h H' S' ((Fr2.of_same s12).trans (Fr2.of1 fr))⟩
end
end K75
namespace K75
open PySem L2
structure Asks (K:W.Frag) (C:Addr) (H:Hp) (p tl al rl q:Addr) (T:List Tm) (As:List At) (Rs:List (List Int)) (n:Str) (ps:List Int):Prop where
 pr:zaB K C H p tl al rl T As Rs
 sq:SqI K H q ps
 low:Low n
 few:ps.length≤10
 small:∀ i∈ps,-1000≤i∧i≤1000
 len:T.length≤1000
def spAdd (K:W.Frag) (C CN CT CM:Addr):Sp:=fun vs H Q E=>∃(p tl al rl q:Addr) (T:List Tm) (As:List At) (Rs:List (List Int)) (n:Str) (ps:List Int),vs=[.ref p,.str n,.ref q]∧Asks K C H p tl al rl q T As Rs n ps ∧
 match zdD T (za9 n) (n,ps) with
 | (.num k,T')=>∀ H',zaB K C H' p tl al rl T' As Rs→Fr1 H H' tl→Q (.int (k:Nat)) H'
 | (.name,_)=>∀ H',ar H H'→E (.ref CN) none H'
 | (.term,_)=>∀ H',ar H H'→E (.ref CT) none H'
 | (.many,_)=>∀ H',ar H H'→E (.ref CM) none H'
 | (.part,_)=>True
section
variable {P:Program} {w:World} {K:W.Frag} {mg:Str→Option Value} {base:Heap} {aK C CN CT CP CM:Addr}
theorem scA:zae ["self","name","parts","part"] ["self","name","parts"] (ao sAdd):=⟨rfl,rfl,rfl,by decide +kernel,rfl,by decide +kernel,by decide +kernel⟩
theorem zig {ps:List Int} {i:Nat} {x:V} (h:(ps.map V.int)[i]?=some x):∃ k,ps[i]?=some k∧x=.int k:=by
 rw[List.getElem?_map]at h
 cases e:ps[i]? with
 | none=>rw[e]at h;cases h
 | some k =>
  rw[e]at h
  exact⟨k,rfl,(Option.some.inj h).symm⟩
theorem zkn {T:List Tm} {ps:List Int} {i:Nat} {k:Int} (h3:ps.length≤3) (e:ps[i]?=some k) (h:k < 0∨(T.length:Int)≤k):bad T ps=true:=by
 unfold bad
 rw[Bool.or_eq_true]
 refine .inr (List.any_eq_true.mpr ⟨k,List.mem_of_getElem? e,?_⟩)
 rw[Bool.or_eq_true]
 exact h.elim (fun z=>.inl (decide_eq_true z)) fun z=>.inr (decide_eq_true z)
theorem ziZ {T:List Tm} {ps:List Int} (h3:ps.length≤3) (h:∀(i:Nat) k,ps[i]?=some k→¬(k < 0∨(T.length:Int)≤k)):bad T ps=false:=by
 cases e:bad T ps with
 | false=>rfl
 | true =>
  unfold bad at e
  rw[Bool.or_eq_true]at e
  rcases e with e | e
  ·have:=of_decide_eq_true e
   omega
  ·obtain⟨k,hk,e⟩:=List.any_eq_true.mp e
   obtain⟨i,hi⟩:=List.mem_iff_getElem?.mp hk
   rw[Bool.or_eq_true]at e
   exact absurd (e.elim (fun z=>.inl (of_decide_eq_true z)) fun z=>.inr (of_decide_eq_true z)) (h i k hi)
theorem ok_add {f fN fT fP:Addr} {fd dN dT' dP:FuncData} (F:Fun K "add_term" "Problem.add_term" sAdd f fd) (T:Txt K mg aK C CN CT CP CM)
  (GN:FnOk P w K mg base (CX1 P w) 3 fN dN ["word"] (zeV CN)) (bN:av K dN ["word"] []) (kN:W.keepIn K (.ref fN)=true) (mN:mg "ask_name"=some (.ref fN))
  (GT:FnOk P w K mg base (CX1 P w) 1 fT dT' ["self","number"] (zeU K C CT)) (bT:av K dT' ["self","number"] []) (mT:zbg K C "ask_term" fT)
  (GP:FnOk P w K mg base (CX1 P w) 1 fP dP ["thing","things","most"] (zdy K CM)) (bP:av K dP ["thing","things","most"] []) (kP:W.keepIn K (.ref fP)=true) (mP:mg "place_of"=some (.ref fP)) :
  FnOk P w K mg base (CX1 P w) 4 f fd ["self","name","parts"] (spAdd K C CN CT CM):=by
 obtain⟨t3,e3⟩:=T.parts
 obtain⟨t60,e60⟩:=T.terms
 refine Fun.okX F scA (fun vs H Q E h=>?_) (fun cdv A outer s H vs Q E hr h=>?_)
 ·obtain⟨p,tl,al,rl,q,T,As,Rs,n,ps,rfl,_⟩:=h
  rfl
 obtain⟨p,tl,al,rl,q,T',As,Rs,n,ps,rfl,A0,h⟩:=h
 obtain⟨S,hq,lo,few,small,len⟩:=A0
 have hr1:aE 1 _:=hr.mono (by decide)
 refine⟨_,ae (zaI (zaa GN hr rfl mN kN bN .nil (zaw xe1) (aa (pv 1) ac)))
  (ae (zao (aw zcU (zap zan rfl T.len PySem.boot_len (aa (pv 2) ac)) (zba (v:=.int 3) rfl e3 ⟨_,rfl⟩) (ay _))
   (aj (zcD (C:=CT) xe1 rfl rfl T.bterm PySem.F.excBase_ValueError T.xterm (aa (zcd (zaU (zeo (pv 1)) (zaU zab (zaU (zeo (zba (v:=.int 3) rfl e3 ⟨_,rfl⟩)) (zaU zab zdG))))) ac))) zad)
  (ae (zaZ PassesOwn.leaving rfl (zhx (pv 2)) (zay (i:=3) scA.nd rfl (Or.inl rfl)) (aj (zaI (zaJ (pv 0) T.cl mT GT hr1 bT .nil (zaw xe1) (aa (pv 3) ac)))))
  (aj (ax (zaa GP hr1 rfl mP kP bP .nil (zaw xe1) (aa (zaD (aa (pv 1) (aa (zbD zcy rfl T.tuple PyProof.Rows.Boot.tuple (aa (pv 2) ac)) ac))) (aa (zaR (pv 0) rfl) (aa (zba (v:=.int 60) rfl e60 ⟨_,rfl⟩) ac)))))))),?_⟩
 refine⟨_,rfl,n,rfl,lo,?_⟩
 cases hg:za9 n with
 | false =>
  have e:zdD T' false (n,ps)=(.name,T'):=if_pos rfl
  rw[hg,e]at h
  rw[if_neg (by decide)]
  exact h
 | true =>
 rw[if_pos rfl]
 intro H1 s1
 have S1:=S.same s1
 have hq1:=hq.same s1
 refine⟨_,rfl,q,_,rfl,hq1,_,_,rfl,rfl,_,rfl,?_⟩
 have hl1:(ps.map V.int).length=ps.length:=List.length_map _
 refine aI (fun c=>?_) (fun c=>?_)
 ·have c':(3:Int) < (((ps.map V.int).length:Nat):Int):=of_decide_eq_true c
  rw[hl1]at c'
  have hb:bad T' ps=true:=by unfold bad;rw[decide_eq_true (by omega:3 < ps.length)];rfl
  have e:zdD T' true (n,ps)=(.term,T'):=by unfold zdD;rw[if_neg (by decide),if_pos hb]
  rw[hg,e]at h
  have hn:=lo.1
  refine⟨_,rfl,.inl ⟨n,rfl,Nat.le_trans hn (by decide),_,rfl,?_,_,rfl,?_,.inr ⟨3,rfl,by decide +kernel,_,rfl,?_,_,rfl,?_,?_,(by show 1≤sizeLine;decide),h H1 s1⟩⟩⟩
  all_goals
   simp only[zaK]
   exact Nat.le_trans (by first | exact Nat.add_le_add_left hn _ | exact Nat.add_le_add_right (Nat.add_le_add_left hn _) _ | exact Nat.add_le_add_right (Nat.add_le_add_right (Nat.add_le_add_left hn _) _) _ | exact Nat.add_le_add_right (Nat.add_le_add_right (Nat.add_le_add_right (Nat.add_le_add_left hn _) _) _) _) (by decide +kernel)
 ·have c':¬(3:Int) < (((ps.map V.int).length:Nat):Int):=fun z=>c (decide_eq_true z)
  rw[hl1]at c'
  have h3:ps.length≤3:=by omega
  obtain⟨⟨dx,ho⟩,⟨xs,hl,hs⟩,_⟩:=id S1
  have addE:bad T' ps=false→zdD T' true (n,ps)=if(n,ps)∈T' then(.num (T'.idxOf (n,ps)),T') else if 60≤T'.length then(.many,T') else(.num T'.length,T'++[(n,ps)]):=fun hb=>by unfold zdD;rw[if_neg (by decide),if_neg (by rw[hb];decide)]
  have last:∀(H3:Hp) (a l:Addr),ar H H3→H3 a=some (.tup [.str n,.ref l])→SqT K H3 l (ps.map V.int)→bad T' ps=false→zdy K CM [.ref a,.ref tl,.int 60] H3 Q E:=fun H3 a l s3 ha hq3 hb=>by
   have S3:=S.same s3
   rw[hg,addE hb]at h
   obtain⟨xs3,hl3,hs3⟩:=id S3.tm
   have hd:Has K H3 (dT (n,ps)) (.ref a):=by
    simp only[dT,Has,HasL]
    exact⟨a,_,rfl,SqT.of ha,_,_,rfl,rfl,_,_,rfl,⟨l,_,rfl,hq3,HasL.ints ps⟩,rfl⟩
   refine⟨a,tl,60,xs3,T'.map dT,dT (n,ps),rfl,hd,hl3,hs3,Nat.le_trans (zij T') (by decide),by rw[List.length_map];exact len,by decide,by decide,?_⟩
   rw[zdO zkg,zih zkg,List.length_map]
   by_cases hm:(n,ps)∈T'
   ·rw[if_pos hm]at h
    rw[if_pos (decide_eq_true hm)]
    exact fun H' s'=>h H' (S3.same s') (Fr1.of_same (s3.trans s'))
   ·rw[if_neg hm]at h
    rw[if_neg (by rw[decide_eq_false hm];decide)]
    by_cases h60:60≤T'.length
    ·rw[if_pos h60]at h
     rw[if_pos (by omega)]
     exact fun H' s'=>h H' (s3.trans s')
    ·rw[if_neg h60]at h
     rw[if_neg (by omega)]
     have kt:zak H3 (upd H3 tl (.lst (xs3++[.ref a]))):=zak.lst hl3
     refine h _ (S3.setT ?_) fun b o e hb'=>?_
     ·rw[List.map_append]
      exact(hs3.keep kt (zbU T')).append (HasL.one (hd.keep kt (zka _)))
     ·rw[aq hb']
      exact s3 b o e
  rcases hq1 with hqX | hqX
  ·refine⟨_,rfl,q,rfl,.inl ⟨⟨_,hqX⟩,zfJ (K:=K) (a:=q) (xs:=ps.map V.int) (fun i σ H2=>H2=H1∧(∃ z,σ=[some (.ref p),some (.str n),some (.ref q),z])∧∀(j:Nat) k,j < i→ps[j]?=some k→¬(k < 0∨(T'.length:Int)≤k))
    ⟨rfl,⟨_,rfl⟩,fun j k hj=>absurd hj (Nat.not_lt_zero j)⟩ (fun i σ H2 _ ⟨e,_⟩=>by rw[e];exact hqX) ?_ ?_⟩⟩
   ·rintro i x σ H2 hx ⟨rfl,⟨z,rfl⟩,no⟩
    obtain⟨k,ek,rfl⟩:=zig hx
    have sk:=small k (List.mem_of_getElem? ek)
    refine⟨_,rfl,p,dx,_,rfl,ho,zcO _ _ _ (by decide +kernel) (by decide +kernel) (by decide +kernel),_,rfl,p,tl,al,rl,T',As,Rs,k,rfl,S1,sk.1,sk.2,?_⟩
    by_cases hk:k < 0∨(T'.length:Int)≤k
    ·rw[if_pos hk]
     have e:zdD T' true (n,ps)=(.term,T'):=by unfold zdD;rw[if_neg (by decide),if_pos (zkn h3 ek hk)]
     rw[hg,e]at h
     exact fun H' s'=>h H' (s1.trans s')
    ·rw[if_neg hk]
     refine⟨rfl,⟨_,rfl⟩,fun j k' hj ej=>?_⟩
     by_cases hji:j < i
     ·exact no j k' hji ej
     ·have:j=i:=by omega
      subst this
      rw[ek]at ej
      cases ej
      exact hk
   ·rintro σ H2 ⟨rfl,⟨z,rfl⟩,no⟩
    have hb:bad T' ps=false:=ziZ h3 fun i k e=>no i k (by rw[hl1];exact(List.getElem?_eq_some_iff.mp e).1) e
    refine⟨_,rfl,_,rfl,q,_,rfl,.inl ⟨hqX,fun l hl'=>⟨lS2,fun a ha=>?_⟩⟩⟩
    have sA:ar H2 (upd H2 l (.tup (ps.map V.int))):=za3 hl' _
    have sB:ar (upd H2 l (.tup (ps.map V.int))) (upd (upd H2 l (.tup (ps.map V.int))) a (.tup [.str n,.ref l])):=za3 ha _
    have sAB:=sA.trans sB
    have hq3:SqT K (upd (upd H2 l (.tup (ps.map V.int))) a (.tup [.str n,.ref l])) l (ps.map V.int):=SqT.of (sB _ _ ad)
    refine⟨_,rfl,p,C,dx,_,_,rfl,sAB _ _ ho,T.cl,T.nT,zdx _ _ _,last _ a _ (s1.trans sAB) ad hq3 hb⟩
  ·refine⟨_,rfl,q,rfl,.inr ⟨⟨_,hqX⟩,zgB (K:=K) (a:=q) (xs:=ps.map V.int) (fun i σ H2=>H2=H1∧(∃ z,σ=[some (.ref p),some (.str n),some (.ref q),z])∧∀(j:Nat) k,j < i→ps[j]?=some k→¬(k < 0∨(T'.length:Int)≤k))
    ⟨rfl,⟨_,rfl⟩,fun j k hj=>absurd hj (Nat.not_lt_zero j)⟩ (fun i σ H2 _ ⟨e,_⟩=>by rw[e];exact hqX) ?_ ?_⟩⟩
   ·rintro i x σ H2 hx ⟨rfl,⟨z,rfl⟩,no⟩
    obtain⟨k,ek,rfl⟩:=zig hx
    have sk:=small k (List.mem_of_getElem? ek)
    refine⟨_,rfl,p,dx,_,rfl,ho,zcO _ _ _ (by decide +kernel) (by decide +kernel) (by decide +kernel),_,rfl,p,tl,al,rl,T',As,Rs,k,rfl,S1,sk.1,sk.2,?_⟩
    by_cases hk:k < 0∨(T'.length:Int)≤k
    ·rw[if_pos hk]
     have e:zdD T' true (n,ps)=(.term,T'):=by unfold zdD;rw[if_neg (by decide),if_pos (zkn h3 ek hk)]
     rw[hg,e]at h
     exact fun H' s'=>h H' (s1.trans s')
    ·rw[if_neg hk]
     refine⟨rfl,⟨_,rfl⟩,fun j k' hj ej=>?_⟩
     by_cases hji:j < i
     ·exact no j k' hji ej
     ·have:j=i:=by omega
      subst this
      rw[ek]at ej
      cases ej
      exact hk
   ·rintro σ H2 ⟨rfl,⟨z,rfl⟩,no⟩
    have hb:bad T' ps=false:=ziZ h3 fun i k e=>no i k (by rw[hl1];exact(List.getElem?_eq_some_iff.mp e).1) e
    refine⟨_,rfl,_,rfl,q,_,rfl,.inr ⟨hqX,lS2,fun a ha=>?_⟩⟩
    have sAB:ar H2 (upd H2 a (.tup [.str n,.ref q])):=za3 ha _
    have hq3:SqT K (upd H2 a (.tup [.str n,.ref q])) q (ps.map V.int):=(zak.of_same sAB).sq hqX
    refine⟨_,rfl,p,C,dx,_,_,rfl,sAB _ _ ho,T.cl,T.nT,zdx _ _ _,last _ a _ (s1.trans sAB) ad hq3 hb⟩
end
end K75
namespace K75
open PySem L2
theorem zi7 (a b:Int):peq (.int a) (.int b)=true↔a=b:=by
 rw[zlV]
 exact decide_eq_true_iff
theorem zfe {ps:List Int} {i:Nat} {x:V} (h:(ps.map V.int)[i]?=some x):∃ k,ps[i]?=some k∧x=.int k:=by
 rw[List.getElem?_map]at h
 cases e:ps[i]? with
 | none=>rw[e]at h;cases h
 | some k =>
  rw[e]at h
  exact⟨k,rfl,(Option.some.inj h).symm⟩
section
variable {P:Program} {w:World} {K:W.Frag} {mg:Str→Option Value} {base:Heap} {aK C CN CT CP CM:Addr}
theorem scO:zae ["parts","kept","part"] ["parts"] (ao zjk):=⟨rfl,rfl,rfl,by decide +kernel,rfl,by decide +kernel,by decide +kernel⟩
theorem zl4 {f:Addr} {fd:FuncData} (F:Fun K "once_each" "once_each" zjk f fd) (T:Txt K mg aK C CN CT CP CM):FnOk P w K mg base CX0 1 f fd ["parts"] (zjS K):=by
 refine F.ok scO (fun vs H Q E h=>?_) (fun cdv A outer s H vs Q E hr h=>?_)
 ·obtain⟨q,ps,rfl,_⟩:=h
  rfl
 obtain⟨q,ps,rfl,hq,len,k⟩:=h
 have hu:=zem hr
 refine⟨_,ae (aA (i:=1) scO.nd rfl (Or.inl rfl) (zam ac))
  (ae (zaZ PassesOwn.never rfl (zhx (pv 0)) (zay (i:=2) scO.nd rfl (Or.inl rfl))
   (aj (zao (aw (zg0 hu) (pv 2) (pv 1) rfl) (aj (zaI (zbB PySem.F.plainAttrs_list PySem.F.slot_list_append PySem.F.type_list_append zaS (pv 1) (aa (pv 2) ac)))) zad)))
  (aj (ax (zbD zcy rfl T.tuple PyProof.Rows.Boot.tuple (aa (pv 1) ac))))),?_⟩
 refine⟨lS0,fun l hl=>?_⟩
 have s1:ar H (upd H l (.lst [])):=za3 hl _
 rcases hq with hqX | hqX
 ·refine⟨_,rfl,q,rfl,.inl ⟨⟨_,s1.seq hqX⟩,zfJ (K:=K) (a:=q) (xs:=ps.map V.int) (fun i σ H2=>ar H H2∧(∃ z,σ=[some (.ref q),some (.ref l),z])∧H2 l=some (.lst ((aH [] (ps.take i)).map V.int)))
   ⟨s1,⟨_,rfl⟩,ad⟩ (fun i σ H2 _ ⟨e,_⟩=>e.seq hqX) ?_ ?_⟩⟩
  ·rintro i x σ H2 hx ⟨s2,⟨z,rfl⟩,hl2⟩
   obtain⟨k',ek,rfl⟩:=zfe hx
   have et:=zg1 (acc:=[]) ek
   have lenz:((aH [] (ps.take i)).map V.int).length < sizeLine:=by
    rw[List.length_map]
    have:=zfG (ps.take i) []
    rw[List.length_take,List.length_nil]at this
    exact Nat.lt_of_le_of_lt (show _≤1000 by omega) (by decide)
   refine⟨_,rfl,_,rfl,l,_,(aH [] (ps.take i)).map Dt.int,.int k',rfl,.inl (SqL.of hl2),HasL.ints _,by simp only[Has],by rw[zdj];decide,_,rfl,?_⟩
   have ea:=zdO zi7 (aH [] (ps.take i)) k'
   by_cases hm:k'∈aH [] (ps.take i)
   ·rw[decide_eq_true hm]at ea
    refine aI (fun c=>absurd (show(!((aH [] (ps.take i)).map Dt.int).any fun d'=>peq d' (.int k'))=true from c) (by rw[ea];decide)) (fun _=>?_)
    rw[if_pos hm]at et
    exact⟨s2,⟨_,rfl⟩,by rw[et];exact hl2⟩
   ·rw[decide_eq_false hm]at ea
    refine aI (fun _=>?_) (fun c=>absurd (show(!((aH [] (ps.take i)).map Dt.int).any fun d'=>peq d' (.int k'))=true by rw[ea];rfl) c)
    rw[if_neg hm]at et
    refine⟨_,rfl,.inl ⟨rfl,_,SqL.of hl2⟩,_,rfl,l,_,_,rfl,rfl,hl2,lenz,?_⟩
    refine⟨fun b o e=>by rw[aq (zag e hl)];exact s2 b o e,⟨_,rfl⟩,?_⟩
    rw[et,List.map_append,ad]
    rfl
  ·rintro σ H2 ⟨s2,⟨z,rfl⟩,hl2⟩
   rw[List.length_map,List.take_length]at hl2
   refine⟨_,rfl,l,_,rfl,.inl ⟨SqL.of hl2,fun l2 hl2'=>k _ l2 (s2.trans (za3 hl2' _)) ad⟩⟩
 ·refine⟨_,rfl,q,rfl,.inr ⟨⟨_,(zak.of_same s1).sq hqX⟩,zgB (K:=K) (a:=q) (xs:=ps.map V.int) (fun i σ H2=>ar H H2∧(∃ z,σ=[some (.ref q),some (.ref l),z])∧H2 l=some (.lst ((aH [] (ps.take i)).map V.int)))
   ⟨s1,⟨_,rfl⟩,ad⟩ (fun i σ H2 _ ⟨e,_⟩=>(zak.of_same e).sq hqX) ?_ ?_⟩⟩
  ·rintro i x σ H2 hx ⟨s2,⟨z,rfl⟩,hl2⟩
   obtain⟨k',ek,rfl⟩:=zfe hx
   have et:=zg1 (acc:=[]) ek
   have lenz:((aH [] (ps.take i)).map V.int).length < sizeLine:=by
    rw[List.length_map]
    have:=zfG (ps.take i) []
    rw[List.length_take,List.length_nil]at this
    exact Nat.lt_of_le_of_lt (show _≤1000 by omega) (by decide)
   refine⟨_,rfl,_,rfl,l,_,(aH [] (ps.take i)).map Dt.int,.int k',rfl,.inl (SqL.of hl2),HasL.ints _,by simp only[Has],by rw[zdj];decide,_,rfl,?_⟩
   have ea:=zdO zi7 (aH [] (ps.take i)) k'
   by_cases hm:k'∈aH [] (ps.take i)
   ·rw[decide_eq_true hm]at ea
    refine aI (fun c=>absurd (show(!((aH [] (ps.take i)).map Dt.int).any fun d'=>peq d' (.int k'))=true from c) (by rw[ea];decide)) (fun _=>?_)
    rw[if_pos hm]at et
    exact⟨s2,⟨_,rfl⟩,by rw[et];exact hl2⟩
   ·rw[decide_eq_false hm]at ea
    refine aI (fun _=>?_) (fun c=>absurd (show(!((aH [] (ps.take i)).map Dt.int).any fun d'=>peq d' (.int k'))=true by rw[ea];rfl) c)
    rw[if_neg hm]at et
    refine⟨_,rfl,.inl ⟨rfl,_,SqL.of hl2⟩,_,rfl,l,_,_,rfl,rfl,hl2,lenz,?_⟩
    refine⟨fun b o e=>by rw[aq (zag e hl)];exact s2 b o e,⟨_,rfl⟩,?_⟩
    rw[et,List.map_append,ad]
    rfl
  ·rintro σ H2 ⟨s2,⟨z,rfl⟩,hl2⟩
   rw[List.length_map,List.take_length]at hl2
   refine⟨_,rfl,l,_,rfl,.inl ⟨SqL.of hl2,fun l2 hl2'=>k _ l2 (s2.trans (za3 hl2' _)) ad⟩⟩
theorem scRw:zae ["self","parts","part"] ["self","parts"] (ao sRow):=⟨rfl,rfl,rfl,by decide +kernel,rfl,by decide +kernel,by decide +kernel⟩
theorem ok_row {f fP fO:Addr} {fd dP dO:FuncData} (F:Fun K "add_row" "Problem.add_row" sRow f fd) (T:Txt K mg aK C CN CT CP CM)
  (GP:FnOk P w K mg base (CX1 P w) 1 fP dP ["self","part"] (zgV K C CP)) (bP:av K dP ["self","part"] []) (mP:zbg K C "ask_part" fP)
  (GO:FnOk P w K mg base CX0 1 fO dO ["parts"] (zjS K)) (bO:av K dO ["parts"] []) (kO:W.keepIn K (.ref fO)=true) (mO:mg "once_each"=some (.ref fO)) :
  FnOk P w K mg base (CX1 P w) 2 f fd ["self","parts"] (spRow K C CN CT CP CM):=by
 obtain⟨t20,e20⟩:=T.rparts
 obtain⟨t200,e200⟩:=T.rows
 refine Fun.okX F scRw (fun vs H Q E h=>?_) (fun cdv A outer s H vs Q E hr h=>?_)
 ·obtain⟨p,tl,al,rl,q,T,As,Rs,ps,rfl,_⟩:=h
  rfl
 obtain⟨p,tl,al,rl,q,T',As,Rs,ps,rfl,S,hq,len,small,rlen,h⟩:=h
 obtain⟨t2,h2,q2⟩:∃ t,PSs (zbT (CX1 P w) P w K mg base ["self","parts","part"] "Problem.add_row" (ao sRow) f cdv A outer s H E) ((zaO sRow).drop 1) t ∧
   ∀ z,ps.any (zaf As.length)=false→t { nx:=fun _ H'=>Q .non H',rt:=Q } [some (.ref p),some (.ref q),z] H:=by
  refine⟨_,ae (zao (aw zcU (zap zan rfl T.len PySem.boot_len (aa (pv 1) ac)) (zba (v:=.int 20) rfl e20 ⟨_,rfl⟩) (ay _))
    (aj (zcD (C:=CM) xe1 rfl rfl T.bmany PySem.F.excBase_ValueError T.xmany (aa (zcd (zaU zab (zaU (zeo (zba (v:=.int 20) rfl e20 ⟨_,rfl⟩)) (zaU zab zdG)))) ac))) zad)
   (ae (zao (aw zjn (zap zan rfl T.len PySem.boot_len (aa (zaR (pv 0) rfl) ac)) (zba (v:=.int 200) rfl e200 ⟨_,rfl⟩) (ay _))
    (aj (zcD (C:=CM) xe1 rfl rfl T.bmany PySem.F.excBase_ValueError T.xmany (aa (zcd (zaU zab (zaU (zeo (zba (v:=.int 200) rfl e200 ⟨_,rfl⟩)) (zaU zab zdG)))) ac))) zad)
   (ae (zaI (zbB PySem.F.plainAttrs_list PySem.F.slot_list_append PySem.F.type_list_append zaS (zaR (pv 0) rfl) (aa (zaa GO hr rfl mO kO bO .nil zal (aa (pv 1) ac)) ac)))
   (aj (ax (au zcc (zap zan rfl T.len PySem.boot_len (aa (zaR (pv 0) rfl) ac)) ag))))),?_⟩
  intro z no
  obtain⟨⟨dx,ho⟩,_,_,⟨xs,hl,hs⟩,_⟩:=id S
  have hlen:xs.length=Rs.length:=by rw[←hs.length,List.length_map]
  have hpl:(ps.map V.int).length=ps.length:=List.length_map _
  refine⟨_,rfl,q,_,rfl,hq,_,_,rfl,rfl,_,rfl,aI (fun c=>?_) (fun c=>?_)⟩
  ·have c':(20:Int) < (((ps.map V.int).length:Nat):Int):=of_decide_eq_true c
   rw[hpl]at c'
   have e:zdE As.length Rs ps=(.many,Rs):=by unfold zdE;rw[if_neg (by rw[no];decide),if_pos (by omega)]
   rw[e]at h
   exact⟨_,rfl,by decide +kernel,.inr ⟨20,rfl,by decide +kernel,_,rfl,by decide +kernel,_,rfl,by decide +kernel,by decide +kernel,(by show 1≤sizeLine;decide),h H (ar.refl H)⟩⟩
  have c':¬(20:Int) < (((ps.map V.int).length:Nat):Int):=fun z=>c (decide_eq_true z)
  rw[hpl]at c'
  refine⟨_,rfl,p,C,dx,_,_,rfl,ho,T.cl,T.nR,zdh _ _ _,rl,xs,rfl,.inl (SqL.of hl),_,_,rfl,rfl,_,rfl,aI (fun c2=>?_) (fun c2=>?_)⟩
  ·have c3:(200:Int)≤((xs.length:Nat):Int):=of_decide_eq_true c2
   rw[hlen]at c3
   have e:zdE As.length Rs ps=(.many,Rs):=by unfold zdE;rw[if_neg (by rw[no];decide),if_neg (by omega),if_pos (by omega)]
   rw[e]at h
   exact⟨_,rfl,by decide +kernel,.inr ⟨200,rfl,by decide +kernel,_,rfl,by decide +kernel,_,rfl,by decide +kernel,by decide +kernel,(by show 1≤sizeLine;decide),h H (ar.refl H)⟩⟩
  have c3:¬(200:Int)≤((xs.length:Nat):Int):=fun z=>c2 (decide_eq_true z)
  rw[hlen]at c3
  have e:zdE As.length Rs ps=(.num Rs.length,Rs++[aH [] ps]):=by unfold zdE;rw[if_neg (by rw[no];decide),if_neg (by omega),if_neg (by omega)]
  rw[e]at h
  refine⟨_,rfl,p,C,dx,_,_,rfl,ho,T.cl,T.nR,zdh _ _ _,.inl ⟨rfl,_,SqL.of hl⟩,_,rfl,q,ps,rfl,hq,len,fun H2 l s2 hl2=>?_⟩
  have S2:=S.same s2
  have hlr:=s2 _ _ hl
  have hd:Has K H2 (dR (aH [] ps)) (.ref l):=by
   simp only[dR,Has]
   exact⟨l,_,rfl,SqT.of hl2,HasL.ints _⟩
  have kt:zak H2 (upd H2 rl (.lst (xs++[.ref l]))):=zak.lst hlr
  have S3:zaB K C (upd H2 rl (.lst (xs++[.ref l]))) p tl al rl T' As (Rs++[aH [] ps]):=S2.setR (by
   rw[List.map_append]
   exact((hs.keep (.of_same s2) (zai zaX Rs)).keep kt (zai zaX Rs)).append (HasL.one (hd.keep kt (zaX _))))
  obtain⟨⟨dx3,ho3⟩,_⟩:=id S3
  refine⟨rl,xs,_,rfl,rfl,hlr,Nat.lt_of_le_of_lt (by rw[hlen];exact rlen) (by decide),?_⟩
  refine⟨_,rfl,p,C,dx3,_,_,rfl,ho3,T.cl,T.nR,zdh _ _ _,rl,_,rfl,.inl (SqL.of ad),_,_,rfl,rfl,?_⟩
  have en:(((xs++[V.ref l]).length:Nat):Int) - 1=(Rs.length:Nat):=by rw[List.length_append,hlen];simp
  have fin:=h _ S3 (fun b o e _ n2=>by rw[aq n2];exact s2 b o e)
  show Q (.int ((((xs++[V.ref l]).length:Nat):Int) - 1)) _
  rw[en]
  exact fin
 refine⟨_,ae (zaZ PassesOwn.leaving rfl (zhx (pv 1)) (zay (i:=2) scRw.nd rfl (Or.inl rfl)) (aj (zaI (zaJ (pv 0) T.cl mP GP hr bP .nil (zaw xe1) (aa (pv 2) ac))))) h2,?_⟩
 obtain⟨⟨dx,ho⟩,_⟩:=id S
 have noA:=zcO tl al rl (m:="ask_part") (by decide +kernel) (by decide +kernel) (by decide +kernel)
 have fin:∀ z,ps.any (zaf As.length)=false→SqI K H q ps→t2 { nx:=fun _ H'=>Q .non H',rt:=Q } [some (.ref p),some (.ref q),z] H:=fun z no _=>q2 z no
 rcases hq with hqX | hqX
 ·refine⟨_,rfl,q,rfl,.inl ⟨⟨_,hqX⟩,zfJ (K:=K) (a:=q) (xs:=ps.map V.int) (fun i σ H2=>H2=H∧(∃ z,σ=[some (.ref p),some (.ref q),z])∧(ps.take i).any (zaf As.length)=false)
   ⟨rfl,⟨_,rfl⟩,by simp⟩ (fun i σ H2 _ ⟨e,_⟩=>by rw[e];exact hqX) ?_ ?_⟩⟩
  ·rintro i x σ H2 hx ⟨rfl,⟨z,rfl⟩,no⟩
   obtain⟨k',ek,rfl⟩:=zfe hx
   have sk:=small k' (List.mem_of_getElem? ek)
   refine⟨_,rfl,p,dx,_,rfl,ho,noA,_,rfl,p,tl,al,rl,T',As,Rs,k',rfl,S,sk.1,sk.2,?_⟩
   by_cases hk:zaf As.length k'=true
   ·rw[if_pos hk]
    have e:zdE As.length Rs ps=(.part,Rs):=if_pos (List.any_eq_true.mpr ⟨k',List.mem_of_getElem? ek,hk⟩)
    rw[e]at h
    exact h
   ·rw[if_neg hk]
    refine⟨rfl,⟨_,rfl⟩,?_⟩
    rw[List.take_add_one,ek,List.any_append,no]
    simpa using hk
  ·rintro σ H2 ⟨rfl,⟨z,rfl⟩,no⟩
   rw[List.length_map,List.take_length]at no
   exact fin z no (.inl hqX)
 ·refine⟨_,rfl,q,rfl,.inr ⟨⟨_,hqX⟩,zgB (K:=K) (a:=q) (xs:=ps.map V.int) (fun i σ H2=>H2=H∧(∃ z,σ=[some (.ref p),some (.ref q),z])∧(ps.take i).any (zaf As.length)=false)
   ⟨rfl,⟨_,rfl⟩,by simp⟩ (fun i σ H2 _ ⟨e,_⟩=>by rw[e];exact hqX) ?_ ?_⟩⟩
  ·rintro i x σ H2 hx ⟨rfl,⟨z,rfl⟩,no⟩
   obtain⟨k',ek,rfl⟩:=zfe hx
   have sk:=small k' (List.mem_of_getElem? ek)
   refine⟨_,rfl,p,dx,_,rfl,ho,noA,_,rfl,p,tl,al,rl,T',As,Rs,k',rfl,S,sk.1,sk.2,?_⟩
   by_cases hk:zaf As.length k'=true
   ·rw[if_pos hk]
    have e:zdE As.length Rs ps=(.part,Rs):=if_pos (List.any_eq_true.mpr ⟨k',List.mem_of_getElem? ek,hk⟩)
    rw[e]at h
    exact h
   ·rw[if_neg hk]
    refine⟨rfl,⟨_,rfl⟩,?_⟩
    rw[List.take_add_one,ek,List.any_append,no]
    simpa using hk
  ·rintro σ H2 ⟨rfl,⟨z,rfl⟩,no⟩
   rw[List.length_map,List.take_length]at no
   exact fin z no (.inr hqX)
end
end K75
namespace K75
open PySem L2
open F75 (Tr Fm dTr zaE dFm)
structure Own (P:Program) (w:World) (K:W.Frag) (mg:Str→Option Value) (base:Heap) (C CN CT CP CM:Addr) (fI fA fQ fS fR:Addr) (dI dA' dQ dS dR':FuncData):Prop where
 I:FnOk P w K mg base CX0 1 fI dI ["self"] (zjT C)
 bI:av K dI ["self"] []
 mI:Mk K C fI
 gI:mg "Problem"=some (.ref C)
 A:FnOk P w K mg base (CX1 P w) 4 fA dA' ["self","name","parts"] (spAdd K C CN CT CM)
 bA:av K dA' ["self","name","parts"] []
 mA:zbg K C "add_term" fA
 Q:FnOk P w K mg base (CX1 P w) 4 fQ dQ ["self","name"] (ziN K C CN CT CP CM)
 bQ:av K dQ ["self","name"] []
 mQ:zbg K C "add_plain" fQ
 S:FnOk P w K mg base (CX1 P w) 4 fS dS ["self","one","other"] (zhs K C CN CT CP CM)
 bS:av K dS ["self","one","other"] []
 mS:zbg K C "add_same" fS
 R:FnOk P w K mg base (CX1 P w) 4 fR dR' ["self","parts"] (spRow K C CN CT CP CM)
 bR:av K dR' ["self","parts"] []
 mR:zbg K C "add_row" fR
section
variable {P:Program} {w:World} {K:W.Frag} {mg:Str→Option Value} {base:Heap}
end
theorem ziB (tl al rl:Addr):(zcA tl al rl).lookup ("add_term":Str)=none:=zcO _ _ _ (by decide +kernel) (by decide +kernel) (by decide +kernel)
theorem ze4 (tl al rl:Addr):(zcA tl al rl).lookup ("add_plain":Str)=none:=zcO _ _ _ (by decide +kernel) (by decide +kernel) (by decide +kernel)
theorem zfj (tl al rl:Addr):(zcA tl al rl).lookup ("add_same":Str)=none:=zcO _ _ _ (by decide +kernel) (by decide +kernel) (by decide +kernel)
theorem zjC (tl al rl:Addr):(zcA tl al rl).lookup ("add_row":Str)=none:=zcO _ _ _ (by decide +kernel) (by decide +kernel) (by decide +kernel)
inductive Rl (α:Type) where
 | ok (a:α)
 | er (b:Bool)
def Rl.bind {α β:Type}:Rl α→(α→Rl β)→Rl β
 | .ok a,f=>f a
 | .er b,_=>.er b
theorem Rl.okb {α β:Type} (a:α) (f:α→Rl β):(Rl.ok a).bind f=f a:=rfl
theorem Rl.erb {α β:Type} (b:Bool) (f:α→Rl β):(Rl.er b).bind f=.er b:=rfl
theorem Rl.bind_ok {α β:Type} {x:Rl α} {f:α→Rl β} {y:β} (h:x.bind f=.ok y):∃ a,x=.ok a∧f a=.ok y:=by
 cases x with
 | ok a=>exact⟨a,rfl,h⟩
 | er b=>cases h
theorem Rl.bind_assoc {α β γ:Type} (x:Rl α) (f:α→Rl β) (g:β→Rl γ):(x.bind f).bind g=x.bind fun a=>(f a).bind g:=by
 cases x <;> rfl
def zel (T:List Tm) (n:Str) (ks:List Int):Rl (List Tm × Nat) :=
 if za9 n=false then .er false else if(n,ks)∈T then .ok (T,T.idxOf (n,ks)) else if 60≤T.length then .er true else .ok (T++[(n,ks)],T.length)
mutual
def zcB (T:List Tm):Tr→Rl (List Tm × Nat)
 | .node n ts=>(zaC T ts).bind fun x=>zel x.1 n x.2
def zaC (T:List Tm):List Tr→Rl (List Tm × List Int)
 | []=>.ok (T,[])
 | t :: ts=>(zcB T t).bind fun x=>(zaC x.1 ts).bind fun y=>.ok (y.1,(x.2:Int) :: y.2)
end
mutual
def LTr:Tr→Prop
 | .node n ts=>Low n∧ts.length≤3∧zfq ts
def zfq:List Tr→Prop
 | []=>True
 | t :: ts=>LTr t∧zfq ts
end
theorem zfM:∀ {ts:List Tr},zfq ts→∀ t∈ts,LTr t
 | t :: ts,h,u,hu=>by
  simp only[zfq]at h
  rcases List.mem_cons.mp hu with rfl | hu
  ·exact h.1
  ·exact zfM h.2 u hu
theorem zhj (T:List Tm):∀(xs ys:List Tr),zaC T (xs++ys)=(zaC T xs).bind fun x=>(zaC x.1 ys).bind fun y=>.ok (y.1,x.2++y.2):=fun xs=>by
 induction xs generalizing T with
 | nil =>
  intro ys
  simp only[List.nil_append,zaC,Rl.okb]
  cases zaC T ys <;> rfl
 | cons t xs ih =>
  intro ys
  rw[List.cons_append]
  simp only[zaC,ih,Rl.bind_assoc,Rl.okb,List.cons_append]
theorem zeF {T:List Tm} {ts:List Tr} {i:Nat} {t:Tr} (h:ts[i]?=some t) {x:List Tm × List Int} (e:zaC T (ts.take i)=.ok x):zaC T (ts.take (i+1))=(zcB x.1 t).bind fun y=>.ok (y.1,x.2++[(y.2:Int)]):=by
 rw[zaW h,zhj,e]
 simp only[zaC,Rl.bind_assoc,Rl.okb]
theorem zfL {T:List Tm} {ts:List Tr} {i:Nat} {b:Bool} (e:zaC T (ts.take i)=.er b):zaC T ts=.er b:=by
 have:zaC T ts=zaC T (ts.take i++ts.drop i):=by rw[List.take_append_drop]
 rw[this,zhj,e]
 rfl
theorem zl9 {T:List Tm} {n:Str} {ks:List Int} {x:List Tm × Nat} (h:zel T n ks=.ok x) (t60:T.length≤60):x.1.length≤60∧x.2 < x.1.length∧T.length≤x.1.length:=by
 unfold zel at h
 split at h
 ·cases h
 ·split at h
  ·next c=>cases h;exact⟨t60,List.idxOf_lt_length_of_mem c,Nat.le_refl _⟩
  ·split at h
   ·cases h
   ·cases h
    simp only[List.length_append,List.length_singleton]
    omega
mutual
theorem zmh {T:List Tm} (t60:T.length≤60):∀(t:Tr) {x:List Tm × Nat},zcB T t=.ok x→x.1.length≤60∧x.2 < x.1.length∧T.length≤x.1.length
 | .node n ts,x,h=>by
  simp only[zcB]at h
  obtain⟨y,e1,e2⟩:=Rl.bind_ok h
  obtain⟨l1,_,l3,_⟩:=zbm t60 ts e1
  have:=zl9 e2 l1
  omega
theorem zbm {T:List Tm} (t60:T.length≤60):∀(ts:List Tr) {x:List Tm × List Int},zaC T ts=.ok x→x.1.length≤60∧(∀ k∈x.2,0≤k∧k < (x.1.length:Int))∧T.length≤x.1.length∧x.2.length=ts.length
 | [],x,h=>by
  simp only[zaC]at h
  cases h
  exact⟨t60,(fun k hk=>nomatch hk),Nat.le_refl _,rfl⟩
 | t :: ts,x,h=>by
  simp only[zaC]at h
  obtain⟨y,e1,e2⟩:=Rl.bind_ok h
  obtain⟨z,e3,e4⟩:=Rl.bind_ok e2
  cases e4
  obtain⟨a1,a2,a3⟩:=zmh t60 t e1
  obtain⟨b1,b2,b3,b4⟩:=zbm a1 ts e3
  refine⟨b1,fun k hk=>?_,by dsimp only;omega,by simp only[List.length_cons,b4]⟩
  dsimp only at hk ⊢
  rcases List.mem_cons.mp hk with rfl | hk
  ·omega
  ·exact b2 k hk
end
section
variable {P:Program} {w:World} {K:W.Frag} {mg:Str→Option Value} {base:Heap} {aK C CN CT CP CM:Addr} {f:Addr} {fd:FuncData} {fI fA fQ fS fR:Addr} {dI dA' dQ dS dR':FuncData}
def erV (CN CM:Addr) (b:Bool):Value:=.ref (if b=true then CM else CN)
def zdv (K:W.Frag) (C CN CM:Addr) (n:Nat):Sp:=fun vs H Q E=>∃(p tl al rl:Addr) (T:List Tm) (As:List At) (Rs:List (List Int)) (t:Tr) (v:V),vs=[.ref p,v]∧zaB K C H p tl al rl T As Rs∧Has K H (dTr t) v∧F75.dp t≤n∧LTr t∧T.length≤60 ∧
 (∀ x,zcB T t=.ok x→∀ H',zaB K C H' p tl al rl x.1 As Rs→Fr1 H H' tl→Q (.int (x.2:Nat)) H')∧(∀ b,zcB T t=.er b→∀ H',Fr1 H H' tl→E (erV CN CM b) none H')
theorem zfi:zae ["problem","tree","numbers"] ["problem","tree"] (ao zdw):=⟨rfl,rfl,rfl,by decide +kernel,rfl,by decide +kernel,by decide +kernel⟩
set_option maxHeartbeats 1000000 in
theorem zf5 (F:Fun K "add_tree" "add_tree" zdw f fd) (T:Txt K mg aK C CN CT CP CM) (G:Own P w K mg base C CN CT CP CM fI fA fQ fS fR dI dA' dQ dS dR') (b:av K fd ["problem","tree"] []) (kp:W.keepIn K (.ref f)=true) (m:mg "add_tree"=some (.ref f)) :
  ∀ n,FnOk P w K mg base (CX1 P w) (n+5) f fd ["problem","tree"] (zdv K C CN CM n)
 | 0=>F75.FnOk.no fun _ _ _ _ ⟨_,_,_,_,_,_,_,t,_,_,_,_,h,_⟩=>by
  cases t with
  | node n ts=>simp only[F75.dp]at h;omega
 | n+1=>by
  have IH:=zf5 F T G b kp m n
  refine Fun.okX F zfi (fun vs H Q E h=>?_) (fun cdv A outer s H vs Q E hr h=>?_)
  ·obtain⟨p,tl,al,rl,T',As,Rs,t,v,rfl,_⟩:=h
   rfl
  obtain⟨p,tl,al,rl,T',As,Rs,t,v,rfl,S,hv,hd,gd,t60,q1,q2⟩:=h
  have hr4:aE 4 _:=hr.mono (by omega)
  cases t with
  | node nm ts =>
  obtain⟨pt,pq,xs,rfl,hpt,hpq,hxs⟩:=F75.tr_at hv
  simp only[LTr]at gd
  obtain⟨g2,g3,g4⟩:=gd
  have gts:=zfM g4
  have dts:∀ u∈ts,F75.dp u≤n:=by
   simp only[F75.dp]at hd
   exact F75.dps_le (by omega)
  refine⟨_,(ae (zeW (i:=2) (N':=["part","problem"]) (ix:=[0]) xe1 zfi.nd rfl (Or.inl rfl) rfl rfl (by decide +kernel) (by decide +kernel) rfl (fun ok=>zbY (sc:=ao zdw) ok rfl (by decide +kernel) (by decide +kernel)) (by decide +kernel) rfl rfl (fun j i h=>match j,h with | 0,h=>by cases h;exact⟨_,rfl,rfl,.inl rfl,.inl rfl⟩ | n+1,h=>by simp at h) (zec (aF zat (pv 1) ag (fun _ _=>rfl))) (fun _ _ _ _ _ hp=>(zaa IH hr rfl m kp b .nil hp (aa (pv 1) (aa (pv 0) ac)))))
   (aj (ax (zaJ (pv 0) T.cl G.mA G.A hr4 G.bA .nil (zaw xe1) (aa (aF zat (pv 1) ag (fun _ _=>rfl)) (aa (pv 2) ac)))))),?_⟩
  have at0:atI [V.str nm,V.ref pq] 0=some (.str nm):=zah (j:=0) rfl
  have at1:atI [V.str nm,V.ref pq] 1=some (.ref pq):=zah (j:=1) rfl
  have xl:xs.length=ts.length:=by rw[←hxs.length,F75.dTrs_length]
  obtain⟨⟨dx,ho⟩,⟨tsv,ht,hT⟩,⟨asv,ha,hA⟩,⟨rsv,hrv,hR⟩,na,nr,nx⟩:=id S
  have ktl:∀ {H'},Fr1 H H' tl→zak H H':=fun f=>f.keepT ht
  refine⟨_,rfl,pt,_,_,_,rfl,rfl,hpt,at1,pq,rfl,⟨_,hpq⟩,fun D hD=>?_⟩
  have nDt:D≠tl:=Ne.symm (zag ht hD)
  have nDa:D≠al:=Ne.symm (zag ha hD)
  have nDr:D≠rl:=Ne.symm (zag hrv hD)
  refine zep zd7 (fun i us H'=>∃ x,zaC T' (ts.take i)=.ok x∧Fr1 H H' tl∧zaB K C H' p tl al rl x.1 As Rs∧us=x.2.map V.int) (fun i us H' ⟨_,_,f1,_⟩=>(ktl f1).sq hpq) ⟨_,rfl,Fr1.of_same (ak hD _),S.same (ak hD _),rfl⟩ ?_ ?_
  ·rintro i us H8 x H4 hi hly hDs ⟨y,ey,f4,S4,rfl⟩ ⟨rfl,hx⟩
   obtain⟨u,hu,hxu⟩:=F75.trs_get (hxs.keep (ktl f4) (F75.nols_dTrs _)) (hx _ ((ktl f4).sq hpq))
   have um:=List.mem_of_getElem? hu
   have l4:=(zbm t60 _ ey).1
   have sn:=zeF hu ey
   refine⟨_,rfl,_,rfl,p,tl,al,rl,_,As,Rs,u,x,rfl,S4,hxu,dts u um,gts u um,l4,fun z ez H5 S5 f5=>?_,fun b eb H5 f5=>q2 b ?_ H5 (f4.trans f5)⟩
   ·have hD5:=f5 _ _ hDs nDt
    have S6:=fun o'=>S5.keep (z:=D) (H':=upd H5 D o') (fun c o hc hn=>by rw[aq hn];exact hc) hD5 nDt nDa nDr
    rw[ez]at sn
    refine zbQ (sz _ (by omega)) hi hly hD5 ⟨_,sn,fun c o hc hn=>?_,S6 _,by rw[List.map_append];rfl⟩
    rw[aq (fun e=>by rw[e,hD]at hc;cases hc)]
    exact f5 _ _ (f4 _ _ hc hn) hn
   ·rw[eb]at sn
    simp only[zcB,zfL sn,Rl.erb]
  ·rintro us H4 hDs ⟨y,ey,f4,S4,rfl⟩
   rw[xl,List.take_length]at ey
   obtain⟨⟨dx4,ho4⟩,_⟩:=id S4
   obtain⟨l4,small,_,al3⟩:=zbm t60 _ ey
   refine⟨_,rfl,p,dx4,_,rfl,ho4,ziB _ _ _,_,rfl,pt,_,_,_,rfl,rfl,(ktl f4).sq hpt,at0,_,rfl,p,tl,al,rl,D,_,As,Rs,nm,y.2,rfl,⟨S4,.inl (SqL.of hDs),g2,by omega,fun k hk=>by have:=small k hk;omega,by omega⟩,?_⟩
   have nb:bad y.1 y.2=false:=by
    unfold bad
    rw[decide_eq_false (by omega),Bool.false_or,List.any_eq_false]
    intro k hk
    have:=small k hk
    simp
    omega
   have eA:zcB T' (.node nm ts)=zel y.1 nm y.2:=by simp only[zcB,ey,Rl.okb]
   rw[eA]at q1 q2
   unfold zel at q1 q2
   unfold zdD
   cases g1:za9 nm with
   | false =>
    rw[if_pos rfl]
    rw[if_pos g1]at q2
    exact fun H5 s5=>q2 _ rfl H5 (f4.trans (Fr1.of_same s5))
   | true =>
    rw[if_neg (by decide),nb,if_neg (by decide)]
    rw[if_neg (by rw[g1];decide)]at q1 q2
    by_cases c:(nm,y.2)∈y.1
    ·rw[if_pos c]
     rw[if_pos c]at q1
     exact fun H5 S5 f5=>q1 _ rfl H5 S5 (f4.trans f5)
    ·rw[if_neg c]
     rw[if_neg c]at q1 q2
     by_cases c6:60≤y.1.length
     ·rw[if_pos c6]
      rw[if_pos c6]at q2
      exact fun H5 s5=>q2 _ rfl H5 (f4.trans (Fr1.of_same s5))
     ·rw[if_neg c6]
      rw[if_neg c6]at q1
      exact fun H5 S5 f5=>q1 _ rfl H5 S5 (f4.trans f5)
end
end K75
namespace K75
open PySem L2
open F75 (Tr Fm dTr zaE dFm FOk fdp zaG)
def plF:Fm→List Str
 | .plain z=>[z]
 | .not f=>plF f
 | .bin _ f g=>plF f++plF g
 | _=>[]
def zaz (fs:List Fm):List Str:=fs.flatMap plF
def ownF:Fm→List Str
 | .plain z=>[z]
 | _=>[]
theorem zjZ (f:Fm):plF f=ownF f++zaz (zaG f):=by
 cases f <;> simp [plF,zaz,zaG,ownF]
theorem zcQ {fs:List Fm} {i:Nat} {f:Fm} (h:fs[i]?=some f):zaz (fs.take (i+1))=zaz (fs.take i)++plF f:=by
 rw[zaW h]
 simp [zaz]
theorem zgn (fs:List Fm) (i:Nat):(zaz (fs.take i)).length≤(zaz fs).length:=by
 have e:zaz fs=zaz (fs.take i)++zaz (fs.drop i):=by
  show fs.flatMap plF=_
  conv=>lhs;rw[←List.take_append_drop i fs]
  exact List.flatMap_append
 rw[e,List.length_append]
 omega
def DN (kvs:List (Key × V)) (S:List Str):Prop:=(∀ k,(za0 kvs k).isSome=true↔∃ z∈S,k=.inr z)∧kvs.length≤S.length
theorem DN.nil:DN [] []:=⟨fun k=>⟨fun h=>(Bool.false_ne_true h).elim,fun⟨z,h,_⟩=>nomatch h⟩,Nat.le_refl _⟩
theorem DN.put {kvs:List (Key × V)} {S:List Str} {z:Str} {v:V} (h:DN kvs S):DN (zbn kvs (.inr z) v) (S++[z]):=by
 refine⟨fun k=>?_,?_⟩
 ·rw[zhO]
  by_cases c:k=.inr z
  ·rw[if_pos c]
   exact⟨fun _=>⟨z,by simp,c⟩,fun _=>rfl⟩
  ·rw[if_neg c,h.1 k]
   refine⟨fun⟨y,hy,e⟩=>⟨y,by simp [hy],e⟩,fun⟨y,hy,e⟩=>?_⟩
   rcases List.mem_append.mp hy with hy | hy
   ·exact⟨y,hy,e⟩
   ·rw[List.mem_singleton.mp hy]at e
    exact absurd e c
 ·have:=zdb kvs (.inr z) v
  have:=h.2
  rw[List.length_append,List.length_singleton]
  omega
theorem ziJ {k:Key}:∀ {kvs:List (Key × V)},(za0 kvs k).isSome=true↔∃ e∈kvs,e.1=k:=fun {kvs}=>by
 rw[←zdJ]
 simp [List.any_eq_true]
theorem zkq {k:Key}:∀(more kvs:List (Key × V)),(za0 (zct kvs more) k).isSome=true↔(za0 kvs k).isSome=true∨(za0 more k).isSome=true:=fun more=>by
 induction more with
 | nil=>intro kvs;exact⟨.inl,fun h=>h.elim id fun z=>(Bool.false_ne_true z).elim⟩
 | cons e more ih =>
  intro kvs
  show(za0 (zct (zbn kvs e.1 e.2) more) k).isSome=true↔_
  rw[ih,zhO,ziJ (kvs:=e :: more)]
  by_cases c:k=e.1
  ·rw[if_pos c]
   exact⟨fun _=>.inr ⟨e,by simp,c.symm⟩,fun _=>.inl rfl⟩
  ·rw[if_neg c,ziJ (kvs:=more)]
   constructor
   ·rintro (h | ⟨x,hx,e⟩)
    ·exact .inl h
    ·exact .inr ⟨x,List.mem_cons_of_mem _ hx,e⟩
   ·rintro (h | ⟨x,hx,e'⟩)
    ·exact .inl h
    ·rcases List.mem_cons.mp hx with rfl | hx
     ·exact absurd e'.symm c
     ·exact .inr ⟨x,hx,e'⟩
theorem DN.merge {kvs more:List (Key × V)} {S S':List Str} (h:DN kvs S) (h':DN more S'):DN (zct kvs more) (S++S'):=by
 refine⟨fun k=>?_,?_⟩
 ·rw[zkq,h.1,h'.1]
  constructor
  ·rintro (⟨z,a,b⟩ | ⟨z,a,b⟩)
   ·exact⟨z,by simp [a],b⟩
   ·exact⟨z,by simp [a],b⟩
  ·rintro ⟨z,a,b⟩
   rcases List.mem_append.mp a with a | a
   ·exact .inl ⟨z,a,b⟩
   ·exact .inr ⟨z,a,b⟩
 ·have:=zdp more kvs
  have:=h.2
  have:=h'.2
  rw[List.length_append]
  omega
theorem DN.has {kvs:List (Key × V)} {S:List Str} (h:DN kvs S) (z:Str):(za0 kvs (.inr z)).isSome=decide (z∈S):=by
 by_cases c:z∈S
 ·rw[decide_eq_true c]
  exact(h.1 _).mpr ⟨z,c,rfl⟩
 ·rw[decide_eq_false c]
  cases e:(za0 kvs (.inr z)).isSome with
  | false=>rfl
  | true =>
   obtain⟨y,hy,e'⟩:=(h.1 _).mp e
   cases e'
   exact absurd hy c
theorem zak.but {H:Hp} {d:Addr} {u o:HO} (h:H d=some u) (n:∀ xs,u≠.tup xs) (n2:∀ q xs,u≠.frz q (.tup xs)):zak H (upd H d o):=fun b zs q=>by
 rcases q with q | ⟨o,q⟩
 ·exact .inl (by rw[aq (fun e=>by rw[e,h]at q;exact n _ (Option.some.inj q))];exact q)
 ·exact .inr ⟨o,by rw[aq (fun e=>by rw[e,h]at q;exact n2 _ _ (Option.some.inj q))];exact q⟩
structure TxN (mg:Str→Option Value):Prop where
 divmod:mg "divmod"=none
 enumerate:mg "enumerate"=none
section
variable {P:Program} {w:World} {K:W.Frag} {mg:Str→Option Value} {base:Heap} {aK C CN CT CP CM:Addr} {f fF:Addr} {fd dF:FuncData}
def sp_pn (K:W.Frag) (n:Nat):Sp:=fun vs H Q _=>∃(l:Addr) (xs:List V) (fs:List Fm),vs=[.ref l]∧SqL K H l xs∧HasL K H (fs.map dFm) xs∧0 < n∧(∀ g∈fs,FOk g∧fdp g < n)∧(zaz fs).length≤100000 ∧
 ∀(H':Hp) (d:Addr) (kvs:List (Key × V)),ar H H'→H d=none→H' d=some (.dK kvs)→DN kvs (zaz fs)→Q (.ref d) H'
theorem zc8:zae ["formulas","found","formula"] ["formulas"] (ao zdm):=⟨rfl,rfl,rfl,by decide +kernel,rfl,by decide +kernel,by decide +kernel⟩
theorem zhJ {g u:Fm} (h:u∈zaG g):fdp u < fdp g:=by
 cases g with
 | not f=>simp only[zaG,List.mem_singleton]at h;subst h;simp only[fdp];omega
 | bin k f g =>
  simp only[zaG,List.mem_cons,List.not_mem_nil,or_false]at h
  simp only[fdp]
  rcases h with rfl | rfl <;> omega
 | _=>exact absurd h (by simp [zaG])
theorem zhI {g u:Fm} (h:u∈zaG g) (ok:FOk g):FOk u:=by
 cases g with
 | not f=>simp only[zaG,List.mem_singleton]at h;subst h;exact ok
 | bin k f g =>
  simp only[zaG,List.mem_cons,List.not_mem_nil,or_false]at h
  rcases h with rfl | rfl
  ·exact ok.2.1
  ·exact ok.2.2
 | _=>exact absurd h (by simp [zaG])
theorem szB {n:Nat} (h:n≤1000000):n≤sizeLine:=F75.szM (by omega)
theorem ok_pn (F:Fun K "plain_names" "plain_names" zdm f fd) (b:av K fd ["formulas"] []) (kp:W.keepIn K (.ref f)=true) (m:mg "plain_names"=some (.ref f)) (BF:FB P w K mg base CX0 1 "inner_formulas" fF dF ["formula"] (F75.sp_ifms K)) :
  ∀ n,FnOk P w K mg base CX0 (n+1) f fd ["formulas"] (sp_pn K n)
 | 0=>F75.FnOk.no fun _ _ _ _ ⟨_,_,_,_,_,_,h,_⟩=>absurd h (by decide)
 | n+1=>by
  have IH:=ok_pn F b kp m BF n
  refine F.ok zc8 (fun vs H Q E h=>?_) (fun cdv A outer s H vs Q E hr h=>?_)
  ·obtain⟨l,xs,fs,rfl,_⟩:=h
   rfl
  obtain⟨l,xs,fs,rfl,hl,hx,_,ok,big,q⟩:=h
  have hu:=hu_of hr
  have hr1:aE 1 _:=hr.mono (by omega)
  refine⟨_,(ae (aA (i:=1) zc8.nd rfl (Or.inl rfl) zlb)
   (ae (zaZ PassesOwn.never rfl (za6 (pv 0)) (zay (i:=2) zc8.nd rfl (Or.inl rfl))
    (ae (zao (aw zav (aF zat (pv 2) ag (fun _ _=>rfl)) zab (ay _))
      (aj (zlS hu (pv 1) (aF zat (pv 2) ag (fun _ _=>rfl)) zcT rfl))
      zad)
     (aj (zaI (zbB PySem.F.plainAttrs_dict PySem.F.slot_dict_update PySem.F.type_dict_update zkM (pv 1) (aa (zaa IH hr rfl m kp b .nil zal (aa (zaa BF.ok hr1 rfl BF.m BF.kp BF.b .nil zal (aa (pv 2) ac)) ac)) ac))))))
   (aj (ax (pv 1))))),?_⟩
  refine fun d hd=>?_
  have xl:xs.length=fs.length:=by rw[←hx.length,List.length_map]
  have keep:∀ {H':Hp},ar H H'→SqL K H' l xs:=fun s'=>s'.seq hl
  refine⟨_,rfl,l,rfl,⟨_,keep (ak hd _)⟩,zbO za5 (fun i σ H'=>∃(v:Option V) (kvs:List (Key × V)),σ=[some (.ref l),some (.ref d),v]∧ar H H'∧H' d=some (.dK kvs)∧DN kvs (zaz (fs.take i))) (fun i σ H' ⟨_,_,_,s',_⟩=>keep s')
   ⟨none,[],rfl,ak hd _,ad,DN.nil⟩ ?_ ?_⟩
  ·rintro i σ H2 x H3 hi ⟨v,kvs,rfl,s2,d2,dn⟩ ⟨rfl,hy⟩
   obtain⟨g,hg,hxg⟩:=F75.fms_get (hx.keep s2.kt (F75.nols_fms _)) (hy _ (keep s2))
   have gm:=List.mem_of_getElem? hg
   obtain⟨okg,ltg⟩:=ok g gm
   have pos:=F75.fdp_pos g
   obtain⟨p,ys,rfl,hp,hys⟩:=F75.fm_at hxg
   have a0:atI (V.str (F75.hdF g) :: ys) 0=some (.str (F75.hdF g)):=zah (j:=0) rfl
   have pl:=zgn fs (i+1)
   rw[zcQ hg,zjZ,List.length_append,List.length_append]at pl
   have go:∀ {H4 H5 H6:Hp} {kv4 kv6:List (Key × V)},ar H H4→ar H4 H5→ar H5 H6→DN kv4 (zaz (fs.take i)++ownF g)→DN kv6 (zaz (zaG g))→∃(v:Option V) (kvs:List (Key × V)),[some (V.ref l),some (.ref d),some (.ref p)]=[some (.ref l),some (.ref d),v]∧ar H (upd H6 d (.dK (zct kv4 kv6)))∧upd H6 d (.dK (zct kv4 kv6)) d=some (.dK kvs)∧DN kvs (zaz (fs.take (i+1))):=fun {H4 H5 H6 kv4 kv6} s4 s5 s6 d4 d6 =>
    ⟨_,_,rfl,((s4.trans s5).trans s6).upd hd,ad,by rw[zcQ hg,zjZ,←List.append_assoc];exact d4.merge d6⟩
   refine⟨_,rfl,p,_,_,_,rfl,rfl,hp,a0,rfl,_,rfl,aI (fun c=>?_) (fun c=>?_)⟩
   ·have e:F75.hdF g="plain":=by
     have:=of_decide_eq_true c
     injection this
    obtain⟨z,rfl⟩:∃ z,g=.plain z:=by
     cases g with
     | plain z=>exact⟨z,rfl⟩
     | bare z =>
      simp only[F75.hdF]at e
      rcases okg with h | h <;> (rw[h]at e;exact absurd e (by decide +kernel))
     | bin k f g =>
      simp only[F75.hdF]at e
      rcases okg.1 with h | h | h | h <;> (rw[h]at e;exact absurd e (by decide +kernel))
     | same a b=>exact absurd e (show ¬("same":Str)="plain" by decide +kernel)
     | unlike ts=>exact absurd e (show ¬("unlike":Str)="plain" by decide +kernel)
     | not f=>exact absurd e (show ¬("not":Str)="plain" by decide +kernel)
    simp only[F75.tlF,HasL,Has]at hys
    obtain⟨_,_,rfl,rfl,rfl⟩:=hys
    have a1:atI [V.str (F75.hdF (.plain z)),V.str z] 1=some (.str z):=zah (j:=1) rfl
    have lk:kvs.length < sizeLine:=Nat.lt_of_le_of_lt dn.2 (Nat.lt_of_lt_of_le (show _ < 1000000 by omega) (szB (Nat.le_refl _)))
    refine⟨_,rfl,_,rfl,p,_,_,_,rfl,rfl,hp,a1,d,_,rfl,zfs.k (k:=.inr z) d2 lk,?_⟩
    have s4:ar H (upd H3 d (.dK (zbn kvs (.inr z) (.bl true)))):=s2.upd hd
    have n4:=ad (H:=H3) (a:=d) (o:=.dK (zbn kvs (.inr z) (.bl true)))
    have k4:zak H3 (upd H3 d (.dK (zbn kvs (.inr z) (.bl true)))):=zak.but d2 (fun _ e=>by cases e) (fun _ _ e=>by cases e)
    have hp4:=k4.sq hp
    have hg4:=hxg.keep k4 (F75.nol_dFm _)
    have dn4:=dn.put (z:=z) (v:=.bl true)
    generalize upd H3 d (.dK (zbn kvs (.inr z) (.bl true)))=H4 at s4 n4 hp4 hg4
    refine⟨_,rfl,.inr (.inr (.inl ⟨rfl,.inl ⟨_,n4⟩⟩)),_,rfl,.plain z,.ref p,rfl,hg4,okg,fun H5 l5 xs5 s5 n5 h5 hx5=>⟨l5,xs5,_,rfl,SqL.of h5,hx5,by omega,fun u hu'=>⟨zhI hu' okg,by have:=zhJ hu';omega⟩,by omega,fun H6 d6 kv6 s6 n6 h6 dn6=>?_⟩⟩
    have hd6:=s6 _ _ (s5 _ _ n4)
    exact⟨d,d6,_,_,rfl,rfl,(fun e=>by rw[←e]at n6;rw[s5 _ _ n4]at n6;cases n6),hd6,h6,szB (by have e1:=dn4.2;rw[List.length_append]at e1;have e2:=dn6.2;have e3:(ownF (.plain z)).length=1:=rfl;have e4:[z].length=1:=rfl;omega),go s4 s5 s6 dn4 dn6⟩
   ·have e:ownF g=[]:=by
     cases g with
     | plain z=>exact absurd (decide_eq_true (rfl:V.str (F75.hdF (.plain z))=V.str "plain")) c
     | _=>rfl
    have dn4:DN kvs (zaz (fs.take i)++ownF g):=by rw[e,List.append_nil];exact dn
    refine⟨_,rfl,.inr (.inr (.inl ⟨rfl,.inl ⟨_,d2⟩⟩)),_,rfl,g,.ref p,rfl,hxg,okg,fun H5 l5 xs5 s5 n5 h5 hx5=>⟨l5,xs5,_,rfl,SqL.of h5,hx5,by omega,fun u hu'=>⟨zhI hu' okg,by have:=zhJ hu';omega⟩,by omega,fun H6 d6 kv6 s6 n6 h6 dn6=>?_⟩⟩
    have hd6:=s6 _ _ (s5 _ _ d2)
    exact⟨d,d6,_,_,rfl,rfl,(fun e=>by rw[←e]at n6;rw[s5 _ _ d2]at n6;cases n6),hd6,h6,szB (by have:=dn.2;have:=dn6.2;omega),go s2 s5 s6 dn4 dn6⟩
  ·rintro σ H2 ⟨v,kvs,rfl,s2,d2,dn⟩
   rw[xl,List.take_length]at dn
   exact⟨_,rfl,q _ d _ s2 hd d2 dn⟩
def ltr (i:Nat):Str:=⟨#[(abc.cps.toList[i]?).getD 0]⟩
def zaH (k:Nat):Str:=if k < 26 then "z"++ltr k else "z"++(ltr (k / 26 - 1)++ltr (k % 26))
theorem ltr_at {i:Nat} (h:i < 26):atI abc.cps.toList (i:Int)=some ((abc.cps.toList[i]?).getD 0):=by
 have e:abc.cps.toList[i]?=some (abc.cps.toList[i]'(by rw[zmk];exact h)):=List.getElem?_eq_getElem _
 rw[e]
 exact zah e
theorem ziz (z:Str):z++("":Str)=z:=by
 show(⟨z.cps++#[]⟩:Str)=z
 rw[Array.append_empty]
def zf0:Sp:=fun vs H Q _=>∃ k:Nat,vs=[.int k]∧k < 702∧∀ H',ar H H'→Q (.str (zaH k)) H'
theorem zb6:zae ["number","letters","left","pair"] ["number"] (ao zeD):=⟨rfl,rfl,rfl,by decide +kernel,rfl,by decide +kernel,by decide +kernel⟩
theorem zjx (F:Fun K "new_name" "new_name" zeD f fd) (T:Txt K mg aK C CN CT CP CM) (TN:TxN mg):FnOk P w K mg base CX0 1 f fd ["number"] zf0:=by
 refine F.ok zb6 (fun vs H Q E h=>?_) (fun cdv A outer s H vs Q E hr h=>?_)
 ·obtain⟨k,rfl,_⟩:=h
  rfl
 obtain⟨k,rfl,hk,q⟩:=h
 obtain⟨t1,e1⟩:=T.small
 refine⟨_,(ae (aA (i:=1) zb6.nd rfl (Or.inl rfl) zab)
  (ae (aA (i:=2) zb6.nd rfl (Or.inl rfl) (au zaM (pv 0) ag))
  (ae (zfC PassesOwn.never (aw zcU (pv 2) ag (ay _))
   (ae (aA (i:=3) zb6.nd rfl (Or.inl rfl) (zap ziI rfl TN.divmod PyProof.Rows.Boot.divmod (aa (au zcc (pv 2) ag) (aa (zap zdR rfl T.len PySem.boot_len (aa (zba (v:=.str abc) rfl e1 ⟨_,rfl⟩) ac)) ac))))
    (ae (aA (i:=1) zb6.nd rfl (Or.inl rfl) (au zcY (aF zkd (zba (v:=.str abc) rfl e1 ⟨_,rfl⟩) (aF zat (pv 3) ag (fun _ _=>rfl)) (fun _ _=>rfl)) (pv 1)))
    (aj (aA (i:=2) zb6.nd rfl (Or.inl rfl) (aF zat (pv 3) ag (fun _ _=>rfl)))))))
  (aj (ax (au zcY zab (pv 1))))))),?_⟩
 refine⟨_,rfl,_,_,rfl,rfl,fun m σ H'=>ar H H'∧∃(y:Str) (v:Option V),σ=[some (.int k),some (.str y),some (.int m),v]∧((y=""∧m=k+1)∨(y=ltr (k % 26)∧m=k / 26)∨(y=ltr (k / 26 - 1)++ltr (k % 26)∧m=0∧26≤k)),⟨k+1,ar.refl _,"",none,rfl,.inl ⟨rfl,rfl⟩⟩,?_⟩
 rintro m σ H2 ⟨s2,y,v,rfl,st⟩
 refine⟨_,rfl,_,_,rfl,rfl,_,rfl,aI (fun c=>?_) (fun c=>?_)⟩
 ·have m1:0 < m:=by
   have:(0:Int) < (m:Int):=of_decide_eq_true c
   omega
  refine⟨fun σ' H'=>∃ m',m' < m∧ar H H'∧∃(y:Str) (v:Option V),σ'=[some (.int k),some (.str y),some (.int m'),v]∧((y=""∧m'=k+1)∨(y=ltr (k % 26)∧m'=k / 26)∨(y=ltr (k / 26 - 1)++ltr (k % 26)∧m'=0∧26≤k)),fun _ _ h=>h,?_⟩
  have e26:((abc.length:Nat):Int)=26:=by decide +kernel
  refine⟨_,rfl,_,_,rfl,rfl,abc,rfl,sz _ (by decide +kernel),_,_,rfl,by rw[e26];exact⟨by decide,by decide⟩,fun p hp=>?_⟩
  rw[e26]
  have s3:ar H2 (upd H2 p (.tup [.int (((m:Int) - 1) / 26),.int (((m:Int) - 1) % 26)])):=ak hp _
  have n3:=ad (H:=H2) (a:=p) (o:=.tup [.int (((m:Int) - 1) / 26),.int (((m:Int) - 1) % 26)])
  generalize upd H2 p (.tup [.int (((m:Int) - 1) / 26),.int (((m:Int) - 1) % 26)])=H3 at s3 n3
  have ed:((m:Int) - 1) / 26=((m - 1) / 26:Nat):=by omega
  have em:((m:Int) - 1) % 26=((m - 1) % 26:Nat):=by omega
  rw[ed,em]at n3
  have a0:atI [V.int ((m - 1) / 26:Nat),V.int ((m - 1) % 26:Nat)] 0=some (.int ((m - 1) / 26:Nat)):=zah (j:=0) rfl
  have a1:atI [V.int ((m - 1) / 26:Nat),V.int ((m - 1) % 26:Nat)] 1=some (.int ((m - 1) % 26:Nat)):=zah (j:=1) rfl
  have l26:=ltr_at (i:=(m - 1) % 26) (by omega)
  have yl:y.length≤2:=by
   rcases st with ⟨rfl,_⟩ | ⟨rfl,_⟩ | ⟨rfl,_⟩
   ·decide +kernel
   ·exact Nat.le_succ _
   ·rw[zaK];exact Nat.le_refl _
  refine⟨_,rfl,p,_,_,_,rfl,rfl,SqT.of n3,a1,abc,_,_,rfl,rfl,sz _ (by decide +kernel),l26,_,rfl,_,_,rfl,rfl,sz _ (by rw[zl0];omega),_,rfl,p,_,_,_,rfl,rfl,SqT.of n3,a0,(m - 1) / 26,by omega,s2.trans s3,_,_,rfl,?_⟩
  rcases st with ⟨rfl,rfl⟩ | ⟨rfl,rfl⟩ | ⟨rfl,rfl,_⟩
  ·exact .inr (.inl ⟨ziz _,by omega⟩)
  ·refine .inr (.inr ⟨?_,by omega,by omega⟩)
   have:(k / 26 - 1) % 26=k / 26 - 1:=by omega
   rw[this]
   rfl
  ·omega
 ·have m0:m=0:=by
   have:¬(0:Int) < (m:Int):=of_decide_eq_false (Bool.eq_false_iff.mpr c)
   omega
  have ey:("z":Str)++y=zaH k:=by
   unfold zaH
   rcases st with ⟨_,h⟩ | ⟨rfl,h⟩ | ⟨rfl,_,h⟩
   ·omega
   ·rw[if_pos (by omega),Nat.mod_eq_of_lt (by omega)]
   ·rw[if_neg (by omega)]
  have yl:y.length≤2:=by
   rcases st with ⟨rfl,_⟩ | ⟨rfl,_⟩ | ⟨rfl,_⟩
   ·decide +kernel
   ·exact Nat.le_succ _
   ·rw[zaK];exact Nat.le_refl _
  refine⟨_,rfl,_,_,rfl,rfl,sz _ (by have:("z":Str).length=1:=(by decide +kernel);omega),?_⟩
  rw[ey]
  exact q _ s2
end
end K75
namespace K75
open PySem L2
open F75 (Tr Fm dTr zaE dFm FOk fdp zaG)
def prF (k:Str) (n a b:Int):List (List Int) :=
 if k="and" then [[-n,a],[-n,b],[n,-a,-b]] else if k="or" then [[-n,a,b],[n,-a],[n,-b]] else if k="then" then [[-n,-a,b],[n,a],[n,-b]] else [[-n,-a,b],[-n,a,-b],[n,a,b],[n,-a,-b]]
def zc5 (H H':Hp) (a:Addr) (rs:List (List Int)):Prop:=ar H H'∧H a=none∧∃ ps:List (Addr × List Int),H' a=some (.lst (ps.map fun x=>V.ref x.1))∧ps.map (·.2)=rs∧∀ x∈ps,H x.1=none∧H' x.1=some (.tup (x.2.map V.int))
theorem new3 {H:Hp} {p1 p2 p3 l:Addr} {r1 r2 r3:List Int} {u1 u2 u3:List V} (e1:u1=r1.map V.int) (e2:u2=r2.map V.int) (e3:u3=r3.map V.int) (h1:H p1=none) (h2:upd H p1 (.tup u1) p2=none) (h3:upd (upd H p1 (.tup u1)) p2 (.tup u2) p3=none) (hl:upd (upd (upd H p1 (.tup u1)) p2 (.tup u2)) p3 (.tup u3) l=none) :
  zc5 H (upd (upd (upd (upd H p1 (.tup u1)) p2 (.tup u2)) p3 (.tup u3)) l (.lst [.ref p1,.ref p2,.ref p3])) l [r1,r2,r3]:=by
 subst e1 e2 e3
 have s1:=ak h1 (.tup (r1.map V.int))
 have s2:=ak h2 (.tup (r2.map V.int))
 have s3:=ak h3 (.tup (r3.map V.int))
 have s4:=ak hl (.lst [.ref p1,.ref p2,.ref p3])
 have n1:=ad (H:=H) (a:=p1) (o:=.tup (r1.map V.int))
 generalize upd H p1 (.tup (r1.map V.int))=H1 at *
 have n2:=ad (H:=H1) (a:=p2) (o:=.tup (r2.map V.int))
 generalize upd H1 p2 (.tup (r2.map V.int))=H2 at *
 have n3:=ad (H:=H2) (a:=p3) (o:=.tup (r3.map V.int))
 generalize upd H2 p3 (.tup (r3.map V.int))=H3 at *
 have n4:=ad (H:=H3) (a:=l) (o:=.lst [.ref p1,.ref p2,.ref p3])
 refine⟨((s1.trans s2).trans s3).trans s4,s1.free (s2.free (s3.free hl)),[(p1,r1),(p2,r2),(p3,r3)],n4,rfl,fun x hx=>?_⟩
 simp only[List.mem_cons,List.not_mem_nil,or_false]at hx
 rcases hx with rfl | rfl | rfl
 ·exact⟨h1,s4 _ _ (s3 _ _ (s2 _ _ n1))⟩
 ·exact⟨s1.free h2,s4 _ _ (s3 _ _ n2)⟩
 ·exact⟨s1.free (s2.free h3),s4 _ _ n3⟩
theorem new4 {H:Hp} {p1 p2 p3 p4 l:Addr} {r1 r2 r3 r4:List Int} {u1 u2 u3 u4:List V} (e1:u1=r1.map V.int) (e2:u2=r2.map V.int) (e3:u3=r3.map V.int) (e4:u4=r4.map V.int) (h1:H p1=none) (h2:upd H p1 (.tup u1) p2=none) (h3:upd (upd H p1 (.tup u1)) p2 (.tup u2) p3=none) (h4:upd (upd (upd H p1 (.tup u1)) p2 (.tup u2)) p3 (.tup u3) p4=none) (hl:upd (upd (upd (upd H p1 (.tup u1)) p2 (.tup u2)) p3 (.tup u3)) p4 (.tup u4) l=none) :
  zc5 H (upd (upd (upd (upd (upd H p1 (.tup u1)) p2 (.tup u2)) p3 (.tup u3)) p4 (.tup u4)) l (.lst [.ref p1,.ref p2,.ref p3,.ref p4])) l [r1,r2,r3,r4]:=by
 subst e1 e2 e3 e4
 have s1:=ak h1 (.tup (r1.map V.int))
 have s2:=ak h2 (.tup (r2.map V.int))
 have s3:=ak h3 (.tup (r3.map V.int))
 have s4:=ak h4 (.tup (r4.map V.int))
 have s5:=ak hl (.lst [.ref p1,.ref p2,.ref p3,.ref p4])
 have n1:=ad (H:=H) (a:=p1) (o:=.tup (r1.map V.int))
 generalize upd H p1 (.tup (r1.map V.int))=H1 at *
 have n2:=ad (H:=H1) (a:=p2) (o:=.tup (r2.map V.int))
 generalize upd H1 p2 (.tup (r2.map V.int))=H2 at *
 have n3:=ad (H:=H2) (a:=p3) (o:=.tup (r3.map V.int))
 generalize upd H2 p3 (.tup (r3.map V.int))=H3 at *
 have n4:=ad (H:=H3) (a:=p4) (o:=.tup (r4.map V.int))
 generalize upd H3 p4 (.tup (r4.map V.int))=H4 at *
 have n5:=ad (H:=H4) (a:=l) (o:=.lst [.ref p1,.ref p2,.ref p3,.ref p4])
 refine⟨(((s1.trans s2).trans s3).trans s4).trans s5,s1.free (s2.free (s3.free (s4.free hl))),[(p1,r1),(p2,r2),(p3,r3),(p4,r4)],n5,rfl,fun x hx=>?_⟩
 simp only[List.mem_cons,List.not_mem_nil,or_false]at hx
 rcases hx with rfl | rfl | rfl | rfl
 ·exact⟨h1,s5 _ _ (s4 _ _ (s3 _ _ (s2 _ _ n1)))⟩
 ·exact⟨s1.free h2,s5 _ _ (s4 _ _ (s3 _ _ n2))⟩
 ·exact⟨s1.free (s2.free h3),s5 _ _ (s4 _ _ n3)⟩
 ·exact⟨s1.free (s2.free (s3.free h4)),s5 _ _ n4⟩
section
variable {P:Program} {w:World} {K:W.Frag} {mg:Str→Option Value} {base:Heap} {aK C CN CT CP CM CZ:Addr} {f fF:Addr} {fd dF:FuncData} {fI fA fQ fS fR:Addr} {dI dA' dQ dS dR':FuncData}
def zgf:Sp:=fun vs H Q _=>∃(k:Str) (n a b:Int),vs=[.str k,.int n,.int a,.int b]∧(k="and"∨k="or"∨k="then"∨k="as")∧∀ H' l,zc5 H H' l (prF k n a b)→Q (.ref l) H'
theorem zit:zae ["kind","new","one","other"] ["kind","new","one","other"] (ao zd5):=⟨rfl,rfl,rfl,by decide +kernel,rfl,by decide +kernel,by decide +kernel⟩
theorem zl3 (F:Fun K "pair_rows" "pair_rows" zd5 f fd):FnOk P w K mg base CX0 1 f fd ["kind","new","one","other"] zgf:=by
 refine F.ok zit (fun vs H Q E h=>?_) (fun cdv A outer s H vs Q E hr h=>?_)
 ·obtain⟨k,n,a,b,rfl,_⟩:=h
  rfl
 obtain⟨k,n,a,b,rfl,hk,q⟩:=h
 refine⟨_,(ae (zao (aw zav (pv 0) zab (ay _))
   (aj (ax (zam (aa (zaD (aa (zaY zaP (pv 1)) (aa (pv 2) ac))) (aa (zaD (aa (zaY zaP (pv 1)) (aa (pv 3) ac))) (aa (zaD (aa (pv 1) (aa (zaY zaP (pv 2)) (aa (zaY zaP (pv 3)) ac)))) ac))))))
   zad)
  (ae (zao (aw zav (pv 0) zab (ay _))
   (aj (ax (zam (aa (zaD (aa (zaY zaP (pv 1)) (aa (pv 2) (aa (pv 3) ac)))) (aa (zaD (aa (pv 1) (aa (zaY zaP (pv 2)) ac))) (aa (zaD (aa (pv 1) (aa (zaY zaP (pv 3)) ac))) ac))))))
   zad)
  (ae (zao (aw zav (pv 0) zab (ay _))
   (aj (ax (zam (aa (zaD (aa (zaY zaP (pv 1)) (aa (zaY zaP (pv 2)) (aa (pv 3) ac)))) (aa (zaD (aa (pv 1) (aa (pv 2) ac))) (aa (zaD (aa (pv 1) (aa (zaY zaP (pv 3)) ac))) ac))))))
   zad)
  (aj (ax (zam (aa (zaD (aa (zaY zaP (pv 1)) (aa (zaY zaP (pv 2)) (aa (pv 3) ac)))) (aa (zaD (aa (zaY zaP (pv 1)) (aa (pv 2) (aa (zaY zaP (pv 3)) ac)))) (aa (zaD (aa (pv 1) (aa (pv 2) (aa (pv 3) ac)))) (aa (zaD (aa (pv 1) (aa (zaY zaP (pv 2)) (aa (zaY zaP (pv 3)) ac)))) ac)))))))))),?_⟩
 have z2:2≤sizeLine:=by decide
 have z3:3≤sizeLine:=by decide
 have z4:4≤sizeLine:=by decide
 have str:∀ {x y:Str},decide (V.str x=V.str y)=true→x=y:=fun h=>by
  have:=of_decide_eq_true h
  injection this
 have nst:∀ {x y:Str},¬decide (V.str x=V.str y)=true→x≠y:=fun h e=>h (by rw[e];exact decide_eq_true rfl)
 refine⟨_,rfl,rfl,_,rfl,aI (fun c=>?_) (fun c=>?_)⟩
 ·refine⟨_,rfl,_,rfl,_,rfl,z2,fun p1 h1=>⟨_,rfl,_,rfl,_,rfl,z2,fun p2 h2=>⟨_,rfl,_,rfl,_,rfl,_,rfl,_,rfl,z3,fun p3 h3=>⟨z3,fun l hl=>q _ l ?_⟩⟩⟩⟩
  unfold prF
  rw[if_pos (str c)]
  exact new3 rfl rfl rfl h1 h2 h3 hl
 refine⟨_,rfl,rfl,_,rfl,aI (fun c2=>?_) (fun c2=>?_)⟩
 ·refine⟨_,rfl,_,rfl,_,rfl,_,rfl,z3,fun p1 h1=>⟨_,rfl,_,rfl,_,rfl,z2,fun p2 h2=>⟨_,rfl,_,rfl,_,rfl,z2,fun p3 h3=>⟨z3,fun l hl=>q _ l ?_⟩⟩⟩⟩
  unfold prF
  rw[if_neg (nst c),if_pos (str c2)]
  exact new3 rfl rfl rfl h1 h2 h3 hl
 refine⟨_,rfl,rfl,_,rfl,aI (fun c3=>?_) (fun c3=>?_)⟩
 ·refine⟨_,rfl,_,rfl,_,rfl,_,rfl,_,rfl,z3,fun p1 h1=>⟨_,rfl,_,rfl,z2,fun p2 h2=>⟨_,rfl,_,rfl,_,rfl,z2,fun p3 h3=>⟨z3,fun l hl=>q _ l ?_⟩⟩⟩⟩
  unfold prF
  rw[if_neg (nst c),if_neg (nst c2),if_pos (str c3)]
  exact new3 rfl rfl rfl h1 h2 h3 hl
 refine⟨_,rfl,_,rfl,_,rfl,_,rfl,_,rfl,z3,fun p1 h1=>⟨_,rfl,_,rfl,_,rfl,_,rfl,_,rfl,z3,fun p2 h2=>⟨_,rfl,_,rfl,_,rfl,z3,fun p3 h3=>⟨_,rfl,_,rfl,_,rfl,_,rfl,_,rfl,z3,fun p4 h4=>⟨z4,fun l hl=>q _ l ?_⟩⟩⟩⟩⟩
 unfold prF
 rw[if_neg (nst c),if_neg (nst c2),if_neg (nst c3)]
 exact new4 rfl rfl rfl rfl h1 h2 h3 h4 hl
end
end K75
namespace K75
open PySem L2
open F75 (Tr Fm dTr zaE dFm FOk fdp zaG)
theorem zf4 (f:Str) (u v:V):∀ fs:List (Str × V),zas f v (zas f u fs)=zas f v fs
 | []=>by simp only[zas,if_pos]
 | (g,x) :: r=>by
  by_cases c:g=f
  ·simp only[zas,if_pos c]
  ·simp only[zas,if_neg c,zf4 f u v r]
theorem zcC (f:Str) (v:V):∀ fs:List (Str × V),(zas f v fs).length≤fs.length+1
 | []=>Nat.le_refl _
 | (g,x) :: r=>by
  by_cases c:g=f
  ·simp only[zas,if_pos c,List.length_cons];omega
  ·have:=zcC f v r
   simp only[zas,if_neg c,List.length_cons];omega
def nfl (p dk:Addr) (tr:Nat):List (Str × V):=zas "tries" (.int tr) (zas "taken" (.ref dk) (zas "problem" (.ref p) []))
theorem zdW (p dk:Addr) (tr:Nat):(nfl p dk tr).lookup ("tries":Str)=some (.int tr):=by
 unfold nfl
 rw[zar,if_pos rfl]
theorem zkH (p dk:Addr) (tr:Nat):(nfl p dk tr).lookup ("taken":Str)=some (.ref dk):=by
 unfold nfl
 rw[zar,if_neg (by decide +kernel),zar,if_pos rfl]
theorem zbq (p dk:Addr) (tr:Nat):(nfl p dk tr).lookup ("problem":Str)=some (.ref p):=by
 unfold nfl
 rw[zar,if_neg (by decide +kernel),zar,if_neg (by decide +kernel),zar,if_pos rfl]
theorem zdH (p dk:Addr) (tr:Nat) {m:Str} (h1:¬m="tries") (h2:¬m="taken") (h3:¬m="problem"):(nfl p dk tr).lookup m=none:=by
 unfold nfl
 rw[zar,if_neg h1,zar,if_neg h2,zar,if_neg h3]
 rfl
theorem zi0 (p dk:Addr) (tr:Nat) (i:Nat):zas "tries" (.int i) (nfl p dk tr)=nfl p dk i:=zf4 _ _ _ _
theorem zi1 (p dk:Addr) (tr:Nat):(nfl p dk tr).length < 1000:=by
 have h1:=zcC "tries" (.int tr) (zas "taken" (.ref dk) (zas "problem" (.ref p) []))
 have h2:=zcC "taken" (.ref dk) (zas "problem" (.ref p) [])
 have h3:=zcC "problem" (.ref p) []
 show(zas _ _ _).length < 1000
 have h4:([]:List (Str × V)).length=0:=rfl
 omega
structure St where
 T:List Tm
 A:List At
 R:List (List Int)
 tr:Nat
structure zaV (K:W.Frag) (CZ C:Addr) (H:Hp) (na p tl al rl dk:Addr) (S:List Str) (st:St):Prop where
 ob:∃ dx,H na=some (.ins CZ dx (nfl p dk st.tr))
 pr:zaB K C H p tl al rl st.T st.A st.R
 dk:∃ kvs,H dk=some (.dK kvs)∧DN kvs S
 ne:p≠na
def FrN (H H':Hp) (na tl al rl:Addr):Prop:=∀ b o,H b=some o→b≠na→b≠tl→b≠al→b≠rl→H' b=some o
section
variable {K:W.Frag} {C CZ na p tl al rl dk:Addr} {H H' H2:Hp} {S:List Str} {st:St}
theorem FrN.of_same (s:ar H H'):FrN H H' na tl al rl:=fun b o e _ _ _ _=>s b o e
theorem FrN.trans (a:FrN H H' na tl al rl) (b:FrN H' H2 na tl al rl):FrN H H2 na tl al rl:=fun c o e n1 n2 n3 n4=>b c o (a c o e n1 n2 n3 n4) n1 n2 n3 n4
theorem FrN.of1 (f:Fr1 H H' tl):FrN H H' na tl al rl:=fun b o e _ n _ _=>f b o e n
theorem FrN.of2 (f:Fr2 H H' al rl):FrN H H' na tl al rl:=fun b o e _ _ n m=>f b o e n m
theorem zaV.kinds (h:zaV K CZ C H na p tl al rl dk S st) {b:Addr} {o:HO} (e:H b=some o) (n1:∀ C dx fs,o≠.ins C dx fs) (n2:∀ xs,o≠.lst xs):b≠na∧b≠tl∧b≠al∧b≠rl:=by
 obtain⟨⟨dx,h1⟩,⟨_,⟨x2,h2,_⟩,⟨x3,h3,_⟩,⟨x4,h4,_⟩,_⟩,_,_⟩:=h
 refine⟨fun z=>?_,fun z=>?_,fun z=>?_,fun z=>?_⟩
 ·rw[z,h1]at e;exact n1 _ _ _ (Option.some.inj e).symm
 ·rw[z,h2]at e;exact n2 _ (Option.some.inj e).symm
 ·rw[z,h3]at e;exact n2 _ (Option.some.inj e).symm
 ·rw[z,h4]at e;exact n2 _ (Option.some.inj e).symm
theorem zaV.kt (h:zaV K CZ C H na p tl al rl dk S st) (f:FrN H H' na tl al rl):zak H H':=fun b ys q=>by
 rcases q with q | ⟨o,q⟩
 ·obtain⟨a1,a2,a3,a4⟩:=h.kinds q (fun _ _ _ e=>by cases e) (fun _ e=>by cases e)
  exact .inl (f _ _ q a1 a2 a3 a4)
 ·obtain⟨a1,a2,a3,a4⟩:=h.kinds q (fun _ _ _ e=>by cases e) (fun _ e=>by cases e)
  exact .inr ⟨o,f _ _ q a1 a2 a3 a4⟩
theorem zaV.same (h:zaV K CZ C H na p tl al rl dk S st) (s:ar H H'):zaV K CZ C H' na p tl al rl dk S st:=by
 obtain⟨⟨dx,h1⟩,h2,⟨kvs,h3,h4⟩,h5⟩:=h
 exact⟨⟨dx,s _ _ h1⟩,h2.same s,⟨kvs,s _ _ h3,h4⟩,h5⟩
theorem zaV.prob (h:zaV K CZ C H na p tl al rl dk S st) {T:List Tm} {A:List At} {R:List (List Int)} (pr:zaB K C H' p tl al rl T A R) (f:∀ b o,H b=some o→b≠tl→b≠al→b≠rl→H' b=some o):zaV K CZ C H' na p tl al rl dk S ⟨T,A,R,st.tr⟩:=by
 obtain⟨⟨dx,h1⟩,⟨_,⟨x2,t2,_⟩,⟨x3,t3,_⟩,⟨x4,t4,_⟩,_⟩,⟨kvs,h3,h4⟩,h5⟩:=h
 have n1:∀ {xs:List V} {z:Addr},H z=some (.lst xs)→na≠z:=fun e z=>by rw[z,e]at h1;cases h1
 have n2:∀ {xs:List V} {z:Addr},H z=some (.lst xs)→dk≠z:=fun e z=>by rw[z,e]at h3;cases h3
 exact⟨⟨dx,f _ _ h1 (n1 t2) (n1 t3) (n1 t4)⟩,pr,⟨kvs,f _ _ h3 (n2 t2) (n2 t3) (n2 t4),h4⟩,h5⟩
theorem zaV.tries (h:zaV K CZ C H na p tl al rl dk S st) {dx:Addr} {t:Nat}:zaV K CZ C (upd H na (.ins CZ dx (nfl p dk t))) na p tl al rl dk S ⟨st.T,st.A,st.R,t⟩:=by
 obtain⟨⟨dx0,h1⟩,⟨⟨dx1,h2⟩,⟨x2,t2,u2⟩,⟨x3,t3,u3⟩,⟨x4,t4,u4⟩,e1,e2,e3⟩,⟨kvs,h3,h4⟩,h5⟩:=h
 have n1:∀ {xs:List V} {z:Addr},H z=some (.lst xs)→z≠na:=fun e z=>by rw[←z,e]at h1;cases h1
 have kt:zak H (upd H na (.ins CZ dx (nfl p dk t))):=zak.but h1 (fun _ e=>by cases e) (fun _ _ e=>by cases e)
 refine⟨⟨dx,ad⟩,⟨⟨dx1,by rw[aq h5];exact h2⟩,⟨x2,by rw[aq (n1 t2)];exact t2,u2.keep kt (zbU _)⟩,⟨x3,by rw[aq (n1 t3)];exact t3,u3.keep kt (zai zcs _)⟩,⟨x4,by rw[aq (n1 t4)];exact t4,u4.keep kt (zai zaX _)⟩,e1,e2,e3⟩,⟨kvs,?_,h4⟩,h5⟩
 rw[aq (fun z=>by rw[z,h1]at h3;cases h3)]
 exact h3
end
def zbC (A:List At) (z:Str):Rl (List At × Nat) :=
 if za9 z=false then .er false else if .plain z∈A then .ok (A,A.idxOf (.plain z)+1) else if 40≤A.length then .er true else .ok (A++[.plain z],A.length+1)
def zbx (A:List At) (a b:Int):Rl (List At × Nat) :=
 if .same b a∈A then .ok (A,A.idxOf (.same b a)+1) else if .same a b∈A then .ok (A,A.idxOf (.same a b)+1) else if 40≤A.length then .er true else .ok (A++[.same a b],A.length+1)
def zbH (R rs:List (List Int)):Rl (List (List Int)):=if R.length+rs.length≤200 then .ok (R++rs.map (aH [])) else .er true
def ff (S:List Str):Nat→Nat→Nat
 | 0,t=>t
 | n+1,t=>if zaH t∈S then ff S n (t+1) else t
def zcp (S:List Str) (st:St):Rl (St × Nat):=(zbC st.A (zaH (ff S 6 st.tr))).bind fun x=>.ok (⟨st.T,x.1,st.R,ff S 6 st.tr+1⟩,x.2)
theorem ff_out {S:List Str} {n t:Nat} (h:zaH t∉S):ff S n t=t:=by
 cases n with
 | zero=>rfl
 | succ n=>simp only[ff,if_neg h]
structure TxZ (K:W.Frag) (mg:Str→Option Value) (CZ:Addr):Prop where
 cl:Cls K CZ
 nP:zbP K CZ "problem"
 nT:zbP K CZ "taken"
 nN:zbP K CZ "tries"
section
variable {P:Program} {w:World} {K:W.Frag} {mg:Str→Option Value} {base:Heap} {aK C CN CT CP CM CZ:Addr} {f fN:Addr} {fd dN:FuncData} {fI fA fQ fS fR:Addr} {dI dA' dQ dS dR':FuncData}
def ToN (K:W.Frag) (CZ C CN CM:Addr) (H:Hp) (na p tl al rl dk:Addr) (S:List Str) (Q:VK) (E:XK) (r:Rl (St × Int)):Prop :=
 (∀ x,r=.ok x→∀ H',zaV K CZ C H' na p tl al rl dk S x.1→FrN H H' na tl al rl→Q (.int x.2) H')∧(∀ b,r=.er b→∀ H',FrN H H' na tl al rl→E (erV CN CM b) none H')
def zkp (K:W.Frag) (H:Hp) (a tl al rl:Addr) (n:Nat) (rs:List (List Int)):Prop:=∃ ps:List (Addr × List Int),H a=some (.lst (ps.map fun x=>V.ref x.1))∧ps.map (·.2)=rs∧a≠tl∧a≠al∧a≠rl∧ps.length≤100∧∀ x∈ps,(H x.1=some (.lst (x.2.map V.int))∨H x.1=some (.tup (x.2.map V.int)))∧x.1≠tl∧x.1≠al∧x.1≠rl∧x.2.length≤20∧∀ k∈x.2,zaf n k=false
def zjP (K:W.Frag) (CZ C CN CM:Addr):Sp:=fun vs H Q E=>∃(na p tl al rl dk a:Addr) (S:List Str) (st:St) (rs:List (List Int)),vs=[.ref na,.ref a]∧zaV K CZ C H na p tl al rl dk S st∧zkp K H a tl al rl st.A.length rs∧st.A.length≤40∧st.R.length≤200 ∧
 (∀ R',zbH st.R rs=.ok R'→∀ H',zaV K CZ C H' na p tl al rl dk S ⟨st.T,st.A,R',st.tr⟩→FrN H H' na tl al rl→Q .non H')∧(∀ b,zbH st.R rs=.er b→∀ H',FrN H H' na tl al rl→E (erV CN CM b) none H')
theorem zjW:zae ["self","rows","row"] ["self","rows"] (ao zcI):=⟨rfl,rfl,rfl,by decide +kernel,rfl,by decide +kernel,by decide +kernel⟩
theorem ok_put (F:Fun K "put_rows" "Namer.put_rows" zcI f fd) (T:Txt K mg aK C CN CT CP CM) (Z:TxZ K mg CZ) (G:Own P w K mg base C CN CT CP CM fI fA fQ fS fR dI dA' dQ dS dR'):FnOk P w K mg base (CX1 P w) 5 f fd ["self","rows"] (zjP K CZ C CN CM):=by
 refine Fun.okX F zjW (fun vs H Q E h=>?_) (fun cdv A outer s H vs Q E hr h=>?_)
 ·obtain⟨na,p,tl,al,rl,dk,a,S,st,rs,rfl,_⟩:=h
  rfl
 obtain⟨na,p,tl,al,rl,dk,a,S,st,rs,rfl,N,⟨ps,hl,rfl,a1,a2,a3,l100,hps⟩,A40,R200,q1,q2⟩:=h
 refine⟨_,(aj (zaZ PassesOwn.leaving rfl (za6 (pv 1)) (zay (i:=2) zjW.nd rfl (Or.inl rfl))
   (aj (zaI (zaJ (zaR (pv 0) rfl) T.cl G.mR G.R hr G.bR .nil (zaw xe1) (aa (pv 2) ac)))))),?_⟩
 obtain⟨_,⟨_,⟨x2,t2,_⟩,⟨x3,t3,_⟩,⟨x4,t4,_⟩,_⟩,_,_⟩:=id N
 have fl:∀ {H':Hp},FrN H H' na tl al rl→H' a=some (.lst (ps.map fun x=>V.ref x.1)):=fun f=>by
  obtain⟨⟨dx,h1⟩,_⟩:=id N
  exact f _ _ hl (fun z=>by rw[z,h1]at hl;cases hl) a1 a2 a3
 refine⟨_,rfl,a,rfl,⟨_,SqL.of hl⟩,zbO za5 (fun i σ H'=>∃ v:Option V,σ=[some (.ref na),some (.ref a),v]∧FrN H H' na tl al rl∧zaV K CZ C H' na p tl al rl dk S ⟨st.T,st.A,st.R++(ps.take i).map fun x=>aH [] x.2,st.tr⟩∧st.R.length+i≤200) (fun i σ H' ⟨_,_,f,_⟩=>SqL.of (fl f))
  ⟨none,rfl,FrN.of_same (ar.refl _),by simpa using N,by omega⟩ ?_ ?_⟩
 ·rintro i σ H2 x H3 hi ⟨v,rfl,f2,N2,l2⟩ ⟨rfl,hy⟩
  have hx:=hy _ (SqL.of (fl f2))
  rw[List.getElem?_map]at hx
  obtain⟨y,hyi,rfl⟩:=Option.map_eq_some_iff.mp hx
  have ym:=List.mem_of_getElem? hyi
  obtain⟨sq,b1,b2,b3,y20,yn⟩:=hps y ym
  have pl:ps.length=(ps.map fun x=>V.ref x.1).length:=by rw[List.length_map]
  obtain⟨⟨dx,hn⟩,pr2,_,_⟩:=id N2
  obtain⟨⟨dx',hp⟩,_⟩:=id pr2
  have sq2:SqI K H3 y.1 y.2:=by
   obtain⟨⟨dx,h1⟩,_⟩:=id N
   rcases sq with h | h
   ·exact .inl (SqL.of (f2 _ _ h (fun z=>by rw[z,h1]at h;cases h) b1 b2 b3))
   ·exact .inr (SqT.of (f2 _ _ h (fun z=>by rw[z,h1]at h;cases h) b1 b2 b3))
  have small:∀ k∈y.2,-1000≤k∧k≤1000:=fun k hk=>by
   have:=yn k hk
   simp only[zaf,Bool.or_eq_false_iff,decide_eq_false_iff_not]at this
   omega
  refine⟨_,rfl,na,CZ,dx,_,_,rfl,hn,Z.cl,Z.nP,zbq _ _ _,p,dx',_,rfl,hp,zjC _ _ _,_,rfl,p,tl,al,rl,y.1,_,_,_,y.2,rfl,pr2,sq2,by omega,small,by simp only[List.length_append,List.length_map,List.length_take];omega,?_⟩
  unfold zdE
  rw[if_neg (by rw[Bool.not_eq_true,List.any_eq_false];exact fun k hk=>by rw[yn k hk];decide),if_neg (by omega)]
  have ti:(ps.take i).length=i:=by rw[List.length_take];omega
  by_cases c:200≤(st.R++(ps.take i).map fun x=>aH [] x.2).length
  ·rw[if_pos c]
   rw[List.length_append,List.length_map,ti]at c
   exact fun H5 s5=>q2 true (by unfold zbH;rw[if_neg (by rw[List.length_map];omega)]) H5 (f2.trans (FrN.of_same s5))
  ·rw[if_neg c]
   rw[List.length_append,List.length_map,ti]at c
   refine fun H5 pr5 f5=>⟨_,rfl,f2.trans (FrN.of2 f5),?_,by omega⟩
   have:=N2.prob pr5 fun b o e _ n2 n3=>f5 _ _ e n2 n3
   rw[zaW hyi,List.map_append,←List.append_assoc]
   exact this
 ·rintro σ H2 ⟨v,rfl,f2,N2,l2⟩
  rw[List.length_map]at N2 l2
  rw[List.take_length]at N2
  refine q1 _ (by unfold zbH;rw[if_pos (by rw[List.length_map];exact l2)]) H2 ?_ f2
  rw[List.map_map]
  exact N2
def zf1 (K:W.Frag) (CZ C CN CM:Addr):Sp:=fun vs H Q E=>∃(na p tl al rl dk:Addr) (S:List Str) (st:St) (j:Nat),vs=[.ref na]∧zaV K CZ C H na p tl al rl dk S st∧st.A.length≤40∧st.tr≤600∧j≤6∧zaH (st.tr+j)∉S ∧
 ToN K CZ C CN CM H na p tl al rl dk S Q E ((zcp S st).bind fun x=>.ok (x.1,(x.2:Int)))
theorem zeC:zae ["self","name"] ["self"] (ao zcJ):=⟨rfl,rfl,rfl,by decide +kernel,rfl,by decide +kernel,by decide +kernel⟩
theorem zgw (i:Nat):∀ c∈(ltr i).cps.toList,c < 1000:=by
 intro c hc
 simp only[ltr,List.mem_singleton]at hc
 subst hc
 cases e:abc.cps.toList[i]? with
 | none=>decide
 | some c=>exact(show ∀ c∈abc.cps.toList,c < 1000 by decide +kernel) c (List.mem_of_getElem? e)
theorem zdA (a b:Str):(a++b).cps.toList=a.cps.toList++b.cps.toList:=by
 show(a.cps++b.cps).toList=_
 exact Array.toList_append
theorem zkt {k:Nat}:Low (zaH k):=by
 have z1:∀ c∈("z":Str).cps.toList,c < 1000:=by decide +kernel
 have z2:("z":Str).length=1:=by decide +kernel
 have l1:∀ i,(ltr i).length=1:=fun i=>rfl
 unfold zaH
 split
 ·refine⟨by rw[zaK,z2,l1];decide,fun c hc=>?_⟩
  rw[zdA]at hc
  exact(List.mem_append.mp hc).elim (z1 c) (zgw _ c)
 ·refine⟨by rw[zaK,zaK,z2,l1,l1];decide,fun c hc=>?_⟩
  rw[zdA,zdA]at hc
  rcases List.mem_append.mp hc with h | h
  ·exact z1 c h
  ·exact(List.mem_append.mp h).elim (zgw _ c) (zgw _ c)
set_option maxHeartbeats 1000000 in
theorem zjy (F:Fun K "new_atom" "Namer.new_atom" zcJ f fd) (T:Txt K mg aK C CN CT CP CM) (Z:TxZ K mg CZ) (G:Own P w K mg base C CN CT CP CM fI fA fQ fS fR dI dA' dQ dS dR') (BN:FB P w K mg base CX0 1 "new_name" fN dN ["number"] zf0):FnOk P w K mg base (CX1 P w) 5 f fd ["self"] (zf1 K CZ C CN CM):=by
 refine Fun.okX F zeC (fun vs H Q E h=>?_) (fun cdv A outer s H vs Q E hr h=>?_)
 ·obtain⟨na,p,tl,al,rl,dk,S,st,j,rfl,_⟩:=h
  rfl
 obtain⟨na,p,tl,al,rl,dk,S,st,j,rfl,N,A40,t600,j6,free,q1,q2⟩:=h
 have hu:=hu_of hr
 have hr1:aE 1 _:=hr.mono (by decide)
 refine⟨_,(ae (aA (i:=1) zeC.nd rfl (Or.inl rfl) (zaa BN.ok hr1 rfl BN.m BN.kp BN.b .nil zal (aa (zaR (pv 0) rfl) ac)))
  (ae (zgY (pv 0) ag zkf)
  (ae (zfC PassesOwn.leaving (pt_cmp (pc_din hu (pv 1) (zaR (pv 0) rfl)))
   (ae (aA (i:=1) zeC.nd rfl (Or.inl rfl) (zaa BN.ok hr1 rfl BN.m BN.kp BN.b .nil zal (aa (zaR (pv 0) rfl) ac)))
    (aj (zgY (pv 0) ag zkf))))
  (aj (ax (zaJ (zaR (pv 0) rfl) T.cl G.mQ G.Q hr G.bQ .nil (zaw xe1) (aa (pv 1) ac))))))),?_⟩
 obtain⟨⟨dx,hn⟩,_⟩:=id N
 refine⟨_,rfl,na,CZ,dx,_,_,rfl,hn,Z.cl,Z.nN,zdW _ _ _,st.tr,rfl,by omega,fun H1 s1=>?_⟩
 have N1:=N.same s1
 have hn1:=s1 _ _ hn
 refine⟨_,rfl,na,CZ,dx,_,_,rfl,hn1,Z.cl,Z.nN,zdW _ _ _,_,_,rfl,rfl,dx,_,hn1,zi1 _ _ _,?_⟩
 have ep:zas "tries" (.int ((st.tr:Int)+1)) (nfl p dk st.tr)=nfl p dk (st.tr+1):=zi0 p dk st.tr (st.tr+1)
 rw[ep]
 have N2:=N1.tries (dx:=dx) (t:=st.tr+1)
 have f2:FrN H (upd H1 na (.ins CZ dx (nfl p dk (st.tr+1)))) na tl al rl:=fun b o e n1 _ _ _=>by rw[aq n1];exact s1 _ _ e
 generalize upd H1 na (.ins CZ dx (nfl p dk (st.tr+1)))=H2 at N2 f2
 refine⟨fun m σ H'=>∃ t,m+t=st.tr+j∧st.tr≤t∧σ=[some (.ref na),some (.str (zaH t))]∧FrN H H' na tl al rl∧zaV K CZ C H' na p tl al rl dk S ⟨st.T,st.A,st.R,t+1⟩∧ff S 6 st.tr=ff S (6 - (t - st.tr)) t,⟨j,st.tr,by omega,Nat.le_refl _,rfl,f2,N2,by rw[Nat.sub_self]⟩,?_⟩
 rintro m σ H3 ⟨t,mt,tt,rfl,f3,N3,e3⟩
 obtain⟨⟨dx3,hn3⟩,pr3,⟨kvs,hd3,dn3⟩,_⟩:=id N3
 refine⟨_,rfl,_,rfl,na,CZ,dx3,_,_,rfl,hn3,Z.cl,Z.nT,zkH _ _ _,dk,_,rfl,zft.k (k:=.inr (zaH t)) hd3,_,rfl,aI (fun c=>?_) (fun c=>?_)⟩
 ·rw[dn3.has]at c
  have tin:=of_decide_eq_true c
  have lt:t < st.tr+j:=by
   rcases Nat.lt_or_ge t (st.tr+j) with h | h
   ·exact h
   ·exact absurd (by rw[show t=st.tr+j by omega]at tin;exact tin) free
  refine⟨fun σ' H'=>∃ m',m' < m∧∃ t,m'+t=st.tr+j∧st.tr≤t∧σ'=[some (.ref na),some (.str (zaH t))]∧FrN H H' na tl al rl∧zaV K CZ C H' na p tl al rl dk S ⟨st.T,st.A,st.R,t+1⟩∧ff S 6 st.tr=ff S (6 - (t - st.tr)) t,fun _ _ h=>h,?_⟩
  refine⟨_,rfl,na,CZ,dx3,_,_,rfl,hn3,Z.cl,Z.nN,zdW _ _ _,t+1,rfl,by omega,fun H4 s4=>?_⟩
  have N4:=N3.same s4
  have hn4:=s4 _ _ hn3
  refine⟨_,rfl,na,CZ,dx3,_,_,rfl,hn4,Z.cl,Z.nN,zdW _ _ _,_,_,rfl,rfl,dx3,_,hn4,zi1 _ _ _,?_⟩
  have ep:zas "tries" (.int (((t+1:Nat):Int)+1)) (nfl p dk (t+1))=nfl p dk (t+1+1):=zi0 p dk (t+1) (t+1+1)
  rw[ep]
  refine⟨m - 1,by omega,t+1,by omega,by omega,rfl,fun b o e n1 n2 n3 n4=>?_,N4.tries,?_⟩
  ·rw[aq n1]
   exact s4 _ _ (f3 _ _ e n1 n2 n3 n4)
  ·rw[e3,show 6 - (t - st.tr)=(6 - (t+1 - st.tr))+1 by omega]
   simp only[ff,if_pos tin]
 ·rw[dn3.has]at c
  have tout:zaH t∉S:=fun h=>c (decide_eq_true h)
  have et:ff S 6 st.tr=t:=by rw[e3,ff_out tout]
  obtain⟨⟨dxp,hp3⟩,_⟩:=id pr3
  refine⟨_,rfl,na,CZ,dx3,_,_,rfl,hn3,Z.cl,Z.nP,zbq _ _ _,p,dxp,_,rfl,hp3,ze4 _ _ _,_,rfl,p,tl,al,rl,_,_,_,zaH t,rfl,pr3,zkt,by show st.A.length≤1000;omega,?_⟩
  unfold zcp zbC at q1 q2
  rw[et]at q1 q2
  show Told K C CN CT CP CM H3 p tl al rl st.T (zc2 st.A (zaH t)).2 st.R Q E (zc2 st.A (zaH t)).1
  unfold zc2
  cases g1:za9 (zaH t) with
  | false =>
   rw[if_pos rfl]
   rw[if_pos g1]at q2
   exact fun H5 s5=>q2 _ rfl H5 (f3.trans (FrN.of_same s5))
  | true =>
   rw[if_neg (by decide)]
   rw[if_neg (by rw[g1];decide)]at q1 q2
   by_cases c:.plain (zaH t)∈st.A
   ·rw[if_pos c]
    rw[if_pos c]at q1
    exact fun H5 S5 f5=>q1 _ rfl H5 (N3.prob S5 fun b o e _ n2 n3=>f5 _ _ e n2 n3) (f3.trans (FrN.of2 f5))
   ·rw[if_neg c]
    rw[if_neg c]at q1 q2
    by_cases c6:40≤st.A.length
    ·rw[if_pos c6]
     rw[if_pos c6]at q2
     exact fun H5 s5=>q2 _ rfl H5 (f3.trans (FrN.of_same s5))
    ·rw[if_neg c6]
     rw[if_neg c6]at q1
     exact fun H5 S5 f5=>q1 _ rfl H5 (N3.prob S5 fun b o e _ n2 n3=>f5 _ _ e n2 n3) (f3.trans (FrN.of2 f5))
end
end K75
namespace K75
open PySem L2
open F75 (Tr Fm dTr zaE dFm FOk fdp zaG)
def za1 (A:List At) (a:Int):List Int→Rl (List At × List Int)
 | []=>.ok (A,[])
 | b :: bs=>(zbx A a b).bind fun x=>(za1 x.1 a bs).bind fun y=>.ok (y.1,(x.2:Int) :: y.2)
def zaF (A:List At):List Int→Rl (List At × List Int)
 | []=>.ok (A,[])
 | a :: as=>(za1 A a as).bind fun x=>(zaF x.1 as).bind fun y=>.ok (y.1,x.2++y.2)
def zeH (S:List Str) (st:St) (ts:List Tr):Rl (St × Int) :=
 (zaC st.T ts).bind fun x=>(zaF st.A x.2).bind fun y=>(zcp S ⟨x.1,y.1,st.R,st.tr⟩).bind fun z =>
  (zbH z.1.R (y.2.map fun s=>[-(z.2:Int),-s])).bind fun R=>(zbH R [(z.2:Int) :: y.2]).bind fun R'=>.ok (⟨z.1.T,z.1.A,R',z.1.tr⟩,(z.2:Int))
def zco (z:St × Nat) (rs:List (List Int)):Rl (St × Int):=(zbH z.1.R rs).bind fun R=>.ok (⟨z.1.T,z.1.A,R,z.1.tr⟩,(z.2:Int))
def zaj (S:List Str) (st:St):Fm→Rl (St × Int)
 | .plain z=>(zbC st.A z).bind fun x=>.ok (⟨st.T,x.1,st.R,st.tr⟩,(x.2:Int))
 | .bare z=>(zcp S st).bind fun x=>zco x [[if z="always" then(x.2:Int) else -(x.2:Int)]]
 | .same a b=>(zaC st.T [a,b]).bind fun x=>(zbx st.A (x.2.getD 0 0) (x.2.getD 1 0)).bind fun y=>.ok (⟨x.1,y.1,st.R,st.tr⟩,(y.2:Int))
 | .unlike ts=>zeH S st ts
 | .not f=>(zaj S st f).bind fun x=>.ok (x.1,-x.2)
 | .bin k f g=>(zaj S st f).bind fun x=>(zaj S x.1 g).bind fun y=>(zcp S y.1).bind fun z=>zco z (prF k z.2 x.2 y.2)
def LFm:Fm→Prop
 | .plain z=>Low z
 | .bare _=>True
 | .same a b=>LTr a∧LTr b
 | .unlike ts=>(∀ t∈ts,LTr t)∧2≤ts.length∧ts.length≤5
 | .not f=>LFm f
 | .bin _ f g=>LFm f∧LFm g
structure Fit (S:List Str) (st:St):Prop where
 t:st.T.length≤60
 a:st.A.length≤40
 r:st.R.length≤200
 n:st.tr≤7 * st.A.length
 p:∀ z,.plain z∈st.A→z∈S∨∃ i,i < st.tr∧z=zaH i
def Few (S:List Str):Prop:=∃ zs:List Str,zs.length≤6∧∀ z∈S,z∈zs
theorem zj0 {α:Type} [DecidableEq α]:∀(l zs:List α),l.Nodup→(∀ x∈l,x∈zs)→l.length≤zs.length
 | [],_,_,_=>Nat.zero_le _
 | x :: l,zs,nd,h=>by
  obtain⟨n1,n2⟩:=List.nodup_cons.mp nd
  have hx:=h x (by simp)
  have:=zj0 l (zs.erase x) n2 fun y hy=>by
   have ne:y≠x:=fun e=>n1 (e ▸ hy)
   exact(List.mem_erase_of_ne ne).mpr (h y (List.mem_cons_of_mem _ hy))
  rw[List.length_erase_of_mem hx]at this
  have:0 < zs.length:=List.length_pos_of_mem hx
  simp only[List.length_cons]
  omega
theorem zfZ:∀ k,k < 300→za9 (zaH k)=true:=by decide +kernel
def lc (i:Nat):Nat:=(abc.cps.toList[i]?).getD 0
theorem zhF:∀ a,a < 26→∀ b,b < 26→lc a=lc b→a=b:=by decide +kernel
theorem zku (k:Nat):(zaH k).cps.toList=if k < 26 then("z":Str).cps.toList++[lc k] else("z":Str).cps.toList++[lc (k / 26 - 1),lc (k % 26)]:=by
 unfold zaH
 split
 ·rw[zdA];rfl
 ·rw[zdA,zdA];rfl
theorem zgU {a b:Nat} (ha:a < 300) (hb:b < 300) (h:zaH a=zaH b):a=b:=by
 have e:=congrArg (fun z:Str=>z.cps.toList) h
 simp only[zku]at e
 by_cases c1:a < 26
 ·by_cases c2:b < 26
  ·rw[if_pos c1,if_pos c2]at e
   have:=List.append_cancel_left e
   exact zhF a c1 b c2 (by injection this)
  ·rw[if_pos c1,if_neg c2]at e
   have:=congrArg List.length (List.append_cancel_left e)
   simp at this
 ·by_cases c2:b < 26
  ·rw[if_neg c1,if_pos c2]at e
   have:=congrArg List.length (List.append_cancel_left e)
   simp at this
  ·rw[if_neg c1,if_neg c2]at e
   have e2:=List.append_cancel_left e
   injection e2 with e3 e4
   injection e4 with e4
   have:=zhF _ (by omega) _ (by omega) e3
   have:=zhF _ (by omega) _ (by omega) e4
   omega
end K75
namespace K75
open PySem L2
open F75 (Tr Fm dTr zaE dFm FOk fdp zaG)
theorem zdM {S:List Str} (W:Few S) {t:Nat} (ht:t+7≤300):∃ j,j≤6∧zaH (t+j)∉S:=by
 obtain⟨zs,h6,hs⟩:=W
 refine Classical.byContradiction fun no=>?_
 have all:∀ j,j≤6→zaH (t+j)∈zs:=fun j hj=>Classical.byContradiction fun h=>no ⟨j,hj,fun z=>h (hs _ z)⟩
 have nd:((List.range 7).map fun j=>zaH (t+j)).Nodup:=by
  refine List.pairwise_map.mpr (List.Pairwise.imp_of_mem (R:=(·≠·)) (fun {a b} ha hb ne e=>?_) List.nodup_range)
  have:=List.mem_range.mp ha
  have:=List.mem_range.mp hb
  exact ne (by have:=zgU (by omega) (by omega) e;omega)
 have:=zj0 _ zs nd fun x hx=>by
  obtain⟨j,hj,rfl⟩:=List.mem_map.mp hx
  exact all j (by have:=List.mem_range.mp hj;omega)
 rw[List.length_map,List.length_range]at this
 omega
theorem zjq (S:List Str):∀ n t,t≤ff S n t∧ff S n t≤t+n
 | 0,t=>⟨Nat.le_refl _,Nat.le_refl _⟩
 | n+1,t=>by
  simp only[ff]
  split
  ·have:=zjq S n (t+1)
   omega
  ·omega
theorem zgC {S:List Str}:∀ {n t j:Nat},j≤n→zaH (t+j)∉S→zaH (ff S n t)∉S
 | 0,t,j,hj,h=>by
  have:j=0:=by omega
  subst this
  exact h
 | n+1,t,j,hj,h=>by
  simp only[ff]
  split
  ·next c =>
   cases j with
   | zero=>exact absurd c h
   | succ j=>exact zgC (j:=j) (by omega) (by rw[show t+1+j=t+(j+1) by omega];exact h)
  ·next c=>exact c
theorem zcj {S:List Str} {st:St} {x:St × Nat} (F:Fit S st) (W:Few S) (h:zcp S st=.ok x):x=(⟨st.T,st.A++[.plain (zaH (ff S 6 st.tr))],st.R,ff S 6 st.tr+1⟩,st.A.length+1)∧st.A.length < 40∧Fit S x.1:=by
 have f6:=zjq S 6 st.tr
 have n:=F.n
 have a:=F.a
 obtain⟨j,hj,free⟩:=zdM W (t:=st.tr) (by omega)
 have fr:=zgC hj free
 have nin:.plain (zaH (ff S 6 st.tr))∉st.A:=fun hin=>by
  rcases F.p _ hin with h | ⟨i,hi,e⟩
  ·exact fr h
  ·have:=zgU (by omega) (by omega) e
   omega
 unfold zcp zbC at h
 rw[if_neg (by rw[zfZ _ (by omega)];decide),if_neg nin]at h
 by_cases c:40≤st.A.length
 ·rw[if_pos c]at h
  cases h
 ·rw[if_neg c]at h
  cases h
  refine⟨rfl,by omega,F.t,?_,F.r,?_,fun z hz=>?_⟩
  ·simp only[List.length_append,List.length_singleton];omega
  ·simp only[List.length_append,List.length_singleton];omega
  ·rcases List.mem_append.mp hz with hz | hz
   ·rcases F.p z hz with h | ⟨i,hi,e⟩
    ·exact .inl h
    ·exact .inr ⟨i,by show i < ff S 6 st.tr+1;omega,e⟩
   ·rw[List.mem_singleton]at hz
    injection hz with e
    exact .inr ⟨_,Nat.lt_succ_self _,e⟩
theorem zgu {S:List Str} {st:St} {b:Bool} (F:Fit S st) (h:zcp S st=.er b):b=true∧40≤st.A.length:=by
 have f6:=zjq S 6 st.tr
 have n:=F.n
 have a:=F.a
 unfold zcp zbC at h
 rw[if_neg (by rw[zfZ _ (by omega)];decide)]at h
 split at h
 ·cases h
 ·split at h
  ·next c=>cases h;exact⟨rfl,c⟩
  ·cases h
structure zd4 (A A':List At):Prop where
 le:A.length≤A'.length
 a:A'.length≤40
 p:∀ z,At.plain z∈A'→At.plain z∈A
theorem zew {A:List At} {a b:Int} {x:List At × Nat} (h:zbx A a b=.ok x) (h40:A.length≤40):zd4 A x.1∧1≤x.2∧x.2≤x.1.length:=by
 unfold zbx at h
 split at h
 ·next c=>cases h;exact⟨⟨Nat.le_refl _,h40,fun _ z=>z⟩,by show 1≤_+1;omega,List.idxOf_lt_length_of_mem c⟩
 ·split at h
  ·next c=>cases h;exact⟨⟨Nat.le_refl _,h40,fun _ z=>z⟩,by show 1≤_+1;omega,List.idxOf_lt_length_of_mem c⟩
  ·split at h
   ·cases h
   ·cases h
    refine⟨⟨by simp,by simp;omega,fun z hz=>?_⟩,by simp,by simp⟩
    rcases List.mem_append.mp hz with hz | hz
    ·exact hz
    ·rw[List.mem_singleton]at hz;cases hz
theorem zia {A:List At} {a b:Int} {e:Bool} (h:zbx A a b=.er e):e=true∧40≤A.length:=by
 unfold zbx at h
 split at h
 ·cases h
 ·split at h
  ·cases h
  ·split at h
   ·next c=>cases h;exact⟨rfl,c⟩
   ·cases h
theorem zd4.trans {A B C:List At} (h:zd4 A B) (k:zd4 B C):zd4 A C:=⟨Nat.le_trans h.le k.le,k.a,fun z hz=>h.p z (k.p z hz)⟩
theorem zgs {a:Int}:∀ {bs:List Int} {A:List At} {x:List At × List Int},za1 A a bs=.ok x→A.length≤40→zd4 A x.1∧(∀ k∈x.2,1≤k∧k≤(x.1.length:Int))∧x.2.length=bs.length
 | [],A,x,h,h40=>by
  simp only[za1]at h
  cases h
  exact⟨⟨Nat.le_refl _,h40,fun _ z=>z⟩,(fun k hk=>nomatch hk),rfl⟩
 | b :: bs,A,x,h,h40=>by
  simp only[za1]at h
  obtain⟨y,e1,e2⟩:=Rl.bind_ok h
  obtain⟨z,e3,e4⟩:=Rl.bind_ok e2
  cases e4
  obtain⟨m1,l1,l2⟩:=zew e1 h40
  obtain⟨m2,l3,l4⟩:=zgs e3 m1.a
  refine⟨m1.trans m2,fun k hk=>?_,by simp only[List.length_cons,l4]⟩
  have:=m2.le
  dsimp only at hk ⊢
  rcases List.mem_cons.mp hk with rfl | hk
  ·omega
  ·exact l3 k hk
def tri:Nat→Nat
 | 0=>0
 | n+1=>n+tri n
theorem zdf:∀ {as:List Int} {A:List At} {x:List At × List Int},zaF A as=.ok x→A.length≤40→zd4 A x.1∧(∀ k∈x.2,1≤k∧k≤(x.1.length:Int))∧x.2.length=tri as.length
 | [],A,x,h,h40=>by
  simp only[zaF]at h
  cases h
  exact⟨⟨Nat.le_refl _,h40,fun _ z=>z⟩,(fun k hk=>nomatch hk),rfl⟩
 | a :: as,A,x,h,h40=>by
  simp only[zaF]at h
  obtain⟨y,e1,e2⟩:=Rl.bind_ok h
  obtain⟨z,e3,e4⟩:=Rl.bind_ok e2
  cases e4
  obtain⟨m1,l1,l2⟩:=zgs e1 h40
  obtain⟨m2,l3,l4⟩:=zdf e3 m1.a
  refine⟨m1.trans m2,fun k hk=>?_,by simp only[List.length_cons,List.length_append,l4,l2,tri]⟩
  have:=m2.le
  dsimp only at hk ⊢
  rcases List.mem_append.mp hk with hk | hk
  ·have:=l1 k hk
   omega
  ·exact l3 k hk
theorem zbk {R rs R':List (List Int)} (h:zbH R rs=.ok R'):R'=R++rs.map (aH [])∧R'.length≤200:=by
 unfold zbH at h
 split at h
 ·next c=>cases h;exact⟨rfl,by rw[List.length_append,List.length_map];exact c⟩
 ·cases h
theorem Fit.more {S:List Str} {st:St} (F:Fit S st) {T:List Tm} {A:List At} (ht:T.length≤60) (m:zd4 st.A A):Fit S ⟨T,A,st.R,st.tr⟩ :=
 ⟨ht,m.a,F.r,by have:=F.n;have:=m.le;show st.tr≤7 * A.length;omega,fun z hz=>F.p z (m.p z hz)⟩
theorem Fit.rows {S:List Str} {st:St} (F:Fit S st) {R:List (List Int)} (h:R.length≤200):Fit S ⟨st.T,st.A,R,st.tr⟩:=⟨F.t,F.a,h,F.n,F.p⟩
theorem zac {n:Nat} {k:Int}:zaf n k=false↔k≠0∧k≤n∧-(n:Int)≤k:=by
 simp only[zaf,Bool.or_eq_false_iff,decide_eq_false_iff_not]
 omega
theorem zkK {S:List Str} {st:St} {z:Str} {x:List At × Nat} (F:Fit S st) (hz:z∈S) (h:zbC st.A z=.ok x):Fit S ⟨st.T,x.1,st.R,st.tr⟩∧st.A.length≤x.1.length∧zaf x.1.length x.2=false:=by
 unfold zbC at h
 have a:=F.a
 have n:=F.n
 split at h
 ·cases h
 ·split at h
  ·next c =>
   cases h
   have:=List.idxOf_lt_length_of_mem c
   exact⟨F,Nat.le_refl _,zac.mpr (by dsimp only;omega)⟩
  ·split at h
   ·cases h
   ·cases h
    refine⟨⟨F.t,?_,F.r,?_,fun y hy=>?_⟩,by simp,zac.mpr (by simp;omega)⟩
    ·simp only[List.length_append,List.length_singleton];omega
    ·simp only[List.length_append,List.length_singleton];omega
    ·rcases List.mem_append.mp hy with hy | hy
     ·exact F.p y hy
     ·rw[List.mem_singleton]at hy
      injection hy with e
      exact .inl (e ▸ hz)
theorem za4 {S:List Str} (W:Few S):∀ {f:Fm} {st:St} {x:St × Int},Fit S st→LFm f→(∀ z∈plF f,z∈S)→zaj S st f=.ok x→Fit S x.1∧st.A.length≤x.1.A.length∧zaf x.1.A.length x.2=false
 | .plain z,st,x,F,L,pl,h=>by
  simp only[zaj]at h
  obtain⟨y,e1,e2⟩:=Rl.bind_ok h
  cases e2
  exact zkK F (pl z (by simp [plF])) e1
 | .bare z,st,x,F,L,pl,h=>by
  simp only[zaj]at h
  obtain⟨y,e1,e2⟩:=Rl.bind_ok h
  unfold zco at e2
  obtain⟨R,e3,e4⟩:=Rl.bind_ok e2
  cases e4
  obtain⟨rfl,l,F1⟩:=zcj F W e1
  obtain⟨_,r⟩:=zbk e3
  exact⟨F1.rows r,by simp,zac.mpr (by simp;omega)⟩
 | .same a b,st,x,F,L,pl,h=>by
  simp only[zaj]at h
  obtain⟨y,e1,e2⟩:=Rl.bind_ok h
  obtain⟨z,e3,e4⟩:=Rl.bind_ok e2
  cases e4
  obtain⟨t1,_⟩:=zbm F.t _ e1
  obtain⟨m,l1,l2⟩:=zew e3 F.a
  exact⟨F.more t1 m,m.le,zac.mpr (by dsimp only;omega)⟩
 | .unlike ts,st,x,F,L,pl,h=>by
  simp only[zaj,zeH]at h
  obtain⟨y,e1,e2⟩:=Rl.bind_ok h
  obtain⟨z,e3,e4⟩:=Rl.bind_ok e2
  obtain⟨u,e5,e6⟩:=Rl.bind_ok e4
  obtain⟨R,e7,e8⟩:=Rl.bind_ok e6
  obtain⟨R',e9,e10⟩:=Rl.bind_ok e8
  cases e10
  obtain⟨t1,_⟩:=zbm F.t _ e1
  obtain⟨m,l1,l2⟩:=zdf e3 F.a
  obtain⟨rfl,l,F1⟩:=zcj (F.more t1 m) W e5
  obtain⟨_,r⟩:=zbk e9
  have:=m.le
  exact⟨F1.rows r,by simp;omega,zac.mpr (by simp;omega)⟩
 | .not f,st,x,F,L,pl,h=>by
  simp only[zaj]at h
  obtain⟨y,e1,e2⟩:=Rl.bind_ok h
  cases e2
  obtain⟨a,b,c⟩:=za4 W (f:=f) F L pl e1
  have:=zac.mp c
  exact⟨a,b,zac.mpr (by dsimp only;omega)⟩
 | .bin k f g,st,x,F,L,pl,h=>by
  simp only[zaj]at h
  obtain⟨y,e1,e2⟩:=Rl.bind_ok h
  obtain⟨z,e3,e4⟩:=Rl.bind_ok e2
  obtain⟨u,e5,e6⟩:=Rl.bind_ok e4
  unfold zco at e6
  obtain⟨R,e7,e8⟩:=Rl.bind_ok e6
  cases e8
  obtain⟨a1,b1,_⟩:=za4 W (f:=f) F L.1 (fun z hz=>pl z (by simp [plF,hz])) e1
  obtain⟨a2,b2,_⟩:=za4 W (f:=g) a1 L.2 (fun z hz=>pl z (by simp [plF,hz])) e3
  obtain⟨rfl,l,F1⟩:=zcj a2 W e5
  obtain⟨_,r⟩:=zbk e7
  exact⟨F1.rows r,by simp;omega,zac.mpr (by simp;omega)⟩
end K75
namespace K75
open PySem L2
open F75 (Tr Fm dTr zaE dFm FOk fdp zaG zcz)
theorem Rl.er_any {α β γ:Type} {x:Rl α} {f:α→β} {b:Bool} (h:(x.bind fun a=>.ok (f a))=.er b) (g:α→Rl γ):x.bind g=.er b:=by
 cases x with
 | ok a=>cases h
 | er c=>cases h;rfl
theorem zd6 (p dk:Addr) (tr:Nat):(nfl p dk tr).lookup ("new_atom":Str)=none:=zdH _ _ _ (by decide +kernel) (by decide +kernel) (by decide +kernel)
theorem zcu (p dk:Addr) (tr:Nat):(nfl p dk tr).lookup ("put_rows":Str)=none:=zdH _ _ _ (by decide +kernel) (by decide +kernel) (by decide +kernel)
theorem zca (p dk:Addr) (tr:Nat):(nfl p dk tr).lookup ("formula_part":Str)=none:=zdH _ _ _ (by decide +kernel) (by decide +kernel) (by decide +kernel)
theorem ziv (p dk:Addr) (tr:Nat):(nfl p dk tr).lookup ("same_part":Str)=none:=zdH _ _ _ (by decide +kernel) (by decide +kernel) (by decide +kernel)
theorem zgL (p dk:Addr) (tr:Nat):(nfl p dk tr).lookup ("unlike_part":Str)=none:=zdH _ _ _ (by decide +kernel) (by decide +kernel) (by decide +kernel)
theorem zix (p dk:Addr) (tr:Nat):(nfl p dk tr).lookup ("bare_part":Str)=none:=zdH _ _ _ (by decide +kernel) (by decide +kernel) (by decide +kernel)
theorem ziw (p dk:Addr) (tr:Nat):(nfl p dk tr).lookup ("pair_part":Str)=none:=zdH _ _ _ (by decide +kernel) (by decide +kernel) (by decide +kernel)
theorem new1 {H:Hp} {p l:Addr} {k:Int} (h1:H p=none) (hl:upd H p (.tup [.int k]) l=none):zc5 H (upd (upd H p (.tup [V.int k])) l (.lst [.ref p])) l [[k]]:=by
 have s1:=ak h1 (.tup [V.int k])
 have s2:=ak hl (.lst [V.ref p])
 have n1:=ad (H:=H) (a:=p) (o:=.tup [V.int k])
 generalize upd H p (.tup [V.int k])=H1 at *
 have n2:=ad (H:=H1) (a:=l) (o:=.lst [V.ref p])
 refine⟨s1.trans s2,s1.free hl,[(p,[k])],n2,rfl,fun x hx=>?_⟩
 rw[List.mem_singleton.mp hx]
 exact⟨h1,s2 _ _ n1⟩
section
variable {K:W.Frag} {C CZ na p tl al rl dk:Addr} {H H' H2:Hp} {S:List Str} {st:St}
theorem zaV.old (h:zaV K CZ C H na p tl al rl dk S st) {b:Addr} (e:H b=none):b≠na∧b≠tl∧b≠al∧b≠rl:=by
 obtain⟨⟨dx,h1⟩,⟨_,⟨x2,h2,_⟩,⟨x3,h3,_⟩,⟨x4,h4,_⟩,_⟩,_,_⟩:=h
 refine⟨fun z=>?_,fun z=>?_,fun z=>?_,fun z=>?_⟩
 ·rw[z,h1]at e;cases e
 ·rw[z,h2]at e;cases e
 ·rw[z,h3]at e;cases e
 ·rw[z,h4]at e;cases e
theorem zc5.rows {a:Addr} {rs:List (List Int)} {n:Nat} (h:zc5 H H' a rs) (N:zaV K CZ C H na p tl al rl dk S st) (l:rs.length≤100) (hr:∀ r∈rs,r.length≤20∧∀ k∈r,zaf n k=false):zkp K H' a tl al rl n rs:=by
 obtain⟨s,ha,ps,hl,rfl,hp⟩:=h
 obtain⟨_,a2,a3,a4⟩:=N.old ha
 refine⟨ps,hl,rfl,a2,a3,a4,by rw[List.length_map]at l;exact l,fun x hx=>?_⟩
 obtain⟨h1,h2⟩:=hp x hx
 obtain⟨_,b2,b3,b4⟩:=N.old h1
 obtain⟨c1,c2⟩:=hr x.2 (List.mem_map.mpr ⟨x,hx,rfl⟩)
 exact⟨.inr h2,b2,b3,b4,c1,c2⟩
end
structure zfu (K:W.Frag) (CZ C:Addr) (H:Hp) (na p tl al rl dk:Addr) (S:List Str) (st:St) (g:Fm) (v:V):Prop where
 N:zaV K CZ C H na p tl al rl dk S st
 h:Has K H (dFm g) v
 ok:FOk g
 lf:LFm g
 fit:Fit S st
 few:Few S
 pl:∀ z∈plF g,z∈S
def zbA (K:W.Frag) (CZ C CN CM:Addr) (Pg:Fm→Prop):Sp:=fun vs H Q E=>∃(na p tl al rl dk:Addr) (S:List Str) (st:St) (g:Fm) (v:V),vs=[.ref na,v]∧zfu K CZ C H na p tl al rl dk S st g v∧Pg g∧ToN K CZ C CN CM H na p tl al rl dk S Q E (zaj S st g)
structure OwN (P:Program) (w:World) (K:W.Frag) (mg:Str→Option Value) (base:Heap) (CZ C CN CM:Addr) (fP fW:Addr) (dP dW:FuncData):Prop where
 P':FnOk P w K mg base (CX1 P w) 5 fP dP ["self","rows"] (zjP K CZ C CN CM)
 bP:av K dP ["self","rows"] []
 mP:zbg K CZ "put_rows" fP
 W:FnOk P w K mg base (CX1 P w) 5 fW dW ["self"] (zf1 K CZ C CN CM)
 bW:av K dW ["self"] []
 mW:zbg K CZ "new_atom" fW
section
variable {P:Program} {w:World} {K:W.Frag} {mg:Str→Option Value} {base:Heap} {aK C CN CT CP CM CZ:Addr} {f fN fP fW fT fD fE:Addr} {fd dN dP dW dT' dD dE:FuncData} {fI fA fQ fS fR:Addr} {dI dA' dQ dS dR':FuncData}
theorem ziQ:zae ["self","formula","new"] ["self","formula"] (ao zcr):=⟨rfl,rfl,rfl,by decide +kernel,rfl,by decide +kernel,by decide +kernel⟩
theorem zl7 (F:Fun K "bare_part" "Namer.bare_part" zcr f fd) (Z:TxZ K mg CZ) (G:OwN P w K mg base CZ C CN CM fP fW dP dW):FnOk P w K mg base (CX1 P w) 6 f fd ["self","formula"] (zbA K CZ C CN CM fun g=>∃ z,g=.bare z):=by
 refine Fun.okX F ziQ (fun vs H Q E h=>?_) (fun cdv A outer s H vs Q E hr h=>?_)
 ·obtain⟨na,p,tl,al,rl,dk,S,st,g,v,rfl,_⟩:=h
  rfl
 obtain⟨na,p,tl,al,rl,dk,S,st,g,v,rfl,Y,⟨z,rfl⟩,q1,q2⟩:=h
 refine⟨_,(ae (aA (i:=2) ziQ.nd rfl (Or.inl rfl) (zfE (pv 0) Z.cl G.mW G.W hr G.bW .nil (zaw xe1)))
  (ae (zaI (zaJ (pv 0) Z.cl G.mP G.P' hr G.bP .nil (zaw xe1) (aa (zam (aa (zfF (aw zav (aF zat (pv 1) ag (fun _ _=>rfl)) zab (ay _)) (zaD (aa (pv 2) ac)) (zaD (aa (zaY zaP (pv 2)) ac))) ac)) ac)))
  (aj (ax (pv 2))))),?_⟩
 obtain⟨⟨dx,hn⟩,_⟩:=id Y.N
 have b1:=Y.fit.n
 have b2:=Y.fit.a
 obtain⟨j,hj,free⟩:=zdM Y.few (t:=st.tr) (by omega)
 refine⟨_,rfl,na,dx,_,rfl,hn,zd6 _ _ _,na,p,tl,al,rl,dk,S,st,j,rfl,Y.N,b2,by omega,hj,free,fun x e H1 N1 f1=>?_,fun b e H1 f1=>q2 b (by simp only[zaj];exact Rl.er_any e _) H1 f1⟩
 obtain⟨y,e1,e2⟩:=Rl.bind_ok e
 cases e2
 obtain⟨ey,lt,F1⟩:=zcj Y.fit Y.few e1
 have la:y.1.A.length=st.A.length+1:=by rw[ey];simp
 have l2:y.2=st.A.length+1:=by rw[ey]
 obtain⟨pf,xs,rfl,hp,hx⟩:=F75.fm_at Y.h
 have hp1:=(Y.N.kt f1).sq hp
 have a0:atI (V.str (F75.hdF (.bare z)) :: xs) 0=some (.str z):=zah (j:=0) rfl
 obtain⟨⟨dx1,hn1⟩,_⟩:=id N1
 have e3:zaj S st (.bare z)=zco y [[if z="always" then(y.2:Int) else -(y.2:Int)]]:=by simp only[zaj,e1,Rl.okb]
 rw[e3]at q1 q2
 unfold zco at q1 q2
 refine⟨_,rfl,na,dx1,_,rfl,hn1,zcu _ _ _,_,rfl,pf,_,_,_,rfl,rfl,hp1,a0,rfl,_,rfl,aI (fun c=>?_) (fun c=>?_)⟩
 ·have ez:z="always":=by
   have:=of_decide_eq_true c
   injection this
  rw[if_pos ez]at q1 q2
  refine⟨_,rfl,lS1,fun t ht=>⟨lS1,fun l hl=>?_⟩⟩
  have nr:=new1 ht hl
  refine⟨na,p,tl,al,rl,dk,l,S,y.1,[[(y.2:Int)]],rfl,N1.same nr.1,nr.rows N1 (by show 1≤100;decide) (fun r hr'=>?_),F1.a,F1.r,fun R' eR H3 N3 f3=>⟨_,rfl,q1 (⟨y.1.T,y.1.A,R',y.1.tr⟩,(y.2:Int)) (by rw[eR];rfl) H3 N3 (f1.trans ((FrN.of_same nr.1).trans f3))⟩,fun b eb H3 f3=>q2 b (by rw[eb];rfl) H3 (f1.trans ((FrN.of_same nr.1).trans f3))⟩
  rw[List.mem_singleton.mp hr']
  refine⟨by show 1≤20;decide,fun k hk=>?_⟩
  rw[List.mem_singleton.mp hk]
  exact zac.mpr (by omega)
 ·have ez:¬z="always":=fun e=>c (by rw[e];exact decide_eq_true rfl)
  rw[if_neg ez]at q1 q2
  refine⟨_,rfl,_,rfl,lS1,fun t ht=>⟨lS1,fun l hl=>?_⟩⟩
  have nr:=new1 ht hl
  refine⟨na,p,tl,al,rl,dk,l,S,y.1,[[-(y.2:Int)]],rfl,N1.same nr.1,nr.rows N1 (by show 1≤100;decide) (fun r hr'=>?_),F1.a,F1.r,fun R' eR H3 N3 f3=>⟨_,rfl,q1 (⟨y.1.T,y.1.A,R',y.1.tr⟩,(y.2:Int)) (by rw[eR];rfl) H3 N3 (f1.trans ((FrN.of_same nr.1).trans f3))⟩,fun b eb H3 f3=>q2 b (by rw[eb];rfl) H3 (f1.trans ((FrN.of_same nr.1).trans f3))⟩
  rw[List.mem_singleton.mp hr']
  refine⟨by show 1≤20;decide,fun k hk=>?_⟩
  rw[List.mem_singleton.mp hk]
  exact zac.mpr (by omega)
theorem ziP:zae ["self","formula","terms"] ["self","formula"] (ao zbJ):=⟨rfl,rfl,rfl,by decide +kernel,rfl,by decide +kernel,by decide +kernel⟩
theorem ziR {H:Hp} {p tl al rl:Addr} {T:List Tm} {As:List At} {Rs:List (List Int)} {a b:Int} {Q:VK} {E:XK} (pr:zaB K C H p tl al rl T As Rs) (t60:T.length≤60) (a40:As.length≤40) (ha:0≤a∧a < (T.length:Int)) (hb:0≤b∧b < (T.length:Int))
  (q1:∀ x,zbx As a b=.ok x→∀ H',zaB K C H' p tl al rl T x.1 Rs→Fr2 H H' al rl→Q (.int (x.2:Nat)) H') (q2:∀ e,zbx As a b=.er e→∀ H',ar H H'→E (erV CN CM e) none H'):zhs K C CN CT CP CM [.ref p,.int a,.int b] H Q E:=by
 refine⟨p,tl,al,rl,T,As,Rs,a,b,rfl,pr,by omega,by omega,by omega,?_⟩
 unfold zbx at q1 q2
 unfold addS
 rw[if_neg (by omega)]
 by_cases c:.same b a∈As
 ·rw[if_pos c]
  rw[if_pos c]at q1
  exact q1 _ rfl
 ·rw[if_neg c]
  rw[if_neg c]at q1 q2
  by_cases d:.same a b∈As
  ·rw[if_pos d]
   rw[if_pos d]at q1
   exact q1 _ rfl
  ·rw[if_neg d]
   rw[if_neg d]at q1 q2
   by_cases e:40≤As.length
   ·rw[if_pos e]
    rw[if_pos e]at q2
    exact q2 _ rfl
   ·rw[if_neg e]
    rw[if_neg e]at q1
    exact q1 _ rfl
set_option maxHeartbeats 1000000 in
theorem zlg (F:Fun K "same_part" "Namer.same_part" zbJ f fd) (T:Txt K mg aK C CN CT CP CM) (Z:TxZ K mg CZ) (G:Own P w K mg base C CN CT CP CM fI fA fQ fS fR dI dA' dQ dS dR') (BT:FB P w K mg base CX0 1 "inner_trees" fT dT' ["formula"] (F75.sp_itrees K)) (BA:FB P w K mg base (CX1 P w) 8 "add_tree" fD dD ["problem","tree"] (zdv K C CN CM 3)):FnOk P w K mg base (CX1 P w) 9 f fd ["self","formula"] (zbA K CZ C CN CM fun g=>∃ a b,g=.same a b):=by
 refine Fun.okX F ziP (fun vs H Q E h=>?_) (fun cdv A outer s H vs Q E hr h=>?_)
 ·obtain⟨na,p,tl,al,rl,dk,S,st,g,v,rfl,_⟩:=h
  rfl
 obtain⟨na,p,tl,al,rl,dk,S,st,g,v,rfl,Y,⟨a,b,rfl⟩,q1,q2⟩:=h
 have hr1:aE 1 _:=hr.mono (by decide)
 have hr4:aE 4 _:=hr.mono (by decide)
 refine⟨_,(ae (zeW (i:=2) (N':=["tree","self"]) (ix:=[0]) xe1 ziP.nd rfl (Or.inl rfl) rfl rfl (by decide +kernel) (by decide +kernel) rfl (fun ok=>zbY (sc:=ao zbJ) ok rfl (by decide +kernel) (by decide +kernel)) (by decide +kernel) rfl rfl (fun j i h=>match j,h with | 0,h=>by cases h;exact⟨_,rfl,rfl,.inl rfl,.inl rfl⟩ | n+1,h=>by simp at h) (za6 (zaa BT.ok hr1 rfl BT.m BT.kp BT.b .nil zal (aa (pv 1) ac))) (fun _ _ _ _ _ hp=>(zaa BA.ok hr rfl BA.m BA.kp BA.b .nil hp (aa (zgq K rfl (pv 1) rfl) (aa (pv 0) ac)))))
  (aj (ax (zaJ (zaR (pv 0) rfl) T.cl G.mS G.S hr4 G.bS .nil (zaw xe1) (aa (aF zaN (pv 2) ag (fun _ _=>rfl)) (aa (aF zaN (pv 2) ag (fun _ _=>rfl)) ac)))))),?_⟩
 refine⟨_,rfl,.same a b,v,rfl,Y.h,Y.ok,fun H1 l xs s1 nl hl hx=>?_⟩
 have N1:=Y.N.same s1
 obtain⟨⟨dx1,hn1⟩,pr1,_,_⟩:=id N1
 obtain⟨_,n2,n3,n4⟩:=Y.N.old nl
 obtain⟨_,⟨tsv,ht,hT⟩,_⟩:=id pr1
 have keep:∀ {H'},Fr1 H1 H' tl→H' l=some (.lst xs):=fun f=>f _ _ hl n2
 have nt:na≠tl:=fun z=>by rw[z,ht]at hn1;cases hn1
 have t60:=Y.fit.t
 have xl:xs.length=2:=by rw[←hx.length,F75.dTrs_length];rfl
 have e0:zaj S st (.same a b)=(zaC st.T [a,b]).bind fun x=>(zbx st.A (x.2.getD 0 0) (x.2.getD 1 0)).bind fun y=>.ok (⟨x.1,y.1,st.R,st.tr⟩,(y.2:Int)):=by simp only[zaj]
 rw[e0]at q1 q2
 refine⟨l,rfl,⟨_,SqL.of hl⟩,fun D hD=>?_⟩
 have nDt:D≠tl:=Ne.symm (zag ht hD)
 obtain⟨_,_,nDa,nDr⟩:=N1.old hD
 refine zep za5 (fun i us H'=>∃ x,zaC st.T ([a,b].take i)=.ok x∧Fr1 H1 H' tl∧zaB K C H' p tl al rl x.1 st.A st.R∧us=x.2.map V.int) (fun i us H' ⟨_,_,f1,_⟩=>SqL.of (keep f1)) ⟨_,rfl,Fr1.of_same (ak hD _),pr1.same (ak hD _),rfl⟩ ?_ ?_
 ·rintro i us H8 x H4 hi hly hDs ⟨y,ey,f4,S4,rfl⟩ ⟨rfl,hx4⟩
  obtain⟨u,hu,hxu⟩:=F75.trs_get (hx.keep (f4.keepT ht) (F75.nols_dTrs _)) (hx4 _ (SqL.of (keep f4)))
  change [a,b][i]?=some u at hu
  have um:u∈[a,b]:=List.mem_of_getElem? hu
  have okab:=Y.ok
  have lfab:=Y.lf
  simp only[FOk]at okab
  simp only[LFm]at lfab
  have du:F75.dp u≤3∧LTr u:=by
   simp only[List.mem_cons,List.not_mem_nil,or_false]at um
   rcases um with rfl | rfl
   ·exact⟨okab.1,lfab.1⟩
   ·exact⟨okab.2,lfab.2⟩
  have l4:=(zbm t60 _ ey).1
  have sn:=zeF hu ey
  refine⟨_,rfl,na,CZ,dx1,_,_,rfl,f4 _ _ hn1 nt,Z.cl,Z.nP,zbq _ _ _,_,rfl,p,tl,al,rl,_,st.A,st.R,u,x,rfl,S4,hxu,du.1,du.2,l4,fun z ez H5 S5 f5=>?_,fun e eb H5 f5=>q2 e ?_ H5 ((FrN.of_same s1).trans (FrN.of1 (f4.trans f5)))⟩
  ·have hD5:=f5 _ _ hDs nDt
   have S6:=fun o'=>S5.keep (z:=D) (H':=upd H5 D o') (fun c o hc hn=>by rw[aq hn];exact hc) hD5 nDt nDa nDr
   rw[ez]at sn
   refine zbQ (sz _ (by omega)) hi hly hD5 ⟨_,sn,fun c o hc hn=>?_,S6 _,by rw[List.map_append];rfl⟩
   rw[aq (fun e=>by rw[e,hD]at hc;cases hc)]
   exact f5 _ _ (f4 _ _ hc hn) hn
  ·rw[eb]at sn
   rw[zfL sn]
   rfl
 ·rintro us H4 hDs ⟨y,ey,f4,S4,rfl⟩
  rw[xl]at ey
  change zaC st.T [a,b]=Rl.ok y at ey
  obtain⟨l4,small,_,al3⟩:=zbm t60 _ ey
  obtain⟨⟨dx4,ho4⟩,_⟩:=id S4
  rw[ey]at q1 q2
  simp only[Rl.okb]at q1 q2
  obtain⟨T4,ks⟩:=y
  dsimp only at *
  match ks,al3,small,q1,q2,hDs with
  | [k0,k1],_,small,q1,q2,hDs =>
  have i0:=small k0 (by simp)
  have i1:=small k1 (by simp)
  have at0:atI ([k0,k1].map V.int) 0=some (.int k0):=zah (j:=0) rfl
  have at1:atI ([k0,k1].map V.int) 1=some (.int k1):=zah (j:=1) rfl
  refine⟨_,rfl,na,CZ,dx1,_,_,rfl,f4 _ _ hn1 nt,Z.cl,Z.nP,zbq _ _ _,p,dx4,_,rfl,ho4,zfj _ _ _,_,rfl,D,_,_,_,rfl,rfl,SqL.of hDs,at0,_,rfl,D,_,_,_,rfl,rfl,SqL.of hDs,at1,?_⟩
  have f0:FrN H H4 na tl al rl:=(FrN.of_same s1).trans (FrN.of1 f4)
  refine ziR S4 l4 Y.fit.a i0 i1 (fun x ex H5 S5 f5=>q1 (⟨T4,x.1,st.R,st.tr⟩,(x.2:Int)) (by show(zbx st.A k0 k1).bind _=_;rw[ex];rfl) H5 ?_ (f0.trans (FrN.of2 f5))) (fun e ee H5 s5=>q2 e (by show(zbx st.A k0 k1).bind _=_;rw[ee];rfl) H5 (f0.trans (FrN.of_same s5)))
  exact N1.prob S5 fun b o e n5 n6 n7=>f5 _ _ (f4 _ _ e n5) n6 n7
end
end K75
namespace K75
open PySem L2
open F75 (Tr Fm dTr zaE dFm FOk fdp zaG zcz)
abbrev NU:List Str:=["self","formula","terms","sames","place","one","new"]
theorem zlv {xs:List V} {m:Nat} (h:m≤xs.length):zbz xs (some (m:Int)) none=xs.drop m:=by
 unfold zbz
 rw[HT.sIx_nat,HT.sIx_none,Nat.min_eq_left h]
 rw[List.take_of_length_le (by rw[List.length_drop];exact Nat.le_refl _)]
theorem zkX {ks:List Int} {m:Nat} (h:m≤ks.length):zbz (ks.map V.int) (some (m:Int)) none=(ks.drop m).map V.int:=by
 rw[zlv (by rw[List.length_map];exact h),List.map_drop]
theorem zgD {α:Type} {xs:List α} {i:Nat} {x:α} (h:xs[i]?=some x):xs.drop i=x :: xs.drop (i+1):=by
 obtain⟨hi,e⟩:=List.getElem?_eq_some_iff.mp h
 rw[List.drop_eq_getElem_cons hi,e]
theorem zkI {A0 A:List At} {a b:Int} {bs bs0 us:List Int} (e:za1 A0 a bs0=(za1 A a (b :: bs)).bind fun y=>.ok (y.1,us++y.2)) {x:List At × Nat} (h:zbx A a b=.ok x):za1 A0 a bs0=(za1 x.1 a bs).bind fun y=>.ok (y.1,(us++[(x.2:Int)])++y.2):=by
 rw[e]
 simp only[za1,h,Rl.okb,Rl.bind_assoc,List.append_assoc,List.singleton_append]
theorem zkJ {A0 A:List At} {a b:Int} {bs bs0 us:List Int} (e:za1 A0 a bs0=(za1 A a (b :: bs)).bind fun y=>.ok (y.1,us++y.2)) {c:Bool} (h:zbx A a b=.er c):za1 A0 a bs0=.er c:=by
 rw[e]
 simp only[za1,h,Rl.erb]
theorem ziC {A0 A:List At} {a:Int} {as as0 us:List Int} (e:zaF A0 as0=(zaF A (a :: as)).bind fun y=>.ok (y.1,us++y.2)) {x:List At × List Int} (h:za1 A a as=.ok x):zaF A0 as0=(zaF x.1 as).bind fun y=>.ok (y.1,(us++x.2)++y.2):=by
 rw[e]
 simp only[zaF,h,Rl.okb,Rl.bind_assoc,List.append_assoc]
theorem ziD {A0 A:List At} {a:Int} {as as0 us:List Int} (e:zaF A0 as0=(zaF A (a :: as)).bind fun y=>.ok (y.1,us++y.2)) {c:Bool} (h:za1 A a as=.er c):zaF A0 as0=.er c:=by
 rw[e]
 simp only[zaF,h,Rl.erb]
theorem tri5 {n:Nat} (h:n≤5):tri n≤10:=by
 match n,h with
 | 0,_=>decide
 | 1,_=>decide
 | 2,_=>decide
 | 3,_=>decide
 | 4,_=>decide
 | 5,_=>decide
theorem zaV.putL {K:W.Frag} {C CZ na p tl al rl dk z:Addr} {H:Hp} {S:List Str} {st:St} {zs us:List V} (h:zaV K CZ C H na p tl al rl dk S st) (hz:H z=some (.lst zs)) (n1:z≠tl) (n2:z≠al) (n3:z≠rl):zaV K CZ C (upd H z (.lst us)) na p tl al rl dk S st:=by
 obtain⟨⟨dx,h1⟩,h2,⟨kvs,h3,h4⟩,h5⟩:=h
 refine⟨⟨dx,?_⟩,h2.keep (z:=z) (fun c o hc hne=>by rw[aq hne];exact hc) hz n1 n2 n3,⟨kvs,?_,h4⟩,h5⟩
 ·rw[aq (fun e=>by rw[e,hz]at h1;cases h1)]
  exact h1
 ·rw[aq (fun e=>by rw[e,hz]at h3;cases h3)]
  exact h3
section
variable {P:Program} {w:World} {K:W.Frag} {mg:Str→Option Value} {base:Heap} {aK C CN CT CP CM CZ:Addr} {f fN fP fW fT fD fE:Addr} {fd dN dP dW dT' dD dE:FuncData} {fI fA fQ fS fR:Addr} {dI dA' dQ dS dR':FuncData}
theorem zcP:zae NU ["self","formula"] (ao zaq):=⟨rfl,rfl,rfl,by decide +kernel,rfl,by decide +kernel,by decide +kernel⟩
theorem unl3 (Z:TxZ K mg CZ) (G:OwN P w K mg base CZ C CN CM fP fW dP dW) {cdv:Value} {A:Around} {outer:List Env} {s:Shared} {H0:Hp} {E:XK} (hr:aE 5 (A.deeper (PyProof.Rows.envOfC "Namer.unlike_part" (ao zaq) s.heap.objs.size f cdv))) :
  ∃ t,PSs (zbT (CX1 P w) P w K mg base NU "Namer.unlike_part" (ao zaq) f cdv A outer s H0 E) ((zaO zaq).drop 3) t ∧
   ∀(Dn:zbt) (H:Hp) (na p tl al rl dk ls:Addr) (S:List Str) (st:St) (sm:List Int) (v1 v2 v4 v5:Option V),zaV K CZ C H na p tl al rl dk S st→Fit S st→Few S→H ls=some (.lst (sm.map V.int))→ls≠tl→ls≠al→ls≠rl→sm.length≤10→(∀ k∈sm,1≤k∧k≤(st.A.length:Int)) →
    ToN K CZ C CN CM H na p tl al rl dk S (fun v H'=>Dn.rt v H') E ((zcp S st).bind fun z=>(zbH z.1.R (sm.map fun s=>[-(z.2:Int),-s])).bind fun R=>(zbH R [(z.2:Int) :: sm]).bind fun R'=>.ok (⟨z.1.T,z.1.A,R',z.1.tr⟩,(z.2:Int))) →
    t Dn [some (.ref na),v1,v2,some (.ref ls),v4,v5,none] H:=by
 refine⟨_,(ae (aA (i:=6) zcP.nd rfl (Or.inr rfl) (zfE (pv 0) Z.cl G.mW G.W hr G.bW .nil (zaw xe1)))
  (ae (zaI (zaJ (pv 0) Z.cl G.mP G.P' hr G.bP .nil (zaw xe1) (aa (pe_lc (N':=["same","new"]) (ix:=[6]) rfl rfl (by decide +kernel) (by decide +kernel) rfl (fun ok=>zbY (sc:=ao zaq) ok rfl (by decide +kernel) (by decide +kernel)) (by decide +kernel) rfl rfl (fun j i h=>match j,h with | 0,h=>by cases h;exact⟨_,rfl,rfl,.inl rfl,.inl rfl⟩ | n+1,h=>by simp at h) (za6 (pv 3)) (fun _ _ _ _=>(zaD (aa (zaY zaP (pv 1)) (aa (zaY zaP (pv 0)) ac))))) ac)))
  (ae (zaI (zaJ (pv 0) Z.cl G.mP G.P' hr G.bP .nil (zaw xe1) (aa (zam (aa (au zcW (zam (aa (pv 6) ac)) (pv 3)) ac)) ac)))
  (aj (ax (pv 6)))))),?_⟩
 intro Dn H na p tl al rl dk ls S st sm v1 v2 v4 v5 N F W hls l2 l3 l4 s10 rg ⟨q1,q2⟩
 obtain⟨⟨dx,hn⟩,_⟩:=id N
 have l1:ls≠na:=fun z=>by rw[z,hn]at hls;cases hls
 have b1:=F.n
 have b2:=F.a
 obtain⟨j,hj,free⟩:=zdM W (t:=st.tr) (by omega)
 refine⟨_,rfl,na,dx,_,rfl,hn,zd6 _ _ _,na,p,tl,al,rl,dk,S,st,j,rfl,N,b2,by omega,hj,free,fun x e H1 N1 f1=>?_,fun b e H1 f1=>q2 b (Rl.er_any e _) H1 f1⟩
 obtain⟨y,e1,e2⟩:=Rl.bind_ok e
 cases e2
 obtain⟨ey,lt,F1⟩:=zcj F W e1
 have la:y.1.A.length=st.A.length+1:=by rw[ey];simp
 have l2':y.2=st.A.length+1:=by rw[ey]
 rw[e1]at q1 q2
 simp only[Rl.okb]at q1 q2
 have hls1:=f1 _ _ hls l1 l2 l3 l4
 obtain⟨⟨dx1,hn1⟩,_⟩:=id N1
 refine⟨_,rfl,na,dx1,_,rfl,hn1,zcu _ _ _,_,rfl,ls,rfl,⟨_,SqL.of hls1⟩,fun D hD=>?_⟩
 have keep:∀ {H':Hp},ar H1 H'→H' ls=some (.lst (sm.map V.int)):=fun s'=>s' _ _ hls1
 refine zep za5 (fun i us H'=>ar H1 H'∧∃ ps:List (Addr × List Int),us=(ps.map fun x=>V.ref x.1)∧ps.map (·.2)=(sm.take i).map (fun s=>[-(y.2:Int),-s])∧∀ x∈ps,H1 x.1=none∧x.1≠D∧H' x.1=some (.tup (x.2.map V.int))) (fun i us H' ⟨s',_⟩=>SqL.of (keep s')) ⟨ak hD _,[],rfl,by simp,fun x hx=>nomatch hx⟩ ?_ ?_
 ·rintro i us H8 x H4 hi hly hDs ⟨s4,ps,rfl,es,hps⟩ ⟨rfl,hx4⟩
  have hx5:=hx4 _ (SqL.of (keep s4))
  rw[List.getElem?_map]at hx5
  obtain⟨k,hk,rfl⟩:=Option.map_eq_some_iff.mp hx5
  refine⟨_,rfl,_,rfl,_,rfl,_,rfl,lS2,fun t ht=>?_⟩
  have nDt:D≠t:=fun z=>by rw[z,ht]at hDs;cases hDs
  have s5:ar H4 (upd H4 t (.tup [V.int (-(y.2:Int)),V.int (-k)])):=ak ht _
  have n5:=ad (H:=H4) (a:=t) (o:=.tup [V.int (-(y.2:Int)),V.int (-k)])
  generalize upd H4 t (.tup [V.int (-(y.2:Int)),V.int (-k)])=H5 at s5 n5
  have sml:sm.length=(sm.map V.int).length:=by rw[List.length_map]
  refine zbQ (sz _ (by omega)) hi hly (s5 _ _ hDs) ⟨(s4.trans s5).upd hD,ps++[(t,[-(y.2:Int),-k])],by rw[List.map_append];rfl,by rw[List.map_append,es,zaW hk,List.map_append];rfl,fun x hx=>?_⟩
  rcases List.mem_append.mp hx with hx | hx
  ·obtain⟨a1,a2,a3⟩:=hps x hx
   exact⟨a1,a2,by rw[aq a2];exact s5 _ _ a3⟩
  ·rw[List.mem_singleton.mp hx]
   exact⟨s4.free ht,Ne.symm nDt,by rw[aq (Ne.symm nDt)];exact n5⟩
 rintro us H4 hDs ⟨s4,ps,rfl,es,hps⟩
 rw[List.length_map,List.take_length]at es
 have nr:zc5 H1 H4 D (sm.map fun s=>[-(y.2:Int),-s]):=⟨s4,hD,ps,hDs,es,fun x hx=>⟨(hps x hx).1,(hps x hx).2.2⟩⟩
 refine⟨na,p,tl,al,rl,dk,D,S,y.1,_,rfl,N1.same s4,nr.rows N1 (by rw[List.length_map];omega) (fun r hr'=>?_),F1.a,F1.r,fun R eR H5 N5 f5=>?_,fun b eb H5 f5=>q2 b (by rw[eb];rfl) H5 (f1.trans ((FrN.of_same s4).trans f5))⟩
 ·obtain⟨k,hk,rfl⟩:=List.mem_map.mp hr'
  refine⟨by show 2≤20;decide,fun z hz=>?_⟩
  have:=rg k hk
  simp only[List.mem_cons,List.not_mem_nil,or_false]at hz
  rcases hz with rfl | rfl
  ·exact zac.mpr (by omega)
  ·exact zac.mpr (by omega)
 rw[eR]at q1 q2
 simp only[Rl.okb]at q1 q2
 have f05:FrN H H5 na tl al rl:=f1.trans ((FrN.of_same s4).trans f5)
 obtain⟨⟨dx5,hn5⟩,_⟩:=id N5
 have hls5:=f05 _ _ hls l1 l2 l3 l4
 refine⟨_,rfl,na,dx5,_,rfl,hn5,zcu _ _ _,_,rfl,lS1,fun b1 hb1=>?_⟩
 have s6:ar H5 (upd H5 b1 (.lst [V.int (y.2:Int)])):=ak hb1 _
 have n6:=ad (H:=H5) (a:=b1) (o:=.lst [V.int (y.2:Int)])
 generalize upd H5 b1 (.lst [V.int (y.2:Int)])=H6 at s6 n6
 refine⟨_,rfl,b1,ls,_,_,rfl,rfl,n6,s6 _ _ hls5,sz _ (by rw[List.length_map,List.length_singleton];omega),fun b2 hb2=>?_⟩
 have s7:ar H6 (upd H6 b2 (.lst ([V.int (y.2:Int)]++sm.map V.int))):=ak hb2 _
 have n7:=ad (H:=H6) (a:=b2) (o:=.lst ([V.int (y.2:Int)]++sm.map V.int))
 generalize upd H6 b2 (.lst ([V.int (y.2:Int)]++sm.map V.int))=H7 at s7 n7
 refine⟨lS1,fun b3 hb3=>?_⟩
 have s8:ar H7 (upd H7 b3 (.lst [V.ref b2])):=ak hb3 _
 have n8:=ad (H:=H7) (a:=b3) (o:=.lst [V.ref b2])
 generalize upd H7 b3 (.lst [V.ref b2])=H8 at s8 n8
 have s58:=(s6.trans s7).trans s8
 have fb2:=N5.old (s6.free hb2)
 have fb3:=N5.old (s6.free (s7.free hb3))
 obtain⟨rR,r200⟩:=zbk eR
 refine⟨na,p,tl,al,rl,dk,b3,S,⟨y.1.T,y.1.A,R,y.1.tr⟩,[(y.2:Int) :: sm],rfl,N5.same s58,⟨[(b2,(y.2:Int) :: sm)],n8,rfl,fb3.2.1,fb3.2.2.1,fb3.2.2.2,by show 1≤100;decide,fun x hx=>?_⟩,F1.a,r200,fun R' eR' H9 N9 f9=>?_,fun b eb H9 f9=>q2 b (by rw[eb];rfl) H9 (f05.trans ((FrN.of_same s58).trans f9))⟩
 ·rw[List.mem_singleton.mp hx]
  refine⟨.inl (s8 _ _ n7),fb2.2.1,fb2.2.2.1,fb2.2.2.2,by simp only[List.length_cons];omega,fun k hk=>?_⟩
  rcases List.mem_cons.mp hk with rfl | hk
  ·exact zac.mpr (by show _∧_≤((y.1.A.length:Nat):Int)∧_;omega)
  ·have:=rg k hk
   exact zac.mpr (by show _∧_≤((y.1.A.length:Nat):Int)∧-((y.1.A.length:Nat):Int)≤_;omega)
 ·exact⟨_,rfl,q1 (⟨y.1.T,y.1.A,R',y.1.tr⟩,(y.2:Int)) (by rw[eR'];rfl) H9 N9 (f05.trans ((FrN.of_same s58).trans f9))⟩
theorem unl2 (T:Txt K mg aK C CN CT CP CM) (TN:TxN mg) (Z:TxZ K mg CZ) (G:Own P w K mg base C CN CT CP CM fI fA fQ fS fR dI dA' dQ dS dR') (GN:OwN P w K mg base CZ C CN CM fP fW dP dW) {cdv:Value} {A:Around} {outer:List Env} {s:Shared} {H0:Hp} {E:XK} (hr:aE 5 (A.deeper (PyProof.Rows.envOfC "Namer.unlike_part" (ao zaq) s.heap.objs.size f cdv))) :
  ∃ t,PSs (zbT (CX1 P w) P w K mg base NU "Namer.unlike_part" (ao zaq) f cdv A outer s H0 E) ((zaO zaq).drop 1) t ∧
   ∀(Dn:zbt) (H:Hp) (na p tl al rl dk D:Addr) (S:List Str) (st:St) (ks:List Int) (v1:Option V),zaV K CZ C H na p tl al rl dk S st→Fit S st→Few S→H D=some (.lst (ks.map V.int))→D≠tl→D≠al→D≠rl→ks.length≤5→(∀ k∈ks,0≤k∧k < (st.T.length:Int)) →
    ToN K CZ C CN CM H na p tl al rl dk S (fun v H'=>Dn.rt v H') E ((zaF st.A ks).bind fun y=>(zcp S ⟨st.T,y.1,st.R,st.tr⟩).bind fun z=>(zbH z.1.R (y.2.map fun s=>[-(z.2:Int),-s])).bind fun R=>(zbH R [(z.2:Int) :: y.2]).bind fun R'=>.ok (⟨z.1.T,z.1.A,R',z.1.tr⟩,(z.2:Int))) →
    t Dn [some (.ref na),v1,some (.ref D),none,none,none,none] H:=by
 have hr4:aE 4 _:=hr.mono (by decide)
 obtain⟨t3,h3,g3⟩:=unl3 (f:=f) (outer:=outer) (H0:=H0) (E:=E) (base:=base) Z GN hr
 refine⟨_,(ae (aA (i:=3) zcP.nd rfl (Or.inl rfl) (zam ac))
  (ae (zaZ PassesOwn.leaving rfl (zlT rfl TN.enumerate (aa (pv 2) ac)) (zj2 rfl (zeu (zay (i:=4) zcP.nd rfl (Or.inl rfl)) (zeu (zay (i:=5) zcP.nd rfl (Or.inr rfl)) ziW)))
   (aj (zaI (zbB PySem.F.plainAttrs_list PySem.F.slot_list_extend PySem.F.type_list_extend zkN (pv 3) (aa (pe_lcX (N':=["other","one","self"]) (ix:=[5,0]) xe1 rfl rfl (by decide +kernel) (by decide +kernel) rfl (fun ok=>zbY (sc:=ao zaq) ok rfl (by decide +kernel) (by decide +kernel)) (by decide +kernel) rfl rfl (fun j i h=>match j,h with | 0,h=>by cases h;exact⟨_,rfl,rfl,.inl rfl,.inl rfl⟩ | 1,h=>by cases h;exact⟨_,rfl,rfl,.inl rfl,.inl rfl⟩ | n+2,h=>by simp at h) (za6 (zbG zee (pv 2) (zb4 (au zaM (pv 4) ag)) zb5)) (fun _ _ _ _ _ hp=>(zaJ (zgq K rfl (pv 2) rfl) T.cl G.mS G.S hr4 G.bS .nil hp (aa (pv 1) (aa (pv 0) ac))))) ac)))))
  h3)),?_⟩
 intro Dn H na p tl al rl dk D S st ks v1 N F W hD d2 d3 d4 k5 rg q
 obtain⟨⟨dx,hn⟩,pr0,_⟩:=id N
 have d1:D≠na:=fun z=>by rw[z,hn]at hD;cases hD
 refine⟨lS0,fun ls nls=>?_⟩
 obtain⟨ln,lt,la,lr⟩:=N.old nls
 have s1:ar H (upd H ls (.lst [])):=ak nls _
 have n1:=ad (H:=H) (a:=ls) (o:=.lst [])
 have keep:∀ {H':Hp},FrN H H' na tl al rl→H' D=some (.lst (ks.map V.int)):=fun f=>f _ _ hD d1 d2 d3 d4
 have kl:ks.length=(ks.map V.int).length:=by rw[List.length_map]
 refine⟨_,rfl,D,rfl,⟨_,SqL.of (s1 _ _ hD)⟩,zbO zlC (fun i σ H'=>∃(v4 v5:Option V) (A':List At) (sm:List Int),σ=[some (.ref na),v1,some (.ref D),some (.ref ls),v4,v5,none]∧FrN H H' na tl al rl∧zaV K CZ C H' na p tl al rl dk S ⟨st.T,A',st.R,st.tr⟩∧zd4 st.A A'∧H' ls=some (.lst (sm.map V.int))∧sm.length≤5 * i∧zaF st.A ks=(zaF A' (ks.drop i)).bind fun y=>.ok (y.1,sm++y.2)) (fun i σ H' ⟨_,_,_,_,_,f',_⟩=>SqL.of (keep f'))
  ⟨none,none,st.A,[],rfl,FrN.of_same s1,N.same s1,⟨Nat.le_refl _,F.a,fun _ z=>z⟩,n1,Nat.le_refl _,?_⟩ ?_ ?_⟩
 ·rw[List.drop_zero]
  cases zaF st.A ks <;> rfl
 ·rintro i σ H2 x H3 hi ⟨v4,v5,A',sm,rfl,f2,N2,m2,hs2,l2,e2⟩ ⟨t,y,rfl,ht,rfl,hy⟩
  have hy':=hy _ (SqL.of (keep f2))
  rw[List.getElem?_map]at hy'
  obtain⟨k,hk,rfl⟩:=Option.map_eq_some_iff.mp hy'
  have kin:=rg k (List.mem_of_getElem? hk)
  have s3:ar H2 (upd H2 t (.tup [.int i,.int k])):=ak ht _
  have n3:=ad (H:=H2) (a:=t) (o:=.tup [.int i,.int k])
  generalize upd H2 t (.tup [.int i,.int k])=H3 at s3 n3
  have hi':i < ks.length:=by omega
  rw[zgD hk]at e2
  refine⟨t,_,rfl,SqT.of n3,rfl,_,_,rfl,_,_,rfl,rfl,?_⟩
  have hD3:=s3 _ _ (keep f2)
  have hs3:=s3 _ _ hs2
  refine⟨_,rfl,.inl ⟨rfl,_,SqL.of hs3⟩,_,rfl,_,rfl,_,_,rfl,rfl,_,rfl,D,_,rfl,SqL.of hD3,fun c hc=>?_⟩
  have ec:zbz (ks.map V.int) (some ((i:Int)+1)) none=(ks.drop (i+1)).map V.int:=zkX (m:=i+1) (by omega)
  rw[ec]
  have s4:ar H3 (upd H3 c (.lst ((ks.drop (i+1)).map V.int))):=ak hc _
  have n4:=ad (H:=H3) (a:=c) (o:=.lst ((ks.drop (i+1)).map V.int))
  generalize upd H3 c (.lst ((ks.drop (i+1)).map V.int))=H4 at s4 n4
  have s24:=s3.trans s4
  have N4:=N2.same s24
  obtain⟨⟨dx4,hn4⟩,pr4,_⟩:=id N4
  obtain⟨c1,c2,c3,c4⟩:=N2.old (s3.free hc)
  refine⟨c,rfl,⟨_,SqL.of n4⟩,fun U hU=>?_⟩
  obtain⟨u1,u2,u3,u4⟩:=N4.old hU
  have hU2:=s24.free hU
  have uls:ls≠U:=fun z=>by rw[z,hU2]at hs2;cases hs2
  have kc:∀ {H':Hp},Fr2 H4 H' al rl→H' c=some (.lst ((ks.drop (i+1)).map V.int)):=fun f=>f _ _ n4 c3 c4
  have dl:((ks.drop (i+1)).map V.int).length≤5:=by rw[List.length_map,List.length_drop];omega
  have nna:∀ {xs:List V} {z:Addr},H4 z=some (.lst xs)→na≠z:=fun e z=>by rw[z,e]at hn4;cases hn4
  obtain⟨_,⟨_,t4,_⟩,⟨_,a4,_⟩,⟨_,r4,_⟩,_⟩:=id pr4
  refine zep za5 (fun j us H'=>∃(A2:List At) (ms:List Int),us=ms.map V.int∧Fr2 H4 H' al rl∧zaB K C H' p tl al rl st.T A2 st.R∧zd4 A' A2∧za1 A' k (ks.drop (i+1))=(za1 A2 k ((ks.drop (i+1)).drop j)).bind fun y=>.ok (y.1,ms++y.2)) (fun j us H' ⟨_,_,_,f',_⟩=>SqL.of (kc f')) ⟨A',[],rfl,Fr2.of_same (ak hU _),pr4.same (ak hU _),⟨Nat.le_refl _,m2.a,fun _ z=>z⟩,?_⟩ ?_ ?_
  ·rw[List.drop_zero]
   cases za1 A' k (ks.drop (i+1)) <;> rfl
  ·rintro j us H8 x H6 hj hly hUs ⟨A2,ms,rfl,f6,pr6,m6,e6⟩ ⟨rfl,hx6⟩
   have hx':=hx6 _ (SqL.of (kc f6))
   rw[List.getElem?_map]at hx'
   obtain⟨b,hb,rfl⟩:=Option.map_eq_some_iff.mp hx'
   have bin:=rg b (List.mem_of_mem_drop (List.mem_of_getElem? hb))
   rw[zgD hb]at e6
   obtain⟨⟨dx6,hp6⟩,_⟩:=id pr6
   refine⟨_,rfl,na,CZ,dx4,_,_,rfl,f6 _ _ hn4 (nna a4) (nna r4),Z.cl,Z.nP,zbq _ _ _,p,dx6,_,rfl,hp6,zfj _ _ _,_,rfl,_,rfl,ziR pr6 F.t m6.a kin bin (fun z ez H7 pr7 f7=>?_) (fun e ee H7 s7=>?_)⟩
   ·obtain⟨m7,z1,z2⟩:=zew ez m6.a
    have hU7:=f7 _ _ hUs u3 u4
    refine zbQ (sz _ (by omega)) hj hly hU7 ⟨z.1,ms++[(z.2:Int)],by rw[List.map_append];rfl,fun c' o hc' h1 h2=>?_,pr7.keep (z:=U) (fun c' o hc' hne=>by rw[aq hne];exact hc') hU7 u2 u3 u4,m6.trans m7,zkI e6 ez⟩
    rw[aq (fun e=>by rw[e,hU]at hc';cases hc')]
    exact f7 _ _ (f6 _ _ hc' h1 h2) h1 h2
   ·refine q.2 e (by rw[ziD e2 (zkJ e6 ee)];rfl) H7 (f2.trans ((FrN.of_same s24).trans ((FrN.of2 f6).trans (FrN.of_same s7))))
  ·rintro us H6 hUs ⟨A2,ms,rfl,f6,pr6,m6,e6⟩
   rw[List.length_map,List.drop_length]at e6
   simp only[za1,Rl.okb,List.append_nil]at e6
   obtain⟨_,_,ml⟩:=zgs e6 m2.a
   rw[List.length_drop]at ml
   have nl:ls≠al∧ls≠rl:=⟨la,lr⟩
   have hs6:=f6 _ _ (s24 _ _ hs2) la lr
   dsimp only at ml
   refine⟨ls,U,_,_,rfl,rfl,hs6,hUs,sz _ (by rw[List.length_map,List.length_map];omega),_,_,A2,sm++ms,rfl,fun b o hb h1 h2 h3 h4=>?_,?_,m2.trans m6,by rw[List.map_append];exact ad,by rw[List.length_append];omega,ziC e2 e6⟩
   ·rw[aq (fun e=>by rw[e,nls]at hb;cases hb)]
    exact f6 _ _ (s24 _ _ (f2 _ _ hb h1 h2 h3 h4)) h3 h4
   ·exact(N4.prob pr6 fun b o e _ h2 h3=>f6 _ _ e h2 h3).putL hs6 lt la lr
 ·rintro σ H2 ⟨v4,v5,A',sm,rfl,f2,N2,m2,hs2,l2,e2⟩
  rw[List.length_map,List.drop_length]at e2
  simp only[zaF,Rl.okb,List.append_nil]at e2
  obtain⟨_,kr,kl2⟩:=zdf e2 F.a
  dsimp only at kr kl2
  obtain⟨q1,q2⟩:=q
  rw[e2]at q1 q2
  simp only[Rl.okb]at q1 q2
  exact g3 Dn H2 na p tl al rl dk ls S ⟨st.T,A',st.R,st.tr⟩ sm _ _ _ _ N2 (F.more F.t m2) W hs2 lt la lr (by rw[kl2];exact tri5 k5) kr ⟨fun x e H5 N5 f5=>q1 x e H5 N5 (f2.trans f5),fun b e H5 f5=>q2 b e H5 (f2.trans f5)⟩
set_option maxHeartbeats 1000000 in
theorem zkB (F:Fun K "unlike_part" "Namer.unlike_part" zaq f fd) (T:Txt K mg aK C CN CT CP CM) (TN:TxN mg) (Z:TxZ K mg CZ) (G:Own P w K mg base C CN CT CP CM fI fA fQ fS fR dI dA' dQ dS dR') (GN:OwN P w K mg base CZ C CN CM fP fW dP dW) (BT:FB P w K mg base CX0 1 "inner_trees" fT dT' ["formula"] (F75.sp_itrees K)) (BA:FB P w K mg base (CX1 P w) 8 "add_tree" fD dD ["problem","tree"] (zdv K C CN CM 3)):FnOk P w K mg base (CX1 P w) 9 f fd ["self","formula"] (zbA K CZ C CN CM fun g=>∃ ts,g=.unlike ts):=by
 refine Fun.okX F zcP (fun vs H Q E h=>?_) (fun cdv A outer s H vs Q E hr h=>?_)
 ·obtain⟨na,p,tl,al,rl,dk,S,st,g,v,rfl,_⟩:=h
  rfl
 obtain⟨na,p,tl,al,rl,dk,S,st,g,v,rfl,Y,⟨ts,rfl⟩,q1,q2⟩:=h
 have hr1:aE 1 _:=hr.mono (by decide)
 have hr5:aE 5 _:=hr.mono (by decide)
 obtain⟨t2,h2,g2⟩:=unl2 (f:=f) (outer:=outer) (H0:=H) (E:=E) (base:=base) T TN Z G GN hr5
 refine⟨_,(ae (zeW (i:=2) (N':=["tree","self"]) (ix:=[0]) xe1 zcP.nd rfl (Or.inl rfl) rfl rfl (by decide +kernel) (by decide +kernel) rfl (fun ok=>zbY (sc:=ao zaq) ok rfl (by decide +kernel) (by decide +kernel)) (by decide +kernel) rfl rfl (fun j i h=>match j,h with | 0,h=>by cases h;exact⟨_,rfl,rfl,.inl rfl,.inl rfl⟩ | n+1,h=>by simp at h) (za6 (zaa BT.ok hr1 rfl BT.m BT.kp BT.b .nil zal (aa (pv 1) ac))) (fun _ _ _ _ _ hp=>(zaa BA.ok hr rfl BA.m BA.kp BA.b .nil hp (aa (zgq K rfl (pv 1) rfl) (aa (pv 0) ac)))))
  h2),?_⟩
 refine⟨_,rfl,.unlike ts,v,rfl,Y.h,Y.ok,fun H1 l xs s1 nl hl hx=>?_⟩
 have N1:=Y.N.same s1
 obtain⟨⟨dx1,hn1⟩,pr1,_,_⟩:=id N1
 obtain⟨_,n2,n3,n4⟩:=Y.N.old nl
 obtain⟨_,⟨tsv,ht,hT⟩,_⟩:=id pr1
 have keep:∀ {H'},Fr1 H1 H' tl→H' l=some (.lst xs):=fun f=>f _ _ hl n2
 have nt:na≠tl:=fun z=>by rw[z,ht]at hn1;cases hn1
 have t60:=Y.fit.t
 have lfab:=Y.lf
 simp only[LFm]at lfab
 have okab:=Y.ok
 simp only[FOk]at okab
 have xl:xs.length=ts.length:=by rw[←hx.length,F75.dTrs_length];rfl
 have e0:zaj S st (.unlike ts)=zeH S st ts:=by simp only[zaj]
 rw[e0]at q1 q2
 unfold zeH at q1 q2
 refine⟨l,rfl,⟨_,SqL.of hl⟩,fun D hD=>?_⟩
 have nDt:D≠tl:=Ne.symm (zag ht hD)
 obtain⟨_,_,nDa,nDr⟩:=N1.old hD
 refine zep za5 (fun i us H'=>∃ x,zaC st.T (ts.take i)=.ok x∧Fr1 H1 H' tl∧zaB K C H' p tl al rl x.1 st.A st.R∧us=x.2.map V.int) (fun i us H' ⟨_,_,f1,_⟩=>SqL.of (keep f1)) ⟨_,rfl,Fr1.of_same (ak hD _),pr1.same (ak hD _),rfl⟩ ?_ ?_
 ·rintro i us H8 x H4 hi hly hDs ⟨y,ey,f4,S4,rfl⟩ ⟨rfl,hx4⟩
  obtain⟨u,hu,hxu⟩:=F75.trs_get (hx.keep (f4.keepT ht) (F75.nols_dTrs _)) (hx4 _ (SqL.of (keep f4)))
  change ts[i]?=some u at hu
  have um:u∈ts:=List.mem_of_getElem? hu
  have l4:=(zbm t60 _ ey).1
  have sn:=zeF hu ey
  refine⟨_,rfl,na,CZ,dx1,_,_,rfl,f4 _ _ hn1 nt,Z.cl,Z.nP,zbq _ _ _,_,rfl,p,tl,al,rl,_,st.A,st.R,u,x,rfl,S4,hxu,okab u um,lfab.1 u um,l4,fun z ez H5 S5 f5=>?_,fun e eb H5 f5=>q2 e ?_ H5 ((FrN.of_same s1).trans (FrN.of1 (f4.trans f5)))⟩
  ·have hD5:=f5 _ _ hDs nDt
   have S6:=fun o'=>S5.keep (z:=D) (H':=upd H5 D o') (fun c o hc hn=>by rw[aq hn];exact hc) hD5 nDt nDa nDr
   rw[ez]at sn
   refine zbQ (sz _ (by omega)) hi hly hD5 ⟨_,sn,fun c o hc hn=>?_,S6 _,by rw[List.map_append];rfl⟩
   rw[aq (fun e=>by rw[e,hD]at hc;cases hc)]
   exact f5 _ _ (f4 _ _ hc hn) hn
  ·rw[eb]at sn
   rw[zfL sn]
   rfl
 ·rintro us H4 hDs ⟨y,ey,f4,S4,rfl⟩
  rw[xl,List.take_length]at ey
  obtain⟨l4,small,_,al3⟩:=zbm t60 _ ey
  rw[ey]at q1 q2
  simp only[Rl.okb]at q1 q2
  have f0:FrN H H4 na tl al rl:=(FrN.of_same s1).trans (FrN.of1 f4)
  have N4:=N1.prob S4 fun b o e n5 n6 n7=>f4 _ _ e n5
  exact g2 _ H4 na p tl al rl dk D S ⟨y.1,st.A,st.R,st.tr⟩ y.2 _ N4 (Y.fit.more l4 ⟨Nat.le_refl _,Y.fit.a,fun _ z=>z⟩) Y.few hDs nDt nDa nDr (by omega) small ⟨fun x e H5 N5 f5=>q1 x e H5 N5 (f0.trans f5),fun b e H5 f5=>q2 b e H5 (f0.trans f5)⟩
end
end K75
namespace K75
open PySem L2
open F75 (Tr Fm dTr zaE dFm FOk fdp zaG zcz)
section
variable {P:Program} {w:World} {K:W.Frag} {mg:Str→Option Value} {base:Heap} {aK C CN CT CP CM CZ:Addr} {f fF fN fP fW fT fD fE fR' fU fB fS':Addr} {fd dF dN dP dW dT' dD dE dR'' dU dB dS':FuncData} {fI fA fQ fS fR:Addr} {dI dA' dQ dS dR':FuncData}
theorem zet:zae ["self","formula","one","other","new"] ["self","formula"] (ao zbK):=⟨rfl,rfl,rfl,by decide +kernel,rfl,by decide +kernel,by decide +kernel⟩
theorem zfu.keep {H H':Hp} {na p tl al rl dk:Addr} {S:List Str} {st st':St} {g:Fm} {v:V} (h:zfu K CZ C H na p tl al rl dk S st g v) (f:FrN H H' na tl al rl) (N:zaV K CZ C H' na p tl al rl dk S st') (F:Fit S st'):zfu K CZ C H' na p tl al rl dk S st' g v :=
 ⟨N,h.h.keep (h.N.kt f) (F75.nol_dFm _),h.ok,h.lf,F,h.few,h.pl⟩
theorem prF_ok {k:Str} {n a b:Int} {m:Nat} (hn:zaf m n=false) (ha:zaf m a=false) (hb:zaf m b=false):(prF k n a b).length≤100∧∀ r∈prF k n a b,r.length≤20∧∀ x∈r,zaf m x=false:=by
 have hn':=zac.mp hn
 have ha':=zac.mp ha
 have hb':=zac.mp hb
 have nn:zaf m (-n)=false:=zac.mpr (by omega)
 have an:zaf m (-a)=false:=zac.mpr (by omega)
 have bn:zaf m (-b)=false:=zac.mpr (by omega)
 unfold prF
 split
 ·refine⟨by show _≤100;simp,fun r hr=>?_⟩
  simp only[List.mem_cons,List.not_mem_nil,or_false]at hr
  rcases hr with rfl | rfl | rfl <;> refine⟨by simp,fun x hx=>?_⟩ <;> simp only[List.mem_cons,List.not_mem_nil,or_false]at hx
  ·rcases hx with rfl | rfl <;> assumption
  ·rcases hx with rfl | rfl <;> assumption
  ·rcases hx with rfl | rfl | rfl <;> assumption
 split
 ·refine⟨by show _≤100;simp,fun r hr=>?_⟩
  simp only[List.mem_cons,List.not_mem_nil,or_false]at hr
  rcases hr with rfl | rfl | rfl <;> refine⟨by simp,fun x hx=>?_⟩ <;> simp only[List.mem_cons,List.not_mem_nil,or_false]at hx
  ·rcases hx with rfl | rfl | rfl <;> assumption
  ·rcases hx with rfl | rfl <;> assumption
  ·rcases hx with rfl | rfl <;> assumption
 split
 ·refine⟨by show _≤100;simp,fun r hr=>?_⟩
  simp only[List.mem_cons,List.not_mem_nil,or_false]at hr
  rcases hr with rfl | rfl | rfl <;> refine⟨by simp,fun x hx=>?_⟩ <;> simp only[List.mem_cons,List.not_mem_nil,or_false]at hx
  ·rcases hx with rfl | rfl | rfl <;> assumption
  ·rcases hx with rfl | rfl <;> assumption
  ·rcases hx with rfl | rfl <;> assumption
 ·refine⟨by show _≤100;simp,fun r hr=>?_⟩
  simp only[List.mem_cons,List.not_mem_nil,or_false]at hr
  rcases hr with rfl | rfl | rfl | rfl <;> refine⟨by simp,fun x hx=>?_⟩ <;> simp only[List.mem_cons,List.not_mem_nil,or_false]at hx <;> rcases hx with rfl | rfl | rfl <;> assumption
theorem zgZ {m n:Nat} {k:Int} (h:zaf m k=false) (l:m≤n):zaf n k=false:=by
 have:=zac.mp h
 exact zac.mpr (by omega)
set_option maxHeartbeats 1000000 in
theorem zlj {n:Nat} (F:Fun K "pair_part" "Namer.pair_part" zbK f fd) (Z:TxZ K mg CZ) (GN:OwN P w K mg base CZ C CN CM fP fW dP dW) (BR:FB P w K mg base CX0 1 "pair_rows" fR' dR'' ["kind","new","one","other"] zgf)
  (IH:FnOk P w K mg base (CX1 P w) (2 * n+10) fF dF ["self","formula"] (zbA K CZ C CN CM fun g=>fdp g≤n)) (bF:av K dF ["self","formula"] []) (mF:zbg K CZ "formula_part" fF):FnOk P w K mg base (CX1 P w) (2 * n+11) f fd ["self","formula"] (zbA K CZ C CN CM fun g=>(∃ k a b,g=.bin k a b)∧fdp g≤n+1):=by
 refine Fun.okX F zet (fun vs H Q E h=>?_) (fun cdv A outer s H vs Q E hr h=>?_)
 ·obtain⟨na,p,tl,al,rl,dk,S,st,g,v,rfl,_⟩:=h
  rfl
 obtain⟨na,p,tl,al,rl,dk,S,st,g,v,rfl,Y,⟨⟨k,a,b,rfl⟩,hd⟩,q1,q2⟩:=h
 have hr1:aE 1 _:=hr.mono (by omega)
 have hr5:aE 5 _:=hr.mono (by omega)
 refine⟨_,(ae (aA (i:=2) zet.nd rfl (Or.inl rfl) (zaJ (pv 0) Z.cl mF IH hr bF .nil (zaw xe1) (aa (aF zat (pv 1) ag (fun _ _=>rfl)) ac)))
  (ae (aA (i:=3) zet.nd rfl (Or.inl rfl) (zaJ (pv 0) Z.cl mF IH hr bF .nil (zaw xe1) (aa (aF zat (pv 1) ag (fun _ _=>rfl)) ac)))
  (ae (aA (i:=4) zet.nd rfl (Or.inl rfl) (zfE (pv 0) Z.cl GN.mW GN.W hr5 GN.bW .nil (zaw xe1)))
  (ae (zaI (zaJ (pv 0) Z.cl GN.mP GN.P' hr5 GN.bP .nil (zaw xe1) (aa (zaa BR.ok hr1 rfl BR.m BR.kp BR.b .nil zal (aa (aF zat (pv 1) ag (fun _ _=>rfl)) (aa (pv 4) (aa (pv 2) (aa (pv 3) ac))))) ac)))
  (aj (ax (pv 4))))))),?_⟩
 obtain⟨pf,xs,rfl,hp,hx⟩:=F75.fm_at Y.h
 simp only[F75.tlF]at hx
 obtain⟨va,vb,rfl,ha,hb⟩:=F75.HasL.two hx
 have a0:atI (V.str (F75.hdF (.bin k a b)) :: [va,vb]) 0=some (.str k):=zah (j:=0) rfl
 have a1:atI (V.str (F75.hdF (.bin k a b)) :: [va,vb]) 1=some va:=zah (j:=1) rfl
 have a2:atI (V.str (F75.hdF (.bin k a b)) :: [va,vb]) 2=some vb:=zah (j:=2) rfl
 simp only[fdp]at hd
 obtain⟨⟨dx,hn⟩,_⟩:=id Y.N
 have ok:=Y.ok
 have lf:=Y.lf
 simp only[FOk]at ok
 simp only[LFm]at lf
 have Ya:zfu K CZ C H na p tl al rl dk S st a va:=⟨Y.N,ha,ok.2.1,lf.1,Y.fit,Y.few,fun z hz=>Y.pl z (by simp [plF,hz])⟩
 have e0:zaj S st (.bin k a b)=(zaj S st a).bind fun x=>(zaj S x.1 b).bind fun y=>(zcp S y.1).bind fun z=>zco z (prF k z.2 x.2 y.2):=by simp only[zaj]
 rw[e0]at q1 q2
 refine⟨_,rfl,na,dx,_,rfl,hn,zca _ _ _,_,rfl,pf,_,_,_,rfl,rfl,hp,a1,na,p,tl,al,rl,dk,S,st,a,va,rfl,Ya,by omega,fun x e1 H1 N1 f1=>?_,fun e ee H1 f1=>q2 e (by rw[ee];rfl) H1 f1⟩
 obtain⟨F1,le1,np1⟩:=za4 Y.few Y.fit lf.1 Ya.pl e1
 have hp1:=(Y.N.kt f1).sq hp
 obtain⟨⟨dx1,hn1⟩,_⟩:=id N1
 have Yb:zfu K CZ C H1 na p tl al rl dk S x.1 b vb:=⟨N1,hb.keep (Y.N.kt f1) (F75.nol_dFm _),ok.2.2,lf.2,F1,Y.few,fun z hz=>Y.pl z (by simp [plF,hz])⟩
 rw[e1]at q1 q2
 simp only[Rl.okb]at q1 q2
 refine⟨_,rfl,na,dx1,_,rfl,hn1,zca _ _ _,_,rfl,pf,_,_,_,rfl,rfl,hp1,a2,na,p,tl,al,rl,dk,S,x.1,b,vb,rfl,Yb,by omega,fun y e2 H2 N2 f2=>?_,fun e ee H2 f2=>q2 e (by rw[ee];rfl) H2 (f1.trans f2)⟩
 obtain⟨F2,le2,np2⟩:=za4 Y.few F1 lf.2 Yb.pl e2
 have hp2:=(N1.kt f2).sq hp1
 have f02:=f1.trans f2
 obtain⟨⟨dx2,hn2⟩,_⟩:=id N2
 rw[e2]at q1 q2
 simp only[Rl.okb]at q1 q2
 have b1:=F2.n
 have b2:=F2.a
 obtain⟨j,hj,free⟩:=zdM Y.few (t:=y.1.tr) (by omega)
 refine⟨_,rfl,na,dx2,_,rfl,hn2,zd6 _ _ _,na,p,tl,al,rl,dk,S,y.1,j,rfl,N2,b2,by omega,hj,free,fun u e H3 N3 f3=>?_,fun c e H3 f3=>q2 c (Rl.er_any e _) H3 (f02.trans f3)⟩
 obtain⟨z,e3,e4⟩:=Rl.bind_ok e
 cases e4
 obtain⟨ez,lt,F3⟩:=zcj F2 Y.few e3
 have la:z.1.A.length=y.1.A.length+1:=by rw[ez];simp
 have l2:z.2=y.1.A.length+1:=by rw[ez]
 rw[e3]at q1 q2
 simp only[Rl.okb]at q1 q2
 unfold zco at q1 q2
 have hp3:=(N2.kt f3).sq hp2
 have f03:=f02.trans f3
 obtain⟨⟨dx3,hn3⟩,_⟩:=id N3
 refine⟨_,rfl,na,dx3,_,rfl,hn3,zcu _ _ _,_,rfl,pf,_,_,_,rfl,rfl,hp3,a0,_,rfl,_,rfl,_,rfl,k,(z.2:Int),x.2,y.2,rfl,ok.1,fun H4 l nr=>?_⟩
 obtain⟨pl1,pl2⟩:=prF_ok (k:=k) (m:=z.1.A.length) (n:=(z.2:Int)) (a:=x.2) (b:=y.2) (zac.mpr (by omega)) (zgZ np1 (by omega)) (zgZ np2 (by omega))
 refine⟨na,p,tl,al,rl,dk,l,S,z.1,_,rfl,N3.same nr.1,nr.rows N3 pl1 pl2,F3.a,F3.r,fun R' eR H5 N5 f5=>⟨_,rfl,q1 (⟨z.1.T,z.1.A,R',z.1.tr⟩,(z.2:Int)) (by rw[eR];rfl) H5 N5 (f03.trans ((FrN.of_same nr.1).trans f5))⟩,fun c eb H5 f5=>q2 c (by rw[eb];rfl) H5 (f03.trans ((FrN.of_same nr.1).trans f5))⟩
theorem zh0:zae ["self","formula","kind"] ["self","formula"] (ao zbp):=⟨rfl,rfl,rfl,by decide +kernel,rfl,by decide +kernel,by decide +kernel⟩
theorem hd_bin {g:Fm} (h:FOk g) (n1:¬F75.hdF g="plain") (n2:¬F75.hdF g="not") (n3:¬F75.hdF g="same") (n4:¬F75.hdF g="unlike"):(∃ z,g=.bare z)∨∃ k a b,g=.bin k a b:=by
 cases g with
 | plain z=>exact absurd rfl n1
 | bare z=>exact .inl ⟨z,rfl⟩
 | same a b=>exact absurd rfl n3
 | unlike ts=>exact absurd rfl n4
 | not f=>exact absurd rfl n2
 | bin k a b=>exact .inr ⟨k,a,b,rfl⟩
theorem len_tl {g:Fm} {H:Hp} {xs:List V} (h:HasL K H (F75.tlF g) xs):xs.length=(F75.tlF g).length:=h.length.symm
set_option maxHeartbeats 1000000 in
theorem formp (F:Fun K "formula_part" "Namer.formula_part" zbp f fd) (T:Txt K mg aK C CN CT CP CM) (Z:TxZ K mg CZ) (G:Own P w K mg base C CN CT CP CM fI fA fQ fS fR dI dA' dQ dS dR') {n:Nat}
  (bF:av K fd ["self","formula"] []) (mF:zbg K CZ "formula_part" f) (IH:FnOk P w K mg base (CX1 P w) (2 * n+10) f fd ["self","formula"] (zbA K CZ C CN CM fun g=>fdp g≤n))
  (oS:FnOk P w K mg base (CX1 P w) 9 fS' dS' ["self","formula"] (zbA K CZ C CN CM fun g=>∃ a b,g=.same a b)) (bS:av K dS' ["self","formula"] []) (mS:zbg K CZ "same_part" fS')
  (oU:FnOk P w K mg base (CX1 P w) 9 fU dU ["self","formula"] (zbA K CZ C CN CM fun g=>∃ ts,g=.unlike ts)) (bU:av K dU ["self","formula"] []) (mU:zbg K CZ "unlike_part" fU)
  (oB:FnOk P w K mg base (CX1 P w) 6 fB dB ["self","formula"] (zbA K CZ C CN CM fun g=>∃ z,g=.bare z)) (bB:av K dB ["self","formula"] []) (mB:zbg K CZ "bare_part" fB)
  (oP:FnOk P w K mg base (CX1 P w) (2 * n+11) fP dP ["self","formula"] (zbA K CZ C CN CM fun g=>(∃ k a b,g=.bin k a b)∧fdp g≤n+1)) (bP:av K dP ["self","formula"] []) (mP:zbg K CZ "pair_part" fP) :
  FnOk P w K mg base (CX1 P w) (2 * n+12) f fd ["self","formula"] (zbA K CZ C CN CM fun g=>fdp g≤n+1):=by
 refine Fun.okX F zh0 (fun vs H Q E h=>?_) (fun cdv A outer s H vs Q E hr h=>?_)
 ·obtain⟨na,p,tl,al,rl,dk,S,st,g,v,rfl,_⟩:=h
  rfl
 obtain⟨na,p,tl,al,rl,dk,S,st,g,v,rfl,Y,hd,q⟩:=h
 have hr4:aE 4 _:=hr.mono (by omega)
 have hr6:aE 6 _:=hr.mono (by omega)
 have hr9:aE 9 _:=hr.mono (by omega)
 have hrn:aE (2 * n+10) _:=hr.mono (by omega)
 refine⟨_,(ae (aA (i:=2) zh0.nd rfl (Or.inl rfl) (aF zat (pv 1) ag (fun _ _=>rfl)))
  (ae (zao (aw zav (pv 2) zab (ay _))
   (aj (ax (zaJ (zaR (pv 0) rfl) T.cl G.mQ G.Q hr4 G.bQ .nil (zaw xe1) (aa (aF zat (pv 1) ag (fun _ _=>rfl)) ac))))
   zad)
  (ae (zao (aw zav (pv 2) zab (ay _))
   (aj (ax (zaY zaP (zaJ (pv 0) Z.cl mF IH hrn bF .nil (zaw xe1) (aa (aF zat (pv 1) ag (fun _ _=>rfl)) ac)))))
   zad)
  (ae (zao (aw zav (pv 2) zab (ay _))
   (aj (ax (zaJ (pv 0) Z.cl mS oS hr9 bS .nil (zaw xe1) (aa (pv 1) ac))))
   zad)
  (ae (zao (aw zav (pv 2) zab (ay _))
   (aj (ax (zaJ (pv 0) Z.cl mU oU hr9 bU .nil (zaw xe1) (aa (pv 1) ac))))
   zad)
  (ae (zao (aw zav (zap zan rfl T.len PySem.boot_len (aa (pv 1) ac)) ag (ay _))
   (aj (ax (zaJ (pv 0) Z.cl mB oB hr6 bB .nil (zaw xe1) (aa (pv 1) ac))))
   zad)
  (aj (ax (zaJ (pv 0) Z.cl mP oP hr bP .nil (zaw xe1) (aa (pv 1) ac)))))))))),?_⟩
 obtain⟨pf,xs,rfl,hp,hx⟩:=F75.fm_at Y.h
 have a0:atI (V.str (F75.hdF g) :: xs) 0=some (.str (F75.hdF g)):=zah (j:=0) rfl
 obtain⟨⟨dx,hn⟩,pr,_⟩:=id Y.N
 obtain⟨⟨dxp,hpo⟩,_⟩:=id pr
 have str:∀ {x y:Str},decide (V.str x=V.str y)=true→x=y:=fun h=>by
  have:=of_decide_eq_true h
  injection this
 have nst:∀ {x y:Str},¬decide (V.str x=V.str y)=true→¬x=y:=fun h e=>h (by rw[e];exact decide_eq_true rfl)
 refine⟨_,rfl,pf,_,_,_,rfl,rfl,hp,a0,_,rfl,rfl,_,rfl,aI (fun c1=>?_) (fun c1=>?_)⟩
 ·obtain⟨z,rfl⟩:=F75.hd_plain Y.ok (str c1)
  simp only[F75.tlF,HasL,Has]at hx
  obtain⟨_,_,rfl,rfl,rfl⟩:=hx
  have a1:atI [V.str (F75.hdF (.plain z)),V.str z] 1=some (.str z):=zah (j:=1) rfl
  refine⟨_,rfl,na,CZ,dx,_,_,rfl,hn,Z.cl,Z.nP,zbq _ _ _,p,dxp,_,rfl,hpo,ze4 _ _ _,_,rfl,pf,_,_,_,rfl,rfl,hp,a1,p,tl,al,rl,_,_,_,z,rfl,pr,Y.lf,by have:=Y.fit.a;omega,?_⟩
  obtain⟨q1,q2⟩:=q
  simp only[zaj]at q1 q2
  unfold zbC at q1 q2
  unfold zc2
  cases g1:za9 z with
  | false =>
   rw[if_pos rfl]
   rw[if_pos g1]at q2
   exact fun H5 s5=>q2 _ rfl H5 (FrN.of_same s5)
  | true =>
   rw[if_neg (by decide)]
   rw[if_neg (by rw[g1];decide)]at q1 q2
   by_cases c:.plain z∈st.A
   ·rw[if_pos c]
    rw[if_pos c]at q1
    exact fun H5 S5 f5=>q1 _ rfl H5 (Y.N.prob S5 fun b o e _ n2 n3=>f5 _ _ e n2 n3) (FrN.of2 f5)
   ·rw[if_neg c]
    rw[if_neg c]at q1 q2
    by_cases c6:40≤st.A.length
    ·rw[if_pos c6]
     rw[if_pos c6]at q2
     exact fun H5 s5=>q2 _ rfl H5 (FrN.of_same s5)
    ·rw[if_neg c6]
     rw[if_neg c6]at q1
     exact fun H5 S5 f5=>q1 _ rfl H5 (Y.N.prob S5 fun b o e _ n2 n3=>f5 _ _ e n2 n3) (FrN.of2 f5)
 refine⟨_,rfl,rfl,_,rfl,aI (fun c2=>?_) (fun c2=>?_)⟩
 ·obtain⟨g',rfl⟩:=F75.hd_not Y.ok (str c2)
  simp only[F75.tlF]at hx
  obtain⟨vg,rfl,hg⟩:=F75.HasL.uno hx
  have a1:atI [V.str (F75.hdF (.not g')),vg] 1=some vg:=zah (j:=1) rfl
  have Yg:zfu K CZ C H na p tl al rl dk S st g' vg:=⟨Y.N,hg,Y.ok,Y.lf,Y.fit,Y.few,Y.pl⟩
  simp only[fdp]at hd
  obtain⟨q1,q2⟩:=q
  simp only[zaj]at q1 q2
  exact⟨_,rfl,na,dx,_,rfl,hn,zca _ _ _,_,rfl,pf,_,_,_,rfl,rfl,hp,a1,na,p,tl,al,rl,dk,S,st,g',vg,rfl,Yg,by omega,fun x e1 H1 N1 f1=>⟨_,rfl,q1 (x.1,-x.2) (by rw[e1];rfl) H1 N1 f1⟩,fun e ee H1 f1=>q2 e (by rw[ee];rfl) H1 f1⟩
 refine⟨_,rfl,rfl,_,rfl,aI (fun c3=>?_) (fun c3=>?_)⟩
 ·exact⟨_,rfl,na,dx,_,rfl,hn,ziv _ _ _,_,rfl,na,p,tl,al,rl,dk,S,st,g,_,rfl,Y,F75.hd_same Y.ok (str c3),q⟩
 refine⟨_,rfl,rfl,_,rfl,aI (fun c4=>?_) (fun c4=>?_)⟩
 ·exact⟨_,rfl,na,dx,_,rfl,hn,zgL _ _ _,_,rfl,na,p,tl,al,rl,dk,S,st,g,_,rfl,Y,F75.hd_unlike Y.ok (str c4),q⟩
 have xl:=len_tl hx
 have alt:=hd_bin Y.ok (nst c1) (nst c2) (nst c3) (nst c4)
 refine⟨_,rfl,pf,_,rfl,.inr hp,rfl,_,rfl,aI (fun c5=>?_) (fun c5=>?_)⟩
 ·have e5:V.int (((V.str (F75.hdF g) :: xs).length:Nat):Int)=.int 1:=of_decide_eq_true c5
  injection e5 with e5
  rw[List.length_cons,xl]at e5
  rcases alt with h | ⟨k,a,b,rfl⟩
  ·exact⟨_,rfl,na,dx,_,rfl,hn,zix _ _ _,_,rfl,na,p,tl,al,rl,dk,S,st,g,_,rfl,Y,h,q⟩
  ·simp only[F75.tlF,List.length_cons,List.length_nil]at e5
   omega
 ·rcases alt with ⟨z,rfl⟩ | h
  ·simp only[F75.tlF,List.length_nil]at xl
   exact absurd (decide_eq_true (show V.int (((V.str (F75.hdF (.bare z)) :: xs).length:Nat):Int)=.int 1 by rw[List.length_cons,xl];rfl)) c5
  ·exact⟨_,rfl,na,dx,_,rfl,hn,ziw _ _ _,_,rfl,na,p,tl,al,rl,dk,S,st,g,_,rfl,Y,⟨h,hd⟩,q⟩
end
end K75
namespace K75
open PySem L2
open F75 (Tr Fm dTr zaE dFm FOk fdp zaG zcz)
def za2 (S:List Str):St→List Fm→Rl St
 | st,[]=>.ok st
 | st,f :: fs=>(zaj S st f).bind fun x=>(zbH x.1.R [[x.2]]).bind fun R=>za2 S ⟨x.1.T,x.1.A,R,x.1.tr⟩ fs
def st0:St:=⟨[],[],[],0⟩
theorem fit0 (S:List Str):Fit S st0:=⟨by decide,by decide,by decide,by decide,fun z hz=>nomatch hz⟩
theorem made {K:W.Frag} {C:Addr} {H H1:Hp} {x dx tl al rl:Addr} (hx:H x=none) (hdx:H dx=none) (hne:dx≠x) (h1:(upd (upd H dx (.own x)) x (.ins C dx [])) tl=none) (h2:(upd (upd H dx (.own x)) x (.ins C dx [])) al=none)
  (h3:(upd (upd H dx (.own x)) x (.ins C dx [])) rl=none) (na:al≠tl) (nr:rl≠tl) (nx:rl≠al) (k1:H1 x=some (.ins C dx (zcA tl al rl))) (k2:H1 tl=some (.lst [])) (k3:H1 al=some (.lst [])) (k4:H1 rl=some (.lst []))
  (k5:∀ b o,(upd (upd H dx (.own x)) x (.ins C dx [])) b=some o→b≠x→H1 b=some o):zaB K C H1 x tl al rl [] [] []∧ar H H1∧H tl=none∧H al=none∧H rl=none:=by
 have sm:ar H (upd (upd H dx (.own x)) x (.ins C dx [])):=(za3 hdx _).trans (za3 (by rw[aq hne.symm];exact hx) _)
 exact⟨⟨⟨dx,k1⟩,⟨[],k2,.nil⟩,⟨[],k3,.nil⟩,⟨[],k4,.nil⟩,na,nr,nx⟩,fun b o e=>k5 b o (sm _ _ e) (zag e hx),sm.free h1,sm.free h2,sm.free h3⟩
theorem zaB.ins {K:W.Frag} {C:Addr} {H:Hp} {p tl al rl na C1 C2 d1 d2:Addr} {T:List Tm} {As:List At} {Rs:List (List Int)} {f1 f2:List (Str × V)} (h:zaB K C H p tl al rl T As Rs) (h1:H na=some (.ins C1 d1 f1)) (ne:p≠na):zaB K C (upd H na (.ins C2 d2 f2)) p tl al rl T As Rs:=by
 obtain⟨⟨dx1,h2⟩,⟨x2,t2,u2⟩,⟨x3,t3,u3⟩,⟨x4,t4,u4⟩,e1,e2,e3⟩:=h
 have n1:∀ {xs:List V} {z:Addr},H z=some (.lst xs)→z≠na:=fun e z=>by rw[←z,e]at h1;cases h1
 have kt:zak H (upd H na (.ins C2 d2 f2)):=zak.but h1 (fun _ e=>by cases e) (fun _ _ e=>by cases e)
 exact⟨⟨dx1,by rw[aq ne];exact h2⟩,⟨x2,by rw[aq (n1 t2)];exact t2,u2.keep kt (zbU _)⟩,⟨x3,by rw[aq (n1 t3)];exact t3,u3.keep kt (zai zcs _)⟩,⟨x4,by rw[aq (n1 t4)];exact t4,u4.keep kt (zai zaX _)⟩,e1,e2,e3⟩
section
variable {P:Program} {w:World} {K:W.Frag} {mg:Str→Option Value} {base:Heap} {aK C CN CT CP CM CZ:Addr} {f fF fN fP fW fT fD fE:Addr} {fd dF dN dP dW dT' dD dE:FuncData} {fI fA fQ fS fR:Addr} {dI dA' dQ dS dR':FuncData}
def zhV (K:W.Frag) (CZ C:Addr):Sp:=fun vs H Q _=>∃(na l dx:Addr) (xs:List V) (fs:List Fm),vs=[.ref na,.ref l]∧H na=some (.ins CZ dx [])∧H l=some (.lst xs)∧HasL K H (fs.map dFm) xs∧(∀ g∈fs,FOk g∧fdp g < 13)∧(zaz fs).length≤100000 ∧
 ∀(H':Hp) (p tl al rl dk:Addr),H p=none→H tl=none→H al=none→H rl=none→zaV K CZ C H' na p tl al rl dk (zaz fs) st0→(∀ b o,H b=some o→b≠na→H' b=some o)→Q .non H'
theorem zk4:zae ["self","formulas"] ["self","formulas"] (ao zcK):=⟨rfl,rfl,rfl,by decide +kernel,rfl,by decide +kernel,by decide +kernel⟩
set_option maxHeartbeats 1000000 in
theorem zlk (F:Fun K "__init__" "Namer.__init__" zcK f fd) (Z:TxZ K mg CZ) (G:Own P w K mg base C CN CT CP CM fI fA fQ fS fR dI dA' dQ dS dR') (BP:FB P w K mg base CX0 14 "plain_names" fP dP ["formulas"] (sp_pn K 13)):FnOk P w K mg base CX0 15 f fd ["self","formulas"] (zhV K CZ C):=by
 refine F.ok zk4 (fun vs H Q E h=>?_) (fun cdv A outer s H vs Q E hr h=>?_)
 ·obtain⟨na,l,dx,xs,fs,rfl,_⟩:=h
  rfl
 obtain⟨na,l,dx,xs,fs,rfl,hn,hl,hx,ok,big,q⟩:=h
 have hr2:aE 2 _:=hr.mono (by decide)
 refine⟨_,(ae (zea (pv 0) (zla G.mI G.I hr2 rfl G.gI G.bI .nil zal) rfl)
  (ae (zea (pv 0) (zaa BP.ok hr rfl BP.m BP.kp BP.b .nil zal (aa (pv 1) ac)) rfl)
  (aj (zea (pv 0) ag rfl)))),?_⟩
 intro p dxp np ndx nex
 refine⟨p,dxp,rfl,ad,fun tl al rl H1 ht ha hrr e1 e2 e3 k1 k2 k3 k4 k5=>⟨rfl,?_⟩⟩
 obtain⟨pr1,s1,ft,fa,fr⟩:=made (K:=K) np ndx nex ht ha hrr e1 e2 e3 k1 k2 k3 k4 k5
 have pn:p≠na:=fun z=>by rw[z,hn]at np;cases np
 have hn1:=s1 _ _ hn
 refine⟨_,rfl,na,CZ,dx,[],rfl,hn1,Z.cl,Z.nP,(by show 0 < 1000;decide),?_⟩
 have pr2:=pr1.ins (C2:=CZ) (d2:=dx) (f2:=zas "problem" (.ref p) []) hn1 pn
 have n2:=ad (H:=H1) (a:=na) (o:=.ins CZ dx (zas "problem" (.ref p) []))
 have k2':∀ b o,H b=some o→b≠na→upd H1 na (.ins CZ dx (zas "problem" (.ref p) [])) b=some o:=fun b o e ne=>by rw[aq ne];exact s1 _ _ e
 have kt2:zak H (upd H1 na (.ins CZ dx (zas "problem" (.ref p) []))):=fun b ys h=>(zak.but hn1 (fun _ e=>by cases e) (fun _ _ e=>by cases e)) b ys (s1.kt b ys h)
 generalize upd H1 na (.ins CZ dx (zas "problem" (.ref p) []))=H2 at pr2 n2 k2' kt2
 have ln:l≠na:=fun z=>by rw[z,hn]at hl;cases hl
 refine⟨_,rfl,l,xs,fs,rfl,SqL.of (k2' _ _ hl ln),hx.keep kt2 (F75.nols_fms _),by decide,ok,big,fun H3 d kvs s3 nd hd dn=>?_⟩
 have n3:=s3 _ _ n2
 have pr3:=pr2.same s3
 have dna:d≠na:=fun z=>by rw[z,n3]at hd;cases hd
 refine⟨_,rfl,na,CZ,dx,_,rfl,n3,Z.cl,Z.nT,(by have:=zcC "problem" (.ref p) [];have h0:([]:List (Str × V)).length=0:=rfl;omega),?_⟩
 have pr4:=pr3.ins (C2:=CZ) (d2:=dx) (f2:=zas "taken" (.ref d) (zas "problem" (.ref p) [])) n3 pn
 have n4:=ad (H:=H3) (a:=na) (o:=.ins CZ dx (zas "taken" (.ref d) (zas "problem" (.ref p) [])))
 have hd4:upd H3 na (.ins CZ dx (zas "taken" (.ref d) (zas "problem" (.ref p) []))) d=some (.dK kvs):=by rw[aq dna];exact hd
 have k4':∀ b o,H b=some o→b≠na→upd H3 na (.ins CZ dx (zas "taken" (.ref d) (zas "problem" (.ref p) []))) b=some o:=fun b o e ne=>by rw[aq ne];exact s3 _ _ (k2' _ _ e ne)
 generalize upd H3 na (.ins CZ dx (zas "taken" (.ref d) (zas "problem" (.ref p) [])))=H4 at pr4 n4 hd4 k4'
 refine⟨_,rfl,na,CZ,dx,_,rfl,n4,Z.cl,Z.nN,(by have:=zcC "taken" (.ref d) (zas "problem" (.ref p) []);have:=zcC "problem" (.ref p) [];have h0:([]:List (Str × V)).length=0:=rfl;omega),?_⟩
 exact q _ p tl al rl d np ft fa fr ⟨⟨dx,ad⟩,pr4.ins n4 pn,⟨kvs,by rw[aq dna];exact hd4,dn⟩,pn⟩ fun b o e ne=>by rw[aq ne];exact k4' _ _ e ne
def zfx (K:W.Frag) (C CN CM:Addr):Sp:=fun vs H Q E=>∃(l:Addr) (xs:List V) (fs:List Fm),vs=[.ref l]∧H l=some (.lst xs)∧HasL K H (fs.map dFm) xs∧(∀ g∈fs,FOk g∧LFm g∧fdp g≤12)∧(zaz fs).length≤100000∧Few (zaz fs) ∧
 (∀ st,za2 (zaz fs) st0 fs=.ok st→∀(H':Hp) (p tl al rl:Addr),ar H H'→H p=none→H tl=none→H al=none→H rl=none→zaB K C H' p tl al rl st.T st.A st.R→Q (.ref p) H')∧(∀ b,za2 (zaz fs) st0 fs=.er b→∀ H',ar H H'→E (erV CN CM b) none H')
theorem zfy:zae ["formulas","namer","formula"] ["formulas"] (ao zgi):=⟨rfl,rfl,rfl,by decide +kernel,rfl,by decide +kernel,by decide +kernel⟩
theorem FrN.same {H H1 H':Hp} {na tl al rl:Addr} (f:FrN H1 H' na tl al rl) (k:∀ b o,H b=some o→b≠na→H1 b=some o) (n1:H na=none) (n2:H tl=none) (n3:H al=none) (n4:H rl=none):ar H H':=fun b o e =>
 f _ _ (k _ _ e (zag e n1)) (zag e n1) (zag e n2) (zag e n3) (zag e n4)
set_option maxHeartbeats 1000000 in
theorem zll (F:Fun K "named" "named" zgi f fd) (Z:TxZ K mg CZ) (GN:OwN P w K mg base CZ C CN CM fP fW dP dW) (oI:FnOk P w K mg base CX0 15 fN dN ["self","formulas"] (zhV K CZ C)) (bI:av K dN ["self","formulas"] []) (mI:Mk K CZ fN) (gI:mg "Namer"=some (.ref CZ))
  (oF:FnOk P w K mg base (CX1 P w) 34 fF dF ["self","formula"] (zbA K CZ C CN CM fun g=>fdp g≤12)) (bF:av K dF ["self","formula"] []) (mF:zbg K CZ "formula_part" fF):FnOk P w K mg base (CX1 P w) 35 f fd ["formulas"] (zfx K C CN CM):=by
 refine Fun.okX F zfy (fun vs H Q E h=>?_) (fun cdv A outer s H vs Q E hr h=>?_)
 ·obtain⟨l,xs,fs,rfl,_⟩:=h
  rfl
 obtain⟨l,xs,fs,rfl,hl,hx,ok,big,few,q1,q2⟩:=h
 have hr5:aE 5 _:=hr.mono (by decide)
 have hr16:aE 16 _:=hr.mono (by decide)
 refine⟨_,(ae (aA (i:=1) zfy.nd rfl (Or.inl rfl) (zlW mI oI hr16 rfl gI bI .nil zal (aa (pv 0) ac)))
  (ae (zaZ PassesOwn.leaving rfl (za6 (pv 0)) (zay (i:=2) zfy.nd rfl (Or.inl rfl))
   (aj (zaI (zaJ (pv 1) Z.cl GN.mP GN.P' hr5 GN.bP .nil (zaw xe1) (aa (zam (aa (zaD (aa (zaJ (pv 1) Z.cl mF oF hr bF .nil (zaw xe1) (aa (pv 2) ac)) ac)) ac)) ac)))))
  (aj (ax (zaR (pv 1) rfl))))),?_⟩
 refine⟨_,rfl,fun na dx nn ndx nex=>?_⟩
 have s0:ar H (upd (upd H dx (.own na)) na (.ins CZ dx [])):=(za3 ndx _).trans (za3 (by rw[aq nex.symm];exact nn) _)
 have n0:=ad (H:=upd H dx (.own na)) (a:=na) (o:=.ins CZ dx [])
 generalize upd (upd H dx (.own na)) na (.ins CZ dx [])=H0 at s0 n0
 refine⟨na,l,dx,xs,fs,rfl,n0,s0 _ _ hl,hx.keep s0.kt (F75.nols_fms _),fun g hg=>⟨(ok g hg).1,by have:=(ok g hg).2.2;omega⟩,big,fun H1 p tl al rl dk fp ft fa fr N1 k1=>⟨rfl,?_⟩⟩
 have k01:∀ b o,H b=some o→b≠na→H1 b=some o:=fun b o e ne=>k1 _ _ (s0 _ _ e) ne
 have sm:∀ {H':Hp},FrN H1 H' na tl al rl→ar H H':=fun f'=>f'.same k01 nn (s0.free ft) (s0.free fa) (s0.free fr)
 have s1:=sm (FrN.of_same (ar.refl _))
 have xl:xs.length=fs.length:=by rw[←hx.length,List.length_map]
 refine⟨_,rfl,l,rfl,⟨_,SqL.of (s1 _ _ hl)⟩,zbO za5 (fun i σ H'=>∃(v:Option V) (st:St),σ=[some (.ref l),some (.ref na),v]∧FrN H1 H' na tl al rl∧zaV K CZ C H' na p tl al rl dk (zaz fs) st∧Fit (zaz fs) st∧za2 (zaz fs) st0 fs=za2 (zaz fs) st (fs.drop i)) (fun i σ H' ⟨_,_,_,f',_⟩=>SqL.of (sm f' _ _ hl))
  ⟨none,st0,rfl,FrN.of_same (ar.refl _),N1,fit0 _,rfl⟩ ?_ ?_⟩
 ·rintro i σ H2 x H3 hi ⟨v,st,rfl,f2,N2,F2,e2⟩ ⟨rfl,hy⟩
  have s2:=sm f2
  obtain⟨g,hg,hxg⟩:=F75.fms_get (hx.keep s2.kt (F75.nols_fms _)) (hy _ (SqL.of (s2 _ _ hl)))
  have gm:=List.mem_of_getElem? hg
  obtain⟨ok1,ok2,ok3⟩:=ok g gm
  rw[zgD hg]at e2
  simp only[za2]at e2
  have pl:∀ z∈plF g,z∈zaz fs:=fun z hz=>List.mem_flatMap.mpr ⟨g,gm,hz⟩
  obtain⟨⟨dx2,hn2⟩,_⟩:=id N2
  refine⟨_,rfl,na,dx2,_,rfl,hn2,zcu _ _ _,_,rfl,na,dx2,_,rfl,hn2,zca _ _ _,_,rfl,na,p,tl,al,rl,dk,_,st,g,x,rfl,⟨N2,hxg,ok1,ok2,F2,few,pl⟩,ok3,fun y e3 H4 N4 f4=>?_,fun b eb H4 f4=>q2 b (by rw[e2,eb];rfl) H4 (sm (f2.trans f4))⟩
  obtain⟨F4,le4,np4⟩:=za4 few F2 ok2 pl e3
  rw[e3]at e2
  simp only[Rl.okb]at e2
  refine⟨lS1,fun t ht=>⟨lS1,fun c hc=>?_⟩⟩
  have nr:=new1 ht hc
  refine⟨na,p,tl,al,rl,dk,c,_,y.1,[[y.2]],rfl,N4.same nr.1,nr.rows N4 (by show 1≤100;decide) (fun r hr'=>?_),F4.a,F4.r,fun R' eR H5 N5 f5=>?_,fun b eb H5 f5=>q2 b (by rw[e2,eb];rfl) H5 (sm (f2.trans (f4.trans ((FrN.of_same nr.1).trans f5))))⟩
  ·rw[List.mem_singleton.mp hr']
   refine⟨by show 1≤20;decide,fun k hk=>?_⟩
   rw[List.mem_singleton.mp hk]
   exact np4
  ·rw[eR]at e2
   exact⟨_,_,rfl,f2.trans (f4.trans ((FrN.of_same nr.1).trans f5)),N5,F4.rows (zbk eR).2,e2⟩
 ·rintro σ H2 ⟨v,st,rfl,f2,N2,F2,e2⟩
  rw[xl,List.drop_length]at e2
  obtain⟨⟨dx2,hn2⟩,pr2,_⟩:=id N2
  exact⟨_,rfl,na,CZ,dx2,_,_,rfl,hn2,Z.cl,Z.nP,zbq _ _ _,q1 st e2 H2 p tl al rl (sm f2) (s0.free fp) (s0.free ft) (s0.free fa) (s0.free fr) pr2⟩
end
end K75
namespace K75
open PySem L2
open F75 (Tr Fm)
def WT (T:List Tm):Prop:=∀(i:Nat) (n:Str) (ks:List Int),T[i]?=some (n,ks)→∀ k∈ks,0≤k∧k < (i:Int)
theorem WT.nil:WT []:=fun i n ks h=>by simp at h
theorem WT.put {T:List Tm} {n:Str} {ks:List Int} (h:WT T) (hk:∀ k∈ks,0≤k∧k < (T.length:Int)):WT (T++[(n,ks)]):=fun i m us e k hu=>by
 by_cases c:i < T.length
 ·rw[List.getElem?_append_left c]at e
  exact h i m us e k hu
 ·rw[List.getElem?_append_right (by omega)]at e
  have c0:i - T.length=0:=by
   cases d:i - T.length with
   | zero=>rfl
   | succ m=>rw[d]at e;simp at e
  rw[c0]at e
  simp at e
  obtain⟨rfl,rfl⟩:=e
  have:=hk k hu
  omega
theorem zid {T:List Tm} {n:Str} {ks:List Int} {x:List Tm × Nat} (h:zel T n ks=.ok x):T <+: x.1∧x.1[x.2]?=some (n,ks)∧(WT T→(∀ k∈ks,0≤k∧k < (T.length:Int))→WT x.1)∧∀ y∈x.1,y∈T∨y.1=n:=by
 unfold zel at h
 split at h
 ·cases h
 ·split at h
  ·next c =>
   cases h
   have l:=List.idxOf_lt_length_of_mem c
   refine⟨List.prefix_refl _,?_,fun w _=>w,fun y hy=>.inl hy⟩
   rw[List.getElem?_eq_getElem l,List.getElem_idxOf l]
  ·split at h
   ·cases h
   ·cases h
    refine⟨List.prefix_append _ _,?_,fun w hk=>w.put hk,fun y hy=>?_⟩
    ·simp
    ·rcases List.mem_append.mp hy with hy | hy
     ·exact .inl hy
     ·rw[List.mem_singleton.mp hy]
      exact .inr rfl
mutual
def wTr:Tr→List Str
 | .node n ts=>n :: zdB ts
def zdB:List Tr→List Str
 | []=>[]
 | t :: ts=>wTr t++zdB ts
end
mutual
theorem zlz:∀(t:Tr) {T:List Tm} {x:List Tm × Nat},zcB T t=.ok x→T <+: x.1∧x.2 < x.1.length∧(WT T→WT x.1)∧∀ y∈x.1,y∈T∨y.1∈wTr t
 | .node n ts,T,x,h=>by
  simp only[zcB]at h
  obtain⟨y,e1,e2⟩:=Rl.bind_ok h
  obtain⟨p1,k1,w1,m1⟩:=zce ts e1
  obtain⟨p2,g2,w2,m2⟩:=zid e2
  refine⟨p1.trans p2,?_,fun w=>w2 (w1 w) k1,fun u hu=>?_⟩
  ·exact(List.getElem?_eq_some_iff.mp g2).1
  ·simp only[wTr]
   rcases m2 u hu with h | h
   ·exact(m1 u h).imp id fun z=>List.mem_cons_of_mem _ z
   ·rw[h]
    exact .inr (List.mem_cons_self)
theorem zce:∀(ts:List Tr) {T:List Tm} {x:List Tm × List Int},zaC T ts=.ok x→T <+: x.1∧(∀ k∈x.2,0≤k∧k < (x.1.length:Int))∧(WT T→WT x.1)∧∀ y∈x.1,y∈T∨y.1∈zdB ts
 | [],T,x,h=>by
  simp only[zaC]at h
  cases h
  exact⟨List.prefix_refl _,fun k hk=>(nomatch hk),id,fun y hy=>.inl hy⟩
 | t :: ts,T,x,h=>by
  simp only[zaC]at h
  obtain⟨y,e1,e2⟩:=Rl.bind_ok h
  obtain⟨z,e3,e4⟩:=Rl.bind_ok e2
  cases e4
  obtain⟨p1,l1,w1,m1⟩:=zlz t e1
  obtain⟨p2,l2,w2,m2⟩:=zce ts e3
  refine⟨p1.trans p2,fun k hk=>?_,fun w=>w2 (w1 w),fun u hu=>?_⟩
  ·dsimp only at hk ⊢
   rcases List.mem_cons.mp hk with rfl | hk
   ·have:=p2.length_le
    omega
   ·exact l2 k hk
  ·simp only[zdB]
   rcases m2 u hu with h | h
   ·exact(m1 u h).imp id fun z=>List.mem_append_left _ z
   ·exact .inr (List.mem_append_right _ h)
end
section
variable (vF:Str→List Int→Int) (pT:Str→Bool)
mutual
def vTr:Tr→Int
 | .node n ts=>vF n (zbL ts)
def zbL:List Tr→List Int
 | []=>[]
 | t :: ts=>vTr t :: zbL ts
end
theorem zer:∀ ts:List Tr,zbL vF ts=ts.map (vTr vF)
 | []=>rfl
 | t :: ts=>by simp only[zbL,List.map_cons,zer ts]
def hFm:Fm→Bool
 | .plain z=>pT z
 | .bare z=>decide (z="always")
 | .same a b=>decide (vTr vF a=vTr vF b)
 | .unlike ts=>decide (zbL vF ts).Nodup
 | .not f=>!hFm f
 | .bin k f g=>if k="and" then hFm f&&hFm g else if k="or" then hFm f||hFm g else if k="then" then hFm g||!hFm f else hFm f == hFm g
def vAt (vs:List Int) (k:Int):Int:=vs.getD k.toNat 0
def za8 (acc:List Int):List Tm→List Int
 | []=>acc
 | x :: T=>za8 (acc++[vF x.1 (x.2.map (vAt acc))]) T
theorem zgP (T U:List Tm):∀ acc,za8 vF acc (T++U)=za8 vF (za8 vF acc T) U:=by
 induction T with
 | nil=>intro acc;rfl
 | cons x T ih=>intro acc;simp only[List.cons_append,za8,ih]
theorem zeR (T:List Tm):∀ acc,(za8 vF acc T).length=acc.length+T.length:=by
 induction T with
 | nil=>intro acc;rfl
 | cons x T ih =>
  intro acc
  simp only[za8,ih,List.length_append,List.length_cons,List.length_nil]
  omega
def zeQ (T:List Tm) (vs:List Int):Prop:=∀(i:Nat) (n:Str) (ks:List Int),T[i]?=some (n,ks)→vs[i]?=some (vF n (ks.map (vAt vs)))
theorem zhR {acc:List Int} {v:Int} {k:Int} (h0:0≤k) (h1:k < (acc.length:Int)):vAt (acc++[v]) k=vAt acc k:=by
 unfold vAt
 rw[List.getD_eq_getElem?_getD,List.getD_eq_getElem?_getD,List.getElem?_append_left (by omega)]
theorem zgQ:∀(n:Nat) (T:List Tm),T.length=n→WT T→zeQ vF T (za8 vF [] T)
 | 0,T,h,_=>fun i n ks e=>by
  rw[List.length_eq_zero_iff.mp h]at e
  simp at e
 | n+1,T,h,w=>by
  have hne:T≠[]:=fun e=>by rw[e]at h;simp at h
  obtain⟨U,x,rfl⟩:∃ U x,T=U++[x]:=⟨T.dropLast,T.getLast hne,(List.dropLast_concat_getLast hne).symm⟩
  have lu:U.length=n:=by simp at h;exact h
  have wu:WT U:=fun i m ks e=>w i m ks (by rw[List.getElem?_append_left (List.getElem?_eq_some_iff.mp e).1];exact e)
  have ih:=zgQ n U lu wu
  rw[zgP]
  have ll:(za8 vF [] U).length=U.length:=by rw[zeR];simp
  generalize za8 vF [] U=vs at ih ll
  simp only[za8]
  intro i m ks e
  have small:∀ k∈ks,0≤k∧k < (i:Int):=w i m ks e
  by_cases c:i < U.length
  ·rw[List.getElem?_append_left c]at e
   rw[List.getElem?_append_left (by omega),ih i m ks e]
   congr 2
   refine List.map_congr_left fun k hk=>(zhR (small k hk).1 ?_).symm
   have:=(small k hk).2
   omega
  ·have il:i=U.length:=by
    have:=(List.getElem?_eq_some_iff.mp e).1
    simp at this
    omega
   subst il
   rw[List.getElem?_append_right (by omega)]at e
   simp at e
   subst e
   rw[←ll,List.getElem?_append_right (Nat.le_refl _)]
   simp
   refine congrArg _ (List.map_congr_left fun k hk=>(zhR (small k hk).1 ?_).symm)
   have:=(small k hk).2
   omega
end
section
variable {vF:Str→List Int→Int} {pT:Str→Bool}
theorem vAt_of {vs:List Int} {i:Nat} {v:Int} (h:vs[i]?=some v):vAt vs (i:Int)=v:=by
 unfold vAt
 rw[List.getD_eq_getElem?_getD,Int.toNat_natCast,h]
 rfl
theorem ziS {α:Type} {xs ys:List α} {i:Nat} {a:α} (p:xs <+: ys) (h:xs[i]?=some a):ys[i]?=some a:=by
 obtain⟨t,rfl⟩:=p
 rw[List.getElem?_append_left (List.getElem?_eq_some_iff.mp h).1]
 exact h
mutual
theorem zly {Tf:List Tm} {vs:List Int} (V:zeQ vF Tf vs):∀(t:Tr) {T:List Tm} {x:List Tm × Nat},zcB T t=.ok x→x.1 <+: Tf→vAt vs (x.2:Int)=vTr vF t
 | .node n ts,T,x,h,p=>by
  simp only[zcB]at h
  obtain⟨y,e1,e2⟩:=Rl.bind_ok h
  obtain⟨p2,g2,_⟩:=zid e2
  have ih:=zd0 V ts e1 (p2.trans p)
  have:=V _ _ _ (ziS p g2)
  rw[vAt_of this,ih,vTr]
theorem zd0 {Tf:List Tm} {vs:List Int} (V:zeQ vF Tf vs):∀(ts:List Tr) {T:List Tm} {x:List Tm × List Int},zaC T ts=.ok x→x.1 <+: Tf→x.2.map (vAt vs)=zbL vF ts
 | [],T,x,h,p=>by
  simp only[zaC]at h
  cases h
  rfl
 | t :: ts,T,x,h,p=>by
  simp only[zaC]at h
  obtain⟨y,e1,e2⟩:=Rl.bind_ok h
  obtain⟨z,e3,e4⟩:=Rl.bind_ok e2
  cases e4
  have a:=zly V t e1 ((zce ts e3).1.trans p)
  have b:=zd0 V ts e3 p
  simp only[List.map_cons,zbL,a,b]
end
end
end K75
namespace K75
open PySem L2
open F75 (Tr Fm)
def pt (τ:Nat→Option Bool) (k:Int):Bool:=τ (k.natAbs - 1) == some (decide (0 < k))
def zaA (τ:Nat→Option Bool) (r:List Int):Bool:=r.any (pt τ)
def zbN (τ:Nat→Option Bool) (R:List (List Int)):Bool:=R.all (zaA τ)
def lt (tau:List Bool):Nat→Option Bool:=fun i=>tau[i]?
def st1 (τ:Nat→Option Bool) (n:Nat) (b:Bool):Nat→Option Bool:=fun i=>if i=n - 1 then some b else τ i
theorem zcX {τ τ':Nat→Option Bool} {r:List Int} (h:∀ p∈r,τ (p.natAbs - 1)=τ' (p.natAbs - 1)):zaA τ r=zaA τ' r:=by
 unfold zaA
 rw[Bool.eq_iff_iff,List.any_eq_true,List.any_eq_true]
 constructor
 ·rintro ⟨p,hp,e⟩
  exact⟨p,hp,by unfold pt at e ⊢;rw[←h p hp];exact e⟩
 ·rintro ⟨p,hp,e⟩
  exact⟨p,hp,by unfold pt at e ⊢;rw[h p hp];exact e⟩
theorem zjM {τ τ':Nat→Option Bool} {R:List (List Int)} (h:∀ r∈R,∀ p∈r,τ (p.natAbs - 1)=τ' (p.natAbs - 1)):zbN τ R=zbN τ' R:=by
 unfold zbN
 rw[Bool.eq_iff_iff,List.all_eq_true,List.all_eq_true]
 exact⟨fun g r hr=>by rw[←zcX (h r hr)];exact g r hr,fun g r hr=>by rw[zcX (h r hr)];exact g r hr⟩
theorem zio (τ:Nat→Option Bool) (R R':List (List Int)):zbN τ (R++R')=(zbN τ R&&zbN τ R'):=by
 unfold zbN
 exact List.all_append
theorem zh5:∀(ps acc:List Int),∃ l,aH acc ps=acc++l
 | [],acc=>⟨[],by simp [aH]⟩
 | p :: ps,acc=>by
  unfold aH
  obtain⟨l,e⟩:=zh5 ps (if p∈acc then acc else acc++[p])
  rw[e]
  split
  ·exact⟨l,rfl⟩
  ·exact⟨p :: l,by simp⟩
theorem zcE (q:Int):∀(ps acc:List Int),q∈aH acc ps↔q∈acc∨q∈ps
 | [],acc=>by simp [aH]
 | p :: ps,acc=>by
  unfold aH
  rw[zcE q ps]
  split
  ·next c =>
   constructor
   ·rintro (h | h)
    ·exact .inl h
    ·exact .inr (List.mem_cons_of_mem _ h)
   ·rintro (h | h)
    ·exact .inl h
    ·rcases List.mem_cons.mp h with rfl | h
     ·exact .inl c
     ·exact .inr h
  ·rw[List.mem_append,List.mem_singleton,List.mem_cons,or_assoc]
theorem zg2 (p:Int) (ps:List Int):∃ l,aH [] (p :: ps)=p :: l:=by
 obtain⟨l,e⟩:=zh5 ps [p]
 refine⟨l,?_⟩
 unfold aH
 rw[if_neg (by simp),List.nil_append,e]
 rfl
theorem zlf {p q:Int} {ps:List Int} (h:q∈ps) (n:q≠p):2≤(aH [] (p :: ps)).length:=by
 obtain⟨l,e⟩:=zg2 p ps
 have m:=(zcE q (p :: ps) []).mpr (.inr (List.mem_cons_of_mem _ h))
 rw[e]at m ⊢
 rcases List.mem_cons.mp m with h | h
 ·exact absurd h n
 ·have:=List.length_pos_of_mem h
  simp only[List.length_cons]
  omega
theorem zgX (τ:Nat→Option Bool) (r:List Int):zaA τ (aH [] r)=zaA τ r:=by
 unfold zaA
 rw[Bool.eq_iff_iff,List.any_eq_true,List.any_eq_true]
 constructor
 ·rintro ⟨p,hp,e⟩
  exact⟨p,by simpa using (zcE p r []).mp hp,e⟩
 ·rintro ⟨p,hp,e⟩
  exact⟨p,(zcE p r []).mpr (.inr hp),e⟩
def hd1 (r:List Int):Nat:=(r.headD 0).natAbs
def grp (R:List (List Int)) (n:Nat):List (List Int):=R.filter fun r=>decide (0 < r.length)&&decide (hd1 r=n)
structure zdu (own:List (List Int)) (tau:List Bool) (n:Nat):Prop where
 ne:own≠[]
 la:own.length=1∨∃ l r,own=l++[r]∧2≤r.length
 rg:∀ r∈own,∀ p∈r,1≤p.natAbs∧p.natAbs≤n
 fo:∀ b,(∀ r∈own,zaA (st1 (lt tau) n b) r=true)↔tau[n - 1]?=some b
theorem zeL {tau tau':List Bool} (p:tau <+: tau') {i:Nat} (h:i < tau.length):lt tau i=lt tau' i:=by
 obtain⟨t,rfl⟩:=p
 unfold lt
 rw[List.getElem?_append_left h]
theorem zdu.pre {own:List (List Int)} {tau tau':List Bool} {n:Nat} (h:zdu own tau n) (p:tau <+: tau') (l:n≤tau.length) (n1:1≤n):zdu own tau' n:=by
 refine⟨h.ne,h.la,h.rg,fun b=>?_⟩
 have e1:∀ r∈own,zaA (st1 (lt tau') n b) r=zaA (st1 (lt tau) n b) r:=fun r hr=>zcX fun q hq=>by
  obtain⟨a,c⟩:=h.rg r hr q hq
  unfold st1
  split
  ·rfl
  ·exact(zeL p (by omega)).symm
 have e2:tau'[n - 1]?=tau[n - 1]?:=(zeL p (i:=n - 1) (by omega)).symm
 rw[e2,←h.fo b]
 exact⟨fun g r hr=>by rw[←e1 r hr];exact g r hr,fun g r hr=>by rw[e1 r hr];exact g r hr⟩
structure Inv (pT:Str→Bool) (S:List Str) (vs:List Int) (m:Nat) (A:List At) (R:List (List Int)) (tau:List Bool):Prop where
 len:tau.length=A.length
 rg:∀ r∈R,r≠[]∧∀ p∈r,zaf A.length p=false
 sm:∀(i:Nat) (a b:Int),A[i]?=some (.same a b)→tau[i]?=some (decide (vAt vs a=vAt vs b))
 pl:∀(i:Nat) (z:Str),A[i]?=some (.plain z)→z∈S→tau[i]?=some (pT z)
 nw:∀(i:Nat) (z:Str),A[i]?=some (.plain z)→z∉S→∃ own top,grp R (i+1)=own++top∧(top=[]∨(i < m∧∃ p:Int,p.natAbs=i+1∧top=[[p]]))∧zdu own tau (i+1)
section
variable {pT:Str→Bool} {S:List Str} {vs:List Int} {m:Nat} {A:List At} {R:List (List Int)} {tau:List Bool}
theorem zlr (I:Inv pT S vs m A R tau) {n:Nat} (h:A.length < n):grp R n=[]:=by
 unfold grp
 rw[List.filter_eq_nil_iff]
 intro r hr
 obtain⟨ne,rg⟩:=I.rg r hr
 cases r with
 | nil=>exact absurd rfl ne
 | cons p ps =>
  have:=zac.mp (rg p (by simp))
  intro e
  rw[Bool.and_eq_true]at e
  have e2:p.natAbs=n:=of_decide_eq_true e.2
  omega
theorem zff (R R':List (List Int)) (n:Nat):grp (R++R') n=grp R n++grp R' n:=by
 unfold grp
 exact List.filter_append _ _
theorem zc6 {α:Type} {A:List α} {x y:α} {i:Nat} (h:(A++[x])[i]?=some y):(A[i]?=some y∧i < A.length)∨(i=A.length∧x=y):=by
 by_cases c:i < A.length
 ·rw[List.getElem?_append_left c]at h
  exact .inl ⟨h,c⟩
 ·have l:=(List.getElem?_eq_some_iff.mp h).1
  simp at l
  have:i=A.length:=by omega
  subst this
  simp at h
  exact .inr ⟨rfl,h⟩
theorem zcv {a b:Nat} {k:Int} (h:zaf a k=false) (l:a≤b):zaf b k=false:=by
 rw[zac]at h ⊢
 omega
theorem zes {b:Bool} {i:Nat} {c:Bool} (h:tau[i]?=some c):(tau++[b])[i]?=some c:=ziS (List.prefix_append _ _) h
theorem zbj (I:Inv pT S vs m A R tau) (b:Bool):(tau++[b])[A.length]?=some b:=by
 rw[←I.len,List.getElem?_append_right (Nat.le_refl _)]
 simp
theorem ze3 (I:Inv pT S vs m A R tau) (b:Bool):zbN (lt (tau++[b])) R=zbN (lt tau) R:=by
 refine(zjM fun r hr p hp=>?_).symm
 have:=zac.mp ((I.rg r hr).2 p hp)
 exact zeL (List.prefix_append _ _) (by rw[I.len];omega)
theorem Inv.old (I:Inv pT S vs m A R tau) {x:At} {b:Bool} (h1:∀ a c,x=.same a c→b=decide (vAt vs a=vAt vs c)) (h2:∀ z,x=.plain z→z∈S∧b=pT z):Inv pT S vs m (A++[x]) R (tau++[b]):=by
 have l:=I.len
 refine⟨by simp [l],fun r hr=>⟨(I.rg r hr).1,fun p hp=>zcv ((I.rg r hr).2 p hp) (by simp)⟩,fun i a c e=>?_,fun i z e hz=>?_,fun i z e hz=>?_⟩
 ·rcases zc6 e with ⟨e',_⟩ | ⟨rfl,e'⟩
  ·exact zes (I.sm i a c e')
  ·rw[zbj I,h1 a c e']
 ·rcases zc6 e with ⟨e',_⟩ | ⟨rfl,e'⟩
  ·exact zes (I.pl i z e' hz)
  ·rw[zbj I,(h2 z e').2]
 ·rcases zc6 e with ⟨e',il⟩ | ⟨rfl,e'⟩
  ·obtain⟨own,top,g,t,o⟩:=I.nw i z e' hz
   exact⟨own,top,g,t,o.pre (List.prefix_append _ _) (by omega) (by omega)⟩
  ·exact absurd (h2 z e').1 hz
theorem Inv.new (I:Inv pT S vs m A R tau) {z:Str} {b:Bool} {rs:List (List Int)} (hz:z∉S) (o:zdu rs (tau++[b]) (A.length+1)) (h0:∀ r∈rs,r≠[]) (hh:∀ r∈rs,hd1 r=A.length+1):Inv pT S vs m (A++[.plain z]) (R++rs) (tau++[b])∧zbN (lt (tau++[b])) (R++rs)=zbN (lt tau) R:=by
 have l:=I.len
 have gr:∀ n,n≠A.length+1→grp rs n=[]:=fun n hn=>by
  unfold grp
  rw[List.filter_eq_nil_iff]
  intro r hr
  rw[hh r hr]
  simp
  intro _
  omega
 have g1:grp rs (A.length+1)=rs:=by
  unfold grp
  rw[List.filter_eq_self]
  intro r hr
  rw[hh r hr]
  have:=h0 r hr
  simp
  exact List.length_pos_iff.mpr this
 refine⟨⟨by simp [l],fun r hr=>?_,fun i a c e=>?_,fun i y e hy=>?_,fun i y e hy=>?_⟩,?_⟩
 ·rcases List.mem_append.mp hr with hr | hr
  ·exact⟨(I.rg r hr).1,fun p hp=>zcv ((I.rg r hr).2 p hp) (by simp)⟩
  ·refine⟨h0 r hr,fun p hp=>?_⟩
   have:=o.rg r hr p hp
   rw[zac]
   simp
   omega
 ·rcases zc6 e with ⟨e',_⟩ | ⟨rfl,e'⟩
  ·exact zes (I.sm i a c e')
  ·cases e'
 ·rcases zc6 e with ⟨e',_⟩ | ⟨rfl,e'⟩
  ·exact zes (I.pl i y e' hy)
  ·cases e'
   exact absurd hy hz
 ·rcases zc6 e with ⟨e',il⟩ | ⟨rfl,e'⟩
  ·obtain⟨own,top,g,t,o⟩:=I.nw i y e' hy
   refine⟨own,top,?_,t,o.pre (List.prefix_append _ _) (by omega) (by omega)⟩
   rw[zff,gr _ (by omega),List.append_nil,g]
  ·refine⟨rs,[],?_,.inl rfl,o⟩
   rw[zff,zlr I (by omega),g1]
   simp
 ·rw[zio,ze3 I b]
  have:zbN (lt (tau++[b])) rs=true:=by
   unfold zbN
   rw[List.all_eq_true]
   intro r hr
   have h:=(o.fo b).mpr (by
    show(tau++[b])[A.length]?=some b
    exact zbj I b) r hr
   rw[←h]
   refine zcX fun p hp=>?_
   unfold st1
   split
   ·next c =>
    rw[c]
    exact zbj I b
   ·rfl
  rw[this,Bool.and_true]
theorem zfT {k:Int} (h:zaf A.length k=false) (l:tau.length=A.length):pt (lt tau) (-k)=!pt (lt tau) k:=by
 have:=zac.mp h
 have hi:k.natAbs - 1 < tau.length:=by omega
 unfold pt lt
 rw[Int.natAbs_neg,List.getElem?_eq_getElem hi]
 have e:decide (0 < -k)=!decide (0 < k):=by
  by_cases c:0 < k
  ·rw[decide_eq_true c,decide_eq_false (by omega)];rfl
  ·rw[decide_eq_false c,decide_eq_true (by omega)];rfl
 rw[e]
 cases tau[k.natAbs - 1] <;> cases decide (0 < k) <;> rfl
theorem zd9 {k:Int} {b c:Bool} (h:zaf A.length k=false) (l:tau.length=A.length):pt (st1 (lt (tau++[b])) (A.length+1) c) k=pt (lt tau) k:=by
 have:=zac.mp h
 have hi:k.natAbs - 1 < tau.length:=by omega
 unfold pt st1
 rw[if_neg (by omega),zeL (List.prefix_append tau [b]) hi]
theorem zgl {τ:Nat→Option Bool} {n:Nat} {c:Bool} (n1:1≤n):pt (st1 τ n c) (n:Int)=c:=by
 unfold pt st1
 rw[Int.natAbs_natCast,if_pos rfl,decide_eq_true (by omega)]
 cases c <;> rfl
theorem zgm {τ:Nat→Option Bool} {n:Nat} {c:Bool} (n1:1≤n):pt (st1 τ n c) (-(n:Int))=!c:=by
 unfold pt st1
 rw[Int.natAbs_neg,Int.natAbs_natCast,if_pos rfl,decide_eq_false (by omega)]
 cases c <;> rfl
theorem zfS {tau':List Bool} {k:Int} (h:zaf A.length k=false) (l:tau.length=A.length) (p:tau <+: tau'):pt (lt tau') k=pt (lt tau) k:=by
 have:=zac.mp h
 unfold pt
 rw[zeL p (by omega)]
end
end K75
namespace K75
open PySem L2
open F75 (Tr Fm dTr zaE dFm FOk fdp zaG zcz)
section
variable {pT:Str→Bool} {S:List Str} {vs:List Int} {m:Nat} {A:List At} {R:List (List Int)} {tau:List Bool}
theorem zi8 (p:Int) (ps:List Int):aH [] (p :: ps)≠[]∧hd1 (aH [] (p :: ps))=p.natAbs:=by
 obtain⟨l,e⟩:=zg2 p ps
 rw[e]
 exact⟨by simp,rfl⟩
theorem zjp {n:Nat} {rs:List (List Int)} (h:∀ r∈rs,∃ p ps,r=p :: ps∧p.natAbs=n):(∀ r∈rs.map (aH []),r≠[])∧∀ r∈rs.map (aH []),hd1 r=n:=by
 constructor
 ·intro r hr
  obtain⟨u,hu,rfl⟩:=List.mem_map.mp hr
  obtain⟨p,ps,rfl,e⟩:=h u hu
  exact(zi8 p ps).1
 ·intro r hr
  obtain⟨u,hu,rfl⟩:=List.mem_map.mp hr
  obtain⟨p,ps,rfl,e⟩:=h u hu
  rw[(zi8 p ps).2,e]
theorem zhB {n:Nat} {rs:List (List Int)} (ne:rs≠[]) (la:rs.length=1∨∃ l p ps q,rs=l++[p :: ps]∧q∈ps∧q≠p) (rg:∀ r∈rs,∀ p∈r,zaf n p=false) (fo:∀ b,(∀ r∈rs,zaA (st1 (lt tau) n b) r=true)↔tau[n - 1]?=some b):zdu (rs.map (aH [])) tau n:=by
 refine⟨by simpa using ne,?_,fun r hr p hp=>?_,fun b=>?_⟩
 ·rcases la with h | ⟨l,p,ps,q,rfl,hq,hn⟩
  ·exact .inl (by rw[List.length_map];exact h)
  ·exact .inr ⟨l.map (aH []),aH [] (p :: ps),by simp,zlf hq hn⟩
 ·obtain⟨u,hu,rfl⟩:=List.mem_map.mp hr
  have hp':p∈u:=by simpa using (zcE p u []).mp hp
  have:=zac.mp (rg u hu p hp')
  omega
 ·rw[←fo b]
  constructor
  ·intro h r hr
   rw[←zgX]
   exact h _ (List.mem_map_of_mem hr)
  ·intro h r hr
   obtain⟨u,hu,rfl⟩:=List.mem_map.mp hr
   rw[zgX]
   exact h u hu
theorem zhD (n:Nat):zaf (n+1) ((n+1:Nat):Int)=false∧zaf (n+1) (-((n+1:Nat):Int))=false:=by
 rw[zac,zac]
 omega
theorem zfV {n:Nat} {k:Int} (h:zaf n k=false):zaf (n+1) k=false∧zaf (n+1) (-k)=false:=by
 rw[zac]at h
 rw[zac,zac]
 omega
theorem zhE {n:Nat} {k:Int} (h:zaf n k=false):zaf n (-k)=false:=by
 rw[zac]at h ⊢
 omega
theorem zle (I:Inv pT S vs m A R tau) (b:Bool):zdu ([[if b=true then((A.length+1:Nat):Int) else -((A.length+1:Nat):Int)]].map (aH [])) (tau++[b]) (A.length+1):=by
 obtain⟨n1,n2⟩:=zhD A.length
 refine zhB (by simp) (.inl rfl) (fun r hr p hp=>?_) fun c=>?_
 ·rw[List.mem_singleton.mp hr,List.mem_singleton]at hp
  rw[hp]
  split
  ·exact n1
  ·exact n2
 ·rw[show A.length+1 - 1=A.length from rfl,zbj I b]
  have e:∀ p,(∀ r∈[[p]],zaA (st1 (lt (tau++[b])) (A.length+1) c) r=true)↔pt (st1 (lt (tau++[b])) (A.length+1) c) p=true:=fun p=>by
   simp [zaA]
  rw[e]
  cases b with
  | true=>rw[if_pos rfl,zgl (by omega)];cases c <;> simp
  | false=>rw[if_neg (by decide),zgm (by omega)];cases c <;> simp
theorem ziT (k:Str) (n a b:Int):∀ r∈prF k n a b,(∃ p ps,r=p :: ps∧p.natAbs=n.natAbs)∧∀ p∈r,p=n∨p=-n∨p=a∨p=-a∨p=b∨p=-b:=by
 intro r hr
 unfold prF at hr
 split at hr
 ·simp only[List.mem_cons,List.not_mem_nil,or_false]at hr
  rcases hr with rfl | rfl | rfl
  all_goals exact⟨⟨_,_,rfl,by omega⟩,fun p hp=>by simp only[List.mem_cons,List.not_mem_nil,or_false]at hp;omega⟩
 ·split at hr
  ·simp only[List.mem_cons,List.not_mem_nil,or_false]at hr
   rcases hr with rfl | rfl | rfl
   all_goals exact⟨⟨_,_,rfl,by omega⟩,fun p hp=>by simp only[List.mem_cons,List.not_mem_nil,or_false]at hp;omega⟩
  ·split at hr
   ·simp only[List.mem_cons,List.not_mem_nil,or_false]at hr
    rcases hr with rfl | rfl | rfl
    all_goals exact⟨⟨_,_,rfl,by omega⟩,fun p hp=>by simp only[List.mem_cons,List.not_mem_nil,or_false]at hp;omega⟩
   ·simp only[List.mem_cons,List.not_mem_nil,or_false]at hr
    rcases hr with rfl | rfl | rfl | rfl
    all_goals exact⟨⟨_,_,rfl,by omega⟩,fun p hp=>by simp only[List.mem_cons,List.not_mem_nil,or_false]at hp;omega⟩
theorem zk6 (k:Str) (n a b:Int):∃ l ps q,prF k n a b=l++[n :: ps]∧q∈ps∧(q=-a∨q=-b):=by
 unfold prF
 split
 ·exact⟨[[-n,a],[-n,b]],[-a,-b],-a,rfl,by simp,.inl rfl⟩
 ·split
  ·exact⟨[[-n,a,b],[n,-a]],[-b],-b,rfl,by simp,.inr rfl⟩
  ·split
   ·exact⟨[[-n,-a,b],[n,a]],[-b],-b,rfl,by simp,.inr rfl⟩
   ·exact⟨[[-n,-a,b],[-n,a,-b],[n,a,b]],[-a,-b],-a,rfl,by simp,.inl rfl⟩
def opB (k:Str) (x y:Bool):Bool:=if k="and" then x&&y else if k="or" then x||y else if k="then" then y||!x else x == y
theorem zld (I:Inv pT S vs m A R tau) {k:Str} {a b:Int} (ha:zaf A.length a=false) (hb:zaf A.length b=false) :
  zdu ((prF k ((A.length+1:Nat):Int) a b).map (aH [])) (tau++[opB k (pt (lt tau) a) (pt (lt tau) b)]) (A.length+1):=by
 obtain⟨n1,n2⟩:=zhD A.length
 obtain⟨a1,a2⟩:=zfV ha
 obtain⟨b1,b2⟩:=zfV hb
 obtain⟨l,ps,q,e,hq,hqe⟩:=zk6 k ((A.length+1:Nat):Int) a b
 refine zhB (by rw[e];simp) (.inr ⟨l,_,ps,q,e,hq,?_⟩) (fun r hr p hp=>?_) fun c=>?_
 ·have h1:=zac.mp ha
  have h2:=zac.mp hb
  rcases hqe with rfl | rfl <;> omega
 ·rcases(ziT k _ a b r hr).2 p hp with rfl | rfl | rfl | rfl | rfl | rfl
  all_goals assumption
 ·rw[show A.length+1 - 1=A.length from rfl,zbj I]
  have na:=zfT (tau:=tau) ha I.len
  have nb:=zfT (tau:=tau) hb I.len
  have e1:=fun d=>zd9 (tau:=tau) (b:=d) (c:=c) ha I.len
  have e2:=fun d=>zd9 (tau:=tau) (b:=d) (c:=c) (zhE ha) I.len
  have e3:=fun d=>zd9 (tau:=tau) (b:=d) (c:=c) hb I.len
  have e4:=fun d=>zd9 (tau:=tau) (b:=d) (c:=c) (zhE hb) I.len
  generalize pt (lt tau) a=x at na e1
  generalize pt (lt tau) b=y at nb e3
  rw[na]at e2
  rw[nb]at e4
  have p1:=fun d=>zgl (τ:=lt (tau++[d])) (n:=A.length+1) (c:=c) (by omega)
  have p2:=fun d=>zgm (τ:=lt (tau++[d])) (n:=A.length+1) (c:=c) (by omega)
  unfold opB prF
  split
  ·simp only[List.forall_mem_cons,List.not_mem_nil,zaA,List.any_cons,List.any_nil,p1,p2,e1,e2,e3,e4]
   cases x <;> cases y <;> cases c <;> simp
  ·split
   ·simp only[List.forall_mem_cons,List.not_mem_nil,zaA,List.any_cons,List.any_nil,p1,p2,e1,e2,e3,e4]
    cases x <;> cases y <;> cases c <;> simp
   ·split
    ·simp only[List.forall_mem_cons,List.not_mem_nil,zaA,List.any_cons,List.any_nil,p1,p2,e1,e2,e3,e4]
     cases x <;> cases y <;> cases c <;> simp
    ·simp only[List.forall_mem_cons,List.not_mem_nil,zaA,List.any_cons,List.any_nil,p1,p2,e1,e2,e3,e4]
     cases x <;> cases y <;> cases c <;> simp
theorem zlX (I:Inv pT S vs m A R tau) {ss:List Int} (hs:∀ s∈ss,zaf A.length s=false) (ne:ss≠[]) :
  zdu (((ss.map fun s=>[-((A.length+1:Nat):Int),-s])++[((A.length+1:Nat):Int) :: ss]).map (aH [])) (tau++[!ss.any (pt (lt tau))]) (A.length+1):=by
 obtain⟨n1,n2⟩:=zhD A.length
 obtain⟨q,hq⟩:=List.exists_mem_of_ne_nil ss ne
 refine zhB (by simp) (.inr ⟨_,_,ss,q,rfl,hq,?_⟩) (fun r hr p hp=>?_) fun c=>?_
 ·have h1:=zac.mp (hs q hq)
  omega
 ·rcases List.mem_append.mp hr with hr | hr
  ·obtain⟨s,hs',rfl⟩:=List.mem_map.mp hr
   simp only[List.mem_cons,List.not_mem_nil,or_false]at hp
   rcases hp with rfl | rfl
   ·exact n2
   ·exact(zfV (hs s hs')).2
  ·rw[List.mem_singleton.mp hr]at hp
   rcases List.mem_cons.mp hp with rfl | hp
   ·exact n1
   ·exact(zfV (hs p hp)).1
 ·rw[show A.length+1 - 1=A.length from rfl,zbj I]
  generalize hd:(!ss.any (pt (lt tau)))=d
  have p1:=zgl (τ:=lt (tau++[d])) (n:=A.length+1) (c:=c) (by omega)
  have p2:=zgm (τ:=lt (tau++[d])) (n:=A.length+1) (c:=c) (by omega)
  have o1:∀ s∈ss,pt (st1 (lt (tau++[d])) (A.length+1) c) s=pt (lt tau) s:=fun s h=>zd9 (hs s h) I.len
  have o2:∀ s∈ss,pt (st1 (lt (tau++[d])) (A.length+1) c) (-s)=!pt (lt tau) s:=fun s h=>by rw[zd9 (zhE (hs s h)) I.len,zfT (hs s h) I.len]
  have any1:ss.any (pt (st1 (lt (tau++[d])) (A.length+1) c))=ss.any (pt (lt tau)):=by
   rw[Bool.eq_iff_iff,List.any_eq_true,List.any_eq_true]
   exact⟨fun⟨s,h,e⟩=>⟨s,h,by rw[←o1 s h];exact e⟩,fun⟨s,h,e⟩=>⟨s,h,by rw[o1 s h];exact e⟩⟩
  constructor
  ·intro h
   have hl:=h (((A.length+1:Nat):Int) :: ss) (List.mem_append_right _ (List.mem_singleton_self _))
   simp only[zaA,List.any_cons]at hl
   rw[p1,any1]at hl
   have hr:∀ s∈ss,(!c||!pt (lt tau) s)=true:=fun s hs'=>by
    have:=h [-((A.length+1:Nat):Int),-s] (List.mem_append_left _ (List.mem_map.mpr ⟨s,hs',rfl⟩))
    simp only[zaA,List.any_cons,List.any_nil]at this
    rw[p2,o2 s hs',Bool.or_false]at this
    exact this
   rw[←hd]
   cases c with
   | false =>
    rw[Bool.false_or]at hl
    rw[hl]
    rfl
   | true =>
    have:ss.any (pt (lt tau))=false:=by
     rw[List.any_eq_false]
     intro s hs' e
     have:=hr s hs'
     rw[e]at this
     exact absurd this (by decide)
    rw[this]
    rfl
  ·intro h
   have hc:d=c:=by injection h
   subst hc
   intro r hr
   rcases List.mem_append.mp hr with hr | hr
   ·obtain⟨s,hs',rfl⟩:=List.mem_map.mp hr
    simp only[zaA,List.any_cons,List.any_nil]
    rw[p2,o2 s hs',Bool.or_false]
    cases d with
    | false=>rfl
    | true =>
     have:ss.any (pt (lt tau))=false:=by cases e:ss.any (pt (lt tau)) with | false=>rfl | true=>rw[e]at hd;exact absurd hd (by decide)
     rw[List.any_eq_false]at this
     have:=this s hs'
     cases e:pt (lt tau) s with
     | false=>rfl
     | true=>exact absurd e this
   ·rw[List.mem_singleton.mp hr]
    simp only[zaA,List.any_cons]
    rw[p1,any1]
    rw[←hd]
    cases ss.any (pt (lt tau)) <;> rfl
end
end K75
namespace K75
open PySem L2
open F75 (Tr Fm dTr zaE dFm FOk fdp zaG zcz)
def wFm:Fm→List Str
 | .same a b=>wTr a++wTr b
 | .unlike ts=>zdB ts
 | .not f=>wFm f
 | .bin _ f g=>wFm f++wFm g
 | _=>[]
theorem zdI {S:List Str} {st:St} {x:St × Nat} (h:zcp S st=.ok x):x.1.T=st.T:=by
 unfold zcp at h
 obtain⟨y,_,e⟩:=Rl.bind_ok h
 cases e
 rfl
theorem zeg {S:List Str}:∀(f:Fm) {st:St} {x:St × Int},zaj S st f=.ok x→st.T <+: x.1.T∧(WT st.T→WT x.1.T)∧∀ y∈x.1.T,y∈st.T∨y.1∈wFm f
 | .plain z,st,x,h=>by
  simp only[zaj]at h
  obtain⟨y,e1,e2⟩:=Rl.bind_ok h
  cases e2
  exact⟨List.prefix_refl _,id,fun y hy=>.inl hy⟩
 | .bare z,st,x,h=>by
  simp only[zaj,zco]at h
  obtain⟨y,e1,e2⟩:=Rl.bind_ok h
  obtain⟨R,e3,e4⟩:=Rl.bind_ok e2
  cases e4
  have:=zdI e1
  dsimp only
  rw[this]
  exact⟨List.prefix_refl _,id,fun y hy=>.inl hy⟩
 | .same a b,st,x,h=>by
  simp only[zaj]at h
  obtain⟨y,e1,e2⟩:=Rl.bind_ok h
  obtain⟨z,e3,e4⟩:=Rl.bind_ok e2
  cases e4
  obtain⟨p,_,w,q⟩:=zce _ e1
  refine⟨p,w,fun u hu=>(q u hu).imp id fun z=>?_⟩
  simpa [zdB,wFm] using z
 | .unlike ts,st,x,h=>by
  simp only[zaj,zeH]at h
  obtain⟨y,e1,e2⟩:=Rl.bind_ok h
  obtain⟨z,e3,e4⟩:=Rl.bind_ok e2
  obtain⟨u,e5,e6⟩:=Rl.bind_ok e4
  obtain⟨R,e7,e8⟩:=Rl.bind_ok e6
  obtain⟨R',e9,e10⟩:=Rl.bind_ok e8
  cases e10
  obtain⟨p,_,w,q⟩:=zce _ e1
  have:=zdI e5
  dsimp only at this ⊢
  rw[this]
  exact⟨p,w,q⟩
 | .not f,st,x,h=>by
  simp only[zaj]at h
  obtain⟨y,e1,e2⟩:=Rl.bind_ok h
  cases e2
  obtain⟨a,b,c⟩:=zeg f e1
  exact⟨a,b,c⟩
 | .bin k f g,st,x,h=>by
  simp only[zaj,zco]at h
  obtain⟨y,e1,e2⟩:=Rl.bind_ok h
  obtain⟨z,e3,e4⟩:=Rl.bind_ok e2
  obtain⟨u,e5,e6⟩:=Rl.bind_ok e4
  obtain⟨R,e7,e8⟩:=Rl.bind_ok e6
  cases e8
  obtain⟨a1,b1,c1⟩:=zeg f e1
  obtain⟨a2,b2,c2⟩:=zeg g e3
  have:=zdI e5
  dsimp only
  rw[this]
  refine⟨a1.trans a2,fun w=>b2 (b1 w),fun y hy=>?_⟩
  simp only[wFm]
  rcases c2 y hy with h | h
  ·exact(c1 y h).imp id fun z=>List.mem_append_left _ z
  ·exact .inr (List.mem_append_right _ h)
theorem zfc {S:List Str}:∀(fs:List Fm) {st x:St},za2 S st fs=.ok x→st.T <+: x.T∧(WT st.T→WT x.T)∧∀ y∈x.T,y∈st.T∨∃ f∈fs,y.1∈wFm f
 | [],st,x,h=>by
  simp only[za2]at h
  cases h
  exact⟨List.prefix_refl _,id,fun y hy=>.inl hy⟩
 | f :: fs,st,x,h=>by
  simp only[za2]at h
  obtain⟨y,e1,e2⟩:=Rl.bind_ok h
  obtain⟨R,e3,e4⟩:=Rl.bind_ok e2
  obtain⟨a1,b1,c1⟩:=zeg f e1
  obtain⟨a2,b2,c2⟩:=zfc fs e4
  refine⟨a1.trans a2,fun w=>b2 (b1 w),fun u hu=>?_⟩
  rcases c2 u hu with h | ⟨g,hg,h⟩
  ·exact(c1 u h).imp id fun z=>⟨f,by simp,z⟩
  ·exact .inr ⟨g,List.mem_cons_of_mem _ hg,h⟩
section
variable {vF:Str→List Int→Int} {pT:Str→Bool} {S:List Str} {vs:List Int} {m:Nat}
structure Res (pT:Str→Bool) (S:List Str) (vs:List Int) (m:Nat) (A:List At) (R:List (List Int)) (tau:List Bool) (A':List At) (R':List (List Int)) (tau':List Bool):Prop where
 pre:tau <+: tau'
 inv:Inv pT S vs m A' R' tau'
 all:zbN (lt tau') R'=zbN (lt tau) R
theorem Res.refl {A:List At} {R:List (List Int)} {tau:List Bool} (I:Inv pT S vs m A R tau):Res pT S vs m A R tau A R tau:=⟨List.prefix_refl _,I,rfl⟩
theorem Res.trans {A A' A'':List At} {R R' R'':List (List Int)} {tau tau' tau'':List Bool} (h:Res pT S vs m A R tau A' R' tau') (k:Res pT S vs m A' R' tau' A'' R'' tau''):Res pT S vs m A R tau A'' R'' tau'':=⟨h.pre.trans k.pre,k.inv,k.all.trans h.all⟩
def zeq (S:List Str) (A:List At) (k:Int):Prop:=∀ z,A[k.natAbs - 1]?=some (.plain z)→z∈S
theorem zde {tau:List Bool} {i:Nat} {b:Bool} (h:tau[i]?=some b):pt (lt tau) ((i+1:Nat):Int)=b:=by
 unfold pt lt
 rw[Int.natAbs_natCast,Nat.add_sub_cancel,h,decide_eq_true (by omega)]
 cases b <;> rfl
theorem zgz {A:List At} {x:At} (h:x∈A):A[A.idxOf x]?=some x:=by
 have l:=List.idxOf_lt_length_of_mem h
 rw[List.getElem?_eq_getElem l,List.getElem_idxOf l]
theorem zky {A:List At} {R:List (List Int)} {tau:List Bool} {z:Str} {x:List At × Nat} (I:Inv pT S vs m A R tau) (hz:z∈S) (h:zbC A z=.ok x):∃ tau',Res pT S vs m A R tau x.1 R tau'∧pt (lt tau') (x.2:Int)=pT z∧zeq S x.1 (x.2:Int):=by
 have old:∀ {B:List At} {i:Nat},B[i]?=some (.plain z)→zeq S B ((i+1:Nat):Int):=fun {B i} e y hy=>by
  rw[Int.natAbs_natCast,Nat.add_sub_cancel,e]at hy
  cases hy
  exact hz
 unfold zbC at h
 split at h
 ·cases h
 ·split at h
  ·next c =>
   cases h
   have g:=zgz c
   exact⟨tau,Res.refl I,zde (I.pl _ z g hz),old g⟩
  ·split at h
   ·cases h
   ·cases h
    refine⟨tau++[pT z],⟨List.prefix_append _ _,I.old (fun a c e=>(by cases e)) (fun y e=>by cases e;exact⟨hz,rfl⟩),ze3 I _⟩,zde (zbj I _),old (by simp)⟩
theorem zh1 {A:List At} {R:List (List Int)} {tau:List Bool} {a b:Int} {x:List At × Nat} (I:Inv pT S vs m A R tau) (h:zbx A a b=.ok x):∃ tau',Res pT S vs m A R tau x.1 R tau'∧pt (lt tau') (x.2:Int)=decide (vAt vs a=vAt vs b)∧zeq S x.1 (x.2:Int):=by
 have old:∀ {B:List At} {i:Nat} {c d:Int},B[i]?=some (.same c d)→zeq S B ((i+1:Nat):Int):=fun {B i c d} e y hy=>by
  rw[Int.natAbs_natCast,Nat.add_sub_cancel,e]at hy
  cases hy
 unfold zbx at h
 split at h
 ·next c =>
  cases h
  have g:=zgz c
  refine⟨tau,Res.refl I,?_,old g⟩
  rw[zde (I.sm _ _ _ g)]
  exact decide_eq_decide.mpr ⟨Eq.symm,Eq.symm⟩
 ·split at h
  ·next c =>
   cases h
   have g:=zgz c
   exact⟨tau,Res.refl I,zde (I.sm _ _ _ g),old g⟩
  ·split at h
   ·cases h
   ·cases h
    refine⟨tau++[decide (vAt vs a=vAt vs b)],⟨List.prefix_append _ _,I.old (fun a c e=>(by cases e;rfl)) (fun y e=>by cases e),ze3 I _⟩,zde (zbj I _),old (c:=a) (d:=b) (by simp)⟩
theorem zlQ {A:List At} {tau tau':List Bool} {ss:List Int} (h:∀ s∈ss,zaf A.length s=false) (l:tau.length=A.length) (p:tau <+: tau'):ss.any (pt (lt tau'))=ss.any (pt (lt tau)):=by
 rw[Bool.eq_iff_iff,List.any_eq_true,List.any_eq_true]
 exact⟨fun⟨s,a,e⟩=>⟨s,a,by rw[←zfS (h s a) l p];exact e⟩,fun⟨s,a,e⟩=>⟨s,a,by rw[zfS (h s a) l p];exact e⟩⟩
theorem np_of {n:Nat} {k:Int} (h:1≤k∧k≤(n:Int)):zaf n k=false:=by
 rw[zac]
 omega
theorem ziO {a:Int}:∀ {bs:List Int} {A:List At} {R:List (List Int)} {tau:List Bool} {x:List At × List Int},Inv pT S vs m A R tau→A.length≤40→za1 A a bs=.ok x→∃ tau',Res pT S vs m A R tau x.1 R tau'∧(x.2.any (pt (lt tau'))=bs.any fun b=>decide (vAt vs a=vAt vs b))∧(∀ s∈x.2,zaf x.1.length s=false)∧x.1.length≤40
 | [],A,R,tau,x,I,h40,h=>by
  simp only[za1]at h
  cases h
  exact⟨tau,Res.refl I,rfl,fun s hs=>(nomatch hs),h40⟩
 | b :: bs,A,R,tau,x,I,h40,h=>by
  simp only[za1]at h
  obtain⟨y,e1,e2⟩:=Rl.bind_ok h
  obtain⟨z,e3,e4⟩:=Rl.bind_ok e2
  cases e4
  obtain⟨m1,l1,l2⟩:=zew e1 h40
  obtain⟨t1,r1,q1,_⟩:=zh1 I e1
  obtain⟨t2,r2,q2,n2,l40⟩:=ziO r1.inv m1.a e3
  have ny:zaf y.1.length (y.2:Int)=false:=np_of ⟨by omega,by omega⟩
  have le:y.1.length≤z.1.length:=by
   rw[←r1.inv.len,←r2.inv.len]
   exact r2.pre.length_le
  refine⟨t2,r1.trans r2,?_,fun s hs=>?_,l40⟩
  ·simp only[List.any_cons]
   rw[q2,zfS ny r1.inv.len r2.pre,q1]
  ·dsimp only at hs ⊢
   rcases List.mem_cons.mp hs with rfl | hs
   ·exact zcv ny le
   ·exact n2 s hs
theorem zgW:∀ {as:List Int} {A:List At} {R:List (List Int)} {tau:List Bool} {x:List At × List Int},Inv pT S vs m A R tau→A.length≤40→zaF A as=.ok x→∃ tau',Res pT S vs m A R tau x.1 R tau'∧(x.2.any (pt (lt tau'))=!decide (as.map (vAt vs)).Nodup)∧(∀ s∈x.2,zaf x.1.length s=false)
 | [],A,R,tau,x,I,h40,h=>by
  simp only[zaF]at h
  cases h
  exact⟨tau,Res.refl I,by simp,fun s hs=>(nomatch hs)⟩
 | a :: as,A,R,tau,x,I,h40,h=>by
  simp only[zaF]at h
  obtain⟨y,e1,e2⟩:=Rl.bind_ok h
  obtain⟨z,e3,e4⟩:=Rl.bind_ok e2
  cases e4
  obtain⟨t1,r1,q1,n1,l1⟩:=ziO I h40 e1
  obtain⟨t2,r2,q2,n2⟩:=zgW r1.inv l1 e3
  have le:y.1.length≤z.1.length:=by
   rw[←r1.inv.len,←r2.inv.len]
   exact r2.pre.length_le
  refine⟨t2,r1.trans r2,?_,fun s hs=>?_⟩
  ·simp only[List.any_append,List.map_cons]
   rw[q2,zlQ n1 r1.inv.len r2.pre,q1]
   have e:(as.any fun b=>decide (vAt vs a=vAt vs b))=decide (vAt vs a∈as.map (vAt vs)):=by
    rw[Bool.eq_iff_iff,List.any_eq_true,decide_eq_true_eq,List.mem_map]
    exact⟨fun⟨b,h,e⟩=>⟨b,h,(of_decide_eq_true e).symm⟩,fun⟨b,h,e⟩=>⟨b,h,decide_eq_true e.symm⟩⟩
   rw[e]
   by_cases c1:vAt vs a∈as.map (vAt vs) <;> by_cases c2:(as.map (vAt vs)).Nodup <;> simp [c1,c2,List.nodup_cons]
  ·dsimp only at hs ⊢
   rcases List.mem_append.mp hs with hs | hs
   ·exact zcv (n1 s hs) le
   ·exact n2 s hs
theorem zfH {S:List Str} {st:St} (F:Fit S st) (W:Few S):zaH (ff S 6 st.tr)∉S:=by
 have n:=F.n
 have a:=F.a
 obtain⟨j,hj,free⟩:=zdM W (t:=st.tr) (by omega)
 exact zgC hj free
theorem zlD {n:Nat} (h:2≤n):0 < tri n:=by
 match n,h with
 | n+2,_=>simp only[tri];omega
theorem opB_h (k:Str) (f g:Fm):hFm vF pT (.bin k f g)=opB k (hFm vF pT f) (hFm vF pT g):=by
 simp only[hFm,opB]
set_option maxHeartbeats 400000 in
theorem zdX {Tf:List Tm} (V:zeQ vF Tf vs) (W:Few S):∀(f:Fm) {st:St} {x:St × Int} {tau:List Bool},Fit S st→FOk f→LFm f→(∀ z∈plF f,z∈S)→m≤st.A.length→zaj S st f=.ok x→x.1.T <+: Tf→Inv pT S vs m st.A st.R tau →
  ∃ tau',Res pT S vs m st.A st.R tau x.1.A x.1.R tau'∧pt (lt tau') x.2=hFm vF pT f∧(zeq S x.1.A x.2∨m < x.2.natAbs)
 | .plain z,st,x,tau,F,O,L,pl,hm,h,pT',I=>by
  simp only[zaj]at h
  obtain⟨y,e1,e2⟩:=Rl.bind_ok h
  cases e2
  obtain⟨t,r,q,o⟩:=zky I (pl z (by simp [plF])) e1
  exact⟨t,r,q,.inl o⟩
 | .bare z,st,x,tau,F,O,L,pl,hm,h,pT',I=>by
  simp only[zaj,zco]at h
  obtain⟨y,e1,e2⟩:=Rl.bind_ok h
  obtain⟨R,e3,e4⟩:=Rl.bind_ok e2
  cases e4
  obtain⟨rfl,l,F1⟩:=zcj F W e1
  obtain⟨rfl,r⟩:=zbk e3
  have hb:[[if z="always" then((st.A.length+1:Nat):Int) else -((st.A.length+1:Nat):Int)]]=[[if decide (z="always")=true then((st.A.length+1:Nat):Int) else -((st.A.length+1:Nat):Int)]]:=by
   by_cases c:z="always" <;> simp [c]
  have oo:=zle I (decide (z="always"))
  rw[←hb]at oo
  obtain⟨h1,h2⟩:=zjp (n:=st.A.length+1) (rs:=[[if z="always" then((st.A.length+1:Nat):Int) else -((st.A.length+1:Nat):Int)]]) (fun r hr=>by
   rw[List.mem_singleton.mp hr]
   refine⟨_,[],rfl,?_⟩
   split <;> omega)
  obtain⟨i1,a1⟩:=I.new (zfH F W) oo h1 h2
  exact⟨_,⟨List.prefix_append _ _,i1,a1⟩,zde (zbj I _),.inr (by dsimp only;omega)⟩
 | .same a b,st,x,tau,F,O,L,pl,hm,h,pT',I=>by
  simp only[zaj]at h
  obtain⟨y,e1,e2⟩:=Rl.bind_ok h
  obtain⟨z,e3,e4⟩:=Rl.bind_ok e2
  cases e4
  obtain⟨t,r,q,o⟩:=zh1 I e3
  refine⟨t,r,?_,.inl o⟩
  have vv:=zd0 V _ e1 pT'
  simp only[zbL]at vv
  have l2:y.2.length=2:=by have:=congrArg List.length vv;simpa using this
  match hy:y.2,l2 with
  | [k1,k2],_ =>
   rw[hy]at vv q
   simp only[List.map_cons,List.map_nil,List.cons.injEq,and_true]at vv
   have q':pt (lt t) (z.2:Int)=decide (vAt vs k1=vAt vs k2):=q
   show pt (lt t) (z.2:Int)=_
   rw[q',vv.1,vv.2]
   rfl
 | .unlike ts,st,x,tau,F,O,L,pl,hm,h,pT',I=>by
  simp only[zaj,zeH]at h
  obtain⟨y,e1,e2⟩:=Rl.bind_ok h
  obtain⟨z,e3,e4⟩:=Rl.bind_ok e2
  obtain⟨u,e5,e6⟩:=Rl.bind_ok e4
  obtain⟨R,e7,e8⟩:=Rl.bind_ok e6
  obtain⟨R',e9,e10⟩:=Rl.bind_ok e8
  cases e10
  obtain⟨t1,_,_,l2⟩:=zbm F.t _ e1
  obtain⟨mo,_,l3⟩:=zdf e3 F.a
  obtain⟨t2,r2,q2,n2⟩:=zgW I F.a e3
  have F1:=F.more t1 mo
  obtain⟨rfl,l,F2⟩:=zcj F1 W e5
  obtain⟨rfl,_⟩:=zbk e7
  obtain⟨rfl,_⟩:=zbk e9
  have vv:=zd0 V _ e1 pT'
  have ne:z.2≠[]:=fun e=>by
   have:=zlD (n:=ts.length) L.2.1
   rw[e,l2]at l3
   simp at l3
   omega
  have oo:=zlX r2.inv n2 ne
  obtain⟨h1,h2⟩:=zjp (n:=z.1.length+1) (rs:=(z.2.map fun s=>[-((z.1.length+1:Nat):Int),-s])++[((z.1.length+1:Nat):Int) :: z.2]) (fun r hr=>by
   rcases List.mem_append.mp hr with hr | hr
   ·obtain⟨s,_,rfl⟩:=List.mem_map.mp hr
    exact⟨_,_,rfl,by omega⟩
   ·rw[List.mem_singleton.mp hr]
    exact⟨_,_,rfl,by omega⟩)
  obtain⟨i1,a1⟩:=r2.inv.new (zfH F1 W) oo h1 h2
  have le:st.A.length≤z.1.length:=mo.le
  have fin:Res pT S vs m z.1 st.R t2 (z.1++[.plain (zaH (ff S 6 st.tr))]) (st.R++(z.2.map fun s=>[-((z.1.length+1:Nat):Int),-s]).map (aH [])++[((z.1.length+1:Nat):Int) :: z.2].map (aH [])) (t2++[!z.2.any (pt (lt t2))]):=by
   refine⟨List.prefix_append _ _,?_,?_⟩
   ·rw[List.append_assoc,←List.map_append]
    exact i1
   ·rw[List.append_assoc,←List.map_append]
    exact a1
  refine⟨_,r2.trans fin,?_,.inr (by dsimp only;omega)⟩
  refine(zde (zbj r2.inv _)).trans ?_
  rw[q2,vv,Bool.not_not]
  rfl
 | .not f,st,x,tau,F,O,L,pl,hm,h,pT',I=>by
  simp only[zaj]at h
  obtain⟨y,e1,e2⟩:=Rl.bind_ok h
  cases e2
  obtain⟨t,r,q,o⟩:=zdX V W f F O L pl hm e1 pT' I
  obtain⟨_,_,np⟩:=za4 W (f:=f) F L pl e1
  refine⟨t,r,?_,?_⟩
  ·show pt (lt t) (-y.2)=_
   rw[zfT np r.inv.len,q]
   rfl
  ·dsimp only
   unfold zeq at o ⊢
   rw[Int.natAbs_neg]
   exact o
 | .bin k f g,st,x,tau,F,O,L,pl,hm,h,pT',I=>by
  simp only[zaj,zco]at h
  obtain⟨y,e1,e2⟩:=Rl.bind_ok h
  obtain⟨z,e3,e4⟩:=Rl.bind_ok e2
  obtain⟨u,e5,e6⟩:=Rl.bind_ok e4
  obtain⟨R,e7,e8⟩:=Rl.bind_ok e6
  cases e8
  have pf:∀ z∈plF f,z∈S:=fun z hz=>pl z (by simp [plF,hz])
  have pg:∀ z∈plF g,z∈S:=fun z hz=>pl z (by simp [plF,hz])
  obtain⟨a1,b1,c1⟩:=za4 W (f:=f) F L.1 pf e1
  obtain⟨a2,b2,c2⟩:=za4 W (f:=g) a1 L.2 pg e3
  have ut:=zdI e5
  dsimp only at pT'
  rw[ut]at pT'
  obtain⟨t1,r1,q1,_⟩:=zdX V W f F O.2.1 L.1 pf hm e1 ((zeg g e3).1.trans pT') I
  obtain⟨t2,r2,q2,_⟩:=zdX V W g a1 O.2.2 L.2 pg (Nat.le_trans hm b1) e3 pT' r1.inv
  obtain⟨rfl,l,F1⟩:=zcj a2 W e5
  obtain⟨rfl,r⟩:=zbk e7
  have ny:zaf z.1.A.length y.2=false:=zcv c1 b2
  have oo:=zld r2.inv (k:=k) ny c2
  obtain⟨h1,h2⟩:=zjp (n:=z.1.A.length+1) (rs:=prF k ((z.1.A.length+1:Nat):Int) y.2 z.2) (fun r hr=>(ziT k _ _ _ r hr).1)
  obtain⟨i1,a1'⟩:=r2.inv.new (zfH a2 W) oo h1 h2
  refine⟨_,(r1.trans r2).trans ⟨List.prefix_append _ _,i1,a1'⟩,?_,.inr (by dsimp only;omega)⟩
  refine(zde (zbj r2.inv _)).trans ?_
  rw[opB_h,q2,zfS c1 r1.inv.len r2.pre,q1]
theorem Inv.top {A:List At} {R:List (List Int)} {tau:List Bool} {k:Int} (I:Inv pT S vs m A R tau) (np:zaf A.length k=false) (o:zeq S A k∨m < k.natAbs) (hm:m≤A.length):Inv pT S vs A.length A (R++[[k]]) tau:=by
 refine⟨I.len,fun r hr=>?_,I.sm,I.pl,fun i z e hz=>?_⟩
 ·rcases List.mem_append.mp hr with hr | hr
  ·exact I.rg r hr
  ·rw[List.mem_singleton.mp hr]
   exact⟨by simp,fun p hp=>by rw[List.mem_singleton.mp hp];exact np⟩
 ·obtain⟨own,top,g,t,w⟩:=I.nw i z e hz
  have il:=(List.getElem?_eq_some_iff.mp e).1
  rw[zff]
  by_cases c:k.natAbs=i+1
  ·have gk:grp [[k]] (i+1)=[[k]]:=by
    unfold grp
    rw[List.filter_eq_self]
    intro r hr
    rw[List.mem_singleton.mp hr]
    simp [hd1,c]
   have t0:top=[]:=by
    rcases t with t | ⟨im,_⟩
    ·exact t
    ·rcases o with o | o
     ·exact absurd (o z (by rw[c];exact e)) hz
     ·omega
   rw[g,gk,t0,List.append_nil]
   exact⟨own,[[k]],rfl,.inr ⟨il,k,c,rfl⟩,w⟩
  ·have gk:grp [[k]] (i+1)=[]:=by
    unfold grp
    rw[List.filter_eq_nil_iff]
    intro r hr
    rw[List.mem_singleton.mp hr]
    simp [hd1,c]
   rw[gk,List.append_nil]
   exact⟨own,top,g,t.imp id fun⟨_,q⟩=>⟨il,q⟩,w⟩
theorem zg7 {Tf:List Tm} (V:zeQ vF Tf vs) (W:Few S):∀(fs:List Fm) {st x:St} {tau:List Bool},Fit S st→(∀ f∈fs,FOk f∧LFm f∧∀ z∈plF f,z∈S)→za2 S st fs=.ok x→x.T <+: Tf→Inv pT S vs st.A.length st.A st.R tau →
  ∃ tau',Inv pT S vs x.A.length x.A x.R tau'∧zbN (lt tau') x.R=(zbN (lt tau) st.R&&fs.all (hFm vF pT))
 | [],st,x,tau,F,O,h,p,I=>by
  simp only[za2]at h
  cases h
  exact⟨tau,I,by simp⟩
 | f :: fs,st,x,tau,F,O,h,p,I=>by
  simp only[za2]at h
  obtain⟨y,e1,e2⟩:=Rl.bind_ok h
  obtain⟨R,e3,e4⟩:=Rl.bind_ok e2
  obtain⟨o1,o2,o3⟩:=O f (by simp)
  obtain⟨a1,b1,c1⟩:=za4 W F o2 o3 e1
  obtain⟨rfl,l⟩:=zbk e3
  obtain⟨pt1,_⟩:=zfc fs e4
  obtain⟨t1,r1,q1,old⟩:=zdX V W f F o1 o2 o3 (Nat.le_refl _) e1 (pt1.trans p) I
  have e0:[[y.2]].map (aH [])=[[y.2]]:=by simp [aH]
  rw[e0]at e4 l
  have I2:=r1.inv.top c1 old b1
  obtain⟨t2,i2,q2⟩:=zg7 V W fs (a1.rows l) (fun g hg=>O g (List.mem_cons_of_mem _ hg)) e4 p I2
  refine⟨t2,i2,?_⟩
  rw[q2,zio,r1.all]
  have:zbN (lt t1) [[y.2]]=hFm vF pT f:=by
   simp only[zbN,zaA,List.all_cons,List.all_nil,List.any_cons,List.any_nil,Bool.and_true,Bool.or_false]
   exact q1
  rw[this,List.all_cons,Bool.and_assoc]
theorem Inv.nil:Inv pT S vs 0 [] [] []:=⟨rfl,fun r hr=>(nomatch hr),fun i a b h=>by simp at h,fun i z h=>by simp at h,fun i z h=>by simp at h⟩
end
end K75
namespace K75
open PySem L2
open F75 (Tr Fm dTr zaE dFm FOk fdp zaG zcz Names)
def mix1 (c k:Int):Int:=(c+7919 * k+11) * 48271 % 2147483647
def mixF (c k:Int):Int:=(mix1 c k * mix1 c k+40692 * mix1 c k) % 2147483399
def zfn (a:Int) (us:List Int):Int:=us.foldl (fun f u=>31 * f+u+1) a
theorem zhc (a:Int) (us:List Int) (u:Int):zfn a (us++[u])=31 * zfn a us+u+1:=by
 unfold zfn
 rw[List.foldl_append]
 rfl
def vF (zs:List Str) (c:Int) (n:Str) (us:List Int):Int:=mixF c (7 * zfn (((zs.idxOf n:Nat):Int)+1) us+((us.length:Nat):Int)) / 5 % (2+c % 3)
def pF (zs:List Str) (c:Int) (z:Str):Bool:=decide (mixF c ((zs.idxOf z:Nat):Int) / 3 % 2=1)
theorem zmc (a b:Str):peq (.str a) (.str b)=true↔a=b:=by
 simp only[peq]
 exact beq_iff_eq
theorem zfa {zs:List Str} {z:Str} (h:z∈zs):(zs.map Dt.str)[zs.idxOf z]?=some (.str z):=by
 have l:=List.idxOf_lt_length_of_mem h
 rw[List.getElem?_map,List.getElem?_eq_getElem l,List.getElem_idxOf l]
 rfl
theorem ze9 {zs:List Str} {z:Str} {m:Nat} {d:Dt} (h:m < zs.idxOf z) (e:(zs.map Dt.str)[m]?=some d):peq d (.str z)=false:=by
 rw[List.getElem?_map]at e
 cases hy:zs[m]? with
 | none=>rw[hy]at e;cases e
 | some y =>
  rw[hy]at e
  cases e
  cases q:peq (.str y) (.str z) with
  | false=>rfl
  | true =>
   have:=(zmc y z).mp q
   subst this
   have h2:=List.not_of_lt_findIdx (p:=(· == y)) (xs:=zs) h
   have e2:=(List.getElem?_eq_some_iff.mp hy).2
   rw[e2]at h2
   simp at h2
theorem zdg {K:W.Frag} {H:Hp}:∀ zs:List Str,HasL K H (zs.map Dt.str) (zs.map V.str)
 | []=>HasL.nil
 | z :: zs=>HasL.cons Has.str' (zdg zs)
theorem zdi:∀ zs:List Str,zau (zs.map Dt.str)=0
 | []=>by simp [zau]
 | z :: zs=>by
  simp only[List.map_cons,zau,dep,zdi zs]
  rfl
theorem zgS (g:Str→List Int→Int) {ts:List Tr} {i:Nat} {t:Tr} (h:ts[i]?=some t):zbL g (ts.take (i+1))=zbL g (ts.take i)++[vTr g t]:=by
 rw[zer,zer,zaW h,List.map_append]
 rfl
theorem zhQ (g:Str→List Int→Int) (ts:List Tr):(zbL g ts).length=ts.length:=by rw[zer,List.length_map]
theorem zfw:∀ {ts:List Tr} {t:Tr} {z:Str},t∈ts→z∈wTr t→z∈zdB ts
 | u :: ts,t,z,h,hz=>by
  simp only[zdB]
  rcases List.mem_cons.mp h with rfl | h
  ·exact List.mem_append_left _ hz
  ·exact List.mem_append_right _ (zfw h hz)
section
variable {P:Program} {w:World} {K:W.Frag} {mg:Str→Option Value} {base:Heap} {aK aO C CN CT CP CM:Addr} {f fM fV:Addr} {fd dM dV:FuncData}
def zcM:Sp:=fun vs H Q _=>∃ c k:Int,vs=[.int c,.int k]∧Q (.int (mixF c k)) H
theorem zl5 (F:Fun K "_law_mixed" "_law_mixed" F75.s__law_mixed f fd):FnOk P w K mg base CX0 1 f fd ["_law_cell","_law_k"] zcM:=by
 refine F.ok F75.sc__law_mixed (fun vs H Q E h=>?_) (fun cdv A outer s H vs Q E hr h=>?_)
 ·obtain⟨c,k,rfl,_⟩:=h
  rfl
 obtain⟨c,k,rfl,q⟩:=h
 refine⟨_,(ae (aA (i:=2) F75.sc__law_mixed.nd rfl (Or.inl rfl) (au zaL (au zbX (au zaM (au zaM (pv 0) (au zbX ag (pv 1))) ag) ag) ag))
  (aj (ax (au zaL (au zaM (au zbX (pv 2) (pv 2)) (au zbX ag (pv 2))) ag)))),?_⟩
 have b:=F75.modB ((c+7919 * k+11) * 48271) (show(0:Int) < 2147483647 by decide)
 exact⟨_,rfl,_,rfl,_,_,rfl,rfl,.inl ⟨by decide,by decide⟩,_,_,rfl,rfl,_,_,rfl,rfl,_,_,rfl,rfl,.inr ⟨by decide,by decide⟩,_,_,rfl,rfl,(by show(0:Int) < 2147483647;decide),_,rfl,_,rfl,_,_,rfl,rfl,.inl ⟨by omega,by omega⟩,_,rfl,_,_,rfl,rfl,.inl ⟨by decide,by decide⟩,_,_,rfl,rfl,_,_,rfl,rfl,(by show(0:Int) < 2147483399;decide),q⟩
def zjO (K:W.Frag) (n:Nat):Sp:=fun vs H Q _=>∃(v:V) (nl:Addr) (c:Int) (t:Tr) (zs:List Str),vs=[v,.ref nl,.int c]∧Has K H (dTr t) v∧H nl=some (.lst (zs.map V.str))∧F75.dp t≤n∧(∀ z∈wTr t,z∈zs)∧Q (.int (vTr (vF zs c) t)) H
theorem zcx:zae ["_law_tree_here","_law_names_here","_law_cell","_law_far","_law_inner"] ["_law_tree_here","_law_names_here","_law_cell"] (ao zdP):=⟨rfl,rfl,rfl,by decide +kernel,rfl,by decide +kernel,by decide +kernel⟩
set_option maxHeartbeats 1000000 in
theorem zj7 (F:Fun K "_law_value" "_law_value" zdP f fd) (T:Txt K mg aK C CN CT CP CM) (b:av K fd ["_law_tree_here","_law_names_here","_law_cell"] []) (kp:W.keepIn K (.ref f)=true) (m:mg "_law_value"=some (.ref f)) (BM:FB P w K mg base CX0 1 "_law_mixed" fM dM ["_law_cell","_law_k"] zcM) :
  ∀ n,FnOk P w K mg base CX0 (n+1) f fd ["_law_tree_here","_law_names_here","_law_cell"] (zjO K n)
 | 0=>F75.FnOk.no fun _ _ _ _ ⟨_,_,_,t,_,_,_,_,h,_⟩=>by
  cases t with
  | node n ts=>simp only[F75.dp]at h;omega
 | n+1=>by
  have IH:=zj7 F T b kp m BM n
  refine F.ok zcx (fun vs H Q E h=>?_) (fun cdv A outer s H vs Q E hr h=>?_)
  ·obtain⟨v,nl,c,t,zs,rfl,_⟩:=h
   rfl
  obtain⟨v,nl,c,t,zs,rfl,hv,hN,hd,hw,q⟩:=h
  have hu:=zem hr
  have hr1:aE 1 _:=hr.mono (by omega)
  cases t with
  | node nm ts =>
  obtain⟨p,pq,xs,rfl,hp,hpq,hxs⟩:=F75.tr_at hv
  have dts:∀ u∈ts,F75.dp u≤n:=by
   simp only[F75.dp]at hd
   exact F75.dps_le (by omega)
  simp only[wTr]at hw
  have hnm:nm∈zs:=hw nm (by simp)
  have wts:∀ u∈ts,∀ z∈wTr u,z∈zs:=fun u hu z hz=>hw z (List.mem_cons_of_mem _ (zfw hu hz))
  refine⟨_,(ae (aA (i:=3) zcx.nd rfl (Or.inl rfl) (au zaM (zbB PySem.F.plainAttrs_list PySem.F.slot_list_index PySem.F.type_list_index (zcR hu) (pv 1) (aa (aF zat (pv 0) ag (fun _ _=>rfl)) ac)) ag))
   (ae (zaZ PassesOwn.never rfl (zec (aF zat (pv 0) ag (fun _ _=>rfl))) (zay (i:=4) zcx.nd rfl (Or.inl rfl))
    (aj (aA (i:=3) zcx.nd rfl (Or.inl rfl) (au zaM (au zaM (au zbX ag (pv 3)) (zaa IH hr rfl m kp b .nil zal (aa (pv 4) (aa (pv 1) (aa (pv 2) ac))))) ag))))
   (aj (ax (au zaL (au zbh (zaa BM.ok hr1 rfl BM.m BM.kp BM.b .nil zal (aa (pv 2) (aa (au zaM (au zbX ag (pv 3)) (zap zan rfl T.len PySem.boot_len (aa (aF zat (pv 0) ag (fun _ _=>rfl)) ac))) ac))) ag) (au zaM ag (au zaL (pv 2) ag))))))),?_⟩
  have at0:atI [V.str nm,V.ref pq] 0=some (.str nm):=zah (j:=0) rfl
  have at1:atI [V.str nm,V.ref pq] 1=some (.ref pq):=zah (j:=1) rfl
  have xl:xs.length=ts.length:=by rw[←hxs.length,F75.dTrs_length]
  refine⟨_,rfl,.inl ⟨rfl,_,SqL.of hN⟩,_,rfl,p,_,_,_,rfl,rfl,hp,at0,nl,_,zs.map Dt.str,_,.str nm,zs.idxOf nm,rfl,rfl,hN,zdg zs,Has.str',(by rw[zdi];decide),⟨_,zfa hnm,zbw _⟩,(fun m dm h e=>ze9 h e),_,_,rfl,rfl,?_⟩
  refine⟨_,rfl,p,_,_,_,rfl,rfl,hp,at1,pq,rfl,⟨_,hpq⟩,zbO zd7 (fun i σ H'=>H'=H∧∃ v4:Option V,σ=[some (.ref p),some (.ref nl),some (.int c),some (.int (zfn (((zs.idxOf nm:Nat):Int)+1) (zbL (vF zs c) (ts.take i)))),v4]) (fun i σ H' ⟨e,_⟩=>by rw[e];exact hpq) ⟨rfl,none,rfl⟩ ?_ ?_⟩
  ·rintro i σ H2 x H3 hi ⟨rfl,v4,rfl⟩ ⟨rfl,hx⟩
   obtain⟨u,hu',hxu⟩:=F75.trs_get hxs (hx _ hpq)
   have um:=List.mem_of_getElem? hu'
   refine⟨_,rfl,_,_,rfl,rfl,.inl ⟨by decide,by decide⟩,_,rfl,_,rfl,_,rfl,x,nl,c,u,zs,rfl,hxu,hN,dts u um,wts u um,_,_,rfl,rfl,_,_,rfl,rfl,rfl,some x,?_⟩
   rw[zgS _ hu',zhc]
   rfl
  ·rintro σ H2 ⟨rfl,v4,rfl⟩
   rw[xl,List.take_length]
   have b3:=F75.modB c (show(0:Int) < 3 by decide)
   refine⟨_,rfl,_,rfl,_,_,rfl,rfl,.inl ⟨by decide,by decide⟩,_,rfl,p,_,_,_,rfl,rfl,hp,at1,pq,_,rfl,.inr hpq,_,_,rfl,rfl,_,_,rfl,_,_,rfl,rfl,⟨by decide,by decide⟩,_,rfl,_,_,rfl,rfl,(by show(0:Int) < 3;decide),_,_,rfl,rfl,_,_,rfl,rfl,(by show(0:Int) < 2+c % 3;omega),?_⟩
   rw[xl,←zhQ (vF zs c) ts]
   rw[vTr]at q
   exact q
def ziM (K:W.Frag):Sp:=fun vs H Q _=>∃(tl nl:Addr) (c:Int) (xs:List V) (T:List Tm) (zs:List Str),vs=[.ref tl,.ref nl,.int c]∧H tl=some (.lst xs)∧HasL K H (T.map dT) xs∧H nl=some (.lst (zs.map V.str))∧WT T∧(∀ y∈T,y.1∈zs)∧T.length≤60 ∧
 ∀(H':Hp) (l:Addr),ar H H'→H l=none→H' l=some (.lst ((za8 (vF zs c) [] T).map V.int))→Q (.ref l) H'
theorem zjs (g:Str→List Int→Int) {T:List Tm} {i:Nat} {t:Tm} (h:T[i]?=some t):za8 g [] (T.take (i+1))=za8 g [] (T.take i)++[g t.1 (t.2.map (vAt (za8 g [] (T.take i))))]:=by
 rw[zaW h,zgP]
 rfl
theorem zhr {vs:List Int} {k:Int} (h0:0≤k) (h1:k < (vs.length:Int)):atI (vs.map V.int) k=some (.int (vAt vs k)):=by
 have e:k=((k.toNat:Nat):Int):=by omega
 rw[e]
 refine zah ?_
 unfold vAt
 rw[List.getElem?_map,List.getElem?_eq_getElem (by omega),List.getD_eq_getElem?_getD,Int.toNat_natCast,List.getElem?_eq_getElem (by omega)]
 rfl
theorem tm_get {H:Hp} {T:List Tm} {xs:List V} {i:Nat} {x:V} (h:HasL K H (T.map dT) xs) (e:xs[i]?=some x):∃ t p q,T[i]?=some t∧x=.ref p∧SqT K H p [.str t.1,.ref q]∧SqT K H q (t.2.map V.int):=by
 obtain⟨d,hd,hx⟩:=HasL.get h e
 rw[List.getElem?_map]at hd
 cases ht:T[i]? with
 | none=>rw[ht]at hd;cases hd
 | some t =>
  rw[ht]at hd
  cases hd
  unfold dT at hx
  simp only[Has]at hx
  obtain⟨p,us,rfl,hp,hus⟩:=hx
  simp only[HasL,Has]at hus
  obtain⟨u1,us1,rfl,rfl,u2,us2,rfl,⟨q,zs,rfl,hq,hz⟩,rfl⟩:=hus
  exact⟨t,p,q,rfl,rfl,hp,by rw[ze1 hz]at hq;exact hq⟩
theorem zbe:zae ["_law_terms","_law_names_here","_law_cell","_law_values_here","_law_name","_law_parts","_law_far","_law_part"] ["_law_terms","_law_names_here","_law_cell"] (ao zdn):=⟨rfl,rfl,rfl,by decide +kernel,rfl,by decide +kernel,by decide +kernel⟩
set_option maxHeartbeats 1000000 in
theorem zl1 (F:Fun K "_law_values" "_law_values" zdn f fd) (T:Txt K mg aK C CN CT CP CM) (BM:FB P w K mg base CX0 1 "_law_mixed" fM dM ["_law_cell","_law_k"] zcM):FnOk P w K mg base CX0 2 f fd ["_law_terms","_law_names_here","_law_cell"] (ziM K):=by
 refine F.ok zbe (fun vs H Q E h=>?_) (fun cdv A outer s H vs Q E hr h=>?_)
 ·obtain⟨tl,nl,c,xs,T',zs,rfl,_⟩:=h
  rfl
 obtain⟨tl,nl,c,xs,T',zs,rfl,hT,hL,hN,hW,hz,t60,q⟩:=h
 have hu:=zem hr
 have hr1:aE 1 _:=hr.mono (by decide)
 have xl:xs.length=T'.length:=by rw[←hL.length,List.length_map]
 refine⟨_,(ae (aA (i:=3) zbe.nd rfl (Or.inl rfl) (zam ac))
  (ae (zaZ PassesOwn.never rfl (za6 (pv 0)) (zj2 rfl (zeu (zay (i:=4) zbe.nd rfl (Or.inl rfl)) (zeu (zay (i:=5) zbe.nd rfl (Or.inl rfl)) ziW)))
   (ae (aA (i:=6) zbe.nd rfl (Or.inl rfl) (au zaM (zbB PySem.F.plainAttrs_list PySem.F.slot_list_index PySem.F.type_list_index (zcR hu) (pv 1) (aa (pv 4) ac)) ag))
    (ae (zaZ PassesOwn.never rfl (zec (pv 5)) (zay (i:=7) zbe.nd rfl (Or.inl rfl))
     (aj (aA (i:=6) zbe.nd rfl (Or.inl rfl) (au zaM (au zaM (au zbX ag (pv 6)) (aF zaN (pv 3) (pv 7) (fun _ _=>rfl))) ag))))
    (aj (zaI (zbB PySem.F.plainAttrs_list PySem.F.slot_list_append PySem.F.type_list_append zaS (pv 3) (aa (au zaL (au zbh (zaa BM.ok hr1 rfl BM.m BM.kp BM.b .nil zal (aa (pv 2) (aa (au zaM (au zbX ag (pv 6)) (zap zan rfl T.len PySem.boot_len (aa (pv 5) ac))) ac))) ag) (au zaM ag (au zaL (pv 2) ag))) ac)))))))
  (aj (ax (pv 3))))),?_⟩
 refine⟨lS0,fun l hl=>?_⟩
 have s1:ar H (upd H l (.lst [])):=ak hl _
 have n1:=ad (H:=H) (a:=l) (o:=.lst [])
 generalize upd H l (.lst [])=H1 at s1 n1
 refine⟨_,rfl,tl,rfl,⟨_,SqL.of (s1 _ _ hT)⟩,zbO za5 (fun i σ H'=>∃(v4 v5 v6 v7:Option V),σ=[some (.ref tl),some (.ref nl),some (.int c),some (.ref l),v4,v5,v6,v7]∧ar H H'∧H' l=some (.lst ((za8 (vF zs c) [] (T'.take i)).map V.int)))
  (fun i σ H' ⟨_,_,_,_,_,s2,_⟩=>SqL.of (s2 _ _ hT)) ⟨none,none,none,none,rfl,s1,n1⟩ ?_ ?_⟩
 ·rintro i σ H9 x H2 hi ⟨v4,v5,v6,v7,rfl,s2,hl2⟩ ⟨rfl,hx⟩
  obtain⟨t,p,pq,ht,rfl,hp2,hpq2⟩:=tm_get (hL.keep s2.kt (zbU _)) (hx _ (SqL.of (s2 _ _ hT)))
  have tin:=hz t (List.mem_of_getElem? ht)
  have wt:=hW i t.1 t.2 ht
  have il:i < T'.length:=(List.getElem?_eq_some_iff.mp ht).1
  have ul:(za8 (vF zs c) [] (T'.take i)).length=i:=by
   rw[zeR,List.length_take]
   simp
   omega
  generalize hus:za8 (vF zs c) [] (T'.take i)=us at hl2 ul
  refine⟨p,_,rfl,hp2,rfl,_,_,rfl,_,_,rfl,rfl,_,rfl,.inl ⟨rfl,_,SqL.of (s2 _ _ hN)⟩,_,rfl,nl,_,zs.map Dt.str,_,.str t.1,zs.idxOf t.1,rfl,rfl,s2 _ _ hN,zdg zs,Has.str',(by rw[zdi];decide),⟨_,zfa tin,zbw _⟩,(fun m dm h e=>ze9 h e),_,_,rfl,rfl,?_⟩
  refine⟨_,rfl,pq,rfl,⟨_,hpq2⟩,zbO zd7 (fun k σ H'=>∃(v7:Option V),σ=[some (.ref tl),some (.ref nl),some (.int c),some (.ref l),some (.str t.1),some (.ref pq),some (.int (zfn (((zs.idxOf t.1:Nat):Int)+1) ((t.2.take k).map (vAt us)))),v7]∧H'=H2)
   (fun k σ H' ⟨_,_,e⟩=>by rw[e];exact hpq2) ⟨v7,rfl,rfl⟩ ?_ ?_⟩
  ·rintro k σ H8 x H3 hk ⟨w7,rfl,e⟩ ⟨rfl,hxk⟩
   subst e
   obtain⟨n,hn,rfl⟩:=zi6 (hxk _ hpq2)
   have nb:=wt n (List.mem_of_getElem? hn)
   refine⟨_,rfl,_,_,rfl,rfl,.inl ⟨by decide,by decide⟩,_,rfl,_,rfl,l,_,_,_,rfl,rfl,SqL.of hl2,zhr nb.1 (by omega),_,_,rfl,rfl,_,_,rfl,rfl,some (.int n),?_,rfl⟩
   rw[zaW hn,List.map_append]
   show _=[some (V.ref tl),some (V.ref nl),some (V.int c),some (V.ref l),some (V.str t.1),some (V.ref pq),some (V.int (zfn (((zs.idxOf t.1:Nat):Int)+1) ((t.2.take k).map (vAt us)++[vAt us n]))),some (V.int n)]
   rw[zhc]
   rfl
  ·rintro σ H3 ⟨w7,rfl,e⟩
   subst e
   rw[List.length_map,List.take_of_length_le (Nat.le_refl _)]
   have b3:=F75.modB c (show(0:Int) < 3 by decide)
   refine⟨_,rfl,.inl ⟨rfl,_,SqL.of hl2⟩,_,rfl,_,rfl,_,_,rfl,rfl,.inl ⟨by decide,by decide⟩,_,rfl,pq,_,rfl,.inr hpq2,_,_,rfl,rfl,_,_,rfl,_,_,rfl,rfl,⟨by decide,by decide⟩,_,rfl,_,_,rfl,rfl,(by show(0:Int) < 3;decide),_,_,rfl,rfl,_,_,rfl,rfl,(by show(0:Int) < 2+c % 3;omega),l,_,_,rfl,rfl,hl2,zbS (by rw[List.length_map];omega),_,_,_,_,rfl,s2.upd hl,?_⟩
   rw[ad,zjs _ ht,hus,List.map_append]
   show some (HO.lst (us.map V.int++[_]))=some (HO.lst (us.map V.int++[V.int (vF zs c t.1 (t.2.map (vAt us)))]))
   unfold vF
   rw[List.length_map,List.length_map]
 ·rintro σ H2 ⟨v4,v5,v6,v7,rfl,s2,hl2⟩
  rw[xl,List.take_length]at hl2
  exact⟨_,rfl,q H2 l s2 hl hl2⟩
end
end K75
namespace K75
open PySem L2
open F75 (Tr Fm dTr zaE dFm FOk fdp zaG zcz)
theorem kN {a b:Str} {A B:Prop} (h:¬a=b) (q:B):if decide (V.str a=V.str b)=true then A else B :=
 aI (fun c=>absurd (by have:=of_decide_eq_true c;injection this) h) (fun _=>q)
theorem kY {a:Str} {A B:Prop} (q:A):if decide (V.str a=V.str a)=true then A else B :=
 aI (fun _=>q) (fun c=>absurd (decide_eq_true rfl) c)
theorem decS (x y:Str):decide (V.str x=V.str y)=decide (x=y):=decide_eq_decide.mpr ⟨fun z=>by injection z,fun z=>by rw[z]⟩
theorem zfo (x y:Int):decide (V.int x=V.int y)=decide (x=y):=decide_eq_decide.mpr ⟨fun z=>by injection z,fun z=>by rw[z]⟩
theorem decB (x y:Bool):decide (V.bl x=V.bl y)=(x == y):=by cases x <;> cases y <;> rfl
structure FW (zs:List Str) (g:Fm):Prop where
 w:∀ z∈wFm g,z∈zs
 p:∀ z∈plF g,z∈zs
 l:LFm g
section
variable {P:Program} {w:World} {K:W.Frag} {mg:Str→Option Value} {base:Heap} {aK aO C CN CT CP CM:Addr} {f fM fV:Addr} {fd dM dV:FuncData}
def zgg (K:W.Frag) (n:Nat):Sp:=fun vs H Q _=>∃(v:V) (nl:Addr) (c:Int) (g:Fm) (zs:List Str),vs=[v,.ref nl,.int c]∧Has K H (dFm g) v∧H nl=some (.lst (zs.map V.str))∧FOk g∧fdp g≤n∧FW zs g∧∀ H',ar H H'→Q (.bl (hFm (vF zs c) (pF zs c) g)) H'
theorem zb1:zae ["_law_formula","_law_names_here","_law_cell","_law_kind","_law_values_here","_law_one","_law_other"] ["_law_formula","_law_names_here","_law_cell"] (ao zcZ):=⟨rfl,rfl,rfl,by decide +kernel,rfl,by decide +kernel,by decide +kernel⟩
set_option maxHeartbeats 2000000 in
theorem ziY (F:Fun K "_law_holds" "_law_holds" zcZ f fd) (T:Txt K mg aK C CN CT CP CM) (mset:mg "set"=none) (b:av K fd ["_law_formula","_law_names_here","_law_cell"] []) (kp:W.keepIn K (.ref f)=true) (m:mg "_law_holds"=some (.ref f)) (BM:FB P w K mg base CX0 1 "_law_mixed" fM dM ["_law_cell","_law_k"] zcM) (BV:FB P w K mg base CX0 4 "_law_value" fV dV ["_law_tree_here","_law_names_here","_law_cell"] (zjO K 3)) :
  ∀ n,FnOk P w K mg base CX0 (n+4) f fd ["_law_formula","_law_names_here","_law_cell"] (zgg K n)
 | 0=>F75.FnOk.no fun _ _ _ _ ⟨_,_,_,g,_,_,_,_,_,h,_⟩=>by
  have:=F75.fdp_pos g
  omega
 | n+1=>by
  have IH:=ziY F T mset b kp m BM BV n
  refine F.ok zb1 (fun vs H Q E h=>?_) (fun cdv A outer s H vs Q E hr h=>?_)
  ·obtain⟨v,nl,c,g,zs,rfl,_⟩:=h
   rfl
  obtain⟨v,nl,c,g,zs,rfl,hv,hN,O,hd,W,q⟩:=h
  have hu:=zem hr
  have hr1:aE 1 _:=hr.mono (by omega)
  have hr4:aE 4 _:=hr.mono (by omega)
  obtain⟨p,xs,rfl,hp,hxs⟩:=F75.fm_at hv
  refine⟨_,(ae (aA (i:=3) zb1.nd rfl (Or.inl rfl) (aF zat (pv 0) ag (fun _ _=>rfl)))
  (ae (zao (PW.pt (zhp (aw zav (pv 3) zab (ay _)) (zfR (aw zav (pv 3) zab (ay _)))))
   (aj (ax (zbb zav (pv 3) zab (ay _))))
   zad)
  (ae (zao (aw zav (pv 3) zab (ay _))
   (aj (ax (zbb zav (au zaL (au zbh (zaa BM.ok hr1 rfl BM.m BM.kp BM.b .nil zal (aa (pv 2) (aa (zbB PySem.F.plainAttrs_list PySem.F.slot_list_index PySem.F.type_list_index (zcR hu) (pv 1) (aa (aF zat (pv 0) ag (fun _ _=>rfl)) ac)) ac))) ag) ag) ag (ay _))))
   zad)
  (ae (zao (aw zav (pv 3) zab (ay _))
   (aj (ax (zbb zav (zaa BV.ok hr4 rfl BV.m BV.kp BV.b .nil zal (aa (aF zat (pv 0) ag (fun _ _=>rfl)) (aa (pv 1) (aa (pv 2) ac)))) (zaa BV.ok hr4 rfl BV.m BV.kp BV.b .nil zal (aa (aF zat (pv 0) ag (fun _ _=>rfl)) (aa (pv 1) (aa (pv 2) ac)))) (ay _))))
   zad)
  (ae (zao (aw zav (pv 3) zab (ay _))
   (ae (zfD (i:=4) (N':=["_law_tree_here","_law_names_here","_law_cell"]) (ix:=[1,2]) zb1.nd rfl (Or.inl rfl) rfl rfl (by decide +kernel) (by decide +kernel) rfl (fun ok=>zbY (sc:=ao zcZ) ok rfl (by decide +kernel) (by decide +kernel)) (by decide +kernel) rfl rfl (fun j i h=>match j,h with | 0,h=>by cases h;exact⟨_,rfl,rfl,.inl rfl,.inl rfl⟩ | 1,h=>by cases h;exact⟨_,rfl,rfl,.inl rfl,.inl rfl⟩ | n+2,h=>by simp at h) (zec (aF zat (pv 0) ag (fun _ _=>rfl))) (fun _ _ _ _=>(zaa BV.ok hr4 rfl BV.m BV.kp BV.b .nil zal (aa (pv 0) (aa (pv 1) (aa (pv 2) ac))))))
    (aj (ax (zbb zav (zap zgM rfl T.len PySem.boot_len (aa (zbD (ziH rfl) rfl mset PyProof.Rows.boot_set (aa (pv 4) ac)) ac)) (zap zan rfl T.len PySem.boot_len (aa (pv 4) ac)) (ay _)))))
   zad)
  (ae (aA (i:=5) zb1.nd rfl (Or.inl rfl) (zaa IH hr rfl m kp b .nil zal (aa (aF zat (pv 0) ag (fun _ _=>rfl)) (aa (pv 1) (aa (pv 2) ac)))))
  (ae (zao (aw zav (pv 3) zab (ay _))
   (aj (ax (zj5 (pv 5))))
   zad)
  (ae (aA (i:=6) zb1.nd rfl (Or.inl rfl) (zaa IH hr rfl m kp b .nil zal (aa (aF zat (pv 0) ag (fun _ _=>rfl)) (aa (pv 1) (aa (pv 2) ac)))))
  (ae (zao (aw zav (pv 3) zab (ay _))
   (aj (ax (zfU (pv 5) (zeK (pv 6)))))
   zad)
  (ae (zao (aw zav (pv 3) zab (ay _))
   (aj (ax (pe_or (pv 5) (zeK (pv 6)))))
   zad)
  (ae (zao (aw zav (pv 3) zab (ay _))
   (aj (ax (pe_or (pv 6) (zeK (zj5 (pv 5))))))
   zad)
  (aj (ax (zbb zav (pv 5) (pv 6) (ay _))))))))))))))),?_⟩
  have at0:atI (V.str (F75.hdF g) :: xs) 0=some (.str (F75.hdF g)):=zah (j:=0) rfl
  refine⟨_,rfl,p,_,_,_,rfl,rfl,hp,at0,_,rfl,rfl,_,rfl,?_⟩
  cases g with
  | bare z =>
   rcases O with rfl | rfl
   ·exact kY ⟨_,rfl,rfl,by rw[decS];exact q H (ar.refl _)⟩
   ·exact kN (show ¬("never":Str)="always" by decide +kernel) ⟨_,rfl,rfl,_,rfl,kY ⟨_,rfl,rfl,by rw[decS];exact q H (ar.refl _)⟩⟩
  | plain z =>
   simp only[F75.tlF,HasL,Has]at hxs
   obtain⟨_,_,rfl,rfl,rfl⟩:=hxs
   have at1:atI [V.str (F75.hdF (.plain z)),V.str z] 1=some (.str z):=zah (j:=1) rfl
   have hz:z∈zs:=W.p z (by simp [plF])
   refine kN (show ¬("plain":Str)="always" by decide +kernel) ⟨_,rfl,rfl,_,rfl,kN (show ¬("plain":Str)="never" by decide +kernel) ⟨_,rfl,rfl,_,rfl,kY ?_⟩⟩
   refine⟨_,rfl,_,rfl,.inl ⟨rfl,_,SqL.of hN⟩,_,rfl,p,_,_,_,rfl,rfl,hp,at1,nl,_,zs.map Dt.str,_,.str z,zs.idxOf z,rfl,rfl,hN,zdg zs,Has.str',(by rw[zdi];decide),⟨_,zfa hz,zbw _⟩,(fun m dm h e=>ze9 h e),_,_,rfl,_,_,rfl,rfl,⟨by decide,by decide⟩,_,_,rfl,rfl,(by show(0:Int) < 2;decide),rfl,?_⟩
   rw[zfo]
   exact q H (ar.refl _)
  | same a b' =>
   simp only[F75.tlF,HasL]at hxs
   obtain⟨x1,_,rfl,h1,x2,_,rfl,h2,rfl⟩:=hxs
   have at1:atI [V.str (F75.hdF (.same a b')),x1,x2] 1=some x1:=zah (j:=1) rfl
   have at2:atI [V.str (F75.hdF (.same a b')),x1,x2] 2=some x2:=zah (j:=2) rfl
   refine kN (show ¬("same":Str)="always" by decide +kernel) ⟨_,rfl,rfl,_,rfl,kN (show ¬("same":Str)="never" by decide +kernel) ⟨_,rfl,rfl,_,rfl,kN (show ¬("same":Str)="plain" by decide +kernel) ⟨_,rfl,rfl,_,rfl,kY ?_⟩⟩⟩
   refine⟨_,rfl,p,_,_,_,rfl,rfl,hp,at1,_,rfl,_,rfl,x1,nl,c,a,zs,rfl,h1,hN,O.1,fun z hz=>W.w z (by simp [wFm,hz]),_,rfl,p,_,_,_,rfl,rfl,hp,at2,_,rfl,_,rfl,x2,nl,c,b',zs,rfl,h2,hN,O.2,fun z hz=>W.w z (by simp [wFm,hz]),rfl,?_⟩
   rw[zfo]
   exact q H (ar.refl _)
  | unlike ts =>
   simp only[F75.tlF,HasL,Has]at hxs
   obtain⟨_,_,rfl,⟨pq,ys,rfl,hpq,hys⟩,rfl⟩:=hxs
   have at1:atI [V.str (F75.hdF (.unlike ts)),V.ref pq] 1=some (.ref pq):=zah (j:=1) rfl
   have yl:ys.length=ts.length:=by rw[←hys.length,F75.dTrs_length]
   have l5:=W.l.2.2
   refine kN (show ¬("unlike":Str)="always" by decide +kernel) ⟨_,rfl,rfl,_,rfl,kN (show ¬("unlike":Str)="never" by decide +kernel) ⟨_,rfl,rfl,_,rfl,kN (show ¬("unlike":Str)="plain" by decide +kernel) ⟨_,rfl,rfl,_,rfl,kN (show ¬("unlike":Str)="same" by decide +kernel) ⟨_,rfl,rfl,_,rfl,kY ?_⟩⟩⟩⟩
   refine⟨_,rfl,p,_,_,_,rfl,rfl,hp,at1,pq,rfl,⟨_,hpq⟩,fun D hD=>?_⟩
   refine zep zd7 (fun i us H'=>ar H H'∧us=(zbL (vF zs c) (ts.take i)).map V.int) (fun i us H' ⟨s1,_⟩=>s1.kt.sq hpq) ⟨ak hD _,rfl⟩ ?_ ?_
   ·rintro i us H8 x H4 hi hly hDs ⟨s4,rfl⟩ ⟨rfl,hx⟩
    obtain⟨u,hu',hxu⟩:=F75.trs_get (hys.keep s4.kt (F75.nols_dTrs _)) (hx _ (s4.kt.sq hpq))
    have um:=List.mem_of_getElem? hu'
    refine⟨_,rfl,_,rfl,_,rfl,x,nl,c,u,zs,rfl,hxu,s4 _ _ hN,O u um,fun z hz=>W.w z (by simp only[wFm];exact zfw um hz),?_⟩
    refine zbQ (sz _ (by omega)) hi hly hDs ⟨s4.upd hD,?_⟩
    rw[zgS _ hu',List.map_append]
    rfl
   ·rintro us H4 hDs ⟨s4,rfl⟩
    rw[yl,List.take_length]at hDs
    have vl:=zhQ (vF zs c) ts
    have sl:=zjv (zbL (vF zs c) ts)
    have sle:(zdd (zbL (vF zs c) ts)).2≤1000:=by
     have:=L2.addS_le (zbL (vF zs c) ts) (fun _=>false,0)
     have e:zdd (zbL (vF zs c) ts)=(zbL (vF zs c) ts).foldl L2.addS (fun _=>false,0):=rfl
     rw[←e]at this
     simp only at this
     omega
    refine⟨_,rfl,D,_,rfl,SqL.of hDs,by omega,fun a ha=>⟨a,_,_,rfl,ad,sle,_,rfl,D,_,rfl,.inl (SqL.of ((ak ha _) _ _ hDs)),rfl,?_⟩⟩
    rw[zfo,List.length_map]
    have e:decide (((zdd (zbL (vF zs c) ts)).2:Int)=((zbL (vF zs c) ts).length:Int))=hFm (vF zs c) (pF zs c) (.unlike ts):=by
     simp only[hFm]
     rw[decide_eq_decide]
     constructor
     ·intro h;exact sl.mp (by omega)
     ·intro h;have:=sl.mpr h;omega
    rw[e]
    exact q _ (s4.trans (ak ha _))
  | not g =>
   simp only[F75.tlF,HasL]at hxs
   obtain⟨x1,_,rfl,h1,rfl⟩:=hxs
   have at1:atI [V.str (F75.hdF (.not g)),x1] 1=some x1:=zah (j:=1) rfl
   simp only[fdp]at hd
   refine kN (show ¬("not":Str)="always" by decide +kernel) ⟨_,rfl,rfl,_,rfl,kN (show ¬("not":Str)="never" by decide +kernel) ⟨_,rfl,rfl,_,rfl,kN (show ¬("not":Str)="plain" by decide +kernel) ⟨_,rfl,rfl,_,rfl,kN (show ¬("not":Str)="same" by decide +kernel) ⟨_,rfl,rfl,_,rfl,kN (show ¬("not":Str)="unlike" by decide +kernel) ?_⟩⟩⟩⟩
   refine⟨_,rfl,p,_,_,_,rfl,rfl,hp,at1,_,rfl,_,rfl,x1,nl,c,g,zs,rfl,h1,hN,O,by omega,⟨W.w,W.p,W.l⟩,fun H1 s1=>?_⟩
   exact⟨_,rfl,rfl,_,rfl,kY ⟨_,rfl,_,rfl,q H1 s1⟩⟩
  | bin k g g' =>
   simp only[F75.tlF,HasL]at hxs
   obtain⟨x1,_,rfl,h1,x2,_,rfl,h2,rfl⟩:=hxs
   have at1:atI [V.str (F75.hdF (.bin k g g')),x1,x2] 1=some x1:=zah (j:=1) rfl
   have at2:atI [V.str (F75.hdF (.bin k g g')),x1,x2] 2=some x2:=zah (j:=2) rfl
   simp only[fdp]at hd
   obtain⟨ok,o1,o2⟩:=O
   have W1:FW zs g:=⟨fun z hz=>W.w z (by simp [wFm,hz]),fun z hz=>W.p z (by simp [plF,hz]),W.l.1⟩
   have W2:FW zs g':=⟨fun z hz=>W.w z (by simp [wFm,hz]),fun z hz=>W.p z (by simp [plF,hz]),W.l.2⟩
   have ne:∀ y:Str,¬("and":Str)=y→¬("or":Str)=y→¬("then":Str)=y→¬("as":Str)=y→¬k=y:=fun y a1 a2 a3 a4 e=>by
    rcases ok with h | h | h | h <;> (rw[h]at e;first | exact a1 e | exact a2 e | exact a3 e | exact a4 e)
   refine kN (ne "always" (by decide +kernel) (by decide +kernel) (by decide +kernel) (by decide +kernel)) ⟨_,rfl,rfl,_,rfl,kN (ne "never" (by decide +kernel) (by decide +kernel) (by decide +kernel) (by decide +kernel)) ⟨_,rfl,rfl,_,rfl,kN (ne "plain" (by decide +kernel) (by decide +kernel) (by decide +kernel) (by decide +kernel)) ⟨_,rfl,rfl,_,rfl,kN (ne "same" (by decide +kernel) (by decide +kernel) (by decide +kernel) (by decide +kernel)) ⟨_,rfl,rfl,_,rfl,kN (ne "unlike" (by decide +kernel) (by decide +kernel) (by decide +kernel) (by decide +kernel)) ?_⟩⟩⟩⟩
   refine⟨_,rfl,p,_,_,_,rfl,rfl,hp,at1,_,rfl,_,rfl,x1,nl,c,g,zs,rfl,h1,hN,o1,by omega,W1,fun H1 s1=>?_⟩
   refine⟨_,rfl,rfl,_,rfl,kN (ne "not" (by decide +kernel) (by decide +kernel) (by decide +kernel) (by decide +kernel)) ?_⟩
   refine⟨_,rfl,p,_,_,_,rfl,rfl,s1.kt.sq hp,at2,_,rfl,_,rfl,x2,nl,c,g',zs,rfl,h2.keep s1.kt (F75.nol_dFm _),s1 _ _ hN,o2,by omega,W2,fun H2 s2=>?_⟩
   have q2:=q H2 (s1.trans s2)
   simp only[hFm]at q2
   generalize hFm (vF zs c) (pF zs c) g=b1 at q2
   generalize hFm (vF zs c) (pF zs c) g'=b2 at q2
   refine⟨_,rfl,rfl,_,rfl,?_⟩
   rcases ok with rfl | rfl | rfl | rfl
   ·rw[if_pos rfl]at q2
    refine kY ⟨_,rfl,_,rfl,?_⟩
    cases b1
    ·exact zbM q2
    ·exact aI (fun _=>⟨_,rfl,q2⟩) (fun c=>absurd rfl c)
   ·rw[if_neg (show ¬("or":Str)="and" by decide +kernel),if_pos rfl]at q2
    refine kN (show ¬("or":Str)="and" by decide +kernel) ⟨_,rfl,rfl,_,rfl,kY ⟨_,rfl,_,rfl,?_⟩⟩
    cases b1
    ·exact zbM ⟨_,rfl,q2⟩
    ·exact aI (fun _=>q2) (fun c=>absurd rfl c)
   ·rw[if_neg (show ¬("then":Str)="and" by decide +kernel),if_neg (show ¬("then":Str)="or" by decide +kernel),if_pos rfl]at q2
    refine kN (show ¬("then":Str)="and" by decide +kernel) ⟨_,rfl,rfl,_,rfl,kN (show ¬("then":Str)="or" by decide +kernel) ⟨_,rfl,rfl,_,rfl,kY ⟨_,rfl,_,rfl,?_⟩⟩⟩
    cases b2
    ·exact zbM ⟨_,rfl,_,rfl,q2⟩
    ·exact aI (fun _=>q2) (fun c=>absurd rfl c)
   ·rw[if_neg (show ¬("as":Str)="and" by decide +kernel),if_neg (show ¬("as":Str)="or" by decide +kernel),if_neg (show ¬("as":Str)="then" by decide +kernel)]at q2
    refine kN (show ¬("as":Str)="and" by decide +kernel) ⟨_,rfl,rfl,_,rfl,kN (show ¬("as":Str)="or" by decide +kernel) ⟨_,rfl,rfl,_,rfl,kN (show ¬("as":Str)="then" by decide +kernel) ⟨_,rfl,_,rfl,rfl,?_⟩⟩⟩
    rw[decB]
    exact q2
def zjQ (K:W.Frag) (n:Nat):Sp:=fun vs H Q _=>∃(v:V) (g:Fm),vs=[v]∧Has K H (dFm g) v∧FOk g∧fdp g≤n∧(plF g).length≤100000∧∀(H':Hp) (l:Addr),ar H H'→H l=none→H' l=some (.lst ((plF g).map V.str))→Q (.ref l) H'
theorem zbV:zae ["_law_formula","_law_found","_law_inner"] ["_law_formula"] (ao zc0):=⟨rfl,rfl,rfl,by decide +kernel,rfl,by decide +kernel,by decide +kernel⟩
def zlY:List V:=(["same","unlike","always","never"]:List Str).map V.str
theorem ziA:zlY.all zcw=true:=by decide +kernel
set_option maxHeartbeats 1000000 in
theorem zj8 (F:Fun K "_law_plain_in" "_law_plain_in" zc0 f fd) (b:av K fd ["_law_formula"] []) (kp:W.keepIn K (.ref f)=true) (m:mg "_law_plain_in"=some (.ref f)) :
  ∀ n,FnOk P w K mg base CX0 (n+1) f fd ["_law_formula"] (zjQ K n)
 | 0=>F75.FnOk.no fun _ _ _ _ ⟨_,g,_,_,_,h,_⟩=>by
  have:=F75.fdp_pos g
  omega
 | n+1=>by
  have IH:=zj8 F b kp m n
  refine F.ok zbV (fun vs H Q E h=>?_) (fun cdv A outer s H vs Q E hr h=>?_)
  ·obtain⟨v,g,rfl,_⟩:=h
   rfl
  obtain⟨v,g,rfl,hv,O,hd,big,q⟩:=h
  obtain⟨p,xs,rfl,hp,hxs⟩:=F75.fm_at hv
  refine⟨_,(ae (zao (aw zav (aF zat (pv 0) ag (fun _ _=>rfl)) zab (ay _))
   (aj (ax (zam (aa (aF zat (pv 0) ag (fun _ _=>rfl)) ac))))
   zad)
  (ae (zao (aw zeY (aF zat (pv 0) ag (fun _ _=>rfl)) (zaD (aa zab (aa zab (aa zab (aa zab ac))))) rfl)
   (aj (ax (zam ac)))
   zad)
  (ae (aA (i:=1) zbV.nd rfl (Or.inl rfl) (zam ac))
  (ae (zaZ PassesOwn.never rfl (zec (zbG zht (pv 0) (zb4 ag) zb5)) (zay (i:=2) zbV.nd rfl (Or.inl rfl))
   (aj (aA (i:=1) zbV.nd rfl (Or.inl rfl) (au zcW (pv 1) (zaa IH hr rfl m kp b .nil zal (aa (pv 2) ac))))))
  (aj (ax (pv 1))))))),?_⟩
  have at0:atI (V.str (F75.hdF g) :: xs) 0=some (.str (F75.hdF g)):=zah (j:=0) rfl
  refine⟨_,rfl,p,_,_,_,rfl,rfl,hp,at0,rfl,_,rfl,aI (fun c=>?_) (fun c=>?_)⟩
  ·have e:F75.hdF g="plain":=by
    have:=of_decide_eq_true c
    injection this
   obtain⟨z,rfl⟩:=F75.hd_plain O e
   simp only[F75.tlF,HasL,Has]at hxs
   obtain⟨_,_,rfl,rfl,rfl⟩:=hxs
   have at1:atI [V.str (F75.hdF (.plain z)),V.str z] 1=some (.str z):=zah (j:=1) rfl
   exact⟨_,rfl,p,_,_,_,rfl,rfl,hp,at1,lS1,fun l hl=>q _ l (ak hl _) hl ad⟩
  have np:F75.hdF g≠"plain":=fun e=>c (by rw[e];exact decide_eq_true rfl)
  refine⟨_,rfl,p,_,_,_,rfl,rfl,hp,at0,lS4,fun t ht=>?_⟩
  have s1:=ak ht (.tup [V.str "same",V.str "unlike",V.str "always",V.str "never"])
  have n1:=ad (H:=H) (a:=t) (o:=.tup [V.str "same",V.str "unlike",V.str "always",V.str "never"])
  refine⟨t,_,rfl,.inr (SqT.of n1),rfl,ziA,_,rfl,?_⟩
  generalize upd H t (.tup [V.str "same",V.str "unlike",V.str "always",V.str "never"])=H1 at s1 n1
  refine aI (fun d=>?_) (fun d=>?_)
  ·have e:F75.hdF g∈(["same","unlike","always","never"]:List Str):=F75.inV_strs.mp d
   have e0:plF g=[]:=by
    cases g with
    | plain z=>exact absurd rfl np
    | not g=>exact absurd e (by simp only[F75.hdF];decide +kernel)
    | bin k g g'=>rcases O.1 with rfl | rfl | rfl | rfl <;> exact absurd e (by simp only[F75.hdF];decide +kernel)
    | _=>rfl
   rw[e0]at q
   exact⟨lS0,fun l hl=>q _ l (s1.trans (ak hl _)) (s1.free hl) ad⟩
  have nin:F75.hdF g∉(["same","unlike","always","never"]:List Str):=fun e=>d (F75.inV_strs.mpr e)
  have ef:plF g=zaz (zaG g)∧F75.tlF g=(zaG g).map dFm∧1≤(zaG g).length:=by
   cases g with
   | plain z=>exact absurd rfl np
   | bare z=>rcases O with rfl | rfl <;> exact absurd (by simp [F75.hdF]) nin
   | same a b=>exact absurd (by simp [F75.hdF]) nin
   | unlike ts=>exact absurd (by simp [F75.hdF]) nin
   | not g=>exact⟨by simp [plF,zaz,zaG],rfl,by simp [zaG]⟩
   | bin k g g'=>exact⟨by simp [plF,zaz,zaG],rfl,by simp [zaG]⟩
  rw[ef.2.1]at hxs
  have xl:xs.length=(zaG g).length:=by rw[←hxs.length,List.length_map]
  refine⟨lS0,fun l0 hl0=>?_⟩
  have s2:=ak hl0 (.lst [])
  have n2:=ad (H:=H1) (a:=l0) (o:=.lst [])
  generalize upd H1 l0 (.lst [])=H2 at s2 n2
  have s02:=s1.trans s2
  refine⟨_,rfl,_,rfl,p,_,rfl,s02.kt.sq hp,(fun h=>absurd h.1 (show ¬(1:Nat)=0 by decide)),fun p1 hp1=>?_⟩
  have ec:zbz (V.str (F75.hdF g) :: xs) (some 1) none=xs:=by
   unfold zbz
   rw[HT.sIx_none,show(1:Int)=((1:Nat):Int) from rfl,HT.sIx_nat]
   simp
  rw[ec]
  have s3:=ak hp1 (.tup xs)
  have n3:=ad (H:=H2) (a:=p1) (o:=.tup xs)
  generalize upd H2 p1 (.tup xs)=H3 at s3 n3
  have s03:=s02.trans s3
  refine⟨p1,rfl,⟨_,SqT.of n3⟩,zbO zd7 (fun i σ H'=>∃(l:Addr) (v2:Option V),σ=[some (.ref p),some (.ref l),v2]∧ar H3 H'∧H l=none∧H' l=some (.lst ((zaz ((zaG g).take i)).map V.str))) (fun i σ H' ⟨_,_,_,s',_⟩=>s'.kt.sq (SqT.of n3)) ⟨l0,none,rfl,ar.refl _,s1.free hl0,s3 _ _ n2⟩ ?_ ?_⟩
  ·rintro i σ H4 x H5 hi ⟨l,v2,rfl,s4,nl,hl⟩ ⟨rfl,hy⟩
   obtain⟨u,hu',hxu⟩:=F75.fms_get (hxs.keep (s03.trans s4).kt (F75.nols_fms _)) (hy _ (s4.kt.sq (SqT.of n3)))
   have um:=List.mem_of_getElem? hu'
   have pl:=zgn (zaG g) (i+1)
   rw[zcQ hu',List.length_append,←ef.1]at pl
   refine⟨_,rfl,_,rfl,x,u,rfl,hxu,zhI um O,by have:=zhJ um;omega,by omega,fun H6 l6 s6 n6 h6=>?_⟩
   refine⟨l,l6,_,_,rfl,rfl,s6 _ _ hl,h6,szB (by rw[List.length_map,List.length_map];omega),fun t9 ht9=>?_⟩
   refine⟨t9,_,rfl,(s4.trans s6).trans (ak ht9 _),(s03.trans (s4.trans s6)).free ht9,?_⟩
   rw[zcQ hu',List.map_append,ad]
  ·rintro σ H4 ⟨l,v2,rfl,s4,nl,hl⟩
   rw[xl,List.take_length,←ef.1]at hl
   exact⟨_,rfl,q _ l (s03.trans s4) nl hl⟩
end
end K75
namespace K75
open PySem L2
open F75 (Tr Fm dTr zaE dFm FOk fdp zaG zcz)
def zbE (A:List At) (n:Nat):Prop:=∀ a b,At.same a b∈A→(0≤a∧a < (n:Int))∧0≤b∧b < (n:Int)
theorem zbE.mono {A:List At} {n m:Nat} (h:zbE A n) (l:n≤m):zbE A m:=fun a b z=>by have:=h a b z;omega
theorem zbE.put {A:List At} {n:Nat} {x:At} (h:zbE A n) (hx:∀ a b,x=.same a b→(0≤a∧a < (n:Int))∧0≤b∧b < (n:Int)):zbE (A++[x]) n:=fun a b z=>by
 rcases List.mem_append.mp z with z | z
 ·exact h a b z
 ·exact hx a b (List.mem_singleton.mp z).symm
theorem zg6 {A:List At} {z:Str} {x:List At × Nat} {n:Nat} (h:zbC A z=.ok x) (s:zbE A n):zbE x.1 n:=by
 unfold zbC at h
 split at h
 ·cases h
 ·split at h
  ·cases h;exact s
  ·split at h
   ·cases h
   ·cases h;exact s.put fun a b e=>by cases e
theorem zh9 {A:List At} {a b:Int} {x:List At × Nat} {n:Nat} (h:zbx A a b=.ok x) (s:zbE A n) (ha:0≤a∧a < (n:Int)) (hb:0≤b∧b < (n:Int)):zbE x.1 n:=by
 unfold zbx at h
 split at h
 ·cases h;exact s
 ·split at h
  ·cases h;exact s
  ·split at h
   ·cases h
   ·cases h;exact s.put fun c d e=>by cases e;exact⟨ha,hb⟩
theorem zi2 {a:Int} {n:Nat} (ha:0≤a∧a < (n:Int)):∀ {bs:List Int} {A:List At} {x:List At × List Int},za1 A a bs=.ok x→zbE A n→(∀ b∈bs,0≤b∧b < (n:Int))→zbE x.1 n
 | [],A,x,h,s,hb=>by
  simp only[za1]at h
  cases h
  exact s
 | b :: bs,A,x,h,s,hb=>by
  simp only[za1]at h
  obtain⟨y,e1,e2⟩:=Rl.bind_ok h
  obtain⟨z,e3,e4⟩:=Rl.bind_ok e2
  cases e4
  have r:=zi2 ha e3 (zh9 e1 s ha (hb b (by simp))) fun c hc=>hb c (List.mem_cons_of_mem _ hc)
  exact r
theorem zg4 {n:Nat}:∀ {as:List Int} {A:List At} {x:List At × List Int},zaF A as=.ok x→zbE A n→(∀ b∈as,0≤b∧b < (n:Int))→zbE x.1 n
 | [],A,x,h,s,hb=>by
  simp only[zaF]at h
  cases h
  exact s
 | a :: as,A,x,h,s,hb=>by
  simp only[zaF]at h
  obtain⟨y,e1,e2⟩:=Rl.bind_ok h
  obtain⟨z,e3,e4⟩:=Rl.bind_ok e2
  cases e4
  have hb':∀ b∈as,0≤b∧b < (n:Int):=fun c hc=>hb c (List.mem_cons_of_mem _ hc)
  have r:=zg4 e3 (zi2 (hb a (by simp)) e1 s hb') hb'
  exact r
theorem zgt {S:List Str} {st:St} {x:St × Nat} {n:Nat} (h:zcp S st=.ok x) (s:zbE st.A n):zbE x.1.A n:=by
 unfold zcp at h
 obtain⟨y,e1,e⟩:=Rl.bind_ok h
 cases e
 exact zg6 e1 s
theorem zex {S:List Str}:∀(f:Fm) {st:St} {x:St × Int},zaj S st f=.ok x→zbE st.A st.T.length→zbE x.1.A x.1.T.length
 | .plain z,st,x,h,s=>by
  simp only[zaj]at h
  obtain⟨y,e1,e2⟩:=Rl.bind_ok h
  cases e2
  exact zg6 e1 s
 | .bare z,st,x,h,s=>by
  simp only[zaj,zco]at h
  obtain⟨y,e1,e2⟩:=Rl.bind_ok h
  obtain⟨R,e3,e4⟩:=Rl.bind_ok e2
  cases e4
  have e:=zdI e1
  dsimp only
  rw[e]
  exact zgt e1 s
 | .same a b,st,x,h,s=>by
  simp only[zaj]at h
  obtain⟨y,e1,e2⟩:=Rl.bind_ok h
  obtain⟨z,e3,e4⟩:=Rl.bind_ok e2
  cases e4
  obtain⟨p,k,_,_⟩:=zce _ e1
  have g:∀ j,j < 2→0≤y.2.getD j 0∧y.2.getD j 0 < (y.1.length:Int):=fun j hj=>by
   have l2:y.2.length=2:=by
    simp only[zaC]at e1
    obtain⟨u,_,e5⟩:=Rl.bind_ok e1
    obtain⟨u',e6,e7⟩:=Rl.bind_ok e5
    obtain⟨u3,_,e8⟩:=Rl.bind_ok e6
    obtain⟨u4,e9,e10⟩:=Rl.bind_ok e8
    cases e9
    cases e10
    cases e7
    rfl
   rw[List.getD_eq_getElem?_getD,List.getElem?_eq_getElem (by omega)]
   exact k _ (List.getElem_mem _)
  exact zh9 e3 (s.mono p.length_le) (g 0 (by decide)) (g 1 (by decide))
 | .unlike ts,st,x,h,s=>by
  simp only[zaj,zeH]at h
  obtain⟨y,e1,e2⟩:=Rl.bind_ok h
  obtain⟨z,e3,e4⟩:=Rl.bind_ok e2
  obtain⟨u,e5,e6⟩:=Rl.bind_ok e4
  obtain⟨R,e7,e8⟩:=Rl.bind_ok e6
  obtain⟨R',e9,e10⟩:=Rl.bind_ok e8
  cases e10
  obtain⟨p,k,_,_⟩:=zce _ e1
  have e:=zdI e5
  dsimp only at e ⊢
  rw[e]
  exact zgt e5 (zg4 e3 (s.mono p.length_le) k)
 | .not f,st,x,h,s=>by
  simp only[zaj]at h
  obtain⟨y,e1,e2⟩:=Rl.bind_ok h
  cases e2
  have r:=zex f e1 s
  exact r
 | .bin k f g,st,x,h,s=>by
  simp only[zaj,zco]at h
  obtain⟨y,e1,e2⟩:=Rl.bind_ok h
  obtain⟨z,e3,e4⟩:=Rl.bind_ok e2
  obtain⟨u,e5,e6⟩:=Rl.bind_ok e4
  obtain⟨R,e7,e8⟩:=Rl.bind_ok e6
  cases e8
  have e:=zdI e5
  dsimp only
  rw[e]
  exact zgt e5 (zex g e3 (zex f e1 s))
theorem zib {S:List Str}:∀(fs:List Fm) {st x:St},za2 S st fs=.ok x→zbE st.A st.T.length→zbE x.A x.T.length
 | [],st,x,h,s=>by
  simp only[za2]at h
  cases h
  exact s
 | f :: fs,st,x,h,s=>by
  simp only[za2]at h
  obtain⟨y,e1,e2⟩:=Rl.bind_ok h
  obtain⟨R,e3,e4⟩:=Rl.bind_ok e2
  exact zib fs e4 (zex f e1 s)
def oV:Option Bool→V
 | none=>.non
 | some b=>.bl b
def lo (L:List (Option Bool)):Nat→Option Bool:=fun i=>(L[i]?).getD none
def trA (pT:Str→Bool) (S:List Str) (vs:List Int):At→Option Bool
 | .same a b=>some (decide (vAt vs a=vAt vs b))
 | .plain z=>if z∈S then some (pT z) else none
theorem zj9 (x:Option Bool):decide (oV x=.non)=x.isNone:=by
 cases x with
 | none=>exact decide_eq_true rfl
 | some b=>exact decide_eq_false (by intro h;cases h)
theorem lo_at {L:List (Option Bool)} {k:Int} (h:zaf L.length k=false):atI (L.map oV) ((if k < 0 then -k else k) - 1)=some (oV (lo L (k.natAbs - 1))):=by
 have:=zac.mp h
 have e:(if k < 0 then -k else k) - 1=((k.natAbs - 1:Nat):Int):=by split <;> omega
 rw[e]
 refine zah ?_
 unfold lo
 rw[List.getElem?_map,List.getElem?_eq_getElem (by omega)]
 rfl
theorem zfb {K:W.Frag} {H:Hp} {R:List (List Int)} {xs:List V} {i:Nat} {x:V} (h:HasL K H (R.map dR) xs) (e:xs[i]?=some x):∃ r p,R[i]?=some r∧x=.ref p∧SqT K H p (r.map V.int):=by
 obtain⟨d,hd,hx⟩:=HasL.get h e
 rw[List.getElem?_map]at hd
 cases ht:R[i]? with
 | none=>rw[ht]at hd;cases hd
 | some r =>
  rw[ht]at hd
  cases hd
  unfold dR at hx
  simp only[Has]at hx
  obtain⟨p,us,rfl,hp,hus⟩:=hx
  exact⟨r,p,rfl,rfl,by rw[ze1 hus]at hp;exact hp⟩
theorem at_get {K:W.Frag} {H:Hp} {A:List At} {xs:List V} {i:Nat} {x:V} (h:HasL K H (A.map dA) xs) (e:xs[i]?=some x):∃ a,A[i]?=some a∧Has K H (dA a) x:=by
 obtain⟨d,hd,hx⟩:=HasL.get h e
 rw[List.getElem?_map]at hd
 cases ht:A[i]? with
 | none=>rw[ht]at hd;cases hd
 | some a =>
  rw[ht]at hd
  cases hd
  exact⟨a,rfl,hx⟩
theorem pt_lo {L:List (Option Bool)} {k:Int} {b:Bool} (h:lo L (k.natAbs - 1)=some b):pt (lo L) k=(b == decide (0 < k)):=by
 unfold pt
 rw[h]
 rfl
theorem pt_lo0 {L:List (Option Bool)} {k:Int} (h:lo L (k.natAbs - 1)=none):pt (lo L) k=false:=by
 unfold pt
 rw[h]
 rfl
theorem zkU (ws:List Str):(ws.map V.str).all zcw=true:=by
 rw[List.all_eq_true]
 intro x hx
 obtain⟨z,_,rfl⟩:=List.mem_map.mp hx
 rfl
section
variable {P:Program} {w:World} {K:W.Frag} {mg:Str→Option Value} {base:Heap} {aK aO C CN CT CP CM:Addr} {f fM fV:Addr} {fd dM dV:FuncData}
def zho (K:W.Frag):Sp:=fun vs H Q _=>∃(p l:Addr) (r:List Int) (L:List (Option Bool)),vs=[.ref p,.ref l]∧SqT K H p (r.map V.int)∧H l=some (.lst (L.map oV))∧(∀ k∈r,zaf L.length k=false)∧Q (.bl (zaA (lo L) r)) H
theorem zdq:zae ["_law_row","_law_truths_here","_law_part"] ["_law_row","_law_truths_here"] (ao zcH):=⟨rfl,rfl,rfl,by decide +kernel,rfl,by decide +kernel,by decide +kernel⟩
set_option maxHeartbeats 1000000 in
theorem ok_rh (F:Fun K "_law_row_holds" "_law_row_holds" zcH f fd) (T:Txt K mg aK C CN CT CP CM):FnOk P w K mg base CX0 1 f fd ["_law_row","_law_truths_here"] (zho K):=by
 refine F.ok zdq (fun vs H Q E h=>?_) (fun cdv A outer s H vs Q E hr h=>?_)
 ·obtain⟨p,l,r,L,rfl,_⟩:=h
  rfl
 obtain⟨p,l,r,L,rfl,hp,hl,np,q⟩:=h
 refine⟨_,(ae (zaZ PassesOwn.never rfl (zec (pv 0)) (zay (i:=2) zdq.nd rfl (Or.inl rfl))
   (aj (zao (PW.pt (zd8 (aw zlZ (aF zaN (pv 1) (au zcc (zap zeB rfl T.abs PyProof.Rows.Boot.abs (aa (pv 2) ac)) ag) (fun _ _=>rfl)) zhz (ay _)) (zef (aw zav (aF zaN (pv 1) (au zcc (zap zeB rfl T.abs PyProof.Rows.Boot.abs (aa (pv 2) ac)) ag) (fun _ _=>rfl)) (zbb zcU (pv 2) ag (ay _)) (ay _)))))
     (aj (ax zcT))
     zad)))
  (aj (ax zcT))),?_⟩
 refine⟨_,rfl,p,rfl,⟨_,hp⟩,zbO zd7 (fun i σ H'=>H'=H∧(∃ v2:Option V,σ=[some (.ref p),some (.ref l),v2])∧zaA (lo L) (r.take i)=false) (fun i σ H' ⟨e,_⟩=>by rw[e];exact hp) ⟨rfl,⟨none,rfl⟩,rfl⟩ ?_ ?_⟩
 ·rintro i σ H2 x H3 hi ⟨rfl,⟨v2,rfl⟩,no⟩ ⟨rfl,hx⟩
  obtain⟨k,hk,rfl⟩:=zi6 (hx _ hp)
  have km:=List.mem_of_getElem? hk
  have at':=lo_at (np k km)
  have tk:zaA (lo L) (r.take (i+1))=pt (lo L) k:=by
   unfold zaA at no ⊢
   rw[zaW hk,List.any_append,no]
   simp
  refine⟨_,rfl,_,rfl,_,rfl,_,_,rfl,rfl,l,_,_,_,rfl,rfl,SqL.of hl,at',rfl,_,rfl,?_⟩
  rw[zj9]
  cases e:lo L (k.natAbs - 1) with
  | none =>
   refine zbM (zbM ⟨rfl,⟨_,rfl⟩,?_⟩)
   rw[tk,pt_lo0 e]
  | some b =>
   refine zcq ⟨_,rfl,_,rfl,_,rfl,_,_,rfl,rfl,l,_,_,_,rfl,rfl,SqL.of hl,at',_,rfl,_,_,rfl,rfl,?_⟩
   rw[e]
   refine⟨rfl,_,rfl,?_⟩
   have ep:decide (oV (some b)=V.bl (decide (0 < k)))=pt (lo L) k:=by
    rw[pt_lo e]
    exact decB _ _
   rw[ep]
   cases c:pt (lo L) k with
   | true =>
    refine zcq ?_
    have:zaA (lo L) r=true:=by
     unfold zaA
     rw[List.any_eq_true]
     exact⟨k,km,c⟩
    rw[this]at q
    exact q
   | false=>exact zbM ⟨rfl,⟨_,rfl⟩,by rw[tk,c]⟩
 ·rintro σ H2 ⟨rfl,⟨v2,rfl⟩,no⟩
  rw[List.length_map,List.take_length]at no
  rw[no]at q
  exact q
def zjR (K:W.Frag):Sp:=fun vs H Q _=>∃(l:Addr) (xs:List V) (own top:List (List Int)),vs=[.ref l]∧SqL K H l xs∧HasL K H ((own++top).map dR) xs∧own≠[]∧(own.length=1∨∃ u r,own=u++[r]∧2≤r.length)∧(top=[]∨∃ k:Int,top=[[k]])∧Q (.int (own.length:Nat)) H
theorem zcG:zae ["_law_rows","_law_many"] ["_law_rows"] (ao zc1):=⟨rfl,rfl,rfl,by decide +kernel,rfl,by decide +kernel,by decide +kernel⟩
set_option maxHeartbeats 1000000 in
theorem ok_own (F:Fun K "_law_own_rows" "_law_own_rows" zc1 f fd) (T:Txt K mg aK C CN CT CP CM):FnOk P w K mg base CX0 1 f fd ["_law_rows"] (zjR K):=by
 refine F.ok zcG (fun vs H Q E h=>?_) (fun cdv A outer s H vs Q E hr h=>?_)
 ·obtain⟨l,xs,own,top,rfl,_⟩:=h
  rfl
 obtain⟨l,xs,own,top,rfl,hl,hx,ne,la,tp,q⟩:=h
 refine⟨_,(ae (aA (i:=1) zcG.nd rfl (Or.inl rfl) (zap zan rfl T.len PySem.boot_len (aa (pv 0) ac)))
  (ae (zfC PassesOwn.never (PW.pt (zd8 (aw zcU (pv 1) ag (ay _)) (zef (aw zav (zap zan rfl T.len PySem.boot_len (aa (aF zaN (pv 0) (au zcc (pv 1) ag) (fun _ _=>rfl)) ac)) ag (ay _)))))
   (aj (aA (i:=1) zcG.nd rfl (Or.inl rfl) (au zcc (pv 1) ag))))
  (aj (ax (pv 1))))),?_⟩
 have xl:xs.length=own.length+top.length:=by rw[←hx.length,List.length_map,List.length_append]
 have o1:1≤own.length:=List.length_pos_iff.mpr ne
 have get:∀ {j:Nat} {r:List Int},(own++top)[j]?=some r→∃ p,atI xs (j:Int)=some (.ref p)∧SqT K H p (r.map V.int):=fun {j r} e=>by
  have jl:j < xs.length:=by rw[xl,←List.length_append];exact(List.getElem?_eq_some_iff.mp e).1
  obtain⟨r',p,e',ex,sp⟩:=zfb hx (List.getElem?_eq_getElem jl)
  rw[e]at e'
  cases e'
  exact⟨p,zah (by rw[List.getElem?_eq_getElem jl,ex]),sp⟩
 refine⟨_,rfl,l,_,rfl,.inl hl,fun m σ H'=>H'=H∧σ=[some (.ref l),some (.int (m:Int))]∧(m=own.length∨(m=own.length+1∧top.length=1)),⟨xs.length,rfl,rfl,?_⟩,?_⟩
 ·rcases tp with rfl | ⟨k,rfl⟩
  ·exact .inl (by simpa using xl)
  ·exact .inr ⟨by simpa using xl,rfl⟩
 rintro m σ H2 ⟨rfl,rfl,st⟩
 refine⟨_,rfl,_,_,rfl,rfl,_,rfl,?_⟩
 have fin:m=own.length→Q (.int (m:Int)) H2:=fun e=>by rw[e];exact q
 have body:m=own.length+1→∀(D:zbt),True:=fun _ _=>trivial
 rcases st with e | ⟨e,t1⟩
 ·rcases la with l1 | ⟨u,r,eu,r2⟩
  ·refine aI (fun c=>?_) (fun _=>?_)
   ·have:(1:Int) < (m:Int):=of_decide_eq_true c
    omega
   ·exact zbM ⟨_,rfl,fin e⟩
  ·have g:(own++top)[m - 1]?=some r:=by
    rw[e,eu,List.append_assoc]
    simp
   obtain⟨p,ap,sp⟩:=get g
   refine aI (fun c=>?_) (fun _=>?_)
   ·have c1:(1:Int) < (m:Int):=of_decide_eq_true c
    have em:(m:Int) - 1=((m - 1:Nat):Int):=by omega
    refine⟨_,rfl,_,rfl,_,_,rfl,rfl,l,_,_,_,rfl,rfl,hl,by rw[em];exact ap,p,_,rfl,.inr sp,rfl,_,rfl,?_⟩
    rw[List.length_map,zfo,decide_eq_false (by omega)]
    exact zbM ⟨_,rfl,fin e⟩
   ·exact zbM ⟨_,rfl,fin e⟩
 ·obtain⟨k,rfl⟩:∃ k:Int,top=[[k]]:=by
   rcases tp with rfl | h
   ·cases t1
   ·exact h
  have g:(own++[[k]])[m - 1]?=some [k]:=by
   rw[e]
   simp
  obtain⟨p,ap,sp⟩:=get g
  have em:(m:Int) - 1=((m - 1:Nat):Int):=by omega
  rw[decide_eq_true (show(1:Int) < (m:Int) by omega)]
  refine zcq ⟨_,rfl,_,rfl,_,_,rfl,rfl,l,_,_,_,rfl,rfl,hl,by rw[em];exact ap,p,_,rfl,.inr sp,rfl,_,rfl,?_⟩
  rw[decide_eq_true (show V.int (([k].map V.int).length:Nat)=V.int 1 from rfl)]
  refine zcq ⟨fun σ' H'=>∃ m',m' < m∧H'=H2∧σ'=[some (.ref l),some (.int (m':Int))]∧(m'=own.length∨(m'=own.length+1∧[[k]].length=1)),fun _ _ h=>h,?_⟩
  exact⟨_,rfl,_,_,rfl,rfl,m - 1,by omega,rfl,by rw[←em];rfl,.inl (by omega)⟩
def zeS (K:W.Frag) (C:Addr):Sp:=fun vs H Q _=>∃(p tl al rl nl ol:Addr) (c:Int) (T:List Tm) (A:List At) (R:List (List Int)) (zs S:List Str),vs=[.ref p,.ref nl,.ref ol,.int c]∧zaB K C H p tl al rl T A R∧H nl=some (.lst (zs.map V.str))∧H ol=some (.lst (S.map V.str))∧WT T∧(∀ y∈T,y.1∈zs)∧(∀ z∈S,z∈zs)∧T.length≤60∧A.length≤40∧zbE A T.length ∧
 ∀(H':Hp) (l:Addr),ar H H'→H l=none→H' l=some (.lst ((A.map (trA (pF zs c) S (za8 (vF zs c) [] T))).map oV))→Q (.ref l) H'
theorem zcn:zae ["_law_problem","_law_names_here","_law_own","_law_cell","_law_values_here","_law_truths_here","_law_atom"] ["_law_problem","_law_names_here","_law_own","_law_cell"] (ao zdo):=⟨rfl,rfl,rfl,by decide +kernel,rfl,by decide +kernel,by decide +kernel⟩
set_option maxHeartbeats 2000000 in
theorem zkC (F:Fun K "_law_truths" "_law_truths" zdo f fd) (T:Txt K mg aK C CN CT CP CM) (BM:FB P w K mg base CX0 1 "_law_mixed" fM dM ["_law_cell","_law_k"] zcM) (BV:FB P w K mg base CX0 2 "_law_values" fV dV ["_law_terms","_law_names_here","_law_cell"] (ziM K)):FnOk P w K mg base CX0 3 f fd ["_law_problem","_law_names_here","_law_own","_law_cell"] (zeS K C):=by
 refine F.ok zcn (fun vs H Q E h=>?_) (fun cdv A outer s H vs Q E hr h=>?_)
 ·obtain⟨p,tl,al,rl,nl,ol,c,T',A',R',zs,S,rfl,_⟩:=h
  rfl
 obtain⟨p,tl,al,rl,nl,ol,c,T',A',R',zs,S,rfl,pr,hN,hO,hW,hz,hS,t60,a40,sm,q⟩:=h
 have hu:=zem hr
 have hr1:aE 1 _:=hr.mono (by decide)
 have hr2:aE 2 _:=hr.mono (by decide)
 refine⟨_,(ae (aA (i:=4) zcn.nd rfl (Or.inl rfl) (zaa BV.ok hr2 rfl BV.m BV.kp BV.b .nil zal (aa (zaR (pv 0) rfl) (aa (pv 1) (aa (pv 3) ac)))))
  (ae (aA (i:=5) zcn.nd rfl (Or.inl rfl) (zam ac))
  (ae (zaZ PassesOwn.never rfl (za6 (zaR (pv 0) rfl)) (zay (i:=6) zcn.nd rfl (Or.inl rfl))
   (aj (zao (aw zav (aF zat (pv 6) ag (fun _ _=>rfl)) zab (ay _))
     (aj (zaI (zbB PySem.F.plainAttrs_list PySem.F.slot_list_append PySem.F.type_list_append zaS (pv 5) (aa (zbb zav (aF zaN (pv 4) (aF zat (pv 6) ag (fun _ _=>rfl)) (fun _ _=>rfl)) (aF zaN (pv 4) (aF zat (pv 6) ag (fun _ _=>rfl)) (fun _ _=>rfl)) (ay _)) ac))))
     (aj (zao (aw zeY (aF zat (pv 6) ag (fun _ _=>rfl)) (pv 2) rfl)
       (aj (zaI (zbB PySem.F.plainAttrs_list PySem.F.slot_list_append PySem.F.type_list_append zaS (pv 5) (aa (zbb zav (au zaL (au zbh (zaa BM.ok hr1 rfl BM.m BM.kp BM.b .nil zal (aa (pv 3) (aa (zbB PySem.F.plainAttrs_list PySem.F.slot_list_index PySem.F.type_list_index (zcR hu) (pv 1) (aa (aF zat (pv 6) ag (fun _ _=>rfl)) ac)) ac))) ag) ag) ag (ay _)) ac))))
       (aj (zaI (zbB PySem.F.plainAttrs_list PySem.F.slot_list_append PySem.F.type_list_append zaS (pv 5) (aa zhz ac)))))))))
  (aj (ax (pv 5)))))),?_⟩
 obtain⟨⟨dx,ho⟩,⟨ts,ht,hT⟩,⟨as,ha,hA⟩,_⟩:=id pr
 have al':as.length=A'.length:=by rw[←hA.length,List.length_map]
 refine⟨_,rfl,p,C,dx,_,_,rfl,ho,T.cl,T.nT,zdx tl al rl,_,rfl,_,rfl,tl,nl,c,ts,T',zs,rfl,ht,hT,hN,hW,hz,t60,fun H1 vl s1 n1 hvl=>?_⟩
 have vlen:(za8 (vF zs c) [] T').length=T'.length:=by rw[zeR];simp
 generalize hvs:za8 (vF zs c) [] T'=us at hvl vlen q
 refine⟨lS0,fun l hl=>?_⟩
 have s2:=ak hl (.lst [])
 have n2:=ad (H:=H1) (a:=l) (o:=.lst [])
 generalize upd H1 l (.lst [])=H2 at s2 n2
 have s02:=s1.trans s2
 refine⟨_,rfl,p,C,dx,_,_,rfl,s02 _ _ ho,T.cl,T.nA,zcl tl al rl,al,rfl,⟨_,SqL.of (s02 _ _ ha)⟩,zbO za5 (fun i σ H'=>ar H1 H'∧(∃ v6:Option V,σ=[some (.ref p),some (.ref nl),some (.ref ol),some (.int c),some (.ref vl),some (.ref l),v6])∧H' l=some (.lst (((A'.take i).map (trA (pF zs c) S us)).map oV))) (fun i σ H' ⟨s',_⟩=>SqL.of ((s1.trans s') _ _ ha)) ⟨s2,⟨none,rfl⟩,n2⟩ ?_ ?_⟩
 ·rintro i σ H9 x H3 hi ⟨s3,⟨v6,rfl⟩,hl3⟩ ⟨rfl,hy⟩
  have s03:=s1.trans s3
  obtain⟨a,hat,hxa⟩:=at_get (hA.keep s03.kt (zai zcs _)) (hy _ (SqL.of (s03 _ _ ha)))
  have am:=List.mem_of_getElem? hat
  have il:i < A'.length:=(List.getElem?_eq_some_iff.mp hat).1
  have len:(((A'.take i).map (trA (pF zs c) S us)).map oV).length < sizeLine:=zbS (by simp;omega)
  have fin:∀ {v:V} {y:Option V},v=oV (trA (pF zs c) S us a)→ar H1 (upd H3 l (.lst (((A'.take i).map (trA (pF zs c) S us)).map oV++[v])))∧(∃ v6:Option V,[some (V.ref p),some (.ref nl),some (.ref ol),some (.int c),some (.ref vl),some (.ref l),y]=[some (.ref p),some (.ref nl),some (.ref ol),some (.int c),some (.ref vl),some (.ref l),v6])∧upd H3 l (.lst (((A'.take i).map (trA (pF zs c) S us)).map oV++[v])) l=some (.lst (((A'.take (i+1)).map (trA (pF zs c) S us)).map oV)):=fun {v y} e=>by
   refine⟨s3.upd hl,⟨y,rfl⟩,?_⟩
   rw[ad,zaW hat,List.map_append,List.map_append,e]
   rfl
  cases a with
  | same k1 k2 =>
   simp only[dA,Has,HasL]at hxa
   obtain⟨pa,_,rfl,hpa,_,_,rfl,rfl,_,_,rfl,rfl,_,_,rfl,rfl,rfl⟩:=hxa
   have b12:=sm k1 k2 am
   have a0:atI [V.str "same",V.int k1,V.int k2] 0=some (.str "same"):=zah (j:=0) rfl
   have a1:atI [V.str "same",V.int k1,V.int k2] 1=some (.int k1):=zah (j:=1) rfl
   have a2:atI [V.str "same",V.int k1,V.int k2] 2=some (.int k2):=zah (j:=2) rfl
   refine⟨_,rfl,pa,_,_,_,rfl,rfl,hpa,a0,rfl,_,rfl,kY ?_⟩
   refine⟨_,rfl,.inl ⟨rfl,_,SqL.of hl3⟩,_,rfl,_,rfl,pa,_,_,_,rfl,rfl,hpa,a1,vl,_,_,_,rfl,rfl,SqL.of (s3 _ _ hvl),zhr b12.1.1 (by omega),_,rfl,_,rfl,pa,_,_,_,rfl,rfl,hpa,a2,vl,_,_,_,rfl,rfl,SqL.of (s3 _ _ hvl),zhr b12.2.1 (by omega),rfl,l,_,_,rfl,rfl,hl3,len,?_⟩
   refine fin ?_
   rw[zfo]
   rfl
  | plain z =>
   simp only[dA,Has,HasL]at hxa
   obtain⟨pa,_,rfl,hpa,_,_,rfl,rfl,_,_,rfl,rfl,rfl⟩:=hxa
   have a0:atI [V.str "plain",V.str z] 0=some (.str "plain"):=zah (j:=0) rfl
   have a1:atI [V.str "plain",V.str z] 1=some (.str z):=zah (j:=1) rfl
   refine⟨_,rfl,pa,_,_,_,rfl,rfl,hpa,a0,rfl,_,rfl,kN (show ¬("plain":Str)="same" by decide +kernel) ?_⟩
   refine⟨_,rfl,pa,_,_,_,rfl,rfl,hpa,a1,_,rfl,ol,_,rfl,.inl (SqL.of (s03 _ _ hO)),rfl,zkU S,_,rfl,aI (fun d=>?_) (fun d=>?_)⟩
   ·have zS:z∈S:=F75.inV_strs.mp d
    have hzz:=hS z zS
    refine⟨_,rfl,.inl ⟨rfl,_,SqL.of hl3⟩,_,rfl,_,rfl,.inl ⟨rfl,_,SqL.of (s03 _ _ hN)⟩,_,rfl,pa,_,_,_,rfl,rfl,hpa,a1,nl,_,zs.map Dt.str,_,.str z,zs.idxOf z,rfl,rfl,s03 _ _ hN,zdg zs,Has.str',(by rw[zdi];decide),⟨_,zfa hzz,zbw _⟩,(fun m dm h e=>ze9 h e),_,_,rfl,_,_,rfl,rfl,⟨by decide,by decide⟩,_,_,rfl,rfl,(by show(0:Int) < 2;decide),rfl,l,_,_,rfl,rfl,hl3,len,?_⟩
    refine fin ?_
    rw[zfo]
    simp only[trA,if_pos zS]
    rfl
   ·have zS:z∉S:=fun h=>d (F75.inV_strs.mpr h)
    refine⟨_,rfl,.inl ⟨rfl,_,SqL.of hl3⟩,l,_,_,rfl,rfl,hl3,len,?_⟩
    refine fin ?_
    simp only[trA,if_neg zS]
    rfl
 ·rintro σ H3 ⟨s3,⟨v6,rfl⟩,hl3⟩
  rw[al',List.take_length]at hl3
  exact⟨_,rfl,q _ l (s1.trans s3) (s1.free hl) hl3⟩
end
end K75
namespace K75
open PySem L2
open F75 (Tr Fm dTr zaE dFm FOk fdp zaG zcz)
def zch (S:List Str) (A:List At) (j:Nat):Bool:=match A[j]? with
 | some (.plain z)=>decide (z∉S)
 | _=>false
theorem zha {S:List Str} {A:List At} {j:Nat}:zch S A j=true↔∃ z,A[j]?=some (.plain z)∧z∉S:=by
 unfold zch
 constructor
 ·intro h
  split at h
  ·next z e=>exact⟨z,e,of_decide_eq_true h⟩
  ·cases h
 ·rintro ⟨z,e,hz⟩
  rw[e]
  exact decide_eq_true hz
def trL (S:List Str) (A:List At) (tau:List Bool) (i:Nat):List (Option Bool):=(List.range A.length).map fun j=>if zch S A j=true∧i≤j then none else tau[j]?
theorem zb3 (S:List Str) (A:List At) (tau:List Bool) (i:Nat):(trL S A tau i).length=A.length:=by simp [trL]
theorem zcL {S:List Str} {A:List At} {tau:List Bool} {i j:Nat} (h:j < A.length):(trL S A tau i)[j]?=some (if zch S A j=true∧i≤j then none else tau[j]?):=by
 unfold trL
 rw[List.getElem?_map,List.getElem?_range h]
 rfl
section
variable {pT:Str→Bool} {S:List Str} {vs:List Int} {m:Nat} {A:List At} {R:List (List Int)} {tau:List Bool}
theorem zk0 (I:Inv pT S vs m A R tau):trL S A tau 0=A.map (trA pT S vs):=by
 refine List.ext_getElem? fun j=>?_
 by_cases h:j < A.length
 ·rw[zcL h,List.getElem?_map,List.getElem?_eq_getElem h]
  cases e:A[j] with
  | same a b =>
   have e':A[j]?=some (.same a b):=by rw[List.getElem?_eq_getElem h,e]
   have n:zch S A j=false:=by unfold zch;rw[e']
   rw[n,if_neg (by simp),I.sm j a b e']
   rfl
  | plain z =>
   have e':A[j]?=some (.plain z):=by rw[List.getElem?_eq_getElem h,e]
   by_cases c:z∈S
   ·have n:zch S A j=false:=by unfold zch;rw[e'];exact decide_eq_false (fun k=>k c)
    rw[n,if_neg (by simp),I.pl j z e' c]
    simp [trA,c]
   ·have n:zch S A j=true:=zha.mpr ⟨z,e',c⟩
    rw[n,if_pos ⟨rfl,Nat.zero_le _⟩]
    simp [trA,c]
 ·rw[List.getElem?_eq_none (by rw[zb3];omega),List.getElem?_eq_none (by rw[List.length_map];omega)]
theorem zlG (I:Inv pT S vs m A R tau):trL S A tau A.length=tau.map some:=by
 have l:=I.len
 refine List.ext_getElem? fun j=>?_
 by_cases h:j < A.length
 ·rw[zcL h,if_neg (by omega),List.getElem?_map,List.getElem?_eq_getElem (by omega)]
  rfl
 ·rw[List.getElem?_eq_none (by rw[zb3];omega),List.getElem?_eq_none (by rw[List.length_map];omega)]
theorem zlE {i:Nat} (h:zch S A i=false):trL S A tau (i+1)=trL S A tau i:=by
 unfold trL
 refine List.map_congr_left fun j hj=>?_
 by_cases e:j=i
 ·subst e
  rw[h]
  simp
 ·have:(i+1≤j)=(i≤j):=by rw[eq_iff_iff];omega
  simp only[this]
theorem zlF (I:Inv pT S vs m A R tau) {i:Nat} {b:Bool} (hi:i < A.length) (e:tau[i]?=some b):(trL S A tau i).set i (some b)=trL S A tau (i+1):=by
 refine List.ext_getElem? fun j=>?_
 by_cases h:j < A.length
 ·by_cases c:j=i
  ·subst c
   rw[List.getElem?_set_self (by rw[zb3];exact h),zcL h,if_neg (by omega),e]
  ·rw[List.getElem?_set_ne (Ne.symm c),zcL h,zcL h]
   have:(i+1≤j)=(i≤j):=by rw[eq_iff_iff];omega
   simp only[this]
 ·rw[List.getElem?_eq_none (by rw[List.length_set,zb3];omega),List.getElem?_eq_none (by rw[zb3];omega)]
theorem trL_at {i:Nat} (I:Inv pT S vs m A R tau) (hi:i < A.length):(lo (trL S A tau i) i).isNone=zch S A i:=by
 unfold lo
 rw[zcL hi]
 cases e:zch S A i with
 | true=>rw[if_pos ⟨rfl,Nat.le_refl _⟩];rfl
 | false =>
  rw[if_neg (by simp),List.getElem?_eq_getElem (by rw[I.len];exact hi)]
  rfl
theorem zh3 {i:Nat} {b:Bool} (hi:i < A.length) {r:List Int} (h:∀ p∈r,1≤p.natAbs∧p.natAbs≤i+1):zaA (lo ((trL S A tau i).set i (some b))) r=zaA (st1 (lt tau) (i+1) b) r:=by
 refine zcX fun p hp=>?_
 have:=h p hp
 unfold lo st1 lt
 by_cases c:p.natAbs - 1=i
 ·rw[if_pos (by omega),c,List.getElem?_set_self (by rw[zb3];exact hi)]
  rfl
 ·rw[if_neg (by omega),List.getElem?_set_ne (Ne.symm c),zcL (by omega),if_neg (by omega)]
  rfl
theorem zlJ (L:List (Option Bool)) (i:Nat) (a b:Option Bool):(L.set i a).set i b=L.set i b:=by
 simp
theorem lo_all (I:Inv pT S vs m A R tau):lo (tau.map some)=lt tau:=by
 funext j
 unfold lo lt
 rw[List.getElem?_map]
 cases tau[j]? <;> rfl
end
theorem zlq {R:List (List Int)} {k n:Nat} {r:List Int} (h:R[k]?=some r):grp (R.take (k+1)) n=grp (R.take k) n++if(decide (0 < r.length)&&decide (hd1 r=n))=true then [r] else []:=by
 rw[zaW h,zff]
 unfold grp
 rw[List.filter_cons,List.filter_nil]
theorem zi5 {n i:Nat} (h:i < n):ixN n ((1:Int)+(i:Int) - 1)=some i:=by
 have e:(1:Int)+(i:Int) - 1=((i:Nat):Int):=by omega
 rw[e]
 have:=zah (xs:=List.replicate n ()) (j:=i) (v:=()) (by rw[List.getElem?_replicate,if_pos h])
 unfold atI at this
 rw[List.length_replicate]at this
 cases q:ixN n ((i:Nat):Int) with
 | none=>rw[q]at this;cases this
 | some j =>
  have h2:=zgx q
  have h3:=h2.1
  unfold seqIndex? at h3
  split at h3
  ·omega
  ·have h4:(if(decide (0≤((i:Nat):Int))&&decide (((i:Nat):Int) < (n:Int)))=true then some ((i:Nat):Int).toNat else none)=some j:=h3
   split at h4
   ·injection h4 with h4
    rw[←h4]
    simp
   ·cases h4
theorem zjV {L:List (Option Bool)} {i:Nat} {b:Bool}:(L.map oV).set i (.bl b)=(L.set i (some b)).map oV:=by
 rw[List.map_set]
 rfl
def zdt (tau:List Bool) (i k:Nat):List Bool:=([true,false].take k).filter fun b=>decide (tau[i]?=some b)
theorem zgp (ds:List Dt):peq (.lst ds) (.lst [])=ds.isEmpty:=by
 cases ds with
 | nil=>simp [peq,zbs]
 | cons d ds=>simp [peq,zbs]
theorem zhK {ds:List Dt} {n:Nat} (h:zau ds≤n):dep (.lst ds)≤n+1:=by
 simp only[dep]
 omega
theorem zhe (R:List (List Int)):zau (R.map dR)≤1:=by
 induction R with
 | nil=>simp [zau]
 | cons r R ih =>
  have e:zau (r.map Dt.int)=0:=zdj r
  simp only[List.map_cons,zau,dR,dep,e]
  omega
section
variable {P:Program} {w:World} {K:W.Frag} {mg:Str→Option Value} {base:Heap} {aK aO C CN CT CP CM:Addr} {f fO fR':Addr} {fd dO dR'':FuncData}
abbrev rLenS (K:W.Frag):List V→Hp→VK→Prop:=fun xs H Q=>∃ p ys,xs=[.ref p]∧(SqL K H p ys∨SqT K H p ys)∧Q (.int ys.length) H
def zeT (K:W.Frag) (C:Addr):Sp:=fun vs H Q _=>∃(p tl al rl l:Addr) (T:List Tm) (A:List At) (R:List (List Int)) (tau:List Bool) (S:List Str) (pT:Str→Bool) (us:List Int),vs=[.ref p,.ref l]∧zaB K C H p tl al rl T A R∧l≠tl∧l≠al∧l≠rl∧H l=some (.lst ((trL S A tau 0).map oV))∧Inv pT S us A.length A R tau∧A.length≤40∧R.length≤200 ∧
 ∀ H',Fr1 H H' l→H' l=some (.lst ((tau.map some).map oV))→Q (.bl true) H'
theorem zbR:zae ["_law_problem","_law_truths_here","_law_number","_law_rows","_law_good","_law_truth"] ["_law_problem","_law_truths_here"] (ao zb2):=⟨rfl,rfl,rfl,by decide +kernel,rfl,by decide +kernel,by decide +kernel⟩
set_option maxHeartbeats 4000000 in
theorem zkF (F:Fun K "_law_forced" "_law_forced" zb2 f fd) (T:Txt K mg aK C CN CT CP CM) (BO:FB P w K mg base CX0 1 "_law_own_rows" fO dO ["_law_rows"] (zjR K)) (BR:FB P w K mg base CX0 1 "_law_row_holds" fR' dR'' ["_law_row","_law_truths_here"] (zho K)):FnOk P w K mg base CX0 2 f fd ["_law_problem","_law_truths_here"] (zeT K C):=by
 refine F.ok zbR (fun vs H Q E h=>?_) (fun cdv A outer s H vs Q E hr h=>?_)
 ·obtain⟨p,tl,al,rl,l,T',A',R',tau,S,pT,us,rfl,_⟩:=h
  rfl
 obtain⟨p,tl,al,rl,l,T',A',R',tau,S,pT,us,rfl,pr,n1,n2,n3,hl,I,a40,r200,q⟩:=h
 have hu:=zem hr
 have hr1:aE 1 _:=hr.mono (by decide)
 refine⟨_,(ae (zaZ PassesOwn.never rfl (zkz rfl T.range (aa ag (aa (au zaM (zap zan rfl T.len PySem.boot_len (aa (pv 1) ac)) ag) ac))) (zay (i:=2) zbR.nd rfl (Or.inr rfl))
   (aj (zao (aw op_isN (aF zaN (pv 1) (au zcc (pv 2) ag) (fun _ _=>rfl)) zhz (ay _))
     (ae (zkw (i:=3) (N':=["_law_row","_law_number"]) (ix:=[2]) zbR.nd rfl (Or.inl rfl) rfl rfl (by decide +kernel) (by decide +kernel) rfl (fun ok=>zbY (sc:=ao zb2) ok rfl (by decide +kernel) (by decide +kernel)) (by decide +kernel) rfl rfl (fun j i h=>match j,h with | 0,h=>by cases h;exact⟨_,rfl,rfl,.inl rfl,.inl rfl⟩ | n+1,h=>by simp at h) (za6 (zaR (pv 0) rfl)) (fun _ _ _ _=>(PW.pt (zd8 (aw zcU (zap (r:=rLenS K) zan rfl T.len PySem.boot_len (aa (pv 0) ac)) ag (ay _)) (zef (aw zav (zap zeB rfl T.abs PyProof.Rows.Boot.abs (aa (aF (r:=rIxT K) zat (pv 0) ag (fun _ _=>rfl)) ac)) (pv 1) (ay _)))))) (fun _ _ _ _=>(pv 0)))
      (ae (aA (i:=4) zbR.nd rfl (Or.inl rfl) (zam ac))
      (ae (zaZ PassesOwn.never rfl (za6 (zam (aa zcT (aa zcT ac)))) (zay (i:=5) zbR.nd rfl (Or.inl rfl))
       (ae (zjX (pv 5) (zj3 (pv 1) (au zcc (pv 2) ag) zhZ))
        (aj (zao (aw (zhC hu) (zhA (N':=["_law_row","_law_truths_here"]) (ix:=[1]) rfl rfl (by decide +kernel) (by decide +kernel) rfl (fun ok=>zbY (sc:=ao zb2) ok rfl (by decide +kernel) (by decide +kernel)) (by decide +kernel) rfl rfl (fun j i h=>match j,h with | 0,h=>by cases h;exact⟨_,rfl,rfl,.inl rfl,.inl rfl⟩ | n+1,h=>by simp at h) (za6 (zbG zee (pv 3) zb5 (zb4 (zaa BO.ok hr1 rfl BO.m BO.kp BO.b .nil zal (aa (pv 3) ac))))) (fun _ _ _ _=>(zeJ (zeI (zaa BR.ok hr1 rfl BR.m BR.kp BR.b .nil zal (aa (pv 0) (aa (pv 1) ac)))))) (fun _ _ _ _=>(pv 0))) (zam ac) rfl)
         (aj (zaI (zbB PySem.F.plainAttrs_list PySem.F.slot_list_append PySem.F.type_list_append zaS (pv 4) (aa (pv 5) ac))))
         zad))))
      (ae (zao (aw op_ne (zap zan rfl T.len PySem.boot_len (aa (pv 4) ac)) ag (ay _))
       (aj (ax zcT))
       zad)
      (aj (zjX (aF zaN (pv 4) ag (fun _ _=>rfl)) (zj3 (pv 1) (au zcc (pv 2) ag) zhZ)))))))
     zad)))
  (aj (ax zcT))),?_⟩
 obtain⟨⟨dx,ho⟩,_,_,⟨rs,hrs,hR⟩,_⟩:=id pr
 have lp:p≠l:=fun e=>by rw[e,hl]at ho;cases ho
 have ll:((trL S A' tau 0).map oV).length=A'.length:=by rw[List.length_map,zb3]
 have rsl:rs.length=R'.length:=by rw[←hR.length,List.length_map]
 refine⟨_,rfl,l,_,rfl,.inl (SqL.of hl),_,_,rfl,rfl,1,_,rfl,⟨by decide,by decide,by omega,by omega⟩,zdY (lo:=1) (n:=((((((trL S A' tau 0).map oV).length:Nat):Int)+1 - 1).toNat)) (fun i σ H'=>(∃ v2 v3 v4 v5:Option V,σ=[some (.ref p),some (.ref l),v2,v3,v4,v5])∧Fr1 H H' l∧H' l=some (.lst ((trL S A' tau i).map oV))) ⟨⟨none,none,none,none,rfl⟩,Fr1.of_same (ar.refl _),hl⟩ ?_ ?_⟩
 ·rintro i σ H2 hi ⟨⟨v2,v3,v4,v5,rfl⟩,f2,hl2⟩
  have hi':i < A'.length:=by
   have:i < (((((trL S A' tau 0).map oV).length:Nat):Int)+1 - 1).toNat:=hi
   omega
  have ei:(1:Int)+(i:Int) - 1=((i:Nat):Int):=by omega
  have at':atI ((trL S A' tau i).map oV) ((1:Int)+(i:Int) - 1)=some (oV (lo (trL S A' tau i) i)):=by
   rw[ei]
   refine zah ?_
   unfold lo
   rw[List.getElem?_map,zcL hi']
   rfl
  refine⟨_,rfl,_,rfl,_,_,rfl,rfl,l,_,_,_,rfl,rfl,SqL.of hl2,at',rfl,_,rfl,?_⟩
  rw[zj9,trL_at I hi']
  cases nw:zch S A' i with
  | false=>exact zbM ⟨⟨_,_,_,_,rfl⟩,f2,by rw[zlE nw];exact hl2⟩
  | true =>
  obtain⟨z,ez,hz⟩:=zha.mp nw
  obtain⟨own,top,g,tp,ow⟩:=I.nw i z ez hz
  have ol:own.length≤200:=by
   have h1:(grp R' (i+1)).length≤R'.length:=List.length_filter_le _ _
   rw[g,List.length_append]at h1
   omega
  have tl':i < tau.length:=by rw[I.len];exact hi'
  obtain⟨b0,eb⟩:∃ b,tau[i]?=some b:=⟨_,List.getElem?_eq_getElem tl'⟩
  have hrs2:=f2 _ _ hrs n3.symm
  have kt2:zak H H2:=f2.keepT hl
  have hR2:=hR.keep kt2 (zai zaX _)
  refine zcq ?_
  refine⟨_,rfl,p,C,dx,_,_,rfl,f2 _ _ ho lp,T.cl,T.nR,zdh tl al rl,rl,rfl,⟨_,SqL.of hrs2⟩,fun D hD=>?_⟩
  refine zfW za5 (fun k ws H'=>ar H2 H'∧HasL K H' ((grp (R'.take k) (i+1)).map dR) ws) (fun k ws H' ⟨s',_⟩=>SqL.of (s' _ _ hrs2)) ⟨ak hD _,HasL.nil⟩ ?_ ?_
  ·rintro k ws H8 x H4 hk hly hDs ⟨s4,hw⟩ ⟨rfl,hx⟩
   obtain⟨r,pr',er,rfl,hpr⟩:=zfb (hR2.keep s4.kt (zai zaX _)) (hx _ (SqL.of (s4 _ _ hrs2)))
   have rm:=List.mem_of_getElem? er
   have gs:=zlq (n:=i+1) er
   have skip:(decide (0 < r.length)&&decide (hd1 r=i+1))=false→zhL rs.length D (fun k ws H'=>ar H2 H'∧HasL K H' ((grp (R'.take k) (i+1)).map dR) ws) k ws H4:=fun e=>by
    refine zfd hk hly hDs ⟨s4,?_⟩
    rw[gs,e,if_neg (by decide),List.append_nil]
    exact hw
   refine⟨_,rfl,pr',_,rfl,.inr hpr,_,_,rfl,rfl,_,rfl,?_⟩
   cases r with
   | nil=>exact absurd rfl (I.rg _ rm).1
   | cons h0 t0 =>
   rw[decide_eq_true (show(0:Int) < ((((h0 :: t0).map V.int).length:Nat):Int) by simp only[List.length_map,List.length_cons];omega)]
   have ah:atI ((h0 :: t0).map V.int) 0=some (.int h0):=zah (j:=0) rfl
   refine zcq ⟨_,rfl,pr',_,_,_,rfl,rfl,hpr,ah,_,rfl,_,rfl,rfl,_,rfl,?_⟩
   have et:decide (V.int (if h0 < 0 then -h0 else h0)=V.int ((1:Int)+(i:Int)))=(decide (0 < (h0 :: t0).length)&&decide (hd1 (h0 :: t0)=i+1)):=by
    rw[zfo,decide_eq_true (show 0 < (h0 :: t0).length by simp),Bool.true_and,decide_eq_decide]
    show _↔h0.natAbs=i+1
    split <;> omega
   rw[et]
   cases c:(decide (0 < (h0 :: t0).length)&&decide (hd1 (h0 :: t0)=i+1)) with
   | false=>exact zbM (skip c)
   | true =>
    refine zcq ⟨_,rfl,?_⟩
    refine zbQ (sz _ (by omega)) hk hly hDs ⟨s4.upd hD,?_⟩
    rw[gs,c,if_pos rfl,List.map_append]
    have kt:zak H4 (upd H4 D (.lst (ws++[V.ref pr']))):=zak.but hDs (fun _ e=>by cases e) (fun _ _ e=>by cases e)
    exact(hw.keep kt (zai zaX _)).append (.cons (Has.tup' (kt.sq hpr) (HasL.ints _)) .nil)
  ·rintro ws H3 hD3 ⟨s3,hw⟩
   rw[rsl,List.take_length,g]at hw
   refine⟨lS0,fun gl hgl=>?_⟩
   have s4:=ak hgl (.lst [])
   have g4:=ad (H:=H3) (a:=gl) (o:=.lst [])
   generalize upd H3 gl (.lst [])=H4 at s4 g4
   refine⟨lS2,fun t2 ht2=>?_⟩
   have s5:=ak ht2 (.lst [V.bl true,V.bl false])
   have h5:=ad (H:=H4) (a:=t2) (o:=.lst [V.bl true,V.bl false])
   generalize upd H4 t2 (.lst [V.bl true,V.bl false])=H5 at s5 h5
   have s25:ar H2 H5:=(s3.trans s4).trans s5
   have hl5:=s25 _ _ hl2
   have hD5:=s5 _ _ (s4 _ _ hD3)
   have hw5:=hw.keep (s4.trans s5).kt (zai zaX _)
   have g5:=s5 _ _ g4
   have glD:D≠gl:=fun e=>by rw[←e,hD3]at hgl;cases hgl
   have gll:gl≠l:=fun e=>by rw[e,s3 _ _ hl2]at hgl;cases hgl
   have Dl:D≠l:=fun e=>by rw[e,hl2]at hD;cases hD
   have t2l:t2≠l:=fun e=>by rw[e,s4 _ _ (s3 _ _ hl2)]at ht2;cases ht2
   have t2g:t2≠gl:=fun e=>by rw[e,g4]at ht2;cases ht2
   have wl:ws.length=own.length+top.length:=by rw[←hw.length,List.length_map,List.length_append]
   have ktf:∀ {H':Hp},Fr2 H5 H' l gl→zak H5 H':=fun {H'} f b ys q'=>by
    rcases q' with q' | ⟨o,q'⟩
    ·exact .inl (f _ _ q' (fun e=>by rw[e,hl5]at q';cases q') (fun e=>by rw[e,g5]at q';cases q'))
    ·exact .inr ⟨o,f _ _ q' (fun e=>by rw[e,hl5]at q';cases q') (fun e=>by rw[e,g5]at q';cases q')⟩
   refine⟨t2,rfl,⟨_,SqL.of h5⟩,zbO za5 (fun k σ H'=>(∃ v5:Option V,σ=[some (.ref p),some (.ref l),some (.int ((1:Int)+(i:Int))),some (.ref D),some (.ref gl),v5])∧Fr2 H5 H' l gl∧(∃ L':List (Option Bool),H' l=some (.lst (L'.map oV))∧L'.length=A'.length∧∀ b:Bool,L'.set i (some b)=(trL S A' tau i).set i (some b))∧H' gl=some (.lst ((zdt tau i k).map V.bl))) (fun k σ H' ⟨_,f',_⟩=>SqL.of (f' _ _ h5 t2l t2g)) ⟨⟨v5,rfl⟩,fun b o e _ _=>e,⟨_,hl5,zb3 _ _ _ _,fun _=>rfl⟩,g5⟩ ?_ ?_⟩
   ·rintro k σ H16 x H6 hk ⟨⟨w5,rfl⟩,f6,⟨L',hl6,lL,eL⟩,hg6⟩ ⟨rfl,hx⟩
    obtain⟨b,hb,rfl⟩:∃ b,[true,false][k]?=some b∧x=.bl b:=by
     have:=hx _ (SqL.of (f6 _ _ h5 t2l t2g))
     match k,hk,this with
     | 0,_,h=>cases h;exact⟨true,rfl,rfl⟩
     | 1,_,h=>cases h;exact⟨false,rfl,rfl⟩
    refine⟨_,rfl,_,rfl,_,rfl,_,_,rfl,rfl,l,_,_,i,rfl,rfl,hl6,zi5 (by rw[List.length_map,lL];exact hi'),?_⟩
    rw[zjV,eL b]
    have l7:=ad (H:=H6) (a:=l) (o:=.lst (((trL S A' tau i).set i (some b)).map oV))
    have f7:Fr2 H5 (upd H6 l (.lst (((trL S A' tau i).set i (some b)).map oV))) l gl:=fun c o e m1 m2=>by rw[aq m1];exact f6 _ _ e m1 m2
    have g7:upd H6 l (.lst (((trL S A' tau i).set i (some b)).map oV)) gl=some (.lst ((zdt tau i k).map V.bl)):=by rw[aq gll];exact hg6
    generalize upd H6 l (.lst (((trL S A' tau i).set i (some b)).map oV))=H7 at l7 f7 g7
    have D7:=f7 _ _ hD5 Dl glD
    have hw7:=hw5.keep (ktf f7) (zai zaX _)
    refine⟨_,rfl,_,rfl,D,ws,own,top,rfl,SqL.of D7,hw7,ow.ne,ow.la,tp.imp id (fun⟨_,k',_,e⟩=>⟨k',e⟩),_,rfl,D,ws,rfl,SqL.of D7,fun c1 hc1=>?_⟩
    have ec:zbz ws none (some ((own.length:Nat):Int))=ws.take own.length:=by
     unfold zbz
     rw[HT.sIx_none,HT.sIx_nat,List.drop_zero,Nat.sub_zero,Nat.min_eq_left (by omega)]
    rw[ec]
    have s8:=ak hc1 (.lst (ws.take own.length))
    have n8:=ad (H:=H7) (a:=c1) (o:=.lst (ws.take own.length))
    generalize upd H7 c1 (.lst (ws.take own.length))=H8 at s8 n8
    have hw8:HasL K H8 (own.map dR) (ws.take own.length):=by
     have:=F75.HasL.take own.length (hw7.keep s8.kt (zai zaX _))
     rw[←List.map_take,List.take_left' rfl]at this
     exact this
    have wtl:(ws.take own.length).length=own.length:=by rw[List.length_take];omega
    refine⟨c1,rfl,⟨_,SqL.of n8⟩,fun U hU=>?_⟩
    refine zfW za5 (fun j us' H'=>ar H8 H'∧HasL K H' (((own.take j).filter fun r=>!zaA (lo ((trL S A' tau i).set i (some b))) r).map dR) us') (fun j us' H' ⟨s',_⟩=>SqL.of (s' _ _ n8)) ⟨ak hU _,HasL.nil⟩ ?_ ?_
    ·rintro j us' H9 x H10 hj hly hUs ⟨s9,hus⟩ ⟨rfl,hx⟩
     obtain⟨r,pr',er,rfl,hpr⟩:=zfb (hw8.keep s9.kt (zai zaX _)) (hx _ (SqL.of (s9 _ _ n8)))
     have rm:=List.mem_of_getElem? er
     have rg:=ow.rg r rm
     have ln:((trL S A' tau i).set i (some b)).length=A'.length:=by rw[List.length_set,zb3]
     refine⟨_,rfl,_,rfl,pr',l,r,_,rfl,hpr,s9 _ _ (s8 _ _ l7),fun k' hk'=>?_,_,rfl,?_⟩
     ·rw[ln,zac]
      have:=rg k' hk'
      omega
     have fs:(own.take (j+1)).filter (fun r=>!zaA (lo ((trL S A' tau i).set i (some b))) r)=(own.take j).filter (fun r=>!zaA (lo ((trL S A' tau i).set i (some b))) r)++if(!zaA (lo ((trL S A' tau i).set i (some b))) r)=true then [r] else []:=by
      rw[zaW er,List.filter_append,List.filter_cons,List.filter_nil]
     cases c:zaA (lo ((trL S A' tau i).set i (some b))) r with
     | true =>
      rw[c]at fs
      refine zbM (zfd hj hly hUs ⟨s9,?_⟩)
      rw[fs]
      simpa using hus
     | false =>
      rw[c]at fs
      refine zcq ⟨_,rfl,?_⟩
      refine zbQ (sz _ (by rw[wtl];omega)) hj hly hUs ⟨s9.upd hU,?_⟩
      rw[fs,if_pos (show(!false)=true from rfl),List.map_append]
      have kt:=zak.but (o:=.lst (us'++[V.ref pr'])) hUs (fun _ e=>by cases e) (fun _ _ e=>by cases e)
      exact(hus.keep kt (zai zaX _)).append (.cons (Has.tup' (kt.sq hpr) (HasL.ints _)) .nil)
    ·rintro us' H9 hU9 ⟨s9,hus⟩
     rw[wtl,List.take_length]at hus
     refine⟨lS0,fun el hel=>?_⟩
     have s10:=ak hel (.lst [])
     have n10:=ad (H:=H9) (a:=el) (o:=.lst [])
     generalize upd H9 el (.lst [])=H10 at s10 n10
     have s710:ar H7 H10:=(s8.trans s9).trans s10
     refine⟨_,_,Has.lst' (SqL.of (s10 _ _ hU9)) (hus.keep s10.kt (zai zaX _)),Has.lst' (SqL.of n10) HasL.nil,by have:=zhK (zhe (own.filter fun r=>!zaA (lo ((trL S A' tau i).set i (some b))) r));omega,_,rfl,?_⟩
     rw[zgp]
     have em:(((own.filter fun r=>!zaA (lo ((trL S A' tau i).set i (some b))) r).map dR).isEmpty)=decide (tau[i]?=some b):=by
      rw[Bool.eq_iff_iff,decide_eq_true_eq,List.isEmpty_map,List.isEmpty_iff,List.filter_eq_nil_iff]
      have:=ow.fo b
      rw[Nat.add_sub_cancel]at this
      rw[←this]
      constructor
      ·intro h r hr
       have h2:=h r hr
       rw[←zh3 hi' (ow.rg r hr)]
       simpa using h2
      ·intro h r hr
       rw[zh3 hi' (ow.rg r hr),h r hr]
       decide
     rw[em]
     have gsn:zdt tau i (k+1)=zdt tau i k++if decide (tau[i]?=some b)=true then [b] else []:=by
      unfold zdt
      rw[zaW hb,List.filter_append,List.filter_cons,List.filter_nil]
     have l10:=s710 _ _ l7
     have g10:=s710 _ _ g7
     have f10:Fr2 H5 H10 l gl:=fun c o e m1 m2=>s710 _ _ (f7 _ _ e m1 m2)
     have L10:∃ L':List (Option Bool),H10 l=some (.lst (L'.map oV))∧L'.length=A'.length∧∀ b':Bool,L'.set i (some b')=(trL S A' tau i).set i (some b'):=⟨_,l10,by rw[List.length_set,zb3],fun b'=>zlJ _ _ _ _⟩
     have gle:(zdt tau i k).length≤2:=by
      unfold zdt
      refine Nat.le_trans (List.length_filter_le _ _) ?_
      rw[List.length_take]
      exact Nat.min_le_right _ _
     refine aI (fun c=>?_) (fun c=>?_)
     ·rw[c,if_pos rfl]at gsn
      refine⟨_,rfl,.inl ⟨rfl,_,SqL.of g10⟩,_,rfl,gl,_,_,rfl,rfl,g10,zbS (by rw[List.length_map];omega),⟨_,rfl⟩,fun c' o e m1 m2=>by rw[aq m2];exact f10 _ _ e m1 m2,?_,?_⟩
      ·obtain⟨L2,e1,e2,e3⟩:=L10
       exact⟨L2,by rw[aq gll.symm];exact e1,e2,e3⟩
      ·rw[ad,gsn,List.map_append]
       rfl
     ·rw[if_neg c,List.append_nil]at gsn
      exact⟨⟨_,rfl⟩,f10,L10,by rw[gsn];exact g10⟩
   ·rintro σ H6 ⟨⟨w5,rfl⟩,f6,⟨L',hl6,lL,eL⟩,hg6⟩
    have eg:zdt tau i [V.bl true,V.bl false].length=[b0]:=by
     unfold zdt
     rw[eb]
     cases b0 <;> rfl
    rw[eg]at hg6
    refine⟨_,rfl,gl,_,rfl,.inl (SqL.of hg6),rfl,_,rfl,aI (fun c=>absurd c (by simp)) (fun _=>?_)⟩
    refine⟨_,rfl,gl,_,_,_,rfl,rfl,SqL.of hg6,zah (j:=0) rfl,_,rfl,_,rfl,_,_,rfl,rfl,l,_,_,i,rfl,rfl,hl6,zi5 (by rw[List.length_map,lL];exact hi'),?_⟩
    refine⟨⟨_,_,_,_,rfl⟩,fun c o e m1=>?_,?_⟩
    ·rw[aq m1]
     have e2:=f2 _ _ e m1
     refine f6 _ _ (s25 _ _ e2) m1 (fun ec=>?_)
     rw[ec,]at e2
     rw[s3 _ _ e2]at hgl
     cases hgl
    ·rw[ad,zjV,eL b0,zlF I hi' eb]
 ·rintro σ H2 ⟨⟨v2,v3,v4,v5,rfl⟩,f2,hl2⟩
  have e:(((((trL S A' tau 0).map oV).length:Nat):Int)+1 - 1).toNat=A'.length:=by omega
  rw[e,zlG I]at hl2
  exact q _ f2 hl2
end
end K75
namespace K75
open PySem L2
open F75 (Tr Fm dTr zaE dFm FOk fdp zaG zcz)
mutual
def GTr:Tr→Prop
 | .node n ts=>za9 n=true∧zdl ts
def zdl:List Tr→Prop
 | []=>True
 | t :: ts=>GTr t∧zdl ts
end
theorem zgI:∀ {ts:List Tr},(∀ t∈ts,GTr t)→zdl ts
 | [],_=>by simp only[zdl]
 | t :: ts,h=>by
  simp only[zdl]
  exact⟨h t (by simp),zgI fun u hu=>h u (List.mem_cons_of_mem _ hu)⟩
theorem ziq:∀ {ts:List Tr},zdl ts→∀ t∈ts,GTr t
 | t :: ts,h,u,hu=>by
  simp only[zdl]at h
  rcases List.mem_cons.mp hu with rfl | hu
  ·exact h.1
  ·exact ziq h.2 u hu
def GFm:Fm→Prop
 | .plain z=>za9 z=true
 | .bare _=>True
 | .same a b=>GTr a∧GTr b
 | .unlike ts=>∀ t∈ts,GTr t
 | .not f=>GFm f
 | .bin _ f g=>GFm f∧GFm g
theorem Rl.bind_er {α β:Type} {x:Rl α} {f:α→Rl β} {b:Bool} (h:x.bind f=.er b):x=.er b∨∃ a,x=.ok a∧f a=.er b:=by
 cases x with
 | ok a=>exact .inr ⟨a,rfl,h⟩
 | er c=>cases h;exact .inl rfl
theorem zma {T:List Tm} {n:Str} {ks:List Int} {b:Bool} (hn:za9 n=true) (h:zel T n ks=.er b):b=true:=by
 unfold zel at h
 rw[if_neg (by rw[hn];decide)]at h
 split at h
 ·cases h
 ·split at h
  ·cases h;rfl
  ·cases h
mutual
theorem zmi:∀(t:Tr) {T:List Tm} {b:Bool},GTr t→zcB T t=.er b→b=true
 | .node n ts,T,b,g,h=>by
  simp only[GTr]at g
  simp only[zcB]at h
  rcases Rl.bind_er h with h | ⟨x,_,h⟩
  ·exact zd1 ts g.2 h
  ·exact zma g.1 h
theorem zd1:∀(ts:List Tr) {T:List Tm} {b:Bool},zdl ts→zaC T ts=.er b→b=true
 | [],T,b,g,h=>by
  simp only[zaC]at h
  cases h
 | t :: ts,T,b,g,h=>by
  simp only[zdl]at g
  simp only[zaC]at h
  rcases Rl.bind_er h with h | ⟨x,_,h⟩
  ·exact zmi t g.1 h
  ·rcases Rl.bind_er h with h | ⟨y,_,h⟩
   ·exact zd1 ts g.2 h
   ·cases h
end
theorem zkL {A:List At} {z:Str} {b:Bool} (hn:za9 z=true) (h:zbC A z=.er b):b=true:=by
 unfold zbC at h
 rw[if_neg (by rw[hn];decide)]at h
 split at h
 ·cases h
 ·split at h
  ·cases h;rfl
  ·cases h
theorem zdK {R rs:List (List Int)} {b:Bool} (h:zbH R rs=.er b):b=true:=by
 unfold zbH at h
 split at h
 ·cases h
 ·cases h;rfl
theorem zi3 {a:Int}:∀ {bs:List Int} {A:List At} {b:Bool},za1 A a bs=.er b→b=true
 | [],A,b,h=>by
  simp only[za1]at h
  cases h
 | c :: bs,A,b,h=>by
  simp only[za1]at h
  rcases Rl.bind_er h with h | ⟨x,_,h⟩
  ·exact(zia h).1
  ·rcases Rl.bind_er h with h | ⟨y,_,h⟩
   ·exact zi3 h
   ·cases h
theorem zg5:∀ {as:List Int} {A:List At} {b:Bool},zaF A as=.er b→b=true
 | [],A,b,h=>by
  simp only[zaF]at h
  cases h
 | a :: as,A,b,h=>by
  simp only[zaF]at h
  rcases Rl.bind_er h with h | ⟨x,_,h⟩
  ·exact zi3 h
  ·rcases Rl.bind_er h with h | ⟨y,_,h⟩
   ·exact zg5 h
   ·cases h
theorem zey {S:List Str} (W:Few S):∀(f:Fm) {st:St} {b:Bool},Fit S st→LFm f→GFm f→(∀ z∈plF f,z∈S)→zaj S st f=.er b→b=true
 | .plain z,st,b,F,L,G,pl,h=>by
  simp only[zaj]at h
  rcases Rl.bind_er h with h | ⟨x,_,h⟩
  ·exact zkL G h
  ·cases h
 | .bare z,st,b,F,L,G,pl,h=>by
  simp only[zaj,zco]at h
  rcases Rl.bind_er h with h | ⟨x,_,h⟩
  ·exact(zgu F h).1
  ·rcases Rl.bind_er h with h | ⟨y,_,h⟩
   ·exact zdK h
   ·cases h
 | .same a c,st,b,F,L,G,pl,h=>by
  simp only[zaj]at h
  rcases Rl.bind_er h with h | ⟨x,_,h⟩
  ·exact zd1 _ (zgI fun t ht=>by
    simp only[List.mem_cons,List.not_mem_nil,or_false]at ht
    rcases ht with rfl | rfl
    ·exact G.1
    ·exact G.2) h
  ·rcases Rl.bind_er h with h | ⟨y,_,h⟩
   ·exact(zia h).1
   ·cases h
 | .unlike ts,st,b,F,L,G,pl,h=>by
  simp only[zaj,zeH]at h
  rcases Rl.bind_er h with h | ⟨x,e1,h⟩
  ·exact zd1 _ (zgI G) h
  ·rcases Rl.bind_er h with h | ⟨y,e2,h⟩
   ·exact zg5 h
   ·obtain⟨t1,_⟩:=zbm F.t _ e1
    obtain⟨m,_⟩:=zdf e2 F.a
    rcases Rl.bind_er h with h | ⟨u,_,h⟩
    ·exact(zgu (F.more t1 m) h).1
    ·rcases Rl.bind_er h with h | ⟨v,_,h⟩
     ·exact zdK h
     ·rcases Rl.bind_er h with h | ⟨v',_,h⟩
      ·exact zdK h
      ·cases h
 | .not f,st,b,F,L,G,pl,h=>by
  simp only[zaj]at h
  rcases Rl.bind_er h with h | ⟨x,_,h⟩
  ·exact zey W f F L G pl h
  ·cases h
 | .bin k f g,st,b,F,L,G,pl,h=>by
  simp only[zaj,zco]at h
  have pf:∀ z∈plF f,z∈S:=fun z hz=>pl z (by simp [plF,hz])
  have pg:∀ z∈plF g,z∈S:=fun z hz=>pl z (by simp [plF,hz])
  rcases Rl.bind_er h with h | ⟨x,e1,h⟩
  ·exact zey W f F L.1 G.1 pf h
  ·obtain⟨F1,_⟩:=za4 W (f:=f) F L.1 pf e1
   rcases Rl.bind_er h with h | ⟨y,e2,h⟩
   ·exact zey W g F1 L.2 G.2 pg h
   ·obtain⟨F2,_⟩:=za4 W (f:=g) F1 L.2 pg e2
    rcases Rl.bind_er h with h | ⟨u,_,h⟩
    ·exact(zgu F2 h).1
    ·rcases Rl.bind_er h with h | ⟨v,_,h⟩
     ·exact zdK h
     ·cases h
theorem zic {S:List Str} (W:Few S):∀(fs:List Fm) {st:St} {b:Bool},Fit S st→(∀ f∈fs,LFm f∧GFm f∧∀ z∈plF f,z∈S)→za2 S st fs=.er b→b=true
 | [],st,b,F,O,h=>by
  simp only[za2]at h
  cases h
 | f :: fs,st,b,F,O,h=>by
  simp only[za2]at h
  obtain⟨o1,o2,o3⟩:=O f (by simp)
  rcases Rl.bind_er h with h | ⟨x,e1,h⟩
  ·exact zey W f F o1 o2 o3 h
  ·obtain⟨F1,_⟩:=za4 W (f:=f) F o1 o3 e1
   rcases Rl.bind_er h with h | ⟨R,e2,h⟩
   ·exact zdK h
   ·obtain⟨rfl,l⟩:=zbk e2
    exact zic W fs (F1.rows l) (fun g hg=>O g (List.mem_cons_of_mem _ hg)) h
theorem zg8 {S:List Str} (W:Few S):∀(fs:List Fm) {st x:St},Fit S st→(∀ f∈fs,LFm f∧∀ z∈plF f,z∈S)→za2 S st fs=.ok x→Fit S x
 | [],st,x,F,O,h=>by
  simp only[za2]at h
  cases h
  exact F
 | f :: fs,st,x,F,O,h=>by
  simp only[za2]at h
  obtain⟨y,e1,e2⟩:=Rl.bind_ok h
  obtain⟨R,e3,e4⟩:=Rl.bind_ok e2
  obtain⟨o1,o3⟩:=O f (by simp)
  obtain⟨F1,_⟩:=za4 W (f:=f) F o1 o3 e1
  obtain⟨rfl,l⟩:=zbk e3
  exact zg8 W fs (F1.rows l) (fun g hg=>O g (List.mem_cons_of_mem _ hg)) e4
end K75
namespace K75
open PySem L2
open F75 (Tr Fm dTr zaE dFm FOk fdp zaG zcz)
theorem zh6 {P:Program} {w:World} {K:W.Frag} {mg:Str→Option Value} {base:Heap} {aK C CN CT CP CM CZ:Addr} {f fP fW fR' fU fB fS' fH:Addr} {fd dP dW dR'' dU dB dS' dH:FuncData} {fI fA fQ fS fR:Addr} {dI dA' dQ dS dR':FuncData} (F:Fun K "formula_part" "Namer.formula_part" zbp f fd) (T:Txt K mg aK C CN CT CP CM) (Z:TxZ K mg CZ) (G:Own P w K mg base C CN CT CP CM fI fA fQ fS fR dI dA' dQ dS dR') (GN:OwN P w K mg base CZ C CN CM fP fW dP dW)
  (bF:av K fd ["self","formula"] []) (mF:zbg K CZ "formula_part" f)
  (oS:FnOk P w K mg base (CX1 P w) 9 fS' dS' ["self","formula"] (zbA K CZ C CN CM fun g=>∃ a b,g=.same a b)) (bS:av K dS' ["self","formula"] []) (mS:zbg K CZ "same_part" fS')
  (oU:FnOk P w K mg base (CX1 P w) 9 fU dU ["self","formula"] (zbA K CZ C CN CM fun g=>∃ ts,g=.unlike ts)) (bU:av K dU ["self","formula"] []) (mU:zbg K CZ "unlike_part" fU)
  (oB:FnOk P w K mg base (CX1 P w) 6 fB dB ["self","formula"] (zbA K CZ C CN CM fun g=>∃ z,g=.bare z)) (bB:av K dB ["self","formula"] []) (mB:zbg K CZ "bare_part" fB)
  (FP:Fun K "pair_part" "Namer.pair_part" zbK fH dH) (bP:av K dH ["self","formula"] []) (mP:zbg K CZ "pair_part" fH) (BR:FB P w K mg base CX0 1 "pair_rows" fR' dR'' ["kind","new","one","other"] zgf) :
  ∀ n,FnOk P w K mg base (CX1 P w) (2 * n+10) f fd ["self","formula"] (zbA K CZ C CN CM fun g=>fdp g≤n)
 | 0=>F75.FnOk.no fun _ _ _ _ ⟨_,_,_,_,_,_,_,_,g,_,_,_,h,_⟩=>by
  have:=F75.fdp_pos g
  omega
 | n+1=>by
  have IH:=zh6 F T Z G GN bF mF oS bS mS oU bU mU oB bB mB FP bP mP BR n
  exact formp F T Z G bF mF IH oS bS mS oU bU mU oB bB mB (zlj FP Z GN BR IH bF mF) bP mP
end K75
namespace K75
open PySem L2
open F75 (Tr Fm dTr zaE dFm FOk fdp zaG zcz)
theorem zml:∀ c∈abc.cps.toList,isL ⟨#[c]⟩=true:=by decide +kernel
theorem zmj:∀ c∈abc.cps.toList,c < 1000:=by decide +kernel
theorem zjH {z:Str} (h:inV (.str z) zdT=true):∀ c∈z.cps.toList,c∉F75.marks:=by
 obtain⟨y,hy,e⟩:=List.any_eq_true.mp h
 have key:∀ w:Str,(∀ c∈w.cps.toList,c∉F75.marks)→eqV (.str w) (.str z)=true→∀ c∈z.cps.toList,c∉F75.marks:=fun w hw e=>by
  have e':w=z:=eq_of_beq e
  rw[←e']
  exact hw
 simp only[zdT,List.mem_cons,List.not_mem_nil,or_false]at hy
 rcases hy with rfl | rfl | rfl | rfl | rfl | rfl | rfl | rfl
 all_goals exact key _ (by decide +kernel) e
theorem zi9 {z:Str} (h:F75.GdZ z):za9 z=true∧Low z:=by
 have h1:=h.l1
 have h8:=h.l8
 have e1:(zdk z).all id=true:=by
  rw[List.all_eq_true]
  intro b hb
  unfold zdk at hb
  obtain⟨c,hc,rfl⟩:=List.mem_map.mp hb
  exact zml c (h.ab c hc)
 have e2:inV (.str z) zdT=false:=by
  cases e:inV (.str z) zdT with
  | false=>rfl
  | true =>
   obtain⟨c,hc,hm⟩:=h.mr
   exact absurd hm (zjH e c hc)
 refine⟨?_,by omega,fun c hc=>zmj c (h.ab c hc)⟩
 unfold za9 zfO
 rw[e1,e2,decide_eq_true (by omega:(0:Int) < (z.length:Int)),decide_eq_true (by omega:(z.length:Int)≤8)]
 rfl
mutual
theorem zgc {zs:List Str} (hz:∀ z∈zs,F75.GdZ z):∀ t:Tr,F75.wt zs t < 1000000→LTr t∧GTr t
 | .node n ts,h=>by
  simp only[F75.wt]at h
  by_cases c:n∈zs∧ts.length≤3
  ·obtain⟨a,b⟩:=zfv hz ts (by omega)
   obtain⟨g1,g2⟩:=zi9 (hz n c.1)
   simp only[LTr,GTr]
   exact⟨⟨g2,c.2,a⟩,g1,b⟩
  ·rw[if_neg c]at h
   omega
theorem zfv {zs:List Str} (hz:∀ z∈zs,F75.GdZ z):∀ ts:List Tr,F75.wts zs ts < 1000000→zfq ts∧zdl ts
 | [],_=>by simp only[zfq,zdl];exact⟨trivial,trivial⟩
 | t :: ts,h=>by
  simp only[F75.wts]at h
  obtain⟨a,b⟩:=zgc hz t (by omega)
  obtain⟨c,d⟩:=zfv hz ts (by omega)
  simp only[zfq,zdl]
  exact⟨⟨a,c⟩,b,d⟩
end
mutual
theorem zji {zs:List Str}:∀ t:Tr,F75.wt zs t < 1000000→∀ z∈wTr t,z∈zs
 | .node n ts,h,z,hz=>by
  simp only[F75.wt]at h
  simp only[wTr]at hz
  by_cases c:n∈zs∧ts.length≤3
  ·rcases List.mem_cons.mp hz with rfl | hz
   ·exact c.1
   ·exact zhq ts (by omega) z hz
  ·rw[if_neg c]at h
   omega
theorem zhq {zs:List Str}:∀ ts:List Tr,F75.wts zs ts < 1000000→∀ z∈zdB ts,z∈zs
 | [],_,z,hz=>by simp only[zdB]at hz;exact(nomatch hz)
 | t :: ts,h,z,hz=>by
  simp only[F75.wts]at h
  simp only[zdB]at hz
  rcases List.mem_append.mp hz with hz | hz
  ·exact zji t (by omega) z hz
  ·exact zhq ts (by omega) z hz
end
theorem zez {zs:List Str} (hz:∀ z∈zs,F75.GdZ z):∀ g:Fm,F75.fwt zs g < 1000000→LFm g∧GFm g∧(∀ z∈plF g,z∈zs)∧(∀ z∈wFm g,z∈zs)∧(plF g).length≤F75.fwt zs g+1
 | .plain z,h=>by
  simp only[F75.fwt]at h
  by_cases c:z∈zs
  ·obtain⟨g1,g2⟩:=zi9 (hz z c)
   exact⟨g2,g1,fun y hy=>by rw[List.mem_singleton.mp hy];exact c,fun y hy=>(nomatch hy),by simp [plF]⟩
  ·rw[if_neg c]at h
   omega
 | .bare z,h=>⟨trivial,trivial,fun y hy=>(nomatch hy),fun y hy=>(nomatch hy),by simp [plF]⟩
 | .same a b,h=>by
  simp only[F75.fwt]at h
  obtain⟨a1,a2⟩:=zgc hz a (by omega)
  obtain⟨b1,b2⟩:=zgc hz b (by omega)
  refine⟨⟨a1,b1⟩,⟨a2,b2⟩,fun y hy=>(nomatch hy),fun y hy=>?_,by simp [plF]⟩
  simp only[wFm]at hy
  rcases List.mem_append.mp hy with hy | hy
  ·exact zji a (by omega) y hy
  ·exact zji b (by omega) y hy
 | .unlike ts,h=>by
  simp only[F75.fwt]at h
  by_cases c:2≤ts.length∧ts.length≤5
  ·obtain⟨a1,a2⟩:=zfv hz ts (by omega)
   exact⟨⟨zfM a1,c.1,c.2⟩,ziq a2,fun y hy=>(nomatch hy),fun y hy=>by simp only[wFm]at hy;exact zhq ts (by omega) y hy,by simp [plF]⟩
  ·rw[if_neg c]at h
   omega
 | .not f,h=>by
  simp only[F75.fwt]at h
  obtain⟨a,b,c,c2,d⟩:=zez hz f (by omega)
  exact⟨a,b,c,c2,by simp only[plF,F75.fwt];omega⟩
 | .bin k f g,h=>by
  simp only[F75.fwt]at h
  obtain⟨a,b,c,c2,d⟩:=zez hz f (by omega)
  obtain⟨a',b',c',c2',d'⟩:=zez hz g (by omega)
  refine⟨⟨a,a'⟩,⟨b,b'⟩,fun y hy=>?_,fun y hy=>?_,by simp only[plF,F75.fwt,List.length_append];omega⟩
  ·simp only[plF]at hy
   exact(List.mem_append.mp hy).elim (c y) (c' y)
  ·simp only[wFm]at hy
   exact(List.mem_append.mp hy).elim (c2 y) (c2' y)
structure FsG (zs:List Str) (fs:List Fm):Prop where
 ok:∀ g∈fs,FOk g∧LFm g∧fdp g≤12
 gd:∀ g∈fs,GFm g
 fw:∀ g∈fs,FW zs g
 pl:(zaz fs).length≤90000
 l4:zs.length≤6
 fl:fs.length≤900
theorem zjY {zs:List Str} {fs:List Fm} (h:FsG zs fs):∀ z∈zaz fs,z∈zs:=fun z hz=>by
 obtain⟨f,hf,hzf⟩:=List.mem_flatMap.mp hz
 exact(h.fw f hf).p z hzf
theorem zgv {fs:List Fm} {f:Fm} {z:Str} (h:f∈fs) (hz:z∈plF f):z∈zaz fs:=List.mem_flatMap.mpr ⟨f,h,hz⟩
theorem zfX {zs:List Str} {fs:List Fm} (h:FsG zs fs):Few (zaz fs):=⟨zs,h.l4,zjY h⟩
theorem ziU {zs:List Str}:∀ fs:List Fm,(∀ g∈fs,(plF g).length≤F75.fwt zs g+1)→(zaz fs).length≤F75.fsum zs fs
 | [],_=>by simp [zaz]
 | f :: fs,h=>by
  have h1:=ziU (zs:=zs) fs fun g hg=>h g (List.mem_cons_of_mem _ hg)
  have h3:=h f (by simp)
  have e:zaz (f :: fs)=plF f++zaz fs:=rfl
  rw[e,List.length_append]
  simp only[F75.fsum,List.map_cons,List.sum_cons]at h1 ⊢
  omega
theorem FsG.of {fs:List Fm} {zs:List Str} (hz:∀ z∈zs,F75.GdZ z) (l4:zs.length=4) (ok:∀ g∈fs,FOk g∧fdp g≤12) (sm:F75.fsum zs fs≤90000) (fl:fs.length≤900):FsG zs fs:=by
 have each:=fun g (hg:g∈fs)=>zez hz g (by have:=F75.fsum_mem (zs:=zs) hg;omega)
 have pl:=ziU (zs:=zs) fs fun g hg=>(each g hg).2.2.2.2
 exact⟨fun g hg=>⟨(ok g hg).1,(each g hg).1,(ok g hg).2⟩,fun g hg=>(each g hg).2.1,fun g hg=>⟨(each g hg).2.2.2.1,(each g hg).2.2.1,(each g hg).1⟩,by omega,by omega,fl⟩
theorem ze7 {zs:List Str} {fs:List Fm} {st:St} (h:FsG zs fs) (e:za2 (zaz fs) st0 fs=.ok st) (c:Int):∃ tau,Inv (pF zs c) (zaz fs) (za8 (vF zs c) [] st.T) st.A.length st.A st.R tau∧zbN (lt tau) st.R=fs.all (hFm (vF zs c) (pF zs c)):=by
 have W:=zfX h
 obtain⟨_,w,_⟩:=zfc fs e
 have V:=zgQ (vF zs c) _ st.T rfl (w WT.nil)
 obtain⟨tau,I,q⟩:=zg7 (pT:=pF zs c) V W fs (fit0 _) (fun f hf=>⟨(h.ok f hf).1,(h.ok f hf).2.1,fun z hz=>zgv hf hz⟩) e (List.prefix_refl _) (tau:=[]) Inv.nil
 exact⟨tau,I,q⟩
theorem zeA {fs:List Fm} (h:∀ g∈fs,FOk g∧fdp g≤12):zau (fs.map dFm)≤20:=by
 induction fs with
 | nil=>simp [zau]
 | cons f fs ih =>
  have h1:=ih fun g hg=>h g (List.mem_cons_of_mem _ hg)
  have h2:=F75.dep_dFm f (h f (by simp)).1
  have h3:=(h f (by simp)).2
  simp only[List.map_cons,zau]
  omega
theorem zhd {α:Type} (g:α→Dt) (p:α→Bool) (xs:List α):((xs.filter fun x=>!p x).map g).isEmpty=xs.all p:=by
 rw[List.isEmpty_map,Bool.eq_iff_iff,List.isEmpty_iff,List.filter_eq_nil_iff,List.all_eq_true]
 exact⟨fun h x hx=>by simpa using h x hx,fun h x hx=>by rw[h x hx];decide⟩
abbrev NW:List Str:=["_law_script","_law_names_here","_law_formulas_here","_law_own","_law_formula","_law_problem","_law_k","_law_cell","_law_truths_here","_law_due"]
section
variable {P:Program} {w:World} {K:W.Frag} {mg:Str→Option Value} {base:Heap} {aK aO C CN CT CP CM CZ:Addr} {f fN fH fL fR' fC fZ fG fM fT fF:Addr} {fd dN dH dL dR'' dC dZ dG dM dT' dF:FuncData}
theorem zcb:zae NW ["_law_script"] (ao zdS):=⟨rfl,rfl,rfl,by decide +kernel,rfl,by decide +kernel,by decide +kernel⟩
set_option maxHeartbeats 4000000 in
theorem law5 (T:Txt K mg aK C CN CT CP CM) (BC:FB P w K mg base CX0 1 "_law_cell_at" fC dC ["_law_script","_law_k"] (F75.sp_cell K)) (BM:FB P w K mg base CX0 1 "_law_mixed" fM dM ["_law_cell","_law_k"] zcM) (BT:FB P w K mg base CX0 3 "_law_truths" fT dT' ["_law_problem","_law_names_here","_law_own","_law_cell"] (zeS K C)) (BF:FB P w K mg base CX0 2 "_law_forced" fF dF ["_law_problem","_law_truths_here"] (zeT K C)) (BH:FB P w K mg base CX0 16 "_law_holds" fH dH ["_law_formula","_law_names_here","_law_cell"] (zgg K 12)) (BR:FB P w K mg base CX0 1 "_law_row_holds" fR' dR'' ["_law_row","_law_truths_here"] (zho K))
  {cdv:Value} {A:Around} {outer:List Env} {s:Shared} {H0:Hp} {E:XK} (hr:aE 37 (A.deeper (PyProof.Rows.envOfC "law" (ao zdS) s.heap.objs.size f cdv))) :
  ∃ t,PSs (zbT CX0 P w K mg base NW "law" (ao zdS) f cdv A outer s H0 E).nox ((zaO zdS).drop 5) t ∧
   ∀(Dn:zbt) (H:Hp) (a nl l ol p tl al rl:Addr) (ns:List Int) (zs:List Str) (xs:List V) (fs:List Fm) (st:St) (v4:Option V),SqL K H a (ns.map V.int)→H nl=some (.lst (zs.map V.str))→H l=some (.lst xs)→HasL K H (fs.map dFm) xs→H ol=some (.lst ((zaz fs).map V.str))→zaB K C H p tl al rl st.T st.A st.R→FsG zs fs→za2 (zaz fs) st0 fs=.ok st→(∀ H',Dn.rt (.bl true) H') →
    t Dn [some (.ref a),some (.ref nl),some (.ref l),some (.ref ol),v4,some (.ref p),none,none,none,none] H:=by
 have hr1:aE 1 _:=hr.mono (by decide)
 have hr2:aE 2 _:=hr.mono (by decide)
 have hr3:aE 3 _:=hr.mono (by decide)
 have hr16:aE 16 _:=hr.mono (by decide)
 have hu:=zem hr
 refine⟨_,(ae (zaZ PassesOwn.never rfl (za6 (zam (aa ag (aa ag ac)))) (zay (i:=6) zcb.nd rfl (Or.inl rfl))
   (ae (aA (i:=7) zcb.nd rfl (Or.inr rfl) (zaa BM.ok hr1 rfl BM.m BM.kp BM.b .nil zal (aa (zaa BC.ok hr1 rfl BC.m BC.kp BC.b .nil zal (aa (pv 0) (aa (pv 6) ac))) (aa (pv 6) ac))))
    (ae (aA (i:=8) zcb.nd rfl (Or.inr rfl) (zaa BT.ok hr3 rfl BT.m BT.kp BT.b .nil zal (aa (pv 5) (aa (pv 1) (aa (pv 3) (aa (pv 7) ac))))))
    (ae (zao (zeJ (zeI (zaa BF.ok hr2 rfl BF.m BF.kp BF.b .nil zal (aa (pv 5) (aa (pv 8) ac)))))
     (aj (ax zcT))
     zad)
    (ae (aA (i:=9) zcb.nd rfl (Or.inl rfl) (zbb (zhC hu) (zhA (N':=["_law_formula","_law_names_here","_law_cell"]) (ix:=[1,7]) rfl rfl (by decide +kernel) (by decide +kernel) rfl (fun ok=>zbY (sc:=ao zdS) ok rfl (by decide +kernel) (by decide +kernel)) (by decide +kernel) rfl rfl (fun j i h=>match j,h with | 0,h=>by cases h;exact⟨_,rfl,rfl,.inl rfl,.inl rfl⟩ | 1,h=>by cases h;exact⟨_,rfl,rfl,.inl rfl,.inl rfl⟩ | n+2,h=>by simp at h) (za6 (pv 2)) (fun _ _ _ _=>(zeJ (zeI (zaa BH.ok hr16 rfl BH.m BH.kp BH.b .nil zal (aa (pv 0) (aa (pv 1) (aa (pv 2) ac))))))) (fun _ _ _ _=>(pv 0))) (zam ac) rfl))
    (aj (zao (aw op_ne (pv 9) (zbb (zhC hu) (zhA (N':=["_law_row","_law_truths_here"]) (ix:=[8]) rfl rfl (by decide +kernel) (by decide +kernel) rfl (fun ok=>zbY (sc:=ao zdS) ok rfl (by decide +kernel) (by decide +kernel)) (by decide +kernel) rfl rfl (fun j i h=>match j,h with | 0,h=>by cases h;exact⟨_,rfl,rfl,.inl rfl,.inl rfl⟩ | n+1,h=>by simp at h) (za6 (zaR (pv 5) rfl)) (fun _ _ _ _=>(zeJ (zeI (zaa BR.ok hr1 rfl BR.m BR.kp BR.b .nil zal (aa (pv 0) (aa (pv 1) ac)))))) (fun _ _ _ _=>(pv 0))) (zam ac) rfl) (ay _))
     (aj (ax zcT))
     zad)))))))
  (aj (ax zcT))),?_⟩
 intro Dn H a nl l ol p tl al rl ns zs xs fs st v4 hS hN hl hx hO pr G est q
 have F0:=zg8 (zfX G) fs (fit0 _) (fun g hg=>⟨(G.ok g hg).2.1,fun z hz=>zgv hg hz⟩) est
 obtain⟨_,wtT,nmT⟩:=zfc fs est
 have sm:=zib fs est (fun a b z=>nomatch z)
 have hzT:∀ y∈st.T,y.1∈zs:=fun y hy=>by
  rcases nmT y hy with h | ⟨f,hf,h⟩
  ·exact nomatch h
  ·exact(G.fw f hf).w _ h
 have xl:xs.length=fs.length:=by rw[←hx.length,List.length_map]
 have fl:=G.fl
 refine⟨lS2,fun kl hkl=>?_⟩
 have s1:=ak hkl (.lst [V.int 2,V.int 3])
 have n1:=ad (H:=H) (a:=kl) (o:=.lst [V.int 2,V.int 3])
 generalize upd H kl (.lst [V.int 2,V.int 3])=H1 at s1 n1
 refine⟨kl,rfl,⟨_,SqL.of n1⟩,zbO za5 (fun i σ H'=>ar H1 H'∧∃ v6 v7 v8 v9:Option V,σ=[some (.ref a),some (.ref nl),some (.ref l),some (.ref ol),v4,some (.ref p),v6,v7,v8,v9]) (fun i σ H' ⟨s',_⟩=>SqL.of (s' _ _ n1)) ⟨ar.refl _,none,none,none,none,rfl⟩ ?_ ?_⟩
 ·rintro i σ H12 x H2 hi ⟨s2,v6,v7,v8,v9,rfl⟩ ⟨rfl,hy⟩
  obtain⟨k,rfl,k0⟩:∃ k:Int,x=.int k∧0≤k:=by
   have:=hy _ (SqL.of (s2 _ _ n1))
   match i,hi,this with
   | 0,_,h=>cases h;exact⟨2,rfl,by decide⟩
   | 1,_,h=>cases h;exact⟨3,rfl,by decide⟩
  have s02:=s1.trans s2
  refine⟨_,rfl,_,rfl,a,ns,k,rfl,s02.seq hS,k0,fun c0=>⟨_,rfl,c0,k,rfl,?_⟩⟩
  generalize mixF c0 k=c
  obtain⟨tau,I,ea⟩:=ze7 G est c
  refine⟨_,rfl,_,rfl,_,rfl,_,rfl,p,tl,al,rl,nl,ol,c,st.T,st.A,st.R,zs,zaz fs,rfl,pr.same s02,s02 _ _ hN,s02 _ _ hO,wtT WT.nil,hzT,zjY G,F0.t,F0.a,sm,fun H4 tr s4 n4 h4=>?_⟩
  have s04:=s02.trans s4
  obtain⟨⟨dx,ho⟩,⟨_,ht,_⟩,⟨_,hal,_⟩,⟨rs,hrs,hR⟩,_⟩:=id (pr.same s02)
  have m1:tr≠tl:=fun e=>by rw[e,ht]at n4;cases n4
  have m2:tr≠al:=fun e=>by rw[e,hal]at n4;cases n4
  have m3:tr≠rl:=fun e=>by rw[e,hrs]at n4;cases n4
  refine⟨_,rfl,_,rfl,p,tl,al,rl,tr,st.T,st.A,st.R,tau,zaz fs,pF zs c,_,rfl,pr.same s04,m1,m2,m3,by rw[zk0 I];exact h4,I,F0.a,F0.r,fun H5 f5 h5=>?_⟩
  have s25:ar H2 H5:=fun b o e=>f5 _ _ (s4 _ _ e) (zag e n4)
  have s05:=s02.trans s25
  refine⟨_,rfl,zbM ?_⟩
  refine⟨_,rfl,l,rfl,⟨_,SqL.of (s05 _ _ hl)⟩,fun D hD=>?_⟩
  refine zfW za5 (fun j us H'=>ar H5 H'∧HasL K H' (((fs.take j).filter fun g=>!hFm (vF zs c) (pF zs c) g).map dFm) us) (fun j us H' ⟨s',_⟩=>SqL.of (s' _ _ (s05 _ _ hl))) ⟨ak hD _,HasL.nil⟩ ?_ ?_
  ·rintro j us H6 x H7 hj hly hDs ⟨s6,hus⟩ ⟨rfl,hx6⟩
   obtain⟨g,hg,hxg⟩:=F75.fms_get (hx.keep (s05.trans s6).kt (F75.nols_fms _)) (hx6 _ (SqL.of (s6 _ _ (s05 _ _ hl))))
   have gm:=List.mem_of_getElem? hg
   refine⟨_,rfl,_,rfl,_,rfl,x,nl,c,g,zs,rfl,hxg,(s05.trans s6) _ _ hN,(G.ok g gm).1,(G.ok g gm).2.2,G.fw g gm,fun H8 s8=>⟨_,rfl,?_⟩⟩
   have fsn:(fs.take (j+1)).filter (fun g=>!hFm (vF zs c) (pF zs c) g)=(fs.take j).filter (fun g=>!hFm (vF zs c) (pF zs c) g)++if(!hFm (vF zs c) (pF zs c) g)=true then [g] else []:=by
    rw[zaW hg,List.filter_append,List.filter_cons,List.filter_nil]
   have hus8:=hus.keep s8.kt (F75.nols_fms _)
   cases e:hFm (vF zs c) (pF zs c) g with
   | true =>
    rw[e]at fsn
    refine zbM (zfd hj hly (s8 _ _ hDs) ⟨s6.trans s8,?_⟩)
    rw[fsn]
    simpa using hus8
   | false =>
    rw[e]at fsn
    refine zcq ⟨_,rfl,?_⟩
    refine zbQ (sz _ (by omega)) hj hly (s8 _ _ hDs) ⟨(s6.trans s8).upd hD,?_⟩
    rw[fsn,if_pos (show(!false)=true from rfl),List.map_append]
    have kt:=zak.but (o:=.lst (us++[x])) (s8 _ _ hDs) (fun _ e=>by cases e) (fun _ _ e=>by cases e)
    exact(hus8.keep kt (F75.nols_fms _)).append (.cons (hxg.keep (s8.kt.trans kt) (F75.nol_dFm _)) .nil)
  ·rintro us H6 hD6 ⟨s6,hus⟩
   rw[xl,List.take_length]at hus
   refine⟨lS0,fun el hel=>?_⟩
   have s7:=ak hel (.lst [])
   have n7:=ad (H:=H6) (a:=el) (o:=.lst [])
   generalize upd H6 el (.lst [])=H7 at s7 n7
   have df:zau ((fs.filter fun g=>!hFm (vF zs c) (pF zs c) g).map dFm)≤20:=zeA fun g hg=>⟨(G.ok g (List.mem_filter.mp hg).1).1,(G.ok g (List.mem_filter.mp hg).1).2.2⟩
   refine⟨_,_,Has.lst' (SqL.of (s7 _ _ hD6)) (hus.keep s7.kt (F75.nols_fms _)),Has.lst' (SqL.of n7) HasL.nil,by have:=zhK df;omega,?_⟩
   rw[zgp,zhd]
   have s57:=s6.trans s7
   have s27:=s25.trans s57
   refine⟨_,rfl,_,rfl,p,C,dx,_,_,rfl,s27 _ _ ho,T.cl,T.nR,zdh tl al rl,rl,rfl,⟨_,SqL.of (s27 _ _ hrs)⟩,fun D2 hD2=>?_⟩
   have rsl:rs.length=st.R.length:=by rw[←hR.length,List.length_map]
   have r200:=F0.r
   refine zfW za5 (fun j us H'=>ar H7 H'∧HasL K H' (((st.R.take j).filter fun r=>!zaA (lt tau) r).map dR) us) (fun j us H' ⟨s',_⟩=>SqL.of (s' _ _ (s27 _ _ hrs))) ⟨ak hD2 _,HasL.nil⟩ ?_ ?_
   ·rintro j us H8 x H9 hj hly hDs ⟨s8,hus⟩ ⟨rfl,hx8⟩
    obtain⟨r,pr',er,rfl,hpr⟩:=zfb (hR.keep (s27.trans s8).kt (zai zaX _)) (hx8 _ (SqL.of (s8 _ _ (s27 _ _ hrs))))
    have rm:=List.mem_of_getElem? er
    have tl5:=(s57.trans s8) _ _ h5
    refine⟨_,rfl,_,rfl,pr',tr,r,_,rfl,hpr,tl5,fun k' hk'=>?_,?_⟩
    ·rw[List.length_map,I.len]
     exact(I.rg r rm).2 k' hk'
    rw[lo_all I]
    refine⟨_,rfl,?_⟩
    have fsn:(st.R.take (j+1)).filter (fun r=>!zaA (lt tau) r)=(st.R.take j).filter (fun r=>!zaA (lt tau) r)++if(!zaA (lt tau) r)=true then [r] else []:=by
     rw[zaW er,List.filter_append,List.filter_cons,List.filter_nil]
    cases e:zaA (lt tau) r with
    | true =>
     rw[e]at fsn
     refine zbM (zfd hj hly hDs ⟨s8,?_⟩)
     rw[fsn]
     simpa using hus
    | false =>
     rw[e]at fsn
     refine zcq ⟨_,rfl,?_⟩
     refine zbQ (sz _ (by omega)) hj hly hDs ⟨s8.upd hD2,?_⟩
     rw[fsn,if_pos (show(!false)=true from rfl),List.map_append]
     have kt:=zak.but (o:=.lst (us++[V.ref pr'])) hDs (fun _ e=>by cases e) (fun _ _ e=>by cases e)
     exact(hus.keep kt (zai zaX _)).append (.cons (Has.tup' (kt.sq hpr) (HasL.ints _)) .nil)
   ·rintro us H8 hD8 ⟨s8,hus⟩
    rw[rsl,List.take_length]at hus
    refine⟨lS0,fun el2 hel2=>?_⟩
    have s9:=ak hel2 (.lst [])
    have n9:=ad (H:=H8) (a:=el2) (o:=.lst [])
    generalize upd H8 el2 (.lst [])=H9 at s9 n9
    refine⟨_,_,Has.lst' (SqL.of (s9 _ _ hD8)) (hus.keep s9.kt (zai zaX _)),Has.lst' (SqL.of n9) HasL.nil,by have:=zhK (zhe (st.R.filter fun r=>!zaA (lt tau) r));omega,?_⟩
    rw[zgp,zhd]
    refine⟨rfl,_,rfl,aI (fun c'=>?_) (fun _=>?_)⟩
    ·exfalso
     have ee:st.R.all (zaA (lt tau))=fs.all (hFm (vF zs c) (pF zs c)):=ea
     rw[ee]at c'
     simp at c'
    ·exact⟨s2.trans (s27.trans (s8.trans s9)),_,_,_,_,rfl⟩
 ·rintro σ H2 _
  exact q H2
def zfQ (K:W.Frag):Sp:=fun vs H Q _=>∃(a:Addr) (ns:List Int),vs=[.ref a]∧SqL K H a (ns.map V.int)∧ns.length≤63∧∀ H',Q (.bl true) H'
set_option maxHeartbeats 2000000 in
theorem ok_law (F:Fun K "law" "law" zdS f fd) (T:Txt K mg aK C CN CT CP CM) (xm:W.exmOne K (.ref CM) (.ref CM)=some true) (BN:FB P w K mg base (CX1 P w) 35 "named" fN dN ["formulas"] (zfx K C CN CM)) (BL:FB P w K mg base CX0 13 "_law_plain_in" fL dL ["_law_formula"] (zjQ K 12)) (BC:FB P w K mg base CX0 1 "_law_cell_at" fC dC ["_law_script","_law_k"] (F75.sp_cell K)) (BM:FB P w K mg base CX0 1 "_law_mixed" fM dM ["_law_cell","_law_k"] zcM) (BT:FB P w K mg base CX0 3 "_law_truths" fT dT' ["_law_problem","_law_names_here","_law_own","_law_cell"] (zeS K C)) (BF:FB P w K mg base CX0 2 "_law_forced" fF dF ["_law_problem","_law_truths_here"] (zeT K C)) (BH:FB P w K mg base CX0 16 "_law_holds" fH dH ["_law_formula","_law_names_here","_law_cell"] (zgg K 12)) (BR:FB P w K mg base CX0 1 "_law_row_holds" fR' dR'' ["_law_row","_law_truths_here"] (zho K))
  (BZ:FB P w K mg base CX0 3 "_law_names" fZ dZ ["_law_cell"] F75.sp_names) (BG:FB P w K mg base CX0 6 "_law_formulas" fG dG ["_law_script","_law_begin","_law_names_here","_law_many"] (F75.sp_formulas K)):FnOk P w K mg base CX0 38 f fd ["_law_script"] (zfQ K):=by
 refine F.ok zcb (fun vs H Q E h=>?_) (fun cdv A outer s H vs Q E hr h=>?_)
 ·obtain⟨a,ns,rfl,_⟩:=h
  rfl
 obtain⟨a,ns,rfl,hS,_,q⟩:=h
 have hr1:aE 1 _:=hr.mono (by decide)
 have hr3:aE 3 _:=hr.mono (by decide)
 have hr6:aE 6 _:=hr.mono (by decide)
 have hr13:aE 13 _:=hr.mono (by decide)
 have hr35:aE 35 _:=hr.mono (by decide)
 obtain⟨t5,h5,g5⟩:=law5 (f:=f) (outer:=outer) (H0:=H) (E:=E) (base:=base) T BC BM BT BF BH BR hr
 refine⟨_,(ae (aA (i:=1) zcb.nd rfl (Or.inr rfl) (zaa BZ.ok hr3 rfl BZ.m BZ.kp BZ.b .nil zal (aa (zaa BC.ok hr1 rfl BC.m BC.kp BC.b .nil zal (aa (pv 0) (aa ag ac))) ac)))
  (ae (aA (i:=2) zcb.nd rfl (Or.inl rfl) (zaa BG.ok hr6 rfl BG.m BG.kp BG.b .nil zal (aa (pv 0) (aa ag (aa (pv 1) (aa (au zaL (zaa BC.ok hr1 rfl BC.m BC.kp BC.b .nil zal (aa (pv 0) (aa ag ac))) ag) ac))))))
  (ae (aA (i:=3) zcb.nd rfl (Or.inl rfl) (zam ac))
  (ae (zaZ PassesOwn.never rfl (za6 (pv 2)) (zay (i:=4) zcb.nd rfl (Or.inl rfl))
   (aj (aA (i:=3) zcb.nd rfl (Or.inl rfl) (au zcW (pv 3) (zaa BL.ok hr13 rfl BL.m BL.kp BL.b .nil zal (aa (pv 4) ac))))))
  (ae (zlR rfl rfl (fun pins E1 Eb σ0 hp=>aj (aA (i:=5) zcb.nd rfl (Or.inl rfl) (zlc BN.ok hr35 rfl BN.m BN.kp BN.b .nil hp (aa (pv 2) ac))))
   (zlU rfl T.bmany (fun ea=>aj (ax zcT)) zk8))
  h5))))),?_⟩
 refine⟨_,rfl,a,ns,_,rfl,hS,(by decide),fun c0=>⟨_,rfl,fun H1 nl zs s1 nn hn l4 gz=>?_⟩⟩
 have N1:F75.Names H1 nl zs:=⟨hn,l4,fun z hz=>by have:=(gz z hz).l8;omega⟩
 refine⟨_,rfl,_,rfl,_,rfl,a,ns,_,rfl,s1.seq hS,(by decide),fun c1=>?_⟩
 have b9:=F75.modB c1 (show(0:Int) < 9 by decide)
 refine⟨_,_,rfl,rfl,(by show(0:Int) < 9;decide),a,nl,ns,zs,4,c1 % 9,rfl,s1.seq hS,(by decide),N1,b9.1,by omega,fun H2 l ys gs s2 hl hy PL=>?_⟩
 have s02:=s1.trans s2
 have ple:=PL.le
 have psm:=PL.sm
 have i8:(c1 % 9).toNat≤8:=by omega
 have okg:∀ g∈gs,FOk g∧fdp g≤12:=fun g hg=>⟨(PL.ok g hg).1,by have:=(PL.ok g hg).2;omega⟩
 have G:FsG zs gs:=FsG.of gz l4 okg (by omega) (by omega)
 refine⟨lS0,fun ol0 ho0=>?_⟩
 have s3:=ak ho0 (.lst [])
 have n3:=ad (H:=H2) (a:=ol0) (o:=.lst [])
 generalize upd H2 ol0 (.lst [])=H3 at s3 n3
 have yl:ys.length=gs.length:=by rw[←hy.length,List.length_map]
 refine⟨_,rfl,l,rfl,⟨_,SqL.of (s3 _ _ hl)⟩,zbO za5 (fun i σ H'=>ar H2 H'∧∃(ol:Addr) (v4:Option V),σ=[some (.ref a),some (.ref nl),some (.ref l),some (.ref ol),v4,none,none,none,none,none]∧H' ol=some (.lst ((zaz (gs.take i)).map V.str))) (fun i σ H' ⟨s',_⟩=>SqL.of (s' _ _ hl)) ⟨s3,ol0,none,rfl,n3⟩ ?_ ?_⟩
 ·rintro i σ H4 x H5 hi ⟨s4,ol,v4,rfl,ho⟩ ⟨rfl,hx4⟩
  obtain⟨g,hg,hxg⟩:=F75.fms_get (hy.keep s4.kt (F75.nols_fms _)) (hx4 _ (SqL.of (s4 _ _ hl)))
  have gm:=List.mem_of_getElem? hg
  have pl:=zgn gs (i+1)
  rw[zcQ hg,List.length_append]at pl
  have opl:=G.pl
  refine⟨_,rfl,_,rfl,x,g,rfl,hxg,(G.ok g gm).1,(G.ok g gm).2.2,by omega,fun H6 l6 s6 n6 h6=>?_⟩
  refine⟨ol,l6,_,_,rfl,rfl,s6 _ _ ho,h6,szB (by rw[List.length_map,List.length_map];omega),fun t9 ht9=>?_⟩
  refine⟨(s4.trans s6).trans (ak ht9 _),t9,_,rfl,?_⟩
  rw[zcQ hg,List.map_append,ad]
 ·rintro σ H4 ⟨s4,ol,v4,rfl,ho⟩
  rw[yl,List.take_length]at ho
  have s04:=s02.trans s4
  refine⟨rfl,_,rfl,l,ys,gs,rfl,s4 _ _ hl,hy.keep s4.kt (F75.nols_fms _),G.ok,by have:=G.pl;omega,zfX G,fun st est H5 p tl al rl s5 np nt na nr pr5=>?_,fun b eb H5 s5=>?_⟩
  ·exact g5 _ H5 a nl l ol p tl al rl ns zs ys gs st _ ((s04.trans s5).seq hS) ((s2.trans (s4.trans s5)) _ _ hn) ((s4.trans s5) _ _ hl) (hy.keep (s4.trans s5).kt (F75.nols_fms _)) (s5 _ _ ho) pr5 G est q
  ·have eb':=zic (zfX G) gs (fit0 _) (fun g hg=>⟨(G.ok g hg).2.1,G.gd g hg,fun z hz=>zgv hg hz⟩) eb
   subst eb'
   exact⟨CM,rfl,true,xm,zcq (q H5)⟩
end
end K75
namespace K75
open PySem L2
set_option maxHeartbeats 4000000 in
theorem all_mk {l:W.OpenLaw} {w:World} {K:W.Frag} {h:Heap} {mg:Str→Option Value} {fa aK C CN CT CP CM aO CZ f1 f2 f3 f4 f5 f6 f7 f8 f9 f10 f11 f12 f13 f14 f15 f16 f17 f18 f19 f20 f21 f22 f23 f24 f25 f26 f27 f28 f29 f30 f31 f32 f33 f34 f35 f36 f37 f38 f39 f40 f41 f42 f43:Addr} (X:K.In h) (G:h.Ns mainGlobals mg) (hfa:mg "law"=some (.ref fa))
  {d1 d2 d3 d4 d5 d6 d7 d8 d9 d10 d11 d12 d13 d14 d15 d16 d17 d18 d19 d20 d21 d22 d23 d24 d25 d26 d27 d28 d29 d30 d31 d32 d33 d34 d35 d36 d37 d38 d39 d40 d41 d42 d43:FuncData} {odK:Option Addr} {slK:Array (Option Value)} {t1 t2 t3 t4 t5 t6 t7 u1 u2 u3 u4 u5 u6 u7 u8:Tok} {nK:Nat} {odO:Option Addr} {slO:Array (Option Value)} {w1 w2 w3 w4 w5:Tok} {nO:Nat}
  (aC:W.nsIn K mainGlobals "Problem"=some (some (.ref C)))
  (aN:W.nsIn K mainGlobals "BadName"=some (some (.ref CN)))
  (aT:W.nsIn K mainGlobals "BadTerm"=some (some (.ref CT)))
  (aP:W.nsIn K mainGlobals "BadPart"=some (some (.ref CP)))
  (aM:W.nsIn K mainGlobals "TooMany"=some (some (.ref CM)))
  (aZ:W.nsIn K mainGlobals "Namer"=some (some (.ref CZ)))
  (y1:FT K "is_word" "is_word" zgj f1 d1)
  (y2:FT K "is_name" "is_name" zgk f2 d2)
  (y3:FT K "ask_name" "ask_name" zfB f3 d3)
  (y4:FT K "once_each" "once_each" zjk f4 d4)
  (y5:FT K "place_of" "place_of" zhv f5 d5)
  (y6:FT K "inner_trees" "inner_trees" F75.s_inner_trees f6 d6)
  (y7:FT K "inner_formulas" "inner_formulas" F75.s_inner_formulas f7 d7)
  (y8:FT K "add_tree" "add_tree" zdw f8 d8)
  (y9:FT K "plain_names" "plain_names" zdm f9 d9)
  (y10:FT K "new_name" "new_name" zeD f10 d10)
  (y11:FT K "pair_rows" "pair_rows" zd5 f11 d11)
  (y12:FT K "named" "named" zgi f12 d12)
  (y13:FT K "_law_cell_at" "_law_cell_at" F75.s__law_cell_at f13 d13)
  (y14:FT K "_law_mixed" "_law_mixed" F75.s__law_mixed f14 d14)
  (y15:FT K "_law_word" "_law_word" F75.s__law_word f15 d15)
  (y16:FT K "_law_names" "_law_names" F75.s__law_names f16 d16)
  (y17:FT K "_law_tree" "_law_tree" F75.s__law_tree f17 d17)
  (y18:FT K "_law_grown" "_law_grown" F75.s__law_grown f18 d18)
  (y19:FT K "_law_formulas" "_law_formulas" F75.s__law_formulas f19 d19)
  (y20:FT K "_law_value" "_law_value" zdP f20 d20)
  (y21:FT K "_law_holds" "_law_holds" zcZ f21 d21)
  (y22:FT K "_law_values" "_law_values" zdn f22 d22)
  (y23:FT K "_law_truths" "_law_truths" zdo f23 d23)
  (y24:FT K "_law_row_holds" "_law_row_holds" zcH f24 d24)
  (y25:FT K "_law_forced" "_law_forced" zb2 f25 d25)
  (y26:FT K "_law_own_rows" "_law_own_rows" zc1 f26 d26)
  (y27:FT K "_law_plain_in" "_law_plain_in" zc0 f27 d27)
  (y28:FT K "law" "law" zdS f28 d28)
  (y29:FM K C "__init__" "Problem.__init__" zjl f29 d29)
  (y30:FM K C "ask_term" "Problem.ask_term" zfz f30 d30)
  (y31:FM K C "ask_part" "Problem.ask_part" zfA f31 d31)
  (y32:FM K C "add_term" "Problem.add_term" sAdd f32 d32)
  (y33:FM K C "add_plain" "Problem.add_plain" zhu f33 d33)
  (y34:FM K C "add_same" "Problem.add_same" zjj f34 d34)
  (y35:FM K C "add_row" "Problem.add_row" sRow f35 d35)
  (y36:FM K CZ "__init__" "Namer.__init__" zcK f36 d36)
  (y37:FM K CZ "new_atom" "Namer.new_atom" zcJ f37 d37)
  (y38:FM K CZ "put_rows" "Namer.put_rows" zcI f38 d38)
  (y39:FM K CZ "same_part" "Namer.same_part" zbJ f39 d39)
  (y40:FM K CZ "unlike_part" "Namer.unlike_part" zaq f40 d40)
  (y41:FM K CZ "bare_part" "Namer.bare_part" zcr f41 d41)
  (y42:FM K CZ "pair_part" "Namer.pair_part" zbK f42 d42)
  (y43:FM K CZ "formula_part" "Namer.formula_part" zbp f43 d43)
  (s1:W.nsIn K mainGlobals "SMALL_LETTERS"=some (some (.str abc t1)))
  (s2:W.nsIn K mainGlobals "LONGEST_NAME"=some (some (.int 8 t2)))
  (s3:W.nsIn K mainGlobals "MOST_TERM_PARTS"=some (some (.int 3 t3)))
  (s4:W.nsIn K mainGlobals "MOST_TERMS"=some (some (.int 60 t4)))
  (s5:W.nsIn K mainGlobals "MOST_ATOMS"=some (some (.int 40 t5)))
  (s6:W.nsIn K mainGlobals "MOST_ROW_PARTS"=some (some (.int 20 t6)))
  (s7:W.nsIn K mainGlobals "MOST_ROWS"=some (some (.int 200 t7)))
  (s8:W.nsIn K mainGlobals "KEPT_WORDS"=some (some (.ref aK)))
  (s9:K.lookup aK=some ⟨.type "tuple",odK,.seq #[.str "or" u1,.str "and" u2,.str "not" u3,.str "never" u4,.str "always" u5,.str "then" u6,.str "as" u7,.str "unlike" u8] nK,slK⟩)
  (z_len:W.nsIn K mainGlobals "len"=some none)
  (z_all:W.nsIn K mainGlobals "all"=some none)
  (z_range:W.nsIn K mainGlobals "range"=some none)
  (z_isinstance:W.nsIn K mainGlobals "isinstance"=some none)
  (z_bool:W.nsIn K mainGlobals "bool"=some none)
  (z_tuple:W.nsIn K mainGlobals "tuple"=some none)
  (z_abs:W.nsIn K mainGlobals "abs"=some none)
  (z_list:W.nsIn K mainGlobals "list"=some none)
  (z_int:W.nsIn K mainGlobals "int"=some none)
  (z_str:W.nsIn K mainGlobals "str"=some none)
  (z_divmod:W.nsIn K mainGlobals "divmod"=some none)
  (z_enumerate:W.nsIn K mainGlobals "enumerate"=some none)
  (z_set:W.nsIn K mainGlobals "set"=some none)
  (pg:W.plainGet K C Str.empty=true)
  (hd:W.hasDictIn K C=true)
  (po:W.plainOver K C=true)
  (sa:W.findIn K (.ref C) "__setattr__"=some (some (.builtin "object.__setattr__")))
  (mk:W.makesIn K C=true)
  (kc:W.keepIn K (.ref C)=true)
  (nT:W.findIn K (.ref C) "terms"=some none)
  (nA:W.findIn K (.ref C) "atoms"=some none)
  (nR:W.findIn K (.ref C) "rows"=some none)
  (xN:W.excIn K CN bmV "ValueError.__new__"=true)
  (xT:W.excIn K CT bmV "ValueError.__new__"=true)
  (xP:W.excIn K CP bmV "ValueError.__new__"=true)
  (xM:W.excIn K CM bmV "ValueError.__new__"=true)
  (o3:W.nsIn K mainGlobals "OF_FORMULAS"=some (some (.ref aO)))
  (o4:K.lookup aO=some ⟨.type "tuple",odO,.seq #[.str "not" w1,.str "and" w2,.str "or" w3,.str "then" w4,.str "as" w5] nO,slO⟩)
  (zg:W.plainGet K CZ Str.empty=true)
  (zd:W.hasDictIn K CZ=true)
  (zo:W.plainOver K CZ=true)
  (zs:W.findIn K (.ref CZ) "__setattr__"=some (some (.builtin "object.__setattr__")))
  (zm:W.makesIn K CZ=true)
  (zk:W.keepIn K (.ref CZ)=true)
  (zp:W.findIn K (.ref CZ) "problem"=some none)
  (zt:W.findIn K (.ref CZ) "taken"=some none)
  (zn:W.findIn K (.ref CZ) "tries"=some none)
  (e_mm:W.exmOne K (.ref CM) (.ref CM)=some true)
  : ∃ fd:FuncData,(∀(s:Shared) (v:Value),BindsTo s fd ⟨[v],[]⟩ [("_law_script",v)])∧∀ base:Heap,K.In base→base.Ns mainGlobals mg→FnOk l.prog w K mg base CX0 38 fa fd ["_law_script"] (zfQ K):=by
 have e:=hfa.symm.trans (y28.m X G)
 cases e
 have T:Txt K mg aK C CN CT CP CM:=⟨⟨_,W.mg_of X G s1⟩,⟨_,W.mg_of X G s2⟩,⟨_,W.mg_of X G s3⟩,⟨_,W.mg_of X G s4⟩,⟨_,W.mg_of X G s5⟩,⟨_,W.mg_of X G s6⟩,⟨_,W.mg_of X G s7⟩,W.mg_of X G s8,fun H=>.inr ⟨_,_,_,s9,rfl,rfl,(by show 8≤sizeLine;decide),.cons ⟨_,rfl⟩ (.cons ⟨_,rfl⟩ (.cons ⟨_,rfl⟩ (.cons ⟨_,rfl⟩ (.cons ⟨_,rfl⟩ (.cons ⟨_,rfl⟩ (.cons ⟨_,rfl⟩ (.cons ⟨_,rfl⟩ .nil)))))))⟩,W.mg_none_of X G z_len,W.mg_none_of X G z_all,W.mg_none_of X G z_range,W.mg_none_of X G z_isinstance,W.mg_none_of X G z_bool,W.mg_none_of X G z_tuple,W.mg_none_of X G z_abs,W.mg_of X G aN,W.mg_of X G aT,W.mg_of X G aP,W.mg_of X G aM,xN,xT,xP,xM,⟨pg,hd,po,sa⟩,nT,nA,nR⟩
 have TF:F75.Txt K mg aK aO:=⟨W.mg_none_of X G z_len,W.mg_none_of X G z_list,W.mg_none_of X G z_tuple,W.mg_none_of X G z_range,W.mg_none_of X G z_int,W.mg_none_of X G z_isinstance,W.mg_none_of X G z_str,W.mg_of X G o3,fun H=>.inr ⟨_,_,_,o4,rfl,rfl,(by show 5≤sizeLine;decide),.cons ⟨_,rfl⟩ (.cons ⟨_,rfl⟩ (.cons ⟨_,rfl⟩ (.cons ⟨_,rfl⟩ (.cons ⟨_,rfl⟩ .nil))))⟩⟩
 have TN:TxN mg:=⟨W.mg_none_of X G z_divmod,W.mg_none_of X G z_enumerate⟩
 have TZ:TxZ K mg CZ:=⟨⟨zg,zd,zo,zs⟩,zp,zt,zn⟩
 have b1:av K d1 ["text"] []:=y1.F.b1 fun _ _ _ _ _ _ _=>rfl
 have b2:av K d2 ["word"] []:=y2.F.b1 fun _ _ _ _ _ _ _=>rfl
 have b3:av K d3 ["word"] []:=y3.F.b1 fun _ _ _ _ _ _ _=>rfl
 have b4:av K d4 ["parts"] []:=y4.F.b1 fun _ _ _ _ _ _ _=>rfl
 have b5:av K d5 ["thing","things","most"] []:=y5.F.b3 fun _ _ _ _ _ _ _ _ _=>rfl
 have b6:av K d6 ["formula"] []:=y6.F.b1 fun _ _ _ _ _ _ _=>rfl
 have b7:av K d7 ["formula"] []:=y7.F.b1 fun _ _ _ _ _ _ _=>rfl
 have b8:av K d8 ["problem","tree"] []:=y8.F.b2 fun _ _ _ _ _ _ _ _=>rfl
 have b9:av K d9 ["formulas"] []:=y9.F.b1 fun _ _ _ _ _ _ _=>rfl
 have b10:av K d10 ["number"] []:=y10.F.b1 fun _ _ _ _ _ _ _=>rfl
 have b11:av K d11 ["kind","new","one","other"] []:=y11.F.b4 fun _ _ _ _ _ _ _ _ _ _=>rfl
 have b12:av K d12 ["formulas"] []:=y12.F.b1 fun _ _ _ _ _ _ _=>rfl
 have b13:av K d13 ["_law_script","_law_k"] []:=y13.F.b2 fun _ _ _ _ _ _ _ _=>rfl
 have b14:av K d14 ["_law_cell","_law_k"] []:=y14.F.b2 fun _ _ _ _ _ _ _ _=>rfl
 have b15:av K d15 ["_law_cell","_law_size"] []:=y15.F.b2 fun _ _ _ _ _ _ _ _=>rfl
 have b16:av K d16 ["_law_cell"] []:=y16.F.b1 fun _ _ _ _ _ _ _=>rfl
 have b17:av K d17 ["_law_cell","_law_names_here","_law_deep"] []:=y17.F.b3 fun _ _ _ _ _ _ _ _ _=>rfl
 have b18:av K d18 ["_law_pile","_law_cell","_law_names_here"] []:=y18.F.b3 fun _ _ _ _ _ _ _ _ _=>rfl
 have b19:av K d19 ["_law_script","_law_begin","_law_names_here","_law_many"] []:=y19.F.b4 fun _ _ _ _ _ _ _ _ _ _=>rfl
 have b20:av K d20 ["_law_tree_here","_law_names_here","_law_cell"] []:=y20.F.b3 fun _ _ _ _ _ _ _ _ _=>rfl
 have b21:av K d21 ["_law_formula","_law_names_here","_law_cell"] []:=y21.F.b3 fun _ _ _ _ _ _ _ _ _=>rfl
 have b22:av K d22 ["_law_terms","_law_names_here","_law_cell"] []:=y22.F.b3 fun _ _ _ _ _ _ _ _ _=>rfl
 have b23:av K d23 ["_law_problem","_law_names_here","_law_own","_law_cell"] []:=y23.F.b4 fun _ _ _ _ _ _ _ _ _ _=>rfl
 have b24:av K d24 ["_law_row","_law_truths_here"] []:=y24.F.b2 fun _ _ _ _ _ _ _ _=>rfl
 have b25:av K d25 ["_law_problem","_law_truths_here"] []:=y25.F.b2 fun _ _ _ _ _ _ _ _=>rfl
 have b26:av K d26 ["_law_rows"] []:=y26.F.b1 fun _ _ _ _ _ _ _=>rfl
 have b27:av K d27 ["_law_formula"] []:=y27.F.b1 fun _ _ _ _ _ _ _=>rfl
 have b29:av K d29 ["self"] []:=y29.F.b1 fun _ _ _ _ _ _ _=>rfl
 have b30:av K d30 ["self","number"] []:=y30.F.b2 fun _ _ _ _ _ _ _ _=>rfl
 have b31:av K d31 ["self","part"] []:=y31.F.b2 fun _ _ _ _ _ _ _ _=>rfl
 have b32:av K d32 ["self","name","parts"] []:=y32.F.b3 fun _ _ _ _ _ _ _ _ _=>rfl
 have b33:av K d33 ["self","name"] []:=y33.F.b2 fun _ _ _ _ _ _ _ _=>rfl
 have b34:av K d34 ["self","one","other"] []:=y34.F.b3 fun _ _ _ _ _ _ _ _ _=>rfl
 have b35:av K d35 ["self","parts"] []:=y35.F.b2 fun _ _ _ _ _ _ _ _=>rfl
 have b36:av K d36 ["self","formulas"] []:=y36.F.b2 fun _ _ _ _ _ _ _ _=>rfl
 have b37:av K d37 ["self"] []:=y37.F.b1 fun _ _ _ _ _ _ _=>rfl
 have b38:av K d38 ["self","rows"] []:=y38.F.b2 fun _ _ _ _ _ _ _ _=>rfl
 have b39:av K d39 ["self","formula"] []:=y39.F.b2 fun _ _ _ _ _ _ _ _=>rfl
 have b40:av K d40 ["self","formula"] []:=y40.F.b2 fun _ _ _ _ _ _ _ _=>rfl
 have b41:av K d41 ["self","formula"] []:=y41.F.b2 fun _ _ _ _ _ _ _ _=>rfl
 have b42:av K d42 ["self","formula"] []:=y42.F.b2 fun _ _ _ _ _ _ _ _=>rfl
 have b43:av K d43 ["self","formula"] []:=y43.F.b2 fun _ _ _ _ _ _ _ _=>rfl
 refine⟨_,y28.F.top fun _ _ _ _ _ _ _=>rfl,fun base _ _=>?_⟩
 have G1:=zkD (P:=l.prog) (w:=w) (base:=base) y1.F T
 have G2:=zkE y2.F T G1 b1 y1.k (y1.m X G)
 have G3:=zjB y3.F T G2 b2 y2.k (y2.m X G)
 have G4:=zl4 (P:=l.prog) (w:=w) (base:=base) y4.F T
 have G5:=zli (P:=l.prog) (w:=w) (base:=base) y5.F T
 have G29:=zl6 (P:=l.prog) (w:=w) (base:=base) y29.F T
 have G30:=zjz (P:=l.prog) (w:=w) (base:=base) y30.F T
 have G31:=zjA (P:=l.prog) (w:=w) (base:=base) y31.F T
 have G32:=ok_add y32.F T G3 b3 y3.k (y3.m X G) G30 b30 y30.M G5 b5 y5.k (y5.m X G)
 have G33:=zlh y33.F T G3 b3 y3.k (y3.m X G) G5 b5 y5.k (y5.m X G)
 have G34:=zl2 y34.F T G30 b30 y30.M G5 b5 y5.k (y5.m X G)
 have G35:=ok_row y35.F T G31 b31 y31.M G4 b4 y4.k (y4.m X G)
 have GR4:=G35.mono (k:=4) (by decide)
 have GS4:=G34.mono (k:=4) (by decide)
 have MKI:Mk K C f29:=⟨mk,y29.a,y29.i,kc⟩
 have OW:Own l.prog w K mg base C CN CT CP CM f29 f32 f33 f34 f35 _ _ _ _ _:=⟨G29,b29,MKI,W.mg_of X G aC,G32,b32,y32.M,G33,b33,y33.M,GS4,b34,y34.M,GR4,b35,y35.M⟩
 have G6:=F75.ok_itrees (P:=l.prog) (w:=w) (base:=base) y6.F TF
 have G7:=F75.ok_ifms (P:=l.prog) (w:=w) (base:=base) y7.F TF
 have G8:=zf5 y8.F T OW b8 y8.k (y8.m X G) 3
 have BTR:FB l.prog w K mg base (CX1 l.prog w) 8 "add_tree" f8 _ ["problem","tree"] (zdv K C CN CM 3):=⟨G8,b8,y8.k,(y8.m X G)⟩
 have G9:=ok_pn y9.F b9 y9.k (y9.m X G) ⟨G7,b7,y7.k,(y7.m X G)⟩ 13
 have G10:=zjx (P:=l.prog) (w:=w) (base:=base) y10.F T TN
 have G11:=zl3 (mg:=mg) (P:=l.prog) (w:=w) (base:=base) y11.F
 have G38:=ok_put y38.F T TZ OW
 have G37:=zjy y37.F T TZ OW ⟨G10,b10,y10.k,(y10.m X G)⟩
 have OZ:OwN l.prog w K mg base CZ C CN CM f38 f37 _ _:=⟨G38,b38,y38.M,G37,b37,y37.M⟩
 have G41:=zl7 y41.F TZ OZ
 have G39:=zlg y39.F T TZ OW ⟨G6,b6,y6.k,(y6.m X G)⟩ BTR
 have G40:=zkB y40.F T TN TZ OW OZ ⟨G6,b6,y6.k,(y6.m X G)⟩ BTR
 have G43:FnOk l.prog w K mg base (CX1 l.prog w) 34 f43 _ ["self","formula"] (zbA K CZ C CN CM fun g=>F75.fdp g≤12):=zh6 y43.F T TZ OW OZ b43 y43.M G39 b39 y39.M G40 b40 y40.M G41 b41 y41.M y42.F b42 y42.M ⟨G11,b11,y11.k,(y11.m X G)⟩ 12
 have G36:=zlk y36.F TZ OW ⟨G9,b9,y9.k,(y9.m X G)⟩
 have MKZ:Mk K CZ f36:=⟨zm,y36.a,y36.i,zk⟩
 have G12:=zll y12.F TZ OZ G36 b36 MKZ (W.mg_of X G aZ) G43 b43 y43.M
 have BNM:FB l.prog w K mg base (CX1 l.prog w) 35 "named" f12 _ ["formulas"] (zfx K C CN CM):=⟨G12,b12,y12.k,(y12.m X G)⟩
 have G13:=F75.ok_cell (P:=l.prog) (w:=w) (base:=base) y13.F TF
 have G14:=F75.ok_mixed (mg:=mg) (P:=l.prog) (w:=w) (base:=base) y14.F
 have G15:=F75.ok_word y15.F TF ⟨G14,b14,y14.k,(y14.m X G)⟩
 have G16:=F75.ok_names y16.F ⟨G15,b15,y15.k,(y15.m X G)⟩
 have G17:=F75.ok_ltr y17.F TF b17 y17.k (y17.m X G) ⟨G14,b14,y14.k,(y14.m X G)⟩ 3
 have G18:=F75.ok_grown y18.F TF ⟨G17,b17,y17.k,(y17.m X G)⟩ ⟨G14,b14,y14.k,(y14.m X G)⟩
 have G19:=F75.ok_formulas y19.F TF ⟨G18,b18,y18.k,(y18.m X G)⟩ ⟨G14,b14,y14.k,(y14.m X G)⟩ ⟨G13,b13,y13.k,(y13.m X G)⟩
 have GMD:=zl5 (P:=l.prog) (w:=w) (base:=base) (mg:=mg) y14.F
 have BMD:FB l.prog w K mg base CX0 1 "_law_mixed" f14 _ ["_law_cell","_law_k"] zcM:=⟨GMD,b14,y14.k,(y14.m X G)⟩
 have G20:=zj7 y20.F T b20 y20.k (y20.m X G) BMD 3
 have G21:=ziY y21.F T (W.mg_none_of X G z_set) b21 y21.k (y21.m X G) BMD ⟨G20,b20,y20.k,(y20.m X G)⟩ 12
 have G22:=zl1 y22.F T BMD
 have G23:=zkC y23.F T BMD ⟨G22,b22,y22.k,(y22.m X G)⟩
 have G24:=ok_rh (P:=l.prog) (w:=w) (base:=base) y24.F T
 have G26:=ok_own (P:=l.prog) (w:=w) (base:=base) y26.F T
 have G25:=zkF y25.F T ⟨G26,b26,y26.k,(y26.m X G)⟩ ⟨G24,b24,y24.k,(y24.m X G)⟩
 have G27:=zj8 (P:=l.prog) (w:=w) (base:=base) y27.F b27 y27.k (y27.m X G) 12
 exact ok_law y28.F T e_mm BNM ⟨G27,b27,y27.k,(y27.m X G)⟩ ⟨G13,b13,y13.k,(y13.m X G)⟩ BMD ⟨G23,b23,y23.k,(y23.m X G)⟩ ⟨G25,b25,y25.k,(y25.m X G)⟩ ⟨G21,b21,y21.k,(y21.m X G)⟩ ⟨G24,b24,y24.k,(y24.m X G)⟩ ⟨G16,b16,y16.k,(y16.m X G)⟩ ⟨G19,b19,y19.k,(y19.m X G)⟩
theorem walk {l:W.OpenLaw} {q:Program} {loose:List Str} {XP:(Str→Option Value)→Heap→Prop} {YP:World→Heap→Prop} {d:DefRec} {K:Params→W.Frag} (hn:l.most=some 63) (hdf:d.params.defaults=[])
  (hY:∀(w:World) (h:Heap),YP w h→(K w.params).In h)
  (F:∀(w:World) (mg:Str→Option Value) (fa:Addr) (h:Heap),(K w.params).In h→h.Ns mainGlobals mg→mg d.name=some (.ref fa) →
   ∃ fd:FuncData,(∀(s:Shared) (u:Value),BindsTo s fd ⟨[u],[]⟩ [("_law_script",u)])∧∀ base:Heap,(K w.params).In base→base.Ns mainGlobals mg→FnOk l.prog w (K w.params) mg base CX0 38 fa fd ["_law_script"] (zfQ (K w.params))) :
  W.WalkO q loose XP YP l.row.toRowW d [] (fun f vs=>PySem.call f vs) :=
 L2.walk_of (n:=63) (k:=38) (x:="_law_script") (CX:=fun _=>CX0) (sp:=fun w=>zfQ (K w.params)) hn (by decide) hdf ⟨rfl,by decide,by decide,rfl⟩ hY F (fun _ _ a ns hl _ hS=>⟨a,ns,rfl,hS,hl,fun _=>rfl⟩) fun _ _ _ _ _ z=>z
end K75
namespace PySem.W.Fast
def tw17235277252647483220:=()
def tw14873114599677576103:=()
def tw4621755979436419513:=()
def tw17193787135681341767:=()
def tw17737954311096943703:=()
def tw14030581664038859237:=()
def tw6955102114599837736:=()
def tw15288351836518706966:=()
def tw15029867683161787721:=()
def tw12286971971451578440:=()
def tw10977163397899383310:=()
def tw4735925601285867008:=()
def tw11350937106462173984:=()
def tw1425385848267679922:=()
def tw5443727473421695116:=()
def tw18001428732868169187:=()
def tw12889006736975977088:=()
def tw3655033537793229144:=()
def tw3806349903403869312:=()
def tw14010602614264313597:=()
def tw7042413673108056313:=()
def tw3323712476658925198:=()
def tw10302601616505645024:=()
def tw5738770856570978830:=()
def tw17799965944294146715:=()
def tw5176724393479932251:=()
def tw4465186879957272657:=()
def tw11551274540805871764:=()
def tw9235144012406074451:=()
def tw5017367836311160413:=()
def tw2574583406715876872:=()
def tw11486154166128935144:=()
def tw2821963556541221409:=()
def tw886941405447651731:=()
def tw4245842116713358956:=()
def tw9379173138256986124:=()
def tw17659444251169146613:=()
def tw17683891918423537922:=()
def tw6817827659162462868:=()
def tw7065868431541924665:=()
def tw11943409064804266900:=()
def tw15263199447102180210:=()
def tw7450746754933193792:=()
def tw16470368846014394773:=()
def tw13353699320415764027:=()
def tw6273531757099969256:=()
def tw5224991279591624552:=()
def tw7312155301415743012:=()
def tw6253756375278692494:=()
def tw4926123850835849094:=()
def tw2300149855325104248:=()
def tw11335598901409510446:=()
def tw3941788478792504009:=()
def tw5530126184631823160:=()
def tw3343061883089857245:=()
def tw2118354894865819759:=()
def tw2153213807245676250:=()
def tw6160994930689842836:=()
def tw4540344073728419158:=()
def tw16314746411883897256:=()
def tw7810318013944053923:=()
def tw212689377091832541:=()
def tw9776213554157051072:=()
def tw2646887716899105567:=()
def tw683205587135183872:=()
def tw4482286077424006595:=()
def tw3515076565874929431:=()
def tw956173119354968591:=()
def tw14691986607885476376:=()
def tw10112390419895186965:=()
def tw2397618281344322833:=()
def tw5104402315806983904:=()
def tw7650596488990152903:=()
def tw1805744534990597995:=()
def tw14618527523172865617:=()
def tw13344925059656645939:=()
def tw5382117289038385141:=()
def tw9326955986647480370:=()
def tw17117566361000638614:=()
def tw3926315511507345888:=()
def tw6462025603898127127:=()
def tw2768884562411638647:=()
def tw4606895515979699426:=()
def tw16601349119336945754:=()
def tw7093463851185531247:=()
def tw16254258812104840972:=()
def tw17834439814413206859:=()
def tw4466762575400003177:=()
def tw5190799190799231359:=()
def tw14843093634473735855:=()
def tw9455332821520090806:=()
def tw906793983648607959:=()
def tw4826395029556203214:=()
def tw13823987121179552322:=()
def tw6891086796335616659:=()
def tw5368059642875873166:=()
def tw1245950788159688896:=()
def tw2003153721146513997:=()
def tw17892191326038086012:=()
def tw15179650057401928483:=()
def tw8173750385156793658:=()
def tw4873035837767333641:=()
def tw10456154517029202686:=()
def tw3813196367041785932:=()
def tw15338146270930410772:=()
def tw6521118544631117820:=()
def tw2492254186318769631:=()
def tw18249976923096336022:=()
def tw10210347908932549150:=()
def tw6054464174779106923:=()
def tw7631894641679758810:=()
def tw11416945421038475416:=()
def tw8721225271770544710:=()
def tw8787031262193212846:=()
def tw7931144089618870886:=()
def tw6195664048627220148:=()
def tw2786249193440418074:=()
def tw7118627825579285077:=()
def tw4418464146376568493:=()
def tw16837255696588254697:=()
def tw15461225226813655374:=()
def tw15046635959120329289:=()
def tw6109376438716704633:=()
def tw5496429773163258197:=()
def tw2964333351522849214:=()
def tw13733060103660373744:=()
def tw1798263636555936953:=()
def tw14416078583647966302:=()
def tw14379738277701334457:=()
def tw11447491491997084749:=()
def tw17919465365128438602:=()
def tw10825425676725541051:=()
def tw829318272640417634:=()
def tw14327559007529986375:=()
def tw2628772119908037065:=()
def tw922556208229326222:=()
def tw3651198307768965105:=()
def tw6534917973840539183:=()
def tw8627812105596589895:=()
def tw4476088737957875168:=()
def tw6273234966426543397:=()
def tw6562440013795661247:=()
def tw13972577403315474249:=()
def tw2088243346708624641:=()
def tw12719361709839764095:=()
def tw8241870290738908215:=()
def tw9249088434299596033:=()
def tw6078944860031834752:=()
def tw8535210259353634559:=()
def tw272691466881677299:=()
def tw15827476441439009489:=()
def tw14293305833625097426:=()
def tw16417037899668369362:=()
def tw4045998358244044562:=()
def tw13409586305939176462:=()
def tw8651375265387400144:=()
def tw5136625248534922280:=()
def tw12799293273271924320:=()
def tw1698638034096424016:=()
def tw15071199424475842145:=()
def tw16210672625989316430:=()
def tw4208601193239488037:=()
def tw7908078610104365392:=()
def tw1750616449089008199:=()
def tw1733169618305017538:=()
def tw6765407277774398704:=()
def tw2845583524102770507:=()
def tw13430486893517785804:=()
def tw9309503090545408423:=()
def tw16268576956688319361:=()
def tw13782025883997712452:=()
def tw14819563172139449661:=()
def tw10256607157601104820:=()
def tw12878360931985818649:=()
def tw14595946827489054496:=()
def tw7388068136132207598:=()
def tw17654409288805296632:=()
def tw16577080435466483025:=()
def tw4175150742452438990:=()
def tw14598644128601410009:=()
def tw18384889078298394866:=()
def tw5511522865803849976:=()
def tw10799682376116841784:=()
def tw5445325203080039555:=()
def tw12762213705302441472:=()
def tw3113791962353875709:=()
def tw14403650395746754742:=()
def tw10893153831877561543:=()
def tw13170737467297728610:=()
def tw6803056913918314853:=()
def tw9608336162480892043:=()
def tw18036709291242481557:=()
def tw9065535495364895055:=()
def tw13561726425536494366:=()
def tw4233292175623838259:=()
def tw14009131407135857652:=()
def tw764694363692220179:=()
def tw6369391939458862566:=()
def tw12604976576258799614:=()
def tw11994893562700012557:=()
def tw1489438505954381812:=()
def tw4303074083884024321:=()
def tw3294174677411844621:=()
def tw3210239503068089620:=()
def tw16199677510505399024:=()
def tw482940292099786168:=()
def tw15300566007682087913:=()
def tw5169620532581600271:=()
def tw4914513504726382728:=()
def tw16067135763476757792:=()
def tw16580001717826302077:=()
def tw6375472765947451798:=()
def tw9085571594701558615:=()
def tw9557439183882892446:=()
def tw12610383781613322348:=()
def tw2528905487185494661:=()
def tw11594895455486737205:=()
def tw8953876963145688845:=()
def tw15154609270188494129:=()
def tw8482513705521620830:=()
def tw13307116057445042638:=()
def tw3260146605458657696:=()
def tw17872649914612467988:=()
def tw13003101261661998573:=()
def tw6931137751696760421:=()
def tw12653789269904590817:=()
def tw7614081409051304124:=()
def tw4555332878294571665:=()
def tw15829915919220094182:=()
def tw11578300465380854914:=()
def tw1665600086408551025:=()
def tw14224518882225750929:=()
def tw9607937414394074298:=()
def tw16040701331055523585:=()
def tw11611430047976553522:=()
def tw4595450178879328984:=()
def tw1690879590868731099:=()
def tw14716548681585772553:=()
def tw7180042629981960456:=()
def tw9287165543046276478:=()
def tw11302773563179622774:=()
def tw4019018394026473469:=()
def tw2046070572690875973:=()
def tw14995437505286475017:=()
def tw11173123070709816740:=()
def tw943773525370313366:=()
def tw3291561209184291845:=()
def tw5107808458705530396:=()
def tw1356140621916457477:=()
def tw12421816704275117335:=()
def tw4214002246322768816:=()
def tw632202865376837186:=()
def tw14521196639201520405:=()
def tw16252982350565581154:=()
def tw10476682014125768521:=()
def tw6652015232269365159:=()
def tw1359643731254445066:=()
def tw7906692205148390058:=()
def tw7878459840169663439:=()
def tw7409415552997799088:=()
def tw12238816228522021140:=()
def tw990408555540219192:=()
def tw12253978259388149759:=()
def tw14681619597154511096:=()
def tw3598789257177571701:=()
def tw4193422497082075731:=()
def tw16673617312377105523:=()
def tw1494354399781243387:=()
def tw1204385410619968000:=()
def tw14674172793837874816:=()
def tw14181680834055280092:=()
def tw8228100011186761077:=()
def tw201181187120533717:=()
def tw9198009681041446547:=()
def tw15109073543478177351:=()
def tw6190652699758447448:=()
def tw2125330708898600675:=()
def tw7021143423794423537:=()
def tw18068293926968577540:=()
def tw14541968979951417614:=()
def tw5209094572254466862:=()
def tw16588915514188119045:=()
def tw13132223161516300555:=()
def tw4963642054575532721:=()
def tw2054183362818304215:=()
def tw12674240786922294547:=()
def tw7433900587344563613:=()
def tw3408555950551015715:=()
def tw17593609537430246582:=()
def tw5878509807235839010:=()
def tw8794224471669701549:=()
def tw8625014980451573955:=()
def tw2664788670778502879:=()
def tw4912206107009525402:=()
def tw16607840268683711760:=()
def tw7526212614477684812:=()
def tw1193138618873370558:=()
def tw1935440124275677811:=()
def tw8731994486889726296:=()
def tw16680123189603299584:=()
def tw4580708403648185160:=()
def tw156334963756460802:=()
def tw7719795668558697085:=()
def tw9150143936985568246:=()
def tw11698197924044259366:=()
def tw14447738300817820372:=()
def tw16989065853539179929:=()
def tw13797253475027206311:=()
def tw16171765343437832531:=()
def tw3399894004730054867:=()
def tw18023040457533475492:=()
def tw16977546248910801460:=()
def tw12866137115261046895:=()
def tw17200041435066857899:=()
def tw18394717146242683051:=()
def tw395875805523945281:=()
def tw16666368116364332211:=()
def tw2093710028594597880:=()
def tw9208607951988018249:=()
def tw3241991366852181630:=()
def tw8909685327064086164:=()
def tw3054829909002052017:=()
def tw16114818205799223301:=()
def tw3811730709296020430:=()
def tw15366701389301205202:=()
def tw18111305926685344467:=()
def tw5062759737467728571:=()
def tw9920935521708599083:=()
def tw2918858220503291289:=()
def tw8800629939297415255:=()
def tw8553630808786768589:=()
def tw14773145145909151219:=()
def tw12060479310591780000:=()
def tw2324155193405181431:=()
def tw6332583918761639047:=()
def tw2991400363784897398:=()
def tw9317160581170911902:=()
def tw13008183654156154170:=()
def tw17582970693158026432:=()
def tw3459821452260946617:=()
def tw1384835998208498160:=()
def tw860470340861915077:=()
def tw2493578250401863588:=()
def tw7846400958454847698:=()
def tw16823663200072736846:=()
def tw12930881689952756522:=()
def tw15217659949062678197:=()
def tw12896857463672167598:=()
def tw16681016644814864913:=()
def tw5909880870156063606:=()
def tw9905656275775090516:=()
def tw5643860517113301609:=()
def tw11280118783411005452:=()
def tw15680401477826269684:=()
def tw7456792940902847119:=()
def tw1279089328503417962:=()
def tw12789471710176736736:=()
def tw5077819365759010869:=()
def tw9534379405563803044:=()
def tw15942715997280621845:=()
def tw3476807867534522772:=()
def tw14556795689730239957:=()
def tw976700823288336742:=()
def tw17431395031544032692:=()
def tw12430598196260848382:=()
def tw1620009993402674568:=()
def tw2947559822319453979:=()
def tw18349728339360242263:=()
def tw705601639679868834:=()
def tw780879402806025775:=()
def tw16201945916194090648:=()
def tw13705684816595927425:=()
end PySem.W.Fast
open PySem PySem.W PyProof.Rows
set_option maxRecDepth 100000 in
set_option maxHeartbeats 0 in
theorem PySem.Challenge.cw_yesorno_k75_whole_named_holds_holds : PySem.Challenge.rw_yesorno_k75_whole_named_holds.Holds := by
 w_on;o_law;k_head;(case hw=>w_witness2)
 k_fill
 refine K75.walk (l:=PySem.Challenge.rw_yesorno_k75_whole_named_holds) rfl rfl (fun w h Y=>W.kIn_of Y) ?F
 case F =>
  intro w mg fa h KX G hmg
  refine' K75.all_mk KX G hmg ?aC ?aN ?aT ?aP ?aM ?aZ ?y1 ?y2 ?y3 ?y4 ?y5 ?y6 ?y7 ?y8 ?y9 ?y10 ?y11 ?y12 ?y13 ?y14 ?y15 ?y16 ?y17 ?y18 ?y19 ?y20 ?y21 ?y22 ?y23 ?y24 ?y25 ?y26 ?y27 ?y28 ?y29 ?y30 ?y31 ?y32 ?y33 ?y34 ?y35 ?y36 ?y37 ?y38 ?y39 ?y40 ?y41 ?y42 ?y43 ?s1 ?s2 ?s3 ?s4 ?s5 ?s6 ?s7 ?s8 ?s9 ?z_len ?z_all ?z_range ?z_isinstance ?z_bool ?z_tuple ?z_abs ?z_list ?z_int ?z_str ?z_divmod ?z_enumerate ?z_set ?pg ?hd ?po ?sa ?mk ?kc ?nT ?nA ?nR ?xN ?xT ?xP ?xM ?o3 ?o4 ?zg ?zd ?zo ?zs ?zm ?zk ?zp ?zt ?zn ?e_mm
  (case aC=>k_is)
  (case aN=>k_is)
  (case aT=>k_is)
  (case aP=>k_is)
  (case aM=>k_is)
  (case aZ=>k_is)
  (case y1=>exact L2.ft_in (by k_is) (by k_is) (by k_is) (by k_is))
  (case y2=>exact L2.ft_in (by k_is) (by k_is) (by k_is) (by k_is))
  (case y3=>exact L2.ft_in (by k_is) (by k_is) (by k_is) (by k_is))
  (case y4=>exact L2.ft_in (by k_is) (by k_is) (by k_is) (by k_is))
  (case y5=>exact L2.ft_in (by k_is) (by k_is) (by k_is) (by k_is))
  (case y6=>exact L2.ft_in (by k_is) (by k_is) (by k_is) (by k_is))
  (case y7=>exact L2.ft_in (by k_is) (by k_is) (by k_is) (by k_is))
  (case y8=>exact L2.ft_in (by k_is) (by k_is) (by k_is) (by k_is))
  (case y9=>exact L2.ft_in (by k_is) (by k_is) (by k_is) (by k_is))
  (case y10=>exact L2.ft_in (by k_is) (by k_is) (by k_is) (by k_is))
  (case y11=>exact L2.ft_in (by k_is) (by k_is) (by k_is) (by k_is))
  (case y12=>exact L2.ft_in (by k_is) (by k_is) (by k_is) (by k_is))
  (case y13=>exact L2.ft_in (by k_is) (by k_is) (by k_is) (by k_is))
  (case y14=>exact L2.ft_in (by k_is) (by k_is) (by k_is) (by k_is))
  (case y15=>exact L2.ft_in (by k_is) (by k_is) (by k_is) (by k_is))
  (case y16=>exact L2.ft_in (by k_is) (by k_is) (by k_is) (by k_is))
  (case y17=>exact L2.ft_in (by k_is) (by k_is) (by k_is) (by k_is))
  (case y18=>exact L2.ft_in (by k_is) (by k_is) (by k_is) (by k_is))
  (case y19=>exact L2.ft_in (by k_is) (by k_is) (by k_is) (by k_is))
  (case y20=>exact L2.ft_in (by k_is) (by k_is) (by k_is) (by k_is))
  (case y21=>exact L2.ft_in (by k_is) (by k_is) (by k_is) (by k_is))
  (case y22=>exact L2.ft_in (by k_is) (by k_is) (by k_is) (by k_is))
  (case y23=>exact L2.ft_in (by k_is) (by k_is) (by k_is) (by k_is))
  (case y24=>exact L2.ft_in (by k_is) (by k_is) (by k_is) (by k_is))
  (case y25=>exact L2.ft_in (by k_is) (by k_is) (by k_is) (by k_is))
  (case y26=>exact L2.ft_in (by k_is) (by k_is) (by k_is) (by k_is))
  (case y27=>exact L2.ft_in (by k_is) (by k_is) (by k_is) (by k_is))
  (case y28=>exact L2.ft_in (by k_is) (by k_is) (by k_is) (by k_is))
  (case y29=>exact L2.fm_in (by k_is) (by k_is) (by k_is) (by k_is) (by k_is))
  (case y30=>exact L2.fm_in (by k_is) (by k_is) (by k_is) (by k_is) (by k_is))
  (case y31=>exact L2.fm_in (by k_is) (by k_is) (by k_is) (by k_is) (by k_is))
  (case y32=>exact L2.fm_in (by k_is) (by k_is) (by k_is) (by k_is) (by k_is))
  (case y33=>exact L2.fm_in (by k_is) (by k_is) (by k_is) (by k_is) (by k_is))
  (case y34=>exact L2.fm_in (by k_is) (by k_is) (by k_is) (by k_is) (by k_is))
  (case y35=>exact L2.fm_in (by k_is) (by k_is) (by k_is) (by k_is) (by k_is))
  (case y36=>exact L2.fm_in (by k_is) (by k_is) (by k_is) (by k_is) (by k_is))
  (case y37=>exact L2.fm_in (by k_is) (by k_is) (by k_is) (by k_is) (by k_is))
  (case y38=>exact L2.fm_in (by k_is) (by k_is) (by k_is) (by k_is) (by k_is))
  (case y39=>exact L2.fm_in (by k_is) (by k_is) (by k_is) (by k_is) (by k_is))
  (case y40=>exact L2.fm_in (by k_is) (by k_is) (by k_is) (by k_is) (by k_is))
  (case y41=>exact L2.fm_in (by k_is) (by k_is) (by k_is) (by k_is) (by k_is))
  (case y42=>exact L2.fm_in (by k_is) (by k_is) (by k_is) (by k_is) (by k_is))
  (case y43=>exact L2.fm_in (by k_is) (by k_is) (by k_is) (by k_is) (by k_is))
  (case s1=>k_is)
  (case s2=>k_is)
  (case s3=>k_is)
  (case s4=>k_is)
  (case s5=>k_is)
  (case s6=>k_is)
  (case s7=>k_is)
  (case s8=>k_is)
  (case s9=>k_is)
  (case z_len=>k_is)
  (case z_all=>k_is)
  (case z_range=>k_is)
  (case z_isinstance=>k_is)
  (case z_bool=>k_is)
  (case z_tuple=>k_is)
  (case z_abs=>k_is)
  (case z_list=>k_is)
  (case z_int=>k_is)
  (case z_str=>k_is)
  (case z_divmod=>k_is)
  (case z_enumerate=>k_is)
  (case z_set=>k_is)
  (case pg=>k_is)
  (case hd=>k_is)
  (case po=>k_is)
  (case sa=>k_is)
  (case mk=>k_is)
  (case kc=>k_is)
  (case nT=>k_is)
  (case nA=>k_is)
  (case nR=>k_is)
  (case xN=>k_exc)
  (case xT=>k_exc)
  (case xP=>k_exc)
  (case xM=>k_exc)
  (case o3=>k_is)
  (case o4=>k_is)
  (case zg=>k_is)
  (case zd=>k_is)
  (case zo=>k_is)
  (case zs=>k_is)
  (case zm=>k_is)
  (case zk=>k_is)
  (case zp=>k_is)
  (case zt=>k_is)
  (case zn=>k_is)
  (case e_mm=>kts_exm)
