import PyProof.Rows.All
import Wide.All
import OpenK.AllK
import Wide.FinOn
import Lean
import PyProof.EqAt
import PyProof.EqKinds
import PyProof.TupleCall
import PySem.Challenge.RW_yesorno_k51_clashes
set_option Elab.async false
set_option linter.all false
set_option maxRecDepth 100000
namespace L2
open PySem PySem.Spec PyProof.Rows
abbrev Key:=Sum Int Str
def zdt:Key→Value→Bool
  | .inl k,v=>Value.isInt k v
  | .inr x,v=>Value.isStrOf x v
def keyH (w:World):Key→Int
  | .inl k=>hashInt k
  | .inr x=>hashStr w x
theorem za2:∀ {k:Key} {v:Value},zdt k v=true→(∃ i t,k=Sum.inl i∧v=Value.int i t)∨(∃ x t,k=Sum.inr x∧v=Value.str x t)
  | .inl i,v,h=>by
    obtain⟨t,e⟩:=Value.isInt_shape (k:=i) (v:=v) h
    exact .inl ⟨i,t,rfl,e⟩
  | .inr x,v,h=>by
    obtain⟨t,e⟩:=Value.isStrOf_shape (x:=x) (v:=v) h
    exact .inr ⟨x,t,rfl,e⟩
theorem zjW (i:Int) (t:Tok):zdt (.inl i) (.int i t)=true:=by simp [zdt,Value.isInt]
theorem zjV (x:Str) (t:Tok):zdt (.inr x) (.str x t)=true:=by simp [zdt,Value.isStrOf]
theorem key_ll (a b:Int):decide ((Sum.inl a:Key)=Sum.inl b)=(a == b):=by
  by_cases e:a=b
  · subst e;simp
  · have h:¬(Sum.inl a:Key)=Sum.inl b:=fun q=>e (Sum.inl.inj q)
    rw[decide_eq_false h]
    exact(beq_eq_false_iff_ne.mpr e).symm
theorem key_rr (a b:Str):decide ((Sum.inr a:Key)=Sum.inr b)=decide (a=b):=by
  by_cases e:a=b
  · subst e;simp
  · have h:¬(Sum.inr a:Key)=Sum.inr b:=fun q=>e (Sum.inr.inj q)
    rw[decide_eq_false h,decide_eq_false e]
theorem key_lr (a:Int) (b:Str):decide ((Sum.inl a:Key)=Sum.inr b)=false:=decide_eq_false (fun q=>nomatch q)
theorem key_rl (a:Str) (b:Int):decide ((Sum.inr a:Key)=Sum.inl b)=false:=decide_eq_false (fun q=>nomatch q)
def zap (prog:Program) (w:World):PySem.KeyKind prog w Key where
  is:=zdt
  hash:=keyH w
  inj:=fun v a b ha hb=>by
    rcases za2 ha with ⟨i,t,rfl,rfl⟩ | ⟨x,t,rfl,rfl⟩
    · rcases za2 hb with ⟨j,u,rfl,e⟩ | ⟨y,u,rfl,e⟩
      · injection e with e1 _;rw[e1]
      · exact nomatch e
    · rcases za2 hb with ⟨j,u,rfl,e⟩ | ⟨y,u,rfl,e⟩
      · exact nomatch e
      · injection e with e1 _;rw[e1]
  byValue:=fun k v h=>by
    rcases za2 h with ⟨i,t,rfl,rfl⟩ | ⟨x,t,rfl,rfl⟩ <;> rfl
  pyHash:=fun hv h=>by
    rcases za2 hv with ⟨i,t,rfl,rfl⟩ | ⟨x,t,rfl,rfl⟩
    · exact wpAny_pyHash_int h
    · exact wpAny_pyHash_str h
  eqBool:=fun hu hv h=>by
    rcases za2 hu with ⟨i,t,rfl,rfl⟩ | ⟨x,t,rfl,rfl⟩
    · rcases za2 hv with ⟨j,u,rfl,rfl⟩ | ⟨y,u,rfl,rfl⟩
      · rw[key_ll]at h;exact wpAny_eqBool_int h
      · rw[key_lr]at h;exact SeqAt.EqAt.int_str i t y u _ _ _ _ h
    · rcases za2 hv with ⟨j,u,rfl,rfl⟩ | ⟨y,u,rfl,rfl⟩
      · rw[key_rl]at h;exact SeqAt.EqAt.str_int x t j u _ _ _ _ h
      · rw[key_rr]at h;exact wpAny_eqBool_str h
  «strs»:=fun k x t v h=>by
    rcases za2 h with ⟨i,u,rfl,e⟩ | ⟨y,u,rfl,e⟩
    · exact nomatch e
    · injection e with e1 _
      subst e1
      cases v <;> rfl
theorem zhT (prog:Program) (w:World) (i:Int) (t:Tok):(zap prog w).is (.inl i) (.int i t)=true:=zjW i t
theorem zdc (prog:Program) (w:World) (x:Str) (t:Tok):(zap prog w).is (.inr x) (.str x t)=true:=zjV x t
end L2
namespace L2
open PySem PySem.Spec PyProof.Rows
inductive V where
  | non | bl (b:Bool) | int (i:Int) | str (x:Str) | byt (b:Array UInt8) | flt (b:UInt64) | ref (a:Addr) | ty (n:String)
  deriving DecidableEq
def aL:V→Value→Prop
  | .non,u=>u=Value.none
  | .bl b,u=>u=Value.bool b
  | .int i,u=>∃ t,u=Value.int i t
  | .str x,u=>∃ t,u=Value.str x t
  | .byt b,u=>∃ t,u=Value.bytes b t
  | .flt b,u=>∃ t,u=Value.float b t
  | .ref a,u=>u=Value.ref a
  | .ty n,u=>u=Value.type n
abbrev aI:List V→List Value→Prop:=Paired aL
theorem aI.length {xs:List V} {us:List Value} (r:aI xs us):xs.length=us.length:=Paired.length r
theorem aI.get:∀ {xs:List V} {us:List Value} {i:Nat} {x:V},aI xs us→xs[i]?=some x→∃ u,us[i]?=some u∧aL x u
  | _,_,_,_,.nil,e=>by simp at e
  | _,_,0,_,.cons r _,e=>by simp at e;subst e;exact⟨_,rfl,r⟩
  | _,_,i+1,x,.cons _ t,e=>by
    obtain⟨u,h1,h2⟩:=aI.get (i:=i) (x:=x) t (by simpa using e)
    exact⟨u,by simpa using h1,h2⟩
theorem aI.set {x:V} {u:Value} (r:aL x u):∀ {xs:List V} {us:List Value} (i:Nat),aI xs us→aI (xs.set i x) (us.set i u)
  | _,_,_,.nil=>.nil
  | _,_,0,.cons _ t=>.cons r t
  | _,_,i+1,.cons q t=>.cons q (aI.set r i t)
theorem aI.append:∀ {xs ys:List V} {us ws:List Value},aI xs us→aI ys ws→aI (xs++ys) (us++ws)
  | _,_,_,_,.nil,s=>s
  | _,_,_,_,.cons r t,s=>.cons r (aI.append t s)
theorem aI.take:∀ {xs:List V} {us:List Value} (n:Nat),aI xs us→aI (xs.take n) (us.take n)
  | _,_,0,_=>.nil
  | _,_,_+1,.nil=>.nil
  | _,_,n+1,.cons r t=>.cons r (aI.take n t)
theorem aI.drop:∀ {xs:List V} {us:List Value} (n:Nat),aI xs us→aI (xs.drop n) (us.drop n)
  | _,_,0,r=>r
  | _,_,_+1,.nil=>.nil
  | _,_,n+1,.cons _ t=>aI.drop n t
def zbP:Option V→Option Value→Prop
  | some v,some u=>aL v u
  | none,none=>True
  | _,_=>False
def KV {κ:Type}:List (κ × V)→List (κ × Value)→Prop:=Paired fun(p:κ × V) (q:κ × Value)=>p.1=q.1∧aL p.2 q.2
def kV:Key→V
  | .inl i=>.int i
  | .inr x=>.str x
inductive HO where
    | lst (xs:List V)
    | tup (xs:List V)
    | dK (kvs:List (Key × V)) | dT (kvs:List (List Key × V))
    | set (S:Int→Bool) (n:Nat)
    | ins (C dx:Addr) (fs:List (Str × V))
    | own (x:Addr)
    | xd (fs:List (Str × V))
    | met (f x:Addr)
    | rng (lo hi:Int)
    | frz (o:Obj) (u:HO)
    | tbl (ps:Array Value)
    | ext (φ:Heap→Prop)
abbrev Hp:=Addr→Option HO
def upd (H:Hp) (a:Addr) (o:HO):Hp:=fun b=>if b=a then some o else H b
theorem ad {H:Hp} {a:Addr} {o:HO}:upd H a o a=some o:=by unfold upd;rw[if_pos rfl]
theorem aj {H:Hp} {a b:Addr} {o:HO} (h:b≠a):upd H a o b=H b:=by unfold upd;rw[if_neg h]
theorem zkQ {H:Hp} {a:Addr} {o u:HO}:upd (upd H a o) a u=upd H a u:=by
  funext b;unfold upd;split <;> rfl
theorem zax {H:Hp} {a b:Addr} {o u:HO} (h:H a=some o) (h':H b=some u) (d:o≠u):a≠b:=by
  intro e;subst e;rw[h]at h';exact d (Option.some.inj h')
theorem zac {H:Hp} {a b:Addr} {o:HO} (h:H a=some o) (h':H b=none):a≠b:=by
  intro e;subst e;rw[h]at h';cases h'
section
variable (P:Program) (w:World)
def zaz (H:Hp) (h:Heap) (a:Addr):HO→Prop
  | .lst xs=>xs.length≤sizeLine∧∃(its:List Value) (n:Nat),aI xs its∧h.get? a=some { cls:=.type "list",data:=.seq its.toArray n }
  | .tup xs=>xs.length≤sizeLine∧∃ its:List Value,aI xs its∧IsTup h a its.toArray
  | .dK kvs=>kvs.length≤sizeLine∧(a == sysModules)=false∧∃ vs,KV kvs vs∧h.DictOf (zap P w) a vs
  | .dT kvs=>kvs.length≤sizeLine∧(a == sysModules)=false∧∃ xs:List (List Key × Addr × Value),
      Paired (fun(p:List Key × V) (q:List Key × Addr × Value)=>p.1=q.1∧H q.2.1=some (.tup (p.1.map kV))∧aL p.2 q.2.2) kvs xs ∧
      ∃ o es ep,h.get? a=some o∧o.ExactDict∧o.data=.dict es ep∧es.toList=xs.map (entryOfKey (tupleKind (zap P w)))∧(xs.map (·.1)).Nodup
  | .set S n=>h.SetOf (intKind P w) a S n
  | .ins C dx fs=>H dx=some (.own a)∧fs.length≤1000∧dx≠a∧h.get? a=some (PySem.W.instObj C dx) ∧
      ∃ mA,h.Ns1 dx mA∧(∀ f,zbP (fs.lookup f) (mA f))∧PySem.Within mA (fs.map (·.1))
  | .own _=>∃ o,h.get? a=some o
  | .xd fs=>∃ mA,h.Ns1 a mA∧∀ f,zbP (fs.lookup f) (mA f)
  | .rng lo hi=>∃ t u v,h.get? a=some { cls:=.type "range",data:=.fields #[.int lo t,.int hi u,.int 1 v] }
  | .frz o u=>h.get? a=some o∧zaz H h a u
  | .tbl ps=>h.get? a=some { cls:=.none,data:=.fields ps }
  | .met f x=>h.get? a=some (PySem.W.methodObj (.ref f) (.ref x))
  | .ext φ=>φ h∧(∃ o,h.get? a=some o)∧∀ h1 h2:Heap,φ h1→(∀ o,h1.get? a=some o→h2.get? a=some o)→φ h2
def HOk (H:Hp) (h:Heap):Prop:=∀ a o,H a=some o→zaz P w H h a o
end
section
variable {P:Program} {w:World} {H H':Hp} {h h':Heap} {a:Addr} {o:HO}
theorem zaz.lt (x:zaz P w H h a o):a < h.objs.size:=by
  cases o with
  | lst xs=>obtain⟨_,_,_,_,e⟩:=x;exact Heap.lt_size e
  | tup xs=>obtain⟨_,_,_,p⟩:=x;exact p.lt
  | dK kvs=>obtain⟨_,_,_,_,o,_,_,e,_⟩:=x;exact Heap.lt_size e
  | dT kvs=>obtain⟨_,_,_,_,o,_,_,e,_⟩:=x;exact Heap.lt_size e
  | set S n=>obtain⟨o,_,_,_,e,_⟩:=x;exact Heap.lt_size e
  | ins C dx fs=>obtain⟨_,_,_,e,_⟩:=x;exact Heap.lt_size e
  | own y=>obtain⟨_,e⟩:=x;exact Heap.lt_size e
  | xd fs=>obtain⟨_,⟨_,_,_,e,_⟩,_⟩:=x;exact Heap.lt_size e
  | rng lo hi=>obtain⟨_,_,_,e⟩:=x;exact Heap.lt_size e
  | frz ob u=>obtain⟨e,_⟩:=x;exact Heap.lt_size e
  | tbl ps=>exact Heap.lt_size (show h.get? a=some _ from x)
  | met f y=>exact Heap.lt_size (show h.get? a=some _ from x)
  | ext φ=>obtain⟨_,⟨_,e⟩,_⟩:=x;exact Heap.lt_size e
theorem Paired.mapP {α β:Type} {F G:α→β→Prop}:∀ {l₁:List α} {l₂:List β},Paired F l₁ l₂→(∀ a b,F a b→G a b)→Paired G l₁ l₂
  | _,_,.nil,_=>.nil
  | _,_,.cons r t,f=>.cons (f _ _ r) (Paired.mapP t f)
theorem zaz.stay (x:zaz P w H h a o) (k:∀ b u,(b=a∨H b=some (.own a))→h.get? b=some u→h'.get? b=some u)
    (ho:∀ b,H b=some (.own a)→H' b=some (.own a)) (ht:∀ b xs,H b=some (.tup xs)→H' b=some (.tup xs)):zaz P w H' h' a o:=by
  induction o with
  | lst xs=>obtain⟨z,its,n,r,e⟩:=x;exact⟨z,its,n,r,k _ _ (.inl rfl) e⟩
  | tup xs=>obtain⟨z,its,r,ob,e,c⟩:=x;exact⟨z,its,r,ob,k _ _ (.inl rfl) e,c⟩
  | dK kvs=>obtain⟨z,y,vs,r,ob,es,ep,e,c⟩:=x;exact⟨z,y,vs,r,ob,es,ep,k _ _ (.inl rfl) e,c⟩
  | dT kvs =>
    obtain⟨z,y,xs,r,ob,es,ep,e,c⟩:=x
    exact⟨z,y,xs,Paired.mapP r fun p q z=>⟨z.1,ht _ _ z.2.1,z.2.2⟩,ob,es,ep,k _ _ (.inl rfl) e,c⟩
  | set S n=>obtain⟨ob,es,ep,t,e,c⟩:=x;exact⟨ob,es,ep,t,k _ _ (.inl rfl) e,c⟩
  | ins C dx fs =>
    obtain⟨d,z,ne,e,mA,⟨od,es,ep,e2,c⟩,r⟩:=x
    exact⟨ho _ d,z,ne,k _ _ (.inl rfl) e,mA,⟨od,es,ep,k _ _ (.inr d) e2,c⟩,r⟩
  | own y=>obtain⟨ob,e⟩:=x;exact⟨ob,k _ _ (.inl rfl) e⟩
  | xd fs=>obtain⟨mA,⟨od,es,ep,e,c⟩,r⟩:=x;exact⟨mA,⟨od,es,ep,k _ _ (.inl rfl) e,c⟩,r⟩
  | rng lo hi=>obtain⟨t,u,v,e⟩:=x;exact⟨t,u,v,k _ _ (.inl rfl) e⟩
  | frz ob u ih=>obtain⟨e,q⟩:=x;exact⟨k _ _ (.inl rfl) e,ih q⟩
  | tbl ps =>
    have e:h.get? a=some { cls:=.none,data:=.fields ps }:=x
    show h'.get? a=some { cls:=.none,data:=.fields ps }
    exact k a _ (.inl rfl) e
  | met f y =>
    have e:h.get? a=some (PySem.W.methodObj (.ref f) (.ref y)):=x
    show h'.get? a=some (PySem.W.methodObj (.ref f) (.ref y))
    exact k a _ (.inl rfl) e
  | ext φ=>obtain⟨p,⟨o,e⟩,st⟩:=x;exact⟨st _ _ p fun o q=>k _ _ (.inl rfl) q,⟨o,k _ _ (.inl rfl) e⟩,st⟩
theorem HOk.lt (x:HOk P w H h) (e:H a=some o):a < h.objs.size:=(x a o e).lt
theorem HOk.fresh (x:HOk P w H h) (e:h.objs.size≤a):H a=none:=by
  cases q:H a with
  | none=>rfl
  | some u=>exact absurd (Nat.lt_of_lt_of_le (x.lt q) e) (Nat.lt_irrefl _)
theorem HOk.kept (x:HOk P w H h) (k:∀ b u,h.get? b=some u→h'.get? b=some u):HOk P w H h':=fun a o e =>
  (x a o e).stay (fun b u _ q=>k b u q) (fun _ q=>q) fun _ _ q=>q
theorem HOk.laid (x:HOk P w H h) (k:∀ b u,h.get? b=some u→h'.get? b=some u) (hp:h.objs.size≤a) (new:zaz P w (upd H a o) h' a o):HOk P w (upd H a o) h':=fun b u e=>by
  have hn:=x.fresh hp
  by_cases hb:b=a
  · subst hb;rw[ad]at e;cases e;exact new
  · rw[aj hb]at e
    exact(x b u e).stay (fun c v _ q=>k c v q) (fun c q=>by rw[aj (zac q hn)];exact q) fun c xs q=>by rw[aj (zac q hn)];exact q
end
def Rd (H:Hp) (a:Addr) (u:HO):Prop:=H a=some u∨∃ o,H a=some (.frz o u)
theorem Rd.ok {P:Program} {w:World} {H:Hp} {h:Heap} {a:Addr} {u:HO} (r:Rd H a u) (x:HOk P w H h):zaz P w H h a u:=by
  rcases r with r | ⟨o,r⟩
  · exact x a u r
  · obtain⟨_,q⟩:=x a _ r
    exact q
def Mut:Option HO→Prop
  | some (.lst _)=>True
  | some (.dK _)=>True
  | some (.dT _)=>True
  | some (.set _ _)=>True
  | some (.ins _ _ _)=>True
  | some (.ext _)=>True
  | _=>False
section
variable {P:Program} {w:World} {H:Hp} {h h':Heap} {x e:Addr} {o':HO}
theorem HOk.write (ok:HOk P w H h) (mu:Mut (H x)) (he:e=x∨H e=some (.own x)) (k:∀ b u,b≠e→h.get? b=some u→h'.get? b=some u) (heo:∃ u,h'.get? e=some u)
    (new:zaz P w (upd H x o') h' x o'):HOk P w (upd H x o') h':=fun b u q=>by
  have nown:∀ c y,H c=some (.own y)→c≠x:=fun c y r z=>by subst z;rw[r]at mu;exact mu
  have ntup:∀ c xs,H c=some (.tup xs)→c≠x:=fun c xs r z=>by subst z;rw[r]at mu;exact mu
  by_cases hb:b=x
  · subst hb;rw[ad]at q;cases q;exact new
  · rw[aj hb]at q
    by_cases hbe:b=e
    · have q':H b=some (.own x):=by
        rcases he with z | z
        · exact absurd (hbe.trans z) hb
        · rw[hbe];exact z
      rw[q]at q';cases q'
      obtain⟨v,hv⟩:=heo
      exact⟨v,by rw[hbe];exact hv⟩
    · refine(ok b u q).stay (fun c v hc r=>k c v ?_ r) (fun c r=>by rw[aj (nown c b r)];exact r) fun c xs r=>by rw[aj (ntup c xs r)];exact r
      rcases hc with rfl | hc
      · exact hbe
      · rintro rfl
        rcases he with z | z
        · exact nown c b hc z
        · rw[hc]at z;cases z;exact hb rfl
end
structure Un (fs ex:List Addr) (H H':Hp) (h h':Heap):Prop where
  keep:∀ b o,h.get? b=some o→H b=none→b∉fs→b∉ex→h'.get? b=some o
  slot:∀ b o,h.get? b=some o→H b=none→b∈fs→b∉ex→∃ sl,h'.get? b=some { o with slots:=sl }
  free:∀ b o,h.get? b=some o→H b=none→b∉ex→H' b=none
  there:∀ b o,h.get? b=some o→b∉ex→∃ o',h'.get? b=some o'
  tups:∀ b xs,H b=some (.tup xs)→H' b=some (.tup xs)
  frzs:∀ b o u,H b=some (.frz o u)→H' b=some (.frz o u)
  tbls:∀ b ps,H b=some (.tbl ps)→∃ more,H' b=some (.tbl (ps++more))
section
variable {fs fs' ex ex':List Addr} {H H1 H2:Hp} {h h1 h2 h':Heap} {a x e:Addr} {o:HO}
theorem Un.any (u:Un fs ex H H1 h h1) {b:Addr} {ob:Obj} (q:h.get? b=some ob) (n:H b=none) (hx:b∉ex):∃ sl,h1.get? b=some { ob with slots:=sl }:=by
  by_cases hb:b∈fs
  · exact u.slot b ob q n hb hx
  · exact⟨ob.slots,u.keep b ob q n hb hx⟩
theorem Un.trans (a:Un fs ex H H1 h h1) (b:Un fs ex H1 H2 h1 h2):Un fs ex H H2 h h2 where
  keep:=fun c ob q n hc hx=>b.keep c ob (a.keep c ob q n hc hx) (a.free c ob q n hx) hc hx
  slot:=fun c ob q n hc hx=>by
    obtain⟨sl,e1⟩:=a.slot c ob q n hc hx
    obtain⟨sl',e2⟩:=b.slot c _ e1 (a.free c ob q n hx) hc hx
    exact⟨sl',e2⟩
  free:=fun c ob q n hx=>by
    obtain⟨o',e1⟩:=a.there c ob q hx
    exact b.free c o' e1 (a.free c ob q n hx) hx
  there:=fun c ob q hx=>by
    obtain⟨o',e1⟩:=a.there c ob q hx
    exact b.there c o' e1 hx
  tups:=fun c xs q=>b.tups c xs (a.tups c xs q)
  frzs:=fun c ob xs q=>b.frzs c ob xs (a.frzs c ob xs q)
  tbls:=fun c ps q=>by
    obtain⟨m1,e1⟩:=a.tbls c ps q
    obtain⟨m2,e2⟩:=b.tbls c _ e1
    exact⟨m1++m2,by rw[e2,Array.append_assoc]⟩
theorem Un.kept (k:∀ b u,h.get? b=some u→h'.get? b=some u):Un fs ex H H h h' :=
  ⟨fun b ob q _ _ _=>k b ob q,fun b ob q _ _ _=>⟨ob.slots,k b ob q⟩,fun _ _ _ n _=>n,fun b ob q _=>⟨ob,k b ob q⟩,fun _ _ q=>q,fun _ _ _ q=>q,fun _ ps q=>⟨#[],by rw[q];simp⟩⟩
theorem Un.refl:Un fs ex H H h h:=Un.kept fun _ _ q=>q
theorem Un.laid (k:∀ b u,h.get? b=some u→h'.get? b=some u) (hp:h.objs.size≤a) (hn:H a=none):Un fs ex H (upd H a o) h h' where
  keep:=fun b u q _ _ _=>k b u q
  slot:=fun b u q _ _ _=>⟨u.slots,k b u q⟩
  free:=fun b u q n _=>by rw[aj (Nat.ne_of_lt (Nat.lt_of_lt_of_le (Heap.lt_size q) hp))];exact n
  there:=fun b u q _=>⟨u,k b u q⟩
  tups:=fun b xs q=>by rw[aj (zac q hn)];exact q
  frzs:=fun b u xs q=>by rw[aj (zac q hn)];exact q
  tbls:=fun b ps q=>⟨#[],by rw[aj (zac q hn),q];simp⟩
theorem Un.write (mu:Mut (H x)) (he:e=x∨H e=some (.own x)) (k:∀ b u,b≠e→h.get? b=some u→h'.get? b=some u) (heo:∃ u,h'.get? e=some u):Un fs ex H (upd H x o) h h':=by
  have hx:∀ b,H b=none→b≠x:=fun b n z=>by subst z;rw[n]at mu;exact mu
  have hb:∀ b,H b=none→b≠e:=fun b n z=>by
    subst z
    rcases he with r | r
    · exact hx b n r
    · rw[n]at r;cases r
  have hm:∀ b u,H b=some u→¬Mut (some u)→b≠x:=fun b u q nm z=>by subst z;rw[q]at mu;exact nm mu
  refine⟨fun b u q n _ _=>k b u (hb b n) q,fun b u q n _ _=>⟨u.slots,k b u (hb b n) q⟩,fun b u q n _=>by rw[aj (hx b n)];exact n,fun b u q _=>?_,
    fun b xs q=>by rw[aj (hm b _ q fun z=>z)];exact q,fun b u xs q=>by rw[aj (hm b _ q fun z=>z)];exact q,fun b ps q=>⟨#[],by rw[aj (hm b _ q fun z=>z),q];simp⟩⟩
  by_cases hbe:b=e
  · subst hbe;exact heo
  · exact⟨u,k b u hbe q⟩
end
def trk (h:Heap) (H:Hp):List Addr:=(List.range h.objs.size).filter fun a=>(H a).isSome
def zeA (h:Heap) (H:Hp):Heap:=PySem.W.hideAll h (trk h H)
theorem zjZ (h:Heap) (H:Hp):(zeA h H).objs.size=h.objs.size:=PySem.W.hideAll_size _ _
theorem zkz {h:Heap} {H:Hp} {b:Addr} {o:Obj} (e:h.get? b=some o) (n:H b=none):(zeA h H).get? b=some o :=
  PySem.W.hideAll_get _ e fun hm=>by
    have q:(H b).isSome=true:=(List.mem_filter.mp hm).2
    rw[n]at q;simp at q
theorem zli {h:Heap} {H:Hp} {b:Addr} {o:Obj} (e:(zeA h H).get? b=some o):h.get? b=some o∧H b=none:=by
  have e':h.get? b=some o:=PySem.W.of_hideAll (trk h H) e
  refine⟨e',?_⟩
  cases q:H b with
  | none=>rfl
  | some x =>
    have hm:b∈trk h H:=List.mem_filter.mpr ⟨List.mem_range.mpr (Heap.lt_size e'),by simp [q]⟩
    have z:(zeA h H).get? b=none:=PySem.W.hideAll_none (trk h H) hm
    rw[z]at e;cases e
def zlC (g h:Heap) (L:Addr):List (Addr × Obj):=(List.range h.objs.size).filterMap fun a=>if a=L∨(g.get? a).isSome=true then none else(h.get? a).map fun o=>(a,o)
def zau (g h:Heap) (L d:Addr):List (Addr × Obj):=(zlC g h L).filter fun p=>decide (p.1≠d)
end L2
namespace L2
open PySem PySem.Spec PyProof.Rows
structure Mod (K:PySem.W.Frag) (mg:Str→Option Value) (base:Heap):Prop where
  kin:K.In base
  glob:base.Ns mainGlobals mg
  blt:∃ mb,base.Ns builtinsNs mb∧∀ x:Str,x≠"__name__"→mb x=bootBuiltins x
  nolimit:base.NoLimit
structure Cx where
  prog:Program
  w:World
  K:PySem.W.Frag
  mg:Str→Option Value
  base:Heap
  A:Around
  N:List Str
  s₀:Shared
  H₀:Hp
  env:Env
  outer:List Env
  stack:List Env
  ex:List Addr
  fn:Str→Bool
  calm:Bool
  pn:List (Addr × Obj)
  xe:Value→Shared→Prop
def frs (l:List Env):List Addr:=l.filterMap (·.frame)
abbrev Cx.fs (X:Cx):List Addr:=frs X.outer
def Vis (sc:Scope) (x:Str):Prop:=sc.names.lookup x=some .local∨sc.names.lookup x=some .cell∨sc.names.lookup x=some .free
def Loc (sc:Scope) (x:Str):Prop:=sc.names.lookup x=some .local∨sc.names.lookup x=some .cell
def Look (env:Env) (h:Heap) (m:Str→Option Value) (x:Str) (u:Value):Prop :=
  (env.kindOf x=some .local∧m x=some u)∨((env.kindOf x=some .cell∨env.kindOf x=some .free)∧∃ c,env.cells.lookup x=some c∧h.IsCell c (some u))
structure Cx.Ok (X:Cx):Prop where
  mod:Mod X.K X.mg X.base
  kind:X.env.scope.kind=.function
  glob:X.env.globals=mainGlobals
  blt:X.env.builtins=builtinsNs
  above:X.s₀.heap.objs.size≤X.env.locals
  inj:∀ x y c,X.env.cells.lookup x=some c→X.env.cells.lookup y=some c→x=y
  has:∀ x,(X.env.kindOf x=some .cell∨X.env.kindOf x=some .free)→∃ c,X.env.cells.lookup x=some c
  cab:∀ x c,X.fn x=true→X.env.cells.lookup x=some c→X.s₀.heap.objs.size≤c
  hd:X.calm=true→X.A.handled=none
  frames:X.A.frames=some X.stack
  stk:X.stack=X.outer∨(X.stack=X.env :: X.outer∧X.env.frame=some X.env.locals)
  exf:∀ b∈X.ex,b≠X.env.locals∧∀ x c,X.env.cells.lookup x=some c→c≠b
  bs:∀ b o,X.base.get? b=some o→X.s₀.heap.get? b=some o∧X.H₀ b=none
  bsz:X.base.objs.size≤X.s₀.heap.objs.size
  noex:∀ b o,X.base.get? b=some o→b∉X.ex
  exfs:∀ b∈X.ex,b∉X.fs
  funs:X.s₀.heap.FunFrames X.base X.outer
  frf:∀ b∈X.fs,X.H₀ b=none
structure Inv (X:Cx) (pins:List (Addr × Obj)) (σ:List (Option V)) (H:Hp) (s:Shared):Prop where
  ok:X.Ok
  os:s.os=X.s₀.os
  bare:AllBare s.gens
  base:Un X.fs X.ex X.H₀ H X.s₀.heap s.heap
  loc:∃ m,s.heap.Ns X.env.locals m∧∀(i:Nat) (x:Str) (v:V),X.N[i]?=some x→σ[i]?=some (some v)→Vis X.env.scope x→∃ u,aL v u∧Look X.env s.heap m x u
  cell:∀ x c,X.env.cells.lookup x=some c→∃ v,s.heap.IsCell c v
  free:H X.env.locals=none
  freeC:∀ x c,X.env.cells.lookup x=some c→H c=none
  pin:∀ p∈X.pn++pins,s.heap.get? p.1=some p.2∧H p.1=none∧p.1≠X.env.locals∧p.1∉X.fs∧∀ v,p.2.data≠.cell v
  hok:HOk X.prog X.w H s.heap
  len:σ.length=X.N.length
section
variable {X:Cx} {pins:List (Addr × Obj)} {σ:List (Option V)} {H H':Hp} {s:Shared} {h':Heap}
theorem Cx.Ok.nofr (ok:X.Ok) {b:Addr} {o:Obj} (e:X.base.get? b=some o):b∉X.fs:=fun hb=>by
  have:=(ok.funs.mem hb).1
  rw[e]at this;cases this
theorem Inv.bs (I:Inv X pins σ H s):∀ b o,X.base.get? b=some o→s.heap.get? b=some o∧H b=none:=fun b o e =>
  ⟨I.base.keep b o (I.ok.bs b o e).1 (I.ok.bs b o e).2 (I.ok.nofr e) (I.ok.noex b o e),I.base.free b o (I.ok.bs b o e).1 (I.ok.bs b o e).2 (I.ok.noex b o e)⟩
theorem Inv.bk (I:Inv X pins σ H s):∀ b o,X.base.get? b=some o→s.heap.get? b=some o:=fun b o e=>(I.bs b o e).1
theorem Inv.mod (I:Inv X pins σ H s):Mod X.K X.mg X.base:=I.ok.mod
theorem Inv.kIn (I:Inv X pins σ H s):X.K.In s.heap:=I.ok.mod.kin.keeps I.bk
theorem Inv.fr (I:Inv X pins σ H s):∃ m,Fr X.base X.env.locals s.heap m :=
  let ⟨m,hn,_⟩:=I.loc
  ⟨m,hn,I.bk,Nat.le_trans I.ok.bsz I.ok.above⟩
theorem Inv.lt (I:Inv X pins σ H s):X.env.locals < s.heap.objs.size:=let ⟨_,hn,_⟩:=I.loc;hn.lt
theorem Inv.sz (I:Inv X pins σ H s):X.s₀.heap.objs.size≤s.heap.objs.size:=Nat.le_trans I.ok.above (Nat.le_of_lt I.lt)
theorem Inv.nofs (I:Inv X pins σ H s) {a:Addr} (h:s.heap.objs.size≤a):a∉X.fs:=fun hb=>by
  obtain⟨_,o,ho,_⟩:=I.ok.funs.mem hb
  exact absurd (Nat.lt_of_lt_of_le (Heap.lt_size ho) (Nat.le_trans I.sz h)) (Nat.lt_irrefl _)
theorem Inv.cne (I:Inv X pins σ H s):∀ x c,X.env.cells.lookup x=some c→c≠X.env.locals:=fun x c e z=>by
  obtain⟨v,o,ho,hd⟩:=I.cell x c e
  obtain⟨m,⟨o',es,ep,ho',hd',_⟩,_⟩:=I.loc
  rw[z,ho']at ho;cases ho;rw[hd']at hd;cases hd
theorem Inv.funs (I:Inv X pins σ H s):s.heap.FunFrames X.base X.outer:=by
  have all:∀(l:List Env),(∀ b∈frs l,b∈X.fs)→X.s₀.heap.FunFrames X.base l→s.heap.FunFrames X.base l:=by
    intro l
    induction l with
    | nil=>intro _ _;trivial
    | cons env r ih =>
      intro hs hl
      obtain⟨hk,⟨L,o,hf,hn,ho,hd⟩,hr⟩:=hl
      have hL:L∈X.fs:=hs L (by unfold frs;rw[List.filterMap_cons,hf];exact List.mem_cons_self)
      obtain⟨sl,e⟩:=I.base.slot L o ho (I.ok.frf L hL) hL fun z=>I.ok.exfs L z hL
      exact⟨hk,⟨L,_,hf,hn,e,hd⟩,ih (fun b hb=>hs b (by unfold frs;rw[List.filterMap_cons,hf];exact List.mem_cons_of_mem _ hb)) hr⟩
  exact all X.outer (fun _ hb=>hb) I.ok.funs
theorem Inv.stack (I:Inv X pins σ H s):s.heap.FunFrames X.base X.stack:=by
  rcases I.ok.stk with e | ⟨e,hf⟩
  · rw[e];exact I.funs
  · rw[e]
    obtain⟨m,hn,_⟩:=I.loc
    refine .cons (by rw[I.ok.kind];decide) hf hn ?_ I.funs
    exact Heap.get?_none_of_le (Nat.le_trans I.ok.bsz I.ok.above)
theorem Inv.stkSub (I:Inv X pins σ H s):∀ b∈frs X.stack,b∈X.env.locals :: X.fs:=fun b hb=>by
  rcases I.ok.stk with e | ⟨e,hf⟩
  · rw[e]at hb;exact List.mem_cons_of_mem _ hb
  · rw[e]at hb
    unfold frs at hb
    rw[List.filterMap_cons,hf]at hb
    exact hb
theorem Inv.stkFree (I:Inv X pins σ H s):∀ b∈frs X.stack,H b=none:=fun b hb=>by
  rcases List.mem_cons.mp (I.stkSub b hb) with e | hb
  · rw[e];exact I.free
  · obtain⟨_,o,ho,_⟩:=I.ok.funs.mem hb
    exact I.base.free b o ho (I.ok.frf b hb) fun z=>I.ok.exfs b z hb
theorem Inv.step {g':Array GenState} {t':Nat} {d':Drawn} {ch:List Addr} (I:Inv X pins σ H s)
    (hch:∀ b∈ch,(b∈X.ex∨X.s₀.heap.objs.size≤b)∧b≠X.env.locals∧(∀ x c,X.env.cells.lookup x=some c→c≠b)∧∀ p∈X.pn++pins,p.1≠b)
    (keep:∀ b o,b≠X.env.locals→b∉X.fs→b∉ch→s.heap.get? b=some o→H b=none→h'.get? b=some o)
    (slot:∀ b o,b≠X.env.locals→b∈X.fs→b∉ch→s.heap.get? b=some o→H b=none→∃ sl,h'.get? b=some { o with slots:=sl }) (free:∀ b o,b∉ch→s.heap.get? b=some o→H b=none→H' b=none)
    (there:∀ b o,b∉ch→s.heap.get? b=some o→∃ o',h'.get? b=some o')
    (tups:∀ b xs,H b=some (.tup xs)→H' b=some (.tup xs)) (frzs:∀ b o u,H b=some (.frz o u)→H' b=some (.frz o u)) (tbls:∀ b ps,H b=some (.tbl ps)→∃ more,H' b=some (.tbl (ps++more)))
    (ns:∀ m,s.heap.Ns X.env.locals m→h'.Ns X.env.locals m) (hok:HOk X.prog X.w H' h') (hg:AllBare g') :
    Inv X pins σ H' { s with heap:=h',gens:=g',drawn:=d',toks:=t' }:=by
  have neL:∀ b o,X.s₀.heap.get? b=some o→b≠X.env.locals:=fun b o e=>Nat.ne_of_lt (Nat.lt_of_lt_of_le (Heap.lt_size e) I.ok.above)
  have neC:∀ b o,X.s₀.heap.get? b=some o→b∉X.ex→b∉ch:=fun b o e hx hb=>by
    rcases(hch b hb).1 with z | z
    · exact hx z
    · exact absurd (Nat.lt_of_lt_of_le (Heap.lt_size e) z) (Nat.lt_irrefl _)
  have cellK:∀ x c,X.env.cells.lookup x=some c→∀ v,s.heap.IsCell c v→h'.IsCell c v:=fun x c e v ⟨o,ho,hd⟩=>by
    have nch:c∉ch:=fun z=>(hch c z).2.2.1 x c e rfl
    by_cases hc:c∈X.fs
    · obtain⟨sl,q⟩:=slot c o (I.cne x c e) hc nch ho (I.freeC x c e)
      exact⟨_,q,hd⟩
    · exact⟨o,keep c o (I.cne x c e) hc nch ho (I.freeC x c e),hd⟩
  refine⟨I.ok,I.os,hg,⟨fun b o e n hb hx=>?_,fun b o e n hb hx=>?_,fun b o e n hx=>?_,fun b o e hx=>?_,fun b xs e=>tups b xs (I.base.tups b xs e),fun b o xs e=>frzs b o xs (I.base.frzs b o xs e),fun b ps e=>?_⟩,?_,fun x c e=>?_,?_,fun x c e=>?_,fun p hp=>?_,hok,I.len⟩
  · exact keep b o (neL b o e) hb (neC b o e hx) (I.base.keep b o e n hb hx) (I.base.free b o e n hx)
  · obtain⟨sl,e1⟩:=I.base.slot b o e n hb hx
    obtain⟨sl',e2⟩:=slot b _ (neL b o e) hb (neC b o e hx) e1 (I.base.free b o e n hx)
    exact⟨sl',e2⟩
  · obtain⟨o',e1⟩:=I.base.there b o e hx
    exact free b o' (neC b o e hx) e1 (I.base.free b o e n hx)
  · obtain⟨o',e1⟩:=I.base.there b o e hx
    exact there b o' (neC b o e hx) e1
  · obtain⟨m1,e1⟩:=I.base.tbls b ps e
    obtain⟨m2,e2⟩:=tbls b _ e1
    exact⟨m1++m2,by rw[e2,Array.append_assoc]⟩
  · obtain⟨m,hn,hl⟩:=I.loc
    refine⟨m,ns m hn,fun i x v e1 e2 e3=>?_⟩
    obtain⟨u,r,l⟩:=hl i x v e1 e2 e3
    refine⟨u,r,?_⟩
    rcases l with l | ⟨k,c,e,z⟩
    · exact .inl l
    · exact .inr ⟨k,c,e,cellK x c e _ z⟩
  · obtain⟨v,z⟩:=I.cell x c e
    exact⟨v,cellK x c e v z⟩
  · obtain⟨m,⟨o,_,_,ho,_⟩,_⟩:=I.loc
    exact free _ o (fun z=>(hch _ z).2.1 rfl) ho I.free
  · obtain⟨v,o,ho,hd⟩:=I.cell x c e
    exact free c o (fun z=>(hch c z).2.2.1 x c e rfl) ho (I.freeC x c e)
  · obtain⟨e,n,ne,nf,d⟩:=I.pin p hp
    have nch:p.1∉ch:=fun z=>(hch p.1 z).2.2.2 p hp rfl
    exact⟨keep p.1 p.2 ne nf nch e n,free p.1 p.2 nch e n,ne,nf,d⟩
theorem Inv.un {t':Nat} (I:Inv X pins σ H s) (u:Un X.fs [] H H' s.heap h') (hok:HOk X.prog X.w H' h'):Inv X pins σ H' { s with heap:=h',toks:=t' }:=by
  obtain⟨m,⟨o,es,ep,ho,r⟩,_⟩:=id I.loc
  obtain⟨sl,hL⟩:=u.any ho I.free (by simp)
  exact I.step (g':=s.gens) (d':=s.drawn) (ch:=[]) (fun _ z=>nomatch z) (fun b o _ hb _ e n=>u.keep b o e n hb (by simp)) (fun b o _ hb _ e n=>u.slot b o e n hb (by simp)) (fun b o _ e n=>u.free b o e n (by simp)) (fun b o _ e=>u.there b o e (by simp)) u.tups u.frzs u.tbls (fun m' hm=>by
    obtain⟨o',es',ep',ho',r'⟩:=hm
    rw[ho]at ho';cases ho'
    exact⟨_,es',ep',hL,r'⟩) hok I.bare
theorem Inv.call {g':Array GenState} {t':Nat} {d':Drawn} {ch:List Addr} (I:Inv X pins σ H s) (u:Un (frs X.stack) ch H H' s.heap h') (hok:HOk X.prog X.w H' h') (hg:AllBare g')
    (hch:∀ b∈ch,(b∈X.ex∨X.s₀.heap.objs.size≤b)∧b≠X.env.locals∧(∀ x c,X.env.cells.lookup x=some c→c≠b)∧∀ p∈X.pn++pins,p.1≠b) :
    Inv X pins σ H' { s with heap:=h',gens:=g',drawn:=d',toks:=t' }:=by
  obtain⟨m,⟨o,es,ep,ho,r⟩,_⟩:=id I.loc
  obtain⟨sl,hL⟩:=u.any ho I.free fun z=>(hch _ z).2.1 rfl
  exact I.step (ch:=ch) hch (fun b o hL hb hc e n=>u.keep b o e n (fun z=>(List.mem_cons.mp (I.stkSub b z)).elim hL hb) hc) (fun b o _ _ hc e n=>u.any e n hc) (fun b o hc e n=>u.free b o e n hc) (fun b o hc e=>u.there b o e hc) u.tups u.frzs u.tbls (fun m' hm=>by
    obtain⟨o',es',ep',ho',r'⟩:=hm
    rw[ho]at ho';cases ho'
    exact⟨_,es',ep',hL,r'⟩) hok hg
theorem Inv.turned {t':Nat} {it:Addr} (I:Inv X pins σ H s) (k:∀ b o,b≠it→s.heap.get? b=some o→h'.get? b=some o) (hn:H it=none) (hL:it≠X.env.locals)
    (h1:it∈X.ex∨X.s₀.heap.objs.size≤it) (h2:∀ x c,X.env.cells.lookup x=some c→c≠it) (h3:∀ p∈X.pn++pins,p.1≠it):Inv X pins σ H { s with heap:=h',toks:=t' }:=by
  have nit:∀ b u,H b=some u→b≠it:=fun b u e z=>by rw[z,hn]at e;cases e
  refine I.step (g':=s.gens) (d':=s.drawn) (ch:=[it]) (fun b hb=>?_) (fun b o _ _ hc e _=>k b o (fun z=>hc (by simp [z])) e) (fun b o _ _ hc e _=>⟨o.slots,k b o (fun z=>hc (by simp [z])) e⟩) (fun _ _ _ _ n=>n)
    (fun b o hc e=>⟨o,k b o (fun z=>hc (by simp [z])) e⟩) (fun _ _ e=>e) (fun _ _ _ e=>e) (fun b ps e=>⟨#[],by rw[e];simp⟩) (fun m hm=>?_) (fun b u e=>?_) I.bare
  · have e:b=it:=by simpa using hb
    subst e
    exact⟨h1,hL,h2,h3⟩
  · obtain⟨o,es,ep,ho,r⟩:=hm
    exact⟨o,es,ep,k _ o (Ne.symm hL) ho,r⟩
  · refine(I.hok b u e).stay (fun c v hc q=>k c v ?_ q) (fun _ q=>q) fun _ _ q=>q
    rcases hc with z | z
    · rw[z];exact nit b u e
    · exact nit c _ z
theorem Inv.tok (I:Inv X pins σ H s) (t:Nat):Inv X pins σ H { s with toks:=t }:=I.un (h':=s.heap) (t':=t) Un.refl I.hok
theorem Inv.kept {t':Nat} (I:Inv X pins σ H s) (k:∀ b u,s.heap.get? b=some u→h'.get? b=some u):Inv X pins σ H { s with heap:=h',toks:=t' }:=I.un (Un.kept k) (I.hok.kept k)
theorem Inv.laid {a:Addr} {o:HO} {t':Nat} (I:Inv X pins σ H s) (k:∀ b u,s.heap.get? b=some u→h'.get? b=some u) (hp:s.heap.objs.size≤a) (new:zaz X.prog X.w (upd H a o) h' a o) :
    Inv X pins σ (upd H a o) { s with heap:=h',toks:=t' }:=I.un (Un.laid k hp (I.hok.fresh hp)) (I.hok.laid k hp new)
theorem Inv.write {x e:Addr} {o:HO} {t':Nat} (I:Inv X pins σ H s) (mu:Mut (H x)) (he:e=x∨H e=some (.own x)) (k:∀ b u,b≠e→s.heap.get? b=some u→h'.get? b=some u) (heo:∃ u,h'.get? e=some u)
    (new:zaz X.prog X.w (upd H x o) h' x o):Inv X pins σ (upd H x o) { s with heap:=h',toks:=t' }:=I.un (Un.write mu he k heo) (I.hok.write mu he k heo new)
theorem Inv.pins_of {pins':List (Addr × Obj)} (I:Inv X pins σ H s) (h:∀ p∈pins',s.heap.get? p.1=some p.2∧H p.1=none∧p.1≠X.env.locals∧p.1∉X.fs∧∀ v,p.2.data≠.cell v):Inv X pins' σ H s :=
  ⟨I.ok,I.os,I.bare,I.base,I.loc,I.cell,I.free,I.freeC,fun p hp=>(List.mem_append.mp hp).elim (fun z=>I.pin p (List.mem_append_left _ z)) (h p),I.hok,I.len⟩
theorem zhB {N:List Str} (hN:N.Nodup) {i j:Nat} {x:Str} (a:N[i]?=some x) (b:N[j]?=some x):i=j:=by
  obtain⟨h1,e1⟩:=List.getElem?_eq_some_iff.mp a
  obtain⟨h2,e2⟩:=List.getElem?_eq_some_iff.mp b
  exact(List.getElem_inj hN).mp (e1.trans e2.symm)
theorem ze2 {M:Model} {A:Around} {E:Value→Shared→Prop} {i:Nat} {x:Str} {v:V} {u:Value} {Q:Unit→Shared→Prop} (I:Inv X pins σ H s) (hN:X.N.Nodup) (hi:X.N[i]?=some x) (hx:Loc X.env.scope x) (r:aL v u)
    (h:∀ s',Inv X pins (σ.set i (some v)) H s'→(∃ a,Heap.SameBut a s.heap s'.heap∧(a=X.env.locals∨X.env.cells.lookup x=some a))→Q () s') (hf:X.fn x=true∨X.env.scope.names.lookup x=some .local:=by first | exact .inl rfl | exact .inr rfl | assumption):wpAny M A (storeName X.env x u) Q E s:=by
  obtain⟨m,hn,hl⟩:=id I.loc
  have hcls:(X.env.scope.kind == .class||(X.env.scope.kind == .module&&X.env.locals != X.env.globals))=false:=by rw[I.ok.kind];rfl
  have hiσ:i < σ.length:=by rw[I.len];exact(List.getElem?_eq_some_iff.mp hi).1
  have cne:=I.cne
  have tracked:∀ {a:Addr} {h':Heap},(∃ o,s.heap.get? a=some o∧H a=none)→Heap.SameBut a s.heap h'→HOk X.prog X.w H h':=fun {a h'} ha hs b ob e=>by
    obtain⟨_,_,hfree⟩:=ha
    refine(I.hok b ob e).stay (fun c w' hc q=>(hs.2 c ?_).trans q) (fun _ q=>q) fun _ _ q=>q
    rintro rfl
    rcases hc with rfl | hc
    · rw[hfree]at e;cases e
    · rw[hfree]at hc;cases hc
  rcases hx with hk | hk
  · refine wpAny_storeName_local hk hn (fun h' hn' hs=>?_) hcls
    obtain⟨oL,_,_,hoL,_⟩:=id hn
    refine h _ ⟨I.ok,I.os,I.bare,⟨fun b o e n hb hx=>?_,fun b o e n hb hx=>?_,I.base.free,fun b o e hx=>?_,I.base.tups,I.base.frzs,I.base.tbls⟩,⟨_,hn',fun j y v' e1 e2 e3=>?_⟩,fun y c e=>?_,I.free,I.freeC,fun p hp=>?_,tracked ⟨oL,hoL,I.free⟩ hs,by simpa using I.len⟩ ⟨_,hs,.inl rfl⟩
    · exact(hs.2 b (Nat.ne_of_lt (Nat.lt_of_lt_of_le (Heap.lt_size e) I.ok.above))).trans (I.base.keep b o e n hb hx)
    · obtain⟨sl,e1⟩:=I.base.slot b o e n hb hx
      exact⟨sl,(hs.2 b (Nat.ne_of_lt (Nat.lt_of_lt_of_le (Heap.lt_size e) I.ok.above))).trans e1⟩
    · obtain⟨o',e1⟩:=I.base.there b o e hx
      exact⟨o',(hs.2 b (Nat.ne_of_lt (Nat.lt_of_lt_of_le (Heap.lt_size e) I.ok.above))).trans e1⟩
    · by_cases hj:j=i
      · subst hj
        rw[hi]at e1;cases e1
        rw[List.getElem?_set_self hiσ]at e2
        cases e2
        exact⟨u,r,.inl ⟨hk,by simp⟩⟩
      · rw[List.getElem?_set_ne (Ne.symm hj)]at e2
        obtain⟨u',r',q⟩:=hl j y v' e1 e2 e3
        refine⟨u',r',?_⟩
        rcases q with ⟨k,e⟩ | ⟨k,c,e,z⟩
        · refine .inl ⟨k,?_⟩
          have:y≠x:=fun e=>hj (zhB hN e1 (e ▸ hi))
          simp [this,e]
        · exact .inr ⟨k,c,e,z.sameBut hs (cne y c e)⟩
    · obtain⟨w',z⟩:=I.cell y c e
      exact⟨w',z.sameBut hs (cne y c e)⟩
    · obtain⟨e,n,ne,nf,d⟩:=I.pin p hp
      exact⟨(hs.2 p.1 ne).trans e,n,ne,nf,d⟩
  · have hfn:X.fn x=true:=by
      rcases hf with z | z
      · exact z
      · rw[z]at hk;cases hk
    obtain⟨c,hc⟩:=I.ok.has x (.inl hk)
    obtain⟨w',z⟩:=I.cell x c hc
    refine wpAny_storeName_cell I.ok.kind hk hc z (fun h' hc' hs=>?_)
    obtain⟨oc,hoc,hocd⟩:=id z
    refine h { s with heap:=h' } ⟨I.ok,I.os,I.bare,⟨fun b o e n hb hx=>?_,fun b o e n hb hx=>?_,I.base.free,fun b o e hx=>?_,I.base.tups,I.base.frzs,I.base.tbls⟩,⟨m,hn.sameBut hs (Ne.symm (cne x c hc)),fun j y v' e1 e2 e3=>?_⟩,fun y c' e=>?_,I.free,I.freeC,fun p hp=>?_,tracked ⟨oc,hoc,I.freeC x c hc⟩ hs,by simpa using I.len⟩ ⟨c,hs,.inr hc⟩
    · exact(hs.2 b (Nat.ne_of_lt (Nat.lt_of_lt_of_le (Heap.lt_size e) (I.ok.cab x c hfn hc)))).trans (I.base.keep b o e n hb hx)
    · obtain⟨sl,e1⟩:=I.base.slot b o e n hb hx
      exact⟨sl,(hs.2 b (Nat.ne_of_lt (Nat.lt_of_lt_of_le (Heap.lt_size e) (I.ok.cab x c hfn hc)))).trans e1⟩
    · obtain⟨o',e1⟩:=I.base.there b o e hx
      exact⟨o',(hs.2 b (Nat.ne_of_lt (Nat.lt_of_lt_of_le (Heap.lt_size e) (I.ok.cab x c hfn hc)))).trans e1⟩
    · by_cases hj:j=i
      · subst hj
        rw[hi]at e1;cases e1
        rw[List.getElem?_set_self hiσ]at e2
        cases e2
        exact⟨u,r,.inr ⟨.inl hk,c,hc,hc'⟩⟩
      · rw[List.getElem?_set_ne (Ne.symm hj)]at e2
        obtain⟨u',r',q⟩:=hl j y v' e1 e2 e3
        refine⟨u',r',?_⟩
        rcases q with q | ⟨k,c',e,z'⟩
        · exact .inl q
        · refine .inr ⟨k,c',e,z'.sameBut hs ?_⟩
          rintro rfl
          exact hj (zhB hN e1 (I.ok.inj _ _ _ e hc ▸ hi))
    · by_cases hcc:c'=c
      · subst hcc;exact⟨_,hc'⟩
      · obtain⟨w2,z2⟩:=I.cell y c' e
        exact⟨w2,z2.sameBut hs hcc⟩
    · obtain⟨e,n,ne,nf,d⟩:=I.pin p hp
      refine⟨(hs.2 p.1 ?_).trans e,n,ne,nf,d⟩
      intro q
      rw[q,hoc]at e
      have q':oc=p.2:=Option.some.inj e
      exact d w' (by rw[←q'];exact hocd)
theorem zhj {M:Model} {A:Around} {E:Value→Shared→Prop} {i:Nat} {x:Str} {v:V} {u:Value} {Q:Unit→Shared→Prop} (I:Inv X pins σ H s) (hN:X.N.Nodup) (hi:X.N[i]?=some x) (hx:Loc X.env.scope x) (r:aL v u)
    (h:∀ s',Inv X pins (σ.set i (some v)) H s'→Q () s') (hf:X.fn x=true∨X.env.scope.names.lookup x=some .local:=by first | exact .inl rfl | exact .inr rfl | assumption):wpAny M A (storeName X.env x u) Q E s :=
  ze2 I hN hi hx r (fun s' I' _=>h s' I') hf
theorem Inv.call' {s':Shared} {ch:List Addr} (I:Inv X pins σ H s) (ho:s'.os=s.os) (u:Un (frs X.stack) ch H H' s.heap s'.heap) (hok:HOk X.prog X.w H' s'.heap) (hg:AllBare s'.gens)
    (hch:∀ b∈ch,(b∈X.ex∨X.s₀.heap.objs.size≤b)∧b≠X.env.locals∧(∀ x c,X.env.cells.lookup x=some c→c≠b)∧∀ p∈X.pn++pins,p.1≠b):Inv X pins σ H' s':=by
  obtain⟨h',g',d',t',o'⟩:=s'
  have e:o'=s.os:=ho
  subst e
  exact I.call (g':=g') (t':=t') (d':=d') u hok hg hch
end
abbrev XK:=Value→Option Addr→Hp→Prop
abbrev St:=List (Option V)
abbrev VK:=V→Hp→Prop
abbrev TE:=St→Hp→VK→Prop
abbrev TT:=St→Hp→(Bool→Hp→Prop)→Prop
abbrev TA:=St→Hp→(List V→Hp→Prop)→Prop
structure zcX where
  nx:St→Hp→Prop
  rt:VK
  bk:St→Hp→Prop:=fun _ _=>False
  ct:St→Hp→Prop:=fun _ _=>False
abbrev TS:=zcX→St→Hp→Prop
def EP (X:Cx) (pins:List (Addr × Obj)) (σ:St) (Q:VK) (u:Value) (s':Shared):Prop:=∃ v H',Inv X pins σ H' s'∧aL v u∧Q v H'
def TP (X:Cx) (pins:List (Addr × Obj)) (σ:St) (Q:Bool→Hp→Prop) (b:Bool) (s':Shared):Prop:=∃ H',Inv X pins σ H' s'∧Q b H'
def AP (X:Cx) (pins:List (Addr × Obj)) (σ:St) (Q:List V→Hp→Prop) (us:List Value) (s':Shared):Prop:=∃ vs H',Inv X pins σ H' s'∧aI vs us∧Q vs H'
def SP (X:Cx) (pins:List (Addr × Obj)) (D:zcX) (f:Flow) (s':Shared):Prop :=
  match f with
  | .next=>∃ σ' H',Inv X pins σ' H' s'∧D.nx σ' H'
  | .brk=>∃ σ' H',Inv X pins σ' H' s'∧D.bk σ' H'
  | .cont=>∃ σ' H',Inv X pins σ' H' s'∧D.ct σ' H'
  | .ret u=>∃ v σ' H',Inv X pins σ' H' s'∧aL v u∧D.rt v H'
def PE (X:Cx) (e:Expr) (t:TE):Prop :=
  ∀(pins:List (Addr × Obj)) (s:Shared) (σ:St) (H:Hp) (Q:VK),Inv X pins σ H s→t σ H Q→wpAny (model X.prog X.w) X.A (eval e X.env) (EP X pins σ Q) X.xe s
def PT (X:Cx) (e:Expr) (t:TT):Prop :=
  ∀(pins:List (Addr × Obj)) (s:Shared) (σ:St) (H:Hp) (Q:Bool→Hp→Prop),Inv X pins σ H s→t σ H Q→wpAny (model X.prog X.w) X.A (isTrue e X.env (eval e X.env)) (TP X pins σ Q) X.xe s
def PW (X:Cx) (e:Expr) (t:TT):Prop :=
  ∀(whole:Sem Value) (pins:List (Addr × Obj)) (s:Shared) (σ:St) (H:Hp) (Q:Bool→Hp→Prop),Inv X pins σ H s→t σ H Q→wpAny (model X.prog X.w) X.A (isTrue e X.env whole) (TP X pins σ Q) X.xe s
theorem PW.pt {X:Cx} {e:Expr} {t:TT} (h:PW X e t):PT X e t:=h _
def PA (X:Cx) (es:List Expr) (t:TA):Prop :=
  ∀(pos:Pos) (pins:List (Addr × Obj)) (s:Shared) (σ:St) (H:Hp) (Q:List V→Hp→Prop),Inv X pins σ H s→t σ H Q→wpAny (model X.prog X.w) X.A (spliced (backTo pos (starEach es X.env))) (AP X pins σ Q) X.xe s
def PS (X:Cx) (st:Stmt) (t:TS):Prop :=
  ∀(pins:List (Addr × Obj)) (s:Shared) (σ:St) (H:Hp) (D:zcX),Inv X pins σ H s→t D σ H→wpAny (model X.prog X.w) X.A (exec st X.env) (SP X pins D) X.xe s
def PSs (X:Cx) (st:List Stmt) (t:TS):Prop :=
  ∀(pins:List (Addr × Obj)) (s:Shared) (σ:St) (H:Hp) (D:zcX),Inv X pins σ H s→t D σ H→wpAny (model X.prog X.w) X.A (execs st X.env) (SP X pins D) X.xe s
theorem thn {α:Type} {t:Sem α} {Q Q':α→Shared→Prop} {M:Model} {A:Around} {E:Value→Shared→Prop} {s:Shared} (h:wpAny M A t Q E s) (hQ:∀ a s,Q a s→Q' a s):wpAny M A t Q' E s:=wpAny_mono h hQ fun _ _ x=>x
end L2
namespace L2
open PySem PySem.Spec PyProof.Rows
section
variable {X:Cx}
theorem bin {a b:Expr} {ta tb:TE} (ha:PE X a ta) (hb:PE X b tb) {pins:List (Addr × Obj)} {s:Shared} {σ:St} {H:Hp} {R:V→V→Hp→Prop} (I:Inv X pins σ H s) (h:ta σ H fun x H1=>tb σ H1 fun y H2=>R x y H2)
    {α:Type} {Q:α→Shared→Prop} {f:Value→Value→Sem α}
    (hf:∀ v u s2 x y H2,Inv X pins σ H2 s2→aL x v→aL y u→R x y H2→wpAny (model X.prog X.w) X.A (f v u) Q X.xe s2) :
    wpAny (model X.prog X.w) X.A (eval a X.env) (fun v s₁=>wpAny (model X.prog X.w) X.A (eval b X.env) (fun u s₂=>wpAny (model X.prog X.w) X.A (f v u) Q X.xe s₂) X.xe s₁) X.xe s:=by
  refine thn (ha pins s σ H _ I h) fun v s1 ⟨x,H1,I1,r1,q1⟩=>?_
  refine thn (hb pins s1 σ H1 _ I1 q1) fun u s2 ⟨y,H2,I2,r2,q2⟩=>?_
  exact hf v u s2 x y H2 I2 r1 r2 q2
def tVar (i:Nat):TE:=fun σ H Q=>∃ v,σ[i]?=some (some v)∧Q v H
def tC (v:V):TE:=fun _ H Q=>Q v H
theorem pe_var {i:Nat} {x:Str} {pos:Pos} (hN:X.N[i]?=some x) (hv:Vis X.env.scope x) (hd:(x == ("__debug__":Str))=false:=by decide) (hcd:(x == ("__classdict__":Str))=false:=by decide):PE X (.Name x pos) (tVar i):=by
  intro pins s σ H Q I h
  obtain⟨v,e,h⟩:=h
  obtain⟨m,hn,hl⟩:=I.loc
  obtain⟨u,r,l⟩:=hl i x v hN e hv
  have fin:EP X pins σ Q u s:=⟨v,H,I,r,h⟩
  rcases l with ⟨hk,hm⟩ | ⟨hk,c,hc,hcell⟩
  · exact wpAny_Name (wpAny_loadName_local I.ok.kind hk hn hm fin) hd
  · rcases hk with hk | hk
    · exact wpAny_Name (wpAny_loadName_cell I.ok.kind hk hc hcell fin) hd
    · exact wpAny_Name (wpAny_loadName_free I.ok.kind hk hc hcell fin hcd) hd
theorem ae {i j pos}:PE X (.Constant (.int i) j pos) (tC (.int i)):=fun _ _ _ H _ I h=>wpAny_Constant_int ⟨.int i,H,I.tok _,⟨_,rfl⟩,h⟩
theorem zbu {b j pos}:PE X (.Constant (.bool b) j pos) (tC (.bl b)):=fun _ _ _ H _ I h=>Constant_bool ⟨.bl b,H,I,rfl,h⟩
theorem zb0 {j pos}:PE X (.Constant .none j pos) (tC .non):=fun _ _ _ H _ I h=>Constant_none ⟨.non,H,I,rfl,h⟩
theorem zao {x j pos}:PE X (.Constant (.str x) j pos) (tC (.str x)):=fun _ _ _ H _ I h=>Calls.Constant_str ⟨.str x,H,I.tok _,⟨_,rfl⟩,h⟩
def Gl (X:Cx) (x:Str):Prop:=X.env.kindOf x=some .globalImplicit
theorem zfr {E:Value→Shared→Prop} {pins:List (Addr × Obj)} {s:Shared} {σ:St} {H:Hp} {x:Str} {u:Value} {pos:Pos} {Q:Value→Shared→Prop} (I:Inv X pins σ H s) (hg:Gl X x) (hm:X.mg x=some u) (h:Q u s)
    (hd:(x == ("__debug__":Str))=false:=by decide):wpAny (model X.prog X.w) X.A (eval (.Name x pos) X.env) Q E s :=
  Calls.Name_function_global I.ok.kind hg (Calls.loadGlobal_global (by rw[I.ok.glob];exact I.mod.glob.keeps I.bk) hm h) hd
theorem zcQ {E:Value→Shared→Prop} {pins:List (Addr × Obj)} {s:Shared} {σ:St} {H:Hp} {x:Str} {u:Value} {pos:Pos} {Q:Value→Shared→Prop} (I:Inv X pins σ H s) (hg:Gl X x) (hm:X.mg x=none) (hv:bootBuiltins x=some u) (h:Q u s)
    (hn:x≠"__name__":=by decide) (hd:(x == ("__debug__":Str))=false:=by decide):wpAny (model X.prog X.w) X.A (eval (.Name x pos) X.env) Q E s:=by
  obtain⟨mb,h1,h2⟩:=I.mod.blt
  exact Calls.Name_function_global I.ok.kind hg (Calls.loadGlobal_builtin (by rw[I.ok.glob];exact I.mod.glob.keeps I.bk) hm (by rw[I.ok.blt];exact h1.keeps I.bk) ((h2 x hn).trans hv) h) hd
theorem zcI {x:Str} {v:V} {u:Value} {pos:Pos} (hg:Gl X x) (hm:X.mg x=some u) (r:aL v u) (hd:(x == ("__debug__":Str))=false:=by decide):PE X (.Name x pos) (tC v) :=
  fun _ _ _ H _ I h=>zfr I hg hm ⟨v,H,I,r,h⟩ hd
theorem zdB {x:Str} {v:V} {u:Value} {pos:Pos} (hg:Gl X x) (hm:X.mg x=none) (hv:bootBuiltins x=some u) (r:aL v u) (hn:x≠"__name__":=by decide) (hd:(x == ("__debug__":Str))=false:=by decide):PE X (.Name x pos) (tC v) :=
  fun _ _ _ H _ I h=>zcQ I hg hm hv ⟨v,H,I,r,h⟩ hn hd
variable {a b:Expr} {ta tb:TE} {pos:Pos}
def PC (X:Cx) (op:CmpOp) (a b:Expr) (t:TE):Prop :=
  ∀(pins:List (Addr × Obj)) (s:Shared) (σ:St) (H:Hp) (Q:VK),Inv X pins σ H s→t σ H Q →
    wpAny (model X.prog X.w) X.A (eval a X.env) (fun v s₁=>wpAny (model X.prog X.w) X.A (eval b X.env) (fun u s₂=>wpAny (model X.prog X.w) X.A (compareOp op v u) (EP X pins σ Q) X.xe s₂) X.xe s₁) X.xe s
def tB (t:TE):TT:=fun σ H Q=>t σ H fun x H1=>∃ c,x=.bl c∧Q c H1
theorem zf0 {op:CmpOp} {t:TE} (h:PC X op a b t) (h1:behindInMarks op b=false:=by first | exact nobehind _ (by decide) (by decide) | rfl):PT X (.Compare a [op] [b] pos) (tB t):=by
  intro pins s σ H Q I hw
  refine wpAny_isTrue_Compare1 (thn (h pins s σ H _ I hw) fun v s1 h1=>thn h1 fun u s2 h2=>thn h2 fun c s3 ⟨x,H1,I1,r1,q1⟩=>?_) h1
  obtain⟨d,rfl,q⟩:=q1
  cases r1
  exact wpAny_truthy_bool ⟨H1,I1,q⟩
theorem zbj {e:Expr} {t:TE} (h:PE X e t) (he:∀ whole,isTrue e X.env whole=(do let v ←whole;standAt e.pos;holding [v] (truthy v)):=by intro _;rfl):PT X e (tB t):=by
  intro pins s σ H Q I hw
  refine isTrue_plain (thn (h pins s σ H _ I hw) fun v s1 ⟨x,H1,I1,r1,q1⟩=>?_) (he _)
  obtain⟨d,rfl,q⟩:=q1
  cases r1
  exact wpAny_truthy_bool ⟨H1,I1,q⟩
variable {tA tB':TT} {zau:List Expr}
def tAnd (t u:TT):TT:=fun σ H Q=>t σ H fun c H1=>if c=true then u σ H1 Q else Q false H1
def tOr (t u:TT):TT:=fun σ H Q=>t σ H fun c H1=>if c=true then Q true H1 else u σ H1 Q
def tNot (t:TT):TT:=fun σ H Q=>t σ H fun c H1=>Q (!c) H1
theorem zcf (ha:PT X a tA):PW X (.BoolOp .And [a] pos) tA:=by
  intro wh pins s σ H Q I h
  refine isTrue_and (thn (ha pins s σ H Q I h) fun c s1 e=>?_)
  cases c with
  | true=>exact isTrue_and_nil e
  | false=>exact e
theorem zbM (ha:PT X a tA):PW X (.BoolOp .Or [a] pos) tA:=by
  intro wh pins s σ H Q I h
  refine isTrue_or (thn (ha pins s σ H Q I h) fun c s1 e=>?_)
  cases c with
  | false=>exact isTrue_or_nil e
  | true=>exact e
theorem zbZ (ha:PT X a tA) (hb:PW X (.BoolOp .And (b :: zau) pos) tB'):PW X (.BoolOp .And (a :: b :: zau) pos) (tAnd tA tB'):=by
  intro wh pins s σ H Q I h
  refine isTrue_and (thn (ha pins s σ H _ I h) fun c s1 ⟨H1,I1,q1⟩=>?_)
  cases c with
  | true=>exact hb wh pins s1 σ H1 Q I1 q1
  | false=>exact⟨H1,I1,q1⟩
theorem zbS (ha:PT X a tA) (hb:PW X (.BoolOp .Or (b :: zau) pos) tB'):PW X (.BoolOp .Or (a :: b :: zau) pos) (tOr tA tB'):=by
  intro wh pins s σ H Q I h
  refine isTrue_or (thn (ha pins s σ H _ I h) fun c s1 ⟨H1,I1,q1⟩=>?_)
  cases c with
  | true=>exact⟨H1,I1,q1⟩
  | false=>exact hb wh pins s1 σ H1 Q I1 q1
theorem zbk (ha:PT X a tA):PT X (.UnaryOp .Not a pos) (tNot tA):=by
  intro pins s σ H Q I h
  exact isTrue_not (ha pins s σ H (fun c H1=>Q (!c) H1) I h)
def tAndV (ta tb:TE):TE:=fun σ H Q=>ta σ H fun x H1=>∃ c,x=.bl c∧if c=true then tb σ H1 Q else Q (.bl false) H1
def tNotV (ta:TE):TE:=fun σ H Q=>ta σ H fun x H1=>∃ c,x=.bl c∧Q (.bl (!c)) H1
theorem zeW {op} {t:TE} (h:PE X a t):PE X (.BoolOp op [a] pos) t:=fun pins s σ H Q I hw=>BoolOp_one (h pins s σ H Q I hw)
theorem zei (ha:PE X a ta) (hb:PE X (.BoolOp .And (b :: zau) pos) tb):PE X (.BoolOp .And (a :: b :: zau) pos) (tAndV ta tb):=by
  intro pins s σ H Q I h
  refine BoolOp_and (thn (ha pins s σ H _ I h) fun v s1 ⟨x,H1,I1,r1,q1⟩=>?_)
  obtain⟨c,rfl,q1⟩:=q1
  cases r1
  refine wpAny_truthy_bool ?_
  cases c with
  | true=>exact hb pins s1 σ H1 Q I1 q1
  | false=>exact⟨.bl false,H1,I1,rfl,q1⟩
theorem pe_not (ha:PE X a ta):PE X (.UnaryOp .Not a pos) (tNotV ta):=by
  intro pins s σ H Q I h
  refine UnaryOp_ (thn (ha pins s σ H _ I h) fun v s1 ⟨x,H1,I1,r1,q1⟩=>?_)
  obtain⟨c,rfl,q1⟩:=q1
  cases r1
  exact not_of (wpAny_truthy_bool ⟨.bl (!c),H1,I1,rfl,q1⟩)
def tIf (t:TT) (ta tb:TE):TE:=fun σ H Q=>t σ H fun c H1=>if c=true then ta σ H1 Q else tb σ H1 Q
theorem zfR {c:Expr} (hc:PT X c tA) (ha:PE X a ta) (hb:PE X b tb):PE X (.IfExp c a b pos) (tIf tA ta tb):=by
  intro pins s σ H Q I h
  refine wpAny_IfExp (thn (hc pins s σ H _ I h) fun d s1 ⟨H1,I1,q1⟩=>?_)
  cases d with
  | true=>exact ha pins s1 σ H1 Q I1 q1
  | false=>exact hb pins s1 σ H1 Q I1 q1
end
end L2
namespace L2
open PySem PySem.Spec PyProof.Rows
def SqL (K:PySem.W.Frag) (H:Hp) (a:Addr) (xs:List V):Prop :=
  Rd H a (.lst xs) ∨
    ∃(o:Obj) (its:Array Value) (n:Nat),K.lookup a=some o∧o.cls=.type "list"∧o.dict=none∧o.data=.seq its n∧its.size≤sizeLine∧aI xs its.toList
def SqT (K:PySem.W.Frag) (H:Hp) (a:Addr) (xs:List V):Prop :=
  Rd H a (.tup xs) ∨
    ∃(o:Obj) (its:Array Value) (n:Nat),K.lookup a=some o∧o.cls=.type "tuple"∧o.data=.seq its n∧its.size≤sizeLine∧aI xs its.toList
def absV:Value→Option V
  | .none=>some .non
  | .bool b=>some (.bl b)
  | .int i _=>some (.int i)
  | .str x _=>some (.str x)
  | .bytes b _=>some (.byt b)
  | .float b _=>some (.flt b)
  | .ref a=>some (.ref a)
  | .type n=>some (.ty n)
  | _=>none
theorem aL.abs {x:V} {u:Value} (r:aL x u):absV u=some x:=by
  cases x with
  | non=>cases r;rfl
  | bl _=>cases r;rfl
  | int _=>obtain⟨t,rfl⟩:=r;rfl
  | str _=>obtain⟨t,rfl⟩:=r;rfl
  | byt _=>obtain⟨t,rfl⟩:=r;rfl
  | flt _=>obtain⟨t,rfl⟩:=r;rfl
  | ref _=>cases r;rfl
  | ty _=>cases r;rfl
theorem aL.inj {x y:V} {u:Value} (r:aL x u) (q:aL y u):x=y:=Option.some.inj (r.abs.symm.trans q.abs)
theorem aI.inj:∀ {xs ys:List V} {us:List Value},aI xs us→aI ys us→xs=ys
  | _,_,_,.nil,.nil=>rfl
  | _,_,_,.cons r t,.cons r' t'=>by rw[r.inj r',aI.inj t t']
section
variable {X:Cx} {pins:List (Addr × Obj)} {σ:St} {H:Hp} {s:Shared} {a:Addr} {xs ys:List V}
theorem SqL.of {K:PySem.W.Frag} (h:H a=some (.lst xs)):SqL K H a xs:=.inl (.inl h)
theorem SqT.of {K:PySem.W.Frag} (h:H a=some (.tup xs)):SqT K H a xs:=.inl (.inl h)
theorem Inv.list (I:Inv X pins σ H s) (h:SqL X.K H a xs):∃ its:List Value,aI xs its∧PlainL s.heap a its.toArray∧xs.length≤sizeLine:=by
  rcases h with h | ⟨o,its,n,hk,hc,hd,hs,hz,r⟩
  · obtain⟨z,its,n,r,e⟩:=h.ok I.hok
    exact⟨its,r,⟨_,n,e,rfl,rfl,rfl⟩,z⟩
  · refine⟨its.toList,r,⟨o,n,I.kIn a o hk,hc,hd,by simpa using hs⟩,?_⟩
    have e:=r.length
    simp only[Array.length_toList]at e
    omega
theorem Inv.tuple (I:Inv X pins σ H s) (h:SqT X.K H a xs):∃ its:List Value,aI xs its∧IsTup s.heap a its.toArray∧xs.length≤sizeLine:=by
  rcases h with h | ⟨o,its,n,hk,hc,hs,hz,r⟩
  · obtain⟨z,its,r,p⟩:=h.ok I.hok
    exact⟨its,r,p,z⟩
  · refine⟨its.toList,r,⟨o,I.kIn a o hk,hc,n,by simpa using hs⟩,?_⟩
    have e:=r.length
    simp only[Array.length_toList]at e
    omega
theorem Inv.list_inj (I:Inv X pins σ H s) (h:SqL X.K H a xs) (h':SqL X.K H a ys):xs=ys:=by
  obtain⟨its,r,⟨o,n,e,_,_,d⟩,_⟩:=I.list h
  obtain⟨its',r',⟨o',n',e',_,_,d'⟩,_⟩:=I.list h'
  rw[e]at e';cases e'
  rw[d]at d'
  injection d' with d1 _
  have:its=its':=by simpa using congrArg Array.toList d1
  subst this
  exact r.inj r'
theorem Inv.tuple_inj (I:Inv X pins σ H s) (h:SqT X.K H a xs) (h':SqT X.K H a ys):xs=ys:=by
  obtain⟨its,r,⟨o,e,_,n,d⟩,_⟩:=I.tuple h
  obtain⟨its',r',⟨o',e',_,n',d'⟩,_⟩:=I.tuple h'
  rw[e]at e';cases e'
  rw[d]at d'
  injection d' with d1 _
  have:its=its':=by simpa using congrArg Array.toList d1
  subst this
  exact r.inj r'
end
abbrev Cx.wish (X:Cx) (E:Value→Shared→Prop):Cx:={ X with xe:=E }
abbrev Cx.nox (X:Cx):Cx:=X.wish fun _ _=>False
theorem Cx.Ok.wish {X:Cx} (ok:X.Ok) (E:Value→Shared→Prop):(X.wish E).Ok :=
  ⟨ok.mod,ok.kind,ok.glob,ok.blt,ok.above,ok.inj,ok.has,ok.cab,ok.hd,ok.frames,ok.stk,ok.exf,ok.bs,ok.bsz,ok.noex,ok.exfs,ok.funs,ok.frf⟩
theorem Cx.Ok.unwish {X:Cx} {E:Value→Shared→Prop} (ok:(X.wish E).Ok):X.Ok :=
  ⟨ok.mod,ok.kind,ok.glob,ok.blt,ok.above,ok.inj,ok.has,ok.cab,ok.hd,ok.frames,ok.stk,ok.exf,ok.bs,ok.bsz,ok.noex,ok.exfs,ok.funs,ok.frf⟩
section
variable {X:Cx} {pins:List (Addr × Obj)} {σ:St} {H:Hp} {s:Shared} {E:Value→Shared→Prop}
theorem Inv.wish (I:Inv X pins σ H s) (E:Value→Shared→Prop):Inv (X.wish E) pins σ H s:=⟨I.ok.wish E,I.os,I.bare,I.base,I.loc,I.cell,I.free,I.freeC,I.pin,I.hok,I.len⟩
theorem Inv.unwish (I:Inv (X.wish E) pins σ H s):Inv X pins σ H s:=⟨I.ok.unwish,I.os,I.bare,I.base,I.loc,I.cell,I.free,I.freeC,I.pin,I.hok,I.len⟩
theorem SP.unwish {D:zcX} {f:Flow} {s':Shared} (h:SP (X.wish E) pins D f s'):SP X pins D f s':=by
  cases f with
  | next=>obtain⟨σ',H',I,q⟩:=h;exact⟨σ',H',I.unwish,q⟩
  | brk=>obtain⟨σ',H',I,q⟩:=h;exact⟨σ',H',I.unwish,q⟩
  | cont=>obtain⟨σ',H',I,q⟩:=h;exact⟨σ',H',I.unwish,q⟩
  | ret u=>obtain⟨v,σ',H',I,r,q⟩:=h;exact⟨v,σ',H',I.unwish,r,q⟩
theorem PSs.nox {st:List Stmt} {t:TS} (h:PSs X.nox st t):PSs X st t:=fun pins s σ H D I hw =>
  wpAny_mono (h pins s σ H D (I.wish _) hw) (fun _ _ q=>q.unwish) fun _ _ z=>False.elim z
end
section
variable {X:Cx} {st:Stmt} {zau:List Stmt} {t u:TS} {e:Expr} {te:TE} {pos:Pos}
def tNext:TS:=fun D σ H=>D.nx σ H
def tSeq (t u:TS):TS:=fun D σ H=>t { D with nx:=u D } σ H
theorem zaf:PSs X [] tNext:=fun _ _ σ H _ I h=>wpAny_execs_nil ⟨σ,H,I,h⟩
theorem af (h1:PS X st t) (h2:PSs X zau u):PSs X (st :: zau) (tSeq t u):=by
  intro pins s σ H D I h
  refine wpAny_execs_cons (thn (h1 pins s σ H { D with nx:=u D } I h) fun f s1 q=>?_)
  cases f with
  | next =>
    obtain⟨σ',H',I',q⟩:=q
    exact h2 pins s1 σ' H' D I' q
  | ret v=>exact q
  | brk=>exact q
  | cont=>exact q
theorem ak (h1:PS X st t):PSs X [st] t:=by
  intro pins s σ H D I h
  refine wpAny_execs_cons (thn (h1 pins s σ H D I h) fun f s1 q=>?_)
  cases f with
  | next=>exact wpAny_execs_nil q
  | ret v=>exact q
  | brk=>exact q
  | cont=>exact q
theorem Inv.quiet {pins:List (Addr × Obj)} {σ:St} {H:Hp} {s:Shared} (I:Inv X pins σ H s):interactive X.env=false:=by simp [interactive,I.ok.kind]
def tDrop (te:TE):TS:=fun D σ H=>te σ H fun _ H1=>D.nx σ H1
theorem zaB (he:PE X e te) (hs:swapsWith e none pos.line X.env=pure false:=by rfl):PS X (.Expr e pos) (tDrop te):=by
  intro pins s σ H D I h
  exact wpAny_Expr_any (thn (he pins s σ H _ I h) fun v s1 ⟨x,H1,I1,r1,q1⟩=>⟨σ,H1,I1,q1⟩) I.quiet hs
def tRet (te:TE):TS:=fun D σ H=>te σ H D.rt
theorem aB (he:PE X e te):PS X (.Return (some e) pos) (tRet te):=by
  intro pins s σ H D I h
  exact wpAny_Return_some (thn (he pins s σ H _ I h) fun v s1 ⟨x,H1,I1,r1,q1⟩=>⟨x,σ,H1,I1,r1,q1⟩)
def tRetN:TS:=fun D _ H=>D.rt .non H
theorem zk9:PS X (.Return none pos) tRetN:=fun _ _ σ H _ I h=>wpAny_Return_none ⟨.non,σ,H,I,rfl,h⟩
def tIfS (c:TT) (t u:TS):TS:=fun D σ H=>c σ H fun b H1=>if b=true then t D σ H1 else u D σ H1
theorem zal {c:Expr} {a b:List Stmt} {tc:TT} (hc:PT X c tc) (ha:PSs X a t) (hb:PSs X b u):PS X (.If c a b pos) (tIfS tc t u):=by
  intro pins s σ H D I h
  refine wpAny_If (thn (hc pins s σ H _ I h) fun d s1 ⟨H1,I1,q1⟩=>?_)
  cases d with
  | true=>exact ha pins s1 σ H1 D I1 q1
  | false=>exact hb pins s1 σ H1 D I1 q1
end
abbrev TG:=V→St→Hp→(St→Hp→Prop)→Prop
abbrev TGs:=List V→St→Hp→(St→Hp→Prop)→Prop
def PG (X:Cx) (target:Expr) (t:TG):Prop :=
  ∀(pins:List (Addr × Obj)) (s:Shared) (σ:St) (H:Hp) (v:V) (u:Value) (Q:St→Hp→Prop),Inv X pins σ H s→aL v u→t v σ H Q →
    wpAny (model X.prog X.w) X.A (assign target X.env u) (fun _ s'=>∃ σ' H',Inv X pins σ' H' s'∧Q σ' H') X.xe s
def PGs (X:Cx) (ts:List Expr) (t:TGs):Prop :=
  ∀(pins:List (Addr × Obj)) (s:Shared) (σ:St) (H:Hp) (vs:List V) (us:List Value) (Q:St→Hp→Prop),Inv X pins σ H s→aI vs us→t vs σ H Q →
    wpAny (model X.prog X.w) X.A (assignInOrder ((assignEach ts X.env).map (·.2)) us) (fun _ s'=>∃ σ' H',Inv X pins σ' H' s'∧Q σ' H') X.xe s
abbrev TSet:=V→V→V→Hp→(Hp→Prop)→Prop
def PSet (X:Cx) (t:TSet):Prop :=
  ∀(pins:List (Addr × Obj)) (s:Shared) (σ:St) (H:Hp) (o i v:V) (ov iv u:Value) (Q:Hp→Prop),Inv X pins σ H s→aL o ov→aL i iv→aL v u→t o i v H Q →
    wpAny (model X.prog X.w) X.A (setItem ov iv u) (fun _ s'=>∃ H',Inv X pins σ H' s'∧Q H') X.xe s
section
variable {X:Cx} {pos:Pos}
def zdZ (i:Nat):TG:=fun v σ H Q=>Q (σ.set i (some v)) H
theorem zam {i:Nat} {x:Str} (hN:X.N.Nodup) (hi:X.N[i]?=some x) (hx:Loc X.env.scope x) (hf:X.fn x=true∨X.env.scope.names.lookup x=some .local:=by first | exact .inl rfl | exact .inr rfl | assumption):PG X (.Name x pos) (zdZ i):=by
  intro pins s σ H v u Q I r h
  exact wpAny_assign_Name (zhj I hN hi hx r (fun s' I'=>⟨_,H,I',h⟩) hf)
def gNil:TGs:=fun vs σ H Q=>vs=[]∧Q σ H
def gCons (t:TG) (u:TGs):TGs:=fun vs σ H Q=>∃ v r,vs=v :: r∧t v σ H fun σ' H'=>u r σ' H' Q
theorem zgt:PGs X [] gNil:=by
  intro pins s σ H vs us Q I r h
  obtain⟨e,h⟩:=h
  subst e
  cases r
  exact assignInOrder_nil ⟨σ,H,I,h⟩
theorem zc1 {e:Expr} {es:List Expr} {t:TG} {u:TGs} (h1:PG X e t) (h2:PGs X es u)
    (hs:(assignEach (e :: es) X.env).map (·.2)=assign e X.env :: (assignEach es X.env).map (·.2):=by rfl):PGs X (e :: es) (gCons t u):=by
  intro pins s σ H vs us Q I r h
  obtain⟨v,vr,e1,h⟩:=h
  subst e1
  cases r with
  | cons r rr =>
    rw[hs]
    refine assignInOrder_cons (thn (h1 pins s σ H _ _ _ I r h) fun _ s1 ⟨σ1,H1,I1,q1⟩=>?_)
    exact h2 pins s1 σ1 H1 _ _ Q I1 rr q1
def gTup (K:PySem.W.Frag) (n:Nat) (t:TGs):TG:=fun v σ H Q=>∃ a xs,v=.ref a∧SqT K H a xs∧xs.length=n∧t xs σ H Q
theorem zha {es:List Expr} {k:Nat} {t:TGs} {n:Nat} (hc:X.calm=true) (h:PGs X es t)
    (hn:(assignEach es X.env).length=n:=by rfl) (hst:(assignEach es X.env).findIdx? (·.1)=none:=by rfl):PG X (.Tuple es k pos) (gTup X.K n t):=by
  intro pins s σ H v u Q I r hw
  obtain⟨a,xs,e1,hq,hl,hw⟩:=hw
  subst e1
  cases r
  obtain⟨its,rv,ht,hz⟩:=I.tuple hq
  refine assign_Tuple_tuple (I.ok.hd hc) ht (by simp [hn,←hl,rv.length]) hst fun h' hx=>?_
  have I1:Inv X pins σ H { s with heap:=h' }:=I.kept (t':=s.toks) fun b o e=>hx b o (Nat.ne_of_lt (Heap.lt_size e)) e
  exact h pins _ σ H xs _ Q I1 (by simpa using rv) hw
def gSub (to ti:TE) (t:TSet):TG:=fun v σ H Q=>to σ H fun o H1=>ti σ H1 fun i H2=>t o i v H2 fun H3=>Q σ H3
theorem pg_sub {o i:Expr} {to ti:TE} {t:TSet} (ho:PE X o to) (hi:PE X i ti) (hs:PSet X t)
    (ha:∀ v,assign (.Subscript o i pos) X.env v=(do
      let ov ←holding [v] (eval o X.env)
      let iv ←holding [v,ov] (eval i X.env)
      standAt pos
      holding [v,ov,iv] (setItem ov iv v)
      release [v,ov,iv] []):=by intro _;rfl):PG X (.Subscript o i pos) (gSub to ti t):=by
  intro pins s σ H v u Q I r h
  rw[ha]
  refine wpAny_bind (wpAny_holding (thn (ho pins s σ H _ I h) fun ov s1 ⟨x,H1,I1,r1,q1⟩=>?_))
  refine wpAny_bind (wpAny_holding (thn (hi pins s1 σ H1 _ I1 q1) fun iv s2 ⟨y,H2,I2,r2,q2⟩=>?_))
  refine wpAny_bind (wpAny_standAt (wpAny_bind (wpAny_holding (thn (hs pins s2 σ H2 x y v ov iv u _ I2 r1 r2 r q2) fun _ s3 ⟨H3,I3,q3⟩=>?_))))
  exact wpAny_release ⟨σ,H3,I3,q3⟩
def tAsg (te:TE) (g:TG):TS:=fun D σ H=>te σ H fun x H1=>g x σ H1 D.nx
theorem ps_asg {tg e:Expr} {te:TE} {g:TG} (he:PE X e te) (hg:PG X tg g) (hs:swapsWithSole [tg] e pos.line X.env=pure false:=by rfl) (hw:swappedStores [tg] e X.env=pure none:=by rfl)
    (h1:(assignEach [tg] X.env).map (·.2)=[assign tg X.env]:=by rfl):PS X (.Assign [tg] e pos) (tAsg te g):=by
  intro pins s σ H D I h
  refine wpAny_Assign_stores (thn (he pins s σ H _ I h) fun v s1 ⟨x,H1,I1,r1,q1⟩=>?_) hs hw
  rw[h1]
  exact thn (hg pins s1 σ H1 x v _ I1 r1 q1) fun _ s2 q=>q
theorem ay {i:Nat} {x:Str} {e:Expr} {te:TE} {pos':Pos} (hN:X.N.Nodup) (hi:X.N[i]?=some x) (hx:Loc X.env.scope x) (he:PE X e te) (hs:swapsWith e (some (.Name x pos')) pos.line X.env=pure false:=by rfl) (hf:X.fn x=true∨X.env.scope.names.lookup x=some .local:=by first | exact .inl rfl | exact .inr rfl | assumption) :
    PS X (.Assign [.Name x pos'] e pos) (tAsg te (zdZ i)):=by
  intro pins s σ H D I h
  refine wpAny_Assign_Name (thn (he pins s σ H _ I h) fun v s1 ⟨y,H1,I1,r1,q1⟩=>?_) hs
  exact zhj I1 hN hi hx r1 (fun s2 I2=>⟨_,H1,I2,q1⟩) hf
end
section
variable {X:Cx} {pos:Pos}
def tWhile (c:TT) (tb:TS):TS:=fun D σ H=>∃ W:Nat→St→Hp→Prop,(∃ m,W m σ H)∧∀ m σ H,W m σ H →
  c σ H fun b H1=>if b=true then ∃ N:St→Hp→Prop,(∀ σ' H',N σ' H'→∃ m',m' < m∧W m' σ' H')∧tb { D with nx:=N,ct:=N,bk:=D.nx } σ H1 else D.nx σ H1
theorem zfP {c:Expr} {body:List Stmt} {tc:TT} {tb:TS} (hp:PassesOwn (model X.prog X.w) X.A X.env X.xe) (hc:PT X c tc) (hb:PSs X body tb):PS X (.While c body [] pos) (tWhile tc tb):=by
  intro pins s σ H D I h
  obtain⟨W,⟨m0,w0⟩,turn⟩:=h
  refine wpAny_While (codeAny_whileLoop (fun n s'=>∃ σ' H',Inv X pins σ' H' s'∧W n σ' H') ?_ m0 ⟨σ,H,I,w0⟩)
  rintro n s1 ⟨σ1,H1,I1,w1⟩
  refine wpAny_passesOwn hp (thn (hc pins s1 σ1 H1 _ I1 (turn n σ1 H1 w1)) fun b s2 ⟨H2,I2,q2⟩=>?_)
  cases b with
  | true =>
    obtain⟨N,hN,q2⟩:=q2
    rw[if_pos rfl]
    refine wpAny_passesOwn hp (thn (hb pins s2 σ1 H2 _ I2 q2) fun f s3 q3=>?_)
    cases f with
    | next =>
      obtain⟨σ3,H3,I3,n3⟩:=q3
      obtain⟨m',hm,w3⟩:=hN σ3 H3 n3
      exact⟨m',hm,σ3,H3,I3,w3⟩
    | cont =>
      obtain⟨σ3,H3,I3,n3⟩:=q3
      obtain⟨m',hm,w3⟩:=hN σ3 H3 n3
      exact⟨m',hm,σ3,H3,I3,w3⟩
    | brk=>exact q3
    | ret v=>exact q3
  | false =>
    rw[if_neg Bool.false_ne_true]
    exact wpAny_execs_nil ⟨σ1,H2,I2,q2⟩
end
structure It where
  go:Nat→Hp→Prop
  yld:Nat→Hp→V→Hp→Prop
  stop:Nat→Hp→Prop
def zbA (X:Cx) (pins:List (Addr × Obj)) (H:Hp) (b:Addr):Prop :=
  H b=none∧b≠X.env.locals∧b∉X.fs∧(b∈X.ex∨X.s₀.heap.objs.size≤b)∧(∀ x c,X.env.cells.lookup x=some c→c≠b)∧∀ p∈X.pn++pins,p.1≠b
theorem Inv.fpOk {X:Cx} {pins:List (Addr × Obj)} {σ:St} {H H':Hp} {s:Shared} {b:Addr} (I:Inv X pins σ H s) (hb:s.heap.objs.size≤b) (hn:H' b=none):zbA X pins H' b:=by
  refine⟨hn,Nat.ne_of_gt (Nat.lt_of_lt_of_le I.lt hb),I.nofs hb,.inr (Nat.le_trans I.sz hb),fun x c e z=>?_,fun p hp z=>?_⟩
  · obtain⟨v,q⟩:=I.cell x c e
    exact absurd (Nat.lt_of_lt_of_le q.lt (by rw[z];exact hb)) (Nat.lt_irrefl _)
  · exact absurd (Nat.lt_of_lt_of_le (Heap.lt_size (I.pin p hp).1) (by rw[z];exact hb)) (Nat.lt_irrefl _)
structure zfJ (P:Program) (w:World) (K:PySem.W.Frag) (tg:Expr) (J:It) (fp:List Addr) (it:Addr) (tn:Nat→Heap→Prop):Prop where
  mem:it∈fp
  obj:∀ i h,tn i h→∀ b∈fp,∃ o,h.get? b=some o∧∀ v,o.data≠.cell v
  keep:∀ i h h',tn i h→(∀ b∈fp,∀ o,h.get? b=some o→h'.get? b=some o)→tn i h'
  item:∀(X:Cx),X.prog=P→X.w=w→X.K=K→X.calm=true→∀(i:Nat) (pins:List (Addr × Obj)) (s:Shared) (σ:St) (H:Hp) (E:Value→Shared→Prop),Inv X pins σ H s→(∀ b∈fp,zbA X pins H b)→tn i s.heap→J.go i H →
    wpAny (model P w) X.A (pyNext (.ref it)) (fun r s1=>∃ u,r=some u ∧
      wpAny (model P w) X.A (letOwnedTupleGo tg (.ref it) u) (fun _ s2=>∃ x H',Inv X pins σ H' s2∧aL x u∧J.yld i H x H'∧tn (i+1) s2.heap∧∀ b∈fp,H' b=none) E s1) E s
  done:∀(X:Cx),X.prog=P→X.w=w→X.K=K→X.calm=true→∀(i:Nat) (pins:List (Addr × Obj)) (s:Shared) (σ:St) (H:Hp) (E:Value→Shared→Prop),Inv X pins σ H s→(∀ b∈fp,zbA X pins H b)→tn i s.heap→J.stop i H →
    wpAny (model P w) X.A (pyNext (.ref it)) (fun r s1=>r=none∧Inv X pins σ H s1) E s
  self:∀(A:Around) (i:Nat) (s:Shared) (Q:Value→Shared→Prop) (E:Value→Shared→Prop),tn i s.heap→Q (.ref it) s→wpAny (model P w) A (pyIter (.ref it)) Q E s
abbrev TI:=St→Hp→(It→Hp→Prop)→Prop
def PIE (X:Cx) (pins:List (Addr × Obj)) (σ:St) (tg:Expr) (R:It→Hp→Prop) (itv:Value) (s2:Shared):Prop :=
  ∃(it:Addr) (fp:List Addr) (tn:Nat→Heap→Prop) (J:It) (H':Hp),itv=.ref it∧Inv X pins σ H' s2∧zfJ X.prog X.w X.K tg J fp it tn∧tn 0 s2.heap∧(∀ b∈fp,zbA X pins H' b)∧R J H'
def PI (X:Cx) (tg iter:Expr) (wi:TI):Prop :=
  ∀(pins:List (Addr × Obj)) (s:Shared) (σ:St) (H:Hp) (R:It→Hp→Prop),Inv X pins σ H s→wi σ H R →
    wpAny (model X.prog X.w) X.A (eval iter X.env) (fun v s1=>wpAny (model X.prog X.w) X.A (pyIter v) (PIE X pins σ tg R) X.xe s1) X.xe s
theorem zff {M:Model} {A:Around} {E:Value→Shared→Prop} {s:Shared} {tg:Expr} {it:Addr} {u:Value} {o:Obj} {n:String} {vs:Array Value} {Q:Unit→Shared→Prop} (ho:s.heap.get? it=some o) (hc:o.cls=.type n) (hd:o.data=.fields vs)
    (hn:["enumerate","zip","dict_itemiterator","dict_reverseitemiterator","odict_iterator","itertools.zip_longest","itertools.pairwise"].contains n=false) (hQ:Q () s):wpAny M A (letOwnedTupleGo tg (.ref it) u) Q E s:=by
  unfold letOwnedTupleGo
  cases tg <;> first
    | exact wpAny_pure hQ
    | (cases u <;> first
        | exact wpAny_pure hQ
        | (refine wpAny_bind (wpAny_load ho ?_)
           rw[hc,hd]
           show wpAny M A (if(["enumerate","zip","dict_itemiterator","dict_reverseitemiterator","odict_iterator","itertools.zip_longest","itertools.pairwise"].contains n&&vs[0]? == some (rawInt _))=true then _ else _) Q E s
           rw[if_neg (by intro h;rw[hn,Bool.false_and]at h;cases h)]
           exact wpAny_pure hQ))
def Itl (K:PySem.W.Frag) (a:Addr):It :=
  ⟨fun i H=>∃ xs x,SqL K H a xs∧xs[i]?=some x,fun i H x H'=>H'=H∧∀ xs,SqL K H a xs→xs[i]?=some x,fun i H=>∃ xs,SqL K H a xs∧xs.length≤i⟩
def Itt (K:PySem.W.Frag) (a:Addr):It :=
  ⟨fun i H=>∃ xs x,SqT K H a xs∧xs[i]?=some x,fun i H x H'=>H'=H∧∀ xs,SqT K H a xs→xs[i]?=some x,fun i H=>∃ xs,SqT K H a xs∧xs.length≤i⟩
def Itr (lo:Int) (n:Nat):It:=⟨fun i _=>i < n,fun i H x H'=>H'=H∧x=.int (lo+i),fun i _=>n≤i⟩
theorem ze1 {P:Program} {w:World} {K:PySem.W.Frag} {tg:Expr} (a it:Addr):zfJ P w K tg (Itl K a) [it] it (fun i h=>h.IsListIter it a i) where
  mem:=by simp
  obj:=fun i h st b hb=>by
    have e:b=it:=by simpa using hb
    subst e
    obtain⟨o,e,c,d⟩:=st
    exact⟨o,e,fun v z=>by rw[d]at z;cases z⟩
  keep:=fun i h h' st k=>st.at fun o e=>k it (by simp) o e
  item:=by
    intro X hP hw hK hc i pins s σ H E I hf st hg
    subst hP hw hK
    obtain⟨xs,x,hq,hx⟩:=hg
    obtain⟨its,rv,p,hz⟩:=I.list hq
    obtain⟨u,hu,ru⟩:=rv.get hx
    obtain⟨f0,f1,f2,f3,f4,f5⟩:=hf it (by simp)
    refine wpAny_pyNext_list_item st p.isList (x:=u) (by simpa using hu) fun h' st' sb=>?_
    have I1:Inv X pins σ H { s with heap:=h' }:=I.turned (t':=s.toks) (fun b o hb e=>(sb.2 b hb).trans e) f0 f1 f3 f4 f5
    obtain⟨o,e,c,d⟩:=id st'
    exact⟨u,rfl,zff (s:={ s with heap:=h' }) e c d (by decide) ⟨x,H,I1,ru,⟨rfl,fun ys hy=>by rw[I.list_inj hy hq];exact hx⟩,st',fun b hb=>(hf b hb).1⟩⟩
  done:=by
    intro X hP hw hK hc i pins s σ H E I hf st hg
    subst hP hw hK
    obtain⟨xs,hq,hx⟩:=hg
    obtain⟨its,rv,p,hz⟩:=I.list hq
    obtain⟨f0,f1,f2,f3,f4,f5⟩:=hf it (by simp)
    have hl:=rv.length
    exact wpAny_pyNext_list_end (I.ok.hd hc) st p.isList (by simp;omega) fun h' eb=>⟨rfl,I.turned (t':=s.toks) (fun b o hb e=>eb b o hb e) f0 f1 f3 f4 f5⟩
  self:=fun _ _ _ _ _ st h=>wpAny_pyIter_listiter st h
theorem zeP {P:Program} {w:World} {K:PySem.W.Frag} {tg:Expr} (a it:Addr):zfJ P w K tg (Itt K a) [it] it (fun i h=>h.IsTupleIter it a i) where
  mem:=by simp
  obj:=fun i h st b hb=>by
    have e:b=it:=by simpa using hb
    subst e
    obtain⟨o,e,c,d⟩:=st
    exact⟨o,e,fun v z=>by rw[d]at z;cases z⟩
  keep:=fun i h h' st k=>st.at fun o e=>k it (by simp) o e
  item:=by
    intro X hP hw hK hc i pins s σ H E I hf st hg
    subst hP hw hK
    obtain⟨xs,x,hq,hx⟩:=hg
    obtain⟨its,rv,p,hz⟩:=I.tuple hq
    obtain⟨u,hu,ru⟩:=rv.get hx
    obtain⟨f0,f1,f2,f3,f4,f5⟩:=hf it (by simp)
    refine wpAny_pyNext_tuple_item st (show s.heap.IsTuple a its.toArray from p) (x:=u) (by simpa using hu) fun h' st' sb=>?_
    have I1:Inv X pins σ H { s with heap:=h' }:=I.turned (t':=s.toks) (fun b o hb e=>(sb.2 b hb).trans e) f0 f1 f3 f4 f5
    obtain⟨o,e,c,d⟩:=id st'
    exact⟨u,rfl,zff (s:={ s with heap:=h' }) e c d (by decide) ⟨x,H,I1,ru,⟨rfl,fun ys hy=>by rw[I.tuple_inj hy hq];exact hx⟩,st',fun b hb=>(hf b hb).1⟩⟩
  done:=by
    intro X hP hw hK hc i pins s σ H E I hf st hg
    subst hP hw hK
    obtain⟨xs,hq,hx⟩:=hg
    obtain⟨its,rv,p,hz⟩:=I.tuple hq
    obtain⟨f0,f1,f2,f3,f4,f5⟩:=hf it (by simp)
    have hl:=rv.length
    exact wpAny_pyNext_tuple_end (I.ok.hd hc) st (show s.heap.IsTuple a its.toArray from p) (by simp;omega) fun h' eb=>⟨rfl,I.turned (t':=s.toks) (fun b o hb e=>eb b o hb e) f0 f1 f3 f4 f5⟩
  self:=fun _ _ _ _ _ st h=>wpAny_pyIter_tupleiter st h
theorem ziC {P:Program} {w:World} {K:PySem.W.Frag} {tg:Expr} (it:Addr) (lo:Int) (n:Nat):zfJ P w K tg (Itr lo n) [it] it (fun i h=>IsRangeIter h it (lo+(i:Nat) * 1) ((n:Int) - (i:Nat)) 1) where
  mem:=by simp
  obj:=fun i h st b hb=>by
    have e:b=it:=by simpa using hb
    subst e
    exact⟨_,st,fun v z=>by
      have z':Data.fields _=Data.cell v:=z
      cases z'⟩
  keep:=fun i h h' st k=>k it (by simp) _ st
  item:=by
    intro X hP hw hK hc i pins s σ H E I hf st hg
    subst hP hw hK
    obtain⟨f0,f1,f2,f3,f4,f5⟩:=hf it (by simp)
    have W:=Walks.range (prog:=X.prog) (w:=X.w) (I.ok.hd hc) it lo 1 n
    refine W.item i s _ _ hg st fun v h' tk hv st' kk=>?_
    obtain⟨t,rfl⟩:=hv
    have I1:Inv X pins σ H { s with heap:=h',toks:=tk }:=I.turned (fun b o hb e=>kk b o (by simpa using hb) e) f0 f1 f3 f4 f5
    refine⟨_,rfl,zff (s:={ s with heap:=h',toks:=tk }) (n:="range_iterator") st' rfl rfl (by decide) ⟨.int (lo+i),H,I1,⟨t,?_⟩,⟨rfl,rfl⟩,st',fun b hb=>(hf b hb).1⟩⟩
    rw[Int.mul_one]
  done:=by
    intro X hP hw hK hc i pins s σ H E I hf st hg
    subst hP hw hK
    obtain⟨f0,f1,f2,f3,f4,f5⟩:=hf it (by simp)
    exact wpAny_pyNext_range_end (I.ok.hd hc) st (by have:n≤i:=hg;omega) fun h' eb=>⟨rfl,I.turned (t':=s.toks) (fun b o hb e=>eb b o hb e) f0 f1 f3 f4 f5⟩
  self:=fun _ _ _ _ _ st h=>wpAny_pyIter_rangeiter st h
end L2
namespace L2
open PySem PySem.Spec PyProof.Rows
section
variable {X:Cx} {tg:Expr}
def iList (K:PySem.W.Frag) (tl:TE):TI:=fun σ H R=>tl σ H fun x H1=>∃ a,x=.ref a∧(∃ xs,SqL K H1 a xs)∧R (Itl K a) H1
def iTup (K:PySem.W.Frag) (tl:TE):TI:=fun σ H R=>tl σ H fun x H1=>∃ a,x=.ref a∧(∃ xs,SqT K H1 a xs)∧R (Itt K a) H1
theorem zbq {l:Expr} {tl:TE} (hl:PE X l tl):PI X tg l (iList X.K tl):=by
  intro pins s σ H R I h
  refine thn (hl pins s σ H _ I h) fun v s1 ⟨x,H1,I1,r1,q1⟩=>?_
  obtain⟨a,e,⟨xs,hq⟩,q⟩:=q1
  subst e
  cases r1
  obtain⟨its,rv,p,hz⟩:=I1.list hq
  refine wpAny_pyIter_list p.isList ?_
  refine⟨s1.heap.objs.size,[s1.heap.objs.size],_,_,H1,rfl,I1.kept (t':=s1.toks) fun b o e=>Heap.get?_push_of_some _ e,ze1 a _,⟨_,Heap.get?_push_size _ rfl,rfl,rfl⟩,fun b hb=>?_,q⟩
  have e:b=s1.heap.objs.size:=by simpa using hb
  subst e
  exact I1.fpOk (Nat.le_refl _) (I1.hok.fresh (Nat.le_refl _))
theorem zcr {l:Expr} {tl:TE} (hl:PE X l tl):PI X tg l (iTup X.K tl):=by
  intro pins s σ H R I h
  refine thn (hl pins s σ H _ I h) fun v s1 ⟨x,H1,I1,r1,q1⟩=>?_
  obtain⟨a,e,⟨xs,hq⟩,q⟩:=q1
  subst e
  cases r1
  obtain⟨its,rv,p,hz⟩:=I1.tuple hq
  refine wpAny_pyIter_tuple (show s1.heap.IsTuple a its.toArray from p) ?_
  refine⟨s1.heap.objs.size,[s1.heap.objs.size],_,_,H1,rfl,I1.kept (t':=s1.toks) fun b o e=>Heap.get?_push_of_some _ e,zeP a _,⟨_,Heap.get?_push_size _ rfl,rfl,rfl⟩,fun b hb=>?_,q⟩
  have e:b=s1.heap.objs.size:=by simpa using hb
  subst e
  exact I1.fpOk (Nat.le_refl _) (I1.hok.fresh (Nat.le_refl _))
theorem zhw {pins:List (Addr × Obj)} {σ:St} {H:Hp} {s:Shared} {R:It→Hp→Prop} {E:Value→Shared→Prop} {lo hi:Int} {t u v:Tok} {tk:Nat} (I:Inv X pins σ H s) (h1:-(2 ^ 62)≤lo) (h2:lo < 2 ^ 62) (h3:-(2 ^ 62)≤hi) (h4:hi < 2 ^ 62)
    (q:R (Itr lo (hi - lo).toNat) H):wpAny (model X.prog X.w) X.A (pyIter (.ref s.heap.objs.size)) (PIE X pins σ tg R) E { s with heap:=s.heap.push { cls:=.type "range",data:=.fields #[.int lo t,.int hi u,.int 1 v] },toks:=tk }:=by
  refine wpAny_pyIter_range (IsRange.new ..) (small_one h1 h2 h3 h4) ?_
  have I1:Inv X pins σ H { s with heap:=s.heap.push { cls:=.type "range",data:=.fields #[.int lo t,.int hi u,.int 1 v] },toks:=tk }:=I.kept fun b o e=>Heap.get?_push_of_some _ e
  refine⟨(s.heap.push { cls:=.type "range",data:=.fields #[.int lo t,.int hi u,.int 1 v] }).objs.size,[(s.heap.push { cls:=.type "range",data:=.fields #[.int lo t,.int hi u,.int 1 v] }).objs.size],_,_,H,rfl,
    I1.kept (t':=tk) fun b o e=>Heap.get?_push_of_some _ e,ziC _ lo (hi - lo).toNat,?_,fun b hb=>?_,q⟩
  · have e1:lo+((0:Nat):Int) * 1=lo:=by simp
    have e2:(((hi - lo).toNat:Nat):Int) - ((0:Nat):Int)=Builtin.Range.rangeSize lo hi 1:=by rw[rangeSize_one];split <;> omega
    show IsRangeIter _ _ (lo+((0:Nat):Int) * 1) ((((hi - lo).toNat:Nat):Int) - ((0:Nat):Int)) 1
    rw[e1,e2]
    exact Heap.get?_push_size _ rfl
  · have e:b=(s.heap.push { cls:=.type "range",data:=.fields #[.int lo t,.int hi u,.int 1 v] }).objs.size:=by simpa using hb
    subst e
    exact I1.fpOk (Nat.le_refl _) (I1.hok.fresh (Nat.le_refl _))
def iRng1 (ta:TA):TI:=fun σ H R=>ta σ H fun vs H1=>∃ j:Int,vs=[.int j]∧-(2 ^ 62)≤j∧j < 2 ^ 62∧R (Itr 0 j.toNat) H1
def iRng2 (ta:TA):TI:=fun σ H R=>ta σ H fun vs H1=>∃ i j:Int,vs=[.int i,.int j]∧(-(2 ^ 62)≤i∧i < 2 ^ 62∧-(2 ^ 62)≤j∧j < 2 ^ 62)∧R (Itr i (j - i).toNat) H1
theorem zaZ {a:Expr} {ta:TA} {p pos:Pos} (hg:Gl X "range") (hm:X.mg "range"=none) (ha:PA X [a] ta) (hs:starEach [a] X.env=[(false,eval a X.env)]:=by rfl):PI X tg (.Call (.Name "range" p) [a] [] pos) (iRng1 ta):=by
  intro pins s σ H R I h
  refine Call_ (zcQ I hg hm boot_range (PyProof.Rows.callWith_type1 (thn (ha pos pins s σ H _ I h) fun us s1 ⟨vs,H1,I1,r1,q1⟩=>?_) hs rfl))
  obtain⟨j,e,q1,q2,q⟩:=q1
  subst e
  cases r1 with
  | cons r rr =>
    cases rr
    obtain⟨t,rfl⟩:=r
    exact call_range_1 (zhw I1 (by omega) (by omega) q1 q2 (by simpa using q))
theorem zjF {a b:Expr} {ta:TA} {p pos:Pos} (hg:Gl X "range") (hm:X.mg "range"=none) (ha:PA X [a,b] ta) (hs:starEach [a,b] X.env=[(false,eval a X.env),(false,eval b X.env)]:=by rfl) (hs2:starEach [b] X.env=[(false,eval b X.env)]:=by rfl) :
    PI X tg (.Call (.Name "range" p) [a,b] [] pos) (iRng2 ta):=by
  intro pins s σ H R I h
  refine Call_ (zcQ I hg hm boot_range (PyProof.Rows.callWith_type1 (thn (ha pos pins s σ H _ I h) fun us s1 ⟨vs,H1,I1,r1,q1⟩=>?_) (by rw[hs,hs2]) (by rw[hs2];rfl)))
  obtain⟨i,j,e,⟨q1,q2,q3,q4⟩,q⟩:=q1
  subst e
  cases r1 with
  | cons r rr =>
    cases rr with
    | cons r' rr =>
      cases rr
      obtain⟨t,rfl⟩:=r
      obtain⟨t',rfl⟩:=r'
      exact call_range_2 (zhw I1 q1 q2 q3 q4 q)
def tFor (wi:TI) (g:TG) (tb:TS):TS:=fun D σ H=>wi σ H fun J H1=>∃ W:Nat→Nat→St→Hp→Prop,(∃ m,W 0 m σ H1)∧∀ i m σ H,W i m σ H →
  (J.stop i H∧D.nx σ H)∨(J.go i H∧∃ N:St→Hp→Prop,(∀ σ' H',N σ' H'→∃ m',m' < m∧W (i+1) m' σ' H')∧∀ x H',J.yld i H x H'→g x σ H' fun σ2 H2=>tb { D with nx:=N,ct:=N,bk:=D.nx } σ2 H2)
def zeg (fp:List Addr) (h:Heap):List (Addr × Obj):=fp.filterMap fun b=>(h.get? b).map fun o=>(b,o)
theorem zbb {fp:List Addr} {h:Heap} {b:Addr} {o:Obj} (hb:b∈fp) (e:h.get? b=some o):(b,o)∈zeg fp h:=List.mem_filterMap.mpr ⟨b,hb,by rw[e];rfl⟩
theorem zjQ {fp:List Addr} {h:Heap} {p:Addr × Obj} (hp:p∈zeg fp h):p.1∈fp∧h.get? p.1=some p.2:=by
  obtain⟨b,hb,e⟩:=List.mem_filterMap.mp hp
  cases q:h.get? b with
  | none=>rw[q]at e;cases e
  | some o =>
    rw[q]at e
    have e':(b,o)=p:=Option.some.inj e
    subst e'
    exact⟨hb,q⟩
theorem Inv.pinned {pins:List (Addr × Obj)} {σ:St} {H:Hp} {s:Shared} {fp:List Addr} (I:Inv X pins σ H s) (hf:∀ b∈fp,zbA X pins H b) (ho:∀ b∈fp,∃ o,s.heap.get? b=some o∧∀ v,o.data≠.cell v):Inv X (pins++zeg fp s.heap) σ H s :=
  I.pins_of fun p hp=>(List.mem_append.mp hp).elim (fun z=>I.pin p (List.mem_append_right _ z)) fun z=>by
    obtain⟨hb,e⟩:=zjQ z
    obtain⟨f0,f1,f2,_⟩:=hf p.1 hb
    obtain⟨o,e',d⟩:=ho p.1 hb
    rw[e]at e';cases e'
    exact⟨e,f0,f1,f2,d⟩
theorem Inv.unpinned {pins pl:List (Addr × Obj)} {σ:St} {H:Hp} {s:Shared} (I:Inv X (pins++pl) σ H s):Inv X pins σ H s:=I.pins_of fun p hp=>I.pin p (List.mem_append_right _ (List.mem_append_left _ hp))
theorem zaE {iter:Expr} {body:List Stmt} {wi:TI} {g:TG} {tb:TS} {pos:Pos} (hp:PassesOwn (model X.prog X.w) X.A X.env X.xe) (hc:X.calm=true) (hi:PI X tg iter wi) (hg:PG X tg g) (hb:PSs X body tb)
    (hs:∀ x,foldedSetIterable iter X.env x=pure x:=by intro _;rfl):PS X (.For tg iter body [] pos) (tFor wi g tb):=by
  intro pins s σ H D I h
  refine wpAny_For (thn (hi pins s σ H _ I h) fun v s1 h1=>thn h1 fun itv s2 h2=>?_) hs
  obtain⟨it,fp,tn,J,H2,e,I2,T,st2,f2,W,⟨m0,w0⟩,turn⟩:=h2
  subst e
  have stat:∀ {H':Hp},(∀ b∈fp,H' b=none)→∀ b∈fp,zbA X pins H' b:=fun hn b hb=>⟨hn b hb,(f2 b hb).2⟩
  refine codeAny_forLoop_any (fun n s'=>∃ i σ' H',Inv X pins σ' H' s'∧tn i s'.heap∧(∀ b∈fp,H' b=none)∧W i n σ' H') ?_ m0 ⟨0,σ,H2,I2,st2,fun b hb=>(f2 b hb).1,w0⟩
  rintro n s3 ⟨i,σ3,H3,I3,st3,fr3,w3⟩
  rcases turn i n σ3 H3 w3 with ⟨stop,qn⟩ | ⟨go,N,hN,step⟩
  · refine wpAny_passesOwn hp (thn (T.done X rfl rfl rfl hc i pins s3 σ3 H3 X.xe I3 (stat fr3) st3 stop) fun r s4 ⟨hr,I4⟩=>?_)
    subst hr
    exact wpAny_execs_nil ⟨σ3,H3,I4,qn⟩
  · refine wpAny_passesOwn hp (thn (T.item X rfl rfl rfl hc i pins s3 σ3 H3 X.xe I3 (stat fr3) st3 go) fun r s4 ⟨u,hr,h4⟩=>?_)
    subst hr
    refine wpAny_passesOwn hp (thn h4 fun _ s5 ⟨x,H5,I5,r5,y5,st5,fr5⟩=>?_)
    have I5':=I5.pinned (stat fr5) (T.obj _ _ st5)
    refine wpAny_passesOwn hp (thn (hg _ s5 σ3 H5 x u _ I5' r5 (step x H5 y5)) fun _ s6 ⟨σ6,H6,I6,q6⟩=>?_)
    refine wpAny_passesOwn hp (thn (hb _ s6 σ6 H6 _ I6 q6) fun f s7 q7=>?_)
    have again:∀ {σ7:St} {H7:Hp},Inv X (pins++zeg fp s5.heap) σ7 H7 s7→N σ7 H7→∃ m,m < n∧∃ i σ' H',Inv X pins σ' H' s7∧tn i s7.heap∧(∀ b∈fp,H' b=none)∧W i m σ' H':=fun {σ7 H7} I7 n7=>by
      obtain⟨m',hm,w7⟩:=hN σ7 H7 n7
      refine⟨m',hm,i+1,σ7,H7,I7.unpinned,T.keep _ _ _ st5 fun b hb o e=>(I7.pin (b,o) (List.mem_append_right _ (List.mem_append_right _ (zbb hb e)))).1,fun b hb=>?_,w7⟩
      obtain⟨o,e,d⟩:=T.obj _ _ st5 b hb
      exact(I7.pin (b,o) (List.mem_append_right _ (List.mem_append_right _ (zbb hb e)))).2.1
    cases f with
    | next=>obtain⟨σ7,H7,I7,n7⟩:=q7;exact again I7 n7
    | cont=>obtain⟨σ7,H7,I7,n7⟩:=q7;exact again I7 n7
    | brk=>obtain⟨σ7,H7,I7,q7⟩:=q7;exact⟨σ7,H7,I7.unpinned,q7⟩
    | ret v=>obtain⟨x7,σ7,H7,I7,r7,q7⟩:=q7;exact⟨x7,σ7,H7,I7.unpinned,r7,q7⟩
end
theorem zkE {K:PySem.W.Frag} {a:Addr} {xs:List V} {g:TG} {tb:TS} {D:zcX} {σ:St} {H:Hp} (Pv:Nat→St→Hp→Prop) (h0:Pv 0 σ H) (hl:∀ i σ H,i≤xs.length→Pv i σ H→SqL K H a xs)
    (hs:∀ i x σ H,xs[i]?=some x→Pv i σ H→g x σ H fun σ2 H2=>tb { D with nx:=Pv (i+1),ct:=Pv (i+1),bk:=D.nx } σ2 H2) (hd:∀ σ H,Pv xs.length σ H→D.nx σ H) :
    ∃ W:Nat→Nat→St→Hp→Prop,(∃ m,W 0 m σ H)∧∀ i m σ H,W i m σ H →
      ((Itl K a).stop i H∧D.nx σ H)∨((Itl K a).go i H∧∃ N:St→Hp→Prop,(∀ σ' H',N σ' H'→∃ m',m' < m∧W (i+1) m' σ' H')∧∀ x H',(Itl K a).yld i H x H'→g x σ H' fun σ2 H2=>tb { D with nx:=N,ct:=N,bk:=D.nx } σ2 H2):=by
  refine⟨fun i m σ H=>m=xs.length - i∧i≤xs.length∧Pv i σ H,⟨xs.length,by simp,Nat.zero_le _,h0⟩,?_⟩
  rintro i m σ H ⟨rfl,hi,p⟩
  have q:=hl i σ H hi p
  by_cases hlt:i < xs.length
  · refine .inr ⟨⟨xs,xs[i],q,by simp [hlt]⟩,Pv (i+1),fun σ' H' p'=>⟨xs.length - (i+1),by omega,rfl,hlt,p'⟩,fun x H' y=>?_⟩
    obtain⟨e,y⟩:=y
    subst e
    exact hs i x σ _ (y xs q) p
  · have e:i=xs.length:=by omega
    subst e
    exact .inl ⟨⟨xs,q,Nat.le_refl _⟩,hd σ H p⟩
theorem zlu {K:PySem.W.Frag} {a:Addr} {xs:List V} {g:TG} {tb:TS} {D:zcX} {σ:St} {H:Hp} (Pv:Nat→St→Hp→Prop) (h0:Pv 0 σ H) (hl:∀ i σ H,i≤xs.length→Pv i σ H→SqT K H a xs)
    (hs:∀ i x σ H,xs[i]?=some x→Pv i σ H→g x σ H fun σ2 H2=>tb { D with nx:=Pv (i+1),ct:=Pv (i+1),bk:=D.nx } σ2 H2) (hd:∀ σ H,Pv xs.length σ H→D.nx σ H) :
    ∃ W:Nat→Nat→St→Hp→Prop,(∃ m,W 0 m σ H)∧∀ i m σ H,W i m σ H →
      ((Itt K a).stop i H∧D.nx σ H)∨((Itt K a).go i H∧∃ N:St→Hp→Prop,(∀ σ' H',N σ' H'→∃ m',m' < m∧W (i+1) m' σ' H')∧∀ x H',(Itt K a).yld i H x H'→g x σ H' fun σ2 H2=>tb { D with nx:=N,ct:=N,bk:=D.nx } σ2 H2):=by
  refine⟨fun i m σ H=>m=xs.length - i∧i≤xs.length∧Pv i σ H,⟨xs.length,by simp,Nat.zero_le _,h0⟩,?_⟩
  rintro i m σ H ⟨rfl,hi,p⟩
  have q:=hl i σ H hi p
  by_cases hlt:i < xs.length
  · refine .inr ⟨⟨xs,xs[i],q,by simp [hlt]⟩,Pv (i+1),fun σ' H' p'=>⟨xs.length - (i+1),by omega,rfl,hlt,p'⟩,fun x H' y=>?_⟩
    obtain⟨e,y⟩:=y
    subst e
    exact hs i x σ _ (y xs q) p
  · have e:i=xs.length:=by omega
    subst e
    exact .inl ⟨⟨xs,q,Nat.le_refl _⟩,hd σ H p⟩
theorem za6 {lo:Int} {n:Nat} {g:TG} {tb:TS} {D:zcX} {σ:St} {H:Hp} (Pv:Nat→St→Hp→Prop) (h0:Pv 0 σ H)
    (hs:∀ i σ H,i < n→Pv i σ H→g (.int (lo+i)) σ H fun σ2 H2=>tb { D with nx:=Pv (i+1),ct:=Pv (i+1),bk:=D.nx } σ2 H2) (hd:∀ σ H,Pv n σ H→D.nx σ H) :
    ∃ W:Nat→Nat→St→Hp→Prop,(∃ m,W 0 m σ H)∧∀ i m σ H,W i m σ H →
      ((Itr lo n).stop i H∧D.nx σ H)∨((Itr lo n).go i H∧∃ N:St→Hp→Prop,(∀ σ' H',N σ' H'→∃ m',m' < m∧W (i+1) m' σ' H')∧∀ x H',(Itr lo n).yld i H x H'→g x σ H' fun σ2 H2=>tb { D with nx:=N,ct:=N,bk:=D.nx } σ2 H2):=by
  refine⟨fun i m σ H=>m=n - i∧i≤n∧Pv i σ H,⟨n,by simp,Nat.zero_le _,h0⟩,?_⟩
  rintro i m σ H ⟨rfl,hi,p⟩
  by_cases hlt:i < n
  · refine .inr ⟨hlt,Pv (i+1),fun σ' H' p'=>⟨n - (i+1),by omega,rfl,hlt,p'⟩,fun x H' y=>?_⟩
    obtain⟨e,y⟩:=y
    subst e y
    exact hs i σ _ hlt p
  · have e:i=n:=by omega
    subst e
    exact .inl ⟨Nat.le_refl _,hd σ H p⟩
end L2
namespace L2
open PySem PySem.Spec PyProof.Rows
abbrev R2:=V→V→Hp→VK→Prop
def OpR (X:Cx) (f:Value→Value→Sem Value) (r:R2):Prop :=
  ∀(pins:List (Addr × Obj)) (s:Shared) (σ:St) (H:Hp) (x y:V) (v u:Value) (Q:VK),Inv X pins σ H s→aL x v→aL y u→r x y H Q →
    wpAny (model X.prog X.w) X.A (f v u) (EP X pins σ Q) X.xe s
def UnR (X:Cx) (f:Value→Sem Value) (r:V→Hp→VK→Prop):Prop :=
  ∀(pins:List (Addr × Obj)) (s:Shared) (σ:St) (H:Hp) (x:V) (v:Value) (Q:VK),Inv X pins σ H s→aL x v→r x H Q →
    wpAny (model X.prog X.w) X.A (f v) (EP X pins σ Q) X.xe s
def zbI (X:Cx) (f:Value) (r:List V→Hp→VK→Prop):Prop :=
  ∀(pins:List (Addr × Obj)) (s:Shared) (σ:St) (H:Hp) (xs:List V) (us:List Value) (Q:VK),Inv X pins σ H s→aI xs us→r xs H Q →
    wpAny (model X.prog X.w) X.A (call f us) (EP X pins σ Q) X.xe s
def tOp (r:R2) (ta tb:TE):TE:=fun σ H Q=>ta σ H fun x H1=>tb σ H1 fun y H2=>r x y H2 Q
def tUn (r:V→Hp→VK→Prop) (ta:TE):TE:=fun σ H Q=>ta σ H fun x H1=>r x H1 Q
def rI (C:Int→Int→Prop) (g:Int→Int→V):R2:=fun x y H Q=>∃ i j,x=.int i∧y=.int j∧C i j∧Q (g i j) H
def rI0 (g:Int→Int→V):R2:=fun x y H Q=>∃ i j,x=.int i∧y=.int j∧Q (g i j) H
def rU (g:Int→V):V→Hp→VK→Prop:=fun x H Q=>∃ i,x=.int i∧Q (g i) H
section
variable {X:Cx} {a b c:Expr} {ta tb tc:TE} {pos:Pos}
theorem binT (ha:PE X a ta) (hb:PE X b tb) {pins:List (Addr × Obj)} {s:Shared} {σ:St} {H:Hp} {R:V→V→Hp→Prop} (I:Inv X pins σ H s)
    (h:ta σ H fun x H1=>tb σ H1 fun y H2=>R x y H2) {Q:Value→Shared→Prop} {f:Value→Value→Sem Value}
    (hf:∀ v u s2 x y H2,Inv X pins σ H2 s2→aL x v→aL y u→R x y H2→wpAny (model X.prog X.w) X.A (f v u) Q X.xe s2) :
    wpAny (model X.prog X.w) X.A (eval a X.env) (fun v s₁=>wpAny (model X.prog X.w) X.A (eval b X.env) (fun u s₂=>wpAny (model X.prog X.w) X.A (f v u) Q X.xe s₂) X.xe s₁) X.xe s:=by
  refine thn (ha pins s σ H _ I h) fun v s1 ⟨x,H1,I1,r1,q1⟩=>?_
  refine thn (hb pins s1 σ H1 _ I1 q1) fun u s2 ⟨y,H2,I2,r2,q2⟩=>?_
  exact hf v u s2 x y H2 I2 r1 r2 q2
theorem az {op:Operator} {r:R2} (ho:OpR X (binaryOp op) r) (ha:PE X a ta) (hb:PE X b tb):PE X (.BinOp a op b pos) (tOp r ta tb):=by
  intro pins s σ H Q I h
  exact wpAny_BinOp (binT ha hb I h fun v u s2 x y H2 I2 rx ry q=>ho pins s2 σ H2 x y v u Q I2 rx ry q)
theorem zcc {op:UnaryOp} {r:V→Hp→VK→Prop} (ho:UnR X (unaryOp op) r) (ha:PE X a ta):PE X (.UnaryOp op a pos) (tUn r ta):=by
  intro pins s σ H Q I h
  exact UnaryOp_ (thn (ha pins s σ H _ I h) fun v s1 ⟨x,H1,I1,r1,q1⟩=>ho pins s1 σ H1 x v Q I1 r1 q1)
theorem opI {f:Value→Value→Sem Value} {C:Int→Int→Prop} {g:Int→Int→Int}
    (rule:∀(i j:Int) (t u:Tok) (s:Shared) (Q:Value→Shared→Prop) (E:Value→Shared→Prop),C i j→Q (.int (g i j) s.toks) { s with toks:=s.toks+1 }→wpAny (model X.prog X.w) X.A (f (.int i t) (.int j u)) Q E s) :
    OpR X f (rI C fun i j=>.int (g i j)):=by
  intro pins s σ H x y v u Q I rx ry h
  obtain⟨i,j,rfl,rfl,hc,q⟩:=h
  obtain⟨t,rfl⟩:=rx
  obtain⟨t',rfl⟩:=ry
  exact rule i j t t' s _ _ hc ⟨.int (g i j),H,I.tok _,⟨_,rfl⟩,q⟩
theorem opI0 {f:Value→Value→Sem Value} {g:Int→Int→Int}
    (rule:∀(i j:Int) (t u:Tok) (s:Shared) (Q:Value→Shared→Prop) (E:Value→Shared→Prop),Q (.int (g i j) s.toks) { s with toks:=s.toks+1 }→wpAny (model X.prog X.w) X.A (f (.int i t) (.int j u)) Q E s) :
    OpR X f (rI0 fun i j=>.int (g i j)):=by
  intro pins s σ H x y v u Q I rx ry h
  obtain⟨i,j,rfl,rfl,q⟩:=h
  obtain⟨t,rfl⟩:=rx
  obtain⟨t',rfl⟩:=ry
  exact rule i j t t' s _ _ ⟨.int (g i j),H,I.tok _,⟨_,rfl⟩,q⟩
theorem opB0 {f:Value→Value→Sem Value} {g:Int→Int→Bool}
    (rule:∀(i j:Int) (t u:Tok) (s:Shared) (Q:Value→Shared→Prop) (E:Value→Shared→Prop),Q (.bool (g i j)) s→wpAny (model X.prog X.w) X.A (f (.int i t) (.int j u)) Q E s) :
    OpR X f (rI0 fun i j=>.bl (g i j)):=by
  intro pins s σ H x y v u Q I rx ry h
  obtain⟨i,j,rfl,rfl,q⟩:=h
  obtain⟨t,rfl⟩:=rx
  obtain⟨t',rfl⟩:=ry
  exact rule i j t t' s _ _ ⟨.bl (g i j),H,I,rfl,q⟩
def CDiv (i j:Int):Prop:=0 < j∧j < 1073741824
def CMul (i j:Int):Prop:=(-(2 ^ 64) < i∧i < 2 ^ 64)∨(-(2 ^ 64) < j∧j < 2 ^ 64)
theorem CMul.ok {i j:Int} (h:CMul i j):IntMulOk i j:=by
  rcases h with ⟨h1,h2⟩ | ⟨h1,h2⟩
  · exact .of_left (intBits_le_64 h1 h2)
  · exact .of_right (intBits_le_64 h1 h2)
theorem zaX:OpR X (binaryOp .Add) (rI0 fun i j=>.int (i+j)):=opI0 fun _ _ _ _ _ _ _ q=>add_int q
theorem zcs:OpR X (binaryOp .Sub) (rI0 fun i j=>.int (i - j)):=opI0 fun _ _ _ _ _ _ _ q=>sub_int q
theorem op_mul:OpR X (binaryOp .Mult) (rI CMul fun i j=>.int (i * j)):=opI fun _ _ _ _ _ _ _ hc q=>mul_int q hc.ok
theorem zaI:OpR X (binaryOp .FloorDiv) (rI CDiv fun i j=>.int (i / j)):=opI fun i j _ _ _ _ _ hc q=>by
  have h1:(0:Int) < j:=hc.1
  have h2:j < 1073741824:=hc.2
  exact floordiv_int (by omega) (by rw[Int.fdiv_eq_ediv_of_nonneg i (by omega)];exact q) (.inl (PyProof.noPylong_small (by omega)))
theorem zaA:OpR X (binaryOp .Mod) (rI (fun _ j=>0 < j) fun i j=>.int (i % j)):=opI fun i j _ _ _ _ _ hc q=>by
  have h1:(0:Int) < j:=hc
  exact mod_int' (by omega) (by rw[Int.fmod_eq_emod_of_nonneg i (by omega)];exact q)
theorem unI {f:Value→Sem Value} {g:Int→Int}
    (rule:∀(i:Int) (t:Tok) (s:Shared) (Q:Value→Shared→Prop) (E:Value→Shared→Prop),Q (.int (g i) s.toks) { s with toks:=s.toks+1 }→wpAny (model X.prog X.w) X.A (f (.int i t)) Q E s) :
    UnR X f (rU fun i=>.int (g i)):=by
  intro pins s σ H x v Q I rx h
  obtain⟨i,rfl,q⟩:=h
  obtain⟨t,rfl⟩:=rx
  exact rule i t s _ _ ⟨.int (g i),H,I.tok _,⟨_,rfl⟩,q⟩
theorem zbB:UnR X (unaryOp .USub) (rU fun i=>.int (-i)):=unI fun _ _ _ _ _ q=>neg_int q
end
def scal:V→V→Bool
  | .non,.non=>true | .non,.int _=>true | .int _,.non=>true | .non,.bl _=>true | .bl _,.non=>true | .non,.str _=>true | .str _,.non=>true
  | .int _,.int _=>true | .bl _,.bl _=>true | .str _,.str _=>true | .byt _,.byt _=>true
  | .int _,.str _=>true | .str _,.int _=>true | .bl _,.str _=>true | .str _,.bl _=>true
  | _,_=>false
def rEq:R2:=fun x y H Q=>scal x y=true∧Q (.bl (decide (x=y))) H
def rNe:R2:=fun x y H Q=>scal x y=true∧Q (.bl (!decide (x=y))) H
theorem zim {i j:Int}:decide (V.int i=V.int j)=(i == j):=by
  rw[Bool.eq_iff_iff]
  simp
theorem zjr {i j:Bool}:decide (V.bl i=V.bl j)=(i == j):=by
  rw[Bool.eq_iff_iff]
  simp
theorem zil {i j:Str}:decide (V.str i=V.str j)=(i == j):=by
  rw[Bool.eq_iff_iff]
  simp
theorem zin {i j:Array UInt8}:decide (V.byt i=V.byt j)=(i.toList == j.toList):=by
  rw[Bool.eq_iff_iff]
  cases i
  cases j
  simp
section
variable {X:Cx} {a b c:Expr} {ta tb tc:TE} {pos:Pos}
theorem zav {pins:List (Addr × Obj)} {σ:St} {H:Hp} {s:Shared} {Q:VK} {k k':Bool} (I:Inv X pins σ H s) (q:Q (.bl k) H) (e:k=k'):EP X pins σ Q (.bool k') s:=by
  subst e
  exact⟨.bl k,H,I,rfl,q⟩
theorem zaO:OpR X (compareOp .Eq) rEq:=by
  intro pins s σ H x y v u Q I rx ry h
  obtain⟨hs,q⟩:=h
  cases x with
  | non =>
    cases rx
    cases y with
    | non=>cases ry;exact PySem.EqNone.eq_none_none (zav I q (by simp))
    | bl j=>cases ry;exact PySem.EqNone.eq_none_bool (zav I q (by simp))
    | int j=>obtain⟨t',rfl⟩:=ry;exact PySem.EqNone.eq_none_int (zav I q (by simp))
    | str j=>obtain⟨t',rfl⟩:=ry;exact PySem.EqNone.eq_none_str (zav I q (by simp))
    | _=>exact absurd (show false=true from hs) Bool.false_ne_true
  | bl i =>
    cases rx
    cases y with
    | non=>cases ry;exact PySem.EqNone.eq_bool_none (zav I q (by simp))
    | bl j=>cases ry;exact eq_bool (zav I q zjr)
    | str j=>obtain⟨t',rfl⟩:=ry;exact PySem.EqMixed.eq_bool_str (zav I q (by simp))
    | _=>exact absurd (show false=true from hs) Bool.false_ne_true
  | int i =>
    obtain⟨t,rfl⟩:=rx
    cases y with
    | non=>cases ry;exact PySem.EqNone.eq_int_none (zav I q (by simp))
    | int j=>obtain⟨t',rfl⟩:=ry;exact eq_int (zav I q zim)
    | str j=>obtain⟨t',rfl⟩:=ry;exact PySem.EqMixed.eq_int_str (zav I q (by simp))
    | _=>exact absurd (show false=true from hs) Bool.false_ne_true
  | str i =>
    obtain⟨t,rfl⟩:=rx
    cases y with
    | non=>cases ry;exact PySem.EqNone.eq_str_none (zav I q (by simp))
    | bl j=>cases ry;exact PySem.EqMixed.eq_str_bool (zav I q (by simp))
    | int j=>obtain⟨t',rfl⟩:=ry;exact PySem.EqMixed.eq_str_int (zav I q (by simp))
    | str j=>obtain⟨t',rfl⟩:=ry;exact eq_str (zav I q zil)
    | _=>exact absurd (show false=true from hs) Bool.false_ne_true
  | byt i =>
    obtain⟨t,rfl⟩:=rx
    cases y with
    | byt j=>obtain⟨t',rfl⟩:=ry;exact PySem.W.eq_bytes (zav I q zin)
    | _=>exact absurd (show false=true from hs) Bool.false_ne_true
  | _=>cases y <;> exact absurd (show false=true from hs) Bool.false_ne_true
theorem zc8:OpR X (compareOp .NotEq) rNe:=by
  intro pins s σ H x y v u Q I rx ry h
  obtain⟨hs,q⟩:=h
  cases x with
  | non =>
    cases rx
    cases y with
    | non=>cases ry;exact PySem.EqNone.ne_none_none (zav I q (by simp))
    | bl j=>cases ry;exact PySem.EqNone.ne_none_bool (zav I q (by simp))
    | int j=>obtain⟨t',rfl⟩:=ry;exact PySem.EqNone.ne_none_int (zav I q (by simp))
    | str j=>obtain⟨t',rfl⟩:=ry;exact PySem.EqNone.ne_none_str (zav I q (by simp))
    | _=>exact absurd (show false=true from hs) Bool.false_ne_true
  | bl i =>
    cases rx
    cases y with
    | non=>cases ry;exact PySem.EqNone.ne_bool_none (zav I q (by simp))
    | bl j=>cases ry;exact ne_bool (zav I q (congrArg not zjr))
    | str j=>obtain⟨t',rfl⟩:=ry;exact PySem.EqMixed.ne_bool_str (zav I q (by simp))
    | _=>exact absurd (show false=true from hs) Bool.false_ne_true
  | int i =>
    obtain⟨t,rfl⟩:=rx
    cases y with
    | non=>cases ry;exact PySem.EqNone.ne_int_none (zav I q (by simp))
    | int j=>obtain⟨t',rfl⟩:=ry;exact ne_int (zav I q (congrArg not zim))
    | str j=>obtain⟨t',rfl⟩:=ry;exact PySem.EqMixed.ne_int_str (zav I q (by simp))
    | _=>exact absurd (show false=true from hs) Bool.false_ne_true
  | str i =>
    obtain⟨t,rfl⟩:=rx
    cases y with
    | non=>cases ry;exact PySem.EqNone.ne_str_none (zav I q (by simp))
    | bl j=>cases ry;exact PySem.EqMixed.ne_str_bool (zav I q (by simp))
    | int j=>obtain⟨t',rfl⟩:=ry;exact PySem.EqMixed.ne_str_int (zav I q (by simp))
    | str j=>obtain⟨t',rfl⟩:=ry;exact ne_str (zav I q (congrArg not zil))
    | _=>exact absurd (show false=true from hs) Bool.false_ne_true
  | byt i =>
    obtain⟨t,rfl⟩:=rx
    cases y with
    | byt j=>obtain⟨t',rfl⟩:=ry;exact PySem.W.ne_bytes (zav I q (congrArg not zin))
    | _=>exact absurd (show false=true from hs) Bool.false_ne_true
  | _=>cases y <;> exact absurd (show false=true from hs) Bool.false_ne_true
theorem zeC:OpR X (compareOp .Lt) (rI0 fun i j=>.bl (decide (i < j))):=opB0 fun _ _ _ _ _ _ _ q=>lt_int q
theorem zg2:OpR X (compareOp .LtE) (rI0 fun i j=>.bl (decide (i≤j))):=opB0 fun _ _ _ _ _ _ _ q=>le_int q
theorem zdX:OpR X (compareOp .Gt) (rI0 fun i j=>.bl (decide (j < i))):=opB0 fun _ _ _ _ _ _ _ q=>gt_int q
theorem op_ge:OpR X (compareOp .GtE) (rI0 fun i j=>.bl (decide (j≤i))):=opB0 fun _ _ _ _ _ _ _ q=>ge_int q
theorem zjG:OpR X (compareOp .In) (fun x y H Q=>∃ i j,x=.str i∧y=.str j∧Q (.bl (!(Builtin.Str.occurrences j i 0 j.length 1).isEmpty)) H):=by
  intro pins s σ H x y v u Q I rx ry h
  obtain⟨i,j,rfl,rfl,q⟩:=h
  obtain⟨t,rfl⟩:=rx
  obtain⟨t',rfl⟩:=ry
  exact in_str (zav I q rfl)
theorem zf1:OpR X (compareOp .Is) (fun x y H Q=>y=.non∧Q (.bl (decide (x=.non))) H):=by
  intro pins s σ H x y v u Q I rx ry h
  obtain⟨rfl,q⟩:=h
  cases ry
  refine is_none_gen (zav I q ?_)
  cases x <;> first
    | (cases rx;rfl)
    | (obtain⟨t,rfl⟩:=rx;rfl)
theorem zh9:OpR X (compareOp .IsNot) (fun x y H Q=>y=.non∧Q (.bl (!decide (x=.non))) H):=by
  intro pins s σ H x y v u Q I rx ry h
  obtain⟨rfl,q⟩:=h
  cases ry
  refine isnot_none_gen (zav I q ?_)
  cases x <;> first
    | (cases rx;rfl)
    | (obtain⟨t,rfl⟩:=rx;rfl)
theorem aF (b:Expr) {op:CmpOp} (h:op≠.In:=by decide) (h2:op≠.NotIn:=by decide):behindInMarks op b=false:=by
  have e1:(op == CmpOp.In)=false:=by cases op <;> first | rfl | exact absurd rfl h
  have e2:(op == CmpOp.NotIn)=false:=by cases op <;> first | rfl | exact absurd rfl h2
  cases b <;> simp [behindInMarks,e1,e2]
theorem zbO {op:CmpOp} {r:R2} (ho:OpR X (compareOp op) r) (ha:PE X a ta) (hb:PE X b tb) (hm:behindInMarks op b=false):PE X (.Compare a [op] [b] pos) (tOp r ta tb):=by
  intro pins s σ H Q I h
  exact wpAny_Compare1 (binT ha hb I h fun v u s2 x y H2 I2 rx ry q=>ho pins s2 σ H2 x y v u Q I2 rx ry q) hm
def tTest (t:TE):TT:=fun σ H Q=>t σ H fun x H'=>∃ k,x=.bl k∧Q k H'
theorem aw {op:CmpOp} {r:R2} (ho:OpR X (compareOp op) r) (ha:PE X a ta) (hb:PE X b tb) (hm:behindInMarks op b=false):PT X (.Compare a [op] [b] pos) (tTest (tOp r ta tb)):=by
  intro pins s σ H Q I h
  refine wpAny_isTrue_Compare1 (thn (ha pins s σ H _ I h) fun v s1 ⟨x,H1,I1,r1,q1⟩=>thn (hb pins s1 σ H1 _ I1 q1) fun u s2 ⟨y,H2,I2,r2,q2⟩ =>
    thn (ho pins s2 σ H2 x y v u _ I2 r1 r2 q2) fun c s3 ⟨z,H3,I3,r3,k,e,q3⟩=>?_) hm
  subst e
  cases r3
  exact wpAny_truthy_bool ⟨H3,I3,q3⟩
def tChain (r r':R2) (ta tb tc:TE):TE:=fun σ H Q=>ta σ H fun x H1=>tb σ H1 fun y H2=>r x y H2 fun z H3=>∃ k,z=.bl k ∧
  (if k=true then tc σ H3 fun w' H4=>r' y w' H4 Q else Q (.bl false) H3)
theorem zhy {op op':CmpOp} {r r':R2} (ho:OpR X (compareOp op) r) (ho':OpR X (compareOp op') r') (ha:PE X a ta) (hb:PE X b tb) (hc:PE X c tc)
    (hm:lastMarks [op,op'] [b,c]=false:=by with_unfolding_all rfl):PT X (.Compare a [op,op'] [b,c] pos) (tTest (tChain r r' ta tb tc)):=by
  intro pins s σ H Q I h
  refine isTrue_chain (thn (ha pins s σ H _ I h) fun v s1 ⟨x,H1,I1,r1,q1⟩=>test_link (thn (hb pins s1 σ H1 _ I1 q1) fun u s2 ⟨y,H2,I2,r2,q2⟩ =>
    thn (ho pins s2 σ H2 x y v u _ I2 r1 r2 q2) fun d s3 ⟨z,H3,I3,r3,k,e,q3⟩=>?_)) hm
  subst e
  cases r3
  refine wpAny_truthy_bool ?_
  cases k with
  | false =>
    obtain⟨k',e',q'⟩:=q3
    cases e'
    exact ite_ff ⟨H3,I3,q'⟩
  | true =>
    refine ite_tt (test_last (thn (hc pins s3 σ H3 _ I3 q3) fun w' s4 ⟨z',H4,I4,r4,q4⟩=>thn (ho' pins s4 σ H4 y z' u w' _ I4 r2 r4 q4) fun d' s5 ⟨z2,H5,I5,r5,k2,e2,q5⟩=>?_))
    subst e2
    cases r5
    exact wpAny_truthy_bool ⟨H5,I5,q5⟩
theorem zeX:(sizeLine:Nat) < 2 ^ 63:=by rw[sizeLine_eq];decide
theorem zdp {x:V} {us:List Value} (r:aI [x] us):∃ u,us=[u]∧aL x u:=by
  cases r with
  | cons r1 r2=>cases r2;exact⟨_,rfl,r1⟩
theorem zg0 {x y:V} {us:List Value} (r:aI [x,y] us):∃ u w',us=[u,w']∧aL x u∧aL y w':=by
  cases r with
  | cons r1 r2 =>
    cases r2 with
    | cons r3 r4=>cases r4;exact⟨_,_,rfl,r1,r3⟩
theorem zkJ:zbI X (.builtin "abs") (fun xs H Q=>∃ i,xs=[.int i]∧Q (.int (if i < 0 then -i else i)) H):=by
  intro pins s σ H xs us Q I r h
  obtain⟨i,rfl,q⟩:=h
  obtain⟨u,rfl,t,rfl⟩:=zdp r
  exact call_abs_int fun u tk=>⟨.int (if i < 0 then -i else i),H,I.tok _,⟨_,rfl⟩,q⟩
theorem zj6 (hc:X.calm=true):zbI X (.builtin "max") (fun xs H Q=>∃ i j,xs=[.int i,.int j]∧Q (.int (if j > i then j else i)) H):=by
  intro pins s σ H xs us Q I r h
  obtain⟨i,j,rfl,q⟩:=h
  obtain⟨u,w',rfl,⟨t,rfl⟩,⟨t',rfl⟩⟩:=zg0 r
  refine max_two_ints (I.ok.hd hc) fun h' tk k=>⟨_,H,I.kept k,?_,q⟩
  by_cases hj:j > i
  · rw[if_pos hj,if_pos hj];exact⟨_,rfl⟩
  · rw[if_neg hj,if_neg hj];exact⟨_,rfl⟩
theorem zj5 (hc:X.calm=true):zbI X (.builtin "min") (fun xs H Q=>∃ i j,xs=[.int i,.int j]∧Q (.int (if j < i then j else i)) H):=by
  intro pins s σ H xs us Q I r h
  obtain⟨i,j,rfl,q⟩:=h
  obtain⟨u,w',rfl,⟨t,rfl⟩,⟨t',rfl⟩⟩:=zg0 r
  refine min_two_ints (I.ok.hd hc) fun h' tk k=>⟨_,H,I.kept k,?_,q⟩
  by_cases hj:j < i
  · rw[if_pos hj,if_pos hj];exact⟨_,rfl⟩
  · rw[if_neg hj,if_neg hj];exact⟨_,rfl⟩
end
end L2
namespace L2
open PySem PySem.Spec PyProof.Rows
structure zfK (h:Heap) (x dx C:Addr) (mA:Str→Option Value):Prop where
  obj:h.get? x=some (PySem.W.instObj C dx)
  ns:h.Ns1 dx mA
  ne:dx≠x
theorem zjU {h:Heap} {dx:Addr} {mA:Str→Option Value} (n:h.Ns1 dx mA):∃ od,h.get? dx=some od∧∀ name,PySem.W.lookIn name od=some (mA name):=by
  obtain⟨o,es,ep,ho,hd,hk,_,hm⟩:=n
  refine⟨o,ho,fun name=>?_⟩
  have e:=hm name
  unfold nsFind findBy at e
  rw[←Array.find?_toList]at e
  unfold PySem.W.lookIn
  rw[hd]
  dsimp only
  split
  · rename_i y q
    rw[q]at e
    exact congrArg some e
  · rename_i q
    rw[q]at e
    have a:es.toList.any (·.refKey)=false:=by
      rw[List.any_eq_false]
      intro y hy
      obtain⟨z,t,hkey⟩:=hk y (Array.mem_toList_iff.mp hy)
      simp [DictEntry.refKey,hkey]
    have a':¬es.toList.any (·.refKey)=true:=by rw[a];exact Bool.false_ne_true
    rw[if_neg a']
    exact congrArg some e
theorem zfK.look {h:Heap} {x dx C:Addr} {mA:Str→Option Value} (I:zfK h x dx C mA):∃ od,PySem.W.InstAt h x (PySem.W.instObj C dx) C (some od)∧∀ name,PySem.W.lookIn name od=some (mA name) :=
  let ⟨od,ho,hl⟩:=zjU I.ns
  ⟨od,⟨I.obj,rfl,rfl,ho⟩,hl⟩
section
variable {prog:Program} {w:World} {A:Around} {E:Value→Shared→Prop} {s:Shared} {K:PySem.W.Frag} {x dx C f:Addr} {mA:Str→Option Value} {name:Str} {v:Value}
theorem zls {expr:Bool} {Q:Value→Shared→Prop} (X:K.In s.heap) (I:zfK s.heap x dx C mA) (hg:PySem.W.plainGet K C name=true) (hh:PySem.W.hasDictIn K C=true)
    (ha:PySem.W.findIn K (.ref C) name=some none) (hv:mA name=some v) (hv':PySem.W.handedIn v=true) (h:Q v { s with toks:=s.toks+1 }) :
    wpAny (model prog w) A (getAttr (.ref x) name expr) Q E s:=by
  obtain⟨od,J,hl⟩:=I.look
  exact PySem.W.get_value X J (PySem.W.plainGet_of hg).1 (PySem.W.findObj_own hh ha rfl (by rw[hl,hv])) hv' h
theorem zkD {pl:Sem Bool} {Q:Value × List Value→Shared→Prop} (X:K.In s.heap) (I:zfK s.heap x dx C mA) (hg:PySem.W.plainGet K C name=true)
    (hf:PySem.W.findIn K (.ref C) name=some (some (.ref f))) (ht:PySem.W.isFn K (.ref f)=true) (hv:mA name=none) (h:Q (.ref f,[.ref x]) s) :
    wpAny (model prog w) A (getMethod (.ref x) name pl) Q E s:=by
  obtain⟨od,J,hl⟩:=I.look
  exact PySem.W.method_fn X J (PySem.W.plainGet_of hg).1 (PySem.W.plainGet_of hg).2 hf (beq_iff_eq.mp ht) (by show(PySem.W.lookIn name od).map (·.isSome)=some false;rw[hl,hv];rfl) h
theorem zk0 {ns:List Str} {Q:Unit→Shared→Prop} (X:K.In s.heap) (I:zfK s.heap x dx C mA)
    (hs:PySem.W.findIn K (.ref C) "__setattr__"=some (some (.builtin "object.__setattr__"))) (hp:PySem.W.plainOver K C=true) (ht:PySem.W.takerIn K C name=some none) (hh:PySem.W.hasDictIn K C=true)
    (hw:PySem.Within mA ns) (hsz:ns.length≤sizeLine)
    (h:∀ h',zfK h' x dx C (fun y=>if y=name then some v else mA y)→Heap.SameBut dx s.heap h'→Q () { s with heap:=h',toks:=s.toks+2 }) :
    wpAny (model prog w) A (setAttr (.ref x) name v) Q E s:=by
  obtain⟨od,J,hl⟩:=I.look
  refine PySem.W.set_plain X J hs (PySem.W.osa_open (s:={ s with toks:=s.toks+1 }) (r:=none) X J hp ht fun b=>?_)
  obtain⟨cd,hc,hd'⟩:=PySem.W.any_some hh
  have hx:s.heap.get? x=some ⟨.ref C,some dx,.plain,#[]⟩:=I.obj
  refine wpAny_bind (wpAny_pure (wpAny_bind (wpAny_bind (wpAny_loadPart hx (wpAny_bind (PySem.W.Looks.here (s:={ s with toks:=s.toks+1 }) (PySem.W.looks_clsIn X hc) ?_))))))
  rw[hd']
  refine wpAny_pure (a:=some dx) (wpAny_bind (wpAny_pure (wpAny_bind ?_)))
  refine wpAny_nsSet1 (s:={ s with toks:=s.toks+1 }) I.ns fun h' hn2 hs2=>?_
  obtain⟨oD,esD,epD,hoD,hdD,hcD⟩:=hn2.count (PySem.Within.cons name v hw)
  refine wpAny_bind (wpAny_lookBehind hoD (by rw[hdD];exact pastItsLine_dict (Nat.le_trans hcD (by rw[List.length_cons];omega))) ?_)
  exact wpAny_pure (h _ ⟨(hs2.2 _ (Ne.symm I.ne)).trans I.obj,hn2,I.ne⟩ hs2)
theorem zkx {R:Result→Shared→Prop} {vs:List Value} {kw:List (Str × Value)} (X:K.In s.heap) (hm:PySem.W.makesIn K C=true)
    (hi:PySem.W.findIn K (.ref C) "__init__"=some (some (.ref f))) (hf:PySem.W.typeIn K (.ref f)=some (.type "function"))
    (h:codeAny (model prog w) (A.under (.builtin "type.__call__" ⟨.ref C :: vs,kw⟩)) (.call (.ref f) ⟨.ref (s.heap.objs.size+1) :: vs,kw⟩) (PySem.W.InitBack (s.heap.objs.size+1) R)
      { s with heap:=(s.heap.push PySem.W.emptyDict).push (PySem.W.instObj C s.heap.objs.size) }) :
    codeAny (model prog w) A (.call (.ref C) ⟨vs,kw⟩) R s:=by
  obtain⟨hh,g,d,t,os⟩:=s
  exact PySem.W.make_core (PySem.W.makes_of X hm) (PySem.W.looks_findIn X hi) (fun self=>PySem.W.bind_fn X self hf) (.inl rfl) h
end
def zbn (f:Str) (v:V):List (Str × V)→List (Str × V)
  | []=>[(f,v)]
  | (g,x) :: r=>if g=f then(g,v) :: r else(g,x) :: zbn f v r
theorem zaV (f g:Str) (v:V):∀ fs:List (Str × V),(zbn f v fs).lookup g=if g=f then some v else fs.lookup g
  | []=>by
    show List.lookup g [(f,v)]=_
    by_cases h:g=f
    · have hb:(g == f)=true:=beq_iff_eq.mpr h
      simp only[List.lookup,hb,if_pos h]
    · have hb:(g == f)=false:=beq_eq_false_iff_ne.mpr h
      simp only[List.lookup,hb,if_neg h]
  | (k,x) :: r=>by
    have ih:=zaV f g v r
    rw[show zbn f v ((k,x) :: r)=(if k=f then(k,v) :: r else(k,x) :: zbn f v r) from rfl]
    by_cases hk:k=f
    · rw[if_pos hk]
      by_cases h:g=k
      · have hb:(g == k)=true:=beq_iff_eq.mpr h
        simp only[List.lookup,hb,if_pos (h.trans hk)]
      · have hb:(g == k)=false:=beq_eq_false_iff_ne.mpr h
        simp only[List.lookup,hb,if_neg (fun e:g=f=>h (e.trans hk.symm))]
    · rw[if_neg hk]
      by_cases h:g=k
      · have hb:(g == k)=true:=beq_iff_eq.mpr h
        simp only[List.lookup,hb,if_neg (fun e:g=f=>hk (h.symm.trans e))]
      · have hb:(g == k)=false:=beq_eq_false_iff_ne.mpr h
        simp only[List.lookup,hb]
        exact ih
theorem ze8 (f:Str) (v:V):∀ fs:List (Str × V),f∈(zbn f v fs).map (·.1)∧∀ g,g∈fs.map (·.1)→g∈(zbn f v fs).map (·.1)
  | []=>⟨by simp [zbn],fun g h=>by simp at h⟩
  | (k,x) :: r=>by
    obtain⟨i1,i2⟩:=ze8 f v r
    rw[show zbn f v ((k,x) :: r)=(if k=f then(k,v) :: r else(k,x) :: zbn f v r) from rfl]
    by_cases hk:k=f
    · rw[if_pos hk]
      subst hk
      exact⟨by simp,fun g h=>by simpa using h⟩
    · rw[if_neg hk]
      refine⟨?_,fun g h=>?_⟩
      · rw[List.map_cons]
        exact List.mem_cons_of_mem _ i1
      · rw[List.map_cons]at h ⊢
        rcases List.mem_cons.mp h with e | e
        · exact List.mem_cons.mpr (.inl e)
        · exact List.mem_cons_of_mem _ (i2 g e)
theorem zfC (f:Str) (v:V):∀ fs:List (Str × V),(zbn f v fs).length≤fs.length+1
  | []=>by simp [zbn]
  | (k,x) :: r=>by
    have ih:=zfC f v r
    rw[show zbn f v ((k,x) :: r)=(if k=f then(k,v) :: r else(k,x) :: zbn f v r) from rfl]
    by_cases hk:k=f
    · rw[if_pos hk,List.length_cons,List.length_cons];omega
    · rw[if_neg hk,List.length_cons,List.length_cons];omega
theorem zbP.some_of {v:V} {o:Option Value} (r:zbP (some v) o):∃ u,o=some u∧aL v u:=by
  cases o with
  | none=>exact(show False from r).elim
  | some u=>exact⟨u,rfl,r⟩
theorem zbP.none_of {o:Option Value} (r:zbP none o):o=none:=by
  cases o with
  | none=>rfl
  | some u=>exact(show False from r).elim
theorem zj0 {v:V} {u:Value} (r:aL v u):PySem.W.handedIn u=true:=by
  cases v with
  | non=>cases (show u=Value.none from r);rfl
  | bl b=>cases (show u=Value.bool b from r);rfl
  | int i=>obtain⟨t,e⟩:=(show ∃ t,u=Value.int i t from r);cases e;rfl
  | str x=>obtain⟨t,e⟩:=(show ∃ t,u=Value.str x t from r);cases e;rfl
  | byt b=>obtain⟨t,e⟩:=(show ∃ t,u=Value.bytes b t from r);cases e;rfl
  | flt b=>obtain⟨t,e⟩:=(show ∃ t,u=Value.float b t from r);cases e;rfl
  | ref a=>cases (show u=Value.ref a from r);rfl
  | ty n=>cases (show u=Value.type n from r);rfl
section
variable {P:Program} {w:World} {H H':Hp} {h h':Heap} {a C dx:Addr} {fs fs':List (Str × V)}
theorem zfs (hok:HOk P w H h) (e:H a=some (.ins C dx fs)):∃ mA,zfK h a dx C mA∧(∀ f,zbP (fs.lookup f) (mA f))∧PySem.Within mA (fs.map (·.1))∧fs.length≤1000∧H dx=some (.own a):=by
  obtain⟨d,z,ne,ob,mA,n,r,q⟩:=(show zaz P w H h a (.ins C dx fs) from hok a _ e)
  exact⟨mA,⟨ob,n,ne⟩,r,q,z,d⟩
end
structure Cls (K:PySem.W.Frag) (C:Addr):Prop where
  pg:PySem.W.plainGet K C Str.empty=true
  hd:PySem.W.hasDictIn K C=true
  po:PySem.W.plainOver K C=true
  sa:PySem.W.findIn K (.ref C) "__setattr__"=some (some (.builtin "object.__setattr__"))
theorem Cls.get {K:PySem.W.Frag} {C:Addr} (c:Cls K C) (f:Str):PySem.W.plainGet K C f=true:=c.pg
def zb2 (K:PySem.W.Frag) (C:Addr) (f:Str):Prop:=PySem.W.findIn K (.ref C) f=some none
theorem zb2.taker {K:PySem.W.Frag} {C:Addr} {f:Str} (n:zb2 K C f):PySem.W.takerIn K C f=some none:=by
  unfold PySem.W.takerIn
  rw[show PySem.W.findIn K (.ref C) f=some none from n]
  rfl
structure zbQ (K:PySem.W.Frag) (C:Addr) (m:Str) (f:Addr):Prop where
  at_:PySem.W.findIn K (.ref C) m=some (some (.ref f))
  fn:PySem.W.isFn K (.ref f)=true
  kp:PySem.W.keepIn K (.ref f)=true
section
variable {X:Cx} {pins:List (Addr × Obj)} {σ:St} {H:Hp} {s:Shared} {a C dx:Addr} {fs:List (Str × V)} {f:Str} {v:V} {A:Around} {E:Value→Shared→Prop}
theorem ziR {b:Bool} {Q:Value→Shared→Prop} (I:Inv X pins σ H s) (e:H a=some (.ins C dx fs)) (c:Cls X.K C) (n:zb2 X.K C f) (l:fs.lookup f=some v)
    (h:∀ u s',Inv X pins σ H s'→aL v u→Q u s'):wpAny (model X.prog X.w) A (getAttr (.ref a) f b) Q E s:=by
  obtain⟨mA,O,r,_,_,_⟩:=zfs I.hok e
  obtain⟨u,hu,ru⟩:=zbP.some_of (v:=v) (o:=mA f) (by rw[←l];exact r f)
  exact zls I.kIn O (c.get f) c.hd n hu (zj0 ru) (h u _ (I.tok _) ru)
theorem zgc {m:Str} {g:Addr} {pl:Sem Bool} {Q:Value × List Value→Shared→Prop} (I:Inv X pins σ H s) (e:H a=some (.ins C dx fs)) (c:Cls X.K C) (k:zbQ X.K C m g) (l:fs.lookup m=none)
    (h:Q (.ref g,[.ref a]) s):wpAny (model X.prog X.w) A (getMethod (.ref a) m pl) Q E s:=by
  obtain⟨mA,O,r,_,_,_⟩:=zfs I.hok e
  have hn:mA m=none:=zbP.none_of (by rw[←l];exact r m)
  exact zkD I.kIn O (c.get m) k.at_ k.fn hn h
theorem ziF {y:V} {u:Value} {Q:Unit→Shared→Prop} (I:Inv X pins σ H s) (e:H a=some (.ins C dx fs)) (c:Cls X.K C) (n:zb2 X.K C f) (hl:fs.length < 1000) (ry:aL y u)
    (h:∀ s',Inv X pins σ (upd H a (.ins C dx (zbn f y fs))) s'→Q () s'):wpAny (model X.prog X.w) A (setAttr (.ref a) f u) Q E s:=by
  obtain⟨mA,O,r,wi,_,ho⟩:=zfs I.hok e
  have hz:(fs.map (·.1)).length≤sizeLine:=by rw[List.length_map,sizeLine_eq];omega
  refine zk0 I.kIn O c.sa c.po n.taker c.hd wi hz fun h' O' sb=>h _ ?_
  have hd:∃ o,h'.get? dx=some o:=let ⟨o,_,_,e',_⟩:=O'.ns;⟨o,e'⟩
  refine I.write (x:=a) (e:=dx) (by rw[e];exact True.intro) (.inr ho) (fun b q hb z=>(sb.2 b hb).trans z) hd ?_
  refine⟨by rw[aj O.ne];exact ho,?_,O.ne,O'.obj,_,O'.ns,fun g=>?_,fun g hg=>?_⟩
  · have:=zfC f y fs;omega
  · show zbP ((zbn f y fs).lookup g) (if g=f then some u else mA g)
    rw[zaV]
    by_cases q:g=f
    · rw[if_pos q,if_pos q];exact ry
    · rw[if_neg q,if_neg q];exact r g
  · by_cases q:g=f
    · rw[q];exact(ze8 f y fs).1
    · refine(ze8 f y fs).2 g (wi g fun z=>hg ?_)
      show(if g=f then some u else mA g)=none
      rw[if_neg q];exact z
theorem Inv.made (I:Inv X pins σ H s):Inv X pins σ (upd (upd H s.heap.objs.size (.own (s.heap.objs.size+1))) (s.heap.objs.size+1) (.ins C s.heap.objs.size []))
    { s with heap:=(s.heap.push PySem.W.emptyDict).push (PySem.W.instObj C s.heap.objs.size) }:=by
  have e1:(s.heap.push PySem.W.emptyDict).get? s.heap.objs.size=some PySem.W.emptyDict:=Heap.get?_push_size s.heap rfl
  have e2:((s.heap.push PySem.W.emptyDict).push (PySem.W.instObj C s.heap.objs.size)).get? (s.heap.objs.size+1)=some (PySem.W.instObj C s.heap.objs.size):=by
    have:=Heap.get?_push_size (s.heap.push PySem.W.emptyDict) (o:=PySem.W.instObj C s.heap.objs.size) rfl
    rwa [Heap.size_push]at this
  have e3:(s.heap.push PySem.W.emptyDict).Ns s.heap.objs.size (fun _=>none):=⟨PySem.W.emptyDict,#[],_,e1,rfl,(fun e he=>absurd he (by simp)),fun _=>rfl⟩
  have I1:=I.laid (a:=s.heap.objs.size) (o:=.own (s.heap.objs.size+1)) (h':=s.heap.push PySem.W.emptyDict) (t':=s.toks) (fun b u q=>Heap.get?_push_of_some _ q) (Nat.le_refl _) ⟨_,e1⟩
  refine I1.laid (a:=s.heap.objs.size+1) (o:=.ins C s.heap.objs.size []) (t':=s.toks) (fun b u q=>Heap.get?_push_of_some _ q) (Nat.le_of_eq (Heap.size_push _ _)) ?_
  have ne:s.heap.objs.size≠s.heap.objs.size+1:=Nat.ne_of_lt (Nat.lt_succ_self _)
  refine⟨by rw[aj ne,ad],Nat.zero_le _,ne,e2,fun _=>none,(Heap.Ns1.of_empty e3).at fun o q=>Heap.get?_push_of_some _ q,fun _=>True.intro,fun y hy=>absurd rfl hy⟩
theorem zlx {prog:Program} {w:World} {env:Env} {e:Expr} {f:Str} {pos:Pos} {s:Shared} {Q:Value→Shared→Prop} (hb:attributeBase e f env (eval e env)=eval e env)
    (h:wpAny (model prog w) A (eval e env) (fun o s₁=>wpAny (model prog w) A (getAttr o f true) Q E s₁) E s):wpAny (model prog w) A (eval (.Attribute e f pos) env) Q E s :=
  Attribute_any_ h (by rw[arm_eval_Attribute,hb])
end
def tFld (K:PySem.W.Frag) (ta:TE) (f:Str):TE:=fun σ H Q=>ta σ H fun x H1=>∃ a C dx fs v,x=.ref a∧H1 a=some (.ins C dx fs)∧Cls K C∧zb2 K C f∧fs.lookup f=some v∧Q v H1
def sFld (K:PySem.W.Frag) (ta tv:TE) (f:Str):TS:=fun D σ H=>tv σ H fun y H1=>ta σ H1 fun x H2=>∃ a C dx fs,x=.ref a∧H2 a=some (.ins C dx fs)∧Cls K C∧zb2 K C f∧fs.length < 1000 ∧
  D.nx σ (upd H2 a (.ins C dx (zbn f y fs)))
section
variable {X:Cx} {o e value:Expr} {f:Str} {pos pos' tpos:Pos} {ta tv:TE}
theorem zaj (he:PE X e ta) (hb:attributeBase e f X.env (eval e X.env)=eval e X.env):PE X (.Attribute e f pos) (tFld X.K ta f):=by
  intro pins s σ H Q I h
  refine zlx hb (thn (he pins s σ H _ I h) fun u s1 ⟨x,H1,I1,rx,a,C,dx,fs,v,ex,ea,c,n,l,q⟩=>?_)
  subst ex
  obtain rfl:u=Value.ref a:=rx
  exact ziR I1 ea c n l fun u' s2 I2 ru=>⟨v,H1,I2,ru,q⟩
theorem zeU (ha:PE X o ta) (hv:PE X value tv) (hs:swapsWith value (some (.Attribute o f pos')) pos.line X.env=pure false):PS X (.Assign [.Attribute o f pos'] value pos) (sFld X.K ta tv f):=by
  intro pins s σ H D I h
  refine plainObj_wpAny_Assign_Attribute (thn (hv pins s σ H _ I h) fun u s1 ⟨y,H1,I1,ry,q⟩=>thn (ha pins s1 σ H1 _ I1 q) fun ov s2 ⟨x,H2,I2,rx,a,C,dx,fs,ex,ea,c,n,l,q2⟩=>?_) hs
  subst ex
  obtain rfl:ov=Value.ref a:=rx
  exact ziF I2 ea c n l ry fun s3 I3=>⟨σ,_,I3,q2⟩
theorem zlF {pl:Sem Bool} {m:Str} {apos:Pos} {args:List Expr} {pins:List (Addr × Obj)} {s:Shared} {σ:St} {H:Hp} {Q:Value→Shared→Prop} {te:TE} (he:PE X e te) (I:Inv X pins σ H s)
    (h:te σ H fun x H1=>∃ a C dx fs g,x=.ref a∧H1 a=some (.ins C dx fs)∧Cls X.K C∧zbQ X.K C m g∧fs.lookup m=none ∧
      ∀ s1,Inv X pins σ H1 s1→wpAny (model X.prog X.w) X.A (callWith pos (.ref g) [.ref a] (backTo pos (starEach args X.env)) (backToKw pos (keywordEach [] X.env))) Q X.xe s1)
    (ht:eval (.Call (.Attribute e m apos) args [] pos) X.env=(do
      let ov ←eval e X.env
      standAt apos.atName
      let (f,first) ←holding [ov] (getMethod ov m pl)
      callWith pos f first (backTo pos (starEach args X.env)) (backToKw pos (keywordEach [] X.env)))) :
    wpAny (model X.prog X.w) X.A (eval (.Call (.Attribute e m apos) args [] pos) X.env) Q X.xe s:=by
  refine PySem.W.methodCall_KW (pl:=pl) (thn (he pins s σ H _ I h) fun u s1 ⟨x,H1,I1,rx,a,C,dx,fs,g,ex,ea,c,k,l,q⟩=>?_) ht
  subst ex
  obtain rfl:u=Value.ref a:=rx
  exact zgc I1 ea c k l (q s1 I1)
end
section
variable {X:Cx} {pins:List (Addr × Obj)} {σ:St} {H:Hp} {s:Shared} {A:Around} {E:Value→Shared→Prop} {Q:Value→Shared→Prop} {c:Value} {b:Bool}
inductive zcD (K:PySem.W.Frag) (H:Hp):V→Value→Prop where
  | non:zcD K H .non (.type "NoneType")
  | bl (x:Bool):zcD K H (.bl x) (.type "bool")
  | int (i:Int):zcD K H (.int i) (.type "int")
  | str (x:Str):zcD K H (.str x) (.type "str")
  | flt (x:UInt64):zcD K H (.flt x) (.type "float")
  | lst {a:Addr} {xs:List V} (e:H a=some (.lst xs)):zcD K H (.ref a) (.type "list")
  | frz {a:Addr} {o:Obj} {xs:List V} (e:H a=some (.frz o (.lst xs))):zcD K H (.ref a) (.type "list")
  | tup {a:Addr} {xs:List V} (e:H a=some (.tup xs)):zcD K H (.ref a) (.type "tuple")
  | dK {a:Addr} {kvs:List (Key × V)} (e:H a=some (.dK kvs)):zcD K H (.ref a) (.type "dict")
  | dT {a:Addr} {kvs:List (List Key × V)} (e:H a=some (.dT kvs)):zcD K H (.ref a) (.type "dict")
  | ins {a C dx:Addr} {fs:List (Str × V)} (e:H a=some (.ins C dx fs)) (cl:Cls K C) (ha:PySem.W.findIn K (.ref C) "__class__"=some (some (.builtin "object.__class__")))
      (hn:PySem.W.specialIn K (.builtin "object.__class__") "__get__"=some (some (.builtin "getset_descriptor.__get__"))) (htk:PySem.W.takesIn K (.builtin "object.__class__")=some true)
      (hm:PySem.W.mroIn K C (.type "object")=some true):zcD K H (.ref a) (.ref C)
theorem zjX {x:V} {u t:Value} (I:Inv X pins σ H s) (rx:aL x u) (ty:zcD X.K H x t) (e:PySem.W.kitOne X.K t c=some b) (h:∀ tk,Q (.bool b) { s with toks:=tk }) :
    wpAny (model X.prog X.w) A (call (.builtin "isinstance") [u,c]) Q E s:=by
  cases ty with
  | non=>cases (show u=Value.none from rx);exact PySem.W.kia_one PySem.W.kitx_none I.kIn True.intro e (fun z=>nomatch z) h
  | bl y=>cases (show u=Value.bool y from rx);exact PySem.W.kia_one PySem.W.kitx_bool I.kIn True.intro e (fun z=>nomatch z) h
  | int i=>obtain⟨t,q⟩:=(show ∃ t,u=Value.int i t from rx);cases q;exact PySem.W.kia_one PySem.W.kitx_int I.kIn True.intro e (fun z=>nomatch z) h
  | str y=>obtain⟨t,q⟩:=(show ∃ t,u=Value.str y t from rx);cases q;exact PySem.W.kia_one PySem.W.kitx_str I.kIn True.intro e (fun z=>nomatch z) h
  | flt y=>obtain⟨t,q⟩:=(show ∃ t,u=Value.float y t from rx);cases q;exact PySem.W.kia_one PySem.W.kitx_float I.kIn True.intro e (fun z=>nomatch z) h
  | @lst a xs ea =>
    cases (show u=Value.ref a from rx)
    obtain⟨_,_,n,_,h1⟩:=(show zaz X.prog X.w H s.heap a (.lst xs) from I.hok a _ ea)
    exact PySem.W.kia_one PySem.W.kitx_list I.kIn ⟨_,h1,rfl⟩ e (fun z=>nomatch z) h
  | @frz a ob xs ea =>
    cases (show u=Value.ref a from rx)
    obtain⟨_,_,_,n,_,h1⟩:=(show zaz X.prog X.w H s.heap a (.frz ob (.lst xs)) from I.hok a _ ea)
    exact PySem.W.kia_one PySem.W.kitx_list I.kIn ⟨_,h1,rfl⟩ e (fun z=>nomatch z) h
  | @tup a xs ea =>
    cases (show u=Value.ref a from rx)
    obtain⟨_,_,_,p⟩:=(show zaz X.prog X.w H s.heap a (.tup xs) from I.hok a _ ea)
    obtain⟨o,h1,h2,_⟩:=p
    exact PySem.W.kia_one PySem.W.kitx_tuple I.kIn ⟨o,h1,h2⟩ e (fun z=>nomatch z) h
  | @dK a kvs ea =>
    cases (show u=Value.ref a from rx)
    obtain⟨_,_,vs,_,p⟩:=(show zaz X.prog X.w H s.heap a (.dK kvs) from I.hok a _ ea)
    obtain⟨o,es,ep,h1,h2,_⟩:=p
    exact PySem.W.kia_one PySem.W.kitx_dict I.kIn ⟨o,h1,h2.1⟩ e (fun z=>nomatch z) h
  | @dT a kvs ea =>
    cases (show u=Value.ref a from rx)
    obtain⟨_,_,xs,_,o,es,ep,h1,h2,_⟩:=(show zaz X.prog X.w H s.heap a (.dT kvs) from I.hok a _ ea)
    exact PySem.W.kia_one PySem.W.kitx_dict I.kIn ⟨o,h1,h2.1⟩ e (fun z=>nomatch z) h
  | @ins a C dx fs ea cl ha hn htk hm =>
    cases (show u=Value.ref a from rx)
    obtain⟨mA,O,_⟩:=zfs I.hok ea
    obtain⟨od,J,_⟩:=O.look
    exact PySem.W.kia_one (PySem.W.kitx_own (cl.get _) cl.hd ha hn htk hm) I.kIn J e (fun z=>nomatch z) h
end
end L2
namespace L2
open PySem PySem.Spec PyProof.Rows
structure aO (k:Nat) (A:Around):Prop where
  hd:A.handled=none
  dp:A.depth+3 * k+5 < recursionLimit
  un:A.units+16 * k+200 < cLine
  gd:A.guards=some []
theorem aO.mono {j k:Nat} {A:Around} (r:aO k A) (h:j≤k):aO j A:=⟨r.hd,by have:=r.dp;omega,by have:=r.un;omega,r.gd⟩
theorem aO.deeper {k:Nat} {A:Around} (r:aO (k+1) A) (env:Env):aO k (A.deeper env) :=
  ⟨r.hd,by have:=r.dp;show A.depth+1+3 * k+5 < _;omega,by have:=r.un;show A.units+3+16 * k+200 < _;omega,r.gd⟩
theorem aO.in1 {k:Nat} {A:Around} (r:aO (k+1) A):aO k A.in1 :=
  ⟨r.hd,by have:=r.dp;show A.depth+3 * k+5 < _;omega,by have:=r.un;show A.units+1+16 * k+200 < _;omega,r.gd⟩
theorem ziP {A:Around} {C:Addr} {us:List Value} {kw:List (Str × Value)}:(A.under (.builtin "type.__call__" ⟨.ref C :: us,kw⟩)).depth=A.depth+1:=by
  first | rfl | simp [Around.under,Code.weight,Code.isCreation,Code.isGuard,Code.isCaller,Code.frames,Code.isFrame,guardIds]
theorem ziO {A:Around} {C:Addr} {us:List Value} {kw:List (Str × Value)}:(A.under (.builtin "type.__call__" ⟨.ref C :: us,kw⟩)).units=A.units+1:=by
  first | rfl | simp [Around.under,Code.cUnits,Code.frames,Code.isFrame]
theorem zhU {A:Around} {C:Addr} {us:List Value} {kw:List (Str × Value)} (h:A.guards=some []):(A.under (.builtin "type.__call__" ⟨.ref C :: us,kw⟩)).guards=some []:=by
  first | exact h | simp [Around.under,Code.guards,Code.isGuard,guardIds,pushGuards,h]
theorem aO.make {k:Nat} {A:Around} (r:aO (k+1) A) (C:Addr) (us:List Value) (kw:List (Str × Value)):aO k (A.under (.builtin "type.__call__" ⟨.ref C :: us,kw⟩)) :=
  ⟨r.hd,by have:=r.dp;rw[ziP];omega,by have:=r.un;rw[ziO];omega,zhU r.gd⟩
theorem aO.depth {k:Nat} {A:Around} (r:aO k A):A.depth < recursionLimit:=by have:=r.dp;omega
theorem aO.units {k:Nat} {A:Around} (r:aO k A):A.units+64 < cLine:=by have:=r.un;omega
def tNil:TA:=fun _ H Q=>Q [] H
def tCons (ta:TE) (tr:TA):TA:=fun σ H Q=>ta σ H fun x H1=>tr σ H1 fun xs H2=>Q (x :: xs) H2
section
variable {X:Cx} {e:Expr} {es:List Expr} {te:TE} {t:TA} {pos:Pos}
theorem ac:PA X [] tNil:=fun _ _ _ _ H Q I h=>Calls.spliced_nil ⟨[],H,I,.nil,h⟩
theorem aa (ha:PE X e te) (hr:PA X es t) (hs:starEach (e :: es) X.env=(false,eval e X.env) :: starEach es X.env:=by rfl):PA X (e :: es) (tCons te t):=by
  intro pos pins s σ H Q I h
  rw[hs]
  show wpAny _ _ (spliced ((false,eval e X.env) :: backTo pos (starEach es X.env))) _ _ s
  refine Calls.spliced_cons (thn (ha pins s σ H _ I h) fun u s1 ⟨x,H1,I1,r1,q1⟩=>?_)
  exact thn (hr pos pins s1 σ H1 _ I1 q1) fun us s2 ⟨xs,H2,I2,r2,q2⟩=>⟨x :: xs,H2,I2,.cons r1 r2,q2⟩
def tTup (t:TA):TE:=fun σ H Q=>t σ H fun xs H1=>xs.length≤sizeLine∧∀ p,H1 p=none→Q (.ref p) (upd H1 p (.tup xs))
def tLst (t:TA):TE:=fun σ H Q=>t σ H fun xs H1=>xs.length≤sizeLine∧∀ p,H1 p=none→Q (.ref p) (upd H1 p (.lst xs))
theorem zaR {x1} (h:PA X es t):PE X (.Tuple es x1 pos) (tTup t):=by
  intro pins s σ H Q I hq
  refine wpAny_Tuple_spliced (thn (h pos pins s σ H _ I hq) fun us s1 ⟨xs,H1,I1,r,z,q⟩=>⟨by rw[←r.length];exact z,?_⟩)
  have hf:H1 s1.heap.objs.size=none:=I1.hok.fresh (Nat.le_refl _)
  refine⟨.ref s1.heap.objs.size,upd H1 s1.heap.objs.size (.tup xs),I1.laid (t':=s1.toks) (fun b u e=>Heap.get?_push_of_some _ e) (Nat.le_refl _) ?_,rfl,q _ hf⟩
  exact⟨z,us,r,⟨_,Heap.get?_push_size _ rfl,rfl,_,rfl⟩⟩
theorem zas (h:PA X es t):PE X (.List es pos) (tLst t):=by
  intro pins s σ H Q I hq
  refine wpAny_List_spliced (thn (h pos pins s σ H _ I hq) fun us s1 ⟨xs,H1,I1,r,z,q⟩=>⟨by rw[←r.length];exact z,?_⟩)
  have hf:H1 s1.heap.objs.size=none:=I1.hok.fresh (Nat.le_refl _)
  refine⟨.ref s1.heap.objs.size,upd H1 s1.heap.objs.size (.lst xs),I1.laid (t':=s1.toks) (fun b u e=>Heap.get?_push_of_some _ e) (Nat.le_refl _) ?_,rfl,q _ hf⟩
  exact⟨z,us,0,r,Heap.get?_push_size _ rfl⟩
end
abbrev Sp:=List V→Hp→VK→XK→Prop
abbrev CXT:=List Env→Hp→Shared→XK→Value→Shared→Prop
structure zd9 (P:Program) (w:World) (K:PySem.W.Frag) (mg:Str→Option Value) (base:Heap) (A:Around) (outer:List Env) (s:Shared) (H:Hp):Prop where
  frames:A.frames=some outer
  mod:Mod K mg base
  bs:∀ b o,base.get? b=some o→s.heap.get? b=some o∧H b=none
  bsz:base.objs.size≤s.heap.objs.size
  funs:s.heap.FunFrames base outer
  frf:∀ b∈frs outer,H b=none
  hok:HOk P w H s.heap
  bare:AllBare s.gens
def CE (outer:List Env) (P:Program) (w:World) (H:Hp) (s:Shared) (Q:VK) (u:Value) (s':Shared):Prop :=
  ∃ v H',s'.os=s.os∧AllBare s'.gens∧Un (frs outer) [] H H' s.heap s'.heap∧HOk P w H' s'.heap∧aL v u∧Q v H'
def CR (CX:CXT) (outer:List Env) (P:Program) (w:World) (H:Hp) (s:Shared) (Q:VK) (E:XK) (r:Result) (s':Shared):Prop :=
  match r with
  | .ok (.ret u)=>CE outer P w H s Q u s'
  | .ok _=>False
  | .error e=>CX outer H s E e s'
structure aH (P:Program) (w:World) (K:PySem.W.Frag) (mg:Str→Option Value) (base:Heap) (CX:CXT) (k:Nat) (f:Addr) (fd:FuncData) (ps:List Str) (sp:Sp):Prop where
  len:∀ vs H Q E,sp vs H Q E→vs.length=ps.length
  run:∀(A:Around) (outer:List Env) (s:Shared) (H:Hp) (args:Args) (us:List Value) (vs:List V) (Q:VK) (E:XK),aO k A→zd9 P w K mg base A outer s H→BindsTo s fd args (ps.zip us)→aI vs us→sp vs H Q E →
    codeAny (model P w) A (.call (.ref f) args) (CR CX outer P w H s Q E) s
theorem aH.mono {P:Program} {w:World} {K:PySem.W.Frag} {mg:Str→Option Value} {base:Heap} {CX:CXT} {j k:Nat} {f:Addr} {fd:FuncData} {ps:List Str} {sp:Sp} (F:aH P w K mg base CX j f fd ps sp) (h:j≤k) :
    aH P w K mg base CX k f fd ps sp:=⟨F.len,fun A outer s H args us vs Q E hr=>F.run A outer s H args us vs Q E (hr.mono h)⟩
theorem zd9.make {P:Program} {w:World} {K:PySem.W.Frag} {mg:Str→Option Value} {base:Heap} {A:Around} {outer:List Env} {s:Shared} {H:Hp} (e:zd9 P w K mg base A outer s H) (C:Addr) (us:List Value) (kw:List (Str × Value)) :
    zd9 P w K mg base (A.under (.builtin "type.__call__" ⟨.ref C :: us,kw⟩)) outer s H:=⟨by first | exact e.frames | (simpa [Around.under,Code.envs,Code.isFrame,pushEnvs] using e.frames),e.mod,e.bs,e.bsz,e.funs,e.frf,e.hok,e.bare⟩
theorem zd9.in1 {P:Program} {w:World} {K:PySem.W.Frag} {mg:Str→Option Value} {base:Heap} {A:Around} {outer:List Env} {s:Shared} {H:Hp} (e:zd9 P w K mg base A outer s H) :
    zd9 P w K mg base A.in1 outer s H:=⟨e.frames,e.mod,e.bs,e.bsz,e.funs,e.frf,e.hok,e.bare⟩
section
variable {X:Cx} {pins:List (Addr × Obj)} {σ:St} {H:Hp} {s s':Shared}
theorem Inv.env0 (I:Inv X pins σ H s):zd9 X.prog X.w X.K X.mg X.base X.A X.stack s H :=
  ⟨I.ok.frames,I.ok.mod,I.bs,Nat.le_trans I.ok.bsz I.sz,I.stack,I.stkFree,I.hok,I.bare⟩
theorem Inv.after {Q:VK} {u:Value} (I:Inv X pins σ H s) (h:CE X.stack X.prog X.w H s Q u s'):EP X pins σ Q u s':=by
  obtain⟨v,H',os,bare,un,hok,r,q⟩:=h
  obtain⟨hh,g,d,t,os'⟩:=s'
  obtain rfl:os'=s.os:=os
  exact⟨v,H',I.call (h':=hh) (g':=g) (d':=d) (t':=t) (ch:=[]) un hok bare (fun b z=>absurd z (by simp)),r,q⟩
end
def tCall (sp:Sp) (dvs:List V) (E:XK) (t:TA):TE:=fun σ H Q=>t σ H fun vs H1=>sp (vs++dvs) H1 Q E
def tMeth (C:Addr) (m:Str) (sp:Sp) (dvs:List V) (E:XK) (ta:TE) (t:TA):TE:=fun σ H Q=>ta σ H fun x H1=>∃ a dx fs,x=.ref a∧H1 a=some (.ins C dx fs)∧fs.lookup m=none ∧
  t σ H1 fun vs H2=>sp (x :: (vs++dvs)) H2 Q E
def tMake (C:Addr) (sp:Sp) (dvs:List V) (E:XK) (t:TA):TE:=fun σ H Q=>t σ H fun vs H1=>∀ x dx,H1 x=none→H1 dx=none→dx≠x →
  sp (.ref x :: (vs++dvs)) (upd (upd H1 dx (.own x)) x (.ins C dx [])) (fun v H2=>v=.non∧Q (.ref x) H2) E
def aD (K:PySem.W.Frag) (fd:FuncData) (ps:List Str) (ds:List Value):Prop :=
  ∀(s:Shared) (us:List Value),K.In s.heap→(us++ds).length=ps.length→BindsTo s fd ⟨us,[]⟩ (ps.zip (us++ds))
theorem aD.all {K:PySem.W.Frag} {fd:FuncData} {ps:List Str} (h:∀ us:List Value,us.length=ps.length→bindArgs fd ⟨us,[]⟩=pure (ps.zip us)):aD K fd ps []:=fun s us _ hl=>by
  rw[List.append_nil]at hl ⊢
  exact .of_eq (h us hl)
def zde (CX:CXT) (X:Cx) (E:XK):Prop:=∀(pins:List (Addr × Obj)) (σ:St) (H:Hp) (s:Shared) (e:Value) (s':Shared),Inv X pins σ H s→CX X.stack H s E e s'→X.xe e s'
section
variable {X:Cx} {CX:CXT} {k:Nat} {f C:Addr} {fd:FuncData} {ps:List Str} {sp:Sp} {dvs:List V} {ds:List Value} {E:XK} {x m:Str} {p pos apos:Pos} {e o:Expr} {es:List Expr} {ta:TE} {t:TA}
theorem zi4 {pins:List (Addr × Obj)} {σ:St} {H:Hp} {s:Shared} {Q:VK} {us:List Value} {vs:List V} (F:aH X.prog X.w X.K X.mg X.base CX k f fd ps sp) (hr:aO k X.A) (hb:aD X.K fd ps ds) (hd:aI dvs ds) (hx:zde CX X E)
    (I:Inv X pins σ H s) (r:aI vs us) (h:sp (vs++dvs) H Q E):wpAny (model X.prog X.w) X.A (call (.ref f) us) (EP X pins σ Q) X.xe s:=by
  have r2:aI (vs++dvs) (us++ds):=r.append hd
  have hl:(us++ds).length=ps.length:=by rw[←r2.length];exact F.len _ _ _ _ h
  refine wpAny_call (codeAny_mono (F.run X.A X.stack s H ⟨us,[]⟩ (us++ds) (vs++dvs) Q E hr I.env0 (hb s us I.kIn hl) r2 h) fun r s' hq=>?_)
  cases r with
  | error e=>exact hx pins σ H s e s' I hq
  | ok fl =>
    cases fl with
    | ret u=>exact I.after hq
    | next=>exact False.elim hq
    | brk=>exact False.elim hq
    | cont=>exact False.elim hq
theorem ax (F:aH X.prog X.w X.K X.mg X.base CX k f fd ps sp) (hr:aO k X.A) (hg:Gl X x) (hm:X.mg x=some (.ref f)) (hk:PySem.W.keepIn X.K (.ref f)=true) (hb:aD X.K fd ps ds) (hd:aI dvs ds) (hx:zde CX X E)
    (ha:PA X (e :: es) t) (hdb:(x == ("__debug__":Str))=false:=by decide) (he:starEach (e :: es) X.env=(false,eval e X.env) :: starEach es X.env:=by rfl) (hpl:(backTo pos (starEach es X.env)).any (·.1)=false:=by rfl) :
    PE X (.Call (.Name x p) (e :: es) [] pos) (tCall sp dvs E t):=by
  intro pins s σ H Q I h
  refine wpAny_Call_Name_kw (zfr I hg hm ?_ hdb)
  refine PySem.W.callWith_K (h₀:=X.base) I.ok.mod.kin hk (thn (ha pos pins s σ H _ I h) fun us s1 ⟨vs,H1,I1,r,q⟩=>⟨I1.kIn,?_⟩) he hpl
  exact zi4 F hr hb hd hx I1 r q
theorem zay {pl:Sem Bool} (he:PE X o ta) (c:Cls X.K C) (hm:zbQ X.K C m f) (F:aH X.prog X.w X.K X.mg X.base CX k f fd ps sp) (hr:aO k X.A) (hb:aD X.K fd ps ds) (hd:aI dvs ds) (hx:zde CX X E) (ha:PA X (e :: es) t)
    (hst:starEach (e :: es) X.env=(false,eval e X.env) :: starEach es X.env:=by rfl) (hpl:(backTo pos (starEach es X.env)).any (·.1)=false:=by rfl)
    (ht:eval (.Call (.Attribute o m apos) (e :: es) [] pos) X.env=(do
      let ov ←eval o X.env
      standAt apos.atName
      let (f,first) ←holding [ov] (getMethod ov m pl)
      callWith pos f first (backTo pos (starEach (e :: es) X.env)) (backToKw pos (keywordEach [] X.env))):=by rfl) :
    PE X (.Call (.Attribute o m apos) (e :: es) [] pos) (tMeth C m sp dvs E ta t):=by
  intro pins s σ H Q I h
  refine PySem.W.methodCall_KW (pl:=pl) (thn (he pins s σ H _ I h) fun u s1 ⟨x,H1,I1,rx,a,dx,fs,ex,ea,l,q⟩=>?_) ht
  subst ex
  obtain rfl:u=Value.ref a:=rx
  refine zgc I1 ea c hm l ?_
  refine PySem.W.callWith_K (first:=[.ref a]) (h₀:=X.base) I.ok.mod.kin hm.kp (thn (ha pos pins s1 σ H1 _ I1 q) fun us s2 ⟨vs,H2,I2,r,q2⟩=>⟨I2.kIn,?_⟩) hst hpl
  exact zi4 (us:=.ref a :: us) (vs:=.ref a :: vs) F hr hb hd hx I2 (.cons rfl r) q2
structure Mk (K:PySem.W.Frag) (C f:Addr):Prop where
  makes:PySem.W.makesIn K C=true
  init:PySem.W.findIn K (.ref C) "__init__"=some (some (.ref f))
  fn:PySem.W.isFn K (.ref f)=true
  kp:PySem.W.keepIn K (.ref C)=true
theorem zkh {pins:List (Addr × Obj)} {σ:St} {H:Hp} {s:Shared} {Q:VK} {us:List Value} {vs:List V} (M:Mk X.K C f) (F:aH X.prog X.w X.K X.mg X.base CX k f fd ps sp) (hr:aO (k+1) X.A) (hb:aD X.K fd ps ds) (hd:aI dvs ds)
    (hx:zde CX X E) (I:Inv X pins σ H s) (r:aI vs us)
    (h:∀ x dx,H x=none→H dx=none→dx≠x→sp (.ref x :: (vs++dvs)) (upd (upd H dx (.own x)) x (.ins C dx [])) (fun v H2=>v=.non∧Q (.ref x) H2) E) :
    wpAny (model X.prog X.w) X.A (call (.ref C) us) (EP X pins σ Q) X.xe s:=by
  have hq:=h (s.heap.objs.size+1) s.heap.objs.size (I.hok.fresh (Nat.le_succ _)) (I.hok.fresh (Nat.le_refl _)) (Nat.ne_of_lt (Nat.lt_succ_self _))
  have I2:=Inv.made (C:=C) I
  have r2:aI (V.ref (s.heap.objs.size+1) :: (vs++dvs)) (Value.ref (s.heap.objs.size+1) :: (us++ds)):=.cons rfl (r.append hd)
  have hl:(Value.ref (s.heap.objs.size+1) :: us++ds).length=ps.length:=by
    have e:=r2.length
    rw[F.len _ _ _ _ hq]at e
    exact e.symm
  refine wpAny_call (zkx (f:=f) I.kIn M.makes M.init (beq_iff_eq.mp M.fn) (codeAny_mono (F.run _ X.stack _ _ ⟨Value.ref (s.heap.objs.size+1) :: us,[]⟩ (Value.ref (s.heap.objs.size+1) :: (us++ds)) _ _ E (hr.make C us [])
    (I2.env0.make C us []) (hb _ (Value.ref (s.heap.objs.size+1) :: us) I2.kIn hl) r2 hq) fun r s' hq'=>?_))
  cases r with
  | error e=>exact hx pins σ _ _ e s' I2 hq'
  | ok fl =>
    cases fl with
    | ret u =>
      obtain⟨v,H',I3,rv,ev,q3⟩:=I2.after hq'
      subst ev
      exact⟨rv,⟨V.ref (s.heap.objs.size+1),H',I3,rfl,q3⟩⟩
    | next=>exact False.elim hq'
    | brk=>exact False.elim hq'
    | cont=>exact False.elim hq'
theorem zeI (M:Mk X.K C f) (F:aH X.prog X.w X.K X.mg X.base CX k f fd ps sp) (hr:aO (k+1) X.A) (hg:Gl X x) (hm:X.mg x=some (.ref C)) (hb:aD X.K fd ps ds) (hd:aI dvs ds) (hx:zde CX X E)
    (hdb:(x == ("__debug__":Str))=false:=by decide):PE X (.Call (.Name x p) [] [] pos) (tMake C sp dvs E tNil):=by
  intro pins s σ H Q I h
  refine wpAny_Call_Name_kw (zfr I hg hm ?_ hdb)
  exact PySem.W.callWith_K0 I.kIn M.kp (zkh (us:=[]) M F hr hb hd hx I .nil h)
end
section
variable {X:Cx} {CX:CXT} {k:Nat} {f C:Addr} {fd:FuncData} {ps ks:List Str} {sp:Sp} {E:XK} {x m:Str} {p pos apos kpos:Pos} {e o:Expr} {es:List Expr} {kws:List Keyword} {te ta:TE} {t tk:TA} {nm:Option Str}
variable {g:List Value→List Value→List Value} {gV:List V→List V→List V}
end
structure zae (N P:List Str) (sc:Scope):Prop where
  kind:sc.kind=.function
  co:sc.isCoroutine=false
  gen:sc.isGenerator=false
  nd:N.Nodup
  pre:N.take P.length=P
  par:∀ x∈P,sc.names.lookup x=some .local∨sc.names.lookup x=some .cell
  nofree:∀ y∈sc.names,y.2≠.free
theorem zgO {kindOf:Str→Option NameKind} {x:Str}:∀ {binds:List (Str × Value)} {m:Str→Option Value},(∀ v,(x,v)∉binds)→bindL kindOf binds m x=m x
  | [],_,_=>rfl
  | (n,v) :: r,m,h=>by
    unfold bindL
    rw[zgO fun w hw=>h w (List.mem_cons_of_mem _ hw)]
    split
    · have:x≠n:=by rintro rfl;exact h v List.mem_cons_self
      simp [this]
    · rfl
theorem zgQ {kindOf:Str→Option NameKind} {x:Str}:∀ {binds:List (Str × Value)} {m:Str→Option Value},(∀ v,(x,v)∉binds)→bindC kindOf binds m x=m x
  | [],_,_=>rfl
  | (n,v) :: r,m,h=>by
    unfold bindC
    rw[zgQ fun w hw=>h w (List.mem_cons_of_mem _ hw)]
    split
    · rfl
    · have:x≠n:=by rintro rfl;exact h v List.mem_cons_self
      simp [this]
theorem zgP {kindOf:Str→Option NameKind} {x:Str} {v:Value}:∀ {P:List Str} {vs:List Value} {i:Nat} {m:Str→Option Value},P.Nodup→P[i]?=some x→vs[i]?=some v→kindOf x=some .local →
    bindL kindOf (P.zip vs) m x=some v
  | [],_,_,_,_,h,_,_=>by simp at h
  | _ :: _,[],_,_,_,_,h,_=>by simp at h
  | p :: P,w :: vs,0,m,nd,h1,h2,hk=>by
    simp at h1 h2;subst h1;subst h2
    show bindL kindOf ((p,w) :: P.zip vs) m p=_
    unfold bindL
    rw[zgO fun v hv=>(List.nodup_cons.mp nd).1 (List.of_mem_zip hv).1,if_pos hk]
    simp
  | p :: P,w :: vs,i+1,m,nd,h1,h2,hk=>by
    show bindL kindOf ((p,w) :: P.zip vs) m x=_
    unfold bindL
    exact zgP (i:=i) (List.nodup_cons.mp nd).2 (by simpa using h1) (by simpa using h2) hk
theorem zgR {kindOf:Str→Option NameKind} {x:Str} {v:Value}:∀ {P:List Str} {vs:List Value} {i:Nat} {m:Str→Option Value},P.Nodup→P[i]?=some x→vs[i]?=some v→kindOf x≠some .local →
    bindC kindOf (P.zip vs) m x=some v
  | [],_,_,_,_,h,_,_=>by simp at h
  | _ :: _,[],_,_,_,_,h,_=>by simp at h
  | p :: P,w :: vs,0,m,nd,h1,h2,hk=>by
    simp at h1 h2;subst h1;subst h2
    show bindC kindOf ((p,w) :: P.zip vs) m p=_
    unfold bindC
    rw[zgQ fun v hv=>(List.nodup_cons.mp nd).1 (List.of_mem_zip hv).1,if_neg hk]
    simp
  | p :: P,w :: vs,i+1,m,nd,h1,h2,hk=>by
    show bindC kindOf ((p,w) :: P.zip vs) m x=_
    unfold bindC
    exact zgR (i:=i) (List.nodup_cons.mp nd).2 (by simpa using h1) (by simpa using h2) hk
def zc7 (N:List Str) (vs:List V):St:=vs.map some++List.replicate (N.length - vs.length) none
def zcK (CX:CXT) (P:Program) (w:World) (K:PySem.W.Frag) (mg:Str→Option Value) (base:Heap) (N:List Str) (qual:Str) (scope:Scope) (f:Addr) (cd:Value) (A:Around) (outer:List Env) (s:Shared) (H:Hp) (E:XK):Cx where
  prog:=P
  w:=w
  K:=K
  mg:=mg
  base:=base
  A:=A.deeper (envOfC qual scope s.heap.objs.size f cd)
  N:=N
  s₀:=s
  H₀:=H
  env:=envOfC qual scope s.heap.objs.size f cd
  outer:=outer
  stack:=envOfC qual scope s.heap.objs.size f cd :: outer
  ex:=[]
  calm:=true
  fn:=fun _=>true
  pn:=[]
  xe:=fun e s'=>wpAny (model P w) (A.deeper (envOfC qual scope s.heap.objs.size f cd)) (leaving (envOfC qual scope s.heap.objs.size f cd) e) (fun _ s''=>CX outer H s E e s'') (fun e' s''=>CX outer H s E e' s'') s'
theorem zhJ {sc:Scope} {n:Nat} {x:Str} (h:sc.names.lookup x=some .cell):∃ c,(cellsFrom n sc.names []).lookup x=some c:=by
  have q:=PySem.W.cellsFrom_some sc.names n [] (.inl h)
  exact Option.isSome_iff_exists.mp q
theorem zjY {CX:CXT} {P:Program} {w:World} {K:PySem.W.Frag} {mg:Str→Option Value} {base:Heap} {N ps:List Str} {qual:Str} {scope:Scope} {f:Addr} {cd:Value} {A:Around} {outer:List Env} {s s1:Shared} {H:Hp} {E:XK} {us:List Value} {vs:List V}
    (S:zae N ps scope) (hd:A.handled=none) (e0:zd9 P w K mg base A outer s H) (hl:vs.length=ps.length) (r:aI vs us)
    (x:InCallC s s.heap.objs.size (bindL (envOfC qual scope s.heap.objs.size f cd).kindOf (ps.zip us) fun _=>none) (cellsFrom (s.heap.objs.size+1) scope.names []) (bindC (envOfC qual scope s.heap.objs.size f cd).kindOf (ps.zip us) fun _=>none) s1) :
    Inv (zcK CX P w K mg base N qual scope f cd A outer s H E) [] (zc7 N vs) H s1:=by
  have hpl:ps.length≤N.length:=by have:=congrArg List.length S.pre;rw[List.length_take]at this;omega
  obtain⟨h1,tk,rfl,hk⟩:=x.done
  have noA:∀ b:Addr,b∉(zcK CX P w K mg base N qual scope f cd A outer s H E).ex:=fun b z=>absurd (show b∈([]:List Addr) from z) (by simp)
  refine⟨⟨e0.mod,S.kind,rfl,rfl,Nat.le_refl _,fun y z c h1 h2=>?_,fun y hy=>?_,fun y c _ h=>?_,fun _=>hd,Around.frames_deeper e0.frames,.inr ⟨rfl,rfl⟩,fun b z=>absurd z (noA b),e0.bs,e0.bsz,fun b _ _=>noA b,fun b z=>absurd z (noA b),e0.funs,e0.frf⟩,
    rfl,e0.bare,Un.kept hk,⟨_,x.toInCall.ns,fun i y v h1 h2 h3=>?_⟩,fun y c h=>⟨_,x.cell y c h⟩,e0.hok.fresh (Nat.le_refl _),fun y c h=>?_,fun p hp=>absurd (show p∈([]:List (Addr × Obj)) from hp) (by simp),e0.hok.kept hk,?_⟩
  · exact name_of_addr x.apart (PySem.mem_of_lookup h1) (PySem.mem_of_lookup h2)
  · have hy:scope.names.lookup y=some .cell∨scope.names.lookup y=some .free:=hy
    rcases hy with hy | hy
    · exact zhJ hy
    · exact absurd rfl (S.nofree _ (PySem.mem_of_lookup hy))
  · exact Nat.le_of_lt (x.above y c (PySem.mem_of_lookup h))
  · have hi:i < vs.length:=by
      unfold zc7 at h2
      by_cases hi:i < vs.length
      · exact hi
      · rw[List.getElem?_append_right (by simpa using hi)]at h2
        rw[List.getElem?_replicate]at h2
        split at h2 <;> cases h2
    have ha:vs[i]?=some v:=by
      unfold zc7 at h2
      rw[List.getElem?_append_left (by simpa using hi),List.getElem?_map]at h2
      cases e:vs[i]? with
      | none=>rw[e]at h2;cases h2
      | some a=>rw[e]at h2;cases h2;rfl
    obtain⟨u,hu,rv⟩:=r.get ha
    have hp:ps[i]?=some y:=by
      rw[←S.pre,List.getElem?_take_of_lt (by omega)];exact h1
    have ndP:ps.Nodup:=by rw[←S.pre];exact S.nd.sublist (List.take_sublist _ _)
    refine⟨u,rv,?_⟩
    rcases S.par y (List.mem_of_getElem? hp) with k | k
    · exact .inl ⟨k,zgP ndP hp hu k⟩
    · obtain⟨c,e⟩:=zhJ (n:=s.heap.objs.size+1) k
      refine .inr ⟨.inl k,c,e,?_⟩
      have q:=x.cell y c e
      rw[zgR ndP hp hu (by show scope.names.lookup y≠_;rw[k];decide)]at q
      exact q
  · exact e0.hok.fresh (Nat.le_of_lt (x.above y c (PySem.mem_of_lookup h)))
  · unfold zc7
    show _=N.length
    rw[List.length_append,List.length_map,List.length_replicate]
    omega
theorem ziz {CX:CXT} {P:Program} {w:World} {K:PySem.W.Frag} {mg:Str→Option Value} {base:Heap} {k:Nat} {f:Addr} {name qual:Str} {params:Arguments} {body:List Stmt} {scope:Scope} {dV kV doc pm cdv ct oc:Value} {an od:Option Addr}
    {osl:Array (Option Value)} {N ps:List Str} {sp:Sp} (lk:K.lookup f=some ⟨oc,od,.func (PySem.W.fnOf name qual params body scope dV kV doc pm an cdv ct),osl⟩) (hcd:PySem.W.codeIn K cdv qual=true) (S:zae N ps scope)
    (len:∀ vs H Q E,sp vs H Q E→vs.length=ps.length)
    (hbody:∀(A:Around) (outer:List Env) (s:Shared) (H:Hp) (vs:List V) (Q:VK) (E:XK),aO k (A.deeper (envOfC qual scope s.heap.objs.size f cdv))→sp vs H Q E →
      ∃ t,PSs (zcK CX P w K mg base N qual scope f cdv A outer s H E) body t∧t { nx:=fun _ H'=>Q .non H',rt:=Q } (zc7 N vs) H) :
    aH P w K mg base CX (k+1) f (PySem.W.fnOf name qual params body scope dV kV doc pm an cdv ct) ps sp:=by
  refine⟨len,fun A outer s H args us vs Q E hr e0 hb r hsp=>?_⟩
  have hl:=len _ _ _ _ hsp
  have KX:K.In s.heap:=e0.mod.kin.keeps fun b o e=>(e0.bs b o e).1
  have lim:s.heap.NoLimit:=e0.mod.nolimit.keeps fun b o e=>(e0.bs b o e).1
  have hkind:∀ y∈ps.zip us,scope.names.lookup y.1=some .local∨(scope.names.lookup y.1=some .cell∧((cellsFrom (s.heap.objs.size+1) scope.names []).lookup y.1).isSome=true):=fun⟨n,v⟩ hy=>by
    rcases S.par n (List.of_mem_zip hy).1 with q | q
    · exact .inl q
    · exact .inr ⟨q,PySem.W.cellsFrom_some _ _ _ (.inl q)⟩
  refine codeAny_call_function hr.depth (KX _ _ lk) rfl S.co S.gen rfl (PySem.W.codeRec_of KX hcd) (hb _ _ _ _ ?_)
  refine wpAny_newFunctionEnv_cells S.kind hkind fun env he s1 x=>?_
  subst he
  refine⟨lim.keeps x.toInCall.keep,codeAny_func ?_⟩
  obtain⟨t,ht,hq⟩:=hbody A outer s H vs Q E (hr.deeper _) hsp
  have I:Inv (zcK CX P w K mg base N qual scope f cdv A outer s H E) [] (zc7 N vs) H s1:=zjY S hr.hd e0 hl r x
  refine wpAny_mono (ht [] s1 (zc7 N vs) H _ I hq) (fun fl s' hs=>?_) fun e s' hs=>hs
  have fin:∀ {σ':St} {H':Hp} {v:V} {u:Value},Inv (zcK CX P w K mg base N qual scope f cdv A outer s H E) [] σ' H' s'→aL v u→Q v H'→CE outer P w H s Q u s' :=
    fun {σ' H' v u} J rv q=>⟨v,H',J.os,J.bare,J.base,J.hok,rv,q⟩
  cases fl with
  | ret u =>
    obtain⟨v,σ',H',J,rv,q⟩:=hs
    exact fin J rv q
  | next =>
    obtain⟨σ',H',J,q⟩:=hs
    exact fin (v:=V.non) (u:=Value.none) J rfl q
  | brk =>
    obtain⟨_,_,_,q⟩:=hs
    exact False.elim q
  | cont =>
    obtain⟨_,_,_,q⟩:=hs
    exact False.elim q
end L2
namespace L2
open PySem PySem.Spec PyProof.Rows
section
variable {X:Cx} {x:Str} {p pos:Pos} {e:Expr} {es:List Expr} {t:TA} {id T:String} {r:List V→Hp→VK→Prop}
def tCB (r:List V→Hp→VK→Prop) (t:TA):TE:=fun σ H Q=>t σ H fun vs H1=>r vs H1 Q
theorem zaa (hc:zbI X (.builtin id) r) (hg:Gl X x) (hm:X.mg x=none) (hv:bootBuiltins x=some (.builtin id)) (ha:PA X (e :: es) t) (hn:x≠"__name__":=by decide) (hdb:(x == ("__debug__":Str))=false:=by decide)
    (he:starEach (e :: es) X.env=(false,eval e X.env) :: starEach es X.env:=by rfl) (hpl:(backTo pos (starEach es X.env)).any (·.1)=false:=by rfl):PE X (.Call (.Name x p) (e :: es) [] pos) (tCB r t):=by
  intro pins s σ H Q I h
  refine wpAny_Call_Name_kw (zcQ I hg hm hv ?_ hn hdb)
  exact PyProof.Rows.callWith_builtin1 (thn (ha pos pins s σ H _ I h) fun us s1 ⟨vs,H1,I1,r1,q1⟩=>hc pins s1 σ H1 vs us Q I1 r1 q1) he hpl
theorem zaC (hc:zbI X (.type T) r) (hg:Gl X x) (hm:X.mg x=none) (hv:bootBuiltins x=some (.type T)) (ha:PA X (e :: es) t) (hn:x≠"__name__":=by decide) (hdb:(x == ("__debug__":Str))=false:=by decide)
    (he:starEach (e :: es) X.env=(false,eval e X.env) :: starEach es X.env:=by rfl) (hpl:(backTo pos (starEach es X.env)).any (·.1)=false:=by rfl):PE X (.Call (.Name x p) (e :: es) [] pos) (tCB r t):=by
  intro pins s σ H Q I h
  refine wpAny_Call_Name_kw (zcQ I hg hm hv ?_ hn hdb)
  exact PyProof.Rows.callWith_type1 (thn (ha pos pins s σ H _ I h) fun us s1 ⟨vs,H1,I1,r1,q1⟩=>hc pins s1 σ H1 vs us Q I1 r1 q1) he hpl
end
end L2
namespace HT
open PySem PyProof.Rows
section
open PySem.SeqAt
open PySem.AutoSeq1 (wpAny_loadPart')
open PySem.MeetsSeq PySem.MeetsSeq2 PySem.MeetsSeq3
end
section
variable {prog:Program} {w:World} {A:Around} {E:Value→Shared→Prop} {s:Shared}
theorem cat_tup {t b:Addr} {vs ws:List Value} {Q:Value→Shared→Prop} (ht:IsTup s.heap t vs.toArray) (hb:IsTup s.heap b ws.toArray) (hv:vs≠[])
    (h1:ws=[]→Q (.ref t) s) (h2:ws≠[]→Q (.ref s.heap.objs.size) { s with heap:=s.heap.push { cls:=.type "tuple",data:=.seq (vs++ws).toArray } })
    (hsz:vs.length+ws.length≤sizeLine):wpAny (model prog w) A (binaryOp .Add (.ref t) (.ref b)) Q E s:=by
  obtain⟨⟨cls,dd,data,sl⟩,ho,hc,n,hd⟩:=id ht
  obtain⟨⟨cls2,dd2,data2,sl2⟩,ho2,hc2,n2,hd2⟩:=id hb
  simp only at hc hd hc2 hd2
  subst hc hd hc2 hd2
  have e:vs.toArray++ws.toArray=(vs++ws).toArray:=by simp
  by_cases hw:ws=[]
  · exact concat_meets ⟨_,ho,rfl⟩ ⟨_,ho2,rfl⟩ noFill_tuple_add seq_tuple_add PySem.F.slot_tuple_add PySem.F.entry_tuple_add (PySem.F.args_tuple_add_2 _ _)
      (tuple_addW1 t b vs.toArray ws.toArray n n2 dd dd2 sl sl2 (by simpa using hv) (by simp [hw])) ⟨ho,ho2,h1 hw⟩
  · refine concat_meets ⟨_,ho,rfl⟩ ⟨_,ho2,rfl⟩ noFill_tuple_add seq_tuple_add PySem.F.slot_tuple_add PySem.F.entry_tuple_add (PySem.F.args_tuple_add_2 _ _)
      (tuple_addW2 t b vs.toArray ws.toArray n n2 dd dd2 sl sl2 (by simpa using hv) (by simpa using hw) (by rw[List.size_toArray,List.size_toArray];exact hsz)) ⟨ho,ho2,?_⟩
    rw[e]
    exact h2 hw
def sIx (n d:Nat):Option Int→Nat
  | none=>d
  | some v=>if v < 0 then(v+(n:Int)).toNat else min v.toNat n
theorem sIx_none (n d:Nat):sIx n d none=d:=rfl
theorem sIx_nat (n d k:Nat):sIx n d (some (k:Int))=min k n:=by
  show(if(k:Int) < 0 then((k:Int)+(n:Int)).toNat else min (k:Int).toNat n)=min k n
  rw[if_neg (by omega),Int.toNat_natCast]
theorem sIx_le (n d:Nat) (hd:d≤n) (o:Option Int):sIx n d o≤n:=by
  cases o with
  | none=>exact hd
  | some v =>
    show(if v < 0 then(v+(n:Int)).toNat else min v.toNat n)≤n
    by_cases hv:v < 0
    · rw[if_pos hv];omega
    · rw[if_neg hv];exact Nat.min_le_right _ _
theorem ziq (v:Int) (n d:Nat):(if v < 0 then max (v+(n:Int)) 0 else min v (n:Int))=((sIx n d (some v):Nat):Int):=by
  show(if v < 0 then max (v+(n:Int)) 0 else min v (n:Int))=(((if v < 0 then(v+(n:Int)).toNat else min v.toNat n):Nat):Int)
  by_cases hv:v < 0
  · simp only[if_pos hv];omega
  · simp only[if_neg hv];omega
theorem ziW (lo hi:Option Int) (n:Nat):Builtin.Slice.sliceAdjust lo hi 1 (n:Int)=(((sIx n 0 lo:Nat):Int),((sIx n n hi:Nat):Int)):=by
  have h1:¬((1:Int) < 0):=by omega
  unfold Builtin.Slice.sliceAdjust
  simp only[h1,if_false]
  refine Prod.ext ?_ ?_
  · cases lo with
    | none=>rfl
    | some v=>exact ziq v n 0
  · cases hi with
    | none=>rfl
    | some v=>exact ziq v n n
theorem ziG (i j:Nat):Builtin.Slice.slicePlaces (i:Int) (j:Int) 1=j - i:=by
  unfold Builtin.Slice.slicePlaces
  have h1:(1:Int) > 0:=by omega
  simp only[h1,if_true,Int.ediv_one]
  split <;> omega
theorem zf8 {v:Value} {o:Option Int} {Q:Option Int→Shared→Prop} (p:IsPart v o) (h:Q o s):wpAny (model prog w) A (Builtin.Slice.slicePartIndex v) Q E s:=by
  cases p with
  | none=>exact slicePart_none h
  | int i t=>exact slicePart_int h
theorem zdW {sl:Addr} {vl vu:Value} {lo hi:Option Int} {n:Nat} {Q:Int × Int × Nat→Shared→Prop} (hs:s.heap.IsSliceOf sl vl vu .none) (pl:IsPart vl lo) (pu:IsPart vu hi)
    (h:Q (((sIx n 0 lo:Nat):Int),1,sIx n n hi - sIx n 0 lo) s):wpAny (model prog w) A (Builtin.Slice.sliceApplied (.ref sl) (pure (n:Int))) Q E s:=by
  obtain⟨os,hos,hcs,hds⟩:=id hs
  unfold Builtin.Slice.sliceApplied Builtin.Slice.sliceFields
  refine wpAny_bind (wpAny_bind (wpAny_field hos hds (x:=vl) rfl (wpAny_bind (wpAny_field hos hds (x:=vu) rfl (wpAny_bind (wpAny_field hos hds (x:=.none) rfl (wpAny_pure ?_)))))))
  refine wpAny_bind (slicePart_none ?_)
  show wpAny _ _ (if((1:Int) == 0)=true then _ else _) _ _ s
  rw[if_neg (by decide)]
  refine wpAny_bind (zf8 pl (wpAny_bind (zf8 pu (wpAny_bind (wpAny_pure ?_)))))
  show wpAny _ _ (match Builtin.Slice.sliceAdjust lo hi 1 (n:Int) with | (lo,hi)=>pure (lo,(1:Int),Builtin.Slice.slicePlaces lo hi 1)) _ _ s
  rw[ziW lo hi n]
  show wpAny _ _ (pure (((sIx n 0 lo:Nat):Int),(1:Int),Builtin.Slice.slicePlaces ((sIx n 0 lo:Nat):Int) ((sIx n n hi:Nat):Int) 1)) _ _ s
  rw[ziG]
  exact wpAny_pure h
theorem zki (xs:Array Value) (i k:Nat):((List.range k).filterMap fun(m:Nat)=>xs[((i:Int)+(m:Int) * 1).toNat]?).toArray=((xs.toList.drop i).take k).toArray:=by
  have e:(fun(m:Nat)=>xs[((i:Int)+(m:Int) * 1).toNat]?)=fun m=>xs[i+m]?:=by
    funext m
    have:((i:Int)+(m:Int) * 1).toNat=i+m:=by omega
    rw[this]
  rw[e]
  have:=pick_run xs i k
  rw[List.filterMap_map]at this
  have e2:((fun x=>xs[x]?) ∘ fun x=>i+x)=fun m=>xs[i+m]?:=rfl
  rw[e2]at this
  rw[this]
theorem getItem_tuple_cut {t sl:Addr} {items:Array Value} {vl vu:Value} {lo hi:Option Int} {Q:Value→Shared→Prop} (ht:IsTup s.heap t items) (hs:s.heap.IsSliceOf sl vl vu .none) (pl:IsPart vl lo) (pu:IsPart vu hi)
    (hw:¬(sIx items.size 0 lo=0∧sIx items.size items.size hi=items.size))
    (h:Q (.ref s.heap.objs.size) { s with heap:=s.heap.push { cls:=.type "tuple",data:=.seq ((items.toList.drop (sIx items.size 0 lo)).take (sIx items.size items.size hi - sIx items.size 0 lo)).toArray } })
    (hsz:items.size≤sizeLine):wpAny (model prog w) A (getItem (.ref t) (.ref sl)) Q E s:=by
  have htake:sizeOk (.seq ((items.toList.drop (sIx items.size 0 lo)).take (sIx items.size items.size hi - sIx items.size 0 lo)).toArray):=by
    show((items.toList.drop (sIx items.size 0 lo)).take (sIx items.size items.size hi - sIx items.size 0 lo)).toArray.size≤sizeLine
    rw[List.size_toArray,List.length_take,List.length_drop,Array.length_toList]
    omega
  have hj:sIx items.size items.size hi≤items.size:=sIx_le _ _ (Nat.le_refl _) hi
  obtain⟨os,hos,hcs,hds⟩:=id hs
  have hTs:s.TypeIs (.ref sl) "slice":=⟨os,hos,hcs⟩
  unfold getItem
  try with_reducible refine wpAny_holding ?_
  first | refine wpAny_bind (wpAny_pure ?_) | skip
  refine wpAny_bind (wpAny_sequenceKey ht.typeIs (by decide) ?_)
  refine wpAny_bind (wpAny_callSpecial?_slot (name:=Str.ofString "__getitem__") ht.typeIs PyProof.Rows.slot_tuple_getitem
    (wpAny_call_entry PyProof.Rows.slot_tuple_getitem ht.typeIs entry_tuple_getitem ?_ (args_tuple_getitem _ _)))
  show wpAny _ _ (Builtin.Tuple.tupleItemsOf (.ref t) >>= _) _ _ s
  refine wpAny_bind (tupleItemsOf_ ht ?_)
  refine wpAny_bind (wpAny_typeOf hTs ?_)
  rw[if_pos (by decide)]
  refine wpAny_bind (zdW hs pl pu ?_)
  have hno:¬((((sIx items.size 0 lo:Nat):Int) == 0&&(1:Int) == 1&&(sIx items.size items.size hi - sIx items.size 0 lo) == items.size)=true):=by
    intro q
    rw[Bool.and_eq_true,Bool.and_eq_true]at q
    have q1:((sIx items.size 0 lo:Nat):Int)=0:=eq_of_beq q.1.1
    have q2:sIx items.size items.size hi - sIx items.size 0 lo=items.size:=eq_of_beq q.2
    exact hw ⟨by omega,by omega⟩
  show wpAny _ _ (if(((sIx items.size 0 lo:Nat):Int) == 0&&(1:Int) == 1&&(sIx items.size items.size hi - sIx items.size 0 lo) == items.size)=true then _ else _) _ _ s
  rw[if_neg hno,zki]
  first
    | exact wpAny_bind (m:=Builtin.Tuple.tupleExact _) (wpAny_newObj_type (wpAny_pure ⟨_,rfl,wpAny_pure h⟩) htake)
    | exact wpAny_bind (m:=Builtin.Tuple.tupleExact _) (wpAny_newObj_type (wpAny_bind (wpAny_pure (wpAny_pure ⟨_,rfl,wpAny_pure h⟩))) htake)
    | exact wpAny_bind (wpAny_bind (m:=Builtin.Tuple.tupleExact _) (wpAny_newObj_type (wpAny_pure (wpAny_pure ⟨_,rfl,wpAny_pure h⟩)) htake))
    | exact wpAny_bind (wpAny_bind (m:=Builtin.Tuple.tupleExact _) (wpAny_newObj_type (wpAny_pure ⟨_,rfl,wpAny_pure h⟩) htake))
end
end HT
namespace L2
open PySem PySem.Spec PyProof.Rows
abbrev TO:=St→Hp→(Option Int→Hp→Prop)→Prop
def PO (X:Cx) (e:Option Expr) (t:TO):Prop :=
  ∀(pins:List (Addr × Obj)) (s:Shared) (σ:St) (H:Hp) (Q:Option Int→Hp→Prop),Inv X pins σ H s→t σ H Q →
    wpAny (model X.prog X.w) X.A (evalPart e X.env) (fun u s'=>∃ o H',Inv X pins σ H' s'∧IsPart u o∧Q o H') X.xe s
def zkT:TO:=fun _ H Q=>Q none H
def tPart (t:TE):TO:=fun σ H Q=>t σ H fun x H1=>∃ i,x=.int i∧Q (some i) H1
theorem zeR {ns:List Int}:∀ {us:List Value},aI (ns.map V.int) us→IntsAre us ns:=by
  induction ns with
  | nil=>intro us r;rw[List.map_nil]at r;cases r;exact .nil
  | cons n ns ih =>
    intro us r
    rw[List.map_cons]at r
    cases r with
    | cons r1 r2 =>
      obtain⟨t,e⟩:=r1
      subst e
      exact .cons n t (ih r2)
section
variable {X:Cx} {e:Expr} {te:TE} {lo hi:Option Expr} {tl th:TO} {pos p2:Pos}
theorem zc0:PO X none zkT:=by
  intro pins s σ H Q I h
  rw[evalPart_none]
  exact wpAny_pure ⟨none,H,I,.none,h⟩
theorem zcZ (h:PE X e te):PO X (some e) (tPart te):=by
  intro pins s σ H Q I hw
  rw[evalPart_some]
  refine thn (h pins s σ H _ I hw) fun u s1 ⟨x,H1,I1,r1,q1⟩=>?_
  obtain⟨i,rfl,q⟩:=q1
  obtain⟨t,rfl⟩:=r1
  exact⟨some i,H1,I1,.int i t,q⟩
def SlR (X:Cx) (r:V→Option Int→Option Int→Hp→VK→Prop):Prop :=
  ∀(pins:List (Addr × Obj)) (s:Shared) (σ:St) (H:Hp) (x:V) (v vl vu:Value) (lo hi:Option Int) (sl:Addr) (Q:VK),Inv X pins σ H s→aL x v→s.heap.IsSliceOf sl vl vu .none→IsPart vl lo→IsPart vu hi→r x lo hi H Q →
    ∃ T id,typeLookup (.type T) "__getitem__"=pure (some (.builtin id))∧s.TypeIs v T∧wpAny (model X.prog X.w) X.A (getItem v (.ref sl)) (EP X pins σ Q) X.xe s
theorem SlR.or {r r':V→Option Int→Option Int→Hp→VK→Prop} (h:SlR X r) (h':SlR X r'):SlR X (fun x lo hi H Q=>r x lo hi H Q∨r' x lo hi H Q):=by
  intro pins s σ H x v vl vu lo hi sl Q I rx hs pl pu q
  rcases q with q | q
  · exact h pins s σ H x v vl vu lo hi sl Q I rx hs pl pu q
  · exact h' pins s σ H x v vl vu lo hi sl Q I rx hs pl pu q
def tSl (r:V→Option Int→Option Int→Hp→VK→Prop) (te:TE) (tl th:TO):TE:=fun σ H Q=>te σ H fun x H1=>tl σ H1 fun l H2=>th σ H2 fun u H3=>r x l u H3 Q
theorem zcF {r:V→Option Int→Option Int→Hp→VK→Prop} (hr:SlR X r) (he:PE X e te) (hl:PO X lo tl) (hu:PO X hi th):PE X (.Subscript e (.Slice lo hi none p2) pos) (tSl r te tl th):=by
  intro pins s σ H Q I h
  refine Subscript_ (thn (he pins s σ H _ I h) fun v s1 ⟨x,H1,I1,r1,q1⟩=>?_)
  refine wpAny_Slice (thn (hl pins s1 σ H1 _ I1 q1) fun vl s2 ⟨l,H2,I2,pl,q2⟩=>thn (hu pins s2 σ H2 _ I2 q2) fun vu s3 ⟨u,H3,I3,pu,q3⟩=>?_)
  rw[evalPart_none]
  refine wpAny_pure ?_
  have I4:Inv X pins σ H3 { s3 with heap:=s3.heap.push { cls:=.type "slice",data:=.fields #[vl,vu,.none] } }:=I3.kept (t':=s3.toks) fun b ob q=>Heap.get?_push_of_some _ q
  obtain⟨T,id,hT,ht,hg⟩:=hr pins { s3 with heap:=s3.heap.push { cls:=.type "slice",data:=.fields #[vl,vu,.none] } } σ H3 x v vl vu l u s3.heap.objs.size Q I4 r1 (Heap.IsSliceOf.new ..) pl pu q3
  show wpAny (model X.prog X.w) X.A (subscriptTail e (.Slice lo hi none p2) v (.ref s3.heap.objs.size)) (EP X pins σ Q) X.xe { s3 with heap:=s3.heap.push { cls:=.type "slice",data:=.fields #[vl,vu,.none] } }
  exact tail_any (ops:=[.ref s3.heap.objs.size,v]) ht hT hg (by with_unfolding_all rfl)
def zcn (xs:List V) (lo hi:Option Int):List V:=(xs.drop (HT.sIx xs.length 0 lo)).take (HT.sIx xs.length xs.length hi - HT.sIx xs.length 0 lo)
theorem zfE (xs:List V) (lo hi:Option Int):(zcn xs lo hi).length≤xs.length:=by
  unfold zcn
  rw[List.length_take,List.length_drop]
  omega
def rSlT (K:PySem.W.Frag):V→Option Int→Option Int→Hp→VK→Prop:=fun x lo hi H Q=>∃ a xs,x=.ref a∧SqT K H a xs ∧
  ¬(HT.sIx xs.length 0 lo=0∧HT.sIx xs.length xs.length hi=xs.length)∧∀ p,H p=none→Q (.ref p) (upd H p (.tup (zcn xs lo hi)))
theorem zi1:SlR X (rSlT X.K):=by
  intro pins s σ H x v vl vu lo hi sl Q I rx hs pl pu h
  obtain⟨a,xs,rfl,hx,hw,q⟩:=h
  cases rx
  obtain⟨its,r,ht,hz⟩:=I.tuple hx
  have hlen:its.toArray.size=xs.length:=by rw[List.size_toArray];exact r.length.symm
  refine⟨"tuple",_,PyProof.Rows.slot_tuple_getitem.lookup,ht.typeIs,?_⟩
  refine HT.getItem_tuple_cut ht hs pl pu (by rw[hlen];exact hw) ?_ (by rw[hlen];exact hz)
  rw[hlen]
  refine⟨.ref s.heap.objs.size,_,I.laid (t':=s.toks) (o:=.tup (zcn xs lo hi)) (fun b ob q=>Heap.get?_push_of_some _ q) (Nat.le_refl _) ?_,rfl,q _ (I.hok.fresh (Nat.le_refl _))⟩
  exact⟨Nat.le_trans (zfE xs lo hi) hz,_,(r.drop (HT.sIx xs.length 0 lo)).take (HT.sIx xs.length xs.length hi - HT.sIx xs.length 0 lo),IsTup.new _ _⟩
def rCatT (K:PySem.W.Frag):R2:=fun x y H Q=>∃ a b xs ys,x=.ref a∧y=.ref b∧SqT K H a xs∧SqT K H b ys∧xs≠[]∧xs.length+ys.length≤sizeLine ∧
  (ys=[]→Q (.ref a) H)∧(ys≠[]→∀ p,H p=none→Q (.ref p) (upd H p (.tup (xs++ys))))
theorem aI.nil_iff {xs:List V} {us:List Value} (r:aI xs us):us=[]↔xs=[]:=by
  cases r with
  | nil=>simp
  | cons _ _=>simp
theorem zlc:OpR X (binaryOp .Add) (rCatT X.K):=by
  intro pins s σ H x y v u Q I rx ry h
  obtain⟨a,b,xs,ys,rfl,rfl,ha,hb,hx,hz,q1,q2⟩:=h
  cases rx
  cases ry
  obtain⟨its,r1,p1,_⟩:=I.tuple ha
  obtain⟨its2,r2,p2,_⟩:=I.tuple hb
  refine HT.cat_tup p1 p2 (fun z=>hx (r1.nil_iff.mp z)) (fun z=>⟨.ref a,H,I,rfl,q1 (r2.nil_iff.mp z)⟩) (fun z=>?_) (by rw[←r1.length,←r2.length];exact hz)
  refine⟨.ref s.heap.objs.size,_,I.laid (t':=s.toks) (o:=.tup (xs++ys)) (fun b ob q=>Heap.get?_push_of_some _ q) (Nat.le_refl _) ?_,rfl,q2 (fun w=>z (r2.nil_iff.mpr w)) _ (I.hok.fresh (Nat.le_refl _))⟩
  exact⟨by rw[List.length_append];exact hz,_,r1.append r2,IsTup.new _ _⟩
end
end L2
namespace L2
open PySem PySem.Spec PyProof.Rows
def ixN (n:Nat) (i:Int):Option Nat:=if 0≤i then(if i < n then some i.toNat else none) else if -(n:Int)≤i then some (i+n).toNat else none
def atI {α:Type} (xs:List α) (i:Int):Option α:=(ixN xs.length i).bind fun j=>xs[j]?
theorem zie {n:Nat} {i:Int} {j:Nat} (h:ixN n i=some j):seqIndex? i n=some j∧j < n∧-(n:Int)≤i∧i < n:=by
  unfold ixN at h
  by_cases h0:0≤i
  · rw[if_pos h0]at h
    by_cases h1:i < n
    · rw[if_pos h1]at h
      have e:i.toNat=j:=Option.some.inj h
      exact⟨by rw[seqIndex_of h0 h1,e],by omega,by omega,h1⟩
    · rw[if_neg h1]at h;cases h
  · rw[if_neg h0]at h
    by_cases h1:-(n:Int)≤i
    · rw[if_pos h1]at h
      have e:(i+n).toNat=j:=Option.some.inj h
      exact⟨by rw[seqIndex_neg (by omega) h1,e],by omega,h1,by omega⟩
    · rw[if_neg h1]at h;cases h
theorem zir {α:Type} {xs:List α} {i:Int} {v:α} (h:atI xs i=some v):∃ j,seqIndex? i xs.length=some j∧xs[j]?=some v∧j < xs.length∧-(xs.length:Int)≤i∧i < xs.length:=by
  unfold atI at h
  cases e:ixN xs.length i with
  | none=>rw[e]at h;cases h
  | some j =>
    rw[e]at h
    obtain⟨h1,h2,h3,h4⟩:=zie e
    exact⟨j,h1,h,h2,h3,h4⟩
theorem aA {α:Type} {xs:List α} {j:Nat} {v:α} (h:xs[j]?=some v):atI xs (j:Int)=some v:=by
  have hj:j < xs.length:=(List.getElem?_eq_some_iff.mp h).1
  have e:ixN xs.length (j:Int)=some j:=by
    unfold ixN
    rw[if_pos (by omega),if_pos (by omega)];simp
  unfold atI;rw[e];exact h
def zlE (b:Expr):Prop:=∀ o i,subscripted b false o i=operate [o,i] (getItem o i)
def IxR (X:Cx) (r:R2):Prop :=
  ∀(value slice:Expr) (pins:List (Addr × Obj)) (s:Shared) (σ:St) (H:Hp) (x y:V) (v u:Value) (Q:VK),Inv X pins σ H s→aL x v→aL y u→r x y H Q →
    subscripted slice false v u=operate [v,u] (getItem v u)→wpAny (model X.prog X.w) X.A (subscriptTail value slice v u) (EP X pins σ Q) X.xe s
def MtR (X:Cx) (id:String) (r:V→List V→Hp→VK→Prop):Prop :=
  ∀(pins:List (Addr × Obj)) (s:Shared) (σ:St) (H:Hp) (x:V) (xs:List V) (v:Value) (us:List Value) (Q:VK),Inv X pins σ H s→aL x v→aI xs us→r x xs H Q →
    wpAny (model X.prog X.w) X.A (call (.builtin id) (v :: us)) (EP X pins σ Q) X.xe s
section
variable {X:Cx} {a b:Expr} {ta tb:TE} {pos:Pos}
theorem aq {r:R2} (hr:IxR X r) (ha:PE X a ta) (hb:PE X b tb) (hs:zlE b):PE X (.Subscript a b pos) (tOp r ta tb):=by
  intro pins s σ H Q I h
  exact Subscript_ (binT ha hb I h fun v u s2 x y H2 I2 rx ry q=>hr a b pins s2 σ H2 x y v u Q I2 rx ry q (hs _ _))
def zez (K:PySem.W.Frag):R2:=fun x y H Q=>∃ p xs i v,x=.ref p∧y=.int i∧SqL K H p xs∧atI xs i=some v∧Q v H
def zdD (K:PySem.W.Frag):R2:=fun x y H Q=>∃ p xs i v,x=.ref p∧y=.int i∧SqT K H p xs∧atI xs i=some v∧Q v H
theorem zad:IxR X (zez X.K):=by
  intro value slice pins s σ H x y v u Q I rx ry h hs
  obtain⟨p,xs,i,z,rfl,rfl,hq,he,q⟩:=h
  cases rx
  obtain⟨t,rfl⟩:=ry
  obtain⟨its,r,pl,hz⟩:=I.list hq
  obtain⟨j,h1,h2,h3,h4,h5⟩:=zir he
  obtain⟨w,ew,rw'⟩:=r.get h2
  have hl:=r.length
  have hn:=zeX
  have fin:EP X pins σ Q w s:=⟨z,H,I,rw',q⟩
  by_cases h0:0≤i
  · have hj:i.toNat=j:=by
      rw[seqIndex_of h0 h5]at h1
      exact Option.some.inj h1
    exact item_listR pl.isList h0 (by omega) (by rw[hj];simpa using ew) fin hs
  · have hj:(i+(its.toArray.size:Int)).toNat=j:=by
      rw[seqIndex_neg (by omega) h4]at h1
      rw[List.size_toArray,←hl]
      exact Option.some.inj h1
    exact subscriptTail_builtinR (x:=w) pl.isList.typeIs slot_list_getitem.lookup
      (wpAny_getItem_list_neg (Q:=fun r s'=>r=w∧EP X pins σ Q r s') pl.isList (by omega) (by rw[List.size_toArray] <;> omega) (by omega) (by rw[hj];simpa using ew) ⟨rfl,fin⟩) hs
theorem au:IxR X (zdD X.K):=by
  intro value slice pins s σ H x y v u Q I rx ry h hs
  obtain⟨p,xs,i,z,rfl,rfl,hq,he,q⟩:=h
  cases rx
  obtain⟨t,rfl⟩:=ry
  obtain⟨its,r,pl,hz⟩:=I.tuple hq
  obtain⟨j,h1,h2,h3,h4,h5⟩:=zir he
  obtain⟨w,ew,rw'⟩:=r.get h2
  have hl:=r.length
  have hn:=zeX
  have fin:EP X pins σ Q w s:=⟨z,H,I,rw',q⟩
  exact subscriptTail_builtinR (x:=w) pl.typeIs slot_tuple_getitem.lookup
    (getItem_tuple (j:=j) (Q:=fun r s'=>r=w∧EP X pins σ Q r s') pl (by omega) (by omega) (by rw[List.size_toArray,←hl];exact h1) (by simpa using ew) ⟨rfl,fin⟩) hs
theorem ziN (its:List Value) (n j:Nat) (u:Value):Obj.mapSeq (·.setIfInBounds j u) { cls:=.type "list",data:=.seq its.toArray n }={ cls:=.type "list",data:=.seq (its.set j u).toArray n }:=by
  simp [Obj.mapSeq]
theorem Inv.lst {pins:List (Addr × Obj)} {σ:St} {H:Hp} {s:Shared} {p:Addr} {xs:List V} (I:Inv X pins σ H s) (h:H p=some (.lst xs)) :
    ∃(its:List Value) (n:Nat),aI xs its∧s.heap.get? p=some { cls:=.type "list",data:=.seq its.toArray n }∧xs.length≤sizeLine:=by
  obtain⟨z,its,n,r,e⟩:=I.hok p _ h
  exact⟨its,n,r,e,z⟩
theorem Inv.lstUpd {pins:List (Addr × Obj)} {σ:St} {H:Hp} {s:Shared} {p:Addr} {xs ys:List V} {its its':List Value} {n n':Nat} {f:Obj→Obj} (I:Inv X pins σ H s) (h:H p=some (.lst xs))
    (ho:s.heap.get? p=some { cls:=.type "list",data:=.seq its.toArray n }) (hf:f { cls:=.type "list",data:=.seq its.toArray n }={ cls:=.type "list",data:=.seq its'.toArray n' }) (r:aI ys its') (hz:ys.length≤sizeLine) (t:Nat) :
    Inv X pins σ (upd H p (.lst ys)) { s with heap:=s.heap.update p f,toks:=t }:=by
  have e:(s.heap.update p f).get? p=some { cls:=.type "list",data:=.seq its'.toArray n' }:=by
    rw[Heap.get?_update_self f ho (by rw[hf] <;> rfl),hf]
  refine I.write (x:=p) (e:=p) (by rw[h];trivial) (.inl rfl) (fun b u hb q=>(Heap.get?_update_other _ _ (Ne.symm hb)).trans q) ⟨_,e⟩ ?_
  exact⟨hz,its',n',r,e⟩
def rSetL:V→V→V→Hp→(Hp→Prop)→Prop:=fun o i v H Q=>∃ p xs k j,o=.ref p∧i=.int k∧H p=some (.lst xs)∧ixN xs.length k=some j∧Q (upd H p (.lst (xs.set j v)))
theorem zkf:PSet X rSetL:=by
  intro pins s σ H o i v ov iv u Q I ro ri rv h
  obtain⟨p,xs,k,j,rfl,rfl,hp,hj,q⟩:=h
  cases ro
  obtain⟨t,rfl⟩:=ri
  obtain⟨its,n,r,ho,hz⟩:=I.lst hp
  obtain⟨h1,h2,h3,h4⟩:=zie hj
  have hl:=r.length
  have hn:=zeX
  have I':Inv X pins σ (upd H p (.lst (xs.set j v))) { s with heap:=s.heap.update p (Obj.mapSeq (·.setIfInBounds j u)) } :=
    I.lstUpd hp ho (ziN its n j u) (r.set rv j) (by rw[List.length_set];exact hz) s.toks
  by_cases h0:0≤k
  · have hk:k.toNat=j:=by
      rw[seqIndex_of h0 h4]at h1
      exact Option.some.inj h1
    exact PySem.W.ki_setAt ho h0 (by omega) (by rw[List.size_toArray,←hl];exact h4) (by rw[hk];exact⟨_,I',q⟩)
  · have hk:(k+(its.toArray.size:Int)).toNat=j:=by
      rw[seqIndex_neg (by omega) h3]at h1
      rw[List.size_toArray,←hl]
      exact Option.some.inj h1
    exact PySem.W.ki_setBack ho (by omega) (by rw[List.size_toArray,←hl];exact h3) (by omega) (by rw[hk];exact⟨_,I',q⟩)
theorem zhL (lo hi:Option Int) (n:Nat):(sliceBounds lo hi none n).1=((HT.sIx n 0 lo:Nat):Int)∧(sliceBounds lo hi none n).2.1=((HT.sIx n n hi:Nat):Int)∧(sliceBounds lo hi none n).2.2=1:=by
  refine⟨?_,?_,rfl⟩
  · cases lo with
    | none=>simp [sliceBounds,HT.sIx]
    | some i =>
      simp only[sliceBounds,HT.sIx,Option.getD_none,show(1:Int) > 0 by decide,if_true]
      by_cases h:i < 0
      · simp only[h,if_true] <;> omega
      · simp only[h,if_false] <;> omega
  · cases hi with
    | none=>simp [sliceBounds,HT.sIx]
    | some i =>
      simp only[sliceBounds,HT.sIx,Option.getD_none,show(1:Int) > 0 by decide,if_true]
      by_cases h:i < 0
      · simp only[h,if_true] <;> omega
      · simp only[h,if_false] <;> omega
theorem zgU (its:List Value) (lo hi:Option Int):slicePick its.toArray lo hi none=((its.drop (HT.sIx its.length 0 lo)).take (HT.sIx its.length its.length hi - HT.sIx its.length 0 lo)).toArray:=by
  obtain⟨h1,h2,h3⟩:=zhL lo hi its.toArray.size
  unfold slicePick
  rw[h1,h2,h3]
  simp only[sliceRange_one,pick_run,List.size_toArray] <;> rfl
def rSlL (K:PySem.W.Frag):V→Option Int→Option Int→Hp→VK→Prop:=fun x lo hi H Q=>∃ a xs,x=.ref a∧SqL K H a xs∧∀ p,H p=none→Q (.ref p) (upd H p (.lst (zcn xs lo hi)))
theorem zh2:SlR X (rSlL X.K):=by
  intro pins s σ H x v vl vu lo hi sl Q I rx hs pl pu h
  obtain⟨a,xs,rfl,hx,q⟩:=h
  cases rx
  obtain⟨its,r,ht,hz⟩:=I.list hx
  have hlen:=r.length
  refine⟨"list",_,slot_list_getitem.lookup,ht.isList.typeIs,?_⟩
  refine wpAny_getItem_list_slice ht.isList hs pl pu .none (by simp) ?_ (by rw[List.size_toArray] <;> omega)
  rw[zgU,←hlen]
  refine⟨.ref s.heap.objs.size,_,I.laid (t':=s.toks) (o:=.lst (zcn xs lo hi)) (fun b ob q=>Heap.get?_push_of_some _ q) (Nat.le_refl _) ?_,rfl,q _ (I.hok.fresh (Nat.le_refl _))⟩
  exact⟨Nat.le_trans (zfE xs lo hi) hz,_,0,(r.drop (HT.sIx xs.length 0 lo)).take (HT.sIx xs.length xs.length hi - HT.sIx xs.length 0 lo),Heap.get?_push_size _ rfl⟩
def zc9:V→Bool
  | .non=>true
  | .bl _=>true
  | .int _=>true
  | .str _=>true
  | _=>false
def eqV:V→V→Bool
  | .non,.non=>true
  | .bl a,.bl b=>a == b
  | .bl a,.int b=>(if a then 1 else 0) == b
  | .int a,.bl b=>a == (if b then 1 else 0)
  | .int a,.int b=>a == b
  | .str a,.str b=>a == b
  | _,_=>false
theorem zeZ {A:Around} {s:Shared} {y x:V} {u v:Value} (ry:aL y u) (rx:aL x v) (fy:zc9 y=true) (fx:zc9 x=true):SeqAt.EqAt A s u v (eqV y x):=by
  cases y with
  | non =>
    cases ry
    cases x with
    | non=>cases rx;exact SeqAt.EqAt.same _
    | bl b=>cases rx;exact SeqAt.EqAt.none_bool b
    | int b=>obtain⟨t,rfl⟩:=rx;exact SeqAt.EqAt.none_int b t
    | str b=>obtain⟨t,rfl⟩:=rx;exact SeqAt.EqAt.none_str b t
    | _=>exact absurd (show false=true from fx) Bool.false_ne_true
  | bl a =>
    cases ry
    cases x with
    | non=>cases rx;exact SeqAt.EqAt.bool_none a
    | bl b=>cases rx;exact SeqAt.EqAt.bool_bool a b
    | int b=>obtain⟨t,rfl⟩:=rx;exact SeqAt.EqAt.bool_int a b t
    | str b=>obtain⟨t,rfl⟩:=rx;exact SeqAt.EqAt.bool_str a b t
    | _=>exact absurd (show false=true from fx) Bool.false_ne_true
  | int a =>
    obtain⟨t',rfl⟩:=ry
    cases x with
    | non=>cases rx;exact SeqAt.EqAt.int_none a t'
    | bl b=>cases rx;exact SeqAt.EqAt.int_bool a t' b
    | int b=>obtain⟨t,rfl⟩:=rx;exact SeqAt.EqAt.int_int a t' b t
    | str b=>obtain⟨t,rfl⟩:=rx;exact SeqAt.EqAt.int_str a t' b t
    | _=>exact absurd (show false=true from fx) Bool.false_ne_true
  | str a =>
    obtain⟨t',rfl⟩:=ry
    cases x with
    | non=>cases rx;exact SeqAt.EqAt.str_none a t'
    | bl b=>cases rx;exact SeqAt.EqAt.str_bool a t' b
    | int b=>obtain⟨t,rfl⟩:=rx;exact SeqAt.EqAt.str_int a t' b t
    | str b=>obtain⟨t,rfl⟩:=rx;exact SeqAt.EqAt.str_str a t' b t
    | _=>exact absurd (show false=true from fx) Bool.false_ne_true
  | _=>exact absurd (show false=true from fy) Bool.false_ne_true
def eqU (x:V) (u:Value):Bool:=match u with
  | .none=>eqV .non x
  | .bool b=>eqV (.bl b) x
  | .int i _=>eqV (.int i) x
  | .str z _=>eqV (.str z) x
  | _=>false
theorem zjo {x y:V} {u:Value} (r:aL y u) (f:zc9 y=true):eqU x u=eqV y x:=by
  cases y with
  | non=>cases r;rfl
  | bl b=>cases r;rfl
  | int i=>obtain⟨t,rfl⟩:=r;rfl
  | str z=>obtain⟨t,rfl⟩:=r;rfl
  | _=>exact absurd (show false=true from f) Bool.false_ne_true
theorem zgz {x:V}:∀ {xs:List V} {us:List Value},aI xs us→xs.all zc9=true→us.any (eqU x)=xs.any fun y=>eqV y x
  | _,_,.nil,_=>rfl
  | y :: xs,u :: us,.cons r t,f=>by
    rw[List.all_cons,Bool.and_eq_true]at f
    rw[List.any_cons,List.any_cons,zjo r f.1,zgz t f.2]
theorem zfS {A:Around} {s:Shared} {x:V} {v:Value} (rx:aL x v) (fx:zc9 x=true):∀ {xs:List V} {us:List Value},aI xs us→xs.all zc9=true→∀ u∈us,SeqAt.EqAt A s u v (eqU x u)
  | _,_,.nil,_=>fun u hu=>by cases hu
  | y :: xs,u :: us,.cons r t,f=>fun u' hu=>by
    rw[List.all_cons,Bool.and_eq_true]at f
    rcases List.mem_cons.mp hu with rfl | hu
    · rw[zjo r f.1];exact zeZ r rx f.1 fx
    · exact zfS rx fx t f.2 u' hu
def inV (x:V) (xs:List V):Bool:=xs.any fun y=>eqV y x
def rIn (K:PySem.W.Frag) (neg:Bool):R2:=fun x y H Q=>∃ p xs,y=.ref p∧(SqL K H p xs∨SqT K H p xs)∧zc9 x=true∧xs.all zc9=true∧Q (.bl (if neg then !inV x xs else inV x xs)) H
theorem zcU:OpR X (compareOp .NotIn) (rIn X.K true):=by
  intro pins s σ H x y v u Q I rx ry h
  obtain⟨p,xs,rfl,hq,fx,fs,q⟩:=h
  cases ry
  rcases hq with hq | hq
  · obtain⟨its,r,pl,hz⟩:=I.list hq
    refine SeqAt.notIn_listAt (eqU x) pl.isList (fun w hw=>zfS rx fx r fs w (by simpa using hw)) ⟨.bl _,H,I,rfl,?_⟩
    rw[show its.toArray.any (eqU x)=its.any (eqU x) by simp,zgz r fs]
    exact q
  · obtain⟨its,r,pl,hz⟩:=I.tuple hq
    refine SeqAt.notIn_tupleAt (eqU x) pl (fun w hw=>zfS rx fx r fs w (by simpa using hw)) ⟨.bl _,H,I,rfl,?_⟩
    rw[show its.toArray.any (eqU x)=its.any (eqU x) by simp,zgz r fs]
    exact q
theorem zab:zbI X (.builtin "len") (fun xs H Q=>∃ p ys,xs=[.ref p]∧(SqL X.K H p ys∨SqT X.K H p ys)∧Q (.int ys.length) H):=by
  intro pins s σ H xs us Q I r h
  obtain⟨p,ys,rfl,hq,q⟩:=h
  obtain⟨u,rfl,rx⟩:=zdp r
  cases rx
  have hn:=zeX
  rcases hq with hq | hq
  · obtain⟨its,r',pl,hz⟩:=I.list hq
    have hlen:=r'.length
    exact Calls.call_len_list pl.isList (by simp only[List.size_toArray] <;> omega) ⟨.int ys.length,H,I.tok _,⟨s.toks+1,by rw[List.size_toArray,hlen]⟩,q⟩
  · obtain⟨its,r',pl,hz⟩:=I.tuple hq
    have hlen:=r'.length
    exact len_tuple pl (by simp only[List.size_toArray] <;> omega) ⟨.int ys.length,H,I.tok _,⟨s.toks+1,by rw[List.size_toArray,hlen]⟩,q⟩
theorem zfd:zbI X (.builtin "len") (fun xs H Q=>∃ z,xs=[.str z]∧z.length≤sizeLine∧Q (.int z.length) H):=by
  intro pins s σ H xs us Q I r h
  obtain⟨z,rfl,hz,q⟩:=h
  obtain⟨u,rfl,t,rfl⟩:=zdp r
  have hn:=zeX
  exact len_str (by omega) ⟨.int z.length,H,I.tok _,⟨_,rfl⟩,q⟩
theorem zbt:zbI X (.type "list") (fun xs H Q=>∃ p ys,xs=[.ref p]∧(SqL X.K H p ys∨SqT X.K H p ys)∧∀ l,H l=none→Q (.ref l) (upd H l (.lst ys))):=by
  intro pins s σ H xs us Q I r h
  obtain⟨p,ys,rfl,hq,q⟩:=h
  obtain⟨u,rfl,rx⟩:=zdp r
  cases rx
  have fin:∀(its:List Value),aI ys its→ys.length≤sizeLine→∀(h':Heap) (c':Nat),(∀ b o',s.heap.get? b=some o'→h'.get? b=some o') →
      h'.get? s.heap.objs.size=some { cls:=.type "list",dict:=none,data:=.seq its.toArray c',slots:=#[] }→EP X pins σ Q (.ref s.heap.objs.size) { s with heap:=h' }:=fun its r' hz h' c' kp e =>
    ⟨.ref s.heap.objs.size,_,I.laid (t':=s.toks) kp (Nat.le_refl _) (show zaz X.prog X.w _ h' _ (.lst ys) from⟨hz,its,c',r',e⟩),rfl,q _ (I.hok.fresh (Nat.le_refl _))⟩
  rcases hq with hq | hq
  · obtain⟨its,r',pl,hz⟩:=I.list hq
    have hlen:=r'.length
    obtain⟨o,ho,hc,n,hd⟩:=pl.isList
    exact call_list_seq p (.inl rfl) ho hc hd (fun h' c' kp e=>fin its r' hz h' c' kp e) (by simp only[List.size_toArray] <;> omega)
  · obtain⟨its,r',pl,hz⟩:=I.tuple hq
    have hlen:=r'.length
    obtain⟨o,ho,hc,n,hd⟩:=pl
    exact call_list_seq p (.inr rfl) ho hc hd (fun h' c' kp e=>fin its r' hz h' c' kp e) (by simp only[List.size_toArray] <;> omega)
theorem za7:zbI X (.type "tuple") (fun xs H Q=>∃ p ys,xs=[.ref p]∧((SqL X.K H p ys∧∀ l,H l=none→Q (.ref l) (upd H l (.tup ys)))∨(SqT X.K H p ys∧Q (.ref p) H))):=by
  intro pins s σ H xs us Q I r h
  obtain⟨p,ys,rfl,h⟩:=h
  obtain⟨u,rfl,rx⟩:=zdp r
  cases rx
  rcases h with ⟨hq,q⟩ | ⟨hq,q⟩
  · obtain⟨its,r',pl,hz⟩:=I.list hq
    have hlen:=r'.length
    refine call_tuple_list pl.isList (fun h' kp=>?_) (by simp only[List.size_toArray] <;> omega)
    have I1:Inv X pins σ H { s with heap:=h' }:=I.kept (t':=s.toks) kp
    have I2:Inv X pins σ (upd H h'.objs.size (.tup ys)) { s with heap:=h'.push { cls:=.type "tuple",data:=.seq its.toArray } } :=
      I1.laid (t':=s.toks) (fun b o e=>Heap.get?_push_of_some _ e) (Nat.le_refl _) (show zaz X.prog X.w _ _ _ (.tup ys) from⟨hz,its,r',IsTup.new _ _⟩)
    exact⟨.ref h'.objs.size,_,I2,rfl,q _ (I1.hok.fresh (Nat.le_refl _))⟩
  · obtain⟨its,r',pl,hz⟩:=I.tuple hq
    exact call_tuple_same pl ⟨.ref p,H,I,rfl,q⟩
def tyV (K:PySem.W.Frag) (T:String) (x:V) (H:Hp):Prop:=match x with
  | .str _=>T="str"
  | .int _=>T="int"
  | .ref p=>(T="list"∧∃ xs,SqL K H p xs)∨(T="tuple"∧∃ o,K.lookup p=some o∧o.cls=.type "tuple"∧o.dict=none) ∨
      (T="dict"∧((∃ kvs,H p=some (.dK kvs))∨∃ kvs,H p=some (.dT kvs)))∨(T="set"∧∃ S n,H p=some (.set S n))
  | _=>False
theorem ziY {pins:List (Addr × Obj)} {σ:St} {H:Hp} {s:Shared} {T:String} {x:V} {v:Value} (I:Inv X pins σ H s) (r:aL x v) (ty:tyV X.K T x H) :
    s.TypeIs v T∧∀ a,v=.ref a→∃ ob,s.heap.get? a=some ob∧ob.dict=none:=by
  cases x with
  | str z =>
    obtain⟨t,rfl⟩:=r
    cases (show T="str" from ty)
    exact⟨typeIs_str s z t,fun _ e=>nomatch e⟩
  | int i =>
    obtain⟨t,rfl⟩:=r
    cases (show T="int" from ty)
    exact⟨typeIs_int s i t,fun _ e=>nomatch e⟩
  | ref p =>
    cases r
    rcases ty with ⟨rfl,xs,hq⟩ | ⟨rfl,o,hk,hc,hd⟩ | ⟨rfl,hk⟩ | ⟨rfl,S,n,hk⟩
    · obtain⟨its,_,pl,_⟩:=I.list hq
      refine⟨pl.isList.typeIs,fun a e=>?_⟩
      cases e
      obtain⟨o,n,e,c,hd,_⟩:=pl
      exact⟨o,e,hd⟩
    · refine⟨⟨o,I.kIn p o hk,hc⟩,fun a e=>?_⟩
      cases e
      exact⟨o,I.kIn _ o hk,hd⟩
    · have z:∃ o,s.heap.get? p=some o∧o.ExactDict:=by
        rcases hk with ⟨kvs,hk⟩ | ⟨kvs,hk⟩
        · obtain⟨_,_,_,_,o,_,_,e,ex,_⟩:=I.hok p _ hk
          exact⟨o,e,ex⟩
        · obtain⟨_,_,_,_,o,_,_,e,ex,_⟩:=I.hok p _ hk
          exact⟨o,e,ex⟩
      obtain⟨o,e,ex⟩:=z
      refine⟨⟨o,e,ex.1⟩,fun a e2=>?_⟩
      cases e2
      exact⟨o,e,ex.2.1⟩
    · obtain⟨o,_,_,_,e,ex,_⟩:=I.hok p _ hk
      refine⟨⟨o,e,ex.1⟩,fun a e2=>?_⟩
      cases e2
      exact⟨o,e,ex.2.1⟩
  | _=>exact False.elim ty
def tBM0 (K:PySem.W.Frag) (T:String) (r:V→List V→Hp→VK→Prop) (to:TE):TE:=fun σ H Q=>to σ H fun x H1=>tyV K T x H1∧r x [] H1 Q
def tBM (K:PySem.W.Frag) (T:String) (r:V→List V→Hp→VK→Prop) (to:TE) (t:TA):TE:=fun σ H Q=>to σ H fun x H1=>tyV K T x H1∧t σ H1 fun xs H2=>r x xs H2 Q
variable {o e:Expr} {es:List Expr} {to:TE} {t:TA} {name:Str} {apos cpos:Pos} {T id:String} {r:V→List V→Hp→VK→Prop}
theorem zi6 (pa:PlainAttrs T) (slot:Slot T name id) (hty:typeOf (.builtin id)=pure (.type "method_descriptor")) (hm:MtR X id r) (ho:PE X o to)
    (hbase:attributeBase o name X.env (eval o X.env)=eval o X.env:=by rfl) (hline:(apos.endLine == cpos.line)=true:=by rfl):PE X (.Call (.Attribute o name apos) [] [] cpos) (tBM0 X.K T r to):=by
  intro pins s σ H Q I h
  refine wpAny_Call_method0_late hbase hline (thn (ho pins s σ H _ I h) fun v s1 ⟨x,H1,I1,r1,ty,q1⟩=>?_)
  obtain⟨h1,h2⟩:=ziY I1 r1 ty
  exact⟨T,id,pa,slot,hty,h1,h2,Calls.callWith_builtin rfl (PySem.evalArgs_none (hm pins s1 σ H1 x [] v [] Q I1 r1 .nil q1))⟩
theorem zcy (pa:PlainAttrs T) (slot:Slot T name id) (hty:typeOf (.builtin id)=pure (.type "method_descriptor")) (hm:MtR X id r) (ho:PE X o to) (ha:PA X (e :: es) t)
    (hbase:attributeBase o name X.env (eval o X.env)=eval o X.env:=by rfl)
    (hfew:((backTo cpos (starEach (e :: es) X.env)).all (fun x=>!x.1)&&(backToKw cpos (keywordEach [] X.env)).all (fun x=>x.1.isSome)
      && decide ((e :: es).length+([]:List Keyword).length+(if([]:List Keyword).isEmpty then 0 else 1) < 30))=true:=by rfl)
    (hline:(apos.endLine == cpos.line)=true:=by rfl) (hs:starEach (e :: es) X.env=(false,eval e X.env) :: starEach es X.env:=by rfl) (hplain:(backTo cpos (starEach es X.env)).any (·.1)=false:=by rfl) :
    PE X (.Call (.Attribute o name apos) (e :: es) [] cpos) (tBM X.K T r to t):=by
  intro pins s σ H Q I h
  refine wpAny_Call_method_late hbase hfew hline rfl (thn (ho pins s σ H _ I h) fun v s1 ⟨x,H1,I1,r1,ty,q1⟩=>?_)
  obtain⟨h1,h2⟩:=ziY I1 r1 ty
  refine⟨T,id,pa,slot,hty,h1,h2,?_⟩
  have hA:=ha cpos pins s1 σ H1 _ I1 q1
  rw[hs]at hA ⊢
  refine Calls.callWith_builtin (by show(false||(backTo cpos (starEach es X.env)).any (·.1))=false;rw[hplain] <;> rfl) (Calls.evalArgs_plain ?_)
  exact thn hA fun us s2 ⟨vs,H2,I2,r2,q2⟩=>hm pins s2 σ H2 x vs v us Q I2 r1 r2 q2
end
end L2
namespace L2
open PySem PySem.Spec PyProof.Rows
def MtM (X:Cx) (id:String) (r:V→List V→Hp→VK→Prop):Prop :=
  ∀(pins:List (Addr × Obj)) (s:Shared) (σ:St) (H:Hp) (x:V) (xs:List V) (v:Value) (us:List Value) (Q:VK),Inv X pins σ H s→aL x v→aI xs us→r x xs H Q →
    wpAny (model X.prog X.w) X.A (call (.builtin id) (v :: us)) (EP X pins σ Q) X.xe s
theorem aI.one:∀ {x:V} {us:List Value},aI [x] us→∃ u,us=[u]∧aL x u
  | _,_,.cons r .nil=>⟨_,rfl,r⟩
theorem aI.two:∀ {x y:V} {us:List Value},aI [x,y] us→∃ u v,us=[u,v]∧aL x u∧aL y v
  | _,_,_,.cons r (.cons q .nil)=>⟨_,_,rfl,r,q⟩
theorem aI.zero:∀ {us:List Value},aI [] us→us=[]
  | _,.nil=>rfl
theorem aI.dropLast {xs:List V} {us:List Value} (h:aI xs us):aI xs.dropLast us.dropLast:=by
  induction h with
  | nil=>exact .nil
  | cons r t ih =>
    cases t with
    | nil=>exact .nil
    | cons q t'=>exact .cons r ih
theorem ziT {α:Type} (l:List α):l.eraseIdx (l.length - 1)=l.dropLast:=by
  induction l with
  | nil=>rfl
  | cons a r ih =>
    cases r with
    | nil=>rfl
    | cons b r =>
      have e:(a :: b :: r).length - 1=((b :: r).length - 1)+1:=by
        have h1:(a :: b :: r).length=r.length+2:=rfl
        have h2:(b :: r).length=r.length+1:=rfl
        omega
      rw[e,List.eraseIdx_cons_succ,ih]
      all_goals rfl
section
variable {X:Cx} {pins:List (Addr × Obj)} {σ:St} {H:Hp} {s:Shared} {l b:Addr} {xs ys zs:List V}
theorem Inv.lset {its its':List Value} {n:Nat} {f:Array Value→Array Value} {t':Nat} (I:Inv X pins σ H s) (hH:H l=some (.lst xs))
    (e:s.heap.get? l=some { cls:=.type "list",data:=.seq its.toArray n }) (hf:f its.toArray=its'.toArray) (hv:aI ys its') (hz:ys.length≤sizeLine) :
    Inv X pins σ (upd H l (.lst ys)) { s with heap:=s.heap.update l (Obj.mapSeq f),toks:=t' }:=by
  have q:=PySem.IsL.update e f
  rw[hf]at q
  refine I.write (x:=l) (e:=l) (by rw[hH];exact trivial) (.inl rfl) (fun b' u hb hu=>(Heap.get?_update_other s.heap (Obj.mapSeq f) (Ne.symm hb)).trans hu) ⟨_,q⟩ ?_
  exact⟨hz,its',_,hv,q⟩
theorem Inv.lnew {its:List Value} {t':Nat} (I:Inv X pins σ H s) (hv:aI ys its) (hz:ys.length≤sizeLine) :
    Inv X pins σ (upd H s.heap.objs.size (.lst ys)) { s with heap:=s.heap.push { cls:=.type "list",data:=.seq its.toArray },toks:=t' } :=
  I.laid (fun _ _ q=>Heap.get?_push_of_some _ q) (Nat.le_refl _) ⟨hz,its,0,hv,Heap.get?_push_size _ rfl⟩
theorem Inv.fresh (I:Inv X pins σ H s):H s.heap.objs.size=none:=I.hok.fresh (Nat.le_refl _)
theorem Inv.lstM (I:Inv X pins σ H s) (hH:H l=some (.lst xs)):xs.length≤sizeLine∧∃(its:List Value) (n:Nat),aI xs its∧xs.length=its.length∧s.heap.get? l=some { cls:=.type "list",data:=.seq its.toArray n }:=by
  obtain⟨z,its,n,r,e⟩:=I.hok l _ hH
  exact⟨z,its,n,r,r.length,e⟩
theorem zkv {n:Nat} (h:n≤sizeLine):Builtin.List.listTooLong n=false:=by
  unfold Builtin.List.listTooLong
  exact decide_eq_false (by omega)
end
section
variable {X:Cx}
def zk7:V→List V→Hp→VK→Prop:=fun x vs H Q=>∃ l xs y,x=.ref l∧vs=[y]∧H l=some (.lst xs)∧xs.length < sizeLine∧Q .non (upd H l (.lst (xs++[y])))
theorem za5:MtM X "list.append" zk7:=by
  intro pins s σ H x vs v us Q I rx rv h
  obtain⟨l,xs,y,rfl,rfl,hH,hz,q⟩:=h
  cases rx
  obtain⟨u,rfl,ru⟩:=rv.one
  obtain⟨z,its,n,r,hl,e⟩:=I.lstM hH
  refine call_meets F.slot_list_append ⟨_,e,rfl⟩ F.entry_list_append (F.args_list_append_2 _ _) (PySem.list_append l its.toArray n u (by rw[List.size_toArray];omega)) ⟨e,?_⟩
  refine⟨.non,_,I.lset (its':=its++[u]) hH e (by simp) (r.append (.cons ru .nil)) ?_,rfl,q⟩
  rw[List.length_append,List.length_singleton]
  omega
def zk6:V→List V→Hp→VK→Prop:=fun x vs H Q=>∃ l b xs zs,x=.ref l∧vs=[.ref b]∧H l=some (.lst xs)∧H b=some (.lst zs)∧xs.length+zs.length≤sizeLine∧Q .non (upd H l (.lst (xs++zs)))
theorem zgN:MtM X "list.extend" zk6:=by
  intro pins s σ H x vs v us Q I rx rv h
  obtain⟨l,b,xs,zs,rfl,rfl,hH,hB,hz,q⟩:=h
  cases rx
  obtain⟨u,rfl,ru⟩:=rv.one
  cases ru
  obtain⟨z,its,n,r,hl,e⟩:=I.lstM hH
  obtain⟨z2,its2,n2,r2,hl2,e2⟩:=I.lstM hB
  have hsz:its.toArray.size+its2.toArray.size≤sizeLine:=by rw[List.size_toArray,List.size_toArray];omega
  have hlong:¬(!its.toArray.isEmpty&&Builtin.List.listTooLong (its.toArray.size+its2.toArray.size))=true:=by
    rw[zkv hsz,Bool.and_false]
    exact Bool.false_ne_true
  refine call_meets F.slot_list_extend ⟨_,e,rfl⟩ F.entry_list_extend (F.args_list_extend_2 _ _)
    (AutoSeq1.list_extend_list_list_0 l its.toArray n b its2.toArray n2 hlong (by rw[List.size_toArray];omega) (by omega)) ⟨e,e2,?_⟩
  refine⟨.non,_,I.lset (its':=its++its2) hH e (by simp) (r.append r2) ?_,rfl,q⟩
  rw[List.length_append]
  omega
def rPop:V→List V→Hp→VK→Prop:=fun x vs H Q=>∃ l xs y,x=.ref l∧vs=[]∧H l=some (.lst xs)∧xs[xs.length - 1]?=some y∧Q y (upd H l (.lst xs.dropLast))
theorem zjd:MtM X "list.pop" rPop:=by
  intro pins s σ H x vs v us Q I rx rv h
  obtain⟨l,xs,y,rfl,rfl,hH,hy,q⟩:=h
  cases rx
  have hus:=rv.zero
  subst hus
  obtain⟨z,its,n,r,hl,e⟩:=I.lstM hH
  obtain⟨u,hu,ru⟩:=r.get hy
  have hy':its.toArray[its.toArray.size - 1]?=some u:=by
    show its.toArray[its.length - 1]?=some u
    rw[←Array.getElem?_toList,←hl]
    exact hu
  refine call_meets F.slot_list_pop ⟨_,e,rfl⟩ F.entry_list_pop (F.args_list_pop_1 _) (MeetsSeq.list_pop_last l its.toArray n u hy' (by rw[List.size_toArray];omega)) ⟨e,?_⟩
  refine⟨y,_,I.lset (its':=its.dropLast) hH e ?_ r.dropLast ?_,ru,q⟩
  · show its.toArray.eraseIdxIfInBounds (its.toArray.size - 1)=its.dropLast.toArray
    rw[List.size_toArray,List.eraseIdxIfInBounds_toArray,ziT]
  · rw[List.length_dropLast]
    omega
def rCat:R2:=fun x y H Q=>∃ l b xs zs,x=.ref l∧y=.ref b∧H l=some (.lst xs)∧H b=some (.lst zs)∧xs.length+zs.length≤sizeLine∧∀ p,H p=none→Q (.ref p) (upd H p (.lst (xs++zs)))
theorem zek:OpR X (binaryOp .Add) rCat:=by
  intro pins s σ H x y v u Q I rx ry h
  obtain⟨l,b,xs,zs,rfl,rfl,hH,hB,hz,q⟩:=h
  cases rx
  cases ry
  obtain⟨z,its,n,r,hl,e⟩:=I.lstM hH
  obtain⟨z2,its2,n2,r2,hl2,e2⟩:=I.lstM hB
  refine PySem.P.add_list e e2 ?_ (by rw[List.size_toArray,List.size_toArray];omega)
  have ea:its.toArray++its2.toArray=(its++its2).toArray:=by simp
  rw[ea]
  exact⟨.ref _,_,I.lnew (t':=s.toks) (r.append r2) (by rw[List.length_append];omega),rfl,q _ I.fresh⟩
end
section
variable {prog:Program} {w:World} {A:Around} {E:Value→Shared→Prop} {s:Shared}
end
section
variable {X:Cx}
end
end L2
namespace Att
open PySem PySem.W PySem.Calls PyProof.Rows
theorem zgg {P:Params} {h:Heap}:∀(ns:List Int) (vs:List Value),WellAll P h vs (ns.map WData.int)→IntsAre vs ns:=by
  intro ns
  induction ns with
  | nil =>
    intro vs w
    rw[List.map_nil]at w
    cases w
    exact .nil
  | cons n ns ih =>
    intro vs w
    rw[List.map_cons]at w
    cases w with
    | cons a b =>
      cases a
      exact .cons _ _ (ih _ b)
theorem zjC {l:OpenLaw} {n:Nat} (hn:l.most=some n) {P:Params} {h:Heap} {args:List WData} {vals:List Value}
    (hpre:l.row.toRowW.claim.pre args=true) (hwl:WellAll P h vals args) :
    ∃ a vs ns,vals=[Value.ref a]∧args=[WData.list (ns.map WData.int)]∧h.get? a=some { cls:=.type "list",data:=.seq vs.toArray }∧IntsAre vs ns∧ns.length≤n:=by
  have hsh:WShape.hasAll [] args [.list .int]=true:=(pre_splitW hpre).1
  have hc:l.pre.holds [] { args:=args }=true:=(pre_splitW hpre).2
  obtain⟨d,r,rfl,h1,h2⟩:=hasAllW_cons hsh
  obtain rfl:=hasAllW_nil h2
  obtain⟨xs,rfl,h3⟩:=hasW_list h1
  obtain⟨ns,rfl⟩:=items_int h3
  have hlen:ns.length≤n:=by
    unfold OpenLaw.pre at hc
    have h4:(WTm.not (.lt (.lit (.int (n:Int))) (.len (.arg 0)))).holds [] { args:=[.list (ns.map .int)] }=true:=by
      have h4:=(holds_andW hc).1
      rw[hn]at h4
      exact h4
    have h5:=condW_of h4 (w_not (w_lt w_lit (w_len_list (w_arg rfl))))
    rw[List.length_map]at h5
    refine Nat.le_of_not_lt fun q=>?_
    have q':(n:Int) < ((ns.length:Nat):Int):=by omega
    first
      | (rw[decide_eq_true q']at h5;exact absurd h5 (by decide))
      | (simp at h5;omega)
  cases hwl with
  | cons w1 w2 =>
    cases w2
    cases w1 with
    | list ho hall=>exact⟨_,_,ns,rfl,rfl,ho,zgg ns _ hall,hlen⟩
theorem zjE (l:OpenLaw) (args:List WData):l.row.toRowW.claim.post args (.bool true) args=true :=
  postW_of (r:=l.row.toRowW) (X:=(true == true))
    (show WShape.has [] (.bool true) .bool=true by first | rfl | decide | simp [WShape.has,WShape.arms,WShape.armsAll])
    (show(WTm.eq .res (.lit (.bool true))).value [] { args:=args,res:=some (.bool true),after:=args }=some (.bool (true == true)) from w_eq_bool (w_res rfl) w_lit) rfl
theorem attach_call {l:OpenLaw} {n:Nat} {q:Program} {loose:List Str} {XP:(Str→Option Value)→Heap→Prop} {YP:World→Heap→Prop} {d:DefRec}
    (hn:l.most=some n) (hdf:d.params.defaults=[])
    (call:∀(w:World) (s₀ s₁:Shared) (mg mb:Str→Option Value) (fa:Addr) (o:Obj) (pm cd doc:Value) (a:Addr) (vs:List Value) (ns:List Int),
      Ground q loose [] XP w s₀ mg mb s₁.heap→YP w s₁.heap →
      s₁.heap.get? fa=some o→o.data=.func (docDef d.name d.params d.body d.scope pm cd doc)→s₁.heap.CodeRec cd d.name→mg d.name=some (.ref fa) →
      s₁.heap.get? a=some { cls:=.type "list",data:=.seq vs.toArray }→IntsAre vs ns→ns.length≤n→s₁.gens=#[] →
      codeAny (model l.prog w) callerA (.call (.ref fa) ⟨[.ref a],[]⟩) (fun r s'=>r=.ok (.ret (.bool true))∧OldK s₁.heap s'.heap∧s'.os=s₁.os∧AllBare s'.gens) s₁) :
    WalkO q loose XP YP l.row.toRowW d [] (fun f vs=>PySem.call f vs):=by
  intro w s₀ s₁ mg mb G Y fa o pm cd doc dV kV ho hd hcd hD hmg hg args vals as hpre hlay hrd hwl hlo
  obtain rfl:dV=.none:=Dflts.none hD hdf
  obtain rfl:kV=.none:=Dflts.noKw hD
  obtain⟨a,vs,ns,rfl,rfl,hobj,hints,hlen⟩:=zjC hn hpre hwl
  refine enter_call (codeAny_mono (call w s₀ s₁ mg mb fa o pm cd doc a vs ns G Y ho (fd_plain hd) hcd hmg hobj hints hlen hg) fun r s' hq=>?_)
  obtain⟨rfl,h2,h3,h4⟩:=hq
  exact⟨.inl ⟨.bool true,.bool true,[],rfl,fun _=>rfl,.bool true,zjE l _,fun _=>⟨List.Pairwise.nil,fun _ hm=>(nomatch hm)⟩⟩,h2,h3,h4⟩
section
variable {prog:Program} {w:World} {A:Around} {E:Value→Shared→Prop} {s:Shared} {K:Frag}
def ledger (h:Heap) (L d:Addr):List (Addr × Obj):=(List.range h.objs.size).filterMap fun a=>if a=L∨a=d then none else(h.get? a).map fun o=>(a,o)
end
end Att
namespace L2
open PySem PySem.Spec PyProof.Rows
theorem zd0:∀ {vs:List Value} {ns:List Int},IntsAre vs ns→aI (ns.map V.int) vs
  | _,_,.nil=>.nil
  | _,_,.cons n t h=>.cons ⟨t,rfl⟩ (zd0 h)
def Only (H:Hp):Prop:=∀ b,H b=none∨∃ o xs,H b=some (.frz o (.lst xs))
theorem zky {P:Program} {w:World} {K:PySem.W.Frag} {mg mb:Str→Option Value} {CX:CXT} {k:Nat} {fa a:Addr} {fd:FuncData} {x:Str} {sp:Sp} {s₁:Shared} {vs:List Value} {ns:List Int}
    (KX:K.In s₁.heap) (hns:s₁.heap.Ns mainGlobals mg) (hb:s₁.heap.Ns builtinsNs mb) (hbb:∀ x:Str,x≠"__name__"→mb x=bootBuiltins x) (hlim:s₁.heap.NoLimit) (hg:s₁.gens=#[])
    (ha:s₁.heap.get? a=some { cls:=.type "list",data:=.seq vs.toArray }) (hi:IntsAre vs ns) (hl:ns.length≤sizeLine) (hr:aO k callerA)
    (F:∀ base:Heap,K.In base→base.Ns mainGlobals mg→aH P w K mg base CX k fa fd [x] sp) (hbind:∀(s:Shared) (u:Value),BindsTo s fd ⟨[u],[]⟩ [(x,u)])
    (hsp:∀ H:Hp,Only H→SqL K H a (ns.map V.int)→sp [.ref a] H (fun v _=>v=.bl true) fun _ _ _=>False)
    (hCX:∀ H e s',CX [] H s₁ (fun _ _ _=>False) e s'→False) :
    codeAny (model P w) callerA (.call (.ref fa) ⟨[.ref a],[]⟩) (fun r s'=>r=.ok (.ret (.bool true))∧OldK s₁.heap s'.heap∧s'.os=s₁.os∧AllBare s'.gens) s₁:=by
  have rv:=zd0 hi
  have lenV:=hi.length
  have core:∀ H:Hp,Only H→SqL K H a (ns.map V.int)→HOk P w H s₁.heap→(∀ b,H b≠none→b=a)→(H a≠none→K.lookup a=none) →
      codeAny (model P w) callerA (.call (.ref fa) ⟨[.ref a],[]⟩) (fun r s'=>r=.ok (.ret (.bool true))∧OldK s₁.heap s'.heap∧s'.os=s₁.os∧AllBare s'.gens) s₁:=by
    intro H hO hS hok hA hK
    have base_of:∀ {b:Addr} {o:Obj},s₁.heap.get? b=some o→H b=none→(zeA s₁.heap H).get? b=some o:=fun e n=>zkz e n
    have noA:∀ {b:Addr} {o:Obj} {es:Array DictEntry} {ep:Nat},s₁.heap.get? b=some o→o.data=.dict es ep→H b=none:=fun {b o es ep} e d=>by
      cases q:H b with
      | none=>rfl
      | some u =>
        have e':b=a:=hA b (by rw[q];simp)
        subst e'
        rw[ha]at e;cases e
        have d':Data.seq vs.toArray _=Data.dict es ep:=d
        cases d'
    have nsK:∀ {b:Addr} {m:Str→Option Value},s₁.heap.Ns b m→(zeA s₁.heap H).Ns b m:=fun {b m} ⟨o,es,ep,e,d,r⟩=>⟨o,es,ep,base_of e (noA e d),d,r⟩
    have hKb:K.In (zeA s₁.heap H):=fun b o e=>base_of (KX b o e) (by
      cases q:H b with
      | none=>rfl
      | some u =>
        have e':b=a:=hA b (by rw[q];simp)
        subst e'
        rw[hK (by rw[q];simp)]at e;cases e)
    have hM:Mod K mg (zeA s₁.heap H):=⟨hKb,nsK hns,⟨mb,nsK hb,hbb⟩,let ⟨mc,h1,h2⟩:=hlim;⟨mc,nsK h1,h2⟩⟩
    have e0:zd9 P w K mg (zeA s₁.heap H) callerA [] s₁ H:=⟨rfl,hM,fun b o e=>zli e,Nat.le_of_eq (zjZ _ _),trivial,fun b hb=>absurd (show b∈([]:List Addr) from hb) (by simp),hok,.of_eq hg⟩
    refine codeAny_mono ((F _ hKb (nsK hns)).run callerA [] s₁ H ⟨[.ref a],[]⟩ [.ref a] [.ref a] _ _ hr e0 (hbind s₁ (.ref a)) (.cons rfl .nil) (hsp H hO hS)) fun r s' h=>?_
    cases r with
    | error e=>exact(hCX H e s' h).elim
    | ok fl =>
      cases fl with
      | next=>exact False.elim h
      | brk=>exact False.elim h
      | cont=>exact False.elim h
      | ret u =>
        obtain⟨v,H',os,bare,un,hok',r',q⟩:=h
        have q':v=.bl true:=q
        subst q'
        obtain rfl:u=Value.bool true:=r'
        refine⟨rfl,OldK.of_keep fun b o e=>?_,os,bare⟩
        cases q:H b with
        | none=>exact un.keep b o e q (by intro z;exact absurd (show b∈([]:List Addr) from z) (by simp)) (by simp)
        | some u =>
          rcases hO b with z | ⟨ob,xs,z⟩
          · rw[q]at z;cases z
          · have z2:=un.frzs b ob _ z
            obtain⟨e1,_⟩:=hok b _ z
            obtain⟨e2,_⟩:=hok' b _ z2
            rw[e]at e1;cases e1
            exact e2
  cases hk:K.lookup a with
  | some o =>
    have e:=KX a o hk
    rw[ha]at e
    cases e
    refine core (fun _=>none) (fun _=>.inl rfl) (.inr ⟨_,vs.toArray,_,hk,rfl,rfl,rfl,by rw[List.size_toArray,lenV];exact hl,by simpa using rv⟩) (fun b u z=>by have z':(none:Option HO)=some u:=z;cases z') (fun b z=>absurd rfl z) fun z=>absurd rfl z
  | none =>
    refine core (fun b=>if b=a then some (.frz { cls:=.type "list",data:=.seq vs.toArray } (.lst (ns.map V.int))) else none) (fun b=>?_) (.inl (.inr ⟨{ cls:=.type "list",data:=.seq vs.toArray },if_pos rfl⟩)) (fun b u z=>?_) (fun b z=>?_) fun _=>hk
    · by_cases hb:b=a
      · exact .inr ⟨_,_,if_pos hb⟩
      · exact .inl (if_neg hb)
    · by_cases hb:b=a
      · have z':=(if_pos hb).symm.trans z
        cases z'
        subst hb
        exact⟨ha,by rw[List.length_map];exact hl,vs,_,rv,ha⟩
      · have z':=(if_neg hb).symm.trans z
        cases z'
    · by_cases hb:b=a
      · exact hb
      · exact absurd (if_neg hb) z
end L2
namespace L2
open PySem PySem.Spec PyProof.Rows
abbrev KOf {K:PySem.W.Frag} {h:Heap} (_:K.In h):PySem.W.Frag:=K
theorem walk_of {l:PySem.W.OpenLaw} {n k:Nat} {q:Program} {loose:List Str} {XP:(Str→Option Value)→Heap→Prop} {YP:World→Heap→Prop} {d:DefRec} {K:Params→PySem.W.Frag} {CX:World→CXT} {sp:World→Sp} {x:Str}
    (hn:l.most=some n) (hn2:n≤sizeLine) (hdf:d.params.defaults=[]) (hr:aO k callerA)
    (hY:∀(w:World) (h:Heap),YP w h→(K w.params).In h)
    (F:∀(w:World) (mg:Str→Option Value) (fa:Addr) (h:Heap),(K w.params).In h→h.Ns mainGlobals mg→mg d.name=some (.ref fa) →
      ∃ fd:FuncData,(∀(s:Shared) (u:Value),BindsTo s fd ⟨[u],[]⟩ [(x,u)]) ∧
        ∀ base:Heap,(K w.params).In base→base.Ns mainGlobals mg→aH l.prog w (K w.params) mg base (CX w) k fa fd [x] (sp w))
    (hsp:∀(w:World) (H:Hp) (a:Addr) (ns:List Int),ns.length≤n→Only H→SqL (K w.params) H a (ns.map V.int)→sp w [.ref a] H (fun v _=>v=.bl true) fun _ _ _=>False)
    (hCX:∀(w:World) (H:Hp) (s:Shared) (e:Value) (s':Shared),CX w [] H s (fun _ _ _=>False) e s'→False) :
    PySem.W.WalkO q loose XP YP l.row.toRowW d [] (fun f vs=>PySem.call f vs):=by
  refine Att.attach_call hn hdf fun w s₀ s₁ mg mb fa o pm cd doc a vs ns G Y ho hd hcd hmg hobj hints hlen hg=>?_
  have KX:=hY w _ Y
  obtain⟨fd,hb,hF⟩:=F w mg fa _ KX G.T.g hmg
  exact zky KX G.T.g G.T.b G.T.builtins G.T.nolimit hg hobj hints (Nat.le_trans hlen hn2) hr hF hb (fun H hO hS=>hsp w H a ns hlen hO hS) fun H e s'=>hCX w H s₁ e s'
end L2
namespace L2
open PySem PySem.Spec PyProof.Rows
def zci (s:Stmt) (j:Nat):Stmt:=match s with
  | .ClassDef _ _ _ body _ _ _ _ _ _ _=>body.getD j (.Pass ⟨0,0,0,0⟩)
  | _=>.Pass ⟨0,0,0,0⟩
def zcj (s:Stmt):Arguments:=match s with
  | .FunctionDef _ a _ _ _ _ _ _ _ _=>a
  | _=>{ posonlyargs:=[],args:=[],vararg:=none,kwonlyargs:=[],kw_defaults:=[],kwarg:=none,defaults:=[] }
def za3 (s:Stmt):List Stmt:=match s with
  | .FunctionDef _ _ b _ _ _ _ _ _ _=>b
  | _=>[]
def ar (s:Stmt):Scope:=match s with
  | .FunctionDef _ _ _ _ _ _ sc _ _ _=>sc
  | _=>{ kind:=.function,names:=[],isGenerator:=false,isCoroutine:=false }
abbrev CX0:CXT:=fun _ _ _ _ _ _=>False
abbrev E0:XK:=fun _ _ _=>False
theorem aE {X:Cx}:zde CX0 X E0:=fun _ _ _ _ _ _ _ h=>h.elim
structure Fun (K:PySem.W.Frag) (x qual:Str) (st:Stmt) (f:Addr) (fd:FuncData):Prop where
  ex:∃(oc:Value) (od:Option Addr) (kV doc pm:Value) (an:Option Addr) (cdv ct:Value) (osl:Array (Option Value)),
    fd=PySem.W.fnOf x qual (zcj st) (za3 st) (ar st) .none kV doc pm an cdv ct∧K.lookup f=some ⟨oc,od,.func fd,osl⟩∧PySem.W.codeIn K cdv qual=true
  kp:PySem.W.keepIn K (.ref f)=true
section
variable {P:Program} {w:World} {K:PySem.W.Frag} {mg:Str→Option Value} {base:Heap}
theorem Fun.ok {x qual:Str} {st:Stmt} {f:Addr} {fd:FuncData} {N ps:List Str} {k:Nat} {sp:Sp} (F:Fun K x qual st f fd) (S:zae N ps (ar st)) (len:∀ vs H Q E,sp vs H Q E→vs.length=ps.length)
    (hbody:∀(cdv:Value) (A:Around) (outer:List Env) (s:Shared) (H:Hp) (vs:List V) (Q:VK) (E:XK),aO k (A.deeper (envOfC qual (ar st) s.heap.objs.size f cdv))→sp vs H Q E →
      ∃ t,PSs (zcK CX0 P w K mg base N qual (ar st) f cdv A outer s H E).nox (za3 st) t∧t { nx:=fun _ H'=>Q .non H',rt:=Q } (zc7 N vs) H):aH P w K mg base CX0 (k+1) f fd ps sp:=by
  obtain⟨oc,od,kV,doc,pm,an,cdv,ct,osl,rfl,lk,hcd⟩:=F.ex
  refine ziz lk hcd S len fun A outer s H vs Q E hr hsp=>?_
  obtain⟨t,h,q⟩:=hbody cdv A outer s H vs Q E hr hsp
  exact⟨t,h.nox,q⟩
theorem Fun.binds {x qual:Str} {st:Stmt} {f:Addr} {fd:FuncData} {ps:List Str} (F:Fun K x qual st f fd)
    (h:∀(kV doc pm:Value) (an:Option Addr) (cdv ct:Value) (us:List Value),us.length=ps.length→bindArgs (PySem.W.fnOf x qual (zcj st) (za3 st) (ar st) .none kV doc pm an cdv ct) ⟨us,[]⟩=pure (ps.zip us)):aD K fd ps []:=by
  obtain⟨oc,od,kV,doc,pm,an,cdv,ct,osl,rfl,lk,hcd⟩:=F.ex
  exact .all (h kV doc pm an cdv ct)
theorem zjn {x qual:Str} {st:Stmt} {f:Addr} {oc:Value} {od an:Option Addr} {osl:Array (Option Value)} {kV doc pm cdv ct:Value} (l:K.lookup f=some ⟨oc,od,.func (PySem.W.fnOf x qual (zcj st) (za3 st) (ar st) .none kV doc pm an cdv ct),osl⟩)
    (c:PySem.W.codeIn K cdv qual=true) (k:PySem.W.keepIn K (.ref f)=true):Fun K x qual st f (PySem.W.fnOf x qual (zcj st) (za3 st) (ar st) .none kV doc pm an cdv ct):=⟨⟨oc,od,kV,doc,pm,an,cdv,ct,osl,rfl,l,c⟩,k⟩
end
theorem zeE {A:Around} {k:Nat} (hr:aO k A):A.units+1 < cLine:=Nat.lt_of_le_of_lt (Nat.add_le_add_left (by decide:1≤64) _) hr.units
theorem zaY {n:Nat} (h:n≤1000):n < sizeLine:=Nat.lt_of_le_of_lt h (by decide)
section
variable {X:Cx}
theorem pv (i:Nat) {x:Str} {pos:Pos} (hN:X.N[i]?=some x:=by rfl) (hv:Vis X.env.scope x:=by first | exact Or.inl rfl | exact Or.inr (Or.inl rfl) | exact Or.inr (Or.inr rfl)) (hd:(x == ("__debug__":Str))=false:=by decide)
    (hcd:(x == ("__classdict__":Str))=false:=by decide):PE X (.Name x pos) (tVar i):=pe_var hN hv hd hcd
end
theorem aP {A B:Prop} (h:B):if false=true then A else B:=by
  rw[if_neg Bool.false_ne_true]
  exact h
theorem zaK {A B:Prop} (h:A):if true=true then A else B:=by
  rw[if_pos rfl]
  exact h
theorem zaq {c A B:Prop} [Decidable c] (h1:c→A) (h2:¬c→B):if c then A else B:=by
  by_cases h:c
  · rw[if_pos h]
    exact h1 h
  · rw[if_neg h]
    exact h2 h
def ao (H H':Hp):Prop:=∀ b o,H b=some o→H' b=some o
theorem ao.refl (H:Hp):ao H H:=fun _ _ h=>h
theorem ao.trans {H H1 H2:Hp} (a:ao H H1) (b:ao H1 H2):ao H H2:=fun c o h=>b c o (a c o h)
theorem ao.free {H H':Hp} (e:ao H H') {l:Addr} (h:H' l=Option.none):H l=Option.none:=by
  cases q:H l with
  | none=>rfl
  | some o =>
    rw[e l o q]at h
    cases h
theorem ao.seq {K:PySem.W.Frag} {H H':Hp} {a:Addr} {xs:List V} (e:ao H H') (h:SqL K H a xs):SqL K H' a xs:=by
  rcases h with (h | ⟨o,h⟩) | h
  · exact .inl (.inl (e _ _ h))
  · exact .inl (.inr ⟨o,e _ _ h⟩)
  · exact .inr h
end L2
theorem lS0:0≤PySem.sizeLine:=by decide
theorem lS1:1≤PySem.sizeLine:=by decide
theorem lS2:2≤PySem.sizeLine:=by decide
theorem lS3:3≤PySem.sizeLine:=by decide
theorem lS4:4≤PySem.sizeLine:=by decide
namespace L2
open PySem PySem.Spec PyProof.Rows
section
variable {X:Cx} {e l:Expr} {te tl:TE} {pos:Pos} {tg:Expr}
def Its (z:Str):It:=⟨fun i _=>i < z.length,fun i H x H'=>H'=H∧∃ c,z.cps[i]?=some c∧x=.str ⟨#[c]⟩,fun i _=>z.length≤i⟩
theorem zhi {P:Program} {w:World} {K:W.Frag} {ty:String} (hty:ty="str_ascii_iterator"∨ty="str_iterator") (it:Addr) (z:Str) (t:Tok):zfJ P w K tg (Its z) [it] it (fun i h=>h.IsStrIter it ty z t i) where
 mem:=by simp
 obj:=fun i h st b hb=>by
  have e:b=it:=by simpa using hb
  subst e
  obtain⟨o,e,c,d⟩:=st
  exact⟨o,e,fun v z=>by rw[d]at z;cases z⟩
 keep:=fun i h h' st k=>by
  obtain⟨o,e,r⟩:=st
  exact⟨o,k it (by simp) o e,r⟩
 item:=by
  intro X hP hw hK hc i pins s σ H E I hf st hg
  subst hP hw hK
  have hi:i < z.cps.size:=hg
  have hx:z.cps[i]?=some z.cps[i]:=by simp [hi]
  obtain⟨f0,f1,f2,f3,f4,f5⟩:=hf it (by simp)
  rcases hty with rfl | rfl
  ·refine wpAny_pyNext_ascii_item st hx fun h' st' sb=>?_
   have I1:Inv X pins σ H { s with heap:=h',toks:=s.toks+1 }:=I.turned (t':=s.toks+1) (fun b o hb e=>(sb.2 b hb).trans e) f0 f1 f3 f4 f5
   obtain⟨o,e,c,d⟩:=id st'
   exact⟨_,rfl,zff (s:={ s with heap:=h',toks:=s.toks+1 }) e c d (by decide) ⟨.str ⟨#[z.cps[i]]⟩,H,I1,⟨_,rfl⟩,⟨rfl,_,hx,rfl⟩,st',fun b hb=>(hf b hb).1⟩⟩
  ·refine wpAny_pyNext_wide_item st hx fun h' st' sb=>?_
   have I1:Inv X pins σ H { s with heap:=h',toks:=s.toks+1 }:=I.turned (t':=s.toks+1) (fun b o hb e=>(sb.2 b hb).trans e) f0 f1 f3 f4 f5
   obtain⟨o,e,c,d⟩:=id st'
   exact⟨_,rfl,zff (s:={ s with heap:=h',toks:=s.toks+1 }) e c d (by decide) ⟨.str ⟨#[z.cps[i]]⟩,H,I1,⟨_,rfl⟩,⟨rfl,_,hx,rfl⟩,st',fun b hb=>(hf b hb).1⟩⟩
 done:=by
  intro X hP hw hK hc i pins s σ H E I hf st hg
  subst hP hw hK
  have hi:z.cps.size≤i:=hg
  have hx:z.cps[i]?=none:=by simp [hi]
  obtain⟨f0,f1,f2,f3,f4,f5⟩:=hf it (by simp)
  rcases hty with rfl | rfl
  ·exact wpAny_pyNext_ascii_end (I.ok.hd hc) st hx fun h' eb=>⟨rfl,I.turned (t':=s.toks) (fun b o hb e=>eb b o hb e) f0 f1 f3 f4 f5⟩
  ·exact wpAny_pyNext_wide_end (I.ok.hd hc) st hx fun h' eb=>⟨rfl,I.turned (t':=s.toks) (fun b o hb e=>eb b o hb e) f0 f1 f3 f4 f5⟩
 self:=fun _ _ _ _ _ st h=>by
  rcases hty with rfl | rfl
  ·exact wpAny_pyIter_striter_ascii st h
  ·exact wpAny_pyIter_striter_wide st h
def iStr (tl:TE):TI:=fun σ H R=>tl σ H fun x H1=>∃ z,x=.str z∧R (Its z) H1
theorem pi_str (hl:PE X l tl):PI X tg l (iStr tl):=by
 intro pins s σ H R I h
 refine thn (hl pins s σ H _ I h) fun v s1 ⟨x,H1,I1,r1,q1⟩=>?_
 obtain⟨z,e,q⟩:=q1
 subst e
 obtain⟨t,rfl⟩:=r1
 have fp:∀ b∈[s1.heap.objs.size],zbA X pins H1 b:=fun b hb=>by
  have e:b=s1.heap.objs.size:=by simpa using hb
  subst e
  exact I1.fpOk (Nat.le_refl _) (I1.hok.fresh (Nat.le_refl _))
 cases ha:z.cps.all (· < 128) with
 | true =>
  refine wpAny_pyIter_ascii ha ?_
  exact⟨s1.heap.objs.size,[s1.heap.objs.size],_,_,H1,rfl,I1.kept (t':=s1.toks) fun b o e=>Heap.get?_push_of_some _ e,zhi (.inl rfl) _ z t,⟨_,Heap.get?_push_size _ rfl,rfl,rfl⟩,fp,q⟩
 | false =>
  refine wpAny_pyIter_wide ha ?_
  exact⟨s1.heap.objs.size,[s1.heap.objs.size],_,_,H1,rfl,I1.kept (t':=s1.toks) fun b o e=>Heap.get?_push_of_some _ e,zhi (.inr rfl) _ z t,⟨_,Heap.get?_push_size _ rfl,rfl,rfl⟩,fp,q⟩
theorem zgB (hc:X.calm=true):zbI X (.builtin "all") (fun xs H Q=>∃(p:Addr) (bs:List Bool),xs=[.ref p]∧SqL X.K H p (bs.map V.bl)∧Q (.bl (bs.all id)) H):=by
 intro pins s σ H xs us Q I r h
 obtain⟨p,bs,rfl,hq,q⟩:=h
 obtain⟨u,rfl,rx⟩:=zdp r
 cases rx
 obtain⟨its,rv,pl,hz⟩:=I.list hq
 have hl:=rv.length
 rw[List.length_map]at hl
 have hp:p < s.heap.objs.size:=by
  obtain⟨o,ho,_⟩:=pl.isList
  exact Heap.lt_size ho
 have hne:p≠s.heap.objs.size:=Nat.ne_of_lt hp
 refine call_all_walk (wpAny_pyIter_list pl.isList ?_)
 refine⟨s.heap.objs.size,[s.heap.objs.size,p],[s.heap.objs.size],its.toArray.size,_,_,fun i=>bs.getD i true,rfl,Walks.list (show X.A.in1.handled=none from I.ok.hd hc) _ p hne its.toArray,⟨⟨_,Heap.get?_push_size _ rfl,rfl,rfl⟩,pl.isList.push _⟩,?_,fun h' tk hk=>?_⟩
 ·intro i v s' Q' E' hv hQ
  have hv':its[i]?=some v:=by simpa using hv
  have hi:i < its.length:=(List.getElem?_eq_some_iff.mp hv').1
  have hb:bs[i]?=some (bs.getD i true):=by
   rw[List.getD_eq_getElem?_getD,List.getElem?_eq_getElem (by omega)]
   rfl
  obtain⟨w',e1,e2⟩:=rv.get (i:=i) (x:=.bl (bs.getD i true)) (by rw[List.getElem?_map,hb];rfl)
  rw[hv']at e1
  cases e1
  cases (show v=Value.bool _ from e2)
  exact wpAny_truthy_bool hQ
 ·have e:(List.range its.toArray.size).all (fun i=>bs.getD i true)=bs.all id:=by
   rw[Bool.eq_iff_iff,List.all_eq_true,List.all_eq_true]
   constructor
   ·intro h x hx
    obtain⟨i,hi,rfl⟩:=List.mem_iff_getElem.mp hx
    have:=h i (List.mem_range.mpr (by simp only[List.size_toArray];omega))
    rw[List.getD_eq_getElem?_getD,List.getElem?_eq_getElem hi]at this
    exact this
   ·intro h i hi
    have hi':i < bs.length:=by have:=List.mem_range.mp hi;simp only[List.size_toArray]at this;omega
    rw[List.getD_eq_getElem?_getD,List.getElem?_eq_getElem hi']
    exact h _ (List.getElem_mem hi')
  refine⟨.bl (bs.all id),H,I.kept (t':=tk) fun b o eb=>hk b o ?_ (Heap.get?_push_of_some _ eb),congrArg Value.bool e,q⟩
  intro hm
  have:b=s.heap.objs.size:=by simpa using hm
  exact absurd (Heap.lt_size eb) (by rw[this];exact Nat.lt_irrefl _)
theorem zfG:zbI X (.builtin "isinstance") (fun xs H Q=>∃ x t n b,xs=[x,.ty n]∧zcD X.K H x t∧W.kitOne X.K t (.type n)=some b∧Q (.bl b) H):=by
 intro pins s σ H xs us Q I r h
 obtain⟨x,t,n,b,rfl,ty,hk,q⟩:=h
 obtain⟨u,w',rfl,rx,ry⟩:=zg0 r
 cases (show w'=Value.type n from ry)
 exact zjX I rx ty hk fun tk=>⟨.bl b,H,I.tok _,rfl,q⟩
end
structure Clo (X:Cx) (scope:Scope) (cl:List (Str × Addr)):Prop where
 eq:closureFor scope X.env=pure cl
 sub:∀ y c,cl.lookup y=some c→X.env.cells.lookup y=some c
 has:∀ y,((relabel scope X.env).names.lookup y=some .cell∨(relabel scope X.env).names.lookup y=some .free)→∃ c,cl.lookup y=some c
theorem zbK {X:Cx} {scope:Scope} (hfree:∀ x∈scope.names,x.2≠.free) (hcell:∀ x∈scope.names,x.2≠.cell):Clo X scope []:=by
 refine⟨closureFor_none hfree,fun y c h=>by simp at h,fun y h=>?_⟩
 have e:(relabel scope X.env).names=scope.names:=by
  unfold relabel
  refine map_eq_self (fun x hx=>?_)
  obtain⟨n,k⟩:=x
  have:(k == NameKind.free)=false:=by simpa using hfree _ hx
  simp [this]
 rw[e]at h
 rcases h with h | h
 ·exact absurd rfl (hcell _ (PySem.mem_of_lookup h))
 ·exact absurd rfl (hfree _ (PySem.mem_of_lookup h))
def zak (X:Cx) (N':List Str) (scope:Scope) (cl:List (Str × Addr)) (fp:List Addr) (s₃:Shared) (H₃:Hp):Cx where
 prog:=X.prog
 w:=X.w
 K:=X.K
 mg:=X.mg
 base:=X.base
 A:=X.A
 N:=N'
 s₀:=s₃
 H₀:=H₃
 env:=compEnvC scope cl s₃.heap.objs.size X.env
 outer:=X.stack
 stack:=X.stack
 ex:=fp
 calm:=X.calm
 fn:=fun _=>false
 pn:=[]
 xe:=fun _ _=>False
def fvs (σ:St) (ix:List Nat):St:=ix.map fun i=>(σ[i]?).join
def tLC (wi:TI) (ix:List Nat) (te:TE):TE:=fun σ H Q=>wi σ H fun J H1=>∀ D,H1 D=none →
 ∃ W:Nat→Nat→List V→Hp→Prop,(∃ m,W 0 m [] (upd H1 D (.lst []))) ∧
  ∀ i m ys H',W i m ys H'→H' D=some (.lst ys) ∧
   ((J.stop i H'∧Q (.ref D) H')∨(J.go i H'∧∀ x H'',J.yld i H' x H''→te (some x :: fvs σ ix) H'' fun y H3 =>
    H3 D=some (.lst ys)∧ys.length < sizeLine∧∃ m',m' < m∧W (i+1) m' (ys++[y]) (upd H3 D (.lst (ys++[y])))))
theorem zfF {prog:Program} {w:World} {A:Around} {R:Result→Shared→Prop} {s:Shared} {elt target iter:Expr} {scope:Scope} {pos:Pos} {it acc:Value} {env:Env} (I:Nat→Shared→Prop)
  (turn:∀ n s,I n s→wpAny (model prog w) A (pyNext it) (fun r s₁=>match r with
   | none=>R (.ok .next) s₁
   | some v=>wpAny (model prog w) A (letOwnedTupleGo target it v) (fun _ s₁'=>wpAny (model prog w) A (assign target env v) (fun _ s₂=>wpAny (model prog w) A (eval elt env) (fun x s₃ =>
     wpAny (model prog w) A (call (.builtin "list.append") [acc,x]) (fun _ s₄=>∃ m,m < n∧I m s₄) (notedBy (model prog w) A env fun e s'=>R (.error e) s') s₃)
     (notedBy (model prog w) A env fun e s'=>R (.error e) s') s₂) (notedBy (model prog w) A env fun e s'=>R (.error e) s') s₁') (notedBy (model prog w) A env fun e s'=>R (.error e) s') s₁) (notedBy (model prog w) A env fun e s'=>R (.error e) s') s)
  (n:Nat) (h:I n s) :
  codeAny (model prog w) A (.compLoop (.ListComp elt [⟨target,iter,[],0⟩] scope pos) 0 it acc env) R s:=by
 refine codeAny_loop rfl I (fun n s hI=>?_) n h
 show wpAny _ _ ((compTurn (.ListComp elt [⟨target,iter,[],0⟩] scope pos) 0 it acc env).onRaise (fun x=>do noteFrame x env;theTreesLotGoes x)) _ _ s
 refine wpAny_noted ?_
 rw[compTurn_list1]
 refine wpAny_bind (wpAny_standAt (wpAny_bind (wpAny_mono (turn n s hI) (fun r s₁ h₁=>?_) fun _ _ h'=>h')))
 cases r with
 | none=>exact wpAny_pure h₁
 | some v =>
  refine wpAny_bind (wpAny_mono h₁ (fun _ s₁' h₁'=>?_) fun _ _ h'=>h')
  exact wpAny_bind (wpAny_mono h₁' (fun _ s₂ h₂=>wpAny_bind (wpAny_bind (wpAny_mono h₂ (fun x s₃ h₃=>wpAny_bind (wpAny_mono h₃
   (fun _ s₄ h₄=>wpAny_pure (wpAny_pure ⟨rfl,h₄⟩)) fun _ _ h'=>h')) fun _ _ h'=>h'))) fun _ _ h'=>h')
section
variable {X:Cx} {N':List Str} {scope:Scope} {cl:List (Str × Addr)} {fp:List Addr} {pins:List (Addr × Obj)} {σ:St} {H:Hp} {s:Shared}
theorem zck (I:Inv X pins σ H s) (C:Clo X scope cl) (hkind:scope.kind=.function) (hf:∀ b∈fp,zbA X pins H b) (hlt:∀ b∈fp,b < s.heap.objs.size):(zak X N' scope cl fp s H).Ok where
 mod:=I.ok.mod
 kind:=hkind
 glob:=I.ok.glob
 blt:=I.ok.blt
 above:=Nat.le_refl _
 inj:=fun x y c h1 h2=>I.ok.inj x y c (C.sub x c h1) (C.sub y c h2)
 has:=fun x h=>C.has x h
 cab:=fun x c h=>by cases (show false=true from h)
 hd:=I.ok.hd
 frames:=I.ok.frames
 stk:=.inl rfl
 exf:=fun b hb=>⟨Nat.ne_of_lt (hlt b hb),fun x c h=>(hf b hb).2.2.2.2.1 x c (C.sub x c h)⟩
 bs:=fun b o h=>I.bs b o h
 bsz:=Nat.le_trans I.ok.bsz I.sz
 noex:=fun b o h hb=>by
  rcases(hf b hb).2.2.2.1 with z | z
  ·exact I.ok.noex b o h z
  ·exact absurd (Nat.lt_of_lt_of_le (Heap.lt_size h) (Nat.le_trans I.ok.bsz z)) (Nat.lt_irrefl _)
 exfs:=fun b hb hs=>by
  rcases List.mem_cons.mp (I.stkSub b hs) with z | z
  ·exact(hf b hb).2.1 z
  ·exact(hf b hb).2.2.1 z
 funs:=I.stack
 frf:=I.stkFree
theorem zdy {ix:List Nat} {h₁:Heap} {t':Nat} {m:Str→Option Value} (I:Inv X pins σ H s) (C:Clo X scope cl) (hkind:scope.kind=.function) (hf:∀ b∈fp,zbA X pins H b) (hlt:∀ b∈fp,b < s.heap.objs.size)
  (hlen:N'.length=ix.length+1) (hix:∀(j i:Nat),ix[j]?=some i→∃ y,X.N[i]?=some y∧N'[j+1]?=some y∧(X.env.kindOf y=some .cell∨X.env.kindOf y=some .free)∧((relabel scope X.env).names.lookup y=some .cell∨(relabel scope X.env).names.lookup y=some .free))
  (hn:h₁.Ns s.heap.objs.size m) (hk:∀ b o,s.heap.get? b=some o→h₁.get? b=some o):Inv (zak X N' scope cl fp s H) [] (none :: fvs σ ix) H { s with heap:=h₁,toks:=t' }:=by
 have cellK:∀ x c,cl.lookup x=some c→∃ v,h₁.IsCell c v:=fun x c h=>by
  obtain⟨v,o,ho,hd⟩:=I.cell x c (C.sub x c h)
  exact⟨v,o,hk c o ho,hd⟩
 refine⟨zck I C hkind hf hlt,rfl,I.bare,Un.kept hk,⟨m,hn,fun i y v h1 h2 h3=>?_⟩,cellK,I.hok.fresh (Nat.le_refl _),fun x c h=>I.freeC x c (C.sub x c h),fun p hp=>absurd (show p∈([]:List (Addr × Obj)) from hp) (by simp),I.hok.kept hk,?_⟩
 ·cases i with
  | zero=>cases (show some (none:Option V)=some (some v) from h2)
  | succ j =>
   have h2':(fvs σ ix)[j]?=some (some v):=h2
   unfold fvs at h2'
   rw[List.getElem?_map]at h2'
   cases e:ix[j]? with
   | none=>rw[e]at h2';cases h2'
   | some i =>
    rw[e]at h2'
    have h4:(σ[i]?).join=some v:=Option.some.inj h2'
    have h5:σ[i]?=some (some v):=by
     cases e':σ[i]? with
     | none=>rw[e']at h4;cases h4
     | some q =>
      rw[e']at h4
      have h6:q=some v:=h4
      rw[h6]
    obtain⟨y',n1,n2,k1,k2⟩:=hix j i e
    have ey:y'=y:=Option.some.inj (n2.symm.trans h1)
    subst ey
    obtain⟨m0,hn0,hl0⟩:=I.loc
    have hv0:Vis X.env.scope y':=k1.elim (fun z=>.inr (.inl z)) fun z=>.inr (.inr z)
    obtain⟨u,ru,l⟩:=hl0 i y' v n1 h5 hv0
    refine⟨u,ru,.inr ⟨k2,?_⟩⟩
    rcases l with ⟨k,_⟩ | ⟨_,c,ec,o,ho,hd⟩
    ·rcases k1 with z | z
     ·rw[z]at k;cases k
     ·rw[z]at k;cases k
    ·obtain⟨c',ec'⟩:=C.has y' k2
     have:c'=c:=Option.some.inj ((C.sub _ _ ec').symm.trans ec)
     subst this
     exact⟨c',ec',o,hk c' o ho,hd⟩
 ·show(none :: fvs σ ix:St).length=N'.length
  rw[hlen]
  simp [fvs]
theorem zeO {σ':St} {H':Hp} {s':Shared} {h':Heap} (I:Inv X pins σ H s) (J:Inv (zak X N' scope cl fp s H) [] σ' H' s') (hf:∀ b∈fp,zbA X pins H b) (hs:Heap.SameBut s.heap.objs.size s'.heap h'):Inv X pins σ H' { s' with heap:=h' }:=by
 have ne:∀ b o,s.heap.get? b=some o→b≠s.heap.objs.size:=fun b o e=>Nat.ne_of_lt (Heap.lt_size e)
 have eq:∀ b,b≠s.heap.objs.size→h'.get? b=s'.heap.get? b:=fun b hb=>hs.2 b hb
 have B:=J.base
 have u:Un (frs X.stack) fp H H' s.heap h' :=
  ⟨fun b o e n h1 h2=>(eq b (ne b o e)).trans (B.keep b o e n h1 h2),fun b o e n h1 h2=>by
   obtain⟨sl,q⟩:=B.slot b o e n h1 h2
   exact⟨sl,(eq b (ne b o e)).trans q⟩,fun b o e n h1=>B.free b o e n h1,fun b o e h1=>by
   obtain⟨o',q⟩:=B.there b o e h1
   exact⟨o',(eq b (ne b o e)).trans q⟩,B.tups,B.frzs,B.tbls⟩
 have hfree:H' s.heap.objs.size=none:=J.free
 have hok:HOk X.prog X.w H' h':=fun b ob e=>by
  refine(J.hok b ob e).stay (fun c w' hc q=>(eq c ?_).trans q) (fun _ q=>q) fun _ _ q=>q
  rintro rfl
  rcases hc with z | z
  ·rw[←z,hfree]at e;cases e
  ·rw[hfree]at z;cases z
 exact I.call' (s':={ s' with heap:=h' }) (ch:=fp) J.os u hok J.bare fun b hb=>⟨(hf b hb).2.2.2.1,(hf b hb).2.1,(hf b hb).2.2.2.2.1,(hf b hb).2.2.2.2.2⟩
end
section
variable {X:Cx} {N':List Str} {scope:Scope} {elt iter:Expr} {x:Str} {px pos:Pos} {wi:TI} {te:TE} {ix:List Nat}
theorem zdr (hc:X.calm=true) (hkind:scope.kind=.function) (hcell:∀ y∈scope.names,y.2≠.cell) (hnames:∀ y∈scope.names,y.2=.local→scope.names.lookup y.1=some .local) (hx:scope.names.lookup x=some .local)
  (hclo:X.Ok→∃ cl,Clo X scope cl) (hN:N'.Nodup) (hN0:N'[0]?=some x) (hlen:N'.length=ix.length+1)
  (hix:∀(j i:Nat),ix[j]?=some i→∃ y,X.N[i]?=some y∧N'[j+1]?=some y∧(X.env.kindOf y=some .cell∨X.env.kindOf y=some .free)∧((relabel scope X.env).names.lookup y=some .cell∨(relabel scope X.env).names.lookup y=some .free))
  (hi:PI X (.Name x px) iter wi) (he:∀ cl fp s₃ H₃,PE (zak X N' scope cl fp s₃ H₃) elt te) (hs:∀ v,foldedSetIterable iter X.env v=pure v:=by intro _;rfl) :
  PE X (.ListComp elt [⟨.Name x px,iter,[],0⟩] scope pos) (tLC wi ix te):=by
 intro pins s σ H Q I h
 obtain⟨cl,C⟩:=hclo I.ok
 rw[eval_ListComp]
 refine wpAny_comprehension_free (use:=none) rfl hs C.eq hkind hnames (thn (hi pins s σ H _ I h) fun v s1 h1=>thn h1 fun itv s2 h2=>?_)
 obtain⟨it,fp,tn,J,H2,e,I2,T,st2,f2,q2⟩:=h2
 subst e
 have hD:H2 s2.heap.objs.size=none:=I2.fresh
 obtain⟨W,⟨m0,w0⟩,turn⟩:=q2 s2.heap.objs.size hD
 refine wpAny_newObj_type (wpAny_newFunctionEnv hcell (by intro y hy;simp at hy) (fun h₁ hns₁ hsb₁=>?_) hkind)
 dsimp only at hns₁ hsb₁ ⊢
 have I3:Inv X pins σ (upd H2 s2.heap.objs.size (.lst [])) { s2 with heap:=s2.heap.push { cls:=.type "list",data:=.seq ([]:List Value).toArray },toks:=s2.toks }:=I2.lnew .nil (Nat.zero_le _)
 generalize hs3:({ s2 with heap:=s2.heap.push { cls:=.type "list",data:=.seq ([]:List Value).toArray },toks:=s2.toks }:Shared)=s3 at I3
 have e3:s3.heap=s2.heap.push { cls:=.type "list",data:=.seq ([]:List Value).toArray }:=by rw[←hs3]
 generalize hDD:s2.heap.objs.size=D at *
 generalize hH3:upd H2 D (.lst [])=H3 at *
 have lt2:∀ b∈fp,b < s2.heap.objs.size:=fun b hb=>by
  obtain⟨o,ho,_⟩:=T.obj 0 _ st2 b hb
  exact Heap.lt_size ho
 have neD:∀ b∈fp,b≠D:=fun b hb=>by rw[←hDD];exact Nat.ne_of_lt (lt2 b hb)
 have f3:∀ b∈fp,zbA X pins H3 b:=fun b hb=>⟨by rw[←hH3,aj (neD b hb)];exact(f2 b hb).1,(f2 b hb).2⟩
 have sz3:s3.heap.objs.size=D+1:=by rw[e3,Heap.size_push,hDD]
 have lt3:∀ b∈fp,b < s3.heap.objs.size:=fun b hb=>by have q:=lt2 b hb;rw[sz3];rw[hDD]at q;exact Nat.lt_succ_of_lt q
 have old:∀ b o,s3.heap.get? b=some o→h₁.get? b=some o:=fun b o eb=>by
  have hb:b < D+1:=by rw[←sz3];exact Heap.lt_size eb
  refine hsb₁.extBut b o ?_ (Heap.get?_push_of_some _ (by rw[←e3];exact eb))
  rw[Heap.size_push,hDD]
  exact Nat.ne_of_lt hb
 have szC:(s2.heap.push { cls:=.type "list",data:=.seq ([]:List Value).toArray }).objs.size=s3.heap.objs.size:=by rw[e3]
 have os3:s3.os=s2.os:=by rw[←hs3]
 rw[szC]at hns₁ hsb₁
 have I4:Inv (zak X N' scope cl fp s3 H3) [] (none :: fvs σ ix) H3 { s3 with heap:=h₁,toks:=s2.toks+([]:List (Str × Value)).length }:=zdy I3 C hkind f3 lt3 hlen hix hns₁ old
 have st4:tn 0 h₁:=T.keep 0 _ _ st2 fun b hb o eb=>old b o (by rw[e3];exact Heap.get?_push_of_some _ eb)
 have stat:∀ {H':Hp},(∀ b∈fp,H' b=none)→∀ b∈fp,zbA (zak X N' scope cl fp s3 H3) [] H' b:=fun hn b hb =>
  ⟨hn b hb,Nat.ne_of_lt (lt3 b hb),fun hs'=>(zck (N':=N') I3 C hkind f3 lt3).exfs b hb hs',.inl hb,fun y c hy=>((zck (N':=N') I3 C hkind f3 lt3).exf b hb).2 y c hy,fun p hp=>absurd (show p∈([]:List (Addr × Obj)) from hp) (by simp)⟩
 have loop:∀ s4:Shared,s4={ s3 with heap:=h₁,toks:=s2.toks+([]:List (Str × Value)).length } →
   codeAny (model X.prog X.w) X.A (.compLoop (.ListComp elt [⟨.Name x px,iter,[],0⟩] scope pos) 0 (.ref it) (.ref D) (compEnvC scope cl s3.heap.objs.size X.env))
    (compPost (model X.prog X.w) X.A X.xe none (EP X pins σ Q) (.ref D) s3.heap.objs.size) s4:=by
  rintro s4 rfl
  refine zfF (fun n s'=>∃ i σ0 H' ys,Inv (zak X N' scope cl fp s3 H3) [] (σ0 :: fvs σ ix) H' s'∧tn i s'.heap∧(∀ b∈fp,H' b=none)∧W i n ys H') ?_ m0 ⟨0,none,H3,[],I4,st4,fun b hb=>(f3 b hb).1,w0⟩
  rintro n s5 ⟨i,σ0,H5,ys,I5,st5,fr5,w5⟩
  obtain⟨hD5,alt⟩:=turn i n ys H5 w5
  rcases alt with ⟨stop,q⟩ | ⟨go,step⟩
  ·refine thn (T.done (zak X N' scope cl fp s3 H3) rfl rfl rfl hc i [] s5 _ H5 _ I5 (stat fr5) st5 stop) fun r s6 ⟨hr,I6⟩=>?_
   subst hr
   obtain⟨m,hn,_⟩:=I6.loc
   exact⟨m,hn,fun h' hsb=>⟨.ref D,H5,zeO I3 I6 f3 hsb,rfl,q⟩⟩
  ·refine thn (T.item (zak X N' scope cl fp s3 H3) rfl rfl rfl hc i [] s5 _ H5 _ I5 (stat fr5) st5 go) fun r s6 ⟨u,hr,h6⟩=>?_
   subst hr
   refine thn h6 fun _ s7 ⟨y7,H7,I7,r7,yl7,st7,fr7⟩=>?_
   have I7':=I7.pinned (stat fr7) (T.obj _ _ st7)
   have G:PG (zak X N' scope cl fp s3 H3) (.Name x px) (zdZ 0):=zam hN hN0 (.inl (lookup_relabel_local hx)) (.inr (lookup_relabel_local hx))
   refine wpAny_mono (G _ s7 _ H7 y7 u (fun σ' H'=>σ'=some y7 :: fvs σ ix∧H'=H7) I7' r7 ⟨rfl,rfl⟩) (fun _ s8 h8=>?_) fun _ _ f=>False.elim f
   obtain⟨σ8,H8,I8,rfl,rfl⟩:=h8
   refine wpAny_mono (he cl fp s3 H3 _ s8 _ H8 _ I8 (step y7 H8 yl7)) (fun yv s9 h9=>?_) fun _ _ f=>False.elim f
   obtain⟨y9,H9,I9,r9,hD9,hl9,m',hm',w9⟩:=h9
   refine wpAny_mono (za5 (X:=zak X N' scope cl fp s3 H3) _ s9 _ H9 (.ref D) [y9] (.ref D) [yv] (fun _ H'=>H'=upd H9 D (.lst (ys++[y9]))) I9 rfl (.cons r9 .nil) ⟨D,ys,y9,rfl,rfl,hD9,hl9,rfl⟩) (fun _ s10 h10=>?_) fun _ _ f=>False.elim f
   obtain⟨_,H10,I10,_,rfl⟩:=h10
   refine⟨m',hm',i+1,some y7,_,ys++[y9],I10.unpinned,T.keep _ _ _ st7 fun b hb o eb=>(I10.pin (b,o) (List.mem_append_right _ (List.mem_append_right _ (zbb hb eb)))).1,fun b hb=>?_,w9⟩
   obtain⟨o,eb,d⟩:=T.obj _ _ st7 b hb
   exact(I10.pin (b,o) (List.mem_append_right _ (List.mem_append_right _ (zbb hb eb)))).2.1
 subst hs3
 have fin:=codeAny_compStart_list (loop _ rfl) (T.self X.A 0 _ _ _ st4 (loop _ rfl))
 exact fin
end
end L2
namespace L2
open PySem PySem.Spec PyProof.Rows
section
variable {X:Cx} {e l:Expr} {es:List Expr} {te tl:TE} {pos:Pos} {tg:Expr}
def tFmt (te:TE):TE:=fun σ H Q=>te σ H fun x H1=>(∃ z,x=.str z∧z.length≤sizeLine∧Q (.str z) H1)∨∃ i:Int,x=.int i∧i.natAbs.log2 < 1920∧Q (.str (toString i)) H1
theorem zfe (he:PE X e te):PE X (.FormattedValue e (-1) none pos) (tFmt te):=by
 intro pins s σ H Q I h
 refine FormattedValue_plain (thn (he pins s σ H _ I h) fun v s1 ⟨x,H1,I1,r1,q1⟩=>?_)
 rcases q1 with ⟨z,rfl,hz,q⟩ | ⟨i,rfl,hi,q⟩
 ·obtain⟨t,rfl⟩:=r1
  exact formatField_str (fun t' tk=>⟨.str z,H1,I1.tok _,⟨_,rfl⟩,q⟩) hz
 ·obtain⟨t,rfl⟩:=r1
  exact formatField_int_small hi ⟨.str _,H1,I1.tok _,⟨_,rfl⟩,q⟩
def tRepr (te:TE):TE:=fun σ H Q=>te σ H fun x H1=>∃ z,x=.str z∧(reprText z).length≤sizeLine∧Q (.str (reprText z)) H1
theorem pe_fvr (he:PE X e te):PE X (.FormattedValue e 114 none pos) (tRepr te):=by
 intro pins s σ H Q I h
 refine wpAny_FormattedValue_repr (thn (he pins s σ H _ I h) fun v s1 ⟨x,H1,I1,r1,q1⟩=>?_)
 obtain⟨z,rfl,hz,q⟩:=q1
 obtain⟨t,rfl⟩:=r1
 refine wpAny_pyReprObj_str ?_ hz
 exact formatField_str (fun t' tk=>⟨.str (reprText z),H1,I1.tok _,⟨_,rfl⟩,q⟩) hz
abbrev TJ:=St→Hp→Str→(Str→Hp→Prop)→Prop
def PJ (X:Cx) (es:List Expr) (t:TJ):Prop :=
 ∀(pins:List (Addr × Obj)) (s:Shared) (σ:St) (H:Hp) (acc:Str) (Q:Str→Hp→Prop) (R:Str→Shared→Prop),Inv X pins σ H s→t σ H acc Q→(∀ out s1 H1,Inv X pins σ H1 s1→Q out H1→R out s1)→Joins (model X.prog X.w) X.A X.xe (evalEach es X.env) acc R s
def jNil:TJ:=fun _ H acc Q=>Q acc H
def jCons (te:TE) (t:TJ):TJ:=fun σ H acc Q=>te σ H fun x H1=>∃ y,x=.str y∧(acc++y).length≤sizeLine∧t σ H1 (acc++y) Q
theorem zeV:PJ X [] jNil:=fun _ _ _ _ _ _ _ I h k=>k _ _ _ I h
theorem za8 {t:TJ} (he:PE X e te) (hr:PJ X es t):PJ X (e :: es) (jCons te t):=by
 intro pins s σ H acc Q R I h k
 refine thn (he pins s σ H _ I h) fun v s1 ⟨x,H1,I1,r1,q1⟩=>?_
 obtain⟨y,rfl,hz,q⟩:=q1
 obtain⟨t,rfl⟩:=r1
 exact⟨y,_,rfl,hz,hr pins s1 σ H1 _ Q R I1 q k⟩
def zkU (t:TJ):TE:=fun σ H Q=>t σ H Str.empty fun out H1=>out.length≤sizeLine∧Q (.str out) H1
theorem zdh {v1 v2:Expr} {t:TJ} (h:PJ X (v1 :: v2 :: es) t):PE X (.JoinedStr (v1 :: v2 :: es) pos) (zkU t):=by
 intro pins s σ H Q I hw
 exact wpAny_JoinedStr (h pins s σ H _ _ _ I hw fun out s1 H1 I1 q=>⟨q.1,.str out,H1,I1.tok _,⟨_,rfl⟩,q.2⟩)
def iSeq (K:W.Frag) (tl:TE):TI:=fun σ H R=>tl σ H fun x H1=>∃ a,x=.ref a∧(((∃ xs,SqL K H1 a xs)∧R (Itl K a) H1)∨((∃ xs,SqT K H1 a xs)∧R (Itt K a) H1))
theorem pi_seq (hl:PE X l tl):PI X tg l (iSeq X.K tl):=by
 intro pins s σ H R I h
 refine thn (hl pins s σ H _ I h) fun v s1 ⟨x,H1,I1,r1,q1⟩=>?_
 obtain⟨a,rfl,q⟩:=q1
 cases r1
 have fp:∀ b∈[s1.heap.objs.size],zbA X pins H1 b:=fun b hb=>by
  have e:b=s1.heap.objs.size:=by simpa using hb
  subst e
  exact I1.fpOk (Nat.le_refl _) (I1.hok.fresh (Nat.le_refl _))
 rcases q with ⟨⟨xs,hq⟩,q⟩ | ⟨⟨xs,hq⟩,q⟩
 ·obtain⟨its,rv,p,hz⟩:=I1.list hq
  refine wpAny_pyIter_list p.isList ?_
  exact⟨s1.heap.objs.size,[s1.heap.objs.size],_,_,H1,rfl,I1.kept (t':=s1.toks) fun b o e=>Heap.get?_push_of_some _ e,ze1 a _,⟨_,Heap.get?_push_size _ rfl,rfl,rfl⟩,fp,q⟩
 ·obtain⟨its,rv,p,hz⟩:=I1.tuple hq
  refine wpAny_pyIter_tuple (show s1.heap.IsTuple a its.toArray from p) ?_
  exact⟨s1.heap.objs.size,[s1.heap.objs.size],_,_,H1,rfl,I1.kept (t':=s1.toks) fun b o e=>Heap.get?_push_of_some _ e,zeP a _,⟨_,Heap.get?_push_size _ rfl,rfl,rfl⟩,fp,q⟩
end
theorem zfT {env:Env}:∀(l:List (Str × NameKind)) (acc:List (Str × Addr)),(∀ y∈l,y.2=.free→∃ c,env.cells.lookup y.1=some c) →
  ∃ cl,(forIn l acc (fun(y:Str × NameKind) cs=>if(y.2 == NameKind.free)=true then do let c ←cellOf env y.1;pure (ForInStep.yield ((y.1,c) :: cs)) else pure (ForInStep.yield cs)):Sem (List (Str × Addr)))=pure cl ∧
   (∀ y c,cl.lookup y=some c→acc.lookup y=some c∨env.cells.lookup y=some c)∧∀ y,((y,NameKind.free)∈l∨∃ c,acc.lookup y=some c)→∃ c,cl.lookup y=some c
 | [],acc,_=>⟨acc,rfl,fun _ _ h=>.inl h,fun y h=>h.elim (fun z=>by cases z) fun z=>z⟩
 | (n,k) :: r,acc,hf=>by
  by_cases hk:k=.free
  ·subst hk
   obtain⟨c,hc⟩:=hf (n,.free) List.mem_cons_self rfl
   obtain⟨cl,e1,e2,e3⟩:=zfT r ((n,c) :: acc) fun y hy=>hf y (List.mem_cons_of_mem _ hy)
   refine⟨cl,?_,fun y d h=>?_,fun y h=>?_⟩
   ·rw[List.forIn_cons]
    have ec:cellOf env n=pure c:=by unfold cellOf;rw[show env.cells.lookup n=some c from hc]
    have eb:(NameKind.free == NameKind.free)=true:=rfl
    simp only[eb,if_true,ec,pure_bind]
    exact e1
   ·rcases e2 y d h with z | z
    ·by_cases hy:y=n
     ·subst hy
      rw[List.lookup_cons,beq_self_eq_true]at z
      cases z
      exact .inr hc
     ·rw[List.lookup_cons,beq_eq_false_iff_ne.mpr hy]at z
      exact .inl z
    ·exact .inr z
   ·refine e3 y ?_
    by_cases hy:y=n
    ·subst hy
     exact .inr ⟨c,by rw[List.lookup_cons,beq_self_eq_true]⟩
    ·rcases h with z | ⟨d,z⟩
     ·rcases List.mem_cons.mp z with z | z
      ·exact absurd (congrArg Prod.fst z) hy
      ·exact .inl z
     ·exact .inr ⟨d,by rw[List.lookup_cons,beq_eq_false_iff_ne.mpr hy];exact z⟩
  ·obtain⟨cl,e1,e2,e3⟩:=zfT r acc fun y hy=>hf y (List.mem_cons_of_mem _ hy)
   refine⟨cl,?_,e2,fun y h=>e3 y ?_⟩
   ·rw[List.forIn_cons]
    have hb:(k == NameKind.free)=false:=by simpa using hk
    simp only[hb,Bool.false_eq_true,if_false,pure_bind]
    exact e1
   ·rcases h with z | z
    ·rcases List.mem_cons.mp z with z | z
     ·exact absurd (congrArg Prod.snd z).symm hk
     ·exact .inl z
    ·exact .inr z
theorem zb1 {X:Cx} {scope sc:Scope} (ok:X.Ok) (hsc:X.env.scope=sc) (hcell:∀ x∈scope.names,x.2≠.cell)
  (hf:∀ y∈scope.names,y.2=.free→sc.names.lookup y.1=some .cell∨sc.names.lookup y.1=some .free):∃ cl,Clo X scope cl:=by
 obtain⟨cl,e1,e2,e3⟩:=zfT (env:=X.env) scope.names [] fun y hy h=>ok.has y.1 (by
  show X.env.scope.names.lookup y.1=_∨X.env.scope.names.lookup y.1=_
  rw[hsc]
  exact hf y hy h)
 refine⟨cl,?_,fun y c h=>(e2 y c h).elim (fun z=>by cases z) fun z=>z,fun y h=>e3 y (.inl ?_)⟩
 ·unfold closureFor
  have e0:(forIn scope.names ([]:List (Str × Addr)) (fun(x:Str × NameKind) cs=>match x with
    | (name,kind)=>if(kind == NameKind.free)=true then do let c ←cellOf X.env name;pure (ForInStep.yield ((name,c) :: cs)) else pure (ForInStep.yield cs)):Sem (List (Str × Addr)))=pure cl:=e1
  show(forIn scope.names ([]:List (Str × Addr)) _ >>= fun z=>pure z)=pure cl
  rw[bind_pure]
  exact e0
 ·have m:∃ k,(k=.cell∨k=.free)∧(y,k)∈(relabel scope X.env).names:=by
   rcases h with h | h
   ·exact⟨_,.inl rfl,PySem.mem_of_lookup h⟩
   ·exact⟨_,.inr rfl,PySem.mem_of_lookup h⟩
  obtain⟨k,hk,hm⟩:=m
  unfold relabel at hm
  obtain⟨⟨n0,k0⟩,h0,ez⟩:=List.mem_map.mp hm
  by_cases hc:(k0 == NameKind.free&&X.env.scope.kind == .function&&X.env.kindOf n0 == some .cell)=true
  ·dsimp only at ez
   rw[if_pos hc]at ez
   have en:n0=y:=congrArg Prod.fst ez
   have ef:k0=.free:=by
    rw[Bool.and_eq_true,Bool.and_eq_true]at hc
    simpa using hc.1.1
   rw[en,ef]at h0
   exact h0
  ·dsimp only at ez
   rw[if_neg hc]at ez
   have en:n0=y:=congrArg Prod.fst ez
   have ek:k0=k:=congrArg Prod.snd ez
   rw[en,ek]at h0
   rcases hk with z | z
   ·exact absurd z (hcell _ h0)
   ·rw[z]at h0
    exact h0
def tLCI (wi:TI) (ix:List Nat) (tc:TT) (te:TE):TE:=fun σ H Q=>wi σ H fun J H1=>∀ D,H1 D=none →
 ∃ W:Nat→Nat→List V→Hp→Prop,(∃ m,W 0 m [] (upd H1 D (.lst []))) ∧
  ∀ i m ys H',W i m ys H'→H' D=some (.lst ys) ∧
   ((J.stop i H'∧Q (.ref D) H')∨(J.go i H'∧∀ x H'',J.yld i H' x H''→tc (some x :: fvs σ ix) H'' fun b H3 =>
    if b=true then te (some x :: fvs σ ix) H3 fun y H4=>H4 D=some (.lst ys)∧ys.length < sizeLine∧∃ m',m' < m∧W (i+1) m' (ys++[y]) (upd H4 D (.lst (ys++[y])))
    else ∃ m',m' < m∧W (i+1) m' ys H3))
theorem zfc {prog:Program} {w:World} {A:Around} {R:Result→Shared→Prop} {s:Shared} {elt target iter c:Expr} {scope:Scope} {pos:Pos} {it acc:Value} {env:Env} (J:Nat→Shared→Prop)
  (step:∀ n s,J n s→wpAny (model prog w) A (pyNext it) (fun r s1=>match r with
   | none=>R (.ok .next) s1
   | some v=>wpAny (model prog w) A (letOwnedTupleGo target it v) (fun _ s2=>wpAny (model prog w) A (assign target env v) (fun _ s3=>wpAny (model prog w) A (isTrue c env (eval c env)) (fun b s4=>if b=true then wpAny (model prog w) A (eval elt env) (fun x s5 =>
     wpAny (model prog w) A (call (.builtin "list.append") [acc,x]) (fun _ s6=>∃ m,m < n∧J m s6) (notedBy (model prog w) A env fun e s'=>R (.error e) s') s5) (notedBy (model prog w) A env fun e s'=>R (.error e) s') s4
     else ∃ m,m < n∧J m s4) (notedBy (model prog w) A env fun e s'=>R (.error e) s') s3)
     (notedBy (model prog w) A env fun e s'=>R (.error e) s') s2) (notedBy (model prog w) A env fun e s'=>R (.error e) s') s1) (notedBy (model prog w) A env fun e s'=>R (.error e) s') s)
  (n:Nat) (h0:J n s):codeAny (model prog w) A (.compLoop (.ListComp elt [⟨target,iter,[c],0⟩] scope pos) 0 it acc env) R s:=by
 refine codeAny_loop rfl J (fun n s hJ=>?_) n h0
 show wpAny _ A ((compTurn (.ListComp elt [⟨target,iter,[c],0⟩] scope pos) 0 it acc env).onRaise (fun x=>do noteFrame x env;theTreesLotGoes x)) _ _ s
 refine wpAny_noted ?_
 rw[compTurn_list]
 refine wpAny_bind (wpAny_standAt (wpAny_bind (wpAny_mono (step n s hJ) (fun r s1 h1=>?_) fun _ _ z=>z)))
 cases r with
 | none=>exact wpAny_pure h1
 | some v =>
  refine wpAny_bind (wpAny_mono h1 (fun _ s2 h2=>?_) fun _ _ z=>z)
  refine wpAny_bind (wpAny_mono h2 (fun _ s3 h3=>?_) fun _ _ z=>z)
  refine wpAny_bind ?_
  rw[List.forIn_cons]
  refine wpAny_bind ?_
  rw[if_pos rfl]
  refine wpAny_bind (wpAny_mono h3 (fun b s4 h4=>wpAny_pure ?_) fun _ _ z=>z)
  show wpAny _ A (forIn ([]:List Expr) b _) _ _ s4
  rw[List.forIn_nil]
  refine wpAny_pure ?_
  cases b with
  | false=>exact wpAny_pure ⟨rfl,h4⟩
  | true=>exact wpAny_bind (wpAny_bind (wpAny_mono h4 (fun x s5 h5=>wpAny_bind (wpAny_mono h5 (fun _ s6 h6=>wpAny_pure (wpAny_pure ⟨rfl,h6⟩)) fun _ _ z=>z)) fun _ _ z=>z))
section
variable {X:Cx} {N':List Str} {scope:Scope} {elt iter c:Expr} {x:Str} {px pos:Pos} {wi:TI} {tc:TT} {te:TE} {ix:List Nat}
theorem zeh (hc:X.calm=true) (hkind:scope.kind=.function) (hcell:∀ y∈scope.names,y.2≠.cell) (hnames:∀ y∈scope.names,y.2=.local→scope.names.lookup y.1=some .local) (hx:scope.names.lookup x=some .local)
  (hclo:X.Ok→∃ cl,Clo X scope cl) (hN:N'.Nodup) (hN0:N'[0]?=some x) (hlen:N'.length=ix.length+1)
  (hix:∀(j i:Nat),ix[j]?=some i→∃ y,X.N[i]?=some y∧N'[j+1]?=some y∧(X.env.kindOf y=some .cell∨X.env.kindOf y=some .free)∧((relabel scope X.env).names.lookup y=some .cell∨(relabel scope X.env).names.lookup y=some .free))
  (hi:PI X (.Name x px) iter wi) (ht:∀ cl fp s₃ H₃,PT (zak X N' scope cl fp s₃ H₃) c tc) (he:∀ cl fp s₃ H₃,PE (zak X N' scope cl fp s₃ H₃) elt te) (hs:∀ v,foldedSetIterable iter X.env v=pure v:=by intro _;rfl) :
  PE X (.ListComp elt [⟨.Name x px,iter,[c],0⟩] scope pos) (tLCI wi ix tc te):=by
 intro pins s σ H Q I h
 obtain⟨cl,C⟩:=hclo I.ok
 rw[eval_ListComp]
 refine wpAny_comprehension_free (use:=none) rfl hs C.eq hkind hnames (thn (hi pins s σ H _ I h) fun v s1 h1=>thn h1 fun itv s2 h2=>?_)
 obtain⟨it,fp,tn,J,H2,e,I2,T,st2,f2,q2⟩:=h2
 subst e
 have hD:H2 s2.heap.objs.size=none:=I2.fresh
 obtain⟨W,⟨m0,w0⟩,turn⟩:=q2 s2.heap.objs.size hD
 refine wpAny_newObj_type (wpAny_newFunctionEnv hcell (by intro y hy;simp at hy) (fun h₁ hns₁ hsb₁=>?_) hkind)
 dsimp only at hns₁ hsb₁ ⊢
 have I3:Inv X pins σ (upd H2 s2.heap.objs.size (.lst [])) { s2 with heap:=s2.heap.push { cls:=.type "list",data:=.seq ([]:List Value).toArray },toks:=s2.toks }:=I2.lnew .nil (Nat.zero_le _)
 generalize hs3:({ s2 with heap:=s2.heap.push { cls:=.type "list",data:=.seq ([]:List Value).toArray },toks:=s2.toks }:Shared)=s3 at I3
 have e3:s3.heap=s2.heap.push { cls:=.type "list",data:=.seq ([]:List Value).toArray }:=by rw[←hs3]
 generalize hDD:s2.heap.objs.size=D at *
 generalize hH3:upd H2 D (.lst [])=H3 at *
 have lt2:∀ b∈fp,b < s2.heap.objs.size:=fun b hb=>by
  obtain⟨o,ho,_⟩:=T.obj 0 _ st2 b hb
  exact Heap.lt_size ho
 have neD:∀ b∈fp,b≠D:=fun b hb=>by rw[←hDD];exact Nat.ne_of_lt (lt2 b hb)
 have f3:∀ b∈fp,zbA X pins H3 b:=fun b hb=>⟨by rw[←hH3,aj (neD b hb)];exact(f2 b hb).1,(f2 b hb).2⟩
 have sz3:s3.heap.objs.size=D+1:=by rw[e3,Heap.size_push,hDD]
 have lt3:∀ b∈fp,b < s3.heap.objs.size:=fun b hb=>by have q:=lt2 b hb;rw[sz3];rw[hDD]at q;exact Nat.lt_succ_of_lt q
 have old:∀ b o,s3.heap.get? b=some o→h₁.get? b=some o:=fun b o eb=>by
  have hb:b < D+1:=by rw[←sz3];exact Heap.lt_size eb
  refine hsb₁.extBut b o ?_ (Heap.get?_push_of_some _ (by rw[←e3];exact eb))
  rw[Heap.size_push,hDD]
  exact Nat.ne_of_lt hb
 have szC:(s2.heap.push { cls:=.type "list",data:=.seq ([]:List Value).toArray }).objs.size=s3.heap.objs.size:=by rw[e3]
 rw[szC]at hns₁ hsb₁
 have I4:Inv (zak X N' scope cl fp s3 H3) [] (none :: fvs σ ix) H3 { s3 with heap:=h₁,toks:=s2.toks+([]:List (Str × Value)).length }:=zdy I3 C hkind f3 lt3 hlen hix hns₁ old
 have st4:tn 0 h₁:=T.keep 0 _ _ st2 fun b hb o eb=>old b o (by rw[e3];exact Heap.get?_push_of_some _ eb)
 have stat:∀ {H':Hp},(∀ b∈fp,H' b=none)→∀ b∈fp,zbA (zak X N' scope cl fp s3 H3) [] H' b:=fun hn b hb =>
  ⟨hn b hb,Nat.ne_of_lt (lt3 b hb),fun hs'=>(zck (N':=N') I3 C hkind f3 lt3).exfs b hb hs',.inl hb,fun y c hy=>((zck (N':=N') I3 C hkind f3 lt3).exf b hb).2 y c hy,fun p hp=>absurd (show p∈([]:List (Addr × Obj)) from hp) (by simp)⟩
 have loop:∀ s4:Shared,s4={ s3 with heap:=h₁,toks:=s2.toks+([]:List (Str × Value)).length } →
   codeAny (model X.prog X.w) X.A (.compLoop (.ListComp elt [⟨.Name x px,iter,[c],0⟩] scope pos) 0 (.ref it) (.ref D) (compEnvC scope cl s3.heap.objs.size X.env))
    (compPost (model X.prog X.w) X.A X.xe none (EP X pins σ Q) (.ref D) s3.heap.objs.size) s4:=by
  rintro s4 rfl
  refine zfc (fun n s'=>∃ i σ0 H' ys,Inv (zak X N' scope cl fp s3 H3) [] (σ0 :: fvs σ ix) H' s'∧tn i s'.heap∧(∀ b∈fp,H' b=none)∧W i n ys H') ?_ m0 ⟨0,none,H3,[],I4,st4,fun b hb=>(f3 b hb).1,w0⟩
  rintro n s5 ⟨i,σ0,H5,ys,I5,st5,fr5,w5⟩
  obtain⟨hD5,alt⟩:=turn i n ys H5 w5
  rcases alt with ⟨stop,q⟩ | ⟨go,step⟩
  ·refine thn (T.done (zak X N' scope cl fp s3 H3) rfl rfl rfl hc i [] s5 _ H5 _ I5 (stat fr5) st5 stop) fun r s6 ⟨hr,I6⟩=>?_
   subst hr
   obtain⟨m,hn,_⟩:=I6.loc
   exact⟨m,hn,fun h' hsb=>⟨.ref D,H5,zeO I3 I6 f3 hsb,rfl,q⟩⟩
  ·refine thn (T.item (zak X N' scope cl fp s3 H3) rfl rfl rfl hc i [] s5 _ H5 _ I5 (stat fr5) st5 go) fun r s6 ⟨u,hr,h6⟩=>?_
   subst hr
   refine thn h6 fun _ s7 ⟨y7,H7,I7,r7,yl7,st7,fr7⟩=>?_
   have I7':=I7.pinned (stat fr7) (T.obj _ _ st7)
   have G:PG (zak X N' scope cl fp s3 H3) (.Name x px) (zdZ 0):=zam hN hN0 (.inl (lookup_relabel_local hx)) (.inr (lookup_relabel_local hx))
   refine wpAny_mono (G _ s7 _ H7 y7 u (fun σ' H'=>σ'=some y7 :: fvs σ ix∧H'=H7) I7' r7 ⟨rfl,rfl⟩) (fun _ s8 h8=>?_) fun _ _ f=>False.elim f
   obtain⟨σ8,H8,I8,rfl,rfl⟩:=h8
   have fin:∀ {σ9:Option V} {H9:Hp} {s9:Shared} {zs:List V} {m':Nat},Inv (zak X N' scope cl fp s3 H3) ([]++zeg fp s7.heap) (σ9 :: fvs σ ix) H9 s9→m' < n→W (i+1) m' zs H9→∃ m,m < n∧∃ i σ0 H' ys,Inv (zak X N' scope cl fp s3 H3) [] (σ0 :: fvs σ ix) H' s9∧tn i s9.heap∧(∀ b∈fp,H' b=none)∧W i m ys H':=fun {σ9 H9 s9 zs m'} I9 hm' w9=>by
    refine⟨m',hm',i+1,σ9,H9,zs,I9.unpinned,T.keep _ _ _ st7 fun b hb o eb=>(I9.pin (b,o) (List.mem_append_right _ (List.mem_append_right _ (zbb hb eb)))).1,fun b hb=>?_,w9⟩
    obtain⟨o,eb,d⟩:=T.obj _ _ st7 b hb
    exact(I9.pin (b,o) (List.mem_append_right _ (List.mem_append_right _ (zbb hb eb)))).2.1
   refine wpAny_mono (ht cl fp s3 H3 _ s8 _ H8 _ I8 (step y7 H8 yl7)) (fun b s9 h9=>?_) fun _ _ f=>False.elim f
   obtain⟨H9,I9,q9⟩:=h9
   cases b with
   | false =>
    obtain⟨m',hm',w9⟩:=q9
    exact fin I9 hm' w9
   | true =>
    refine wpAny_mono (he cl fp s3 H3 _ s9 _ H9 _ I9 q9) (fun yv s10 h10=>?_) fun _ _ f=>False.elim f
    obtain⟨y10,H10,I10,r10,hD10,hl10,m',hm',w10⟩:=h10
    refine wpAny_mono (za5 (X:=zak X N' scope cl fp s3 H3) _ s10 _ H10 (.ref D) [y10] (.ref D) [yv] (fun _ H'=>H'=upd H10 D (.lst (ys++[y10]))) I10 rfl (.cons r10 .nil) ⟨D,ys,y10,rfl,rfl,hD10,hl10,rfl⟩) (fun _ s11 h11=>?_) fun _ _ f=>False.elim f
    obtain⟨_,H11,I11,_,rfl⟩:=h11
    exact fin I11 hm' w10
 subst hs3
 have fin:=codeAny_compStart_list (loop _ rfl) (T.self X.A 0 _ _ _ st4 (loop _ rfl))
 exact fin
end
end L2
namespace L2
open PySem PySem.Spec PyProof.Rows
theorem Inv.skip {X:Cx} {pins:List (Addr × Obj)} {σ:St} {H:Hp} {s:Shared} {h':Heap} {C:Addr} (I:Inv X pins σ H s) (hs:Heap.SameBut C s.heap h') (hC:X.s₀.heap.objs.size≤C) (hl:C≠X.env.locals) (hcl:∀ x c,X.env.cells.lookup x=some c→c≠C) (hp:∀ p∈X.pn++pins,p.1≠C) (hf:H C=none) :
  Inv X pins σ H { s with heap:=h' }:=by
 have eq:∀ b,b≠C→h'.get? b=s.heap.get? b:=fun b hb=>hs.2 b hb
 have nm:∀ {b:Addr},b∉[C]→b≠C:=fun h z=>h (by rw[z];exact List.mem_cons_self)
 have u:Un (frs X.stack) [C] H H s.heap h':=⟨fun b o e _ _ h2=>(eq b (nm h2)).trans e,fun b o e _ _ h2=>⟨o.slots,(eq b (nm h2)).trans e⟩,fun b o e n _=>n,fun b o e h1=>⟨o,(eq b (nm h1)).trans e⟩,fun _ _ q=>q,fun _ _ _ q=>q,fun _ ps q=>⟨#[],by rw[q];simp⟩⟩
 have hok:HOk X.prog X.w H h':=fun b ob e=>by
  refine(I.hok b ob e).stay (fun c w' hq q=>(eq c ?_).trans q) (fun _ q=>q) fun _ _ q=>q
  rintro rfl
  rcases hq with z | z
  ·rw[←z,hf]at e;cases e
  ·rw[hf]at z;cases z
 refine I.call' (s':={ s with heap:=h' }) (ch:=[C]) rfl u hok I.bare fun b hb=>?_
 have e:b=C:=List.mem_singleton.mp hb
 subst e
 exact⟨.inr hC,hl,hcl,hp⟩
section
variable {X:Cx} {N':List Str} {scope:Scope} {elt iter:Expr} {x:Str} {px pos:Pos} {wi:TI} {te:TE} {ix:List Nat}
theorem zfQ {i:Nat} {y0:Str} {py spos:Pos} (hNy:X.N.Nodup) (hiy:X.N[i]?=some y0) (hy:Loc X.env.scope y0) (hc:X.calm=true) (hkind:scope.kind=.function) (hcell:∀ y∈scope.names,y.2≠.cell) (hnames:∀ y∈scope.names,y.2=.local→scope.names.lookup y.1=some .local) (hx:scope.names.lookup x=some .local)
  (hclo:X.Ok→∃ cl,Clo X scope cl) (hN:N'.Nodup) (hN0:N'[0]?=some x) (hlen:N'.length=ix.length+1)
  (hix:∀(j i:Nat),ix[j]?=some i→∃ y,X.N[i]?=some y∧N'[j+1]?=some y∧(X.env.kindOf y=some .cell∨X.env.kindOf y=some .free)∧((relabel scope X.env).names.lookup y=some .cell∨(relabel scope X.env).names.lookup y=some .free))
  (hi:PI X (.Name x px) iter wi) (he:∀ cl fp s₃ H₃,PE (zak X N' scope cl fp s₃ H₃) elt te) (hsw:swapsWith (.ListComp elt [⟨.Name x px,iter,[],0⟩] scope pos) (some (.Name y0 py)) spos.line X.env=pure true:=by rfl)
  (hf:X.fn y0=true∨X.env.scope.names.lookup y0=some .local:=by first | exact .inl rfl | exact .inr rfl | assumption) (hs:∀ v,foldedSetIterable iter X.env v=pure v:=by intro _;rfl) :
  PS X (.Assign [.Name y0 py] (.ListComp elt [⟨.Name x px,iter,[],0⟩] scope pos) spos) (tAsg (tLC wi ix te) (zdZ i)):=by
 intro pins s σ H Dn I h
 obtain⟨cl,C⟩:=hclo I.ok
 rw[exec_Assign_Name_used _ _ _ _ hsw]
 refine wpAny_bind (wpAny_standAt (wpAny_bind ?_))
 rw[arm_evalThenUse_ListComp]
 refine wpAny_bind (wpAny_mono (wpAny_comprehension_free (use:=some (assign (.Name y0 py) X.env)) (Q:=fun _ s'=>∃ σ' H',Inv X pins σ' H' s'∧Dn.nx σ' H') rfl hs C.eq hkind hnames (thn (hi pins s σ H _ I h) fun v s1 h1=>thn h1 fun itv s2 h2=>?_)) (fun _ s' h'=>wpAny_pure (wpAny_pure h')) fun _ _ z=>z)
 obtain⟨it,fp,tn,J,H2,e,I2,T,st2,f2,q2⟩:=h2
 subst e
 have hD:H2 s2.heap.objs.size=none:=I2.fresh
 obtain⟨W,⟨m0,w0⟩,turn⟩:=q2 s2.heap.objs.size hD
 refine wpAny_newObj_type (wpAny_newFunctionEnv hcell (by intro y hy;simp at hy) (fun h₁ hns₁ hsb₁=>?_) hkind)
 dsimp only at hns₁ hsb₁ ⊢
 have I3:Inv X pins σ (upd H2 s2.heap.objs.size (.lst [])) { s2 with heap:=s2.heap.push { cls:=.type "list",data:=.seq ([]:List Value).toArray },toks:=s2.toks }:=I2.lnew .nil (Nat.zero_le _)
 generalize hs3:({ s2 with heap:=s2.heap.push { cls:=.type "list",data:=.seq ([]:List Value).toArray },toks:=s2.toks }:Shared)=s3 at I3
 have e3:s3.heap=s2.heap.push { cls:=.type "list",data:=.seq ([]:List Value).toArray }:=by rw[←hs3]
 generalize hDD:s2.heap.objs.size=D at *
 generalize hH3:upd H2 D (.lst [])=H3 at *
 have lt2:∀ b∈fp,b < s2.heap.objs.size:=fun b hb=>by
  obtain⟨o,ho,_⟩:=T.obj 0 _ st2 b hb
  exact Heap.lt_size ho
 have neD:∀ b∈fp,b≠D:=fun b hb=>by rw[←hDD];exact Nat.ne_of_lt (lt2 b hb)
 have f3:∀ b∈fp,zbA X pins H3 b:=fun b hb=>⟨by rw[←hH3,aj (neD b hb)];exact(f2 b hb).1,(f2 b hb).2⟩
 have sz3:s3.heap.objs.size=D+1:=by rw[e3,Heap.size_push,hDD]
 have lt3:∀ b∈fp,b < s3.heap.objs.size:=fun b hb=>by have q:=lt2 b hb;rw[sz3];rw[hDD]at q;exact Nat.lt_succ_of_lt q
 have old:∀ b o,s3.heap.get? b=some o→h₁.get? b=some o:=fun b o eb=>by
  have hb:b < D+1:=by rw[←sz3];exact Heap.lt_size eb
  refine hsb₁.extBut b o ?_ (Heap.get?_push_of_some _ (by rw[←e3];exact eb))
  rw[Heap.size_push,hDD]
  exact Nat.ne_of_lt hb
 have szC:(s2.heap.push { cls:=.type "list",data:=.seq ([]:List Value).toArray }).objs.size=s3.heap.objs.size:=by rw[e3]
 have os3:s3.os=s2.os:=by rw[←hs3]
 rw[szC]at hns₁ hsb₁
 have I4:Inv (zak X N' scope cl fp s3 H3) [] (none :: fvs σ ix) H3 { s3 with heap:=h₁,toks:=s2.toks+([]:List (Str × Value)).length }:=zdy I3 C hkind f3 lt3 hlen hix hns₁ old
 have st4:tn 0 h₁:=T.keep 0 _ _ st2 fun b hb o eb=>old b o (by rw[e3];exact Heap.get?_push_of_some _ eb)
 have stat:∀ {H':Hp},(∀ b∈fp,H' b=none)→∀ b∈fp,zbA (zak X N' scope cl fp s3 H3) [] H' b:=fun hn b hb =>
  ⟨hn b hb,Nat.ne_of_lt (lt3 b hb),fun hs'=>(zck (N':=N') I3 C hkind f3 lt3).exfs b hb hs',.inl hb,fun y c hy=>((zck (N':=N') I3 C hkind f3 lt3).exf b hb).2 y c hy,fun p hp=>absurd (show p∈([]:List (Addr × Obj)) from hp) (by simp)⟩
 have loop:∀ s4:Shared,s4={ s3 with heap:=h₁,toks:=s2.toks+([]:List (Str × Value)).length } →
   codeAny (model X.prog X.w) X.A (.compLoop (.ListComp elt [⟨.Name x px,iter,[],0⟩] scope pos) 0 (.ref it) (.ref D) (compEnvC scope cl s3.heap.objs.size X.env))
    (compPost (model X.prog X.w) X.A X.xe (some (assign (.Name y0 py) X.env)) (fun _ s'=>∃ σ' H',Inv X pins σ' H' s'∧Dn.nx σ' H') (.ref D) s3.heap.objs.size) s4:=by
  rintro s4 rfl
  refine zfF (fun n s'=>∃ i σ0 H' ys,Inv (zak X N' scope cl fp s3 H3) [] (σ0 :: fvs σ ix) H' s'∧tn i s'.heap∧(∀ b∈fp,H' b=none)∧W i n ys H') ?_ m0 ⟨0,none,H3,[],I4,st4,fun b hb=>(f3 b hb).1,w0⟩
  rintro n s5 ⟨i,σ0,H5,ys,I5,st5,fr5,w5⟩
  obtain⟨hD5,alt⟩:=turn i n ys H5 w5
  rcases alt with ⟨stop,q⟩ | ⟨go,step⟩
  ·refine thn (T.done (zak X N' scope cl fp s3 H3) rfl rfl rfl hc i [] s5 _ H5 _ I5 (stat fr5) st5 stop) fun r s6 ⟨hr,I6⟩=>?_
   subst hr
   obtain⟨m,hn,_⟩:=I6.loc
   have Io:Inv X pins σ H5 s6:=zeO (h':=s6.heap) I3 I6 f3 ⟨rfl,fun _ _=>rfl⟩
   refine wpAny_assign_Name (ze2 (v:=.ref D) Io hNy hiy hy rfl (fun s7 I7 ⟨a,sb,ha⟩=>?_) hf)
   have ltC:∀ x c,X.env.cells.lookup x=some c→c < s3.heap.objs.size:=fun x c e=>by
    obtain⟨v,hv⟩:=I3.cell x c e
    exact hv.lt
   have hCa:s3.heap.objs.size≠a:=by
    rintro rfl
    rcases ha with z | z
    ·exact absurd I3.lt (by rw[←z];exact Nat.lt_irrefl _)
    ·exact absurd (ltC _ _ z) (Nat.lt_irrefl _)
   refine⟨m,hn.sameBut sb hCa,fun h' hsb=>⟨_,H5,?_,q⟩⟩
   exact I7.skip hsb I3.sz (Nat.ne_of_gt I3.lt) (fun x c e=>Nat.ne_of_lt (ltC x c e)) (fun p hp=>Nat.ne_of_lt (Heap.lt_size (I3.pin p hp).1)) I6.free
  ·refine thn (T.item (zak X N' scope cl fp s3 H3) rfl rfl rfl hc i [] s5 _ H5 _ I5 (stat fr5) st5 go) fun r s6 ⟨u,hr,h6⟩=>?_
   subst hr
   refine thn h6 fun _ s7 ⟨y7,H7,I7,r7,yl7,st7,fr7⟩=>?_
   have I7':=I7.pinned (stat fr7) (T.obj _ _ st7)
   have G:PG (zak X N' scope cl fp s3 H3) (.Name x px) (zdZ 0):=zam hN hN0 (.inl (lookup_relabel_local hx)) (.inr (lookup_relabel_local hx))
   refine wpAny_mono (G _ s7 _ H7 y7 u (fun σ' H'=>σ'=some y7 :: fvs σ ix∧H'=H7) I7' r7 ⟨rfl,rfl⟩) (fun _ s8 h8=>?_) fun _ _ f=>False.elim f
   obtain⟨σ8,H8,I8,rfl,rfl⟩:=h8
   refine wpAny_mono (he cl fp s3 H3 _ s8 _ H8 _ I8 (step y7 H8 yl7)) (fun yv s9 h9=>?_) fun _ _ f=>False.elim f
   obtain⟨y9,H9,I9,r9,hD9,hl9,m',hm',w9⟩:=h9
   refine wpAny_mono (za5 (X:=zak X N' scope cl fp s3 H3) _ s9 _ H9 (.ref D) [y9] (.ref D) [yv] (fun _ H'=>H'=upd H9 D (.lst (ys++[y9]))) I9 rfl (.cons r9 .nil) ⟨D,ys,y9,rfl,rfl,hD9,hl9,rfl⟩) (fun _ s10 h10=>?_) fun _ _ f=>False.elim f
   obtain⟨_,H10,I10,_,rfl⟩:=h10
   refine⟨m',hm',i+1,some y7,_,ys++[y9],I10.unpinned,T.keep _ _ _ st7 fun b hb o eb=>(I10.pin (b,o) (List.mem_append_right _ (List.mem_append_right _ (zbb hb eb)))).1,fun b hb=>?_,w9⟩
   obtain⟨o,eb,d⟩:=T.obj _ _ st7 b hb
   exact(I10.pin (b,o) (List.mem_append_right _ (List.mem_append_right _ (zbb hb eb)))).2.1
 subst hs3
 have fin:=codeAny_compStart_list (loop _ rfl) (T.self X.A 0 _ _ _ st4 (loop _ rfl))
 exact fin
end
section
variable {X:Cx} {N':List Str} {scope:Scope} {elt iter c:Expr} {x:Str} {px pos:Pos} {wi:TI} {tc:TT} {te:TE} {ix:List Nat}
theorem zgJ {i:Nat} {y0:Str} {py spos:Pos} (hNy:X.N.Nodup) (hiy:X.N[i]?=some y0) (hy:Loc X.env.scope y0) (hc:X.calm=true) (hkind:scope.kind=.function) (hcell:∀ y∈scope.names,y.2≠.cell) (hnames:∀ y∈scope.names,y.2=.local→scope.names.lookup y.1=some .local) (hx:scope.names.lookup x=some .local)
  (hclo:X.Ok→∃ cl,Clo X scope cl) (hN:N'.Nodup) (hN0:N'[0]?=some x) (hlen:N'.length=ix.length+1)
  (hix:∀(j i:Nat),ix[j]?=some i→∃ y,X.N[i]?=some y∧N'[j+1]?=some y∧(X.env.kindOf y=some .cell∨X.env.kindOf y=some .free)∧((relabel scope X.env).names.lookup y=some .cell∨(relabel scope X.env).names.lookup y=some .free))
  (hi:PI X (.Name x px) iter wi) (ht:∀ cl fp s₃ H₃,PT (zak X N' scope cl fp s₃ H₃) c tc) (he:∀ cl fp s₃ H₃,PE (zak X N' scope cl fp s₃ H₃) elt te) (hsw:swapsWith (.ListComp elt [⟨.Name x px,iter,[c],0⟩] scope pos) (some (.Name y0 py)) spos.line X.env=pure true:=by rfl)
  (hf:X.fn y0=true∨X.env.scope.names.lookup y0=some .local:=by first | exact .inl rfl | exact .inr rfl | assumption) (hs:∀ v,foldedSetIterable iter X.env v=pure v:=by intro _;rfl) :
  PS X (.Assign [.Name y0 py] (.ListComp elt [⟨.Name x px,iter,[c],0⟩] scope pos) spos) (tAsg (tLCI wi ix tc te) (zdZ i)):=by
 intro pins s σ H Dn I h
 obtain⟨cl,C⟩:=hclo I.ok
 rw[exec_Assign_Name_used _ _ _ _ hsw]
 refine wpAny_bind (wpAny_standAt (wpAny_bind ?_))
 rw[arm_evalThenUse_ListComp]
 refine wpAny_bind (wpAny_mono (wpAny_comprehension_free (use:=some (assign (.Name y0 py) X.env)) (Q:=fun _ s'=>∃ σ' H',Inv X pins σ' H' s'∧Dn.nx σ' H') rfl hs C.eq hkind hnames (thn (hi pins s σ H _ I h) fun v s1 h1=>thn h1 fun itv s2 h2=>?_)) (fun _ s' h'=>wpAny_pure (wpAny_pure h')) fun _ _ z=>z)
 obtain⟨it,fp,tn,J,H2,e,I2,T,st2,f2,q2⟩:=h2
 subst e
 have hD:H2 s2.heap.objs.size=none:=I2.fresh
 obtain⟨W,⟨m0,w0⟩,turn⟩:=q2 s2.heap.objs.size hD
 refine wpAny_newObj_type (wpAny_newFunctionEnv hcell (by intro y hy;simp at hy) (fun h₁ hns₁ hsb₁=>?_) hkind)
 dsimp only at hns₁ hsb₁ ⊢
 have I3:Inv X pins σ (upd H2 s2.heap.objs.size (.lst [])) { s2 with heap:=s2.heap.push { cls:=.type "list",data:=.seq ([]:List Value).toArray },toks:=s2.toks }:=I2.lnew .nil (Nat.zero_le _)
 generalize hs3:({ s2 with heap:=s2.heap.push { cls:=.type "list",data:=.seq ([]:List Value).toArray },toks:=s2.toks }:Shared)=s3 at I3
 have e3:s3.heap=s2.heap.push { cls:=.type "list",data:=.seq ([]:List Value).toArray }:=by rw[←hs3]
 generalize hDD:s2.heap.objs.size=D at *
 generalize hH3:upd H2 D (.lst [])=H3 at *
 have lt2:∀ b∈fp,b < s2.heap.objs.size:=fun b hb=>by
  obtain⟨o,ho,_⟩:=T.obj 0 _ st2 b hb
  exact Heap.lt_size ho
 have neD:∀ b∈fp,b≠D:=fun b hb=>by rw[←hDD];exact Nat.ne_of_lt (lt2 b hb)
 have f3:∀ b∈fp,zbA X pins H3 b:=fun b hb=>⟨by rw[←hH3,aj (neD b hb)];exact(f2 b hb).1,(f2 b hb).2⟩
 have sz3:s3.heap.objs.size=D+1:=by rw[e3,Heap.size_push,hDD]
 have lt3:∀ b∈fp,b < s3.heap.objs.size:=fun b hb=>by have q:=lt2 b hb;rw[sz3];rw[hDD]at q;exact Nat.lt_succ_of_lt q
 have old:∀ b o,s3.heap.get? b=some o→h₁.get? b=some o:=fun b o eb=>by
  have hb:b < D+1:=by rw[←sz3];exact Heap.lt_size eb
  refine hsb₁.extBut b o ?_ (Heap.get?_push_of_some _ (by rw[←e3];exact eb))
  rw[Heap.size_push,hDD]
  exact Nat.ne_of_lt hb
 have szC:(s2.heap.push { cls:=.type "list",data:=.seq ([]:List Value).toArray }).objs.size=s3.heap.objs.size:=by rw[e3]
 rw[szC]at hns₁ hsb₁
 have I4:Inv (zak X N' scope cl fp s3 H3) [] (none :: fvs σ ix) H3 { s3 with heap:=h₁,toks:=s2.toks+([]:List (Str × Value)).length }:=zdy I3 C hkind f3 lt3 hlen hix hns₁ old
 have st4:tn 0 h₁:=T.keep 0 _ _ st2 fun b hb o eb=>old b o (by rw[e3];exact Heap.get?_push_of_some _ eb)
 have stat:∀ {H':Hp},(∀ b∈fp,H' b=none)→∀ b∈fp,zbA (zak X N' scope cl fp s3 H3) [] H' b:=fun hn b hb =>
  ⟨hn b hb,Nat.ne_of_lt (lt3 b hb),fun hs'=>(zck (N':=N') I3 C hkind f3 lt3).exfs b hb hs',.inl hb,fun y c hy=>((zck (N':=N') I3 C hkind f3 lt3).exf b hb).2 y c hy,fun p hp=>absurd (show p∈([]:List (Addr × Obj)) from hp) (by simp)⟩
 have loop:∀ s4:Shared,s4={ s3 with heap:=h₁,toks:=s2.toks+([]:List (Str × Value)).length } →
   codeAny (model X.prog X.w) X.A (.compLoop (.ListComp elt [⟨.Name x px,iter,[c],0⟩] scope pos) 0 (.ref it) (.ref D) (compEnvC scope cl s3.heap.objs.size X.env))
    (compPost (model X.prog X.w) X.A X.xe (some (assign (.Name y0 py) X.env)) (fun _ s'=>∃ σ' H',Inv X pins σ' H' s'∧Dn.nx σ' H') (.ref D) s3.heap.objs.size) s4:=by
  rintro s4 rfl
  refine zfc (fun n s'=>∃ i σ0 H' ys,Inv (zak X N' scope cl fp s3 H3) [] (σ0 :: fvs σ ix) H' s'∧tn i s'.heap∧(∀ b∈fp,H' b=none)∧W i n ys H') ?_ m0 ⟨0,none,H3,[],I4,st4,fun b hb=>(f3 b hb).1,w0⟩
  rintro n s5 ⟨i,σ0,H5,ys,I5,st5,fr5,w5⟩
  obtain⟨hD5,alt⟩:=turn i n ys H5 w5
  rcases alt with ⟨stop,q⟩ | ⟨go,step⟩
  ·refine thn (T.done (zak X N' scope cl fp s3 H3) rfl rfl rfl hc i [] s5 _ H5 _ I5 (stat fr5) st5 stop) fun r s6 ⟨hr,I6⟩=>?_
   subst hr
   obtain⟨m,hn,_⟩:=I6.loc
   have Io:Inv X pins σ H5 s6:=zeO (h':=s6.heap) I3 I6 f3 ⟨rfl,fun _ _=>rfl⟩
   refine wpAny_assign_Name (ze2 (v:=.ref D) Io hNy hiy hy rfl (fun s7 I7 ⟨a,sb,ha⟩=>?_) hf)
   have ltC:∀ x c,X.env.cells.lookup x=some c→c < s3.heap.objs.size:=fun x c e=>by
    obtain⟨v,hv⟩:=I3.cell x c e
    exact hv.lt
   have hCa:s3.heap.objs.size≠a:=by
    rintro rfl
    rcases ha with z | z
    ·exact absurd I3.lt (by rw[←z];exact Nat.lt_irrefl _)
    ·exact absurd (ltC _ _ z) (Nat.lt_irrefl _)
   refine⟨m,hn.sameBut sb hCa,fun h' hsb=>⟨_,H5,?_,q⟩⟩
   exact I7.skip hsb I3.sz (Nat.ne_of_gt I3.lt) (fun x c e=>Nat.ne_of_lt (ltC x c e)) (fun p hp=>Nat.ne_of_lt (Heap.lt_size (I3.pin p hp).1)) I6.free
  ·refine thn (T.item (zak X N' scope cl fp s3 H3) rfl rfl rfl hc i [] s5 _ H5 _ I5 (stat fr5) st5 go) fun r s6 ⟨u,hr,h6⟩=>?_
   subst hr
   refine thn h6 fun _ s7 ⟨y7,H7,I7,r7,yl7,st7,fr7⟩=>?_
   have I7':=I7.pinned (stat fr7) (T.obj _ _ st7)
   have G:PG (zak X N' scope cl fp s3 H3) (.Name x px) (zdZ 0):=zam hN hN0 (.inl (lookup_relabel_local hx)) (.inr (lookup_relabel_local hx))
   refine wpAny_mono (G _ s7 _ H7 y7 u (fun σ' H'=>σ'=some y7 :: fvs σ ix∧H'=H7) I7' r7 ⟨rfl,rfl⟩) (fun _ s8 h8=>?_) fun _ _ f=>False.elim f
   obtain⟨σ8,H8,I8,rfl,rfl⟩:=h8
   have fin:∀ {σ9:Option V} {H9:Hp} {s9:Shared} {zs:List V} {m':Nat},Inv (zak X N' scope cl fp s3 H3) ([]++zeg fp s7.heap) (σ9 :: fvs σ ix) H9 s9→m' < n→W (i+1) m' zs H9→∃ m,m < n∧∃ i σ0 H' ys,Inv (zak X N' scope cl fp s3 H3) [] (σ0 :: fvs σ ix) H' s9∧tn i s9.heap∧(∀ b∈fp,H' b=none)∧W i m ys H':=fun {σ9 H9 s9 zs m'} I9 hm' w9=>by
    refine⟨m',hm',i+1,σ9,H9,zs,I9.unpinned,T.keep _ _ _ st7 fun b hb o eb=>(I9.pin (b,o) (List.mem_append_right _ (List.mem_append_right _ (zbb hb eb)))).1,fun b hb=>?_,w9⟩
    obtain⟨o,eb,d⟩:=T.obj _ _ st7 b hb
    exact(I9.pin (b,o) (List.mem_append_right _ (List.mem_append_right _ (zbb hb eb)))).2.1
   refine wpAny_mono (ht cl fp s3 H3 _ s8 _ H8 _ I8 (step y7 H8 yl7)) (fun b s9 h9=>?_) fun _ _ f=>False.elim f
   obtain⟨H9,I9,q9⟩:=h9
   cases b with
   | false =>
    obtain⟨m',hm',w9⟩:=q9
    exact fin I9 hm' w9
   | true =>
    refine wpAny_mono (he cl fp s3 H3 _ s9 _ H9 _ I9 q9) (fun yv s10 h10=>?_) fun _ _ f=>False.elim f
    obtain⟨y10,H10,I10,r10,hD10,hl10,m',hm',w10⟩:=h10
    refine wpAny_mono (za5 (X:=zak X N' scope cl fp s3 H3) _ s10 _ H10 (.ref D) [y10] (.ref D) [yv] (fun _ H'=>H'=upd H10 D (.lst (ys++[y10]))) I10 rfl (.cons r10 .nil) ⟨D,ys,y10,rfl,rfl,hD10,hl10,rfl⟩) (fun _ s11 h11=>?_) fun _ _ f=>False.elim f
    obtain⟨_,H11,I11,_,rfl⟩:=h11
    exact fin I11 hm' w10
 subst hs3
 have fin:=codeAny_compStart_list (loop _ rfl) (T.self X.A 0 _ _ _ st4 (loop _ rfl))
 exact fin
end
end L2
namespace L2
open PySem PySem.Spec PyProof.Rows
inductive Dt where
 | non | bl (b:Bool) | int (i:Int) | str (x:Str) | tup (xs:List Dt) | lst (xs:List Dt)
mutual
def peq:Dt→Dt→Bool
 | .non,.non=>true
 | .bl a,.bl b=>a == b
 | .bl a,.int b=>(if a then 1 else 0) == b
 | .int a,.bl b=>a == (if b then 1 else 0)
 | .int a,.int b=>a == b
 | .str a,.str b=>a == b
 | .tup xs,.tup ys=>zbe xs ys
 | .lst xs,.lst ys=>zbe xs ys
 | _,_=>false
def zbe:List Dt→List Dt→Bool
 | [],[]=>true
 | x :: xs,y :: ys=>peq x y&&zbe xs ys
 | _,_=>false
end
mutual
def dep:Dt→Nat
 | .tup xs=>zaM xs+1
 | .lst xs=>zaM xs+1
 | _=>0
def zaM:List Dt→Nat
 | []=>0
 | x :: xs=>max (dep x) (zaM xs)
end
mutual
def nob:Dt→Bool
 | .bl _=>false
 | .tup xs=>zdE xs
 | .lst xs=>zdE xs
 | _=>true
def zdE:List Dt→Bool
 | []=>true
 | x :: xs=>nob x&&zdE xs
end
mutual
theorem zaS:∀ d:Dt,peq d d=true
 | .non=>rfl
 | .bl _=>by simp [peq]
 | .int _=>by simp [peq]
 | .str _=>by simp [peq]
 | .tup xs=>by simp only[peq];exact zd1 xs
 | .lst xs=>by simp only[peq];exact zd1 xs
theorem zd1:∀ d:List Dt,zbe d d=true
 | []=>by simp [zbe]
 | x :: xs=>by simp only[zbe,zaS x,zd1 xs,Bool.and_self]
end
mutual
theorem zhb:∀ d e:Dt,nob d=true→nob e=true→peq d e=true→d=e
 | .non,e,_,_,h=>by cases e <;> first | rfl | (simp [peq]at h)
 | .bl _,e,h,_,_=>by simp [nob]at h
 | .int _,e,_,h2,h=>by cases e <;> first | (simp [nob]at h2;done) | (simp [peq]at h;done) | (simp [peq]at h;rw[h])
 | .str _,e,_,h2,h=>by cases e <;> first | (simp [peq]at h;done) | (simp [peq]at h;rw[h])
 | .tup xs,e,h1,h2,h=>by
  cases e with
  | tup ys=>simp only[peq]at h;simp only[nob]at h1 h2;rw[zfo xs ys h1 h2 h]
  | _=>simp [peq]at h
 | .lst xs,e,h1,h2,h=>by
  cases e with
  | lst ys=>simp only[peq]at h;simp only[nob]at h1 h2;rw[zfo xs ys h1 h2 h]
  | _=>simp [peq]at h
theorem zfo:∀ d e:List Dt,zdE d=true→zdE e=true→zbe d e=true→d=e
 | [],e,_,_,h=>by cases e <;> first | rfl | (simp [zbe]at h)
 | x :: xs,e,h1,h2,h=>by
  cases e with
  | nil=>simp [zbe]at h
  | cons y ys =>
   simp only[zbe,Bool.and_eq_true]at h
   simp only[zdE,Bool.and_eq_true]at h1 h2
   rw[zhb x y h1.1 h2.1 h.1,zfo xs ys h1.2 h2.2 h.2]
end
mutual
def Has (K:W.Frag) (H:Hp):Dt→V→Prop
 | .non,v=>v=.non
 | .bl b,v=>v=.bl b
 | .int i,v=>v=.int i
 | .str x,v=>v=.str x
 | .tup ds,v=>∃ a xs,v=.ref a∧SqT K H a xs∧ah K H ds xs
 | .lst ds,v=>∃ a xs,v=.ref a∧SqL K H a xs∧ah K H ds xs
def ah (K:W.Frag) (H:Hp):List Dt→List V→Prop
 | [],vs=>vs=[]
 | d :: ds,vs=>∃ v r,vs=v :: r∧Has K H d v∧ah K H ds r
end
theorem ah.length {K:W.Frag} {H:Hp}:∀ {ds:List Dt} {vs:List V},ah K H ds vs→ds.length=vs.length
 | [],vs,h=>by simp only[ah]at h;rw[h];rfl
 | d :: ds,vs,h=>by
  simp only[ah]at h
  obtain⟨v,r,rfl,_,h2⟩:=h
  rw[List.length_cons,List.length_cons,ah.length h2]
theorem ah.get {K:W.Frag} {H:Hp}:∀ {ds:List Dt} {vs:List V} {i:Nat} {v:V},ah K H ds vs→vs[i]?=some v→∃ d,ds[i]?=some d∧Has K H d v
 | [],vs,i,v,h,e=>by simp only[ah]at h;rw[h]at e;simp at e
 | d :: ds,vs,i,v,h,e=>by
  simp only[ah]at h
  obtain⟨v0,r,rfl,h1,h2⟩:=h
  cases i with
  | zero=>simp at e;subst e;exact⟨d,rfl,h1⟩
  | succ i =>
   obtain⟨d',e1,e2⟩:=ah.get (i:=i) h2 (by simpa using e)
   exact⟨d',by simpa using e1,e2⟩
theorem ah.getD {K:W.Frag} {H:Hp}:∀ {ds:List Dt} {vs:List V} {i:Nat} {d:Dt},ah K H ds vs→ds[i]?=some d→∃ v,vs[i]?=some v∧Has K H d v
 | [],vs,i,d,h,e=>by simp at e
 | d0 :: ds,vs,i,d,h,e=>by
  simp only[ah]at h
  obtain⟨v0,r,rfl,h1,h2⟩:=h
  cases i with
  | zero=>simp at e;subst e;exact⟨v0,rfl,h1⟩
  | succ i =>
   obtain⟨v,e1,e2⟩:=ah.getD (i:=i) h2 (by simpa using e)
   exact⟨v,by simpa using e1,e2⟩
theorem ah.append {K:W.Frag} {H:Hp}:∀ {ds es:List Dt} {vs ws:List V},ah K H ds vs→ah K H es ws→ah K H (ds++es) (vs++ws)
 | [],es,vs,ws,h,h'=>by simp only[ah]at h;rw[h];exact h'
 | d :: ds,es,vs,ws,h,h'=>by
  simp only[ah]at h
  obtain⟨v,r,rfl,h1,h2⟩:=h
  show ah K H (d :: (ds++es)) (v :: (r++ws))
  simp only[ah]
  exact⟨v,r++ws,rfl,h1,ah.append h2 h'⟩
theorem ah.one {K:W.Frag} {H:Hp} {d:Dt} {v:V} (h:Has K H d v):ah K H [d] [v]:=by
 simp only[ah]
 exact⟨v,[],rfl,h,rfl⟩
theorem ah.ints {K:W.Frag} {H:Hp}:∀ ns:List Int,ah K H (ns.map Dt.int) (ns.map V.int)
 | []=>by simp [ah]
 | n :: ns=>by
  simp only[List.map_cons,ah]
  exact⟨_,_,rfl,by simp only[Has],ah.ints ns⟩
mutual
def nol:Dt→Bool
 | .lst _=>false
 | .tup xs=>zaW xs
 | _=>true
def zaW:List Dt→Bool
 | []=>true
 | x :: xs=>nol x&&zaW xs
end
def zag (H H':Hp):Prop:=∀ b xs,Rd H b (.tup xs)→Rd H' b (.tup xs)
theorem zag.sq {K:W.Frag} {H H':Hp} {a:Addr} {xs:List V} (k:zag H H') (h:SqT K H a xs):SqT K H' a xs:=h.elim (fun z=>.inl (k a xs z)) .inr
theorem zag.trans {H H1 H2:Hp} (a:zag H H1) (b:zag H1 H2):zag H H2:=fun c xs h=>b c xs (a c xs h)
theorem zag.of_same {H H':Hp} (e:ao H H'):zag H H':=fun b xs h=>by
 rcases h with h | ⟨o,h⟩
 ·exact .inl (e _ _ h)
 ·exact .inr ⟨o,e _ _ h⟩
theorem zag.lst {H:Hp} {l:Addr} {xs ys:List V} (h:H l=some (.lst xs)):zag H (upd H l (.lst ys)):=fun b zs q=>by
 rcases q with q | ⟨o,q⟩
 ·exact .inl (by rw[aj (zax q h (fun z=>by cases z))];exact q)
 ·exact .inr ⟨o,by rw[aj (zax q h (fun z=>by cases z))];exact q⟩
mutual
theorem Has.keep {K:W.Frag} {H H':Hp} (k:zag H H'):∀ {d:Dt} {v:V},nol d=true→Has K H d v→Has K H' d v
 | .non,v,_,h=>by simp only[Has]at h ⊢;exact h
 | .bl _,v,_,h=>by simp only[Has]at h ⊢;exact h
 | .int _,v,_,h=>by simp only[Has]at h ⊢;exact h
 | .str _,v,_,h=>by simp only[Has]at h ⊢;exact h
 | .tup ds,v,n,h=>by
  simp only[Has]at h ⊢
  simp only[nol]at n
  obtain⟨a,xs,e,h1,h2⟩:=h
  exact⟨a,xs,e,k.sq h1,ah.keep k n h2⟩
 | .lst _,v,n,h=>by simp [nol]at n
theorem ah.keep {K:W.Frag} {H H':Hp} (k:zag H H'):∀ {ds:List Dt} {vs:List V},zaW ds=true→ah K H ds vs→ah K H' ds vs
 | [],vs,_,h=>by simp only[ah]at h ⊢;exact h
 | d :: ds,vs,n,h=>by
  simp only[ah]at h ⊢
  simp only[zaW,Bool.and_eq_true]at n
  obtain⟨v,r,e,h1,h2⟩:=h
  exact⟨v,r,e,Has.keep k n.1 h1,ah.keep k n.2 h2⟩
end
section
variable {X:Cx} {pins:List (Addr × Obj)} {σ:St} {H:Hp} {s:Shared}
theorem zhk (I:Inv X pins σ H s) {a:Addr} {xs ys:List V} (h:SqL X.K H a xs) (h':SqT X.K H a ys):False:=by
 obtain⟨its,_,p,_⟩:=I.list h
 obtain⟨jts,_,q,_⟩:=I.tuple h'
 obtain⟨o,e,c,_⟩:=p.isList
 obtain⟨o',e',c',_⟩:=q
 rw[e]at e'
 cases e'
 rw[c]at c'
 exact absurd (Value.type.inj c') (by decide)
mutual
theorem Has.inj (I:Inv X pins σ H s):∀(d e:Dt) (v:V),Has X.K H d v→Has X.K H e v→d=e
 | .non,e,v,h,h'=>by
  simp only[Has]at h
  subst h
  cases e <;> simp only[Has]at h' <;> first | rfl | (cases h';done) | (obtain⟨_,_,z,_⟩:=h';cases z)
 | .bl b,e,v,h,h'=>by
  simp only[Has]at h
  subst h
  cases e <;> simp only[Has]at h' <;> first | (cases h';done) | (cases h';rfl) | (obtain⟨_,_,z,_⟩:=h';cases z)
 | .int b,e,v,h,h'=>by
  simp only[Has]at h
  subst h
  cases e <;> simp only[Has]at h' <;> first | (cases h';done) | (cases h';rfl) | (obtain⟨_,_,z,_⟩:=h';cases z)
 | .str b,e,v,h,h'=>by
  simp only[Has]at h
  subst h
  cases e <;> simp only[Has]at h' <;> first | (cases h';done) | (cases h';rfl) | (obtain⟨_,_,z,_⟩:=h';cases z)
 | .tup ds,e,v,h,h'=>by
  simp only[Has]at h
  obtain⟨a,xs,rfl,h1,h2⟩:=h
  cases e with
  | tup es =>
   simp only[Has]at h'
   obtain⟨a',ys,z,h3,h4⟩:=h'
   cases z
   rw[I.tuple_inj h3 h1]at h4
   rw[ah.inj I ds es xs h2 h4]
  | lst es =>
   simp only[Has]at h'
   obtain⟨a',ys,z,h3,h4⟩:=h'
   cases z
   exact(zhk I h3 h1).elim
  | _=>simp only[Has]at h';cases h'
 | .lst ds,e,v,h,h'=>by
  simp only[Has]at h
  obtain⟨a,xs,rfl,h1,h2⟩:=h
  cases e with
  | lst es =>
   simp only[Has]at h'
   obtain⟨a',ys,z,h3,h4⟩:=h'
   cases z
   rw[I.list_inj h3 h1]at h4
   rw[ah.inj I ds es xs h2 h4]
  | tup es =>
   simp only[Has]at h'
   obtain⟨a',ys,z,h3,h4⟩:=h'
   cases z
   exact(zhk I h1 h3).elim
  | _=>simp only[Has]at h';cases h'
theorem ah.inj (I:Inv X pins σ H s):∀(ds es:List Dt) (vs:List V),ah X.K H ds vs→ah X.K H es vs→ds=es
 | [],es,vs,h,h'=>by
  simp only[ah]at h
  subst h
  cases es with
  | nil=>rfl
  | cons e es=>simp only[ah]at h';obtain⟨_,_,z,_⟩:=h';cases z
 | d :: ds,es,vs,h,h'=>by
  simp only[ah]at h
  obtain⟨v,r,rfl,h1,h2⟩:=h
  cases es with
  | nil=>simp only[ah]at h';cases h'
  | cons e es =>
   simp only[ah]at h'
   obtain⟨v',r',z,h3,h4⟩:=h'
   cases z
   rw[Has.inj I d e v h1 h3,ah.inj I ds es r h2 h4]
end
def zcd (ds es:List Dt) (j:Nat):Bool:=match ds[j]?,es[j]? with
 | some d,some e=>peq d e
 | _,_=>true
theorem ziU (d e:Dt) (ds es:List Dt):zcd (d :: ds) (e :: es) 0=peq d e:=rfl
theorem zfv:∀(ds es:List Dt),((List.range (min ds.length es.length)).all (zcd ds es)&&ds.length == es.length)=zbe ds es
 | [],[]=>by simp [zbe]
 | [],e :: es=>by simp [zbe]
 | d :: ds,[]=>by simp [zbe]
 | d :: ds,e :: es=>by
  have ih:=zfv ds es
  have e1:min (d :: ds).length (e :: es).length=min ds.length es.length+1:=by simp only[List.length_cons];omega
  rw[e1,List.range_succ_eq_map,List.all_cons,ziU,List.all_map]
  have e2:(zcd (d :: ds) (e :: es) ∘ Nat.succ)=zcd ds es:=by funext j;rfl
  rw[e2,List.length_cons,List.length_cons]
  simp only[zbe]
  rw[←ih,Bool.and_assoc]
  congr 2
  simp
theorem zkL {ds es:List Dt} (h:ds.length=es.length):(List.range ds.length).all (zcd ds es)=zbe ds es:=by
 rw[←zfv,←h,Nat.min_self]
 simp
theorem zkj {ds es:List Dt} (h:ds.length≠es.length):zbe ds es=false:=by
 rw[←zfv]
 have:(ds.length == es.length)=false:=by simpa using h
 rw[this,Bool.and_false]
theorem zbR (I:Inv X pins σ H s) {a:Addr} {xs:List V} {ds:List Dt} (h:SqT X.K H a xs) (g:ah X.K H ds xs):∃ its:List Value,aI xs its∧s.heap.IsTuple a its.toArray∧its.toArray.size=ds.length:=by
 obtain⟨its,r,p,_⟩:=I.tuple h
 exact⟨its,r,p,by rw[List.size_toArray,←r.length,←g.length]⟩
theorem zbT (I:Inv X pins σ H s) {a:Addr} {xs:List V} {ds:List Dt} (h:SqL X.K H a xs) (g:ah X.K H ds xs):∃ its:List Value,aI xs its∧s.heap.IsList a its.toArray∧its.toArray.size=ds.length:=by
 obtain⟨its,r,p,_⟩:=I.list h
 exact⟨its,r,p.isList,by rw[List.size_toArray,←r.length,←g.length]⟩
def ziv (s:Shared) (A:Around) (ds es:List Dt) (xs ys:List V):Prop :=
 ∀(us zs:List Value),aI xs us→aI ys zs→∀(j:Nat) (u z:Value),us[j]?=some u→zs[j]?=some z→SeqAt.EqAt A.in1 s u z (zcd ds es j)
theorem rcTT (I:Inv X pins σ H s) {A:Around} {a b:Addr} {xs ys:List V} {ds es:List Dt} (h1:SqT X.K H a xs) (g1:ah X.K H ds xs) (h2:SqT X.K H b ys) (g2:ah X.K H es ys) (hu:A.units < cLine)
  (he:ziv s A ds es xs ys):SeqAt.RcAt A s (.ref a) (.ref b) (zbe ds es)∧SeqAt.RcNeAt A s (.ref a) (.ref b) (!zbe ds es):=by
 obtain⟨its,r1,p1,z1⟩:=zbR I h1 g1
 obtain⟨jts,r2,p2,z2⟩:=zbR I h2 g2
 have q:∀ j (k1:j < its.toArray.size) (k2:j < jts.toArray.size),SeqAt.EqAt A.in1 s its.toArray[j] jts.toArray[j] (zcd ds es j):=fun j k1 k2=>he its jts r1 r2 j _ _ (by simp at k1 ⊢) (by simp at k2 ⊢)
 have t1:=SeqAt.RcAt.tuples (e:=zcd ds es) p1 p2 hu q
 have t2:=SeqAt.RcNeAt.tuples (e:=zcd ds es) p1 p2 hu q
 rw[z1,z2,zfv]at t1 t2
 exact⟨t1,t2⟩
theorem rcLL (I:Inv X pins σ H s) {A:Around} {a b:Addr} {xs ys:List V} {ds es:List Dt} (h1:SqL X.K H a xs) (g1:ah X.K H ds xs) (h2:SqL X.K H b ys) (g2:ah X.K H es ys) (hu:A.units < cLine)
  (he:ziv s A ds es xs ys):SeqAt.RcAt A s (.ref a) (.ref b) (zbe ds es)∧SeqAt.RcNeAt A s (.ref a) (.ref b) (!zbe ds es):=by
 obtain⟨its,r1,p1,z1⟩:=zbT I h1 g1
 obtain⟨jts,r2,p2,z2⟩:=zbT I h2 g2
 by_cases hl:ds.length=es.length
 ·have q:∀ j (k1:j < its.toArray.size) (k2:j < jts.toArray.size),SeqAt.EqAt A.in1 s its.toArray[j] jts.toArray[j] (zcd ds es j):=fun j k1 k2=>he its jts r1 r2 j _ _ (by simp at k1 ⊢) (by simp at k2 ⊢)
  have t1:=SeqAt.RcAt.lists (e:=zcd ds es) p1 p2 (by rw[z1,z2,hl]) hu q
  have t2:=SeqAt.RcNeAt.lists (e:=zcd ds es) p1 p2 (by rw[z1,z2,hl]) hu q
  rw[z1,zkL hl]at t1 t2
  exact⟨t1,t2⟩
 ·have hne:(its.toArray.size != jts.toArray.size)=true:=by rw[z1,z2];simpa using hl
  rw[zkj hl]
  exact⟨SeqAt.RcAt.lists_lengths p1 p2 hne hu,SeqAt.RcNeAt.lists_lengths p1 p2 hne hu⟩
theorem zcY {A:Around} {d:Dt} (h:A.units+dep d < cLine):A.units < cLine:=Nat.lt_of_le_of_lt (Nat.le_add_right _ _) h
mutual
theorem zjp (I:Inv X pins σ H s):∀(d e:Dt) (v w:V) (u z:Value) (A:Around),Has X.K H d v→Has X.K H e w→aL v u→aL w z→A.units+dep d < cLine→SeqAt.EqAt A s u z (peq d e)
 | .non,e,v,w,u,z,A,h,h',r,r',hu=>by
  have hu':=zcY hu
  simp only[Has]at h
  subst h
  cases e with
  | tup es =>
   simp only[Has]at h'
   obtain⟨b,ys,rfl,h3,h4⟩:=h'
   obtain⟨_,_,p,_⟩:=zbR I h3 h4
   cases (show z=Value.ref b from r')
   cases (show u=Value.none from r)
   exact SeqAt.EqAt.none_tuple p hu'
  | lst es =>
   simp only[Has]at h'
   obtain⟨b,ys,rfl,h3,h4⟩:=h'
   obtain⟨_,_,p,_⟩:=zbT I h3 h4
   cases (show z=Value.ref b from r')
   cases (show u=Value.none from r)
   exact SeqAt.EqAt.none_list p hu'
  | _=>simp only[Has]at h';subst h';exact zeZ r r' rfl rfl
 | .bl k,e,v,w,u,z,A,h,h',r,r',hu=>by
  have hu':=zcY hu
  simp only[Has]at h
  subst h
  cases e with
  | tup es =>
   simp only[Has]at h'
   obtain⟨b,ys,rfl,h3,h4⟩:=h'
   obtain⟨_,_,p,_⟩:=zbR I h3 h4
   cases (show z=Value.ref b from r')
   cases (show u=Value.bool k from r)
   exact SeqAt.EqAt.bool_tuple k p hu'
  | lst es =>
   simp only[Has]at h'
   obtain⟨b,ys,rfl,h3,h4⟩:=h'
   obtain⟨_,_,p,_⟩:=zbT I h3 h4
   cases (show z=Value.ref b from r')
   cases (show u=Value.bool k from r)
   exact SeqAt.EqAt.bool_list k p hu'
  | _=>simp only[Has]at h';subst h';exact zeZ r r' rfl rfl
 | .int k,e,v,w,u,z,A,h,h',r,r',hu=>by
  have hu':=zcY hu
  simp only[Has]at h
  subst h
  cases e with
  | tup es =>
   simp only[Has]at h'
   obtain⟨b,ys,rfl,h3,h4⟩:=h'
   obtain⟨_,_,p,_⟩:=zbR I h3 h4
   cases (show z=Value.ref b from r')
   obtain⟨t,rfl⟩:=r
   exact SeqAt.EqAt.int_tuple k t p hu'
  | lst es =>
   simp only[Has]at h'
   obtain⟨b,ys,rfl,h3,h4⟩:=h'
   obtain⟨_,_,p,_⟩:=zbT I h3 h4
   cases (show z=Value.ref b from r')
   obtain⟨t,rfl⟩:=r
   exact SeqAt.EqAt.int_list k t p hu'
  | _=>simp only[Has]at h';subst h';exact zeZ r r' rfl rfl
 | .str k,e,v,w,u,z,A,h,h',r,r',hu=>by
  have hu':=zcY hu
  simp only[Has]at h
  subst h
  cases e with
  | tup es =>
   simp only[Has]at h'
   obtain⟨b,ys,rfl,h3,h4⟩:=h'
   obtain⟨_,_,p,_⟩:=zbR I h3 h4
   cases (show z=Value.ref b from r')
   obtain⟨t,rfl⟩:=r
   exact SeqAt.EqAt.str_tuple k t p hu'
  | lst es =>
   simp only[Has]at h'
   obtain⟨b,ys,rfl,h3,h4⟩:=h'
   obtain⟨_,_,p,_⟩:=zbT I h3 h4
   cases (show z=Value.ref b from r')
   obtain⟨t,rfl⟩:=r
   exact SeqAt.EqAt.str_list k t p hu'
  | _=>simp only[Has]at h';subst h';exact zeZ r r' rfl rfl
 | .tup ds,e,v,w,u,z,A,h,h',r,r',hu=>by
  have hu':=zcY hu
  have hd:=h
  simp only[Has]at h
  obtain⟨a,xs,rfl,h1,h2⟩:=h
  cases (show u=Value.ref a from r)
  obtain⟨_,_,p,_⟩:=zbR I h1 h2
  have hi:A.in1.units+zaM ds < cLine:=by simp only[dep]at hu;rw[Around.in1_units];omega
  cases e with
  | tup es =>
   have he:=h'
   simp only[Has]at h'
   obtain⟨b,ys,rfl,h3,h4⟩:=h'
   cases (show z=Value.ref b from r')
   by_cases hab:a=b
   ·subst hab
    rw[Has.inj I _ _ _ hd he,zaS]
    exact SeqAt.EqAt.same _
   ·have q:=(rcTT I h1 h2 h3 h4 hu' fun us zs ru rz j u z e1 e2=>ze0 I ds es xs ys us zs A.in1 h2 h4 ru rz hi j u z e1 e2).1
    simp only[peq]
    exact SeqAt.EqAt.of_refs hab q
  | lst es =>
   simp only[Has]at h'
   obtain⟨b,ys,rfl,h3,h4⟩:=h'
   cases (show z=Value.ref b from r')
   obtain⟨_,_,p',_⟩:=zbT I h3 h4
   exact SeqAt.EqAt.tuple_list p p' hu'
  | non=>simp only[Has]at h';subst h';cases (show z=Value.none from r');exact SeqAt.EqAt.tuple_none p hu'
  | bl k=>simp only[Has]at h';subst h';cases (show z=Value.bool k from r');exact SeqAt.EqAt.tuple_bool k p hu'
  | int k=>simp only[Has]at h';subst h';obtain⟨t,rfl⟩:=r';exact SeqAt.EqAt.tuple_int k t p hu'
  | str k=>simp only[Has]at h';subst h';obtain⟨t,rfl⟩:=r';exact SeqAt.EqAt.tuple_str k t p hu'
 | .lst ds,e,v,w,u,z,A,h,h',r,r',hu=>by
  have hu':=zcY hu
  have hd:=h
  simp only[Has]at h
  obtain⟨a,xs,rfl,h1,h2⟩:=h
  cases (show u=Value.ref a from r)
  obtain⟨_,_,p,_⟩:=zbT I h1 h2
  have hi:A.in1.units+zaM ds < cLine:=by simp only[dep]at hu;rw[Around.in1_units];omega
  cases e with
  | lst es =>
   have he:=h'
   simp only[Has]at h'
   obtain⟨b,ys,rfl,h3,h4⟩:=h'
   cases (show z=Value.ref b from r')
   by_cases hab:a=b
   ·subst hab
    rw[Has.inj I _ _ _ hd he,zaS]
    exact SeqAt.EqAt.same _
   ·have q:=(rcLL I h1 h2 h3 h4 hu' fun us zs ru rz j u z e1 e2=>ze0 I ds es xs ys us zs A.in1 h2 h4 ru rz hi j u z e1 e2).1
    simp only[peq]
    exact SeqAt.EqAt.of_refs hab q
  | tup es =>
   simp only[Has]at h'
   obtain⟨b,ys,rfl,h3,h4⟩:=h'
   cases (show z=Value.ref b from r')
   obtain⟨_,_,p',_⟩:=zbR I h3 h4
   exact SeqAt.EqAt.list_tuple p p' hu'
  | non=>simp only[Has]at h';subst h';cases (show z=Value.none from r');exact SeqAt.EqAt.list_none p hu'
  | bl k=>simp only[Has]at h';subst h';cases (show z=Value.bool k from r');exact SeqAt.EqAt.list_bool k p hu'
  | int k=>simp only[Has]at h';subst h';obtain⟨t,rfl⟩:=r';exact SeqAt.EqAt.list_int k t p hu'
  | str k=>simp only[Has]at h';subst h';obtain⟨t,rfl⟩:=r';exact SeqAt.EqAt.list_str k t p hu'
theorem ze0 (I:Inv X pins σ H s):∀(ds es:List Dt) (vs ws:List V) (us zs:List Value) (A:Around),ah X.K H ds vs→ah X.K H es ws→aI vs us→aI ws zs→A.units+zaM ds < cLine →
  ∀(j:Nat) (u z:Value),us[j]?=some u→zs[j]?=some z→SeqAt.EqAt A s u z (zcd ds es j)
 | [],es,vs,ws,us,zs,A,h,h',r,r',hu,j,u,z,e1,e2=>by
  simp only[ah]at h
  subst h
  cases r
  simp at e1
 | d :: ds,es,vs,ws,us,zs,A,h,h',r,r',hu,j,u,z,e1,e2=>by
  simp only[ah]at h
  obtain⟨v,rs,rfl,h1,h2⟩:=h
  cases r with
  | cons r1 r2 =>
   cases es with
   | nil =>
    simp only[ah]at h'
    subst h'
    cases r'
    simp at e2
   | cons e es =>
    simp only[ah]at h'
    obtain⟨w,rt,rfl,h3,h4⟩:=h'
    simp only[zaM]at hu
    cases r' with
    | cons r3 r4 =>
     cases j with
     | zero =>
      simp at e1 e2
      subst e1 e2
      exact zjp I d e v w _ _ A h1 h3 r1 r3 (by omega)
     | succ j=>exact ze0 I ds es rs rt _ _ A h2 h4 r2 r4 (by omega) j u z (by simpa using e1) (by simpa using e2)
end
end
end L2
namespace L2
open PySem PySem.Spec PyProof.Rows
section
variable {X:Cx} {pins:List (Addr × Obj)} {σ:St} {H:Hp} {s:Shared}
theorem rc_D (I:Inv X pins σ H s) (A:Around) (d e:Dt) (v w:V) (u z:Value) (h:Has X.K H d v) (h':Has X.K H e w) (r:aL v u) (r':aL w z) (hu:A.units+dep d < cLine) :
  SeqAt.RcAt A s u z (peq d e)∧SeqAt.RcNeAt A s u z (!peq d e):=by
 have hu':=zcY hu
 cases d with
 | non =>
  simp only[Has]at h
  subst h
  cases (show u=Value.none from r)
  cases e with
  | non =>
   simp only[Has]at h'
   subst h'
   cases (show z=Value.none from r')
   exact⟨SeqAt.RcAt.none_none,SeqAt.RcNeAt.none_none⟩
  | bl k2 =>
   simp only[Has]at h'
   subst h'
   cases (show z=Value.bool k2 from r')
   exact⟨SeqAt.RcAt.none_bool k2,SeqAt.RcNeAt.none_bool k2⟩
  | int k2 =>
   simp only[Has]at h'
   subst h'
   obtain⟨t2,rfl⟩:=r'
   exact⟨SeqAt.RcAt.none_int k2 t2,SeqAt.RcNeAt.none_int k2 t2⟩
  | str k2 =>
   simp only[Has]at h'
   subst h'
   obtain⟨t2,rfl⟩:=r'
   exact⟨SeqAt.RcAt.none_str k2 t2,SeqAt.RcNeAt.none_str k2 t2⟩
  | tup es =>
   simp only[Has]at h'
   obtain⟨b,ys,rfl,h3,h4⟩:=h'
   obtain⟨_,_,p,_⟩:=zbR I h3 h4
   cases (show z=Value.ref b from r')
   exact⟨SeqAt.RcAt.none_tuple p hu',SeqAt.RcNeAt.none_tuple p hu'⟩
  | lst es =>
   simp only[Has]at h'
   obtain⟨b,ys,rfl,h3,h4⟩:=h'
   obtain⟨_,_,p,_⟩:=zbT I h3 h4
   cases (show z=Value.ref b from r')
   exact⟨SeqAt.RcAt.none_list p hu',SeqAt.RcNeAt.none_list p hu'⟩
 | bl k1 =>
  simp only[Has]at h
  subst h
  cases (show u=Value.bool k1 from r)
  cases e with
  | non =>
   simp only[Has]at h'
   subst h'
   cases (show z=Value.none from r')
   exact⟨SeqAt.RcAt.bool_none k1,SeqAt.RcNeAt.bool_none k1⟩
  | bl k2 =>
   simp only[Has]at h'
   subst h'
   cases (show z=Value.bool k2 from r')
   exact⟨SeqAt.RcAt.bool_bool k1 k2,SeqAt.RcNeAt.bool_bool k1 k2⟩
  | int k2 =>
   simp only[Has]at h'
   subst h'
   obtain⟨t2,rfl⟩:=r'
   exact⟨SeqAt.RcAt.bool_int k1 k2 t2,SeqAt.RcNeAt.bool_int k1 k2 t2⟩
  | str k2 =>
   simp only[Has]at h'
   subst h'
   obtain⟨t2,rfl⟩:=r'
   exact⟨SeqAt.RcAt.bool_str k1 k2 t2,SeqAt.RcNeAt.bool_str k1 k2 t2⟩
  | tup es =>
   simp only[Has]at h'
   obtain⟨b,ys,rfl,h3,h4⟩:=h'
   obtain⟨_,_,p,_⟩:=zbR I h3 h4
   cases (show z=Value.ref b from r')
   exact⟨SeqAt.RcAt.bool_tuple k1 p hu',SeqAt.RcNeAt.bool_tuple k1 p hu'⟩
  | lst es =>
   simp only[Has]at h'
   obtain⟨b,ys,rfl,h3,h4⟩:=h'
   obtain⟨_,_,p,_⟩:=zbT I h3 h4
   cases (show z=Value.ref b from r')
   exact⟨SeqAt.RcAt.bool_list k1 p hu',SeqAt.RcNeAt.bool_list k1 p hu'⟩
 | int k1 =>
  simp only[Has]at h
  subst h
  obtain⟨t1,rfl⟩:=r
  cases e with
  | non =>
   simp only[Has]at h'
   subst h'
   cases (show z=Value.none from r')
   exact⟨SeqAt.RcAt.int_none k1 t1,SeqAt.RcNeAt.int_none k1 t1⟩
  | bl k2 =>
   simp only[Has]at h'
   subst h'
   cases (show z=Value.bool k2 from r')
   exact⟨SeqAt.RcAt.int_bool k1 t1 k2,SeqAt.RcNeAt.int_bool k1 t1 k2⟩
  | int k2 =>
   simp only[Has]at h'
   subst h'
   obtain⟨t2,rfl⟩:=r'
   exact⟨SeqAt.RcAt.int_int k1 t1 k2 t2,SeqAt.RcNeAt.int_int k1 t1 k2 t2⟩
  | str k2 =>
   simp only[Has]at h'
   subst h'
   obtain⟨t2,rfl⟩:=r'
   exact⟨SeqAt.RcAt.int_str k1 t1 k2 t2,SeqAt.RcNeAt.int_str k1 t1 k2 t2⟩
  | tup es =>
   simp only[Has]at h'
   obtain⟨b,ys,rfl,h3,h4⟩:=h'
   obtain⟨_,_,p,_⟩:=zbR I h3 h4
   cases (show z=Value.ref b from r')
   exact⟨SeqAt.RcAt.int_tuple k1 t1 p hu',SeqAt.RcNeAt.int_tuple k1 t1 p hu'⟩
  | lst es =>
   simp only[Has]at h'
   obtain⟨b,ys,rfl,h3,h4⟩:=h'
   obtain⟨_,_,p,_⟩:=zbT I h3 h4
   cases (show z=Value.ref b from r')
   exact⟨SeqAt.RcAt.int_list k1 t1 p hu',SeqAt.RcNeAt.int_list k1 t1 p hu'⟩
 | str k1 =>
  simp only[Has]at h
  subst h
  obtain⟨t1,rfl⟩:=r
  cases e with
  | non =>
   simp only[Has]at h'
   subst h'
   cases (show z=Value.none from r')
   exact⟨SeqAt.RcAt.str_none k1 t1,SeqAt.RcNeAt.str_none k1 t1⟩
  | bl k2 =>
   simp only[Has]at h'
   subst h'
   cases (show z=Value.bool k2 from r')
   exact⟨SeqAt.RcAt.str_bool k1 t1 k2,SeqAt.RcNeAt.str_bool k1 t1 k2⟩
  | int k2 =>
   simp only[Has]at h'
   subst h'
   obtain⟨t2,rfl⟩:=r'
   exact⟨SeqAt.RcAt.str_int k1 t1 k2 t2,SeqAt.RcNeAt.str_int k1 t1 k2 t2⟩
  | str k2 =>
   simp only[Has]at h'
   subst h'
   obtain⟨t2,rfl⟩:=r'
   exact⟨SeqAt.RcAt.str_str k1 t1 k2 t2,SeqAt.RcNeAt.str_str k1 t1 k2 t2⟩
  | tup es =>
   simp only[Has]at h'
   obtain⟨b,ys,rfl,h3,h4⟩:=h'
   obtain⟨_,_,p,_⟩:=zbR I h3 h4
   cases (show z=Value.ref b from r')
   exact⟨SeqAt.RcAt.str_tuple k1 t1 p hu',SeqAt.RcNeAt.str_tuple k1 t1 p hu'⟩
  | lst es =>
   simp only[Has]at h'
   obtain⟨b,ys,rfl,h3,h4⟩:=h'
   obtain⟨_,_,p,_⟩:=zbT I h3 h4
   cases (show z=Value.ref b from r')
   exact⟨SeqAt.RcAt.str_list k1 t1 p hu',SeqAt.RcNeAt.str_list k1 t1 p hu'⟩
 | tup ds =>
  simp only[Has]at h
  obtain⟨a,xs,rfl,h1,h2⟩:=h
  cases (show u=Value.ref a from r)
  obtain⟨_,_,p,_⟩:=zbR I h1 h2
  have hi:A.in1.units+zaM ds < cLine:=by simp only[dep]at hu;rw[Around.in1_units];omega
  cases e with
  | non =>
   simp only[Has]at h'
   subst h'
   cases (show z=Value.none from r')
   exact⟨SeqAt.RcAt.tuple_none p hu',SeqAt.RcNeAt.tuple_none p hu'⟩
  | bl k2 =>
   simp only[Has]at h'
   subst h'
   cases (show z=Value.bool k2 from r')
   exact⟨SeqAt.RcAt.tuple_bool k2 p hu',SeqAt.RcNeAt.tuple_bool k2 p hu'⟩
  | int k2 =>
   simp only[Has]at h'
   subst h'
   obtain⟨t2,rfl⟩:=r'
   exact⟨SeqAt.RcAt.tuple_int k2 t2 p hu',SeqAt.RcNeAt.tuple_int k2 t2 p hu'⟩
  | str k2 =>
   simp only[Has]at h'
   subst h'
   obtain⟨t2,rfl⟩:=r'
   exact⟨SeqAt.RcAt.tuple_str k2 t2 p hu',SeqAt.RcNeAt.tuple_str k2 t2 p hu'⟩
  | tup es =>
   simp only[Has]at h'
   obtain⟨b,ys,rfl,h3,h4⟩:=h'
   cases (show z=Value.ref b from r')
   simp only[peq]
   exact rcTT I h1 h2 h3 h4 hu' fun us zs ru rz j u z e1 e2=>ze0 I ds es xs ys us zs A.in1 h2 h4 ru rz hi j u z e1 e2
  | lst es =>
   simp only[Has]at h'
   obtain⟨b,ys,rfl,h3,h4⟩:=h'
   cases (show z=Value.ref b from r')
   obtain⟨_,_,p',_⟩:=zbT I h3 h4
   exact⟨SeqAt.RcAt.tuple_list p p' hu',SeqAt.RcNeAt.tuple_list p p' hu'⟩
 | lst ds =>
  simp only[Has]at h
  obtain⟨a,xs,rfl,h1,h2⟩:=h
  cases (show u=Value.ref a from r)
  obtain⟨_,_,p,_⟩:=zbT I h1 h2
  have hi:A.in1.units+zaM ds < cLine:=by simp only[dep]at hu;rw[Around.in1_units];omega
  cases e with
  | non =>
   simp only[Has]at h'
   subst h'
   cases (show z=Value.none from r')
   exact⟨SeqAt.RcAt.list_none p hu',SeqAt.RcNeAt.list_none p hu'⟩
  | bl k2 =>
   simp only[Has]at h'
   subst h'
   cases (show z=Value.bool k2 from r')
   exact⟨SeqAt.RcAt.list_bool k2 p hu',SeqAt.RcNeAt.list_bool k2 p hu'⟩
  | int k2 =>
   simp only[Has]at h'
   subst h'
   obtain⟨t2,rfl⟩:=r'
   exact⟨SeqAt.RcAt.list_int k2 t2 p hu',SeqAt.RcNeAt.list_int k2 t2 p hu'⟩
  | str k2 =>
   simp only[Has]at h'
   subst h'
   obtain⟨t2,rfl⟩:=r'
   exact⟨SeqAt.RcAt.list_str k2 t2 p hu',SeqAt.RcNeAt.list_str k2 t2 p hu'⟩
  | tup es =>
   simp only[Has]at h'
   obtain⟨b,ys,rfl,h3,h4⟩:=h'
   cases (show z=Value.ref b from r')
   obtain⟨_,_,p',_⟩:=zbR I h3 h4
   exact⟨SeqAt.RcAt.list_tuple p p' hu',SeqAt.RcNeAt.list_tuple p p' hu'⟩
  | lst es =>
   simp only[Has]at h'
   obtain⟨b,ys,rfl,h3,h4⟩:=h'
   cases (show z=Value.ref b from r')
   simp only[peq]
   exact rcLL I h1 h2 h3 h4 hu' fun us zs ru rz j u z e1 e2=>ze0 I ds es xs ys us zs A.in1 h2 h4 ru rz hi j u z e1 e2
def rEqD (K:W.Frag):R2:=fun x y H Q=>∃ d e,Has K H d x∧Has K H e y∧dep d≤60∧Q (.bl (peq d e)) H
def rNeD (K:W.Frag):R2:=fun x y H Q=>∃ d e,Has K H d x∧Has K H e y∧dep d≤60∧Q (.bl (!peq d e)) H
theorem zhc (hu:X.A.units+64 < cLine):OpR X (compareOp .Eq) (rEqD X.K):=by
 intro pins s σ H x y v u Q I rx ry h
 obtain⟨d,e,h1,h2,hd,q⟩:=h
 exact(rc_D I X.A d e x y v u h1 h2 rx ry (by omega)).1 _ _ _ _ ⟨.bl _,H,I,rfl,q⟩
theorem zej (hu:X.A.units+64 < cLine):OpR X (compareOp .NotEq) (rNeD X.K):=by
 intro pins s σ H x y v u Q I rx ry h
 obtain⟨d,e,h1,h2,hd,q⟩:=h
 exact(rc_D I X.A d e x y v u h1 h2 rx ry (by omega)).2 _ _ _ _ ⟨.bl _,H,I,rfl,q⟩
open Classical in
noncomputable def hitD (K:W.Frag) (H:Hp) (d:Dt) (u:Value):Bool:=decide (∃(v:V) (d':Dt),aL v u∧Has K H d' v∧peq d' d=true)
open Classical in
theorem zgw (I:Inv X pins σ H s) {d d':Dt} {v:V} {u:Value} (r:aL v u) (h:Has X.K H d' v):hitD X.K H d u=peq d' d:=by
 unfold hitD
 cases e:peq d' d with
 | true=>exact decide_eq_true ⟨v,d',r,h,e⟩
 | false =>
  refine decide_eq_false fun⟨v',d2,r',h',e'⟩=>?_
  rw[r'.inj r]at h'
  rw[Has.inj I _ _ _ h' h,e]at e'
  cases e'
theorem zfU (I:Inv X pins σ H s) {d:Dt}:∀ {ds:List Dt} {vs:List V} {us:List Value},ah X.K H ds vs→aI vs us→us.any (hitD X.K H d)=ds.any fun d'=>peq d' d
 | [],vs,us,h,r=>by
  simp only[ah]at h
  subst h
  cases r
  rfl
 | d' :: ds,vs,us,h,r=>by
  simp only[ah]at h
  obtain⟨v,rs,rfl,h1,h2⟩:=h
  cases r with
  | cons r1 r2=>rw[List.any_cons,List.any_cons,zgw I r1 h1,zfU I h2 r2]
theorem zeK (I:Inv X pins σ H s) {A:Around} {d:Dt} {x:V} {ux:Value} (hx:Has X.K H d x) (rx:aL x ux):∀ {ds:List Dt} {vs:List V} {us:List Value},ah X.K H ds vs→aI vs us→A.units+zaM ds < cLine→∀ u∈us,SeqAt.EqAt A s u ux (hitD X.K H d u)
 | [],vs,us,h,r,hu,u,hm=>by
  simp only[ah]at h
  subst h
  cases r
  cases hm
 | d' :: ds,vs,us,h,r,hu,u,hm=>by
  simp only[ah]at h
  obtain⟨v,rs,rfl,h1,h2⟩:=h
  simp only[zaM]at hu
  cases r with
  | cons r1 r2 =>
   rcases List.mem_cons.mp hm with rfl | hm
   ·rw[zgw I r1 h1]
    exact zjp I d' d v x _ _ A h1 hx r1 rx (by omega)
   ·exact zeK I hx rx h2 r2 (by omega) u hm
def rInD (K:W.Frag) (neg:Bool):R2:=fun x y H Q=>∃ p xs ds d,y=.ref p∧(SqL K H p xs∨SqT K H p xs)∧ah K H ds xs∧Has K H d x∧zaM ds≤60∧Q (.bl (if neg then !(ds.any fun d'=>peq d' d) else ds.any fun d'=>peq d' d)) H
theorem zi7 (hu:X.A.units+64 < cLine):OpR X (compareOp .In) (rInD X.K false):=by
 intro pins s σ H x y v u Q I rx ry h
 obtain⟨p,xs,ds,d,rfl,hq,hs,hx,hd,q⟩:=h
 cases ry
 have hin:X.A.in1.units+zaM ds < cLine:=by rw[Around.in1_units];omega
 rcases hq with hq | hq
 ·obtain⟨its,r,pl,hz⟩:=I.list hq
  refine SeqAt.in_listAt (hitD X.K H d) pl.isList (fun w hw=>zeK I hx rx hs r hin w (by simpa using hw)) ⟨.bl _,H,I,rfl,?_⟩
  rw[show its.toArray.any (hitD X.K H d)=its.any (hitD X.K H d) by simp,zfU I hs r]
  exact q
 ·obtain⟨its,r,pl,hz⟩:=I.tuple hq
  refine SeqAt.in_tupleAt (hitD X.K H d) pl (fun w hw=>zeK I hx rx hs r hin w (by simpa using hw)) ⟨.bl _,H,I,rfl,?_⟩
  rw[show its.toArray.any (hitD X.K H d)=its.any (hitD X.K H d) by simp,zfU I hs r]
  exact q
def zk5 (K:W.Frag):V→List V→Hp→VK→Prop:=fun x vs H Q=>∃ l xs ds y d j,x=.ref l∧vs=[y]∧H l=some (.lst xs)∧ah K H ds xs∧Has K H d y∧zaM ds≤60 ∧
 (∃ dj,ds[j]?=some dj∧peq dj d=true)∧(∀ m dm,m < j→ds[m]?=some dm→peq dm d=false)∧Q (.int (j:Nat)) H
theorem zgM (hu:X.A.units+64 < cLine):MtM X "list.index" (zk5 X.K):=by
 intro pins s σ H x vs v us Q I rx rv h
 obtain⟨l,xs,ds,y,d,j,rfl,rfl,hH,hs,hy,hd,⟨dj,ej,hj⟩,hno,q⟩:=h
 cases rx
 obtain⟨u,rfl,ru⟩:=rv.one
 obtain⟨z,its,n,r,hl,e⟩:=I.lstM hH
 have hlen:=hs.length
 have hjl:j < ds.length:=(List.getElem?_eq_some_iff.mp ej).1
 have hin:X.A.in1.units+zaM ds < cLine:=by rw[Around.in1_units];omega
 have at_:∀ m (hm:m < its.toArray.size),∃ dm,ds[m]?=some dm∧hitD X.K H d its.toArray[m]=peq dm d:=fun m hm=>by
  have hm':m < ds.length:=by rw[List.size_toArray]at hm;omega
  obtain⟨w,e1,e2⟩:=hs.getD (List.getElem?_eq_getElem hm')
  obtain⟨wv,e3,e4⟩:=r.get e1
  have e5:its.toArray[m]=wv:=by
   have:its[m]?=some wv:=e3
   simp only[List.getElem_toArray]
   rw[List.getElem?_eq_getElem (by rw[List.size_toArray]at hm;exact hm)]at this
   exact Option.some.inj this
  exact⟨_,List.getElem?_eq_getElem hm',by rw[e5];exact zgw I e4 e2⟩
 have hjs:j < its.toArray.size:=by rw[List.size_toArray];omega
 have hsm:(j:Int) < 2 ^ 63 - 1:=by
  have:=sizeLine_eq
  omega
 refine call_meets F.slot_list_index ⟨_,e,rfl⟩ F.entry_list_index (F.args_list_index_2 _ _) (SeqAt.list_indexAt l its.toArray n none #[] u (hitD X.K H d) j hjs hsm ?_ ?_) ⟨e,?_,?_⟩
 ·obtain⟨dm,e1,e2⟩:=at_ j hjs
  rw[ej]at e1
  cases e1
  rw[e2,hj]
 ·intro m hm hlt
  obtain⟨dm,e1,e2⟩:=at_ m hm
  rw[e2,hno m dm hlt e1]
 ·intro w hw
  exact zeK I hy ru hs r hin w (by simpa using hw)
 ·exact⟨.int (j:Nat),H,I.tok _,⟨_,rfl⟩,q⟩
end
end L2
namespace L2
open PySem PySem.Spec PyProof.Rows
structure FB (P:Program) (w:World) (K:W.Frag) (mg:Str→Option Value) (base:Heap) (CX:CXT) (k:Nat) (x:Str) (f:Addr) (fd:FuncData) (ps:List Str) (sp:Sp):Prop where
 ok:aH P w K mg base CX k f fd ps sp
 b:aD K fd ps []
 kp:W.keepIn K (.ref f)=true
 m:mg x=some (.ref f)
theorem bsz (n:Nat) (h:n≤1000):n≤sizeLine:=Nat.le_of_lt (zaY h)
theorem zkR {k:Nat} {A:Around} (hr:aO k A):A.units+64 < cLine:=hr.units
theorem zet (K:W.Frag) (n:String):W.kitOne K (.type n) (.type n)=some true:=by
 unfold W.kitOne
 rw[if_pos (by simp)]
theorem zhK {ns:List Int} {i:Nat} {n:Int} (h:ns[i]?=some n):atI (ns.map V.int) (i:Int)=some (.int n):=aA (by rw[List.getElem?_map,h];rfl)
theorem zai {α:Type} {xs:List α} {i:Nat} {x:α} (h:xs[i]?=some x):xs.take (i+1)=xs.take i++[x]:=by
 rw[List.take_add_one,h]
 rfl
theorem ai {H:Hp} {p:Addr} (h:H p=none) (o:HO):ao H (upd H p o):=fun b u q=>by rw[aj (zac q h)];exact q
theorem ao.upd {H0 H:Hp} {l:Addr} {o:HO} (s:ao H0 H) (h:H0 l=none):ao H0 (upd H l o):=fun b u q=>by rw[aj (zac q h)];exact s b u q
theorem ao.kt {H H':Hp} (s:ao H H'):zag H H':=zag.of_same s
theorem ao.tup {K:W.Frag} {H H':Hp} {a:Addr} {xs:List V} (s:ao H H') (h:SqT K H a xs):SqT K H' a xs:=s.kt.sq h
structure Wk (J:It) (n:Nat) (Ok:Hp→Prop):Prop where
 stop:∀ i H,Ok H→n≤i→J.stop i H
 go:∀ i H,Ok H→i < n→J.go i H
theorem zhg {lo:Int} {n:Nat}:Wk (Itr lo n) n (fun _=>True):=⟨fun _ _ _ h=>h,fun _ _ _ h=>h⟩
theorem zbd {K:W.Frag} {a:Addr} {xs:List V}:Wk (Itl K a) xs.length (fun H=>SqL K H a xs):=⟨fun _ _ h hi=>⟨xs,h,hi⟩,fun i _ h hi=>⟨xs,xs[i],h,by simp [hi]⟩⟩
theorem zbY {K:W.Frag} {a:Addr} {xs:List V}:Wk (Itt K a) xs.length (fun H=>SqT K H a xs):=⟨fun _ _ h hi=>⟨xs,h,hi⟩,fun i _ h hi=>⟨xs,xs[i],h,by simp [hi]⟩⟩
def LcW (n:Nat) (D:Addr) (Pv:Nat→List V→Hp→Prop) (i m:Nat) (ys:List V) (H:Hp):Prop:=m=n - i∧i≤n∧ys.length≤i∧H D=some (.lst ys)∧Pv i ys H
def zf4 (n:Nat) (D:Addr) (Pv:Nat→List V→Hp→Prop) (i:Nat) (ys:List V):VK:=fun y H3=>H3 D=some (.lst ys)∧ys.length < sizeLine∧∃ m',m' < n - i∧LcW n D Pv (i+1) m' (ys++[y]) (upd H3 D (.lst (ys++[y])))
def zjv (n:Nat) (D:Addr) (Pv:Nat→List V→Hp→Prop) (i:Nat) (ys:List V) (H3:Hp):Prop:=∃ m',m' < n - i∧LcW n D Pv (i+1) m' ys H3
theorem zaQ {n:Nat} {D:Addr} {Pv:Nat→List V→Hp→Prop} {i:Nat} {ys:List V} {y:V} {H3:Hp} (hn:n≤sizeLine) (hi:i < n) (hl:ys.length≤i) (hD:H3 D=some (.lst ys)) (p:Pv (i+1) (ys++[y]) (upd H3 D (.lst (ys++[y])))):zf4 n D Pv i ys y H3 :=
 ⟨hD,by omega,n - (i+1),by omega,rfl,hi,by rw[List.length_append,List.length_singleton];omega,ad,p⟩
theorem zch {n:Nat} {D:Addr} {Pv:Nat→List V→Hp→Prop} {i:Nat} {ys:List V} {H3:Hp} (hi:i < n) (hl:ys.length≤i) (hD:H3 D=some (.lst ys)) (p:Pv (i+1) ys H3):zjv n D Pv i ys H3 :=
 ⟨n - (i+1),by omega,rfl,hi,by omega,hD,p⟩
theorem zcM {J:It} {n:Nat} {Ok:Hp→Prop} {te:TE} {fv:St} {H1:Hp} {D:Addr} {R:Hp→Prop} (W:Wk J n Ok) (Pv:Nat→List V→Hp→Prop) (hok:∀ i ys H,Pv i ys H→Ok H) (h0:Pv 0 [] (upd H1 D (.lst [])))
  (hs:∀ i ys H' x H'',i < n→ys.length≤i→H' D=some (.lst ys)→Pv i ys H'→J.yld i H' x H''→te (some x :: fv) H'' (zf4 n D Pv i ys)) (hd:∀ ys H',H' D=some (.lst ys)→Pv n ys H'→R H') :
  ∃ W:Nat→Nat→List V→Hp→Prop,(∃ m,W 0 m [] (upd H1 D (.lst [])))∧∀ i m ys H',W i m ys H'→H' D=some (.lst ys) ∧
   ((J.stop i H'∧R H')∨(J.go i H'∧∀ x H'',J.yld i H' x H''→te (some x :: fv) H'' fun y H3=>H3 D=some (.lst ys)∧ys.length < sizeLine∧∃ m',m' < m∧W (i+1) m' (ys++[y]) (upd H3 D (.lst (ys++[y]))))):=by
 refine⟨LcW n D Pv,⟨n,rfl,Nat.zero_le _,Nat.zero_le _,ad,h0⟩,?_⟩
 rintro i m ys H' ⟨rfl,hi,hl,hD,p⟩
 refine⟨hD,?_⟩
 by_cases hlt:i < n
 ·exact .inr ⟨W.go i H' (hok _ _ _ p) hlt,fun x H'' y=>hs i ys H' x H'' hlt hl hD p y⟩
 ·have e:i=n:=by omega
  subst e
  exact .inl ⟨W.stop i H' (hok _ _ _ p) (Nat.le_refl _),hd ys H' hD p⟩
theorem zdd {J:It} {n:Nat} {Ok:Hp→Prop} {tc:TT} {te:TE} {fv:St} {H1:Hp} {D:Addr} {R:Hp→Prop} (W:Wk J n Ok) (Pv:Nat→List V→Hp→Prop) (hok:∀ i ys H,Pv i ys H→Ok H) (h0:Pv 0 [] (upd H1 D (.lst [])))
  (hs:∀ i ys H' x H'',i < n→ys.length≤i→H' D=some (.lst ys)→Pv i ys H'→J.yld i H' x H''→tc (some x :: fv) H'' fun b H3=>if b=true then te (some x :: fv) H3 (zf4 n D Pv i ys) else zjv n D Pv i ys H3)
  (hd:∀ ys H',H' D=some (.lst ys)→Pv n ys H'→R H') :
  ∃ W:Nat→Nat→List V→Hp→Prop,(∃ m,W 0 m [] (upd H1 D (.lst [])))∧∀ i m ys H',W i m ys H'→H' D=some (.lst ys) ∧
   ((J.stop i H'∧R H')∨(J.go i H'∧∀ x H'',J.yld i H' x H''→tc (some x :: fv) H'' fun b H3 =>
    if b=true then te (some x :: fv) H3 fun y H4=>H4 D=some (.lst ys)∧ys.length < sizeLine∧∃ m',m' < m∧W (i+1) m' (ys++[y]) (upd H4 D (.lst (ys++[y])))
    else ∃ m',m' < m∧W (i+1) m' ys H3)):=by
 refine⟨LcW n D Pv,⟨n,rfl,Nat.zero_le _,Nat.zero_le _,ad,h0⟩,?_⟩
 rintro i m ys H' ⟨rfl,hi,hl,hD,p⟩
 refine⟨hD,?_⟩
 by_cases hlt:i < n
 ·exact .inr ⟨W.go i H' (hok _ _ _ p) hlt,fun x H'' y=>hs i ys H' x H'' hlt hl hD p y⟩
 ·have e:i=n:=by omega
  subst e
  exact .inl ⟨W.stop i H' (hok _ _ _ p) (Nat.le_refl _),hd ys H' hD p⟩
theorem zbx {J:It} {n:Nat} {Ok:Hp→Prop} {g:TG} {tb:TS} {D:zcX} {σ:St} {H:Hp} (W:Wk J n Ok) (Pv:Nat→St→Hp→Prop) (hok:∀ i σ H,Pv i σ H→Ok H) (h0:Pv 0 σ H)
  (hs:∀ i σ H x H',i < n→Pv i σ H→J.yld i H x H'→g x σ H' fun σ2 H2=>tb { D with nx:=Pv (i+1),ct:=Pv (i+1),bk:=D.nx } σ2 H2) (hd:∀ σ H,Pv n σ H→D.nx σ H) :
  ∃ W:Nat→Nat→St→Hp→Prop,(∃ m,W 0 m σ H)∧∀ i m σ H,W i m σ H →
   (J.stop i H∧D.nx σ H)∨(J.go i H∧∃ N:St→Hp→Prop,(∀ σ' H',N σ' H'→∃ m',m' < m∧W (i+1) m' σ' H')∧∀ x H',J.yld i H x H'→g x σ H' fun σ2 H2=>tb { D with nx:=N,ct:=N,bk:=D.nx } σ2 H2):=by
 refine⟨fun i m σ H=>m=n - i∧i≤n∧Pv i σ H,⟨n,by simp,Nat.zero_le _,h0⟩,?_⟩
 rintro i m σ H ⟨rfl,hi,p⟩
 by_cases hlt:i < n
 ·exact .inr ⟨W.go i H (hok _ _ _ p) hlt,Pv (i+1),fun σ' H' p'=>⟨n - (i+1),by omega,rfl,hlt,p'⟩,fun x H' y=>hs i σ H x H' hlt p y⟩
 ·have e:i=n:=by omega
  subst e
  exact .inl ⟨W.stop i H (hok _ _ _ p) (Nat.le_refl _),hd σ H p⟩
theorem Has.int {K:W.Frag} {H:Hp} {i:Int}:Has K H (.int i) (.int i):=by simp only[Has]
theorem Has.str' {K:W.Frag} {H:Hp} {x:Str}:Has K H (.str x) (.str x):=by simp only[Has]
theorem ah.nil {K:W.Frag} {H:Hp}:ah K H [] []:=by simp only[ah]
theorem ah.cons {K:W.Frag} {H:Hp} {d:Dt} {ds:List Dt} {v:V} {vs:List V} (h:Has K H d v) (r:ah K H ds vs):ah K H (d :: ds) (v :: vs):=by
 simp only[ah]
 exact⟨v,vs,rfl,h,r⟩
theorem Has.tup' {K:W.Frag} {H:Hp} {ds:List Dt} {a:Addr} {xs:List V} (h:SqT K H a xs) (r:ah K H ds xs):Has K H (.tup ds) (.ref a):=by
 simp only[Has]
 exact⟨a,xs,rfl,h,r⟩
theorem Has.lst' {K:W.Frag} {H:Hp} {ds:List Dt} {a:Addr} {xs:List V} (h:SqL K H a xs) (r:ah K H ds xs):Has K H (.lst ds) (.ref a):=by
 simp only[Has]
 exact⟨a,xs,rfl,h,r⟩
theorem zdi {K:W.Frag} {H:Hp}:∀ {ns:List Int} {vs:List V},ah K H (ns.map Dt.int) vs→vs=ns.map V.int
 | [],vs,h=>by simp only[List.map_nil,ah]at h;rw[h];rfl
 | n :: ns,vs,h=>by
  simp only[List.map_cons,ah]at h
  obtain⟨v,r,rfl,h1,h2⟩:=h
  simp only[Has]at h1
  rw[h1,zdi h2]
  rfl
def dP (t:Int × Int):Dt:=.tup [.int t.1,.int t.2]
theorem has_dP {K:W.Frag} {H:Hp} {t:Int × Int} {v:V} (h:Has K H (dP t) v):∃ p,v=.ref p∧SqT K H p [.int t.1,.int t.2]:=by
 unfold dP at h
 simp only[Has]at h
 obtain⟨a,xs,rfl,hs,hl⟩:=h
 have e:=zdi (ns:=[t.1,t.2]) hl
 rw[e]at hs
 exact⟨a,rfl,hs⟩
theorem za9:∀ ts:List (Int × Int),zaW (ts.map dP)=true
 | []=>by simp [zaW]
 | t :: ts=>by simp only[List.map_cons,zaW,dP,nol,Bool.true_and];exact za9 ts
theorem zlq {K:W.Frag} {H:Hp} {ts:List (Int × Int)} {xs:List V} {i:Nat} {x:V} (h:ah K H (ts.map dP) xs) (e:xs[i]?=some x):∃ t p,ts[i]?=some t∧x=.ref p∧SqT K H p [.int t.1,.int t.2]:=by
 obtain⟨d,e1,e2⟩:=h.get e
 rw[List.getElem?_map]at e1
 cases q:ts[i]? with
 | none=>rw[q]at e1;cases e1
 | some t =>
  rw[q]at e1
  cases e1
  obtain⟨p,rfl,hp⟩:=has_dP e2
  exact⟨t,p,rfl,rfl,hp⟩
end L2
namespace PySem
open Sem (wp)
namespace F
end F
section
variable {prog:Program} {w:World} {K:Type} [DecidableEq K] {knd:KeyKind prog w K} {A:Around}
end
end PySem
namespace L2
open PySem PySem.Spec PyProof.Rows
section
variable {κ:Type} [DecidableEq κ]
def zat (kvs:List (κ × V)) (k:κ):Option V:=(kvs.find? fun kv=>decide (kv.1=k)).map (·.2)
def zaw (kvs:List (κ × V)) (k:κ) (v:V):List (κ × V) :=
 if(kvs.any fun kv=>decide (kv.1=k))=true then kvs.map (fun kv=>if kv.1=k then(kv.1,v) else kv) else kvs++[(k,v)]
theorem zbg {p:κ × V} {r:List (κ × V)} {k:κ} (e:p.1=k):zat (p :: r) k=some p.2:=by simp [zat,List.find?_cons,e]
theorem zbh {p:κ × V} {r:List (κ × V)} {k:κ} (e:¬p.1=k):zat (p :: r) k=zat r k:=by simp [zat,List.find?_cons,e]
theorem zcE (k:κ):∀ kvs:List (κ × V),(kvs.any fun kv=>decide (kv.1=k))=(zat kvs k).isSome
 | []=>rfl
 | p :: r=>by
  rw[List.any_cons]
  by_cases e:p.1=k
  ·simp only[zbg e,decide_eq_true e,Bool.true_or,Option.isSome_some]
  ·rw[zbh e,decide_eq_false e,Bool.false_or];exact zcE k r
theorem zhh (k j:κ) (y:V):∀ kvs:List (κ × V),zat (kvs.map fun kv=>if kv.1=k then(kv.1,y) else kv) j=(zat kvs j).map fun x=>if j=k then y else x
 | []=>rfl
 | p :: r=>by
  have ih:=zhh k j y r
  rw[List.map_cons]
  by_cases h:p.1=k
  ·rw[if_pos h]
   by_cases e:p.1=j
   ·rw[zbg (p:=(p.1,y)) e,zbg e,Option.map_some,if_pos (e.symm.trans h)]
   ·rw[zbh (p:=(p.1,y)) e,zbh e,ih]
  ·rw[if_neg h]
   by_cases e:p.1=j
   ·rw[zbg (p:=p) e,zbg e,Option.map_some,if_neg (fun z=>h (e.trans z))]
   ·rw[zbh (p:=p) e,zbh e,ih]
theorem zgC (k j:κ) (y:V):∀ kvs:List (κ × V),zat kvs k=none→zat (kvs++[(k,y)]) j=if j=k then some y else zat kvs j
 | [],_=>by
  by_cases e:k=j
  ·rw[if_pos e.symm];exact zbg (p:=(k,y)) e
  ·rw[if_neg (fun z=>e z.symm)];exact zbh (p:=(k,y)) e
 | p :: r,hn=>by
  rw[List.cons_append]
  have hk:¬p.1=k:=fun z=>by rw[zbg z]at hn;cases hn
  rw[zbh hk]at hn
  have ih:=zgC k j y r hn
  by_cases e:p.1=j
  ·rw[zbg e,zbg e,if_neg (fun z=>hk (e.trans z))]
  ·rw[zbh e,zbh e,ih]
theorem zb4 (kvs:List (κ × V)) (k j:κ) (y:V):zat (zaw kvs k y) j=if j=k then some y else zat kvs j:=by
 unfold zaw
 by_cases a:(kvs.any fun kv=>decide (kv.1=k))=true
 ·rw[if_pos a,zhh]
  rw[zcE]at a
  by_cases e:j=k
  ·obtain⟨x,hx⟩:=Option.isSome_iff_exists.mp a
   rw[if_pos e,e,hx,Option.map_some,if_pos rfl]
  ·rw[if_neg e]
   cases zat kvs j with
   | none=>rfl
   | some x=>rw[Option.map_some,if_neg e]
 ·rw[if_neg a]
  refine zgC k j y kvs ?_
  rw[zcE]at a
  cases q:zat kvs k with
  | none=>rfl
  | some x=>rw[q]at a;exact(a rfl).elim
theorem zcw (kvs:List (κ × V)) (k:κ) (v:V):(zaw kvs k v).length≤kvs.length+1:=by
 unfold zaw
 split
 ·rw[List.length_map];omega
 ·rw[List.length_append,List.length_cons,List.length_nil];omega
theorem zbP.isSome_eq {o:Option V} {u:Option Value} (r:zbP o u):o.isSome=u.isSome:=by
 cases o with
 | none=>cases u with
  | none=>rfl
  | some _=>exact(show False from r).elim
 | some _=>cases u with
  | none=>exact(show False from r).elim
  | some _=>rfl
theorem zbP.getD {o:Option V} {u:Option Value} {d:V} {d':Value} (r:zbP o u) (rd:aL d d'):aL (o.getD d) (u.getD d'):=by
 cases o with
 | none=>cases u with
  | none=>exact rd
  | some _=>exact(show False from r).elim
 | some _=>cases u with
  | none=>exact(show False from r).elim
  | some _=>exact r
theorem KV.val {kvs:List (κ × V)} {vs:List (κ × Value)} (r:KV kvs vs) (k:κ):zbP (zat kvs k) (valueAt vs k):=by
 unfold KV at r
 induction r with
 | nil=>exact True.intro
 | @cons p q ps qs h t ih =>
  obtain⟨h1,h2⟩:=h
  by_cases e:p.1=k
  ·have e':q.1=k:=h1.symm.trans e
   have b:valueAt (q :: qs) k=some q.2:=by simp [valueAt,List.find?_cons,e']
   rw[zbg e,b];exact h2
  ·have e':¬q.1=k:=fun z=>e (h1.trans z)
   have b:valueAt (q :: qs) k=valueAt qs k:=by simp [valueAt,List.find?_cons,e']
   rw[zbh e,b];exact ih
theorem KV.any {kvs:List (κ × V)} {vs:List (κ × Value)} (r:KV kvs vs) (k:κ):(kvs.any fun kv=>decide (kv.1=k))=vs.any fun kv=>decide (kv.1=k):=by
 unfold KV at r
 induction r with
 | nil=>rfl
 | cons h t ih=>rw[List.any_cons,List.any_cons,ih,h.1]
theorem KV.repl {kvs:List (κ × V)} {vs:List (κ × Value)} (r:KV kvs vs) (k:κ) {y:V} {u:Value} (ry:aL y u) :
  KV (kvs.map fun kv=>if kv.1=k then(kv.1,y) else kv) (vs.map fun kv=>if kv.1=k then(kv.1,u) else kv):=by
 unfold KV at r ⊢
 induction r with
 | nil=>exact .nil
 | @cons p q ps qs h t ih =>
  rw[List.map_cons,List.map_cons]
  refine .cons ?_ ih
  obtain⟨h1,h2⟩:=h
  by_cases e:p.1=k
  ·rw[if_pos e,if_pos (h1.symm.trans e)];exact⟨h1,ry⟩
  ·rw[if_neg e,if_neg (fun z=>e (h1.trans z))];exact⟨h1,h2⟩
theorem KV.put {kvs:List (κ × V)} {vs:List (κ × Value)} (r:KV kvs vs) (k:κ) {y:V} {u:Value} (ry:aL y u):KV (zaw kvs k y) (stored vs k u):=by
 unfold zaw stored
 rw[r.any k]
 by_cases e:(vs.any fun kv=>decide (kv.1=k))=true
 ·rw[if_pos e,if_pos e];exact r.repl k ry
 ·rw[if_neg e,if_neg e];exact Paired.snoc r ⟨rfl,ry⟩
theorem KV.keys {kvs:List (κ × V)} {vs:List (κ × Value)} (r:KV kvs vs):kvs.map (·.1)=vs.map (·.1):=by
 unfold KV at r
 induction r with
 | nil=>rfl
 | cons h t ih=>rw[List.map_cons,List.map_cons,ih,h.1]
theorem KV.length {kvs:List (κ × V)} {vs:List (κ × Value)} (r:KV kvs vs):kvs.length=vs.length:=Paired.length r
end
theorem zeD {P:Program} {w:World} {k:Key} {u:Value} (r:aL (kV k) u):(zap P w).is k u=true:=by
 cases k with
 | inl i=>obtain⟨t,e⟩:=(show ∃ t,u=Value.int i t from r);subst e;exact zhT P w i t
 | inr x=>obtain⟨t,e⟩:=(show ∃ t,u=Value.str x t from r);subst e;exact zdc P w x t
theorem ze9 {P:Program} {w:World}:∀ {ks:List Key} {us:List Value},aI (ks.map kV) us→ItemsAre (zap P w) ks us
 | [],_,r=>by rw[List.map_nil]at r;cases r;exact .nil
 | k :: ks,_,r=>by
  rw[List.map_cons]at r
  cases r with
  | cons h t=>exact .cons (zeD h) (ze9 t)
abbrev KT (H:Hp):List (List Key × V)→List (List Key × Addr × Value)→Prop:=Paired fun p q=>p.1=q.1∧H q.2.1=some (.tup (p.1.map kV))∧aL p.2 q.2.2
theorem KT.val {H:Hp} {kvs:List (List Key × V)} {xs:List (List Key × Addr × Value)} (r:KT H kvs xs) (k:List Key):zbP (zat kvs k) ((atKey xs k).map (·.2)):=by
 induction r with
 | nil=>exact True.intro
 | @cons p q ps qs h t ih =>
  obtain⟨h1,_,h2⟩:=h
  by_cases e:p.1=k
  ·have e':q.1=k:=h1.symm.trans e
   have b:atKey (q :: qs) k=some q.2:=by simp [atKey,List.find?_cons,e']
   rw[zbg e,b];exact h2
  ·have e':¬q.1=k:=fun z=>e (h1.trans z)
   have b:atKey (q :: qs) k=atKey qs k:=by simp [atKey,List.find?_cons,e']
   rw[zbh e,b];exact ih
theorem KT.repl {H:Hp} {kvs:List (List Key × V)} {xs:List (List Key × Addr × Value)} (r:KT H kvs xs) (k:List Key) {y:V} {u:Value} (ry:aL y u) :
  KT H (kvs.map fun kv=>if kv.1=k then(kv.1,y) else kv) (xs.map (putAt k u)):=by
 induction r with
 | nil=>exact .nil
 | @cons p q ps qs h t ih =>
  rw[List.map_cons,List.map_cons]
  refine .cons ?_ ih
  obtain⟨h1,h2,h3⟩:=h
  unfold putAt
  by_cases e:p.1=k
  ·rw[if_pos e,if_pos (h1.symm.trans e)];exact⟨h1,h2,ry⟩
  ·rw[if_neg e,if_neg (fun z=>e (h1.trans z))];exact⟨h1,h2,h3⟩
theorem KT.put {H:Hp} {kvs:List (List Key × V)} {xs:List (List Key × Addr × Value)} (r:KT H kvs xs) (k:List Key) {b:Addr} {y:V} {u:Value} (hb:H b=some (.tup (k.map kV))) (ry:aL y u) :
  KT H (zaw kvs k y) (storedH xs k b u):=by
 have e:(kvs.any fun kv=>decide (kv.1=k))=(atKey xs k).isSome:=by
  rw[zcE,(r.val k).isSome_eq,Option.isSome_map]
 unfold zaw storedH
 rw[e]
 by_cases q:(atKey xs k).isSome=true
 ·rw[if_pos q,if_pos q];exact r.repl k ry
 ·rw[if_neg q,if_neg q];exact Paired.snoc r ⟨rfl,hb,ry⟩
theorem KT.keeps {H H':Hp} {kvs:List (List Key × V)} {xs:List (List Key × Addr × Value)} (r:KT H kvs xs) (ht:∀ b ys,H b=some (.tup ys)→H' b=some (.tup ys)):KT H' kvs xs :=
 Paired.mapP r fun _ _ z=>⟨z.1,ht _ _ z.2.1,z.2.2⟩
section
variable {P:Program} {w:World} {H:Hp} {h:Heap} {a:Addr}
theorem rd_of {u:HO} (ok:HOk P w H h) (e:Rd H a u):zaz P w H h a u:=e.ok ok
theorem zfh {kvs:List (Key × V)} (ok:HOk P w H h) (e:Rd H a (.dK kvs)):kvs.length≤sizeLine∧(a == sysModules)=false∧∃ vs,KV kvs vs∧h.DictOf (zap P w) a vs :=
 show zaz P w H h a (.dK kvs) from rd_of ok e
theorem zfi {kvs:List (Key × V)} (ok:HOk P w H h) (e:H a=some (.dK kvs)):kvs.length≤sizeLine∧(a == sysModules)=false∧∃ vs,KV kvs vs∧h.DictOf (zap P w) a vs:=zfh ok (.inl e)
theorem zeY {ks:List Key} (ok:HOk P w H h) (e:H a=some (.tup (ks.map kV))):(tupleKind (zap P w)).is h ks a:=by
 obtain⟨_,its,r,o,h1,h2,n,h3⟩:=(show zaz P w H h a (.tup (ks.map kV)) from ok a _ e)
 exact⟨o,its.toArray,n,h1,h2,h3,by simpa using ze9 r⟩
theorem zfg {kvs:List (List Key × V)} (ok:HOk P w H h) (e:Rd H a (.dT kvs)):kvs.length≤sizeLine∧(a == sysModules)=false ∧
  ∃ xs,KT H kvs xs∧h.DictOfH (tupleKind (zap P w)) a xs:=by
 obtain⟨z,y,xs,r,o,es,ep,h1,h2,h3,h4,h5⟩:=(show zaz P w H h a (.dT kvs) from rd_of ok e)
 refine⟨z,y,xs,r,o,es,ep,h1,h2,h3,h4,fun x hx=>?_,h5⟩
 have all:∀ {l:List (List Key × V)} {m:List (List Key × Addr × Value)},KT H l m→∀ x∈m,(tupleKind (zap P w)).is h x.1 x.2.1:=by
  intro l m q
  induction q with
  | nil=>intro x hx;exact nomatch hx
  | @cons p q ps qs hq t ih =>
   intro x hx
   rcases List.mem_cons.mp hx with e | hx
   ·subst e
    exact zeY ok (by rw[←hq.1];exact hq.2.1)
   ·exact ih x hx
 exact all r x hx
theorem dt_of {kvs:List (List Key × V)} (ok:HOk P w H h) (e:H a=some (.dT kvs)):kvs.length≤sizeLine∧(a == sysModules)=false ∧
  ∃ xs,KT H kvs xs∧h.DictOfH (tupleKind (zap P w)) a xs:=zfg ok (.inl e)
end
def zbv (H:Hp) (a:Addr) (y:V) (r:Option V):Prop :=
 (∃ kvs k,Rd H a (.dK kvs)∧y=kV k∧r=zat kvs k)∨∃ kvs k b,Rd H a (.dT kvs)∧y=.ref b∧H b=some (.tup (k.map kV))∧r=zat kvs k
def zeB (H:Hp) (a:Addr) (y v:V) (H':Hp):Prop :=
 (∃ kvs k,H a=some (.dK kvs)∧y=kV k∧kvs.length < sizeLine∧H'=upd H a (.dK (zaw kvs k v))) ∨
 ∃ kvs k b,H a=some (.dT kvs)∧y=.ref b∧H b=some (.tup (k.map kV))∧kvs.length < sizeLine∧H'=upd H a (.dT (zaw kvs k v))
theorem zbv.k {H:Hp} {a:Addr} {kvs:List (Key × V)} {k:Key} (e:H a=some (.dK kvs)):zbv H a (kV k) (zat kvs k):=.inl ⟨kvs,k,.inl e,rfl,rfl⟩
theorem zbv.t {H:Hp} {a b:Addr} {kvs:List (List Key × V)} {k:List Key} (e:H a=some (.dT kvs)) (eb:H b=some (.tup (k.map kV))):zbv H a (.ref b) (zat kvs k):=.inr ⟨kvs,k,b,.inl e,rfl,eb,rfl⟩
theorem zeB.k {H:Hp} {a:Addr} {kvs:List (Key × V)} {k:Key} {v:V} (e:H a=some (.dK kvs)) (hl:kvs.length < sizeLine):zeB H a (kV k) v (upd H a (.dK (zaw kvs k v))):=.inl ⟨kvs,k,e,rfl,hl,rfl⟩
theorem zeB.t {H:Hp} {a b:Addr} {kvs:List (List Key × V)} {k:List Key} {v:V} (e:H a=some (.dT kvs)) (eb:H b=some (.tup (k.map kV))) (hl:kvs.length < sizeLine) :
  zeB H a (.ref b) v (upd H a (.dT (zaw kvs k v))):=.inr ⟨kvs,k,b,e,rfl,eb,hl,rfl⟩
section
variable {X:Cx} {pins:List (Addr × Obj)} {σ:St} {H:Hp} {s:Shared} {a:Addr} {y v:V} {u r:Value} {o:Option V} {A:Around} {E:Value→Shared→Prop}
theorem Inv.big (I:Inv X pins σ H s):sysModules < s.heap.objs.size:=by
 have h:mainGlobals < s.heap.objs.size:=(I.mod.glob.keeps I.bk).lt
 exact Nat.lt_trans (by decide) h
theorem zj2 {Q:Value→Shared→Prop} (hu:A.units+1 < cLine) (I:Inv X pins σ H s) (g:zbv H a y (some v)) (ry:aL y u) (h:∀ w' s',Inv X pins σ H s'→aL v w'→Q w' s') :
  wpAny (model X.prog X.w) A (getItem (.ref a) u) Q E s:=by
 rcases g with ⟨kvs,k,e,ey,l⟩ | ⟨kvs,k,b,e,ey,eb,l⟩
 ·subst ey
  obtain⟨z,hd,vs,rel,dd⟩:=zfh I.hok e
  obtain⟨w',hw,rw'⟩:=zbP.some_of (v:=v) (o:=valueAt vs k) (by rw[l];exact rel.val k)
  exact wpAny_getItem_of (zeD ry) dd.mapOf hw (h w' _ (I.tok _) rw')
 ·subst ey
  cases (show u=Value.ref b from ry)
  obtain⟨z,hd,xs,rel,dd⟩:=zfg I.hok e
  obtain⟨w',hw,rw'⟩:=zbP.some_of (v:=v) (o:=(atKey xs k).map (·.2)) (by rw[l];exact rel.val k)
  obtain⟨p,hp,hp2⟩:=Option.map_eq_some_iff.mp hw
  refine wpAny_getItem_heap (tupleKind_room_in1 hu) (zeY I.hok eb) dd hp ?_
  rw[hp2]
  exact h w' _ (I.tok _) rw'
theorem zlw {Q:Value→Shared→Prop} (hu:A.units+1 < cLine) (I:Inv X pins σ H s) (g:zbv H a y o) (ry:aL y u) (h:∀ s',Inv X pins σ H s'→Q (.bool (!o.isSome)) s') :
  wpAny (model X.prog X.w) A (compareOp .NotIn u (.ref a)) Q E s:=by
 rcases g with ⟨kvs,k,e,ey,l⟩ | ⟨kvs,k,b,e,ey,eb,l⟩
 ·subst ey
  obtain⟨z,hd,vs,rel,dd⟩:=zfh I.hok e
  refine wpAny_notIn_of (zeD ry) hd dd.mapOf ?_
  rw[←(rel.val k).isSome_eq,←l]
  exact h _ (I.tok _)
 ·subst ey
  cases (show u=Value.ref b from ry)
  obtain⟨z,hd,xs,rel,dd⟩:=zfg I.hok e
  refine wpAny_notIn_heap (tupleKind_room_in1 hu) (zeY I.hok eb) hd dd ?_
  have q:=(rel.val k).isSome_eq
  rw[Option.isSome_map]at q
  rw[←q,←l]
  exact h _ (I.tok _)
theorem zev {h':Heap} {t':Nat} {ob:HO} (I:Inv X pins σ H s) (mu:Mut (H a)) (hs:Heap.SameBut a s.heap h') (he:∃ q,h'.get? a=some q) (new:zaz X.prog X.w (upd H a ob) h' a ob) :
  Inv X pins σ (upd H a ob) { s with heap:=h',toks:=t' } :=
 I.write (x:=a) (e:=a) mu (.inl rfl) (fun b q hb z=>(hs.2 b hb).trans z) he new
theorem zhe {P:Program} {w:World} {H':Hp} {h':Heap} {kvs:List (Key × V)} {vs:List (Key × Value)} (z:kvs.length≤sizeLine) (hd:(a == sysModules)=false) (rel:KV kvs vs) (dd:h'.DictOf (zap P w) a vs) :
  zaz P w H' h' a (.dK kvs):=⟨z,hd,vs,rel,dd⟩
theorem zj1 {H':Hp} {Q:Unit→Shared→Prop} (hu:A.units+1 < cLine) (I:Inv X pins σ H s) (g:zeB H a y v H') (ry:aL y u) (rv:aL v r) (h:∀ s',Inv X pins σ H' s'→Q () s') :
  wpAny (model X.prog X.w) A (setItem (.ref a) u r) Q E s:=by
 rcases g with ⟨kvs,k,e,ey,l,eH⟩ | ⟨kvs,k,b,e,ey,eb,l,eH⟩
 ·subst ey eH
  obtain⟨z,hd,vs,rel,dd⟩:=zfi I.hok e
  have hz:vs.length≤sizeLine:=by rw[←rel.length];exact z
  have hl:(zaw kvs k v).length≤sizeLine:=by have:=zcw kvs k v;omega
  refine wpAny_setItem_pairs (hsz:=hz) (zeD ry) dd fun h' dd' hs=>h _ ?_
  have he:∃ q,h'.get? a=some q:=let ⟨q,_,_,hq,_⟩:=dd';⟨q,hq⟩
  exact zev I (by rw[e];exact True.intro) hs he (zhe hl hd (rel.put k rv) dd')
 ·subst ey eH
  cases (show u=Value.ref b from ry)
  obtain⟨z,hd,xs,rel,dd⟩:=dt_of I.hok e
  have hz:xs.length≤sizeLine:=by rw[←Paired.length rel];exact z
  have hl:(zaw kvs k v).length≤sizeLine:=by have:=zcw kvs k v;omega
  refine wpAny_setItem_heap (hsz:=hz) (tupleKind_room_in1 hu) (zeY I.hok eb) dd fun h' dd' hs=>h _ ?_
  obtain⟨q,es,ep,hq,h2,h3,h4,_,h5⟩:=dd'
  refine zev I (by rw[e];exact True.intro) hs ⟨q,hq⟩ ⟨hl,hd,_,(rel.put k eb rv).keeps fun c ys ec=>?_,q,es,ep,hq,h2,h3,h4,h5⟩
  rw[aj (zax ec e (fun z=>nomatch z))]
  exact ec
end
section
variable {X:Cx} {pins:List (Addr × Obj)} {σ:St} {H:Hp} {s:Shared} {a:Addr} {kvs:List (Key × V)} {k:Key} {u:Value} {A:Around} {E:Value→Shared→Prop}
end
def NoSl (i:Expr):Prop:=∀ ov iv,subscripted i false ov iv=operate [ov,iv] (getItem ov iv)
theorem zkW {prog:Program} {w:World} {A:Around} {E:Value→Shared→Prop} {s:Shared} {env:Env} {value slice:Expr} {pos:Pos} {T id:String} {Q:Value→Shared→Prop}
  (hl:typeLookup (.type T) "__getitem__"=pure (some (.builtin id))) (hs:NoSl slice)
  (h:wpAny (model prog w) A (eval value env) (fun o s₁=>wpAny (model prog w) A (eval slice env) (fun i s₂=>s₂.TypeIs o T∧wpAny (model prog w) A (getItem o i) Q E s₂) E s₁) E s) :
  wpAny (model prog w) A (eval (.Subscript value slice pos) env) Q E s:=by
 refine Subscript_ (wpAny_mono h (fun o s₁ h₁=>wpAny_mono h₁ (fun i s₂ h₂=>?_) fun _ _ x=>x) fun _ _ x=>x)
 obtain⟨hT,h₂⟩:=h₂
 unfold subscriptTail
 refine wpAny_bind ?_
 rw[getitemInPython_of_ne hT.not_modules]
 refine wpAny_bind (wpAny_specialOf hT hl ?_)
 have fin:wpAny (model prog w) A (subscripted slice false o i) (fun r s₃=>wpAny (model prog w) A (letTemporaryGo value o r >>= fun _=>pure r) Q E s₃) E s₂:=by
  rw[hs o i]
  exact wpAny_operating (wpAny_mono h₂ (fun r s₃ h₃=>wpAny_bind (wpAny_letTemporaryGo (wpAny_pure h₃))) fun _ _ x=>x)
 first
  | exact wpAny_pure (wpAny_bind fin)
  | exact wpAny_bind (wpAny_pure (wpAny_bind fin))
  | exact wpAny_bind fin
theorem zhX {X:Cx} {pins:List (Addr × Obj)} {σ:St} {H:Hp} {s:Shared} {a:Addr} {y:V} {o:Option V} (I:Inv X pins σ H s) (g:zbv H a y o):s.TypeIs (.ref a) "dict":=by
 rcases g with ⟨kvs,k,e,_,_⟩ | ⟨kvs,k,b,e,_,_,_⟩
 ·obtain⟨_,_,vs,_,dd⟩:=zfh I.hok e
  exact dd.typeIs
 ·obtain⟨_,_,xs,_,dd⟩:=zfg I.hok e
  exact dd.typeIs
def tDGet (td ty:TE):TE:=fun σ H Q=>td σ H fun x H1=>ty σ H1 fun y H2=>∃ a v,x=.ref a∧zbv H2 a y (some v)∧Q v H2
def zkV (ty td:TE):TE:=fun σ H Q=>ty σ H fun y H1=>td σ H1 fun x H2=>∃ a o,x=.ref a∧zbv H2 a y o∧Q (.bl (!o.isSome)) H2
def sDPut (td ty tv:TE):TS:=fun D σ H=>tv σ H fun v H1=>td σ H1 fun x H2=>ty σ H2 fun y H3=>∃ a H4,x=.ref a∧zeB H3 a y v H4∧D.nx σ H4
section
variable {X:Cx} {o i e value:Expr} {pos pos' tpos:Pos} {td ty tv:TE}
theorem zer (hu:X.A.units+1 < cLine) (ho:PE X o td) (hi:PE X i ty) (hs:NoSl i):PE X (.Subscript o i pos) (tDGet td ty):=by
 intro pins s σ H Q I h
 refine zkW PySem.F.slot_dict_getitem.lookup hs (thn (ho pins s σ H _ I h) fun u s1 ⟨x,H1,I1,rx,q1⟩=>thn (hi pins s1 σ H1 _ I1 q1) fun iv s2 ⟨y,H2,I2,ry,a,v,ex,g,q2⟩=>?_)
 subst ex
 obtain rfl:u=Value.ref a:=rx
 exact⟨zhX I2 g,zj2 hu I2 g ry fun w' s3 I3 rw'=>⟨v,H2,I3,rw',q2⟩⟩
theorem zd2 (hu:X.A.units+1 < cLine) (hi:PE X i ty) (ho:PE X o td):PC X .NotIn i o (zkV ty td):=by
 intro pins s σ H Q I h
 refine thn (hi pins s σ H _ I h) fun iv s1 ⟨y,H1,I1,ry,q1⟩=>thn (ho pins s1 σ H1 _ I1 q1) fun u s2 ⟨x,H2,I2,rx,a,ov,ex,g,q2⟩=>?_
 subst ex
 obtain rfl:u=Value.ref a:=rx
 exact zlw hu I2 g ry fun s3 I3=>⟨.bl (!ov.isSome),H2,I3,rfl,q2⟩
theorem zeq (hu:X.A.units+1 < cLine) (ho:PE X o td) (hi:PE X i ty) (hv:PE X value tv) (hs:swapsWith value (some (.Subscript o i pos')) pos.line X.env=pure false) :
  PS X (.Assign [.Subscript o i pos'] value pos) (sDPut td ty tv):=by
 intro pins s σ H D I h
 refine wpAny_Assign_Subscript (thn (hv pins s σ H _ I h) fun r s1 ⟨v,H1,I1,rv,q1⟩=>thn (ho pins s1 σ H1 _ I1 q1) fun u s2 ⟨x,H2,I2,rx,q2⟩=>thn (hi pins s2 σ H2 _ I2 q2) fun iv s3 ⟨y,H3,I3,ry,a,H4,ex,g,q3⟩=>?_) hs
 subst ex
 obtain rfl:u=Value.ref a:=rx
 exact zj1 hu I3 g ry rv fun s4 I4=>⟨σ,H4,I4,q3⟩
end
theorem zhH {P:Program} {w:World} {H:Hp} (h:Heap) (hb:sysModules < h.objs.size):zaz P w H (h.push { cls:=.type "dict",data:=.dict #[] }) h.objs.size (.dK []) :=
 ⟨Nat.zero_le _,beq_eq_false_iff_ne.mpr (Ne.symm (Nat.ne_of_lt hb)),[],.nil,Heap.DictOf.new h⟩
def tDNewK:TE:=fun _ H Q=>∀ p,H p=none→Q (.ref p) (upd H p (.dK []))
section
variable {X:Cx} {pos:Pos}
theorem zc2:PE X (.Dict [] [] pos) tDNewK:=fun pins s σ H Q I h =>
 wpAny_Dict_empty ⟨.ref s.heap.objs.size,_,I.laid (a:=s.heap.objs.size) (o:=.dK []) (t':=s.toks) (fun _ _ q=>Heap.get?_push_of_some _ q) (Nat.le_refl _) (zhH s.heap I.big),rfl,h _ (I.hok.fresh (Nat.le_refl _))⟩
end
structure M2 (X:Cx) (o:Expr) (m:Str) (apos:Pos) (e f:Expr) (cpos:Pos):Prop where
 base:attributeBase o m X.env (eval o X.env)=eval o X.env
 few:((backTo cpos (starEach [e,f] X.env)).all (fun x=>!x.1)&&(backToKw cpos (keywordEach [] X.env)).all (fun x=>x.1.isSome)
  && decide (([e,f]:List Expr).length+([]:List Keyword).length+(if([]:List Keyword).isEmpty then 0 else 1) < 30))=true
 line:(apos.endLine == cpos.line)=true
 trees:backTo cpos (starEach [e,f] X.env)=[(false,eval e X.env),(false,eval f X.env)]
def IsD (H:Hp) (a:Addr):Prop:=(∃ kvs,Rd H a (.dK kvs))∨∃ kvs,Rd H a (.dT kvs)
theorem zjh {X:Cx} {pins:List (Addr × Obj)} {σ:St} {H:Hp} {s:Shared} {a:Addr} (I:Inv X pins σ H s) (d:IsD H a) :
  s.TypeIs (.ref a) "dict"∧(∀ b,Value.ref a=.ref b→∃ ob,s.heap.get? b=some ob∧ob.dict=none)∧(a == sysModules)=false:=by
 rcases d with ⟨kvs,e⟩ | ⟨kvs,e⟩
 ·obtain⟨_,hd,vs,_,dd⟩:=zfh I.hok e
  refine⟨dd.typeIs,fun b q=>?_,hd⟩
  cases q
  obtain⟨ob,_,_,h1,h2,_⟩:=dd
  exact⟨ob,h1,h2.2.1⟩
 ·obtain⟨_,hd,xs,_,dd⟩:=zfg I.hok e
  refine⟨dd.typeIs,fun b q=>?_,hd⟩
  cases q
  obtain⟨ob,_,_,h1,h2,_⟩:=dd
  exact⟨ob,h1,h2.2.1⟩
section
variable {X:Cx} {pins:List (Addr × Obj)} {σ:St} {H:Hp} {s:Shared} {a:Addr} {y d:V} {u r:Value} {o:Option V} {A:Around} {E:Value→Shared→Prop}
theorem d_get2 {Q:Value→Shared→Prop} (hu:A.units+1 < cLine) (I:Inv X pins σ H s) (g:zbv H a y o) (ry:aL y u) (rd:aL d r) (h:∀ w' s',Inv X pins σ H s'→aL (o.getD d) w'→Q w' s') :
  wpAny (model X.prog X.w) A (call (.builtin "dict.get") [.ref a,u,r]) Q E s:=by
 rcases g with ⟨kvs,k,e,ey,l⟩ | ⟨kvs,k,b,e,ey,eb,l⟩
 ·subst ey
  obtain⟨z,hd,vs,rel,dd⟩:=zfh I.hok e
  refine call_meetsIn PySem.F.slot_dict_get dd.typeIs PySem.F.entry_dict_get (PySem.F.args_dict_get_3 _ _ _) (meets_dict_get_default (zap X.prog X.w) a (zeD ry) hd r) ⟨_,dd.mapOf,h _ _ (I.tok _) ?_⟩
  rw[l]
  exact(rel.val k).getD rd
 ·subst ey
  cases (show u=Value.ref b from ry)
  obtain⟨z,hd,xs,rel,dd⟩:=zfg I.hok e
  refine call_meetsIn PySem.F.slot_dict_get dd.typeIs PySem.F.entry_dict_get (PySem.F.args_dict_get_3 _ _ _) (meetsH_dict_get_default (tupleKind (zap X.prog X.w)) a b hd r) ⟨tupleKind_room_in1 hu,k,xs,zeY I.hok eb,dd,h _ _ (I.tok _) ?_⟩
  rw[l]
  exact(rel.val k).getD rd
end
def tDGet2 (td ty tx:TE):TE:=fun σ H Q=>td σ H fun x H1=>∃ a,x=.ref a∧IsD H1 a∧ty σ H1 fun y H2=>tx σ H2 fun z H3=>∃ o,zbv H3 a y o∧Q (o.getD z) H3
section
variable {X:Cx} {o e f:Expr} {apos cpos:Pos} {td ty tx:TE}
theorem zeJ (hu:X.A.units+1 < cLine) (ho:PE X o td) (he:PE X e ty) (hf:PE X f tx) (m:M2 X o "get" apos e f cpos):PE X (.Call (.Attribute o "get" apos) [e,f] [] cpos) (tDGet2 td ty tx):=by
 intro pins s σ H Q I h
 refine wpAny_Call_method m.base m.few m.line PySem.F.plainAttrs_dict PySem.F.slot_dict_get PySem.F.type_dict_get (thn (ho pins s σ H _ I h) fun u s1 ⟨x,H1,I1,rx,a,ex,d,q1⟩=>?_)
 subst ex
 obtain rfl:u=Value.ref a:=rx
 obtain⟨t1,t2,_⟩:=zjh I1 d
 refine⟨t1,t2,?_⟩
 rw[m.trees]
 refine Calls.callWith_builtin rfl (Calls.evalArgs_plain (Calls.spliced_cons (thn (he pins s1 σ H1 _ I1 q1) fun iv s2 ⟨y,H2,I2,ry,q2⟩ =>
  Calls.spliced_cons (thn (hf pins s2 σ H2 _ I2 q2) fun fv s3 ⟨z,H3,I3,rz,ov,g,q3⟩=>Calls.spliced_nil ?_))))
 exact d_get2 hu I3 g ry rz fun w' s4 I4 rw'=>⟨_,H3,I4,rw',q3⟩
end
section
variable {X:Cx} {pins:List (Addr × Obj)} {σ:St} {H:Hp} {s:Shared} {a:Addr} {kvs:List (Key × V)} {A:Around} {E:Value→Shared→Prop}
end
section
variable {X:Cx} {pins:List (Addr × Obj)} {σ:St} {H:Hp} {s:Shared} {a:Addr} {y:V} {u:Value} {A:Around} {E:Value→Shared→Prop}
end
end L2
namespace L2
open PySem PySem.Spec PyProof.Rows
section
variable {X:Cx}
end
section
variable {κ:Type} [DecidableEq κ]
end
end L2
namespace L2
open PySem PySem.Spec PyProof.Rows
section
variable {X:Cx}
end
end L2
namespace L2
open PySem PySem.Spec PyProof.Rows
theorem zhA:∀ ns:List Int,zaW (ns.map Dt.int)=true
 | []=>by simp [zaW]
 | n :: ns=>by simp only[List.map_cons,zaW,nol,Bool.true_and];exact zhA ns
def ziB (K:W.Frag) (H:Hp) (q:Addr) (ps:List Int):Prop:=SqL K H q (ps.map V.int)∨SqT K H q (ps.map V.int)
theorem ziB.same {K:W.Frag} {H H':Hp} {q:Addr} {ps:List Int} (h:ziB K H q ps) (s:ao H H'):ziB K H' q ps:=h.elim (fun z=>.inl (s.seq z)) fun z=>.inr (s.tup z)
theorem zaT {ps:List Int} {i:Nat} {x:V} (h:(ps.map V.int)[i]?=some x):∃ k,ps[i]?=some k∧x=.int k:=by
 rw[List.getElem?_map]at h
 cases e:ps[i]? with
 | none=>rw[e]at h;cases h
 | some k =>
  rw[e]at h
  exact⟨k,rfl,(Option.some.inj h).symm⟩
theorem zeL (n:Int):∀ ps:List Int,inV (.int n) (ps.map V.int)=decide (n∈ps)
 | []=>by simp [inV]
 | p :: ps=>by
  have ih:=zeL n ps
  unfold inV at ih ⊢
  rw[List.map_cons,List.any_cons,ih]
  show(p == n||decide (n∈ps))=decide (n∈p :: ps)
  by_cases e:p=n
  ·subst e
   simp
  ·have e':¬n=p:=fun z=>e z.symm
   simp [e,e']
def once:List Int→List Int→List Int
 | acc,[]=>acc
 | acc,p :: ps=>once (if p∈acc then acc else acc++[p]) ps
structure Dset (H:Hp) (d:Addr) (hs:List Int):Prop where
 ex:∃ kvs:List (Key × V),H d=some (.dK kvs)∧(∀ n:Int,(zat kvs (Sum.inl n)).isSome=decide (n∈hs))∧kvs.length≤hs.length
theorem zhx (kvs:List (Key × V)) (k:Key) (v:V):(zaw kvs k v).length≤kvs.length+1:=by
 unfold zaw
 split
 ·rw[List.length_map];omega
 ·rw[List.length_append];simp
theorem Dset.same {H H':Hp} {d:Addr} {hs:List Int} (h:Dset H d hs) (s:ao H H'):Dset H' d hs:=by
 obtain⟨kvs,h1,h2,h3⟩:=h.ex
 exact⟨kvs,s _ _ h1,h2,h3⟩
def nf (row held:List Int):List Int:=once [] (row.filter fun p=>decide (-p∉held))
end L2
namespace L2
open PySem PySem.Spec PyProof.Rows
section
variable {X:Cx}
end
end L2
namespace L2
open PySem PySem.Spec PyProof.Rows
section
variable {X:Cx} {N':List Str} {scope:Scope} {cl:List (Str × Addr)} {fp:List Addr} {pins:List (Addr × Obj)} {σ:St} {H:Hp} {s:Shared}
end
section
variable {X:Cx} {N':List Str} {scope:Scope} {elt iter tg:Expr} {L:Nat} {pos:Pos} {wi:TI} {g:TG} {te:TE} {ix:List Nat}
end
section
variable {X:Cx} {N':List Str} {scope:Scope} {elt iter c tg:Expr} {L:Nat} {pos:Pos} {wi:TI} {g:TG} {tc:TT} {te:TE} {ix:List Nat}
end
end L2
namespace L2
open PySem PySem.Spec PyProof.Rows
theorem Inv.turnedLaid {X:Cx} {pins:List (Addr × Obj)} {σ:St} {H:Hp} {s:Shared} {h':Heap} {fp:List Addr} {a:Addr} {o:HO} {t':Nat} (I:Inv X pins σ H s) (hf:∀ b∈fp,zbA X pins H b) (k:∀ b u,b∉fp→s.heap.get? b=some u→h'.get? b=some u) (hp:s.heap.objs.size≤a) (new:zaz X.prog X.w (upd H a o) h' a o) :
  Inv X pins σ (upd H a o) { s with heap:=h',toks:=t' }:=by
 have hn:=I.hok.fresh hp
 have nfp:∀ b u,H b=some u→b∉fp:=fun b u e z=>by rw[(hf b z).1]at e;cases e
 have un:Un (frs X.stack) fp H (upd H a o) s.heap h':=⟨fun b u q _ _ hx=>k b u hx q,fun b u q _ _ hx=>⟨u.slots,k b u hx q⟩,fun b u q n _=>by rw[aj (Nat.ne_of_lt (Nat.lt_of_lt_of_le (Heap.lt_size q) hp))];exact n,
  fun b u q hx=>⟨u,k b u hx q⟩,fun b xs q=>by rw[aj (zac q hn)];exact q,fun b u xs q=>by rw[aj (zac q hn)];exact q,fun b ps q=>⟨#[],by rw[aj (zac q hn),q];simp⟩⟩
 have hok:HOk X.prog X.w (upd H a o) h':=fun b u e=>by
  by_cases hb:b=a
  ·subst hb;rw[ad]at e;cases e;exact new
  ·rw[aj hb]at e
   refine(I.hok b u e).stay (fun c v hc q=>k c v ?_ q) (fun c q=>by rw[aj (zac q hn)];exact q) fun c xs q=>by rw[aj (zac q hn)];exact q
   rcases hc with z | z
   ·rw[z];exact nfp b u e
   ·exact nfp c _ z
 exact I.call (g':=s.gens) (d':=s.drawn) (ch:=fp) un hok I.bare fun b hb=>⟨(hf b hb).2.2.2.1,(hf b hb).2.1,(hf b hb).2.2.2.2.1,(hf b hb).2.2.2.2.2⟩
def Ite (K:W.Frag) (a:Addr):It :=
 ⟨fun i H=>∃ xs x,SqL K H a xs∧xs[i]?=some x,fun i H x H'=>∃ p y,x=.ref p∧H p=none∧H'=upd H p (.tup [.int i,y])∧∀ xs,SqL K H a xs→xs[i]?=some y,fun i H=>∃ xs,SqL K H a xs∧xs.length≤i⟩
theorem zgh {K:W.Frag} {a:Addr} {xs:List V}:Wk (Ite K a) xs.length (fun H=>SqL K H a xs):=⟨fun _ _ h hi=>⟨xs,h,hi⟩,fun i _ h hi=>⟨xs,xs[i],h,by simp [hi]⟩⟩
theorem zjy {P:Program} {w:World} {K:W.Frag} {elts:List Expr} {x1:Nat} {pos:Pos} (a e it:Addr) (hei:e≠it):zfJ P w K (.Tuple elts x1 pos) (Ite K a) [e,it] e (fun i h=>(∃ old,IsEnum h e it ((i:Nat):Int) old)∧h.IsListIter it a i) where
 mem:=by simp
 obj:=fun i h st b hb=>by
  obtain⟨⟨old,he⟩,o,ho,hc,hd⟩:=st
  rcases List.mem_cons.mp hb with rfl | hb
  ·exact⟨_,he,fun v z=>by
    have z':Data.fields _=Data.cell v:=z
    cases z'⟩
  ·have e':=List.mem_singleton.mp hb
   subst e'
   exact⟨o,ho,fun v z=>by rw[hd]at z;cases z⟩
 keep:=fun i h h' st k=>⟨by
  obtain⟨old,he⟩:=st.1
  exact⟨old,k e (by simp) _ he⟩,st.2.at fun o q=>k it (by simp) o q⟩
 item:=by
  intro X hP hw hK hc i pins s σ H E I hf st hg
  subst hP hw hK
  obtain⟨xs,x,hq,hx⟩:=hg
  obtain⟨its,rv,p,hz⟩:=I.list hq
  obtain⟨u,hu,ru⟩:=rv.get hx
  obtain⟨⟨old,he⟩,hit⟩:=st
  obtain⟨oi,hoi,hci,hdi⟩:=id hit
  refine wpAny_pyNext_enum_item he hit p.isList (x:=u) (by simpa using hu) hei fun h' ho st' hT hsz hk=>?_
  refine⟨_,rfl,wpAny_letOwnedTupleGo_enum ho fun h2 he2 hs2=>?_⟩
  replace hs2:Heap.SameBut e h' h2:=hs2
  have heH:e < s.heap.objs.size:=Heap.lt_size he
  have hiH:it < s.heap.objs.size:=Heap.lt_size hoi
  have hT2:h2.get? s.heap.objs.size=some { cls:=.type "tuple",data:=.seq #[.int i s.toks,u] }:=(hs2.2 _ (Nat.ne_of_gt heH)).trans hT
  have kk:∀ b o,b∉[e,it]→s.heap.get? b=some o→h2.get? b=some o:=fun b o hb q=>by
   have hbe:b≠e:=fun z=>hb (by simp [z])
   have hbi:b≠it:=fun z=>hb (by simp [z])
   exact(hs2.2 b hbe).trans (hk b o hbe hbi q)
  have new:zaz X.prog X.w (upd H s.heap.objs.size (.tup [.int i,x])) h2 s.heap.objs.size (.tup [.int i,x]):=by
   refine⟨?_,[.int i s.toks,u],.cons ⟨_,rfl⟩ (.cons ru .nil),_,hT2,?_⟩
   ·exact Nat.le_of_lt (zaY (show 2≤1000 by decide))
   ·first | exact⟨rfl,rfl,_,rfl⟩ | exact⟨rfl,_,rfl⟩ | exact⟨rfl,rfl⟩
  refine⟨.ref s.heap.objs.size,_,I.turnedLaid (t':=s.toks+1) hf kk (Nat.le_refl _) new,rfl,⟨_,x,rfl,I.fresh,rfl,fun ys hy=>by rw[I.list_inj hy hq];exact hx⟩,⟨⟨u,by simpa using he2⟩,?_⟩,?_⟩
  ·exact st'.at fun o q=>(hs2.2 it (Ne.symm hei)).trans q
  ·intro b hb
   have hlt':b < s.heap.objs.size:=by
    rcases List.mem_cons.mp hb with rfl | hb
    ·exact heH
    ·rw[List.mem_singleton.mp hb];exact hiH
   rw[aj (Nat.ne_of_lt hlt')]
   exact(hf b hb).1
 done:=by
  intro X hP hw hK hc i pins s σ H E I hf st hg
  subst hP hw hK
  obtain⟨xs,hq,hx⟩:=hg
  obtain⟨its,rv,p,hz⟩:=I.list hq
  obtain⟨⟨old,he⟩,hit⟩:=st
  obtain⟨f0,f1,f2,f3,f4,f5⟩:=hf it (by simp)
  have hl:=rv.length
  exact wpAny_pyNext_enum_end (I.ok.hd hc) he hit p.isList (by simp;omega) fun h' eb=>⟨rfl,I.turned (t':=s.toks) (fun b o hb q=>eb b o hb q) f0 f1 f3 f4 f5⟩
 self:=fun _ _ _ _ _ st h=>by
  obtain⟨⟨old,he⟩,_⟩:=st
  exact wpAny_pyIter_enum he h
section
variable {X:Cx}
def iEnum (K:W.Frag) (ta:TA):TI:=fun σ H R=>ta σ H fun vs H1=>∃ a,vs=[.ref a]∧(∃ xs,SqL K H1 a xs)∧R (Ite K a) H1
theorem zgs {elts:List Expr} {x1:Nat} {pt:Pos} {a:Expr} {ta:TA} {p pos:Pos} (hg:Gl X "enumerate") (hm:X.mg "enumerate"=none) (ha:PA X [a] ta) (hs:starEach [a] X.env=[(false,eval a X.env)]:=by rfl):PI X (.Tuple elts x1 pt) (.Call (.Name "enumerate" p) [a] [] pos) (iEnum X.K ta):=by
 intro pins s σ H R I h
 refine Call_ (zcQ I hg hm boot_enumerate (PyProof.Rows.callWith_type1 (thn (ha pos pins s σ H _ I h) fun us s1 ⟨vs,H1,I1,r1,q1⟩=>?_) hs rfl))
 obtain⟨a,e,⟨xs,hq⟩,q⟩:=q1
 subst e
 obtain⟨u,rfl,ru⟩:=r1.one
 cases ru
 obtain⟨its,rv,p,hz⟩:=I1.list hq
 refine call_enumerate_list p.isList fun h' he hit hz' kk=>?_
 refine wpAny_pyIter_enum he ?_
 have I2:Inv X pins σ H1 { s1 with heap:=h' }:=I1.kept (t':=s1.toks) kk
 refine⟨_,[s1.heap.objs.size+1,s1.heap.objs.size],_,Ite X.K a,H1,rfl,I2,zjy a (s1.heap.objs.size+1) s1.heap.objs.size (Nat.succ_ne_self _),⟨⟨_,he⟩,hit⟩,fun b hb=>?_,q⟩
 have hle:s1.heap.objs.size≤b:=by
  rcases List.mem_cons.mp hb with rfl | hb
  ·omega
  ·rw[List.mem_singleton.mp hb];exact Nat.le_refl _
 exact I1.fpOk hle (I1.hok.fresh hle)
theorem zcV:zbI X (.builtin "isinstance") (fun xs H Q=>∃ p ys n b,xs=[.ref p,.ty n]∧SqT X.K H p ys∧W.kitOne X.K (.type "tuple") (.type n)=some b∧Q (.bl b) H):=by
 intro pins s σ H xs us Q I r h
 obtain⟨p,ys,n,b,rfl,hq,hk,q⟩:=h
 obtain⟨u,w',rfl,rx,ry⟩:=zg0 r
 cases (show w'=Value.type n from ry)
 cases rx
 obtain⟨its,rv,⟨o,h1,h2,_⟩,hz⟩:=I.tuple hq
 exact W.kia_one W.kitx_tuple I.kIn ⟨o,h1,h2⟩ hk (fun z=>nomatch z) fun tk=>⟨.bl b,H,I.tok _,rfl,q⟩
end
end L2
namespace L2
open PySem
def left (U hs:List Int):Nat:=(U.filter fun p=>decide (p∉hs)).length
theorem modR (a:Int) {b:Int} (h:0 < b):0≤a % b∧a % b < b:=⟨Int.emod_nonneg _ (by omega),Int.emod_lt_of_pos _ h⟩
def ins {α:Type} (xs:List α) (i:Nat) (y:α):List α:=xs.take i++y :: xs.drop i
def zaP (d:Addr) (H H':Hp):Prop:=∀ b o,b≠d→H b=some o→H' b=some o
theorem zaP.refl (d:Addr) (H:Hp):zaP d H H:=fun _ _ _ h=>h
theorem zaP.trans {d:Addr} {H H1 H2:Hp} (a:zaP d H H1) (b:zaP d H1 H2):zaP d H H2:=fun c o n h=>b c o n (a c o n h)
theorem ao.x {H H':Hp} (s:ao H H') (d:Addr):zaP d H H':=fun b o _ h=>s b o h
theorem zaP.put {d:Addr} (H:Hp) (o:HO):zaP d H (upd H d o):=fun b u n h=>by rw[aj n];exact h
theorem zaP.kt {d:Addr} {H H':Hp} {kvs:List (Key × V)} (s:zaP d H H') (h:H d=some (.dK kvs)):zag H H':=fun b us z=>by
 have nb:b≠d:=fun e=>by
  rw[e]at z
  rcases z with z | ⟨o,z⟩
  ·rw[h]at z;cases z
  ·rw[h]at z;cases z
 rcases z with z | ⟨o,z⟩
 ·exact .inl (s _ _ nb z)
 ·exact .inr ⟨o,s _ _ nb z⟩
theorem Dset.ne {H:Hp} {d l:Addr} {hs:List Int} {xs:List V} (h:Dset H d hs) (hl:H l=some (.lst xs)):l≠d:=fun e=>by
 obtain⟨kvs,hk,_⟩:=h.ex
 rw[e,hk]at hl
 cases hl
theorem zaP.lst {d l:Addr} {H H':Hp} {hs:List Int} {xs:List V} (s:zaP d H H') (h:Dset H d hs) (hl:H l=some (.lst xs)):H' l=some (.lst xs):=s _ _ (h.ne hl) hl
end L2
namespace L2
open PySem PySem.Spec PyProof.Rows
section
variable {X:Cx}
end
end L2
namespace L2
open PySem PySem.Spec PyProof.Rows
theorem Inv.freeze {X:Cx} {pins:List (Addr × Obj)} {σ:St} {H:Hp} {s:Shared} {d:Addr} {o:Obj} {kvs:List (Key × V)} (I:Inv X pins σ H s) (h:H d=some (.dK kvs)) (ho:s.heap.get? d=some o):Inv X pins σ (upd H d (.frz o (.dK kvs))) s:=by
 have nd:∀ b u,H b=some u→u≠.dK kvs→b≠d:=fun b u e n z=>by rw[z,h]at e;cases e;exact n rfl
 have u:Un X.fs [] H (upd H d (.frz o (.dK kvs))) s.heap s.heap:=⟨fun b ob q _ _ _=>q,fun b ob q _ _ _=>⟨ob.slots,q⟩,fun b ob q n _=>by rw[aj (fun z=>by rw[z,h]at n;cases n)];exact n,fun b ob q _=>⟨ob,q⟩,
  fun b xs q=>by rw[aj (nd b _ q (by intro z;cases z))];exact q,fun b ob xs q=>by rw[aj (nd b _ q (by intro z;cases z))];exact q,fun b ps q=>⟨#[],by rw[aj (nd b _ q (by intro z;cases z)),q];simp⟩⟩
 have hok:HOk X.prog X.w (upd H d (.frz o (.dK kvs))) s.heap:=fun b ub e=>by
  by_cases hb:b=d
  ·subst hb
   rw[ad]at e
   cases e
   exact⟨ho,I.hok b _ h⟩
  ·rw[aj hb]at e
   exact(I.hok b ub e).stay (fun c w' _ q=>q) (fun c q=>by rw[aj (nd c _ q (by intro z;cases z))];exact q) fun c xs q=>by rw[aj (nd c _ q (by intro z;cases z))];exact q
 exact I.un (t':=s.toks) (h':=s.heap) u hok
theorem Inv.thaw {X:Cx} {pins:List (Addr × Obj)} {σ:St} {H:Hp} {s:Shared} {d:Addr} {o:Obj} {kvs:List (Key × V)} (I:Inv X pins σ H s) (h:H d=some (.frz o (.dK kvs))) (h0:∀ o u,X.H₀ d≠some (.frz o u)):Inv X pins σ (upd H d (.dK kvs)) s:=by
 have nd:∀ b u,H b=some u→u≠.frz o (.dK kvs)→b≠d:=fun b u e n z=>by rw[z,h]at e;cases e;exact n rfl
 have nn:∀ b,H b=none→b≠d:=fun b e z=>by rw[z,h]at e;cases e
 refine⟨I.ok,I.os,I.bare,⟨I.base.keep,I.base.slot,fun b ob q n hx=>by rw[aj (nn b (I.base.free b ob q n hx))];exact I.base.free b ob q n hx,I.base.there,fun b xs q=>by rw[aj (nd b _ (I.base.tups b xs q) (by intro z;cases z))];exact I.base.tups b xs q,fun b ob u q=>?_,fun b ps q=>?_⟩,I.loc,I.cell,by rw[aj (nn _ I.free)];exact I.free,fun x c e=>by rw[aj (nn _ (I.freeC x c e))];exact I.freeC x c e,fun p hp=>?_,fun b ub e=>?_,I.len⟩
 ·have nb:b≠d:=fun z=>h0 ob u (by rw[←z];exact q)
  rw[aj nb]
  exact I.base.frzs b ob u q
 ·obtain⟨m,e⟩:=I.base.tbls b ps q
  exact⟨m,by rw[aj (nd b _ e (by intro z;cases z))];exact e⟩
 ·obtain⟨a1,a2,a3⟩:=I.pin p hp
  exact⟨a1,by rw[aj (nn _ a2)];exact a2,a3⟩
 ·by_cases hb:b=d
  ·subst hb
   rw[ad]at e
   cases e
   have q:=I.hok b _ h
   exact q.2.stay (fun c w' _ q=>q) (fun c q=>by rw[aj (nd c _ q (by intro z;cases z))];exact q) fun c xs q=>by rw[aj (nd c _ q (by intro z;cases z))];exact q
  ·rw[aj hb]at e
   exact(I.hok b ub e).stay (fun c w' _ q=>q) (fun c q=>by rw[aj (nd c _ q (by intro z;cases z))];exact q) fun c xs q=>by rw[aj (nd c _ q (by intro z;cases z))];exact q
def Itd (d:Addr) (o:Obj) (kvs:List (Key × V)):It :=
 ⟨fun i H=>i < kvs.length∧H d=some (.frz o (.dK kvs)),fun i H x H'=>H'=H∧∃ k v,kvs[i]?=some (k,v)∧x=kV k,fun i H=>kvs.length≤i∧H d=some (.frz o (.dK kvs))⟩
theorem zhZ {d:Addr} {o:Obj} {kvs:List (Key × V)}:Wk (Itd d o kvs) kvs.length (fun H=>H d=some (.frz o (.dK kvs))):=⟨fun _ _ h hi=>⟨hi,h⟩,fun _ _ h hi=>⟨hi,h⟩⟩
theorem zid {k:Key} {u:Value} (h:zdt k u=true):aL (kV k) u:=by
 rcases za2 h with ⟨i,t,rfl,rfl⟩ | ⟨x,t,rfl,rfl⟩
 ·exact⟨t,rfl⟩
 ·exact⟨t,rfl⟩
theorem zjz {P:Program} {w:World} {K:W.Frag} {tg:Expr} (d it:Addr) (o:Obj) (kvs:List (Key × V)) (ep:Nat) (hep:∃ es,o.data=.dict es ep):zfJ P w K tg (Itd d o kvs) [it] it (fun i h=>h.IsKeyIter it d i kvs.length ep) where
 mem:=by simp
 obj:=fun i h st b hb=>by
  have e:b=it:=by simpa using hb
  subst e
  obtain⟨ob,e,c,dd⟩:=st
  exact⟨ob,e,fun v z=>by rw[dd]at z;cases z⟩
 keep:=fun i h h' st k=>st.at fun ob e=>k it (by simp) ob e
 item:=by
  intro X hP hw hK hc i pins s σ H E I hf st hg
  subst hP hw hK
  obtain⟨hi,hq⟩:=hg
  obtain⟨ho,zl,hsys,vs,rel,dd⟩:=(show zaz X.prog X.w H s.heap d (.frz o (.dK kvs)) from I.hok d _ hq)
  obtain⟨ep',da⟩:=dd.dictAt
  obtain⟨ob,es,e1,e2,e3,e4⟩:=id da
  obtain⟨es0,he0⟩:=hep
  have eo:ob=o:=Option.some.inj (e1.symm.trans ho)
  subst eo
  have eep:ep'=ep:=by
   rw[he0]at e3
   cases e3
   rfl
  subst eep
  have hlen:=rel.length
  obtain⟨f0,f1,f2,f3,f4,f5⟩:=hf it (by simp)
  have hk:=rel.keys
  have hv:vs[i]?=some vs[i]:=List.getElem?_eq_getElem (by omega)
  have hkv:kvs[i]?=some kvs[i]:=List.getElem?_eq_getElem hi
  have ek:kvs[i].1=(vs[i]'(by omega)).1:=by
   have h1:(kvs.map (·.1))[i]?=some kvs[i].1:=by rw[List.getElem?_map,hkv];rfl
   have h2:(vs.map (·.1))[i]?=some (vs[i]'(by omega)).1:=by rw[List.getElem?_map,hv];rfl
   rw[hk,h2]at h1
   exact(Option.some.inj h1).symm
  rw[hlen]at st
  refine wpAny_pyNext_dict_item st da (k:=(vs[i]'(by omega)).1) (v:=(vs[i]'(by omega)).2) hv fun key h' hkey st' sb=>?_
  have I1:Inv X pins σ H { s with heap:=h' }:=I.turned (t':=s.toks) (fun b ob hb e=>(sb.2 b hb).trans e) f0 f1 f3 f4 f5
  obtain⟨oi,q1,q2,q3⟩:=id st'
  refine⟨key,rfl,zff (s:={ s with heap:=h' }) q1 q2 q3 (by decide) ⟨kV kvs[i].1,H,I1,?_,⟨rfl,kvs[i].1,kvs[i].2,hkv,rfl⟩,by rw[hlen];exact st',fun b hb=>(hf b hb).1⟩⟩
  rw[ek]
  exact zid hkey
 done:=by
  intro X hP hw hK hc i pins s σ H E I hf st hg
  subst hP hw hK
  obtain⟨hi,hq⟩:=hg
  obtain⟨ho,zl,hsys,vs,rel,dd⟩:=(show zaz X.prog X.w H s.heap d (.frz o (.dK kvs)) from I.hok d _ hq)
  obtain⟨ep',da⟩:=dd.dictAt
  obtain⟨ob,es,e1,e2,e3,e4⟩:=id da
  obtain⟨es0,he0⟩:=hep
  have eo:ob=o:=Option.some.inj (e1.symm.trans ho)
  subst eo
  have eep:ep'=ep:=by
   rw[he0]at e3
   cases e3
   rfl
  subst eep
  have hlen:=rel.length
  rw[hlen]at st
  obtain⟨f0,f1,f2,f3,f4,f5⟩:=hf it (by simp)
  exact wpAny_pyNext_dict_end (I.ok.hd hc) st da (List.getElem?_eq_none (by omega)) fun h' eb=>⟨rfl,I.turned (t':=s.toks) (fun b ob hb e=>eb b ob hb e) f0 f1 f3 f4 f5⟩
 self:=fun _ _ _ _ _ st h=>wpAny_pyIter_keyiter st h
section
variable {X:Cx} {tg:Expr}
def iDict (tl:TE):TI:=fun σ H R=>tl σ H fun x H1=>∃ d kvs,x=.ref d∧H1 d=some (.dK kvs)∧∀ o,R (Itd d o kvs) (upd H1 d (.frz o (.dK kvs)))
theorem zh5 {l:Expr} {tl:TE} (hl:PE X l tl):PI X tg l (iDict tl):=by
 intro pins s σ H R I h
 refine thn (hl pins s σ H _ I h) fun v s1 ⟨x,H1,I1,r1,q1⟩=>?_
 obtain⟨d,kvs,e,hd,q⟩:=q1
 subst e
 cases r1
 obtain⟨zl,hsys,vs,rel,dd⟩:=zfi I1.hok hd
 obtain⟨ep,da⟩:=dd.dictAt
 obtain⟨o,es,e1,e2,e3,e4⟩:=id da
 have hlen:=rel.length
 have If:=I1.freeze hd e1
 refine wpAny_pyIter_dict hsys da ?_
 have I2:Inv X pins σ (upd H1 d (.frz o (.dK kvs))) { s1 with heap:=s1.heap.push { cls:=.type "dict_keyiterator",data:=.fields #[.ref d,.int 0 0,.int vs.length 0,.int ep 0] } }:=If.kept (t':=s1.toks) fun b ob e=>Heap.get?_push_of_some _ e
 refine⟨_,[s1.heap.objs.size],_,Itd d o kvs,_,rfl,I2,zjz d s1.heap.objs.size o kvs ep ⟨es,e3⟩,?_,fun b hb=>?_,q o⟩
 ·exact⟨_,Heap.get?_push_size _ rfl,rfl,by rw[hlen];rfl⟩
 ·rw[List.mem_singleton.mp hb]
  exact If.fpOk (Nat.le_refl _) If.fresh
end
end L2
namespace L2
open PySem PySem.Spec PyProof.Rows
set_option maxRecDepth 100000
section
variable {prog:Program} {w:World} {A:Around} {E:Value→Shared→Prop} {s:Shared} {J:Addr} {fp wr:List Addr} {G:Array GenState→Array GenState→Prop} {n:Nat} {P:Nat→Value→Prop} {St:Nat→Shared→Prop}
end
end L2
namespace L2
open PySem PySem.Spec PyProof.Rows
set_option maxRecDepth 100000
section
variable {prog:Program} {w:World} {A:Around} {R:Result→Shared→Prop} {J:Addr} {fp wr:List Addr} {n:Nat} {P:Nat→Value→Prop} {St:Nat→Heap→Prop} {kw:List (Str × Value)}
end
section
variable {prog:Program} {w:World} {A:Around} {E:Value→Shared→Prop} {s:Shared}
end
section
variable {X:Cx}
end
end L2
namespace HT
open PySem PyProof.Rows
section
variable {prog:Program} {w:World} {A:Around} {E:Value→Shared→Prop} {s:Shared}
theorem getItem_tuple_whole {t sl:Addr} {items:Array Value} {vl vu:Value} {lo hi:Option Int} {Q:Value→Shared→Prop} (ht:IsTup s.heap t items) (hs:s.heap.IsSliceOf sl vl vu .none) (pl:IsPart vl lo) (pu:IsPart vu hi)
  (hw:sIx items.size 0 lo=0∧sIx items.size items.size hi=items.size) (h:Q (.ref t) s):wpAny (model prog w) A (getItem (.ref t) (.ref sl)) Q E s:=by
 obtain⟨os,hos,hcs,hds⟩:=id hs
 have hTs:s.TypeIs (.ref sl) "slice":=⟨os,hos,hcs⟩
 unfold getItem
 try with_reducible refine wpAny_holding ?_
 first | refine wpAny_bind (wpAny_pure ?_) | skip
 refine wpAny_bind (wpAny_sequenceKey ht.typeIs (by decide) ?_)
 refine wpAny_bind (wpAny_callSpecial?_slot (name:=Str.ofString "__getitem__") ht.typeIs PyProof.Rows.slot_tuple_getitem
  (wpAny_call_entry PyProof.Rows.slot_tuple_getitem ht.typeIs entry_tuple_getitem ?_ (args_tuple_getitem _ _)))
 show wpAny _ _ (Builtin.Tuple.tupleItemsOf (.ref t) >>= _) _ _ s
 refine wpAny_bind (tupleItemsOf_ ht ?_)
 refine wpAny_bind (wpAny_typeOf hTs ?_)
 rw[if_pos (by decide)]
 refine wpAny_bind (zdW hs pl pu ?_)
 have yes:(((sIx items.size 0 lo:Nat):Int) == 0&&(1:Int) == 1&&(sIx items.size items.size hi - sIx items.size 0 lo) == items.size)=true:=by
  rw[hw.1,hw.2]
  simp
 show wpAny _ _ (if(((sIx items.size 0 lo:Nat):Int) == 0&&(1:Int) == 1&&(sIx items.size items.size hi - sIx items.size 0 lo) == items.size)=true then _ else _) _ _ s
 rw[if_pos yes]
 refine wpAny_bind ?_
 unfold Builtin.Tuple.tupleIsExact
 refine wpAny_bind (wpAny_typeOf ht.typeIs (wpAny_pure ?_))
 rw[if_pos (by decide)]
 exact wpAny_bind (wpAny_rule (wpAny_pure ⟨_,rfl,wpAny_pure h⟩))
end
end HT
namespace L2
open PySem PySem.Spec PyProof.Rows
section
variable {X:Cx}
def rSlTW (K:W.Frag):V→Option Int→Option Int→Hp→VK→Prop:=fun x lo hi H Q=>∃ a xs,x=.ref a∧SqT K H a xs∧(HT.sIx xs.length 0 lo=0∧HT.sIx xs.length xs.length hi=xs.length)∧Q (.ref a) H
theorem zkX:SlR X (rSlTW X.K):=by
 intro pins s σ H x v vl vu lo hi sl Q I rx hs pl pu h
 obtain⟨a,xs,rfl,hx,hw,q⟩:=h
 cases rx
 obtain⟨its,r,ht,hz⟩:=I.tuple hx
 have hlen:its.toArray.size=xs.length:=by rw[List.size_toArray];exact r.length.symm
 refine⟨"tuple",_,PyProof.Rows.slot_tuple_getitem.lookup,ht.typeIs,?_⟩
 exact HT.getItem_tuple_whole ht hs pl pu (by rw[hlen];exact hw) ⟨.ref a,H,I,rfl,q⟩
def rSlTA (K:W.Frag):V→Option Int→Option Int→Hp→VK→Prop:=fun x lo hi H Q=>rSlT K x lo hi H Q∨rSlTW K x lo hi H Q
theorem zfl:SlR X (rSlTA X.K):=zi1.or zkX
end
end L2
namespace L2
open PySem PySem.Spec PyProof.Rows
section
variable {X:Cx} {tg:Expr}
end
end L2
namespace L2
open PySem PySem.Spec PyProof.Rows
set_option maxRecDepth 100000
section
variable {X:Cx}
end
end L2
namespace L2
open PySem PySem.Spec PyProof.Rows
set_option maxRecDepth 100000
section
variable {X:Cx}
def zkS (ta:TA):TE:=fun σ H Q=>ta σ H fun vs H1=>∃ j:Int,vs=[.int j]∧∀ r,H1 r=none→Q (.ref r) (upd H1 r (.rng 0 j))
theorem zdg {a:Expr} {ta:TA} {p pos:Pos} (hg:Gl X "range") (hm:X.mg "range"=none) (ha:PA X [a] ta) (hs:starEach [a] X.env=[(false,eval a X.env)]:=by rfl):PE X (.Call (.Name "range" p) [a] [] pos) (zkS ta):=by
 intro pins s σ H Q I h
 refine Call_ (zcQ I hg hm boot_range (PyProof.Rows.callWith_type1 (thn (ha pos pins s σ H _ I h) fun us s1 ⟨vs,H1,I1,r1,q1⟩=>?_) hs rfl))
 obtain⟨j,e,q⟩:=q1
 subst e
 cases r1 with
 | cons r rr =>
  cases rr
  obtain⟨t,rfl⟩:=r
  refine call_range_1 ?_
  refine⟨.ref s1.heap.objs.size,_,I1.laid (o:=.rng 0 j) (fun b ob e=>Heap.get?_push_of_some _ e) (Nat.le_refl _) ?_,rfl,q _ (I1.hok.fresh (Nat.le_refl _))⟩
  exact⟨_,_,_,Heap.get?_push_size _ rfl⟩
theorem zbN (hc:X.calm=true):zbI X (.type "list") (fun xs H Q=>∃ r j,xs=[.ref r]∧H r=some (.rng 0 j)∧0≤j∧j≤100000∧∀ l,H l=none→Q (.ref l) (upd H l (.lst (((List.range j.toNat).map fun i:Nat=>(i:Int)).map V.int)))):=by
 intro pins s σ H xs us Q I r h
 obtain⟨r0,j,rfl,hr,j0,j1,q⟩:=h
 obtain⟨u,rfl,rx⟩:=zdp r
 cases rx
 obtain⟨t1,t2,t3,e⟩:=I.hok r0 _ hr
 have en:Builtin.Range.rangeSize 0 j 1=((j.toNat:Nat):Int):=by rw[rangeSize_one];split <;> omega
 refine call_list_range (I.ok.hd hc) e (small_one (by omega) (by omega) (by omega) (by omega)) en (by omega) fun h' tk acc c kp e2 its=>?_
 have al:acc.toList.length=j.toNat:=by rw[Array.length_toList];exact its.1
 have rel:aI (((List.range j.toNat).map fun i:Nat=>(i:Int)).map V.int) acc.toList:=by
  have key:∀(n:Nat) (L:List Value) (o:Nat),L.length=n→(∀ i v,L[i]?=some v→∃ t,v=Value.int (0+(((o+i:Nat):Nat):Int) * 1) t)→aI (((List.range' o n).map fun i:Nat=>(i:Int)).map V.int) L:=by
   intro n
   induction n with
   | zero =>
    intro L o hl _
    cases L with
    | nil=>exact .nil
    | cons _ _=>cases hl
   | succ n ih =>
    intro L o hl hv
    match L,hl with
    | x :: L,hl =>
     refine .cons ?_ (ih L (o+1) (by simpa using hl) fun i v e=>?_)
     ·obtain⟨t,e⟩:=hv 0 x rfl
      exact⟨t,by rw[e];congr 1;show(0:Int)+((o+0:Nat):Int) * 1=(o:Int);omega⟩
     ·obtain⟨t,e'⟩:=hv (i+1) v e
      exact⟨t,by rw[e'];congr 1;omega⟩
  have:=key j.toNat acc.toList 0 al fun i v e=>by
   obtain⟨t,e'⟩:=its.2 i v (by rw[←Array.getElem?_toList];exact e)
   exact⟨t,by rw[e',Nat.zero_add]⟩
  rw[List.range_eq_range']
  exact this
 refine⟨.ref s.heap.objs.size,_,I.laid (t':=tk) kp (Nat.le_refl _) (show zaz X.prog X.w _ h' _ (.lst (((List.range j.toNat).map fun i:Nat=>(i:Int)).map V.int)) from⟨?_,acc.toList,c,rel,by rw[Array.toArray_toList];exact e2⟩),rfl,q _ (I.hok.fresh (Nat.le_refl _))⟩
 rw[List.length_map,List.length_map,List.length_range,sizeLine_eq]
 omega
end
end L2
namespace L2
open PySem
def loF (x y:Int):Int:=if y < x then y else x
def hiF (x y:Int):Int:=if y > x then y else x
def mrg (hd:Int→Int) (a b:Int):Int→Int:=fun t=>if hd t=hiF (hd a) (hd b) then loF (hd a) (hd b) else hd t
structure Hd (N:Nat) (hd:Int→Int):Prop where
 idem:∀ t,hd (hd t)=hd t
 le:∀ t,hd t≤t
 rng:∀ t,hd t≠t→0≤hd t∧t < (N:Int)
theorem Hd.zero (N:Nat):Hd N (fun t=>t):=⟨fun _=>rfl,fun _=>Int.le_refl _,fun _ h=>absurd rfl h⟩
theorem lohi (x y:Int):loF x y≤hiF x y∧((loF x y=x∧hiF x y=y)∨(loF x y=y∧hiF x y=x)):=by
 unfold loF hiF
 split <;> split <;> omega
theorem Hd.in' {N:Nat} {hd:Int→Int} (h:Hd N hd) {a:Int} (ha:0≤a∧a < (N:Int)):0≤hd a∧hd a < (N:Int):=by
 have h1:=h.le a
 by_cases e:hd a=a
 ·rw[e];exact ha
 ·have:=h.rng a e
  omega
theorem Hd.lo_id {N:Nat} {hd:Int→Int} (h:Hd N hd) (a b:Int):hd (loF (hd a) (hd b))=loF (hd a) (hd b):=by
 rcases(lohi (hd a) (hd b)).2 with ⟨e,_⟩ | ⟨e,_⟩ <;> rw[e] <;> exact h.idem _
theorem Hd.hi_id {N:Nat} {hd:Int→Int} (h:Hd N hd) (a b:Int):hd (hiF (hd a) (hd b))=hiF (hd a) (hd b):=by
 rcases(lohi (hd a) (hd b)).2 with ⟨_,e⟩ | ⟨_,e⟩ <;> rw[e] <;> exact h.idem _
theorem zje {hd:Int→Int} {a b:Int} (e:loF (hd a) (hd b)=hiF (hd a) (hd b)):mrg hd a b=hd:=by
 funext t
 unfold mrg
 by_cases c:hd t=hiF (hd a) (hd b)
 ·rw[if_pos c,e,c]
 ·rw[if_neg c]
theorem Hd.mrg {N:Nat} {hd:Int→Int} (h:Hd N hd) {a b:Int} (ha:0≤a∧a < (N:Int)) (hb:0≤b∧b < (N:Int)):Hd N (mrg hd a b):=by
 have lh:=lohi (hd a) (hd b)
 have la:=h.in' ha
 have lb:=h.in' hb
 refine⟨fun t=>?_,fun t=>?_,fun t=>?_⟩
 ·by_cases e:loF (hd a) (hd b)=hiF (hd a) (hd b)
  ·rw[zje e]
   exact h.idem t
  ·unfold L2.mrg
   by_cases c:hd t=hiF (hd a) (hd b)
   ·rw[if_pos c,h.lo_id,if_neg e]
   ·rw[if_neg c,h.idem,if_neg c]
 ·unfold L2.mrg
  have:=h.le t
  split <;> omega
 ·unfold L2.mrg
  intro z
  by_cases c:hd t=hiF (hd a) (hd b)
  ·rw[if_pos c]at z ⊢
   refine⟨by omega,?_⟩
   by_cases w:hd t=t
   ·omega
   ·exact(h.rng t w).2
  ·rw[if_neg c]at z ⊢
   exact h.rng t z
theorem zfq {hd:Int→Int} {a b t u:Int}:mrg hd a b t=mrg hd a b u↔hd t=hd u∨(hd t=hd a∧hd u=hd b)∨(hd t=hd b∧hd u=hd a):=by
 have lh:=lohi (hd a) (hd b)
 unfold mrg
 by_cases c:hd t=hiF (hd a) (hd b)
 ·by_cases d:hd u=hiF (hd a) (hd b)
  ·rw[if_pos c,if_pos d]
   exact⟨fun _=>.inl (by rw[c,d]),fun _=>rfl⟩
  ·rw[if_pos c,if_neg d]
   constructor <;> intro z <;> omega
 ·by_cases d:hd u=hiF (hd a) (hd b)
  ·rw[if_neg c,if_pos d]
   constructor <;> intro z <;> omega
  ·rw[if_neg c,if_neg d]
   constructor
   ·exact fun z=>.inl z
   ·intro z
    omega
abbrev Lk:=Int × Int × Int
def hdL (ls:List Lk):Int→Int:=ls.foldl (fun hd l=>mrg hd l.1 l.2.1) fun t=>t
theorem zbs (ls:List Lk) (l:Lk):hdL (ls++[l])=mrg (hdL ls) l.1 l.2.1:=by
 unfold hdL
 rw[List.foldl_append]
 rfl
def InN (N:Nat) (ls:List Lk):Prop:=∀ l∈ls,(0≤l.1∧l.1 < (N:Int))∧0≤l.2.1∧l.2.1 < (N:Int)
theorem zjl {N:Nat} {ls:List Lk} (h:InN N ls):∀ i,i≤ls.length→Hd N (hdL (ls.take i)):=by
 intro i
 induction i with
 | zero=>exact fun _=>Hd.zero N
 | succ i ih =>
  intro hi
  obtain⟨l,hl⟩:∃ l,ls[i]?=some l:=⟨_,List.getElem?_eq_getElem (by omega)⟩
  rw[zai hl,zbs]
  have:=h l (List.mem_of_getElem? hl)
  exact(ih (by omega)).mrg this.1 this.2
theorem zii {N:Nat} {ls:List Lk} (h:InN N ls):Hd N (hdL ls):=by
 have:=zjl h ls.length (Nat.le_refl _)
 rw[List.take_length]at this
 exact this
theorem zgq {α:Type} {P:List α→Prop} (h0:P []) (h1:∀ xs x,P xs→P (xs++[x])):∀ xs,P xs:=by
 intro xs
 generalize hn:xs.length=n
 induction n generalizing xs with
 | zero=>rw[List.length_eq_zero_iff.mp hn];exact h0
 | succ n ih =>
  have ne:xs≠[]:=fun e=>by rw[e]at hn;cases hn
  rw[←List.dropLast_concat_getLast ne]
  refine h1 _ _ (ih _ ?_)
  rw[List.length_dropLast]
  omega
theorem zgb (S:Int→Prop):∀ ls:List Lk,(∀ l∈ls,S l.1↔S l.2.1)→∀ t u,hdL ls t=hdL ls u→(S t↔S u):=by
 refine zgq ?_ ?_
 ·intro _ t u e
  have e':t=u:=e
  rw[e']
 ·intro ls l ih h t u e
  rw[zbs,zfq]at e
  have ih':=ih fun k hk=>h k (List.mem_append_left _ hk)
  have hl:=h l (List.mem_append_right _ List.mem_cons_self)
  rcases e with e | ⟨e1,e2⟩ | ⟨e1,e2⟩
  ·exact ih' t u e
  ·exact(ih' t l.1 e1).trans (hl.trans (ih' u l.2.1 e2).symm)
  ·exact(ih' t l.2.1 e1).trans (hl.symm.trans (ih' u l.1 e2).symm)
theorem zc4:∀ ls:List Lk,∀ l∈ls,hdL ls l.1=hdL ls l.2.1:=by
 refine zgq (fun l h=>absurd h (by simp)) ?_
 intro ls k ih l hl
 rw[zbs,zfq]
 rcases List.mem_append.mp hl with z | z
 ·exact .inl (ih l z)
 ·cases List.mem_singleton.mp z
  exact .inr (.inl ⟨rfl,rfl⟩)
theorem zkB {ls:List Lk} {l:Lk} {t u:Int} (h:hdL ls t=hdL ls u):hdL (ls++[l]) t=hdL (ls++[l]) u:=by
 rw[zbs,zfq]
 exact .inl h
theorem zd5 {ls:List Lk} {t u:Int}:∀ more:List Lk,hdL ls t=hdL ls u→hdL (ls++more) t=hdL (ls++more) u:=by
 refine zgq (fun h=>by rw[List.append_nil];exact h) ?_
 intro more l ih h
 rw[←List.append_assoc]
 exact zkB (ih h)
theorem zbi:∀(n:Nat) {xs:List Int},xs.Nodup→(∀ x∈xs,0≤x∧x < (n:Int))→xs.length≤n
 | 0,[],_,_=>Nat.le_refl _
 | 0,x :: xs,_,h=>by have:=h x List.mem_cons_self;omega
 | n+1,xs,nd,h=>by
  have q:=zbi n (nd.erase (n:Int)) (fun x hx=>by
   have z:=(List.Nodup.mem_erase_iff nd).mp hx
   have:=h x z.2
   have:=z.1
   omega)
  rw[List.length_erase]at q
  split at q <;> omega
def dL (l:Lk):Dt:=.tup [.int l.1,.int l.2.1,.int l.2.2]
theorem has_dL {K:W.Frag} {H:Hp} {l:Lk} {v:V} (h:Has K H (dL l) v):∃ p,v=.ref p∧SqT K H p [.int l.1,.int l.2.1,.int l.2.2]:=by
 obtain⟨a,xs,rfl,h1,h2⟩:=h
 have e:=zdi (ns:=[l.1,l.2.1,l.2.2]) h2
 rw[e]at h1
 exact⟨a,rfl,h1⟩
theorem zg3 {K:W.Frag} {H:Hp} {l:Lk} {p:Addr} (h:SqT K H p [.int l.1,.int l.2.1,.int l.2.2]):Has K H (dL l) (.ref p):=Has.tup' h (.cons Has.int (.cons Has.int (.cons Has.int .nil)))
theorem zaF:∀ ls:List Lk,zaW (ls.map dL)=true
 | []=>by simp [zaW]
 | l :: ls=>by
  simp only[List.map_cons,zaW,dL,nol,Bool.true_and]
  exact zaF ls
theorem zik:∀ ls:List Lk,zaM (ls.map dL)≤1
 | []=>by simp [zaM]
 | l :: ls=>by
  have h:=zik ls
  simp only[List.map_cons,zaM,dL,dep]
  omega
theorem zdu {K:W.Frag} {H:Hp} {ls:List Lk} {xs:List V} {i:Nat} {x:V} (h:ah K H (ls.map dL) xs) (e:xs[i]?=some x):∃ l p,ls[i]?=some l∧x=.ref p∧SqT K H p [.int l.1,.int l.2.1,.int l.2.2]:=by
 obtain⟨d,h1,h2⟩:=h.get e
 rw[List.getElem?_map]at h1
 obtain⟨l,e1,e2⟩:=Option.map_eq_some_iff.mp h1
 rw[←e2]at h2
 obtain⟨p,e3,e4⟩:=has_dL h2
 exact⟨l,p,e1,e3,e4⟩
def Mem (H:Hp) (kg:List (Key × V)) (hd:Int→Int) (av:List Addr) (x:Int) (ms:List Int):Prop:=ms.Nodup∧(∀ t,t∈ms↔hd t=x)∧((zat kg (Sum.inl x)=none∧ms=[x])∨∃ a,zat kg (Sum.inl x)=some (.ref a)∧H a=some (.lst (ms.map V.int))∧a∉av)
structure GO (H:Hp) (C g ld gd:Addr) (N b:Nat) (hd:Int→Int) (av:List Addr):Prop where
 h:Hd N hd
 ne:ld≠gd
 ex:∃ dx kl kg,H g=some (.ins C dx [("least",.ref ld),("gathered",.ref gd)])∧H ld=some (.dK kl)∧H gd=some (.dK kg)∧(∀ t:Int,(zat kl (Sum.inl t)).getD (.int t)=.int (hd t))∧(∀ x:Int,hd x=x→∃ ms:List Int,Mem H kg hd av x ms)∧kl.length≤b * N∧kg.length≤b
theorem GO.same {H H':Hp} {C g ld gd:Addr} {N b:Nat} {hd:Int→Int} {av:List Addr} (G:GO H C g ld gd N b hd av) (s:ao H H'):GO H' C g ld gd N b hd av:=by
 obtain⟨dx,kl,kg,h1,h2,h3,h4,h5,h6,h7⟩:=G.ex
 refine⟨G.h,G.ne,dx,kl,kg,s _ _ h1,s _ _ h2,s _ _ h3,h4,fun x hx=>?_,h6,h7⟩
 obtain⟨ms,m1,m2,m3⟩:=h5 x hx
 refine⟨ms,m1,m2,?_⟩
 rcases m3 with m3 | ⟨a,m4,m5⟩
 ·exact .inl m3
 ·exact .inr ⟨a,m4,s _ _ m5.1,m5.2⟩
theorem GO.mono {H:Hp} {C g ld gd:Addr} {N b b':Nat} {hd:Int→Int} {av:List Addr} (G:GO H C g ld gd N b hd av) (h:b≤b'):GO H C g ld gd N b' hd av:=by
 obtain⟨dx,kl,kg,h1,h2,h3,h4,h5,h6,h7⟩:=G.ex
 exact⟨G.h,G.ne,dx,kl,kg,h1,h2,h3,h4,h5,Nat.le_trans h6 (Nat.mul_le_mul_right _ h),Nat.le_trans h7 h⟩
def zar (ld gd:Addr) (H H':Hp):Prop:=∀ b o,b≠ld→b≠gd→H b=some o→H' b=some o
theorem zar.trans {ld gd:Addr} {H H1 H2:Hp} (a:zar ld gd H H1) (b:zar ld gd H1 H2):zar ld gd H H2:=fun c o h1 h2 h=>b c o h1 h2 (a c o h1 h2 h)
theorem ao.g {ld gd:Addr} {H H':Hp} (s:ao H H'):zar ld gd H H':=fun b o _ _ h=>s b o h
theorem ao.ofG {ld gd:Addr} {H H1 H2:Hp} (s:ao H H1) (n1:H ld=none) (n2:H gd=none) (x:zar ld gd H1 H2):ao H H2:=fun b o hb=>x b o (fun e=>by rw[e,n1]at hb;cases hb) (fun e=>by rw[e,n2]at hb;cases hb) (s b o hb)
theorem zar.put1 {ld gd:Addr} (H:Hp) (o:HO):zar ld gd H (upd H ld o):=fun b u n1 _ h=>by rw[aj n1];exact h
theorem zar.put2 {ld gd:Addr} (H:Hp) (o:HO):zar ld gd H (upd H gd o):=fun b u _ n2 h=>by rw[aj n2];exact h
theorem zic {N:Nat} {hd:Int→Int} (h:Hd N hd) {x:Int} (hx:0≤x∧x < (N:Int)) {ms:List Int} (nd:ms.Nodup) (hm:∀ t,t∈ms↔hd t=x):ms.length≤N:=by
 refine zbi N nd fun t ht=>?_
 have e:=(hm t).mp ht
 have:=h.le t
 by_cases c:hd t=t
 ·omega
 ·have:=h.rng t c
  omega
theorem GO.merged {H:Hp} {C g ld gd:Addr} {N b:Nat} {hd:Int→Int} {av:List Addr} {a c:Int} (h:Hd N hd) (ne:ld≠gd) (ha:0≤a∧a < (N:Int)) (hc:0≤c∧c < (N:Int)) (nlh:loF (hd a) (hd c)≠hiF (hd a) (hd c)) {dx:Addr} {kl kg:List (Key × V)} {p:Addr} {ml mh:List Int}
  (h1:H g=some (.ins C dx [("least",.ref ld),("gathered",.ref gd)])) (h2:H ld=some (.dK kl)) (h3:H gd=some (.dK (zaw kg (Sum.inl (loF (hd a) (hd c))) (.ref p)))) (h4:∀ t:Int,(zat kl (Sum.inl t)).getD (.int t)=.int (if t∈mh then loF (hd a) (hd c) else hd t))
  (h5:∀ x:Int,hd x=x→∃ ms:List Int,Mem H kg hd av x ms) (l1:ml.Nodup) (l2:∀ t,t∈ml↔hd t=loF (hd a) (hd c)) (k1:mh.Nodup) (k2:∀ t,t∈mh↔hd t=hiF (hd a) (hd c)) (hp:H p=some (.lst ((ml++mh).map V.int))) (h6:kl.length≤b * N) (h7:kg.length+1≤b) (hpa:p∉av):GO H C g ld gd N b (mrg hd a c) av:=by
 refine⟨h.mrg ha hc,ne,dx,kl,_,h1,h2,h3,fun t=>?_,fun x hx=>?_,h6,Nat.le_trans (zhx _ _ _) h7⟩
 ·rw[h4]
  unfold mrg
  by_cases z:hd t=hiF (hd a) (hd c)
  ·rw[if_pos ((k2 t).mpr z),if_pos z]
  ·rw[if_neg (fun w=>z ((k2 t).mp w)),if_neg z]
 ·by_cases z:x=loF (hd a) (hd c)
  ·subst z
   refine⟨ml++mh,List.nodup_append.mpr ⟨l1,k1,fun u hu v hv e=>?_⟩,fun t=>?_,.inr ⟨p,by rw[zb4,if_pos rfl],hp,hpa⟩⟩
   ·subst e
    have w1:=(l2 u).mp hu
    have w2:=(k2 u).mp hv
    exact nlh (w1.symm.trans w2)
   ·rw[List.mem_append,l2,k2]
    unfold mrg
    by_cases w:hd t=hiF (hd a) (hd c)
    ·rw[if_pos w]
     exact⟨fun _=>rfl,fun _=>.inr w⟩
    ·rw[if_neg w]
     exact⟨fun y=>y.resolve_right w,.inl⟩
  ·have nx:hd x≠hiF (hd a) (hd c):=fun w=>by
    unfold mrg at hx
    rw[if_pos w]at hx
    exact z hx.symm
   have ex:hd x=x:=by
    unfold mrg at hx
    rw[if_neg nx]at hx
    exact hx
   obtain⟨ms,m1,m2,m3⟩:=h5 x ex
   refine⟨ms,m1,fun t=>?_,?_⟩
   ·rw[m2]
    unfold mrg
    by_cases w:hd t=hiF (hd a) (hd c)
    ·rw[if_pos w]
     exact⟨fun y=>absurd (ex.trans (y.symm.trans w)) nx,fun y=>absurd y.symm z⟩
    ·rw[if_neg w]
   ·rw[zb4,if_neg (fun y=>z (by injection y))]
    exact m3
theorem GO.avoid {H:Hp} {C g ld gd:Addr} {N b:Nat} {hd:Int→Int} {av:List Addr} {l:Addr} (G:GO H C g ld gd N b hd av) (n:H l=none):GO H C g ld gd N b hd (l :: av):=by
 obtain⟨dx,kl,kg,h1,h2,h3,h4,h5,h6,h7⟩:=G.ex
 refine⟨G.h,G.ne,dx,kl,kg,h1,h2,h3,h4,fun x hx=>?_,h6,h7⟩
 obtain⟨ms,m1,m2,m3⟩:=h5 x hx
 refine⟨ms,m1,m2,?_⟩
 rcases m3 with m3 | ⟨a,m4,m5,m6⟩
 ·exact .inl m3
 ·exact .inr ⟨a,m4,m5,fun z=>by
   rcases List.mem_cons.mp z with z | z
   ·rw[z,n]at m5
    cases m5
   ·exact m6 z⟩
theorem GO.sub {H:Hp} {C g ld gd:Addr} {N b:Nat} {hd:Int→Int} {av av':List Addr} (G:GO H C g ld gd N b hd av) (h:∀ a∈av',a∈av):GO H C g ld gd N b hd av':=by
 obtain⟨dx,kl,kg,h1,h2,h3,h4,h5,h6,h7⟩:=G.ex
 refine⟨G.h,G.ne,dx,kl,kg,h1,h2,h3,h4,fun x hx=>?_,h6,h7⟩
 obtain⟨ms,m1,m2,m3⟩:=h5 x hx
 refine⟨ms,m1,m2,?_⟩
 rcases m3 with m3 | ⟨a,m4,m5,m6⟩
 ·exact .inl m3
 ·exact .inr ⟨a,m4,m5,fun z=>m6 (h a z)⟩
theorem GO.put {H:Hp} {C g ld gd:Addr} {N b:Nat} {hd:Int→Int} {av:List Addr} {l:Addr} {o:HO} (G:GO H C g ld gd N b hd av) (hl:l∈av∨∀ xs,H l≠some (.lst xs)) (ng:l≠g) (n1:l≠ld) (n2:l≠gd):GO (upd H l o) C g ld gd N b hd av:=by
 obtain⟨dx,kl,kg,h1,h2,h3,h4,h5,h6,h7⟩:=G.ex
 refine⟨G.h,G.ne,dx,kl,kg,by rw[aj (Ne.symm ng)];exact h1,by rw[aj (Ne.symm n1)];exact h2,by rw[aj (Ne.symm n2)];exact h3,h4,fun x hx=>?_,h6,h7⟩
 obtain⟨ms,m1,m2,m3⟩:=h5 x hx
 refine⟨ms,m1,m2,?_⟩
 rcases m3 with m3 | ⟨a,m4,m5,m6⟩
 ·exact .inl m3
 ·refine .inr ⟨a,m4,?_,m6⟩
  rw[aj (fun e=>by
   rcases hl with hl | hl
   ·exact m6 (e ▸ hl)
   ·exact hl _ (e ▸ m5))]
  exact m5
end L2
namespace L2
open PySem
def Kd (H:Hp) (d:Addr) (F:List Int):Prop:=∃ kvs:List (Key × V),H d=some (.dK kvs)∧kvs.map (·.1)=F.map Sum.inl
theorem zem {kvs:List (Key × V)} {F:List Int} (h:kvs.map (·.1)=F.map Sum.inl) (n:Int):(zat kvs (Sum.inl n)).isSome=decide (n∈F):=by
 rw[←zcE,Bool.eq_iff_iff,List.any_eq_true,decide_eq_true_iff]
 constructor
 ·rintro ⟨kv,h1,h2⟩
  have e:=of_decide_eq_true h2
  have m:kv.1∈F.map Sum.inl:=by rw[←h];exact List.mem_map.mpr ⟨kv,h1,rfl⟩
  obtain⟨k,hk,ek⟩:=List.mem_map.mp m
  rw[e]at ek
  injection ek with ek
  rw[←ek]
  exact hk
 ·intro hn
  have m:(Sum.inl n:Key)∈kvs.map (·.1):=by rw[h];exact List.mem_map.mpr ⟨n,hn,rfl⟩
  obtain⟨kv,h1,h2⟩:=List.mem_map.mp m
  exact⟨kv,h1,decide_eq_true h2⟩
def addK (F:List Int) (n:Int):List Int:=if n∈F then F else F++[n]
theorem zjf {kvs:List (Key × V)} {F:List Int} (h:kvs.map (·.1)=F.map Sum.inl) (n:Int) (v:V):(zaw kvs (Sum.inl n) v).map (·.1)=(addK F n).map Sum.inl:=by
 unfold zaw addK
 by_cases c:n∈F
 ·have a:(kvs.any fun kv=>decide (kv.1=Sum.inl n))=true:=by rw[zcE,zem h];exact decide_eq_true c
  rw[if_pos a,if_pos c,List.map_map,←h]
  apply List.map_congr_left
  intro kv _
  show(if kv.1=Sum.inl n then(kv.1,v) else kv).1=kv.1
  split <;> rfl
 ·have a:¬(kvs.any fun kv=>decide (kv.1=Sum.inl n))=true:=by rw[zcE,zem h,decide_eq_false c];exact Bool.false_ne_true
  rw[if_neg a,if_neg c,List.map_append,List.map_append,h]
  rfl
theorem zjg {kvs:List (Key × V)} {F:List Int} (h:kvs.map (·.1)=F.map Sum.inl):kvs.length=F.length:=by
 have:=congrArg List.length h
 rw[List.length_map,List.length_map]at this
 exact this
theorem zlo {kvs:List (Key × V)} {F:List Int} (h:kvs.map (·.1)=F.map Sum.inl):(kvs.map fun kv=>kV kv.1)=F.map V.int:=by
 have e:(kvs.map fun kv=>kV kv.1)=(kvs.map (·.1)).map kV:=by rw[List.map_map];rfl
 rw[e,h,List.map_map]
 rfl
theorem Kd.same {H H':Hp} {d:Addr} {F:List Int} (h:Kd H d F) (s:ao H H'):Kd H' d F:=by
 obtain⟨kvs,h1,h2⟩:=h
 exact⟨kvs,s _ _ h1,h2⟩
structure RS (ls:List Lk) (N:Nat) (s:Int) (F:List Int):Prop where
 nd:F.Nodup
 st:s∈F
 inn:∀ u∈F,(0≤u∧u < (N:Int))∧hdL ls u=hdL ls s
theorem RS.len {ls:List Lk} {N:Nat} {s:Int} {F:List Int} (h:RS ls N s F):F.length≤N:=zbi N h.nd fun x hx=>(h.inn x hx).1
theorem zkA {ls:List Lk} {n:Nat} {k:Int} (f:Int→Int) (h0:0≤k) (h1:k < (n:Int)):atI (((List.range n).map fun i:Nat=>f (i:Int)).map V.int) k=some (.int (f k)):=by
 have e:k=((k.toNat:Nat):Int):=by omega
 have:=zhK (ns:=(List.range n).map fun i:Nat=>f (i:Int)) (i:=k.toNat) (n:=f k) (by
  rw[List.getElem?_map,List.getElem?_range (by omega)]
  show some (f ((k.toNat:Nat):Int))=some (f k)
  rw[←e])
 rw[←e]at this
 exact this
end L2
namespace L2
open PySem PySem.Spec PyProof.Rows
section
variable {P:Program} {w:World}
abbrev Sgn:=Str × List Key
def zbl (P:Program) (w:World) (h:Heap) (k:Sgn) (a:Addr):Prop :=
 ∃(o:Obj) (t:Tok) (q:Addr) (n:Nat),h.get? a=some o∧o.cls=.type "tuple"∧o.data=.seq #[.str k.1 t,.ref q] n∧IsTupleKey (zap P w) h k.2 q
theorem zbl.typeIs {s:Shared} {k:Sgn} {a:Addr} (x:zbl P w s.heap k a):s.TypeIs (.ref a) "tuple":=let ⟨o,_,_,_,ho,hc,_⟩:=x;⟨o,ho,hc⟩
theorem zbl.inj {h:Heap} {a:Addr} {x y:Sgn} (hx:zbl P w h x a) (hy:zbl P w h y a):x=y:=by
 obtain⟨o,t,q,n,ho,_,hd,hi⟩:=hx
 obtain⟨o',t',q',n',ho',_,hd',hi'⟩:=hy
 cases ho.symm.trans ho'
 have e:=hd.symm.trans hd'
 injection e with e _
 have e2:[Value.str x.1 t,.ref q]=[Value.str y.1 t',.ref q']:=congrArg Array.toList e
 injection e2 with e3 e4
 injection e3 with e5 _
 injection e4 with e6 _
 injection e6 with e7
 subst e7
 exact Prod.ext e5 (hi.inj hi')
theorem zbl.keeps {h h':Heap} {k:Sgn} {a d:Addr} {o:Obj} {es ep} (x:zbl P w h k a) (ho:h.get? d=some o) (hd:o.data=.dict es ep) (hs:Heap.SameBut d h h'):zbl P w h' k a:=by
 obtain⟨o',t,q,n,ho',hc,hd',hi⟩:=x
 have hne:a≠d:=by
  rintro rfl
  cases ho'.symm.trans ho
  rw[hd]at hd'
  exact nomatch hd'
 exact⟨o',t,q,n,(hs.2 a hne).trans ho',hc,hd',hi.keeps ho hd hs⟩
def zfL (P:Program) (w:World) (k:Sgn):Int:=reduceHash (Builtin.Tuple.tupleHashOf [(zap P w).hash (.inr k.1),tupleKeyHash (zap P w) k.2])
variable {A:Around} {E:Value→Shared→Prop} {s:Shared}
theorem zjA {k:Sgn} {a:Addr} {Q:Int→Shared→Prop} (hu:A.units+10 < cLine) (hk:zbl P w s.heap k a) (h:Q (zfL P w k) { s with toks:=s.toks+(k.2.length+3) }) :
  wpAny (model P w) A (pyHash (.ref a)) Q E s:=by
 have hT:=hk.typeIs
 obtain⟨o,t,q,n,ho,_,hd,hi⟩:=hk
 unfold pyHash
 first | unfold pyHashByItsType | skip
 first | refine wpAny_bind (wpAny_cRoomFor_or (.inr (by omega)) ?_) | skip
 refine wpAny_bind (wpAny_specialOf hT F.slot_tuple_hash.lookup ?_)
 show wpAny _ _ (if(some (Value.builtin "tuple.__hash__") == some Value.none)=true then _ else _) Q E s
 rw[if_neg (by rw[beq_builtin_none];exact Bool.false_ne_true)]
 refine wpAny_bind (wpAny_specialOf hT F.slot_tuple_hash.lookup ?_)
 show wpAny _ _ (callSpecialIfBoundUnlessNone? (.ref a) "__hash__" _ >>= _) Q E s
 refine wpAny_bind (wpAny_callSpecialIfBoundUnlessNone?_slot hT F.slot_tuple_hash (wpAny_call_entry F.slot_tuple_hash hT F.entry_tuple_hash ?_ (F.args_tuple_hash_1 _)))
 show wpAny _ _ (Builtin.Tuple.tupleItemsOf (.ref a) >>= _) _ _ s
 refine wpAny_bind (wpAny_tupleItemsOf ho hd ?_)
 refine wpAny_bind ?_
 rw[←Array.forIn_toList]
 refine wpAny_forIn_list _
  (fun zau (b:Array Int) s'=>(zau=[.str k.1 t,.ref q]∧b=#[]∧s'=s)∨(zau=[.ref q]∧b=#[(zap P w).hash (.inr k.1)]∧s'={ s with toks:=s.toks+1 }) ∨
   (zau=[]∧b=#[(zap P w).hash (.inr k.1),tupleKeyHash (zap P w) k.2]∧s'={ s with toks:=s.toks+1+(k.2.length+1) }))
  _ ?_ ?_ _ _ (.inl ⟨rfl,rfl,rfl⟩)
 ·rintro x zau b s' (⟨e,rfl,rfl⟩ | ⟨e,rfl,rfl⟩ | ⟨e,rfl,rfl⟩)
  ·injection e with e1 e2
   subst e1 e2
   refine wpAny_bind ((zap P w).pyHash (k:=.inr k.1) (zdc P w k.1 t) ?_)
   first
    | exact wpAny_pure (.inr (.inl ⟨rfl,rfl,rfl⟩))
    | exact wpAny_bind (wpAny_pure (wpAny_pure (.inr (.inl ⟨rfl,rfl,rfl⟩))))
  ·injection e with e1 e2
   subst e1 e2
   refine wpAny_bind (wpAny_pyHash_tuple (knd:=zap P w) (ks:=k.2) (by show A.units+1 < cLine;omega) hi ?_)
   first
    | exact wpAny_pure (.inr (.inr ⟨rfl,rfl,rfl⟩))
    | exact wpAny_bind (wpAny_pure (wpAny_pure (.inr (.inr ⟨rfl,rfl,rfl⟩))))
  ·exact nomatch e
 ·rintro b s' (⟨e,rfl,rfl⟩ | ⟨e,rfl,rfl⟩ | ⟨e,rfl,rfl⟩)
  ·exact nomatch e
  ·exact nomatch e
  show wpAny _ _ (retInt (Builtin.Tuple.tupleHashOf [(zap P w).hash (.inr k.1),tupleKeyHash (zap P w) k.2])) _ _ _
  refine wpAny_ret_mkInt ?_
  have ht:s.toks+(k.2.length+3)=s.toks+1+(k.2.length+1)+1:=by omega
  rw[ht]at h
  unfold zfL reduceHash at h
  generalize Builtin.Tuple.tupleHashOf [(zap P w).hash (.inr k.1),tupleKeyHash (zap P w) k.2]=z at h ⊢
  show wpAny _ _ (if(decide (-(2:Int) ^ 63≤z)&&decide (z < 2 ^ 63))=true then _ else _) Q E _
  by_cases hr:(decide (-(2:Int) ^ 63≤z)&&decide (z < 2 ^ 63))=true
  ·rw[if_pos hr]
   rw[if_pos hr]at h
   exact wpAny_pure h
  ·rw[if_neg hr]
   rw[if_neg hr]at h
   exact wpAny_bind (wpAny_rule (wpAny_pure h))
theorem zhM {x y:Sgn} {a b:Addr} {R:Fin→Shared→Prop} (hu:A.units+5 < cLine) (hx:zbl P w s.heap x a) (hy:zbl P w s.heap y b) (h:R (.done (.ret (.bool (decide (x=y))))) s) :
  wpAny (model P w) A (Builtin.«tuple.__eq__» ⟨[.ref a,.ref b],[]⟩) R E s:=by
 have hTb:=hy.typeIs
 obtain⟨oa,ta,qa,na,hoa,_,hda,hia⟩:=hx
 obtain⟨ob,tb,qb,nb,hob,_,hdb,hib⟩:=hy
 show wpAny _ _ (isInstance (.ref b) (.type "tuple") >>= _) _ _ s
 refine wpAny_bind (wpAny_isInstance hTb isSubtype_tuple_tuple ?_)
 simp only[Bool.not_true,Bool.false_eq_true,if_false]
 refine wpAny_bind (wpAny_tupleItemsOf hoa hda ?_)
 refine wpAny_bind (wpAny_tupleItemsOf hob hdb ?_)
 refine wpAny_bind ?_
 refine wpAny_forIn_list _
  (fun zau r s'=>r.1=none∧s'=s∧((zau=[(.str x.1 ta,.str y.1 tb),(.ref qa,.ref qb)])∨(zau=[(.ref qa,.ref qb)]∧x.1=y.1)∨(zau=[]∧x=y)))
  _ ?_ ?_ _ _ ⟨rfl,rfl,.inl rfl⟩
 ·rintro ⟨u,v⟩ zau r s' ⟨hr,rfl,e | ⟨e,e1⟩ | ⟨e,e1⟩⟩
  ·injection e with e2 e3
   injection e2 with e4 e5
   subst e3 e4 e5
   refine wpAny_bind ((zap P w).eqBool (a:=.inr x.1) (b:=.inr y.1) (zdc P w x.1 ta) (zdc P w y.1 tb) ?_)
   by_cases hk:x.1=y.1
   ·rw[decide_eq_true (show(Sum.inr x.1:Key)=.inr y.1 by rw[hk])]
    simp only[Bool.not_true,Bool.false_eq_true,if_false]
    exact wpAny_pure ⟨by trivial,by trivial,.inr (.inl ⟨by trivial,hk⟩)⟩
   ·rw[decide_eq_false (show ¬(Sum.inr x.1:Key)=.inr y.1 from fun z=>hk (Sum.inr.inj z))]
    simp only[Bool.not_false,if_true]
    rw[decide_eq_false (show ¬x=y from fun z=>hk (by rw[z]))]at h
    exact wpAny_bind (wpAny_pure (wpAny_pure (wpAny_pure h)))
  ·injection e with e2 e3
   injection e2 with e4 e5
   subst e3 e4 e5
   refine wpAny_bind (wpAny_eqBool_tuple (knd:=zap P w) (x:=x.2) (y:=y.2) (by omega) hia hib ?_)
   by_cases hk:x.2=y.2
   ·rw[decide_eq_true hk]
    simp only[Bool.not_true,Bool.false_eq_true,if_false]
    exact wpAny_pure ⟨by trivial,by trivial,.inr (.inr ⟨by trivial,Prod.ext e1 hk⟩)⟩
   ·rw[decide_eq_false hk]
    simp only[Bool.not_false,if_true]
    rw[decide_eq_false (show ¬x=y from fun z=>hk (by rw[z]))]at h
    exact wpAny_bind (wpAny_pure (wpAny_pure (wpAny_pure h)))
  ·exact nomatch e
 ·rintro ⟨r1,r2⟩ s' ⟨hr,rfl,e | ⟨e,e1⟩ | ⟨e,e1⟩⟩
  ·exact nomatch e
  ·exact nomatch e
  simp only at hr
  subst hr
  refine wpAny_pure ?_
  rw[decide_eq_true e1]at h
  exact h
theorem zkY {x y:Sgn} {a b:Addr} {Q:Bool→Shared→Prop} (hu:A.units+10 < cLine) (hx:zbl P w s.heap x a) (hy:zbl P w s.heap y b) (h:Q (decide (x=y)) s) :
  wpAny (model P w) A (eqBool (.ref a) (.ref b)) Q E s:=by
 unfold eqBool
 try with_reducible refine wpAny_holding ?_
 show wpAny _ _ (if(Value.ref a == Value.ref b)=true then _ else _) Q E s
 by_cases hab:(Value.ref a == Value.ref b)=true
 ·rw[if_pos hab]
  have e:a=b:=by have:=eq_of_beq hab;injection this
  subst e
  cases hx.inj hy
  exact wpAny_bind (wpAny_rule (wpAny_pure (by simpa using h)))
 ·rw[if_neg hab]
  exact wpAny_bind (wpAny_richCompare_same_room (op:=.Eq) hx.typeIs hy.typeIs F.slot_tuple_eq
   (wpAny_call_entry F.slot_tuple_eq hx.typeIs F.entry_tuple_eq (zhM (by show A.units+1+5 < cLine;omega) hx hy ⟨_,rfl,(fun e=>nomatch e),wpAny_truthy_bool h⟩) (F.args_tuple_eq_2 _ _)) (by omega))
theorem quiet7 {ks:List Key} {a:Addr} {Q:Bool→Shared→Prop} (hk:IsTupleKey (zap P w) s.heap ks a) (h:Q true s):wpAny (model P w) A (eqIsQuiet 7 (.ref a)) Q E s:=by
 have hT:=hk.typeIs
 obtain⟨o,items,n,ho,_,hd,hi⟩:=hk
 unfold eqIsQuiet
 refine wpAny_bind (wpAny_specialOf hT F.slot_tuple_eq.lookup ?_)
 show wpAny _ _ (isInstance (.ref a) (.type "tuple") >>= _) _ _ s
 refine wpAny_bind (wpAny_isInstance hT isSubtype_tuple_tuple ?_)
 simp only[Bool.not_true,Bool.false_eq_true,if_false]
 refine wpAny_bind (wpAny_seqItems ho hd ?_)
 refine wpAny_bind ?_
 show wpAny _ _ (forIn items _ _) _ _ s
 rw[←Array.forIn_toList]
 refine wpAny_forIn_list _ (fun zau r s'=>r.1=none∧s'=s∧∀ v∈zau,carriedByValue v=true) _ ?_ ?_ _ _ ⟨rfl,rfl,hi.byValue⟩
 ·rintro v zau r s' ⟨hr,rfl,hall⟩
  rw[eqIsQuiet_byValue _ (hall v List.mem_cons_self)]
  refine wpAny_bind (wpAny_pure ?_)
  simp only[Bool.not_true,Bool.false_eq_true,if_false]
  exact wpAny_pure ⟨rfl,rfl,fun u hu'=>hall u (List.mem_cons_of_mem _ hu')⟩
 ·rintro ⟨r1,r2⟩ s' ⟨hr,rfl,_⟩
  simp only at hr
  subst hr
  exact wpAny_pure h
theorem ziE {k:Sgn} {a:Addr} {Q:Bool→Shared→Prop} (hk:zbl P w s.heap k a) (h:Q true s):wpAny (model P w) A (eqIsQuiet 8 (.ref a)) Q E s:=by
 have hT:=hk.typeIs
 obtain⟨o,t,q,n,ho,_,hd,hi⟩:=hk
 unfold eqIsQuiet
 refine wpAny_bind (wpAny_specialOf hT F.slot_tuple_eq.lookup ?_)
 show wpAny _ _ (isInstance (.ref a) (.type "tuple") >>= _) _ _ s
 refine wpAny_bind (wpAny_isInstance hT isSubtype_tuple_tuple ?_)
 simp only[Bool.not_true,Bool.false_eq_true,if_false]
 refine wpAny_bind (wpAny_seqItems ho hd ?_)
 refine wpAny_bind ?_
 show wpAny _ _ (forIn #[Value.str k.1 t,.ref q] _ _) _ _ s
 rw[←Array.forIn_toList]
 refine wpAny_forIn_list _ (fun zau r s'=>r.1=none∧s'=s∧∀ v∈zau,carriedByValue v=true∨v=.ref q) _ ?_ ?_ _ _ ⟨rfl,rfl,fun v hv=>?_⟩
 ·rintro v zau r s' ⟨hr,rfl,hall⟩
  rcases hall v List.mem_cons_self with hv | rfl
  ·rw[eqIsQuiet_byValue _ hv]
   refine wpAny_bind (wpAny_pure ?_)
   simp only[Bool.not_true,Bool.false_eq_true,if_false]
   exact wpAny_pure ⟨rfl,rfl,fun u hu'=>hall u (List.mem_cons_of_mem _ hu')⟩
  ·refine wpAny_bind (quiet7 hi ?_)
   simp only[Bool.not_true,Bool.false_eq_true,if_false]
   exact wpAny_pure ⟨rfl,rfl,fun u hu'=>hall u (List.mem_cons_of_mem _ hu')⟩
 ·rintro ⟨r1,r2⟩ s' ⟨hr,rfl,_⟩
  simp only at hr
  subst hr
  exact wpAny_pure h
 ·rcases List.mem_cons.mp hv with rfl | hv
  ·exact .inl rfl
  ·exact .inr (List.mem_singleton.mp hv)
end
def zdM (P:Program) (w:World):HeapKind P w Sgn where
 is:=zbl P w
 hash:=zfL P w
 draws:=fun k=>k.2.length+3
 room:=fun A=>A.units+10 < cLine
 inj:=fun hx hy=>hx.inj hy
 keeps:=fun x ho hd hs=>x.keeps ho hd hs
 pyHash:=fun hu hk h=>zjA hu hk h
 eqBool:=fun hu hx hy h=>zkY hu hx hy h
 quiet:=fun hk h=>ziE hk h
section
variable {prog:Program} {w:World} {K:Type} [DecidableEq K] {knd:HeapKind prog w K} {A:Around} {E:Value→Shared→Prop} {s:Shared}
theorem zgd {d a:Addr} {xs:List (K × Addr × Value)} {k:K} {dflt:Value} {Q:Value→Shared→Prop} (hu:knd.room A) (hkey:knd.is s.heap k a) (hm:s.heap.DictOfH knd d xs)
  (h1:∀ p,atKey xs k=some p→Q p.2 { s with toks:=s.toks+knd.draws k })
  (h2:atKey xs k=none→∀ h',h'.DictOfH knd d (xs++[(k,a,dflt)])→Heap.SameBut d s.heap h'→Q dflt { s with heap:=h',toks:=s.toks+knd.draws k })
  (hsz:xs.length≤sizeLine):wpAny (model prog w) A (dictSetDefault d (.ref a) dflt) Q E s:=by
 obtain⟨o,es,ep,ho,hc,hd,he,his,hn⟩:=hm
 unfold dictSetDefault
 try with_reducible refine wpAny_holding ?_
 refine wpAny_bind (knd.pyHash hu hkey ?_)
 refine wpAny_bind (wpAny_dictFind_heap (s:={ s with toks:=s.toks+knd.draws k }) hu hkey ho hd he his hn ?_ ?_)
 ·intro hno
  have hnot:k∉xs.map (·.1):=not_mem_keys_of_get hno
  refine wpAny_bind (wpAny_rule (wpAny_bind (wpAny_updateDictKeys (hz:=by have e:=size_of_entries he;omega) (s:={ s with toks:=s.toks+knd.draws k }) ho hd (wpAny_pure (h2 (atKey_none_of_get hno) _ ⟨_,_,ep+1,Heap.get?_update_self _ ho (Obj.isFreed_of_dict (Obj.data_mapDictKeys hd _)),
   hc.mapDictKeys _,Obj.data_mapDictKeys hd _,?_,?_,?_⟩ (Heap.SameBut.update ..))))))
  ·simp [he,entryOfKey]
  ·intro x hx
   rcases List.mem_append.mp hx with hx | hx
   ·exact knd.keeps (his x hx) ho hd (Heap.SameBut.update ..)
   ·simp only[List.mem_singleton]at hx
    subst hx
    exact knd.keeps hkey ho hd (Heap.SameBut.update ..)
  ·rw[List.map_append,List.nodup_append]
   refine⟨hn,by simp,?_⟩
   intro x hx y hy
   simp only[List.map_cons,List.map_nil,List.mem_singleton]at hy
   subst hy
   exact fun e=>hnot (e ▸ hx)
 ·intro j p hj
  refine wpAny_bind (wpAny_dictEntries (s:={ s with toks:=s.toks+knd.draws k }) ho hd ?_)
  rw[entry_at he j,hj]
  exact wpAny_bind (wpAny_rule (wpAny_pure (h1 p (atKey_of_get hn hj))))
theorem zfz (knd:HeapKind prog w K) (d a:Addr) (hd:(d == sysModules)=false) (dflt:Value) :
  MeetsIn prog w (Builtin.«dict.setdefault» ⟨[.ref d,.ref a,dflt],[]⟩) (fun A R s=>knd.room A.in1∧∃ k xs,knd.is s.heap k a∧s.heap.DictOfH knd d xs∧xs.length≤sizeLine ∧
   (∀ p,atKey xs k=some p→R (.ok (.ret p.2)) { s with toks:=s.toks+knd.draws k }) ∧
   (atKey xs k=none→∀ h',h'.DictOfH knd d (xs++[(k,a,dflt)])→Heap.SameBut d s.heap h'→R (.ok (.ret dflt)) { s with heap:=h',toks:=s.toks+knd.draws k })) :=
 .of_wp fun A R s ⟨hu,k,xs,hkey,hm,hz,h1,h2⟩=>by
  unfold Builtin.«dict.setdefault»
  refine wpAny_bind ?_
  unfold Builtin.Dict.keyAndDefault
  refine wpAny_bind (wpAny_notOrdered_dict hm.typeIs ?_)
  show wpAny _ _ (pure (d,Value.ref a,some dflt)) _ _ s
  refine wpAny_pure ?_
  show wpAny _ _ (if(d == sysModules)=true then _ else(dictSetDefault d (.ref a) dflt >>= _)) _ _ s
  rw[if_neg (by rw[hd];exact Bool.false_ne_true)]
  exact wpAny_bind (zgd hu hkey hm (fun p hp=>wpAny_pure ⟨p.2,rfl,h1 p hp⟩) (fun hn h' hm' hs'=>wpAny_pure ⟨dflt,rfl,h2 hn h' hm' hs'⟩) hz)
end
end L2
namespace L2
open PySem PySem.Spec PyProof.Rows
abbrev SE:=Sgn × Addr × V
def relS (p:SE) (q:Sgn × Addr × Value):Prop:=p.1=q.1∧p.2.1=q.2.1∧aL p.2.2 q.2.2
def zdv (P:Program) (w:World) (a:Addr) (kvs:List SE):HO:=.ext fun h=>(a == sysModules)=false∧∃ xs:List (Sgn × Addr × Value),Paired relS kvs xs ∧
 ∃ o es ep,h.get? a=some o∧o.ExactDict∧o.data=.dict es ep∧es.toList=xs.map (entryOfKey (zdM P w))∧(xs.map (·.1)).Nodup
def SD (P:Program) (w:World) (H:Hp) (a:Addr) (kvs:List SE):Prop:=(H a=some (.dK [])∧kvs=[])∨H a=some (zdv P w a kvs)
def zcN (K:W.Frag) (H:Hp) (k:Sgn) (p:Addr):Prop:=∃ q,SqT K H p [.str k.1,.ref q]∧SqT K H q (k.2.map kV)
def atS (kvs:List SE) (k:Sgn):Option SE:=kvs.find? fun e=>decide (e.1=k)
theorem zf9 {kvs:List SE} {xs:List (Sgn × Addr × Value)} (r:Paired relS kvs xs) (k:Sgn) :
  (∃ e q,atS kvs k=some e∧atKey xs k=some q∧aL e.2.2 q.2)∨(atS kvs k=none∧atKey xs k=none):=by
 induction r with
 | nil=>exact .inr ⟨rfl,rfl⟩
 | @cons p q ps qs h t ih =>
  by_cases hk:p.1=k
  ·refine .inl ⟨p,q.2,?_,?_,h.2.2⟩
   ·unfold atS
    rw[List.find?_cons_of_pos (by exact decide_eq_true hk)]
   ·unfold atKey
    rw[List.find?_cons_of_pos (by exact decide_eq_true (h.1.symm.trans hk))]
    rfl
  ·have e1:atS (p :: ps) k=atS ps k:=by
    unfold atS
    rw[List.find?_cons_of_neg (by simpa using hk)]
   have e2:atKey (q :: qs) k=atKey qs k:=by
    unfold atKey
    rw[List.find?_cons_of_neg (by simpa using fun z=>hk (h.1.trans z))]
   rw[e1,e2]
   exact ih
section
variable {X:Cx}
theorem zi2 {P:Program} {w:World} {pins:List (Addr × Obj)} {σ:St} {H:Hp} {s:Shared} {k:Sgn} {p:Addr} (I:Inv X pins σ H s) (h:zcN X.K H k p):zbl P w s.heap k p:=by
 obtain⟨q,h1,h2⟩:=h
 obtain⟨its,r,⟨o,e1,e2,n,e3⟩,_⟩:=I.tuple h1
 obtain⟨js,r2,⟨o2,f1,f2,n2,f3⟩,_⟩:=I.tuple h2
 cases r with
 | cons ra t =>
  cases t with
  | cons rb t =>
   cases t
   obtain⟨tk,rfl⟩:=ra
   cases rb
   exact⟨o,tk,q,n,e1,e2,e3,o2,js.toArray,n2,f1,f2,f3,by simpa using ze9 r2⟩
def rSetd (P:Program) (w:World) (K:W.Frag):V→List V→Hp→VK→Prop:=fun x vs H Q=>∃ d p k v kvs,x=.ref d∧vs=[.ref p,v]∧SD P w H d kvs∧kvs.length < sizeLine∧(∀ e∈kvs,zcN K H e.1 e.2.1)∧zcN K H k p ∧
 ((∃ e,atS kvs k=some e∧Q e.2.2 H)∨(atS kvs k=none∧Q v (upd H d (zdv P w d (kvs++[(k,p,v)])))))
theorem zll (hu:X.A.units+64 < cLine):MtR X "dict.setdefault" (rSetd X.prog X.w X.K):=by
 intro pins s σ H x vs v us Q I rx rv h
 obtain⟨d,p,k,y,kvs,rfl,rfl,hd,hz,hks,hk,q⟩:=h
 cases rx
 cases rv with
 | cons rp t =>
 cases t with
 | @cons _ y' _ _ ry t =>
 cases t
 cases rp
 have got:(d == sysModules)=false∧Mut (H d)∧∃ xs:List (Sgn × Addr × Value),Paired relS kvs xs ∧
   ∃ o es ep,s.heap.get? d=some o∧o.ExactDict∧o.data=.dict es ep∧es.toList=xs.map (entryOfKey (zdM X.prog X.w))∧(xs.map (·.1)).Nodup:=by
  rcases hd with ⟨e,rfl⟩ | e
  ·obtain⟨z,sy,ws,rel,o,es,ep,h1,h2,h3,h4,h5,h6⟩:=zfi I.hok e
   cases rel
   refine⟨sy,by rw[e];exact True.intro,[],.nil,o,es,ep,h1,h2,h3,?_,List.nodup_nil⟩
   cases es with
   | mk l =>
    cases l with
    | nil=>rfl
    | cons a r=>exact absurd h5 (by intro z;cases z)
  ·obtain⟨⟨sy,xs,r⟩,_⟩:=I.hok d _ e
   exact⟨sy,by rw[e];exact True.intro,xs,r⟩
 obtain⟨sy,mu,xs,rel,o,es,ep,h1,h2,h3,h4,h5⟩:=got
 have all:∀ x∈xs,(zdM X.prog X.w).is s.heap x.1 x.2.1:=by
  clear q h4 h5 hz hd
  induction rel with
  | nil=>intro x hx;exact nomatch hx
  | @cons a b as bs r t ih =>
   intro x hx
   rcases List.mem_cons.mp hx with rfl | hx
   ·have:=hks a List.mem_cons_self
    rw[r.1,r.2.1]at this
    exact zi2 I this
   ·exact ih (fun e he=>hks e (List.mem_cons_of_mem _ he)) x hx
 have dd:s.heap.DictOfH (zdM X.prog X.w) d xs:=⟨o,es,ep,h1,h2,h3,h4,all,h5⟩
 have ll:=Paired.length rel
 refine call_meetsIn PySem.F.slot_dict_setdefault dd.typeIs PySem.F.entry_dict_setdefault (PySem.F.args_dict_setdefault_3 _ _ _) (zfz (zdM X.prog X.w) d p sy y')
  ⟨(by show X.A.units+1+10 < cLine;omega),k,xs,zi2 I hk,dd,by omega,fun u hu'=>?_,fun hn h' dd' hs=>?_⟩
 ·rcases zf9 rel k with ⟨e,u2,e1,e2,r2⟩ | ⟨_,e2⟩
  ·cases hu'.symm.trans e2
   rcases q with ⟨e',q1,q2⟩ | ⟨q1,_⟩
   ·cases q1.symm.trans e1
    exact⟨_,H,I.tok _,r2,q2⟩
   ·rw[q1]at e1
    exact nomatch e1
  ·rw[hu']at e2
   exact nomatch e2
 ·rcases zf9 rel k with ⟨e,u2,e1,e2,r2⟩ | ⟨e1,e2⟩
  ·rw[hn]at e2
   exact nomatch e2
  rcases q with ⟨e',q1,q2⟩ | ⟨_,q2⟩
  ·rw[q1]at e1
   exact nomatch e1
  obtain⟨o',es',ep',g1,g2,g3,g4,g5,g6⟩:=dd'
  have new:zaz X.prog X.w (upd H d (zdv X.prog X.w d (kvs++[(k,p,y)]))) h' d (zdv X.prog X.w d (kvs++[(k,p,y)])):=by
   refine⟨⟨sy,_,?_,o',es',ep',g1,g2,g3,g4,g6⟩,⟨_,g1⟩,fun a b z kp=>?_⟩
   ·have app:∀ {as:List SE} {bs:List (Sgn × Addr × Value)},Paired relS as bs→Paired relS (as++[(k,p,y)]) (bs++[(k,p,y')]):=by
     intro as bs r
     induction r with
     | nil=>exact .cons ⟨rfl,rfl,ry⟩ .nil
     | cons r t ih=>exact .cons r ih
    exact app rel
   ·obtain⟨z1,ys,z2,o2,es2,ep2,z3,z4⟩:=z
    exact⟨z1,ys,z2,o2,es2,ep2,kp _ z3,z4⟩
  exact⟨y,_,zev I mu hs ⟨_,g1⟩ new,ry,q2⟩
theorem sd_is {pins:List (Addr × Obj)} {σ:St} {H:Hp} {s:Shared} {d:Addr} {kvs:List SE} (I:Inv X pins σ H s) (h:SD X.prog X.w H d kvs) :
  s.TypeIs (.ref d) "dict"∧∀ a,Value.ref d=.ref a→∃ ob,s.heap.get? a=some ob∧ob.dict=none:=by
 have z:∃ o,s.heap.get? d=some o∧o.ExactDict:=by
  rcases h with ⟨e,_⟩ | e
  ·obtain⟨_,_,_,_,o,_,_,e1,ex,_⟩:=I.hok d _ e
   exact⟨o,e1,ex⟩
  ·obtain⟨⟨_,_,_,o,_,_,e1,ex,_⟩,_⟩:=I.hok d _ e
   exact⟨o,e1,ex⟩
 obtain⟨o,e,ex⟩:=z
 refine⟨⟨o,e,ex.1⟩,fun a e2=>?_⟩
 cases e2
 exact⟨o,e,ex.2.1⟩
def tSetd (P:Program) (w:World) (K:W.Frag) (to:TE) (t:TA):TE:=fun σ H Q=>to σ H fun x H1=>(∃ d kvs,x=.ref d∧SD P w H1 d kvs)∧t σ H1 fun xs H2=>rSetd P w K x xs H2 Q
theorem zla {o e:Expr} {es:List Expr} {to:TE} {t:TA} {apos cpos:Pos} (hu:X.A.units+64 < cLine) (ho:PE X o to) (ha:PA X (e :: es) t)
  (hbase:attributeBase o "setdefault" X.env (eval o X.env)=eval o X.env:=by rfl)
  (hfew:((backTo cpos (starEach (e :: es) X.env)).all (fun x=>!x.1)&&(backToKw cpos (keywordEach [] X.env)).all (fun x=>x.1.isSome)
   && decide ((e :: es).length+([]:List Keyword).length+(if([]:List Keyword).isEmpty then 0 else 1) < 30))=true:=by rfl)
  (hline:(apos.endLine == cpos.line)=true:=by rfl) (hs:starEach (e :: es) X.env=(false,eval e X.env) :: starEach es X.env:=by rfl) (hplain:(backTo cpos (starEach es X.env)).any (·.1)=false:=by rfl) :
  PE X (.Call (.Attribute o "setdefault" apos) (e :: es) [] cpos) (tSetd X.prog X.w X.K to t):=by
 intro pins s σ H Q I h
 refine wpAny_Call_method_late hbase hfew hline rfl (thn (ho pins s σ H _ I h) fun v s1 ⟨x,H1,I1,r1,⟨d,kvs,ex,sd⟩,q1⟩=>?_)
 subst ex
 cases r1
 obtain⟨h1,h2⟩:=sd_is I1 sd
 refine⟨"dict","dict.setdefault",PySem.F.plainAttrs_dict,PySem.F.slot_dict_setdefault,PySem.F.type_dict_setdefault,h1,h2,?_⟩
 have hA:=ha cpos pins s1 σ H1 _ I1 q1
 rw[hs]at hA ⊢
 refine Calls.callWith_builtin (by show(false||(backTo cpos (starEach es X.env)).any (·.1))=false;rw[hplain] <;> rfl) (Calls.evalArgs_plain ?_)
 exact thn hA fun us s2 ⟨vs,H2,I2,r2,q2⟩=>zll hu pins s2 σ H2 (.ref d) vs (.ref d) us Q I2 rfl r2 q2
end
end L2
namespace L2
open PySem
abbrev Tm:=Str × List Int
def dTm (t:Tm):Dt:=.tup [.str t.1,.tup (t.2.map Dt.int)]
theorem zlr {K:W.Frag} {H:Hp} {t:Tm} {v:V} (h:Has K H (dTm t) v):∃ p q,v=.ref p∧SqT K H p [.str t.1,.ref q]∧SqT K H q (t.2.map V.int):=by
 obtain⟨a,xs,rfl,h1,h2⟩:=h
 obtain⟨v1,r1,e1,g1,h3⟩:=h2
 obtain⟨v2,r2,e2,g2,h4⟩:=h3
 cases e1
 cases e2
 have e3:r2=[]:=by
  have:=ah.length h4
  exact List.length_eq_zero_iff.mp this.symm
 subst e3
 have e4:v1=.str t.1:=g1
 subst e4
 obtain⟨b,ys,rfl,k1,k2⟩:=g2
 rw[zdi k2]at k1
 exact⟨a,b,rfl,h1,k1⟩
theorem zc3:∀ ts:List Tm,zaW (ts.map dTm)=true
 | []=>by simp [zaW]
 | t :: ts=>by
  simp only[List.map_cons,zaW,dTm,nol,Bool.true_and,Bool.and_eq_true]
  exact⟨⟨zhA _,trivial⟩,zc3 ts⟩
theorem tm_at {K:W.Frag} {H:Hp} {ts:List Tm} {xs:List V} {i:Nat} {x:V} (h:ah K H (ts.map dTm) xs) (e:xs[i]?=some x):∃ t p q,ts[i]?=some t∧x=.ref p∧SqT K H p [.str t.1,.ref q]∧SqT K H q (t.2.map V.int):=by
 obtain⟨d,h1,h2⟩:=h.get e
 rw[List.getElem?_map]at h1
 obtain⟨t,e1,e2⟩:=Option.map_eq_some_iff.mp h1
 rw[←e2]at h2
 obtain⟨p,q,e3,e4,e5⟩:=zlr h2
 exact⟨t,p,q,e1,e3,e4,e5⟩
def zb3 (ts:List Tm) (hd:Int→Int) (a b:Int):Prop:=∃ t u,ts[a.toNat]?=some t∧ts[b.toNat]?=some u∧t.1=u.1∧t.2.map hd=u.2.map hd
structure LkOk (ts:List Tm) (gs:List (Int × Int)) (pre:List Lk) (l:Lk):Prop where
 a:0≤l.1∧l.1 < (ts.length:Int)
 b:0≤l.2.1∧l.2.1 < (ts.length:Int)
 new:hdL pre l.1≠hdL pre l.2.1
 how:(0≤l.2.2∧gs[l.2.2.toNat]?=some (l.1,l.2.1))∨(l.2.2=-1∧zb3 ts (hdL pre) l.1 l.2.1)
def zah (ts:List Tm) (gs:List (Int × Int)) (ls:List Lk):Prop:=∀ i l,ls[i]?=some l→LkOk ts gs (ls.take i) l
theorem zah.nil (ts:List Tm) (gs:List (Int × Int)):zah ts gs []:=fun i l h=>by simp at h
theorem zah.snoc {ts:List Tm} {gs:List (Int × Int)} {ls:List Lk} {l:Lk} (h:zah ts gs ls) (k:LkOk ts gs ls l):zah ts gs (ls++[l]):=fun i m hm=>by
 have lt:=(List.getElem?_eq_some_iff.mp hm).1
 rw[List.length_append]at lt
 have lt:i < ls.length+1:=lt
 by_cases c:i < ls.length
 ·rw[List.getElem?_append_left c]at hm
  rw[List.take_append_of_le_length (by omega)]
  exact h i m hm
 ·have e:i=ls.length:=by omega
  subst e
  rw[List.getElem?_append_right (Nat.le_refl _),Nat.sub_self]at hm
  cases hm
  rw[List.take_append_of_le_length (Nat.le_refl _),List.take_length]
  exact k
theorem zah.inn {ts:List Tm} {gs:List (Int × Int)} {ls:List Lk} (h:zah ts gs ls):InN ts.length ls:=fun l hl=>by
 obtain⟨i,hi⟩:=List.mem_iff_getElem?.mp hl
 exact⟨(h i l hi).a,(h i l hi).b⟩
theorem zah.his {ts:List Tm} {gs:List (Int × Int)} {ls:List Lk} (h:zah ts gs ls):∀ n,n≤ls.length→∃ xs:List Int,xs.length=n∧xs.Nodup∧∀ x∈xs,(0≤x∧x < (ts.length:Int))∧hdL (ls.take n) x≠x:=by
 intro n
 induction n with
 | zero=>exact fun _=>⟨[],rfl,List.nodup_nil,fun x hx=>nomatch hx⟩
 | succ n ih =>
  intro hn
  obtain⟨xs,x1,x2,x3⟩:=ih (by omega)
  obtain⟨l,hl⟩:∃ l,ls[n]?=some l:=⟨_,List.getElem?_eq_getElem (by omega)⟩
  have k:=h n l hl
  have Hn:=zjl h.inn n (by omega)
  have lh:=lohi (hdL (ls.take n) l.1) (hdL (ls.take n) l.2.1)
  have la:=Hn.in' k.a
  have lb:=Hn.in' k.b
  have hi:=Hn.hi_id l.1 l.2.1
  have nn:=k.new
  refine⟨hiF (hdL (ls.take n) l.1) (hdL (ls.take n) l.2.1) :: xs,by rw[List.length_cons,x1],List.nodup_cons.mpr ⟨fun z=>(x3 _ z).2 hi,x2⟩,fun x hx=>?_⟩
  rw[zai hl,zbs]
  rcases List.mem_cons.mp hx with rfl | hx
  ·refine⟨by omega,?_⟩
   unfold mrg
   rw[if_pos hi]
   omega
  ·refine⟨(x3 x hx).1,?_⟩
   have:=(x3 x hx).2
   have:=Hn.le x
   unfold mrg
   split <;> omega
theorem zah.len {ts:List Tm} {gs:List (Int × Int)} {ls:List Lk} (h:zah ts gs ls):ls.length≤ts.length:=by
 obtain⟨xs,x1,x2,x3⟩:=h.his ls.length (Nat.le_refl _)
 rw[←x1]
 exact zbi _ x2 fun x hx=>(x3 x hx).1
def zbD (ts:List Tm) (hd:Int→Int):Prop:=∀(a b:Nat) t u,ts[a]?=some t→ts[b]?=some u→t.1=u.1→t.2.map hd=u.2.map hd→hd (a:Int)=hd (b:Int)
def zbC (gs:List (Int × Int)) (hd:Int→Int):Prop:=∀ p∈gs,hd p.1=hd p.2
theorem zbC.more {gs:List (Int × Int)} {ls:List Lk} (h:zbC gs (hdL ls)) (more:List Lk):zbC gs (hdL (ls++more)):=fun p hp=>zd5 more (h p hp)
def zis (N:Nat) (gs:List (Int × Int)):Prop:=∀ p∈gs,(0≤p.1∧p.1 < (N:Int))∧0≤p.2∧p.2 < (N:Int)
def zby (t:Tm) (hd:Int→Int):Sgn:=(t.1,(t.2.map hd).map Sum.inl)
theorem zkZ {t u:Tm} {hd:Int→Int} (h1:t.1=u.1) (h2:t.2.map hd=u.2.map hd):zby t hd=zby u hd:=by unfold zby;rw[h1,h2]
theorem zif:∀ {as bs:List Int},as.map (Sum.inl:Int→Key)=bs.map Sum.inl→as=bs
 | [],[],_=>rfl
 | [],b :: bs,h=>by cases h
 | a :: as,[],h=>by cases h
 | a :: as,b :: bs,h=>by
  rw[List.map_cons,List.map_cons]at h
  injection h with h1 h2
  injection h1 with h1
  rw[h1,zif h2]
def zfx (ts:List Tm) (hd:Int→Int) (i:Nat) (kvs:List SE):Prop:=∀ e∈kvs,∃(j:Nat) (t:Tm) (es:List Int),e.2.2=.int (j:Int)∧j < i∧ts[j]?=some t∧e.1=(t.1,es.map Sum.inl)∧es.map hd=t.2.map hd
theorem zec {ls:List Lk} (more:List Lk):∀ {as bs:List Int},as.map (hdL ls)=bs.map (hdL ls)→as.map (hdL (ls++more))=bs.map (hdL (ls++more))
 | [],[],_=>rfl
 | [],b :: bs,h=>by cases h
 | a :: as,[],h=>by cases h
 | a :: as,b :: bs,h=>by
  rw[List.map_cons,List.map_cons]at h ⊢
  injection h with h1 h2
  rw[zd5 more h1,zec more h2]
theorem zfx.more {ts:List Tm} {ls:List Lk} {i j:Nat} {kvs:List SE} (h:zfx ts (hdL ls) i kvs) (more:List Lk) (hij:i≤j):zfx ts (hdL (ls++more)) j kvs:=fun e he=>by
 obtain⟨k,t,es,h1,h2,h3,h4,h5⟩:=h e he
 exact⟨k,t,es,h1,by omega,h3,h4,zec more h5⟩
theorem zlA {kvs:List SE} {k:Sgn} {e:SE} (h:atS kvs k=some e):e∈kvs∧e.1=k:=⟨List.mem_of_find?_eq_some h,by
 unfold atS at h
 have:=List.find?_some h
 exact of_decide_eq_true this⟩
theorem zkK {kvs:List SE} {k k2:Sgn} {e e2:SE} (h:atS kvs k=some e):atS (kvs++[e2]) k=some e:=by
 unfold atS at h ⊢
 rw[List.find?_append,h]
 rfl
theorem zlz {kvs:List SE} {k:Sgn} {p:Addr} {v:V} (h:atS kvs k=none):atS (kvs++[(k,p,v)]) k=some (k,p,v):=by
 unfold atS at h ⊢
 rw[List.find?_append,h]
 rw[List.find?_cons_of_pos (by exact decide_eq_true rfl)]
 rfl
theorem GO.ktG {H H':Hp} {C g ld gd:Addr} {N b:Nat} {hd:Int→Int} {av:List Addr} (G:GO H C g ld gd N b hd av) (s:zar ld gd H H'):zag H H':=fun c xs h=>by
 obtain⟨dx,kl,kg,h1,h2,h3,_⟩:=G.ex
 rcases h with h | ⟨o,h⟩
 ·exact .inl (s _ _ (zax h h2 (by intro z;cases z)) (zax h h3 (by intro z;cases z)) h)
 ·exact .inr ⟨o,s _ _ (zax h h2 (by intro z;cases z)) (zax h h3 (by intro z;cases z)) h⟩
theorem GO.seqG {K:W.Frag} {H H':Hp} {C g ld gd:Addr} {N b:Nat} {hd:Int→Int} {av:List Addr} {a:Addr} {xs:List V} (G:GO H C g ld gd N b hd av) (s:zar ld gd H H') (h:SqL K H a xs):SqL K H' a xs:=by
 obtain⟨dx,kl,kg,h1,h2,h3,_⟩:=G.ex
 rcases h with h | h
 ·rcases h with h | ⟨o,h⟩
  ·exact .inl (.inl (s _ _ (zax h h2 (by intro z;cases z)) (zax h h3 (by intro z;cases z)) h))
  ·exact .inl (.inr ⟨o,s _ _ (zax h h2 (by intro z;cases z)) (zax h h3 (by intro z;cases z)) h⟩)
 ·exact .inr h
theorem GO.lstG {H H':Hp} {C g ld gd:Addr} {N b:Nat} {hd:Int→Int} {av:List Addr} {a:Addr} {xs:List V} (G:GO H C g ld gd N b hd av) (s:zar ld gd H H') (h:H a=some (.lst xs)):H' a=some (.lst xs):=by
 obtain⟨dx,kl,kg,h1,h2,h3,_⟩:=G.ex
 exact s _ _ (zax h h2 (by intro z;cases z)) (zax h h3 (by intro z;cases z)) h
theorem zar.grow {ld gd l:Addr} {H H':Hp} {o:HO} (s:zar ld gd H H') (n:H l=none):zar ld gd H (upd H' l o):=fun b u n1 n2 h=>by
 rw[aj (zac h n)]
 exact s b u n1 n2 h
theorem GO.putL {H:Hp} {C g ld gd:Addr} {N b:Nat} {hd:Int→Int} {av:List Addr} {l:Addr} {xs:List V} {o:HO} (G:GO H C g ld gd N b hd av) (hl:l∈av) (h:H l=some (.lst xs)):GO (upd H l o) C g ld gd N b hd av:=by
 obtain⟨dx,kl,kg,h1,h2,h3,_⟩:=id G.ex
 exact G.put (.inl hl) (zax h h1 (by intro z;cases z)) (zax h h2 (by intro z;cases z)) (zax h h3 (by intro z;cases z))
theorem zgu {K:W.Frag} {H:Hp} {ts:List (Int × Int)} {xs:List V} {i:Nat} {x:V} (h:ah K H (ts.map dP) xs) (e:xs[i]?=some x):∃ t p,ts[i]?=some t∧x=.ref p∧SqT K H p [.int t.1,.int t.2]:=zlq h e
theorem zag.sd {P:Program} {w:World} {H:Hp} {d:Addr} {kvs:List SE} {o:HO} (h:SD P w H d kvs):zag H (upd H d o):=fun b xs q=>by
 have ne:b≠d:=fun e=>by
  subst e
  rcases h with ⟨h,_⟩ | h
  ·rcases q with q | ⟨u,q⟩
   ·rw[h]at q;cases q
   ·rw[h]at q;cases q
  ·rcases q with q | ⟨u,q⟩
   ·rw[h]at q;cases q
   ·rw[h]at q;cases q
 rcases q with q | ⟨u,q⟩
 ·exact .inl (by rw[aj ne];exact q)
 ·exact .inr ⟨u,by rw[aj ne];exact q⟩
theorem SD.nol {P:Program} {w:World} {H:Hp} {d:Addr} {kvs:List SE} (h:SD P w H d kvs) (xs:List V):H d≠some (.lst xs):=fun e=>by
 rcases h with ⟨h,_⟩ | h
 ·rw[h]at e;cases e
 ·rw[h]at e;cases e
theorem SD.noi {P:Program} {w:World} {H:Hp} {d:Addr} {kvs:List SE} (h:SD P w H d kvs) {C dx:Addr} {fs:List (Str × V)} (e:H d=some (.ins C dx fs)):False:=by
 rcases h with ⟨h,_⟩ | h
 ·rw[h]at e;cases e
 ·rw[h]at e;cases e
theorem SD.to {P:Program} {w:World} {H H':Hp} {d:Addr} {kvs:List SE} (h:SD P w H d kvs) (k:∀ o,H d=some o→H' d=some o):SD P w H' d kvs:=h.imp (fun z=>⟨k _ z.1,z.2⟩) fun z=>k _ z
theorem zcN.keep {K:W.Frag} {H H':Hp} {k:Sgn} {p:Addr} (h:zcN K H k p) (kt:zag H H'):zcN K H' k p:=by
 obtain⟨q,h1,h2⟩:=h
 exact⟨q,kt.sq h1,kt.sq h2⟩
def zfW (ts:List Tm) (hd:Int→Int) (i:Nat) (kvs:List SE):Prop:=∀(j:Nat) t,j < i→ts[j]?=some t→∃ e k,atS kvs (zby t hd)=some e∧e.2.2=.int k∧hd k=hd (j:Int)
theorem zfW.closed {ts:List Tm} {hd:Int→Int} {kvs:List SE} (h:zfW ts hd ts.length kvs):zbD ts hd:=fun a b t u ha hb e1 e2=>by
 obtain⟨e,k,z1,z2,z3⟩:=h a t (List.getElem?_eq_some_iff.mp ha).1 ha
 obtain⟨e',k',y1,y2,y3⟩:=h b u (List.getElem?_eq_some_iff.mp hb).1 hb
 rw[zkZ e1 e2]at z1
 cases z1.symm.trans y1
 have:=z2.symm.trans y2
 injection this with this
 subst this
 exact z3.symm.trans y3
def zeo (st:List Lk × Nat) (p:Int × Int):List Lk × Nat:=(if hdL st.1 p.1=hdL st.1 p.2 then st.1 else st.1++[(p.1,p.2,(st.2:Int))],st.2+1)
def gvF (gs:List (Int × Int)):List Lk:=(gs.foldl zeo ([],0)).1
def zdI (ls:List Lk) (st:List Lk × List (Sgn × Int) × Nat) (t:Tm):List Lk × List (Sgn × Int) × Nat :=
 match st.2.1.find? fun e=>decide (e.1=zby t (hdL (ls++st.1))) with
 | some e=>if hdL (ls++st.1) e.2=hdL (ls++st.1) (st.2.2:Int) then(st.1,st.2.1,st.2.2+1) else(st.1++[(e.2,(st.2.2:Int),-1)],st.2.1,st.2.2+1)
 | none=>(st.1,st.2.1++[(zby t (hdL (ls++st.1)),(st.2.2:Int))],st.2.2+1)
def alF (ts:List Tm) (ls:List Lk):List Lk:=(ts.foldl (zdI ls) ([],[],0)).1
def lkF (ts:List Tm):Nat→List Lk→List Lk
 | 0,fs=>fs
 | n+1,fs=>if alF ts fs=[] then fs else lkF ts n (fs++alF ts fs)
def zel (ts:List Tm) (gs:List (Int × Int)):List Lk:=lkF ts (ts.length+1) (gvF gs)
def NtR (kvs:List SE) (nt:List (Sgn × Int)):Prop:=kvs.map (fun e=>(e.1,e.2.2))=nt.map fun x=>(x.1,V.int x.2)
theorem NtR.at {k:Sgn}:∀ {kvs:List SE} {nt:List (Sgn × Int)},NtR kvs nt→(∃ e x,atS kvs k=some e∧nt.find? (fun e=>decide (e.1=k))=some x∧e.2.2=.int x.2)∨(atS kvs k=none∧nt.find? (fun e=>decide (e.1=k))=none)
 | [],[],_=>.inr ⟨rfl,rfl⟩
 | [],x :: nt,h=>by cases h
 | e :: kvs,[],h=>by cases h
 | e :: kvs,x :: nt,h=>by
  unfold NtR at h
  rw[List.map_cons,List.map_cons]at h
  injection h with h1 h2
  injection h1 with h3 h4
  by_cases c:e.1=k
  ·refine .inl ⟨e,x,?_,?_,h4⟩
   ·unfold atS
    rw[List.find?_cons_of_pos (by exact decide_eq_true c)]
   ·rw[List.find?_cons_of_pos (by exact decide_eq_true (h3 ▸ c))]
  ·have e1:atS (e :: kvs) k=atS kvs k:=by
    unfold atS
    rw[List.find?_cons_of_neg (by simpa using c)]
   rw[e1,List.find?_cons_of_neg (by simpa using (fun z=>c (h3.trans z)))]
   exact NtR.at h2
theorem NtR.snoc {kvs:List SE} {nt:List (Sgn × Int)} {k:Sgn} {p:Addr} {i:Int} (h:NtR kvs nt):NtR (kvs++[(k,p,.int i)]) (nt++[(k,i)]):=by
 unfold NtR at h ⊢
 rw[List.map_append,List.map_append,h]
 rfl
end L2
namespace HT
open PySem PySem.Spec PyProof.Rows
section
variable {prog:Program} {w:World} {A:Around} {E:Value→Shared→Prop} {s:Shared}
end
end HT
namespace L2
open PySem PySem.Spec PyProof.Rows
section
variable {X:Cx} {e st:Expr} {te ts:TE} {pos p2:Pos}
end
end L2
namespace L2
open PySem
end L2
namespace L2
open PySem
theorem ah.take {K:W.Frag} {H:Hp}:∀ {ds:List Dt} {vs:List V} (n:Nat),ah K H ds vs→ah K H (ds.take n) (vs.take n)
 | _,_,0,_=>ah.nil
 | [],vs,n+1,h=>by
  have e:=ah.length h
  have e2:vs=[]:=List.length_eq_zero_iff.mp e.symm
  subst e2
  exact ah.nil
 | d :: ds,vs,n+1,h=>by
  obtain⟨v,r,e,h1,h2⟩:=h
  cases e
  rw[List.take_succ_cons,List.take_succ_cons]
  exact ah.cons h1 (ah.take n h2)
theorem zkG (xs:List V) (m:Nat):zcn xs none (some (m:Int))=xs.take m:=by
 unfold zcn
 rw[HT.sIx_none,HT.sIx_nat,List.drop_zero,Nat.sub_zero]
 by_cases h:m≤xs.length
 ·rw[Nat.min_eq_left h]
 ·rw[Nat.min_eq_right (by omega),List.take_of_length_le (Nat.le_refl _),List.take_of_length_le (by omega)]
end L2
namespace L2
open PySem
end L2
namespace L2
open PySem
theorem zdk (x y:Int):decide (V.int x=V.int y)=decide (x=y):=decide_eq_decide.mpr ⟨fun z=>by injection z,fun z=>by rw[z]⟩
def hdsG (hd:Int→Int) (n:Nat):List Int:=(List.range n).map fun i:Nat=>hd (i:Int)
theorem zih (hd:Int→Int) {n:Nat} {k:Int} (h0:0≤k) (h1:k < (n:Int)):atI ((hdsG hd n).map V.int) k=some (.int (hd k)):=zkA (ls:=[]) hd h0 h1
end L2
namespace L2
open PySem PySem.Spec PyProof.Rows
section
variable {prog:Program} {w:World} {A:Around} {E:Value→Shared→Prop} {s:Shared}
theorem zcT {it t:Addr} {i:Nat} {items} {x:Value} {Q:Value→Shared→Prop} (hit:s.heap.IsTupleIter it t i) (ht:s.heap.IsTuple t items) (hx:items[i]?=some x)
  (hQ:∀ h',h'.IsTupleIter it t (i+1)→Heap.SameBut it s.heap h'→Q x { s with heap:=h' }):wpAny (model prog w) A (Builtin.SmallTypes.nextOf (.ref it)) Q E s:=by
 obtain⟨o,ho,hc,hd⟩:=id hit
 obtain⟨ol,hol,_,nl,hdl⟩:=ht
 unfold Builtin.SmallTypes.nextOf
 refine wpAny_bind (wpAny_callSpecial?_slot (name:=Str.ofString "__next__") hit.typeIs F.slot_tuple_iterator_next (wpAny_call_entry F.slot_tuple_iterator_next hit.typeIs F.entry_tuple_iterator_next ?_ (F.args_tuple_iterator_next_1 _)))
 show wpAny _ _ (field (.ref it) 0 >>= _) _ _ s
 refine wpAny_bind (wpAny_field ho hd (x:=.ref t) rfl ?_)
 show wpAny _ _ (if(Value.ref t == Value.none)=true then _ else _) _ _ s
 rw[if_neg (show ¬((Value.ref t == Value.none)=true) from Bool.false_ne_true)]
 show wpAny _ _ (field (.ref it) 1 >>= _) _ _ s
 refine wpAny_bind (wpAny_field ho hd (x:=.int i 0) rfl ?_)
 show wpAny _ _ (seqItems? (.ref t) >>= _) _ _ s
 refine wpAny_bind (wpAny_seqItems hol hdl ?_)
 simp only[Int.toNat_natCast,hx]
 refine wpAny_bind (wpAny_setField ho hd (by simp) (wpAny_pure ⟨x,rfl,wpAny_pure (hQ _ ?_ (Heap.SameBut.update ..))⟩))
 exact⟨_,Heap.get?_update_self _ ho (Obj.isFreed_of_fields (Obj.data_mapFields hd _)),(Obj.cls_mapFields ..).trans hc,by
  rw[Obj.data_mapFields hd];simp [rawInt]⟩
theorem zc6 {it t:Addr} {i:Nat} {items} {Q:Value→Shared→Prop} (hh:A.handled=none) (hit:s.heap.IsTupleIter it t i) (ht:s.heap.IsTuple t items) (hx:items[i]?=none)
  (hE:∀ h' e,Heap.ExtBut it s.heap h'→(∃ o,h'.get? e=some o∧o.cls=.type "StopIteration")→E (.ref e) { s with heap:=h' }):wpAny (model prog w) A (Builtin.SmallTypes.nextOf (.ref it)) Q E s:=by
 obtain⟨o,ho,hc,hd⟩:=id hit
 obtain⟨ol,hol,_,nl,hdl⟩:=ht
 unfold Builtin.SmallTypes.nextOf
 refine wpAny_bind (wpAny_callSpecial?_slot (name:=Str.ofString "__next__") hit.typeIs F.slot_tuple_iterator_next (wpAny_call_entry F.slot_tuple_iterator_next hit.typeIs F.entry_tuple_iterator_next ?_ (F.args_tuple_iterator_next_1 _)))
 show wpAny _ _ (field (.ref it) 0 >>= _) _ _ s
 refine wpAny_bind (wpAny_field ho hd (x:=.ref t) rfl ?_)
 show wpAny _ _ (if(Value.ref t == Value.none)=true then _ else _) _ _ s
 rw[if_neg (show ¬((Value.ref t == Value.none)=true) from Bool.false_ne_true)]
 show wpAny _ _ (field (.ref it) 1 >>= _) _ _ s
 refine wpAny_bind (wpAny_field ho hd (x:=.int i 0) rfl ?_)
 show wpAny _ _ (seqItems? (.ref t) >>= _) _ _ s
 refine wpAny_bind (wpAny_seqItems hol hdl ?_)
 simp only[Int.toNat_natCast,hx]
 refine wpAny_bind (wpAny_rule (wpAny_bind (wpAny_setField ho hd (by simp) ?_)))
 show wpAny _ _ (newExc (.type "StopIteration") [] >>= _) _ _ _
 refine wpAny_bind ?_
 simp only[newExc,newTuple]
 refine wpAny_bind (wpAny_newObj_type ?_ (by size_fits))
 refine wpAny_bind (m:=firstArgMember _ _) (wpAny_of_eq (a:=Value.none) (by first | rfl | (simp only[firstArgMember];rfl)) ?_)
 refine wpAny_newObj_type ?_ (by size_fits)
 simp only[raiseNew]
 refine wpAny_bind (wpAny_handled ?_)
 first | rw[show A.in1.handled=none from hh] | rw[hh]
 refine wpAny_bind (wpAny_pure (wpAny_throw ?_))
 exact hE _ _ (((Heap.SameBut.update ..).extBut.push _).push _) ⟨_,Heap.get?_push_size _ rfl,rfl⟩
def TuI (h:Heap) (it t:Addr) (i:Nat) (xs:Array Value):Prop:=h.IsTupleIter it t i∧h.IsTuple t xs
theorem TuI.ext {h h':Heap} {it t b:Addr} {i:Nat} {xs:Array Value} (x:TuI h it t i xs) (hs:Heap.ExtBut b h h') (h1:it≠b) (h2:t≠b):TuI h' it t i xs:=⟨x.1.extBut hs h1,x.2.extBut hs h2⟩
theorem zjw {z TI' TO i1 i2 l1 l2:Addr} {k1 k2:Nat} {xs ys:Array Value} {x y a b:Value} {Q:Value→Shared→Prop} (D:ZipApart z TI' TO i1 i2 l1 l2)
  (hz:IsZip s.heap z TI' TO .none) (hTI:IsPair s.heap TI' (.ref i1) (.ref i2)) (hTO:IsPair s.heap TO a b) (h1:TuI s.heap i1 l1 k1 xs) (h2:TuI s.heap i2 l2 k2 ys) (hx:xs[k1]?=some x) (hy:ys[k2]?=some y)
  (hQ:∀ h',IsZip h' z TI' TO (rawInt s.heap.objs.size)→IsPair h' TO x y→h'.IsTupleIter i1 l1 (k1+1)→h'.IsTupleIter i2 l2 (k2+1)→IsPair h' s.heap.objs.size x y→h'.objs.size=s.heap.objs.size+1 →
   (∀ c o,c≠z→c≠TO→c≠i1→c≠i2→s.heap.get? c=some o→h'.get? c=some o)→Q (.ref s.heap.objs.size) { s with heap:=h' }) :
  wpAny (model prog w) A (Builtin.«zip.__next__» ⟨[.ref z],[]⟩) (fun fin s'=>∃ v,fin=.done (.ret v)∧Q v s') E s:=by
 show wpAny _ _ (field (.ref z) 2 >>= _) _ _ _
 refine wpAny_bind (wpAny_field hz rfl (x:=.bool false) rfl ?_)
 show wpAny _ _ (field (.ref z) 3 >>= _) _ _ _
 refine wpAny_bind (wpAny_field hz rfl (x:=.ref TI') rfl ?_)
 refine wpAny_bind (wpAny_seqItems hTI rfl ?_)
 show wpAny _ _ (Builtin.SmallTypes.ownedTupleIsFree (.ref z) >>= _) _ _ _
 refine wpAny_bind ?_
 unfold Builtin.SmallTypes.ownedTupleIsFree
 refine wpAny_bind (wpAny_field hz rfl (x:=.none) rfl (wpAny_pure ?_))
 simp only[if_true]
 refine wpAny_bind (wpAny_rule ?_)
 refine wpAny_bind (wpAny_field hz rfl (x:=.ref TO) rfl ?_)
 refine wpAny_bind (wpAny_setField_rec hz (by simp) fun h₁ hz₁ hs₁=>?_)
 replace hz₁:IsZip h₁ z TI' TO .ellipsis:=hz₁
 refine wpAny_bind ?_
 simp only[List.zipIdx_cons,List.zipIdx_nil,List.forIn_cons,List.forIn_nil]
 refine wpAny_bind (wpAny_bind (wpAny_onRaise ?_))
 show wpAny _ _ (Builtin.SmallTypes.nextOf (.ref i1) >>= _) _ _ _
 have a1:=h1.ext hs₁.extBut D.i1z D.l1z
 refine wpAny_bind (zcT a1.1 a1.2 hx fun h₂ h1₂ hs₂=>wpAny_pure ?_)
 have hTO₂:IsPair h₂ TO a b:=hs₂.extBut _ _ D.TOi1 (hs₁.extBut _ _ D.TOz hTO)
 refine wpAny_bind (wpAny_seqItems hTO₂ rfl ?_)
 refine wpAny_bind (wpAny_updateSeq_pair hTO₂ fun h₃ hTO₃ hs₃=>?_)
 replace hTO₃:IsPair h₃ TO x b:=hTO₃
 refine wpAny_bind (wpAny_letGo (wpAny_pure ?_))
 refine wpAny_bind (wpAny_bind (wpAny_onRaise ?_))
 show wpAny _ _ (Builtin.SmallTypes.nextOf (.ref i2) >>= _) _ _ _
 have a2:=((h2.ext hs₁.extBut D.i2z D.l2z).ext hs₂.extBut D.i12.symm D.l2i1).ext hs₃.extBut D.TOi2.symm D.l2TO
 refine wpAny_bind (zcT a2.1 a2.2 hy fun h₄ h2₄ hs₄=>wpAny_pure ?_)
 have hTO₄:IsPair h₄ TO x b:=hs₄.extBut _ _ D.TOi2 hTO₃
 refine wpAny_bind (wpAny_seqItems hTO₄ rfl ?_)
 refine wpAny_bind (wpAny_updateSeq_pair hTO₄ fun h₅ hTO₅ hs₅=>?_)
 replace hTO₅:IsPair h₅ TO x y:=hTO₅
 refine wpAny_bind (wpAny_letGo (wpAny_pure (wpAny_pure ?_)))
 refine wpAny_bind (wpAny_seqItems hTO₅ rfl ?_)
 refine wpAny_bind (wpAny_newTuple ?_)
 have hsz:h₅.objs.size=s.heap.objs.size:=by rw[hs₅.1,hs₄.1,hs₃.1,hs₂.1,hs₁.1]
 have hz₅:IsZip h₅ z TI' TO .ellipsis:=hs₅.extBut _ _ D.TOz.symm (hs₄.extBut _ _ D.i2z.symm (hs₃.extBut _ _ D.TOz.symm (hs₂.extBut _ _ D.i1z.symm hz₁)))
 have hk₅:∀ c o,c≠z→c≠TO→c≠i1→c≠i2→s.heap.get? c=some o→h₅.get? c=some o:=fun c o c1 c2 c3 c4 e =>
  hs₅.extBut _ _ c2 (hs₄.extBut _ _ c4 (hs₃.extBut _ _ c2 (hs₂.extBut _ _ c3 (hs₁.extBut _ _ c1 e))))
 have h1₅:h₅.IsTupleIter i1 l1 (k1+1):=((h1₂.extBut hs₃.extBut D.TOi1.symm).extBut hs₄.extBut D.i12).extBut hs₅.extBut D.TOi1.symm
 have h2₅:h₅.IsTupleIter i2 l2 (k2+1):=h2₄.extBut hs₅.extBut D.TOi2.symm
 have hzlt:z < h₅.objs.size:=Heap.lt_size hz₅
 show wpAny _ _ (Builtin.SmallTypes.ownedTupleHandOut (.ref z) (.ref h₅.objs.size) >>= _) _ _ _
 refine wpAny_bind ?_
 unfold Builtin.SmallTypes.ownedTupleHandOut
 have hz₆:IsZip (h₅.push { cls:=.type "tuple",data:=.seq #[x,y] }) z TI' TO .ellipsis:=Heap.get?_push_of_some _ hz₅
 refine wpAny_bind (wpAny_setField_rec hz₆ (by simp) fun h₇ hz₇ hs₇=>?_)
 replace hz₇:IsZip h₇ z TI' TO (rawInt h₅.objs.size):=hz₇
 refine wpAny_setField_rec hz₇ (by simp) fun h₈ hz₈ hs₈=>?_
 replace hz₈:IsZip h₈ z TI' TO (rawInt h₅.objs.size):=hz₈
 have up:∀ c o,c≠z→h₅.get? c=some o→h₈.get? c=some o:=fun c o c1 e=>hs₈.extBut _ _ c1 (hs₇.extBut _ _ c1 (Heap.get?_push_of_some _ e))
 have hT₈:IsPair h₈ h₅.objs.size x y:=hs₈.extBut _ _ (Nat.ne_of_gt hzlt) (hs₇.extBut _ _ (Nat.ne_of_gt hzlt) (Heap.get?_push_size _ rfl))
 have hz8:h₈.objs.size=h₅.objs.size+1:=by rw[hs₈.1,hs₇.1,Heap.size_push]
 rw[hsz]at hz₈ hT₈ hz8
 refine wpAny_pure ⟨_,rfl,?_⟩
 show Q (.ref h₅.objs.size) _
 rw[hsz]
 exact hQ h₈ hz₈ (up _ _ D.TOz hTO₅) (h1₅.at fun o e=>up _ o D.i1z e) (h2₅.at fun o e=>up _ o D.i2z e) hT₈ hz8 fun c o c1 c2 c3 c4 e=>up c o c1 (hk₅ c o c1 c2 c3 c4 e)
theorem zkb {z TI' TO i1 i2 l1 l2:Addr} {k1 k2:Nat} {xs ys:Array Value} {a b:Value} {Q:Fin→Shared→Prop} (hh:A.handled=none) (D:ZipApart z TI' TO i1 i2 l1 l2)
  (hz:IsZip s.heap z TI' TO .none) (hTI:IsPair s.heap TI' (.ref i1) (.ref i2)) (hTO:IsPair s.heap TO a b) (h1:TuI s.heap i1 l1 k1 xs) (h2:TuI s.heap i2 l2 k2 ys) (hend:xs[k1]?=none∨ys[k2]?=none)
  (hE:∀ h' e,(∀ c o,c≠z→c≠TO→c≠i1→c≠i2→s.heap.get? c=some o→h'.get? c=some o)→(∃ o,h'.get? e=some o∧o.cls=.type "StopIteration")→E (.ref e) { s with heap:=h' }) :
  wpAny (model prog w) A (Builtin.«zip.__next__» ⟨[.ref z],[]⟩) Q E s:=by
 show wpAny _ _ (field (.ref z) 2 >>= _) _ _ _
 refine wpAny_bind (wpAny_field hz rfl (x:=.bool false) rfl ?_)
 show wpAny _ _ (field (.ref z) 3 >>= _) _ _ _
 refine wpAny_bind (wpAny_field hz rfl (x:=.ref TI') rfl ?_)
 refine wpAny_bind (wpAny_seqItems hTI rfl ?_)
 show wpAny _ _ (Builtin.SmallTypes.ownedTupleIsFree (.ref z) >>= _) _ _ _
 refine wpAny_bind ?_
 unfold Builtin.SmallTypes.ownedTupleIsFree
 refine wpAny_bind (wpAny_field hz rfl (x:=.none) rfl (wpAny_pure ?_))
 simp only[if_true]
 refine wpAny_bind (wpAny_rule ?_)
 refine wpAny_bind (wpAny_field hz rfl (x:=.ref TO) rfl ?_)
 refine wpAny_bind (wpAny_setField_rec hz (by simp) fun h₁ hz₁ hs₁=>?_)
 replace hz₁:IsZip h₁ z TI' TO .ellipsis:=hz₁
 refine wpAny_bind ?_
 simp only[List.zipIdx_cons,List.zipIdx_nil,List.forIn_cons,List.forIn_nil]
 refine wpAny_bind (wpAny_bind (wpAny_onRaise ?_))
 show wpAny _ _ (Builtin.SmallTypes.nextOf (.ref i1) >>= _) _ _ _
 have a1:=h1.ext hs₁.extBut D.i1z D.l1z
 cases hx:xs[k1]? with
 | none =>
  refine wpAny_bind (zc6 hh a1.1 a1.2 hx fun h₂ e hs₂ he=>?_)
  obtain⟨oe,hoe,hce⟩:=he
  have hz₂:IsZip h₂ z TI' TO .ellipsis:=hs₂ _ _ D.i1z.symm hz₁
  have hez:e≠z:=fun x=>by subst x;rw[hz₂]at hoe;cases hoe;simp at hce
  refine wpAny_setField_rec hz₂ (by simp) fun h₃ _ hs₃=>hE h₃ e (fun c o c1 _ c3 _ x=>hs₃.extBut _ _ c1 (hs₂ _ _ c3 (hs₁.extBut _ _ c1 x))) ⟨oe,hs₃.extBut _ _ hez hoe,hce⟩
 | some x =>
  have hy:ys[k2]?=none:=by rcases hend with h | h;rw[hx]at h;cases h;exact h
  refine wpAny_bind (zcT a1.1 a1.2 hx fun h₂ h1₂ hs₂=>wpAny_pure ?_)
  have hTO₂:IsPair h₂ TO a b:=hs₂.extBut _ _ D.TOi1 (hs₁.extBut _ _ D.TOz hTO)
  refine wpAny_bind (wpAny_seqItems hTO₂ rfl ?_)
  refine wpAny_bind (wpAny_updateSeq_pair hTO₂ fun h₃ hTO₃ hs₃=>?_)
  refine wpAny_bind (wpAny_letGo (wpAny_pure ?_))
  refine wpAny_bind (wpAny_bind (wpAny_onRaise ?_))
  show wpAny _ _ (Builtin.SmallTypes.nextOf (.ref i2) >>= _) _ _ _
  have a2:=((h2.ext hs₁.extBut D.i2z D.l2z).ext hs₂.extBut D.i12.symm D.l2i1).ext hs₃.extBut D.TOi2.symm D.l2TO
  refine wpAny_bind (zc6 hh a2.1 a2.2 hy fun h₄ e hs₄ he=>?_)
  obtain⟨oe,hoe,hce⟩:=he
  have hz₄:IsZip h₄ z TI' TO .ellipsis:=hs₄ _ _ D.i2z.symm (hs₃.extBut _ _ D.TOz.symm (hs₂.extBut _ _ D.i1z.symm hz₁))
  have hez:e≠z:=fun x=>by subst x;rw[hz₄]at hoe;cases hoe;simp at hce
  refine wpAny_setField_rec hz₄ (by simp) fun h₅ _ hs₅=>hE h₅ e (fun c o c1 c2 c3 c4 x=>hs₅.extBut _ _ c1 (hs₄ _ _ c4 (hs₃.extBut _ _ c2 (hs₂.extBut _ _ c3 (hs₁.extBut _ _ c1 x))))) ⟨oe,hs₅.extBut _ _ hez hoe,hce⟩
theorem zhQ {z TI' TO i1 i2 l1 l2:Addr} {k1 k2:Nat} {xs ys:Array Value} {x y a b:Value} {Q:Option Value→Shared→Prop} (D:ZipApart z TI' TO i1 i2 l1 l2)
  (hz:IsZip s.heap z TI' TO .none) (hTI:IsPair s.heap TI' (.ref i1) (.ref i2)) (hTO:IsPair s.heap TO a b) (h1:TuI s.heap i1 l1 k1 xs) (h2:TuI s.heap i2 l2 k2 ys) (hx:xs[k1]?=some x) (hy:ys[k2]?=some y)
  (hQ:∀ h',IsZip h' z TI' TO (rawInt s.heap.objs.size)→IsPair h' TO x y→h'.IsTupleIter i1 l1 (k1+1)→h'.IsTupleIter i2 l2 (k2+1)→IsPair h' s.heap.objs.size x y→h'.objs.size=s.heap.objs.size+1 →
   (∀ c o,c≠z→c≠TO→c≠i1→c≠i2→s.heap.get? c=some o→h'.get? c=some o)→Q (some (.ref s.heap.objs.size)) { s with heap:=h' }) :
  wpAny (model prog w) A (pyNext (.ref z)) Q E s:=by
 have hT:s.TypeIs (.ref z) "zip":=⟨_,hz,rfl⟩
 unfold pyNext
 exact wpAny_bind (wpAny_attempt (wpAny_callSpecial?_slot (name:=Str.ofString "__next__") hT F.slot_zip_next
  (wpAny_call_entry F.slot_zip_next hT F.entry_zip_next (zjw D hz hTI hTO h1 h2 hx hy fun h' a1 a2 a3 a4 a5 a6 a7=>wpAny_pure (hQ h' a1 a2 a3 a4 a5 a6 a7)) (F.args_zip_next_1 _))))
theorem zgf {z TI' TO i1 i2 l1 l2:Addr} {k1 k2:Nat} {xs ys:Array Value} {a b:Value} {Q:Option Value→Shared→Prop} (hh:A.handled=none) (D:ZipApart z TI' TO i1 i2 l1 l2)
  (hz:IsZip s.heap z TI' TO .none) (hTI:IsPair s.heap TI' (.ref i1) (.ref i2)) (hTO:IsPair s.heap TO a b) (h1:TuI s.heap i1 l1 k1 xs) (h2:TuI s.heap i2 l2 k2 ys) (hend:xs[k1]?=none∨ys[k2]?=none)
  (hQ:∀ h',(∀ c o,c≠z→c≠TO→c≠i1→c≠i2→s.heap.get? c=some o→h'.get? c=some o)→Q none { s with heap:=h' }):wpAny (model prog w) A (pyNext (.ref z)) Q E s:=by
 have hT:s.TypeIs (.ref z) "zip":=⟨_,hz,rfl⟩
 unfold pyNext
 refine wpAny_bind (wpAny_attempt (wpAny_callSpecial?_slot (name:=Str.ofString "__next__") hT F.slot_zip_next
  (wpAny_call_entry F.slot_zip_next hT F.entry_zip_next (zkb hh D hz hTI hTO h1 h2 hend fun h' e hk he=>?_) (F.args_zip_next_1 _))))
 obtain⟨o,ho,hc⟩:=he
 refine wpAny_bind (wpAny_isInstance (T:="StopIteration") (b:=true) ⟨o,ho,hc⟩ isSubtype_stop ?_)
 exact wpAny_pure (hQ _ hk)
end
abbrev zpT1 (h:Heap) (l1:Addr):Heap:=h.push { cls:=.type "tuple_iterator",data:=.fields #[.ref l1,.int 0 0] }
abbrev zpT2 (h:Heap) (l1 l2:Addr):Heap:=(zpT1 h l1).push { cls:=.type "tuple_iterator",data:=.fields #[.ref l2,.int 0 0] }
abbrev zpT3 (h:Heap) (l1 l2:Addr):Heap:=(zpT2 h l1 l2).push { cls:=.type "tuple",data:=.seq #[.ref h.objs.size,.ref (zpT1 h l1).objs.size] }
abbrev zpT4 (h:Heap) (l1 l2:Addr):Heap:=(zpT3 h l1 l2).push { cls:=.type "tuple",data:=.seq #[.none,.none] }
abbrev zeS (h:Heap) (l1 l2:Addr):Heap:=(zpT4 h l1 l2).push { cls:=.type "zip",data:=.fields #[.none,.bool false,.bool false,.ref (zpT2 h l1 l2).objs.size,.ref (zpT3 h l1 l2).objs.size] }
theorem ziM (l1 l2:Addr) (xs ys:Array Value) :
  Meets (Builtin.«zip.__new__» ⟨[.type "zip",.ref l1,.ref l2],[]⟩) (fun _ R s=>s.heap.IsTuple l1 xs∧s.heap.IsTuple l2 ys∧R (.ok (.ret (.ref (zpT4 s.heap l1 l2).objs.size))) { s with heap:=zeS s.heap l1 l2 }) :=
 .of_wp fun prog w A R s h=>by
  obtain⟨hp,g,d,tk,os⟩:=s;obtain⟨hl1,hl2,h⟩:=h
  have hsub:=sub_zip
  have hL1:Heap.IsTuple (Shared.heap ⟨hp,g,d,tk,os⟩) l1 xs:=hl1
  have hL2:Heap.IsTuple (Shared.heap ⟨hp.push { cls:=.type "tuple_iterator",data:=.fields #[.ref l1,.int 0 0] },g,d,tk,os⟩) l2 ys:=Heap.IsTuple.push hl2 _
  wp_walk using wpAny_pyIter_tuple hL1,wpAny_pyIter_tuple hL2
  exact⟨_,rfl,h⟩
section
variable {prog:Program} {w:World} {A:Around} {E:Value→Shared→Prop} {s:Shared}
theorem zj4 {l1 l2:Addr} {xs ys:Array Value} {Q:Value→Shared→Prop} (hl1:s.heap.IsTuple l1 xs) (hl2:s.heap.IsTuple l2 ys)
  (h:∀ h',IsZip h' (s.heap.objs.size+4) (s.heap.objs.size+2) (s.heap.objs.size+3) .none→IsPair h' (s.heap.objs.size+2) (.ref s.heap.objs.size) (.ref (s.heap.objs.size+1)) →
   IsPair h' (s.heap.objs.size+3) .none .none→h'.IsTupleIter s.heap.objs.size l1 0→h'.IsTupleIter (s.heap.objs.size+1) l2 0→h'.objs.size=s.heap.objs.size+5 →
   (∀ c o,s.heap.get? c=some o→h'.get? c=some o)→Q (.ref (s.heap.objs.size+4)) { s with heap:=h' }) :
  wpAny (model prog w) A (call (.type "zip") [.ref l1,.ref l2]) Q E s:=by
 refine callType_new F.called_zip (by decide) (F.typeCall_zip_2 _ _) (F.newCall_zip_2 _ _) (fun obj=>F.args_object_init_3 obj _ _) F.entry_zip_new (ziM l1 l2 xs ys) ⟨hl1,hl2,?_⟩
 have z1:(zpT1 s.heap l1).objs.size=s.heap.objs.size+1:=Heap.size_push ..
 have z2:(zpT2 s.heap l1 l2).objs.size=s.heap.objs.size+2:=by rw[Heap.size_push,z1]
 have z3:(zpT3 s.heap l1 l2).objs.size=s.heap.objs.size+3:=by rw[Heap.size_push,z2]
 have z4:(zpT4 s.heap l1 l2).objs.size=s.heap.objs.size+4:=by rw[Heap.size_push,z3]
 have z5:(zeS s.heap l1 l2).objs.size=s.heap.objs.size+5:=by rw[Heap.size_push,z4]
 have g5:(zeS s.heap l1 l2).get? (zpT4 s.heap l1 l2).objs.size=some _:=Heap.get?_push_size _ rfl
 have g4:(zeS s.heap l1 l2).get? (zpT3 s.heap l1 l2).objs.size=some _:=Heap.get?_push_of_some _ (Heap.get?_push_size _ rfl)
 have g3:(zeS s.heap l1 l2).get? (zpT2 s.heap l1 l2).objs.size=some _:=Heap.get?_push_of_some _ (Heap.get?_push_of_some _ (Heap.get?_push_size _ rfl))
 have g2:(zeS s.heap l1 l2).get? (zpT1 s.heap l1).objs.size=some _:=Heap.get?_push_of_some _ (Heap.get?_push_of_some _ (Heap.get?_push_of_some _ (Heap.get?_push_size _ rfl)))
 have g1:(zeS s.heap l1 l2).get? s.heap.objs.size=some _:=Heap.get?_push_of_some _ (Heap.get?_push_of_some _ (Heap.get?_push_of_some _ (Heap.get?_push_of_some _ (Heap.get?_push_size _ rfl))))
 have kk:∀ c o,s.heap.get? c=some o→(zeS s.heap l1 l2).get? c=some o:=fun c o e=>Heap.get?_push_of_some _ (Heap.get?_push_of_some _ (Heap.get?_push_of_some _ (Heap.get?_push_of_some _ (Heap.get?_push_of_some _ e))))
 show _∧_
 rw[z2,z3,z4]at g5
 rw[z1,z2]at g3
 rw[z3]at g4
 rw[z1]at g2
 rw[z4]
 exact⟨⟨_,g5,rfl⟩,h _ g5 g3 g4 ⟨_,g1,rfl,rfl⟩ ⟨_,g2,rfl,rfl⟩ z5 kk⟩
end
end L2
namespace L2
open PySem PySem.Spec PyProof.Rows
section
variable {X:Cx}
theorem zh7 {e:Expr} {f:Str} {pos:Pos} {ta:TE} (K:W.Frag) (hK:X.K=K) (he:PE X e ta) (hb:attributeBase e f X.env (eval e X.env)=eval e X.env):PE X (.Attribute e f pos) (tFld K ta f):=by
 subst hK
 exact zaj he hb
end
end L2
namespace L2
open PySem PySem.Spec PyProof.Rows
section
variable {X:Cx}
theorem zca:zbI X (.builtin "sorted") (fun xs H Q=>∃(p:Addr) (ns:List Int),xs=[.ref p]∧SqL X.K H p (ns.map V.int)∧ns.length < 64∧∀(l:Addr) (ms:List Int),H l=none→ms.Perm ns→ms.Pairwise (·≤·)→Q (.ref l) (upd H l (.lst (ms.map V.int)))):=by
 intro pins s σ H xs us Q I r h
 obtain⟨p,ns,rfl,hq,h64,q⟩:=h
 obtain⟨u,rfl,rx⟩:=zdp r
 cases rx
 obtain⟨its,r',pl,hz⟩:=I.list hq
 have hi:=zeR r'
 have hlen:=r'.length
 rw[List.length_map]at hlen
 refine sorted_ints pl.isList hi (by omega) fun out ms a1 a2 a3=>?_
 obtain⟨e,he⟩:=sortedAll_at s.heap its out
 have ml:=a2.length_eq
 exact⟨.ref (s.heap.objs.size+1),_,I.laid (t':=s.toks) (fun b o hb=>sortedAll_old hb) (Nat.le_succ _) (show zaz X.prog X.w _ _ _ (.lst (ms.map V.int)) from⟨Nat.le_of_lt (zaY (by rw[List.length_map];omega)),out.toList,e,zd0 a1,he⟩),rfl,q _ ms (I.hok.fresh (Nat.le_succ _)) a2 a3⟩
end
end L2
namespace L2
open PySem PySem.Spec PyProof.Rows
section
variable {prog:Program} {w:World} {A:Around} {E:Value→Shared→Prop} {s:Shared}
end
end L2
namespace L2
open PySem PySem.Spec PyProof.Rows
def tThaw (X:Cx) (ts:TS):TS:=fun D σ H=>ts { D with nx:=fun σ' H1=>∃ d o kvs,H1 d=some (.frz o (.dK kvs))∧(∀ o u,X.H₀ d≠some (.frz o u))∧D.nx σ' (upd H1 d (.dK kvs)) } σ H
theorem zk8 {X:Cx} {st:Stmt} {ts:TS} (h:PS X st ts):PS X st (tThaw X ts):=by
 intro pins s σ H D I hw
 refine thn (h pins s σ H _ I hw) fun fl s1 q=>?_
 cases fl with
 | next =>
  obtain⟨σ',H1,I1,d,o,kvs,h1,h2,q⟩:=q
  exact⟨σ',_,I1.thaw h1 h2,q⟩
 | _=>exact q
end L2
namespace L2
open PySem PySem.Spec PyProof.Rows
section
variable {prog:Program} {w:World} {A:Around} {E:Value→Shared→Prop} {s:Shared}
theorem zkI {t b:Addr} {vs ws:List Value} {Q:Value→Shared→Prop} (ht:IsTup s.heap t vs.toArray) (hb:IsTup s.heap b ws.toArray) (hv:vs=[]) (h:Q (.ref b) s):wpAny (model prog w) A (binaryOp .Add (.ref t) (.ref b)) Q E s:=by
 obtain⟨⟨cls,dd,data,sl⟩,ho,hc,n,hd⟩:=id ht
 obtain⟨⟨cls2,dd2,data2,sl2⟩,ho2,hc2,n2,hd2⟩:=id hb
 simp only at hc hd hc2 hd2
 subst hc hd hc2 hd2
 exact concat_meets ⟨_,ho,rfl⟩ ⟨_,ho2,rfl⟩ noFill_tuple_add seq_tuple_add PySem.F.slot_tuple_add PySem.F.entry_tuple_add (PySem.F.args_tuple_add_2 _ _)
   (tuple_addW0 t b vs.toArray ws.toArray n n2 dd dd2 sl sl2 (by simp [hv])) ⟨ho,ho2,h⟩
end
def rCatA (K:W.Frag):R2:=fun x y H Q=>∃ a b xs ys,x=.ref a∧y=.ref b∧SqT K H a xs∧SqT K H b ys∧xs.length+ys.length≤sizeLine∧∀(H':Hp) (p:Addr),ao H H'→SqT K H' p (xs++ys)→Q (.ref p) H'
theorem zia {X:Cx}:OpR X (binaryOp .Add) (rCatA X.K):=by
 intro pins s σ H x y v u Q I rx ry h
 obtain⟨a,b,xs,ys,e1,e2,ha,hb,hz,q⟩:=h
 by_cases hx:xs=[]
 ·subst e1 e2
  cases rx
  cases ry
  obtain⟨its,r1,p1,_⟩:=I.tuple ha
  obtain⟨its2,r2,p2,_⟩:=I.tuple hb
  refine zkI p1 p2 (r1.nil_iff.mpr hx) ⟨.ref b,H,I,rfl,q H b (ao.refl _) ?_⟩
  rw[hx]
  exact hb
 ·refine zlc pins s σ H x y v u Q I rx ry ⟨a,b,xs,ys,e1,e2,ha,hb,hx,hz,fun z=>?_,fun z p hp=>q _ p (ai hp _) (SqT.of ad)⟩
  refine q H a (ao.refl _) ?_
  rw[z,List.append_nil]
  exact ha
end L2
namespace L2
open PySem PySem.Spec PyProof.Rows
section
variable {X:Cx}
end
end L2
namespace L2
open PySem PySem.Spec PyProof.Rows
section
variable {P:Program} {w:World} {H H':Hp} {h h' B:Heap} {a:Addr} {o:HO}
theorem zaz.there (x:zaz P w H h a o):∃ ob,h.get? a=some ob:=by
 cases o with
 | lst xs=>obtain⟨_,_,_,_,q⟩:=x;exact⟨_,q⟩
 | tup xs=>obtain⟨_,_,_,ob,q,_⟩:=x;exact⟨_,q⟩
 | dK kvs=>obtain⟨_,_,_,_,o,_,_,q,_⟩:=x;exact⟨_,q⟩
 | dT kvs=>obtain⟨_,_,_,_,o,_,_,q,_⟩:=x;exact⟨_,q⟩
 | set S n=>obtain⟨o,_,_,_,q,_⟩:=x;exact⟨_,q⟩
 | ins C dx fs=>obtain⟨_,_,_,q,_⟩:=x;exact⟨_,q⟩
 | own y=>exact x
 | xd fs=>obtain⟨_,⟨_,_,_,q,_⟩,_⟩:=x;exact⟨_,q⟩
 | rng lo hi=>obtain⟨_,_,_,q⟩:=x;exact⟨_,q⟩
 | frz ob u=>exact⟨_,x.1⟩
 | tbl ps=>exact⟨_,(show h.get? a=some _ from x)⟩
 | met f y=>exact⟨_,(show h.get? a=some _ from x)⟩
 | ext φ=>exact x.2.1
def Trk (H:Hp) (h B:Heap):Prop:=∀ b ob,H b≠none→h.get? b=some ob→B.get? b=some ob
def Old (fs:List Addr) (H:Hp) (h B:Heap):Prop:=∀ b ob,h.get? b=some ob→b∉fs→∃ ob',B.get? b=some ob'∧(H b=none→ob'=ob)
theorem HOk.stays (ok:HOk P w H h) (t:Trk H h B) (k:B.StaysIn h'):HOk P w H h':=fun a o e =>
 (ok a o e).stay (fun b u hb q=>k b u (t b u (hb.elim (fun z=>by rw[z,e];exact nofun) fun z=>by rw[z];exact nofun) q)) (fun _ q=>q) fun _ _ q=>q
theorem Trk.stays (ok:HOk P w H h) (t:Trk H h B) (k:B.StaysIn h'):Trk H h' B:=fun b ob hb e=>by
 cases q:H b with
 | none=>exact absurd q hb
 | some u =>
  obtain⟨ob1,e1⟩:=(ok b u q).there
  have z:=t b ob1 hb e1
  have z2:=k b ob1 z
  rw[e]at z2
  cases z2
  exact z
end
def CX1 (P:Program) (w:World):CXT:=fun outer H s E e s'=>∃(ea C:Addr) (H':Hp) (B:Heap) (a0:Value),e=.ref ea∧s'.os=s.os∧AllBare s'.gens∧Un (frs outer) [] H H' s.heap s'.heap∧HOk P w H' s'.heap ∧
 Heap.FlyingW B outer ea (.ref C) a0 s'.heap∧Trk H' s'.heap B∧Old (frs outer) H s.heap B∧E (.ref C) none H'
structure Xe1 (X:Cx) (E:XK):Prop where
 xe:X.xe=fun e s'=>wpAny (model X.prog X.w) X.A (leaving X.env e) (fun _ s''=>CX1 X.prog X.w X.outer X.H₀ X.s₀ E e s'') (fun e' s''=>CX1 X.prog X.w X.outer X.H₀ X.s₀ E e' s'') s'
 stk:X.stack=X.env :: X.outer
 fr:X.env.frame=some X.env.locals
 ex:X.ex=[]
section
variable {X:Cx} {E:XK} {pins:List (Addr × Obj)} {σ:St} {H H':Hp} {s s':Shared} {B:Heap} {ea C:Addr} {a0:Value}
theorem zio (hx:Xe1 X E) (I:Inv X pins σ H s) {s'':Shared} (os:s''.os=s.os) (bare:AllBare s''.gens) (u:Un (frs X.stack) [] H H' s.heap s'.heap) (ok:HOk X.prog X.w H' s'.heap)
  (fl:Heap.FlyingW B X.outer ea (.ref C) a0 s''.heap) (sm:s'.heap.UpToSlots s''.heap) (trk:Trk H' s'.heap B) (old:Old (frs X.stack) H s.heap B) (hE:E (.ref C) none H') :
  CX1 X.prog X.w X.outer X.H₀ X.s₀ E (.ref ea) s'':=by
 have hfs:frs X.stack=X.env.locals :: X.fs:=by
  rw[hx.stk]
  unfold frs
  rw[List.filterMap_cons,hx.fr]
  rfl
 have nx:∀ b,b∉X.ex:=fun b hb=>by rw[hx.ex]at hb;cases hb
 have nf:∀ b ob,X.s₀.heap.get? b=some ob→b∉X.fs→b∉frs X.stack:=fun b ob e hb z=>by
  rw[hfs]at z
  rcases List.mem_cons.mp z with z | z
  ·exact absurd (Nat.lt_of_lt_of_le (Heap.lt_size e) I.ok.above) (by rw[z];exact Nat.lt_irrefl _)
  ·exact hb z
 have st:B.StaysIn s''.heap:=fl.1
 have U:=I.base
 have old':Old X.fs X.H₀ X.s₀.heap B:=fun b ob e hb=>by
  obtain⟨o1,e1⟩:=U.there b ob e (nx b)
  obtain⟨o',eB,hB⟩:=old b o1 e1 (nf b ob e hb)
  refine⟨o',eB,fun n=>?_⟩
  have k:=U.keep b ob e n hb (nx b)
  rw[e1]at k
  cases k
  exact hB (U.free b ob e n (nx b))
 have slot:∀ b ob,X.s₀.heap.get? b=some ob→X.H₀ b=none→b∈X.fs→∃ sl,s''.heap.get? b=some { ob with slots:=sl }:=fun b ob e n hb=>by
  obtain⟨sl,k⟩:=U.slot b ob e n hb (nx b)
  obtain⟨sl2,k2⟩:=u.any k (U.free b ob e n (nx b)) (by simp)
  obtain⟨_,o3,e3,hd⟩:=I.ok.funs.mem hb
  rw[e]at e3
  cases e3
  obtain⟨sl3,k3⟩:=sm b _ k2 fun vs q=>hd vs q
  exact⟨sl3,k3⟩
 refine⟨ea,C,H',B,a0,rfl,os.trans I.os,bare,⟨fun b ob e n hb _=>?_,fun b ob e n hb _=>slot b ob e n hb,fun b ob e n _=>?_,fun b ob e _=>?_,fun b xs q=>u.tups b xs (U.tups b xs q),fun b ob xs q=>u.frzs b ob xs (U.frzs b ob xs q),fun b ps q=>?_⟩,
  ok.stays trk st,fl,Trk.stays ok trk st,old',hE⟩
 ·obtain⟨o',eB,hB⟩:=old' b ob e hb
  rw[hB n]at eB
  exact st b ob eB
 ·obtain⟨o1,e1⟩:=U.there b ob e (nx b)
  exact u.free b o1 e1 (U.free b ob e n (nx b)) (by simp)
 ·by_cases hb:b∈X.fs
  ·obtain⟨sl,k⟩:=slot b ob e (I.ok.frf b hb) hb
   exact⟨_,k⟩
  ·obtain⟨o',eB,_⟩:=old' b ob e hb
   exact⟨o',st b o' eB⟩
 ·obtain⟨m1,e1⟩:=U.tbls b ps q
  obtain⟨m2,e2⟩:=u.tbls b _ e1
  exact⟨m1++m2,by rw[e2,Array.append_assoc]⟩
theorem zcg (hx:Xe1 X E):zde (CX1 X.prog X.w) X E:=by
 intro pins σ H s e s' I h
 obtain⟨ea,C,H',B,a0,rfl,os,bare,u,ok,fl,trk,old,hE⟩:=h
 rw[hx.xe]
 have fl2:=fl
 rw[hx.stk]at fl2
 have hfr:X.A.frames=some (X.env :: X.outer):=by rw[I.ok.frames,hx.stk]
 exact wpAny_leaves_onW hfr hx.fr fl2 fun h' fl' sm=>zio hx I os bare u ok fl' sm trk old hE
theorem zkO {h':Heap} {vs:List Value} (hx:Xe1 X E) (I:Inv X pins σ H s) (m:Heap.MadeExcOf s.heap h' ea (.ref C) vs) (hE:E (.ref C) none H):X.xe (.ref ea) { s with heap:=h' }:=by
 rw[hx.xe]
 have hl:s.heap.FunFrames (W.hideAll s.heap (frs X.stack)) X.stack:=W.funFrames_hide I.stack fun env he a ha=>List.mem_filterMap.mpr ⟨env,he,ha⟩
 have hl2:s.heap.FunFrames (W.hideAll s.heap (frs X.stack)) (X.env :: X.outer):=by
  have z:=hl
  rw[show X.stack=X.env :: X.outer from hx.stk]at z ⊢
  exact z
 have hfr:X.A.frames=some (X.env :: X.outer):=by rw[I.ok.frames,hx.stk]
 refine wpAny_leaves_madeW (base:=W.hideAll s.heap (frs X.stack)) (h:=s.heap) hfr hx.fr (fun b ob q=>W.of_hideAll _ q) hl2 m fun h'' t fl _ _ sm=>?_
 refine zio (s':={ s with heap:=h' }) hx I rfl I.bare (Un.kept m.keeps) (I.hok.kept m.keeps) fl sm (fun b ob hb q=>?_) (fun b ob q hb=>⟨ob,W.hideAll_get _ q hb,fun _=>rfl⟩) hE
 cases z:H b with
 | none=>exact absurd z hb
 | some v =>
  obtain⟨o1,e1⟩:=(I.hok b v z).there
  have e2:=m.keeps b o1 e1
  have q':h'.get? b=some ob:=q
  rw[q']at e2
  cases e2
  exact W.hideAll_get _ e1 fun y=>hb (I.stkFree b y)
theorem own_at {K:W.Frag} {hp:Heap} {bmB:List Value} {newId:String} (XI:K.In hp) (q:W.excIn K C bmB newId=true) :
  ∃ bm N nm qn bs hdct sn sub ab col dd k0 k1 k2 k3 k5 mN,hp.get? C=some (excClassObj nm qn C N bs bm hdct sn sub ab col dd k0 k1 k2 k3 k5 newId)∧hp.Ns N mN∧mN "__init__"=none∧OwnTail hp bmB bm:=by
 unfold W.excIn at q
 split at q
 ·rename_i d1 c1 l1 hC1
  split at q
  ·rename_i C2 bm2 y0 y1 y2 y3 n2 y5 hm2 hs2
   simp only[Bool.and_eq_true,beq_iff_eq,Bool.not_eq_true']at q
   obtain⟨⟨⟨⟨⟨rfl,rfl⟩,hdl⟩,htl⟩,hno⟩,hin⟩:=q
   obtain⟨nm,bs,mro,ns,qn,hd,sn,sub,ab,col,del⟩:=c1
   dsimp only at hm2 hdl hno hin
   subst hm2 hdl
   have hsl:l1=#[y0,y1,y2,y3,some (.builtin n2),y5]:=by
    obtain⟨l⟩:=l1
    simp only at hs2
    rw[hs2]
   subst hsl
   exact⟨bm2,ns,nm,qn,bs,hd,sn,sub,ab,col,d1,y0,y1,y2,y3,y5,_,XI _ _ hC1,.of_isNs (W.isNs_of_in XI hno),W.nsMap_none_of_in XI hno hin,W.tail_of_in XI htl⟩
  ·cases q
 ·cases q
variable {e0:Expr} {zau:List Expr} {t:TA} {x:Str} {np cpos pos:Pos} {Bn newId initId:String} {bm:List Value}
def tRaise (E:XK) (C:Addr) (t:TA):TS:=fun _ σ H=>t σ H fun vs H1=>vs.length≤sizeLine∧E (.ref C) none H1
theorem zdP (hx:Xe1 X E) (hc:X.calm=true) (hg:Gl X x) (hm:X.mg x=some (.ref C)) (F:ExcBaseFacts Bn newId initId bm) (q:W.excIn X.K C bm newId=true) (ha:PA X (e0 :: zau) t)
  (hdb:(x == ("__debug__":Str))=false:=by decide) (hse:starEach (e0 :: zau) X.env=(false,eval e0 X.env) :: starEach zau X.env:=by rfl) (hpl:(backTo cpos (starEach zau X.env)).any (·.1)=false:=by rfl) :
  PS X (.Raise (some (.Call (.Name x np) (e0 :: zau) [] cpos)) none pos) (tRaise E C t):=by
 intro pins s σ H D I h
 obtain⟨tl,N,nm,qn,bs,hdct,sn,sub,ab,col,dd,k0,k1,k2,k3,k5,mN,hC,hN,hni,T⟩:=own_at (C:=C) I.mod.kin q
 refine wpAny_Raise_call_subT (C:=C) (nm:=nm) (q:=qn) (N:=N) (bs:=bs) (bm:=tl) (hdct:=hdct) (sn:=sn) (sub:=sub) (ab:=ab) (col:=col) (dd:=dd) (k0:=k0) (k1:=k1) (k2:=k2) (k3:=k3) (k5:=k5) F (mN:=mN)
  (T.hasType F.hasBase) (I.ok.hd hc) (by rw[hse];show(false||(backTo cpos (starEach zau X.env)).any (·.1))=false;rw[hpl];rfl) hni (zfr I hg hm ⟨rfl,?_⟩ hdb)
 have g:=ha cpos pins s σ H _ I h
 rw[hse]at g ⊢
 refine Calls.evalArgs_plain (wpAny_mono g (fun vs s2 ⟨ws,H2,I2,r2,hz,hE⟩=>?_) fun _ _ y=>y)
 exact⟨rfl,by rw[←r2.length];exact hz,I2.bk _ _ hC,hN.keeps I2.bk,T.keeps I2.bk,fun h' ea m=>zkO hx I2 m hE⟩
end
end L2
namespace L2
open PySem PySem.Spec PyProof.Rows
section
variable {X:Cx} {pins:List (Addr × Obj)} {σ:St} {H H':Hp} {s s':Shared} {B:Heap} {ea C:Addr} {a0:Value} {D:zcX} {f:Flow} {E1:Value→Shared→Prop}
end
end L2
namespace L2
open PySem PySem.Spec PyProof.Rows
section
variable {X:Cx} {pins:List (Addr × Obj)} {σ:St} {H H':Hp} {s s':Shared} {B:Heap} {ea C:Addr} {a0:Value} {D:zcX} {f:Flow}
end
end L2
namespace L2
open PySem PySem.Spec PyProof.Rows
section
variable {prog:Program} {w:World} {A:Around} {E:Value→Shared→Prop} {s:Shared} {T:String} {r d:Addr} {n:Nat} {P:Nat→Value→Prop} {OK:Heap→Prop}
theorem zhY {Q:List Value→Shared→Prop} (K:W.KdlSrc prog w T r d n P OK) (hh:A.handled=none) (hok:OK s.heap) (hn:n≤sizeLine)
  (hQ:∀(h':Heap) tk acc',(∀ b o,s.heap.get? b=some o→h'.get? b=some o)→s.heap.objs.size < h'.objs.size→ItemsOf P acc' n→Q acc'.toList { s with heap:=h',toks:=tk }) :
  wpAny (model prog w) A (collect (.ref r)) Q E s:=by
 unfold collect
 have hlt:=K.there _ hok
 have key:∀ R:Result→Shared→Prop,(∀ h' tk acc' c',(∀ b o,b≠s.heap.objs.size→(s.heap.push (seqObj "list" #[] 0)).get? b=some o→h'.get? b=some o)→h'.get? s.heap.objs.size=some { cls:=.type "list",dict:=none,data:=.seq acc' c',slots:=#[] }→ItemsOf P acc' n→R (.ok (.ret (.ref s.heap.objs.size))) { s with heap:=h',toks:=tk }) →
   codeAny (model prog w) A (.builtin "list.__iadd__" ⟨[.ref s.heap.objs.size,.ref r],[]⟩) R { s with heap:=s.heap.push (seqObj "list" #[] 0) }:=fun R hR=>by
  refine codeAny_builtin entry_list_iadd' ?_
  rw[Around.under_plainId PySem.F.plain_list_iadd _]
  show wpAny _ _ (Builtin.List.listExtendWith (.ref s.heap.objs.size) (.ref r) (.ref s.heap.objs.size)) _ _ { s with heap:=s.heap.push (seqObj "list" #[] 0) }
  exact W.kdl_extend (R:=R) (s:={ s with heap:=s.heap.push (seqObj "list" #[] 0) }) K hh (K.keep _ _ hok fun b _ o e=>Heap.get?_push_of_some _ e) _ (Nat.ne_of_gt hlt.1) (Nat.ne_of_gt hlt.2) _ 0 (Heap.get?_push_size _ rfl) hR hn
 refine wpAny_bind (wpAny_runValue (codeAny_builtin entry_proto_collect' ?_))
 show wpAny _ _ (do again (.builtin "list.__iadd__" ⟨[←newList [],.ref r],[]⟩)) _ _ s
 refine wpAny_bind (wpAny_newList (wpAny_pure ⟨Code.quiet_builtin _ (by decide +kernel),key _ fun h' tk acc' c' hk hS' hacc=>?_⟩))
 show wpAny (model prog w) A (do
   let o ←load s.heap.objs.size
   match o.data with
   | .seq xs _=>pure xs.toList
   | _=>unsupported "internal:collect") Q E _
 refine wpAny_bind (wpAny_load hS' ?_)
 show wpAny _ _ (pure acc'.toList) Q E _
 exact wpAny_pure (hQ h' tk acc' (fun b o e=>hk b o (Nat.ne_of_lt (Heap.lt_size e)) (Heap.get?_push_of_some _ e)) (Heap.lt_size hS') hacc)
theorem ziD {Q:Value→Shared→Prop} (K:W.KdlSrc prog w T r d n P OK) (hh:A.handled=none) (hok:OK s.heap) (hn:n < 64)
  (hI:∀ acc:Array Value,ItemsOf P acc n→∃ ns,IntsAre acc.toList ns)
  (hQ:∀(h':Heap) (tk:Nat) (acc out:Array Value) (ns ns':List Int) (e:Nat) (a:Addr),(∀ b o,s.heap.get? b=some o→h'.get? b=some o)→s.heap.objs.size≤a→h'.get? a=some (seqObj "list" out e)→ItemsOf P acc n→IntsAre acc.toList ns→IntsAre out.toList ns'→ns'.Perm ns→ns'.Pairwise (·≤·)→Q (.ref a) { s with heap:=h',toks:=tk }) :
  wpAny (model prog w) A (call (.builtin "sorted") [.ref r]) Q E s:=by
 refine Calls.call_function_entry kind_sorted plain_sorted entry_sorted (args_sorted1 _) ?_
 unfold Builtin.«sorted»
 refine wpAny_bind (m:=checkCount "sorted" 1 1 _) (wpAny_pure ?_)
 refine wpAny_bind (zhY K hh hok (Nat.le_trans (Nat.le_of_lt hn) (by decide)) fun h' tk acc kp hle hacc=>?_)
 have al:acc.toList.length=n:=by rw[Array.length_toList];exact hacc.1
 refine wpAny_bind (wpAny_newList (hsz:=by rw[al];exact Nat.le_trans (Nat.le_of_lt hn) (by decide)) ?_)
 obtain⟨ns,hns⟩:=hI acc hacc
 have hoL:(h'.push (seqObj "list" acc.toList.toArray 0)).get? h'.objs.size=some (seqObj "list" acc.toList.toArray 0):=Heap.get?_push_size _ rfl
 refine wpAny_bind (wpAny_holding (wpAny_call_entry slot_list_sort ⟨_,hoL,rfl⟩ entry_list_sort (list_sort_tree hoL hns (by omega) fun out ns' a1 a2 a3=>⟨_,rfl,?_⟩) (args_list_sort _)))
 obtain⟨e,he⟩:=sortedHeap_at (out:=out) hoL
 refine wpAny_pure ⟨_,rfl,hQ _ tk acc out ns ns' e _ (fun b o hb=>?_) (Nat.le_of_lt hle) he hacc hns a1 a2 a3⟩
 have hb':=kp b o hb
 have hlt:=Heap.lt_size hb'
 rw[sortedHeap_old (Nat.ne_of_lt hlt) (by rw[size_push'];exact Nat.lt_succ_of_lt hlt),Heap.get?_push_ne _ _ _ (Nat.ne_of_lt hlt)]
 exact hb'
end
section
variable {X:Cx}
theorem zfD:∀ {vs:List Value} {ns ms:List Int},IntsAre vs ns→IntsAre vs ms→ns=ms
 | _,_,_,.nil,.nil=>rfl
 | _,_,_,.cons n t a,.cons _ _ b=>by rw[zfD a b]
theorem zhO (hc:X.calm=true):zbI X (.builtin "sorted") (fun xs H Q=>∃(d:Addr) (kvs:List (Key × V)) (ns:List Int),xs=[.ref d]∧H d=some (.dK kvs)∧kvs.map (fun kv=>kV kv.1)=ns.map V.int∧ns.length < 64∧∀(l:Addr) (ms:List Int),H l=none→ms.Perm ns→ms.Pairwise (·≤·)→Q (.ref l) (upd H l (.lst (ms.map V.int)))):=by
 intro pins s σ H xs us Q I r h
 obtain⟨d,kvs,ns,rfl,hd,ek,h64,q⟩:=h
 obtain⟨u,rfl,rx⟩:=zdp r
 cases rx
 obtain⟨z1,sy1,vs1,rel1,dd1⟩:=zfi I.hok hd
 obtain⟨ep,da⟩:=dd1.dictAt
 have l1:=rel1.length
 have kl:kvs.length=ns.length:=by
  have:=congrArg List.length ek
  rw[List.length_map,List.length_map]at this
  exact this
 have items:∀ acc:Array Value,ItemsOf (fun i v=>∃ k x,vs1[i]?=some (k,x)∧zdt k v=true) acc vs1.length→aI (ns.map V.int) acc.toList:=fun acc its=>by
  have al:acc.toList.length=vs1.length:=by rw[Array.length_toList];exact its.1
  have hat:∀ j x,acc.toList[j]?=some x→∃ k y,vs1[j]?=some (k,y)∧zdt k x=true:=fun j x ej=>its.2 j x (by rw[←Array.getElem?_toList];exact ej)
  rw[←ek]
  clear its z1 l1 da dd1 q hd ek kl
  generalize acc.toList=L at al hat
  induction rel1 generalizing L with
  | nil =>
   match L,al with
   | [],_=>exact .nil
  | @cons p p' ps ps' a _ ih =>
   match L,al with
   | x :: L,al =>
    obtain⟨k,y,e1,e2⟩:=hat 0 x rfl
    cases e1
    refine .cons ?_ (ih L (by simpa using al) fun j x ej=>hat (j+1) x ej)
    have:=zid e2
    show aL (kV p.1) x
    rw[show p.1=k from a.1]
    exact this
 refine ziD (W.kdl_dict (d:=d) (kvs:=vs1) (ep:=ep) sy1) (I.ok.hd hc) da (by omega) (fun acc its=>⟨ns,zeR (items acc its)⟩) fun h' tk acc out ns1 ns' e a kp le ha its hi hi' pm so=>?_
 have en:ns1=ns:=zfD hi (zeR (items acc its))
 subst en
 have ml:=pm.length_eq
 exact⟨.ref a,_,I.laid (t':=tk) kp le (show zaz X.prog X.w _ h' _ (.lst (ns'.map V.int)) from⟨Nat.le_of_lt (zaY (by rw[List.length_map];omega)),out.toList,e,zd0 hi',by rw[Array.toArray_toList];exact ha⟩),rfl,q _ ns' (I.hok.fresh le) pm so⟩
def tD1 (tk tv:TE):TE:=fun σ H Q=>∀ d,H d=none→tk σ (upd H d (.dK [])) fun x H1=>tv σ H1 fun y H2=>∃ k,x=kV k∧H2 d=some (.dK [])∧Q (.ref d) (upd H2 d (.dK [(k,y)]))
theorem pe_d1 {ke ve:Expr} {pos:Pos} {tk tv:TE} (hk:PE X ke tk) (hv:PE X ve tv)
  (hsh:(evalEachOpt [some ke] X.env).zip ((evalEach [ve] X.env).map fun v=>do let x ←v;standAt pos;pure x)=([(eval ke X.env,do let x ←eval ve X.env;standAt pos;pure x)]:List (Sem Value × Sem Value)).map fun p=>(some p.1,p.2):=by rfl):PE X (.Dict [some ke] [ve] pos) (tD1 tk tv):=by
 intro pins s σ H Q I h
 refine wpAny_Dict_pairs (knd:=zap X.prog X.w) hsh (by simp) (by show 1≤15;decide) ?_
 have I0:=I.laid (a:=s.heap.objs.size) (o:=.dK []) (t':=s.toks) (fun _ _ q=>Heap.get?_push_of_some _ q) (Nat.le_refl _) (zhH s.heap I.big)
 have h0:=h _ (I.hok.fresh (Nat.le_refl _))
 refine evalPairs_cons (thn (hk pins _ σ _ _ I0 h0) fun kv s1 ⟨x,H1,I1,rx,q1⟩=>?_)
 refine wpAny_bind (thn (hv pins s1 σ H1 _ I1 q1) fun vv s2 ⟨y,H2,I2,ry,k,ex,hd,q2⟩=>wpAny_bind (wpAny_standAt (wpAny_pure (evalPairs_nil ?_))))
 subst ex
 obtain⟨z,sy,ws,rel,dd⟩:=zfi I2.hok hd
 cases rel
 refine⟨[(k,vv)],⟨zeD rx,rfl,True.intro⟩,dd,fun h' dd' sb=>?_⟩
 obtain⟨o,es,ep,g1,g2⟩:=id dd'
 exact⟨.ref _,_,zev I2 (by rw[hd];exact True.intro) sb ⟨_,g1⟩ (zhe (by show 1≤sizeLine;decide) sy (.cons ⟨rfl,ry⟩ .nil) dd'),rfl,q2⟩
end
end L2
namespace L2
open PySem PySem.Spec PyProof.Rows
section
variable {X:Cx}
def ziy:V→List V→Hp→VK→Prop:=fun x vs H Q=>∃(d:Addr) (k:Key) (v:V) (kvs:List (Key × V)),x=.ref d∧vs=[kV k,v]∧H d=some (.dK kvs)∧kvs.length < sizeLine ∧
 ((∃ u,zat kvs k=some u∧Q u H)∨(zat kvs k=none∧Q v (upd H d (.dK (zaw kvs k v)))))
theorem zlm:MtR X "dict.setdefault" ziy:=by
 intro pins s σ H x vs v us Q I rx rv h
 obtain⟨d,k,y,kvs,rfl,rfl,hd,hz,q⟩:=h
 cases rx
 cases rv with
 | cons rk t =>
 cases t with
 | @cons _ y' _ _ ry t =>
 cases t
 obtain⟨z,sy,ws,rel,dd⟩:=zfi I.hok hd
 have ll:ws.length≤sizeLine:=by rw[←rel.length];exact z
 have hv:=rel.val k
 refine call_meetsIn PySem.F.slot_dict_setdefault dd.typeIs PySem.F.entry_dict_setdefault (PySem.F.args_dict_setdefault_3 _ _ _) (kt_meets_setdefault (zap X.prog X.w) d (zeD rk) sy y') ⟨ws,dd,ll,fun u hu=>?_,fun hn h' dd' hs=>?_⟩
 ·rw[hu]at hv
  rcases q with ⟨u',q1,q2⟩ | ⟨q1,_⟩
  ·rw[q1]at hv
   exact⟨u',H,I.tok _,hv,q2⟩
  ·rw[q1]at hv
   exact hv.elim
 ·rw[hn]at hv
  rcases q with ⟨u',q1,q2⟩ | ⟨q1,q2⟩
  ·rw[q1]at hv
   exact hv.elim
  ·have he:∃ q,h'.get? d=some q:=let ⟨q,_,_,hq,_⟩:=dd';⟨q,hq⟩
   have hl:(zaw kvs k y).length≤sizeLine:=by have:=zcw kvs k y;omega
   exact⟨y,_,zev I (by rw[hd];exact True.intro) hs he (zhe hl sy (rel.put k ry) dd'),ry,q2⟩
def tSetK (to:TE) (t:TA):TE:=fun σ H Q=>to σ H fun x H1=>(∃ d kvs,x=.ref d∧H1 d=some (.dK kvs))∧t σ H1 fun xs H2=>ziy x xs H2 Q
theorem zh6 {o e:Expr} {es:List Expr} {to:TE} {t:TA} {apos cpos:Pos} (ho:PE X o to) (ha:PA X (e :: es) t)
  (hbase:attributeBase o "setdefault" X.env (eval o X.env)=eval o X.env:=by rfl)
  (hfew:((backTo cpos (starEach (e :: es) X.env)).all (fun x=>!x.1)&&(backToKw cpos (keywordEach [] X.env)).all (fun x=>x.1.isSome)
   && decide ((e :: es).length+([]:List Keyword).length+(if([]:List Keyword).isEmpty then 0 else 1) < 30))=true:=by rfl)
  (hline:(apos.endLine == cpos.line)=true:=by rfl) (hs:starEach (e :: es) X.env=(false,eval e X.env) :: starEach es X.env:=by rfl) (hplain:(backTo cpos (starEach es X.env)).any (·.1)=false:=by rfl) :
  PE X (.Call (.Attribute o "setdefault" apos) (e :: es) [] cpos) (tSetK to t):=by
 intro pins s σ H Q I h
 refine wpAny_Call_method_late hbase hfew hline rfl (thn (ho pins s σ H _ I h) fun v s1 ⟨x,H1,I1,r1,⟨d,kvs,ex,sd⟩,q1⟩=>?_)
 subst ex
 cases r1
 obtain⟨h1,h2,_⟩:=zjh I1 (.inl ⟨kvs,.inl sd⟩)
 refine⟨"dict","dict.setdefault",PySem.F.plainAttrs_dict,PySem.F.slot_dict_setdefault,PySem.F.type_dict_setdefault,h1,h2,?_⟩
 have hA:=ha cpos pins s1 σ H1 _ I1 q1
 rw[hs]at hA ⊢
 refine Calls.callWith_builtin (by show(false||(backTo cpos (starEach es X.env)).any (·.1))=false;rw[hplain] <;> rfl) (Calls.evalArgs_plain ?_)
 exact thn hA fun us s2 ⟨vs,H2,I2,r2,q2⟩=>zlm pins s2 σ H2 (.ref d) vs (.ref d) us Q I2 rfl r2 q2
end
end L2
namespace L2
open PySem PySem.Spec PySem.Calls PyProof.Rows PySem.W PySem.Builtin PySem.Builtin.ObjectAttr PySem.Builtin.Getset_descriptor
section
variable {prog:Program} {w:World} {A:Around} {E:Value→Shared→Prop} {s:Shared} {K:Frag} {x C:Addr}
end
section
variable {X:Cx}
end
end L2
namespace L2
open PySem PySem.Spec PyProof.Rows
abbrev zdJ (h:Heap) (z TI TO:Addr) (f0 f1:Value):Prop :=
 h.get? z=some { cls:=.type "zip",dict:=none,data:=.fields #[f0,f1,.bool false,.ref TI,.ref TO],slots:=#[] }
def Zow (h:Heap) (z TI TO i1 i2:Addr):Prop:=IsZip h z TI TO .none∨∃(p:Addr) (f1 u v:Value),zdJ h z TI TO (rawInt p) f1∧IsPair h p u v∧p≠z∧p≠TO∧p≠i1∧p≠i2
section
variable {prog:Program} {w:World} {A:Around} {E:Value→Shared→Prop} {s:Shared}
theorem zfy {M:Model} {a:Addr} {Q:Option Obj→Shared→Prop} (h:Q (s.heap.get? a) s):wpAny M A (loadIfAlive a) Q E s:=fun Γ p hΓ=>by
 unfold loadIfAlive
 rw[Sem.wp_loadIfAlive]
 simpa [Sem.wp] using h
theorem zhz {z TI TO p:Addr} {f1 u v:Value} {Q:Bool→Shared→Prop} (hz:zdJ s.heap z TI TO (rawInt p) f1) (hp:IsPair s.heap p u v)
  (hQ:∀ h' f,zdJ h' z TI TO (rawInt p) f→Heap.SameBut z s.heap h'→Q false { s with heap:=h' }):wpAny (model prog w) A (Builtin.SmallTypes.ownedTupleIsFree (.ref z)) Q E s:=by
 unfold Builtin.SmallTypes.ownedTupleIsFree
 refine wpAny_bind (wpAny_field hz rfl (x:=rawInt p) rfl ?_)
 show wpAny _ _ (loadIfAlive ((p:Int).toNat) >>= _) _ _ _
 refine wpAny_bind (zfy ?_)
 rw[Int.toNat_natCast,hp]
 show wpAny _ _ (field (.ref z) 1 >>= _) _ _ _
 refine wpAny_bind (wpAny_field hz rfl (x:=f1) rfl ?_)
 by_cases c:(f1 != .bool true)=true
 ·rw[if_pos c]
  refine wpAny_bind (wpAny_setField_rec hz (by simp) fun h₁ hz₁ hs₁=>?_)
  exact wpAny_pure (hQ h₁ (.bool true) hz₁ hs₁)
 ·rw[if_neg c]
  exact wpAny_pure (hQ s.heap f1 hz ⟨rfl,fun _ _=>rfl⟩)
theorem zjx {z TI' TO i1 i2 l1 l2:Addr} {k1 k2:Nat} {xs ys:Array Value} {x y u0 v0 u v f1:Value} {p:Addr} {Q:Value→Shared→Prop} (D:ZipApart z TI' TO i1 i2 l1 l2)
  (hz:zdJ s.heap z TI' TO (rawInt p) f1) (hp:IsPair s.heap p u v) (np:p≠z∧p≠TO∧p≠i1∧p≠i2) (hTI:IsPair s.heap TI' (.ref i1) (.ref i2)) (hTO:IsPair s.heap TO u0 v0) (h1:TuI s.heap i1 l1 k1 xs) (h2:TuI s.heap i2 l2 k2 ys) (hx:xs[k1]?=some x) (hy:ys[k2]?=some y)
  (hQ:∀ h' f,zdJ h' z TI' TO (rawInt p) f→h'.IsTupleIter i1 l1 (k1+1)→h'.IsTupleIter i2 l2 (k2+1)→IsPair h' s.heap.objs.size x y→h'.objs.size=s.heap.objs.size+1 →
   (∀ c o,c≠z→c≠i1→c≠i2→s.heap.get? c=some o→h'.get? c=some o)→Q (.ref s.heap.objs.size) { s with heap:=h' }) :
  wpAny (model prog w) A (Builtin.«zip.__next__» ⟨[.ref z],[]⟩) (fun fin s'=>∃ v,fin=.done (.ret v)∧Q v s') E s:=by
 show wpAny _ _ (field (.ref z) 2 >>= _) _ _ _
 refine wpAny_bind (wpAny_field hz rfl (x:=.bool false) rfl ?_)
 show wpAny _ _ (field (.ref z) 3 >>= _) _ _ _
 refine wpAny_bind (wpAny_field hz rfl (x:=.ref TI') rfl ?_)
 refine wpAny_bind (wpAny_seqItems hTI rfl ?_)
 show wpAny _ _ (Builtin.SmallTypes.ownedTupleIsFree (.ref z) >>= _) _ _ _
 refine wpAny_bind (zhz hz hp fun h₁ f hz₁ hs₁=>?_)
 simp only[Bool.false_eq_true,if_false]
 refine wpAny_bind ?_
 rw[←Array.forIn_toList]
 simp only[List.forIn_cons,List.forIn_nil]
 refine wpAny_bind (wpAny_bind (wpAny_holding ?_))
 show wpAny _ _ (Builtin.SmallTypes.nextOf (.ref i1) >>= _) _ _ _
 have a1:=h1.ext hs₁.extBut D.i1z D.l1z
 refine wpAny_bind (zcT a1.1 a1.2 hx fun h₂ h1₂ hs₂=>wpAny_pure (wpAny_pure ?_))
 refine wpAny_bind (wpAny_bind (wpAny_holding ?_))
 show wpAny _ _ (Builtin.SmallTypes.nextOf (.ref i2) >>= _) _ _ _
 have a2:=(h2.ext hs₁.extBut D.i2z D.l2z).ext hs₂.extBut D.i12.symm D.l2i1
 refine wpAny_bind (zcT a2.1 a2.2 hy fun h₄ h2₄ hs₄=>wpAny_pure (wpAny_pure (wpAny_pure ?_)))
 refine wpAny_bind (wpAny_newTuple ?_ (show 2≤sizeLine by rw[sizeLine_eq];decide))
 have hsz:h₄.objs.size=s.heap.objs.size:=by rw[hs₄.1,hs₂.1,hs₁.1]
 have hz₄:zdJ h₄ z TI' TO (rawInt p) f:=hs₄.extBut _ _ D.i2z.symm (hs₂.extBut _ _ D.i1z.symm hz₁)
 have hk:∀ c o,c≠z→c≠i1→c≠i2→s.heap.get? c=some o→h₄.get? c=some o:=fun c o c1 c3 c4 e=>hs₄.extBut _ _ c4 (hs₂.extBut _ _ c3 (hs₁.extBut _ _ c1 e))
 refine wpAny_pure ⟨_,rfl,?_⟩
 show Q (.ref h₄.objs.size) _
 rw[hsz]
 refine hQ _ f (Heap.get?_push_of_some _ hz₄) ((h1₂.extBut hs₄.extBut D.i12).at fun o e=>Heap.get?_push_of_some _ e) (h2₄.at fun o e=>Heap.get?_push_of_some _ e) ?_ (by rw[Heap.size_push,hsz]) fun c o c1 c3 c4 e=>Heap.get?_push_of_some _ (hk c o c1 c3 c4 e)
 rw[←hsz]
 exact Heap.get?_push_size _ rfl
theorem zkc {z TI' TO i1 i2 l1 l2:Addr} {k1:Nat} {xs:Array Value} {u0 v0 u v f1:Value} {p:Addr} {Q:Fin→Shared→Prop} (hh:A.handled=none) (D:ZipApart z TI' TO i1 i2 l1 l2)
  (hz:zdJ s.heap z TI' TO (rawInt p) f1) (hp:IsPair s.heap p u v) (hTI:IsPair s.heap TI' (.ref i1) (.ref i2)) (hTO:IsPair s.heap TO u0 v0) (h1:TuI s.heap i1 l1 k1 xs) (hx:xs[k1]?=none)
  (hE:∀ h' e,(∀ c o,c≠z→c≠TO→c≠i1→c≠i2→s.heap.get? c=some o→h'.get? c=some o)→(∃ o,h'.get? e=some o∧o.cls=.type "StopIteration")→E (.ref e) { s with heap:=h' }) :
  wpAny (model prog w) A (Builtin.«zip.__next__» ⟨[.ref z],[]⟩) Q E s:=by
 show wpAny _ _ (field (.ref z) 2 >>= _) _ _ _
 refine wpAny_bind (wpAny_field hz rfl (x:=.bool false) rfl ?_)
 show wpAny _ _ (field (.ref z) 3 >>= _) _ _ _
 refine wpAny_bind (wpAny_field hz rfl (x:=.ref TI') rfl ?_)
 refine wpAny_bind (wpAny_seqItems hTI rfl ?_)
 show wpAny _ _ (Builtin.SmallTypes.ownedTupleIsFree (.ref z) >>= _) _ _ _
 refine wpAny_bind (zhz hz hp fun h₁ f hz₁ hs₁=>?_)
 simp only[Bool.false_eq_true,if_false]
 refine wpAny_bind ?_
 rw[←Array.forIn_toList]
 simp only[List.forIn_cons,List.forIn_nil]
 refine wpAny_bind (wpAny_bind (wpAny_holding ?_))
 show wpAny _ _ (Builtin.SmallTypes.nextOf (.ref i1) >>= _) _ _ _
 have a1:=h1.ext hs₁.extBut D.i1z D.l1z
 refine wpAny_bind (zc6 hh a1.1 a1.2 hx fun h₂ e hs₂ he=>hE h₂ e (fun c o c1 _ c3 _ x=>hs₂ _ _ c3 (hs₁.extBut _ _ c1 x)) he)
structure ZSt (h:Heap) (z TI' TO i1 i2 l1 l2:Addr) (k:Nat) (xs ys:Array Value):Prop where
 ow:Zow h z TI' TO i1 i2
 ti:IsPair h TI' (.ref i1) (.ref i2)
 to:∃ u v,IsPair h TO u v
 a:TuI h i1 l1 k xs
 b:TuI h i2 l2 k ys
theorem zj9 {z TI' TO i1 i2 l1 l2:Addr} {k:Nat} {xs ys:Array Value} {x y:Value} {Q:Option Value→Shared→Prop} (D:ZipApart z TI' TO i1 i2 l1 l2) (Z:ZSt s.heap z TI' TO i1 i2 l1 l2 k xs ys) (hx:xs[k]?=some x) (hy:ys[k]?=some y)
  (hQ:∀ h',ZSt h' z TI' TO i1 i2 l1 l2 (k+1) xs ys→IsPair h' s.heap.objs.size x y→(∀ c o,c≠z→c≠TO→c≠i1→c≠i2→s.heap.get? c=some o→h'.get? c=some o)→h'.objs.size=s.heap.objs.size+1→Q (some (.ref s.heap.objs.size)) { s with heap:=h' }) :
  wpAny (model prog w) A (pyNext (.ref z)) Q E s:=by
 obtain⟨ow,ti,⟨u0,v0,hto⟩,a,b⟩:=Z
 have lt1:l1 < s.heap.objs.size:=by obtain⟨o,e,_⟩:=a.2;exact Heap.lt_size e
 have ltz:z < s.heap.objs.size:=by rcases ow with e | ⟨_,_,_,_,e,_⟩ <;> exact Heap.lt_size e
 have ltTO:TO < s.heap.objs.size:=Heap.lt_size hto
 have lti1:i1 < s.heap.objs.size:=by obtain⟨o,e,_⟩:=id a.1;exact Heap.lt_size e
 have lti2:i2 < s.heap.objs.size:=by obtain⟨o,e,_⟩:=id b.1;exact Heap.lt_size e
 rcases ow with e | ⟨p,f1,u,v,e,hp,np⟩
 ·refine zhQ D e ti hto a b hx hy fun h' g1 g3 g4 g5 gT gz gk=>hQ h' ⟨.inr ⟨s.heap.objs.size,.bool false,x,y,g1,gT,Nat.ne_of_gt ltz,Nat.ne_of_gt ltTO,Nat.ne_of_gt lti1,Nat.ne_of_gt lti2⟩,gk _ _ D.TIz D.TITO D.TIi1 D.TIi2 ti,⟨x,y,g3⟩,⟨g4,?_⟩,⟨g5,?_⟩⟩ gT gk gz
  ·obtain⟨o,e1,e2⟩:=a.2
   exact⟨o,gk _ _ D.l1z D.l1TO D.l1i1 D.l1i2 e1,e2⟩
  ·obtain⟨o,e1,e2⟩:=b.2
   exact⟨o,gk _ _ D.l2z D.l2TO D.l2i1 D.l2i2 e1,e2⟩
 ·have hT:s.TypeIs (.ref z) "zip":=⟨_,e,rfl⟩
  unfold pyNext
  refine wpAny_bind (wpAny_attempt (wpAny_callSpecial?_slot (name:=Str.ofString "__next__") hT F.slot_zip_next
   (wpAny_call_entry F.slot_zip_next hT F.entry_zip_next (zjx D e hp np ti hto a b hx hy fun h' f a1 a3 a4 a5 a6 a7=>wpAny_pure (hQ h' ⟨.inr ⟨p,f,u,v,a1,a7 _ _ np.1 np.2.2.1 np.2.2.2 hp,np⟩,a7 _ _ D.TIz D.TIi1 D.TIi2 ti,⟨u0,v0,a7 _ _ D.TOz D.TOi1 D.TOi2 hto⟩,⟨a3,?_⟩,⟨a4,?_⟩⟩ a5 (fun c o c1 _ c3 c4 q=>a7 c o c1 c3 c4 q) a6)) (F.args_zip_next_1 _))))
  ·obtain⟨o,e1,e2⟩:=a.2
   exact⟨o,a7 _ _ D.l1z D.l1i1 D.l1i2 e1,e2⟩
  ·obtain⟨o,e1,e2⟩:=b.2
   exact⟨o,a7 _ _ D.l2z D.l2i1 D.l2i2 e1,e2⟩
theorem zkM {z TI' TO i1 i2 l1 l2:Addr} {k:Nat} {xs ys:Array Value} {Q:Option Value→Shared→Prop} (hh:A.handled=none) (D:ZipApart z TI' TO i1 i2 l1 l2) (Z:ZSt s.heap z TI' TO i1 i2 l1 l2 k xs ys) (hx:xs[k]?=none)
  (hQ:∀ h',(∀ c o,c≠z→c≠TO→c≠i1→c≠i2→s.heap.get? c=some o→h'.get? c=some o)→Q none { s with heap:=h' }):wpAny (model prog w) A (pyNext (.ref z)) Q E s:=by
 obtain⟨ow,ti,⟨u0,v0,hto⟩,a,b⟩:=Z
 rcases ow with e | ⟨p,f1,u,v,e,hp,np⟩
 ·exact zgf hh D e ti hto a b (.inl hx) hQ
 ·have hT:s.TypeIs (.ref z) "zip":=⟨_,e,rfl⟩
  unfold pyNext
  refine wpAny_bind (wpAny_attempt (wpAny_callSpecial?_slot (name:=Str.ofString "__next__") hT F.slot_zip_next
   (wpAny_call_entry F.slot_zip_next hT F.entry_zip_next (zkc hh D e hp ti hto a hx fun h' e hk he=>?_) (F.args_zip_next_1 _))))
  obtain⟨o,ho,hc⟩:=he
  refine wpAny_bind (wpAny_isInstance (T:="StopIteration") (b:=true) ⟨o,ho,hc⟩ isSubtype_stop ?_)
  exact wpAny_pure (hQ _ hk)
def zfw (N:Nat) (h:Heap) (z TO i1 i2 S:Addr) (xs ys:Array Value) (acc:Array Value) (k:Nat):Prop:=acc.size=k∧∀(j:Nat),j < k→∃ p x y,acc[j]?=some (.ref p)∧xs[j]?=some x∧ys[j]?=some y∧IsPair h p x y∧p≠z∧p≠TO∧p≠i1∧p≠i2∧p≠S∧N≤p
theorem zdK {h h':Heap} {z TI' TO i1 i2 l1 l2 S:Addr} {k:Nat} {xs ys:Array Value} (Z:ZSt h z TI' TO i1 i2 l1 l2 k xs ys) (kp:∀ c o,c≠S→h.get? c=some o→h'.get? c=some o) (n:S≠z∧S≠TI'∧S≠TO∧S≠i1∧S≠i2∧S≠l1∧S≠l2) (hS:∀ u v,¬IsPair h S u v):ZSt h' z TI' TO i1 i2 l1 l2 k xs ys:=by
 obtain⟨n1,n2,n3,n4,n5,n6,n7⟩:=n
 obtain⟨ow,ti,⟨u0,v0,hto⟩,⟨a1,o1,e1,r1⟩,b1,o2,e2,r2⟩:=Z
 refine⟨?_,kp _ _ n2.symm ti,⟨u0,v0,kp _ _ n3.symm hto⟩,⟨a1.at fun o e=>kp _ o n4.symm e,o1,kp _ _ n6.symm e1,r1⟩,b1.at fun o e=>kp _ o n5.symm e,o2,kp _ _ n7.symm e2,r2⟩
 rcases ow with e | ⟨p,f1,u,v,e,hp,np⟩
 ·exact .inl (kp _ _ n1.symm e)
 ·exact .inr ⟨p,f1,u,v,kp _ _ n1.symm e,kp _ _ (fun c=>hS u v (c ▸ hp)) hp,np⟩
theorem ziS {N:Nat} {R:Result→Shared→Prop} {z TI' TO i1 i2 l1 l2 S:Addr} {xs ys:Array Value} (hh:A.handled=none) (D:ZipApart z TI' TO i1 i2 l1 l2) (nS:S≠z∧S≠TI'∧S≠TO∧S≠i1∧S≠i2∧S≠l1∧S≠l2) (hl:xs.size=ys.size) (hn:xs.size≤sizeLine) (res:Value) :
  ∀(m k:Nat) (s:Shared) (acc:Array Value) (c:Nat),N≤s.heap.objs.size→xs.size - k=m→k≤xs.size→ZSt s.heap z TI' TO i1 i2 l1 l2 k xs ys→s.heap.get? S=some { cls:=.type "list",dict:=none,data:=.seq acc c,slots:=#[] }→zfw N s.heap z TO i1 i2 S xs ys acc k →
  (∀ h' acc' c',(∀ b o,b≠S→b≠z→b≠TO→b≠i1→b≠i2→s.heap.get? b=some o→h'.get? b=some o)→h'.get? S=some { cls:=.type "list",dict:=none,data:=.seq acc' c',slots:=#[] }→zfw N h' z TO i1 i2 S xs ys acc' xs.size→R (.ok (.ret res)) { s with heap:=h' }) →
  codeAny (model prog w) A (.builtin "list.extend.loop" ⟨[.ref S,.ref z,res],[]⟩) R s:=by
 obtain⟨n1,n2,n3,n4,n5,n6,n7⟩:=id nS
 intro m
 induction m with
 | zero =>
  intro k s acc c hN hk hi hst hS hacc hR
  have hin:k=xs.size:=by omega
  subst hin
  refine codeAny_builtin F.entry_extend_loop ?_
  rw[Around.under_plainId F.plain_extend_loop _]
  show wpAny _ A.in1 (pyNext (.ref z) >>= _) _ _ s
  refine wpAny_bind (zkM hh D hst (by simp) fun h' kp=>?_)
  refine wpAny_pure (hR h' acc c (fun b o _ b1 b2 b3 b4 e=>kp b o b1 b2 b3 b4 e) (kp S _ n1 n3 n4 n5 hS) ⟨hacc.1,fun j hj=>?_⟩)
  obtain⟨p,x,y,e1,e2,e3,e4,q1,q2,q3,q4,q5⟩:=hacc.2 j hj
  exact⟨p,x,y,e1,e2,e3,kp p _ q1 q2 q3 q4 e4,q1,q2,q3,q4,q5⟩
 | succ m ih =>
  intro k s acc c hN hk hi hst hS hacc hR
  have hlt:k < xs.size:=by omega
  have hlt2:k < ys.size:=by omega
  have ltz:z < s.heap.objs.size:=by rcases hst.ow with e | ⟨_,_,_,_,e,_⟩ <;> exact Heap.lt_size e
  have ltTO:TO < s.heap.objs.size:=by obtain⟨_,_,e⟩:=hst.to;exact Heap.lt_size e
  have lti1:i1 < s.heap.objs.size:=by obtain⟨o,e,_⟩:=id hst.a.1;exact Heap.lt_size e
  have lti2:i2 < s.heap.objs.size:=by obtain⟨o,e,_⟩:=id hst.b.1;exact Heap.lt_size e
  have ltS:S < s.heap.objs.size:=Heap.lt_size hS
  refine codeAny_builtin F.entry_extend_loop ?_
  rw[Around.under_plainId F.plain_extend_loop _]
  show wpAny _ A.in1 (pyNext (.ref z) >>= _) _ _ s
  refine wpAny_bind (zj9 D hst (Array.getElem?_eq_getElem hlt) (Array.getElem?_eq_getElem hlt2) fun h' Z' gT kp gz=>?_)
  have hS':=kp S _ n1 n3 n4 n5 hS
  show wpAny _ A.in1 (updateSeq S (·.push (.ref s.heap.objs.size)) >>= _) _ _ _
  refine wpAny_bind ?_
  have up:∀ b o,b≠S→h'.get? b=some o→(h'.update S (Obj.mapSeq (·.push (.ref s.heap.objs.size)))).get? b=some o:=fun b o hb e=>(Heap.get?_update_other _ _ (Ne.symm hb)).trans e
  refine wpAny_updateSeq hS' rfl (wpAny_pure ⟨plainId_quiet F.plain_extend_loop _,ih (k+1) _ (acc.push (.ref s.heap.objs.size)) _ (by show N≤(h'.update S _).objs.size;rw[(Heap.SameBut.update ..).1,gz];omega) (by omega) hlt (zdK Z' up nS fun u v e=>by have:=congrArg Obj.cls (Option.some.inj (hS'.symm.trans e));simp at this) (Heap.get?_update_self _ hS' rfl) ⟨by rw[Array.size_push,hacc.1],fun j hj=>?_⟩ fun h'' acc' c' kp2 hS'' hacc'=>?_⟩)
   (by rw[hacc.1];omega) (by show(acc.push _).size≤sizeLine+1;rw[Array.size_push,hacc.1];omega)
  ·by_cases ej:j=k
   ·subst ej
    refine⟨s.heap.objs.size,_,_,?_,Array.getElem?_eq_getElem hlt,Array.getElem?_eq_getElem hlt2,up _ _ (Nat.ne_of_gt ltS) gT,Nat.ne_of_gt ltz,Nat.ne_of_gt ltTO,Nat.ne_of_gt lti1,Nat.ne_of_gt lti2,Nat.ne_of_gt ltS,hN⟩
    rw[←hacc.1,Array.getElem?_push_size]
   ·obtain⟨p,x,y,e1,e2,e3,e4,q1,q2,q3,q4,q5⟩:=hacc.2 j (by omega)
    exact⟨p,x,y,by rw[Array.getElem?_push_lt (by rw[hacc.1];omega),←Array.getElem?_eq_getElem];exact e1,e2,e3,up _ _ q5.1 (kp _ _ q1 q2 q3 q4 e4),q1,q2,q3,q4,q5⟩
  ·exact hR h'' acc' c' (fun b o b0 b1 b2 b3 b4 e=>kp2 b o b0 b1 b2 b3 b4 (up b o b0 (kp b o b1 b2 b3 b4 e))) hS'' hacc'
theorem zka {z TI' TO i1 i2 l1 l2:Addr} {k:Nat} {xs ys:Array Value} {Q:Bool→Shared→Prop} (Z:ZSt s.heap z TI' TO i1 i2 l1 l2 k xs ys) (h:Q true s):wpAny (model prog w) A (Builtin.List.listLengthHint (.ref z)) Q E s:=by
 have hT:s.TypeIs (.ref z) "zip":=by rcases Z.ow with e | ⟨_,_,_,_,e,_⟩ <;> exact⟨_,e,rfl⟩
 have l1:typeLookup (.type "zip") "__len__"=pure none:=by rw[typeLookup_type,builtinLookup_eq_fast];kernel_rfl
 have l2:typeLookup (.type "zip") "__length_hint__"=pure none:=by rw[typeLookup_type,builtinLookup_eq_fast];kernel_rfl
 unfold Builtin.List.listLengthHint
 repeat (any_goals (first | assumption | wp_step))
theorem zgY {Q:Value→Shared→Prop} {z TI' TO i1 i2 l1 l2:Addr} {xs ys:Array Value} (hh:A.handled=none) (D:ZipApart z TI' TO i1 i2 l1 l2) (Z:ZSt s.heap z TI' TO i1 i2 l1 l2 0 xs ys) (z0:IsZip s.heap z TI' TO .none) (hl:xs.size=ys.size) (hn:xs.size≤sizeLine)
  (hQ:∀ h' acc' c',(∀ b o,b≠z→b≠TO→b≠i1→b≠i2→s.heap.get? b=some o→h'.get? b=some o)→h'.get? s.heap.objs.size=some { cls:=.type "list",dict:=none,data:=.seq acc' c',slots:=#[] }→zfw s.heap.objs.size h' z TO i1 i2 s.heap.objs.size xs ys acc' xs.size→Q (.ref s.heap.objs.size) { s with heap:=h' }) :
  wpAny (model prog w) A (call (.type "list") [.ref z]) Q E s:=by
 refine callType_codes (Q₁:=fun obj s₁=>obj=.ref s.heap.objs.size∧s₁={ s with heap:=s.heap.push { cls:=.type "list",data:=.seq #[] } }) PySem.F.called_list (PySem.F.typeCall_list_1 _) PySem.F.entry_list_init
  (code_list_new _ ⟨rfl,rfl⟩) fun obj s₁ h₁=>?_
 obtain⟨rfl,rfl⟩:=h₁
 have hS:(s.heap.push { cls:=.type "list",data:=.seq #[] }).get? s.heap.objs.size=some { cls:=.type "list",data:=.seq #[] }:=Heap.get?_push_size _ rfl
 refine⟨⟨_,hS,rfl⟩,PySem.F.args_list_init_2 _ _,?_⟩
 have ltz:z < s.heap.objs.size:=by rcases Z.ow with e | ⟨_,_,_,_,e,_⟩ <;> exact Heap.lt_size e
 have ltTI:TI' < s.heap.objs.size:=Heap.lt_size Z.ti
 have ltTO:TO < s.heap.objs.size:=by obtain⟨_,_,e⟩:=Z.to;exact Heap.lt_size e
 have lti1:i1 < s.heap.objs.size:=by obtain⟨o,e,_⟩:=id Z.a.1;exact Heap.lt_size e
 have lti2:i2 < s.heap.objs.size:=by obtain⟨o,e,_⟩:=id Z.b.1;exact Heap.lt_size e
 have ltl1:l1 < s.heap.objs.size:=by obtain⟨o,e,_⟩:=Z.a.2;exact Heap.lt_size e
 have ltl2:l2 < s.heap.objs.size:=by obtain⟨o,e,_⟩:=Z.b.2;exact Heap.lt_size e
 have nS:s.heap.objs.size≠z∧s.heap.objs.size≠TI'∧s.heap.objs.size≠TO∧s.heap.objs.size≠i1∧s.heap.objs.size≠i2∧s.heap.objs.size≠l1∧s.heap.objs.size≠l2:=⟨Nat.ne_of_gt ltz,Nat.ne_of_gt ltTI,Nat.ne_of_gt ltTO,Nat.ne_of_gt lti1,Nat.ne_of_gt lti2,Nat.ne_of_gt ltl1,Nat.ne_of_gt ltl2⟩
 have Z1:ZSt (s.heap.push { cls:=.type "list",data:=.seq #[] }) z TI' TO i1 i2 l1 l2 0 xs ys:=zdK (S:=s.heap.objs.size) Z (fun c o _ e=>Heap.get?_push_of_some _ e) nS fun u v e=>absurd (Heap.lt_size e) (Nat.lt_irrefl _)
 show wpAny _ _ (do let old ←Builtin.List.listItems (.ref s.heap.objs.size);Builtin.List.listUpdate (.ref s.heap.objs.size) (fun _=>#[]);letGo old.toList.reverse;Builtin.List.listExtendWith (.ref s.heap.objs.size) (.ref z) .none) _ _ _
 refine wpAny_bind ?_
 unfold Builtin.List.listItems
 refine wpAny_bind (wpAny_seqItems hS rfl (wpAny_pure ?_))
 show wpAny _ _ (updateSeq s.heap.objs.size (fun _=>#[]) >>= fun _=>letGo (#[]:Array Value).toList.reverse >>= fun _=>Builtin.List.listExtendWith (.ref s.heap.objs.size) (.ref z) .none) _ _ _
 refine wpAny_bind (wpAny_updateSeq hS rfl ?_)
 have hS₂:=Heap.get?_update_self (Obj.mapSeq (fun _=>(#[]:Array Value))) hS rfl
 have oth:∀(h:Heap) (f:Array Value→Array Value) b o,b≠s.heap.objs.size→h.get? b=some o→(h.update s.heap.objs.size (Obj.mapSeq f)).get? b=some o:=fun h f b o hb e=>(Heap.get?_update_other _ _ (Ne.symm hb)).trans e
 have nP:∀ {h:Heap} {a c},h.get? s.heap.objs.size=some { cls:=.type "list",dict:=none,data:=.seq a c,slots:=#[] }→∀ u v,¬IsPair h s.heap.objs.size u v:=fun hh u v e=>by have:=congrArg Obj.cls (Option.some.inj (hh.symm.trans e));simp at this
 have Z2:=zdK Z1 (oth _ fun _=>#[]) nS (nP hS)
 refine wpAny_bind (wpAny_letGo ?_)
 unfold Builtin.List.listExtendWith
 have hT:∀ {h:Heap} {g d t os},ZSt h z TI' TO i1 i2 l1 l2 0 xs ys→(⟨h,g,d,t,os⟩:Shared).TypeIs (.ref z) "zip":=fun Z=>by rcases Z.ow with e | ⟨_,_,_,_,e,_⟩ <;> exact⟨_,e,rfl⟩
 refine wpAny_bind (wpAny_typeOf (T:="zip") (hT Z2) ?_)
 have h1:Builtin.List.listSameRef (.ref s.heap.objs.size) (.ref z)=false:=by simp [Builtin.List.listSameRef,nS.1]
 simp only[h1,show(Value.type "zip" == Value.type "list")=false from by decide +kernel,show(Value.type "zip" == Value.type "tuple")=false from by decide +kernel,Bool.or_false,Bool.false_eq_true,if_false]
 have z2:=oth (s.heap.push { cls:=.type "list",data:=.seq #[] }) (fun _=>#[]) _ _ nS.1.symm (Heap.get?_push_of_some _ z0)
 refine wpAny_bind (wpAny_pyIter_zip z2 ?_)
 refine wpAny_bind (wpAny_holding (zka Z2 ?_))
 refine wpAny_ite_split (fun _=>?_) (fun hab=>absurd rfl hab)
 refine wpAny_bind (wpAny_rule ?_)
 refine wpAny_bind ?_
 show wpAny _ _ (updateSeq s.heap.objs.size (·.push .none) >>= fun _=>updateSeq s.heap.objs.size (·.pop)) _ _ _
 refine wpAny_bind (wpAny_updateSeq hS₂ rfl ?_)
 have hS₃:=Heap.get?_update_self (Obj.mapSeq (·.push Value.none)) hS₂ rfl
 refine wpAny_updateSeq (hz:=by seq_fits) hS₃ rfl ?_
 have hS₄:=Heap.get?_update_self (Obj.mapSeq (·.pop)) hS₃ rfl
 have Z3:=zdK Z2 (oth _ (·.push Value.none)) nS (nP hS₂)
 have Z4:=zdK Z3 (oth _ (·.pop)) nS (nP hS₃)
 refine wpAny_pure ⟨plainId_quiet PySem.F.plain_extend_loop _,ziS (N:=s.heap.objs.size) (A:=A.in1) hh D nS hl hn .none xs.size 0 _ #[] _ (by show s.heap.objs.size≤(Heap.update _ _ _).objs.size;rw[(Heap.SameBut.update ..).1,(Heap.SameBut.update ..).1,(Heap.SameBut.update ..).1,Heap.size_push];omega) rfl (Nat.zero_le _) Z4 hS₄ ⟨rfl,fun j hj=>absurd hj (Nat.not_lt_zero _)⟩ fun h' acc' c' kp hS' hacc=>?_⟩
 exact⟨rfl,hQ h' acc' c' (fun b o b1 b2 b3 b4 e=>by
  have nb:b≠s.heap.objs.size:=Nat.ne_of_lt (Heap.lt_size e)
  exact kp b o nb b1 b2 b3 b4 (oth _ _ b o nb (oth _ _ b o nb (oth _ _ b o nb (Heap.get?_push_of_some _ e))))) hS' hacc⟩
end
section
variable {X:Cx} {pins:List (Addr × Obj)} {σ:St} {H H2:Hp} {s:Shared}
theorem Inv.grow {h':Heap} {t':Nat} (I:Inv X pins σ H s) (kk:∀ c o,s.heap.get? c=some o→h'.get? c=some o) (up:∀ c o,H c=some o→H2 c=some o)
  (new:∀ c o,H2 c=some o→H c=some o∨(s.heap.objs.size≤c∧zaz X.prog X.w H2 h' c o)):Inv X pins σ H2 { s with heap:=h',toks:=t' }:=by
 refine I.un ⟨fun b u q _ _ _=>kk b u q,fun b u q _ _ _=>⟨u.slots,kk b u q⟩,fun b u q n _=>?_,fun b u q _=>⟨u,kk b u q⟩,fun b xs q=>up _ _ q,fun b u xs q=>up _ _ q,fun b ps q=>⟨#[],by rw[up _ _ q];simp⟩⟩ fun b u e=>?_
 ·cases z:H2 b with
  | none=>rfl
  | some o =>
   rcases new b o z with e | ⟨e,_⟩
   ·rw[n]at e;cases e
   ·exact absurd (Nat.lt_of_lt_of_le (Heap.lt_size q) e) (Nat.lt_irrefl _)
 ·rcases new b u e with e | ⟨_,e⟩
  ·exact(I.hok b u e).stay (fun c v _ q=>kk c v q) (fun c q=>up _ _ q) fun c xs q=>up _ _ q
  ·exact e
def tLZip (K:W.Frag) (ta:TA):TE:=fun σ H Q=>ta σ H fun vs H1=>∃(a b:Addr) (xs ys:List V),vs=[.ref a,.ref b]∧SqT K H1 a xs∧SqT K H1 b ys∧xs.length=ys.length∧∀(H2:Hp) (l:Addr) (ps:List Addr),H1 l=none→(∀ c o,H1 c=some o→H2 c=some o)→H2 l=some (.lst (ps.map V.ref)) →
 (∀(j:Nat) x y,xs[j]?=some x→ys[j]?=some y→∃ p,ps[j]?=some p∧SqT K H2 p [x,y])→ps.length=xs.length→Q (.ref l) H2
theorem zk4 {N:Nat} {h:Heap} {z TO i1 i2 S:Addr} {xs ys acc:Array Value}:∀ {k:Nat},zfw N h z TO i1 i2 S xs ys acc k→∃ ps:List Addr,acc.toList=ps.map Value.ref∧ps.length=k∧∀(j:Nat) p,ps[j]?=some p→∃ x y,xs[j]?=some x∧ys[j]?=some y∧IsPair h p x y∧p≠S∧N≤p:=by
 intro k hp
 have key:∀ m,m≤k→∃ ps:List Addr,acc.toList.take m=ps.map Value.ref∧ps.length=m∧∀(j:Nat) p,ps[j]?=some p→∃ x y,xs[j]?=some x∧ys[j]?=some y∧IsPair h p x y∧p≠S∧N≤p:=by
  intro m
  induction m with
  | zero=>exact fun _=>⟨[],rfl,rfl,fun j p e=>by simp at e⟩
  | succ m ih =>
   intro hm
   obtain⟨ps,e1,e2,e3⟩:=ih (by omega)
   obtain⟨p,x,y,q1,q2,q3,q4,_,_,_,_,q5⟩:=hp.2 m (by omega)
   refine⟨ps++[p],?_,by rw[List.length_append,e2];rfl,fun j p' hj=>?_⟩
   ·rw[zai (x:=Value.ref p) (by rw[Array.getElem?_toList];exact q1),e1,List.map_append]
    rfl
   ·by_cases lt:j < ps.length
    ·rw[List.getElem?_append_left lt]at hj
     exact e3 j p' hj
    ·have:=(List.getElem?_eq_some_iff.mp hj).1
     rw[List.length_append]at this
     have e:j=ps.length:=by have:j < ps.length+1:=this;omega
     subst e
     rw[List.getElem?_append_right (Nat.le_refl _),Nat.sub_self]at hj
     cases hj
     rw[e2]
     exact⟨x,y,q2,q3,q4,q5⟩
 obtain⟨ps,e1,e2,e3⟩:=key k (Nat.le_refl _)
 rw[List.take_of_length_le (by rw[Array.length_toList,hp.1];exact Nat.le_refl _)]at e1
 exact⟨ps,e1,e2,e3⟩
theorem zlb {a b:Expr} {ta:TA} {p p2 pos pos2:Pos} (hc:X.calm=true) (hg:Gl X "zip") (hm:X.mg "zip"=none) (hg2:Gl X "list") (hm2:X.mg "list"=none) (ha:PA X [a,b] ta)
  (hs:starEach [a,b] X.env=[(false,eval a X.env),(false,eval b X.env)]:=by rfl) (hs2:starEach [b] X.env=[(false,eval b X.env)]:=by rfl)
  (hs3:starEach [.Call (.Name "zip" p) [a,b] [] pos] X.env=[(false,eval (.Call (.Name "zip" p) [a,b] [] pos) X.env)]:=by rfl) :
  PE X (.Call (.Name "list" p2) [.Call (.Name "zip" p) [a,b] [] pos] [] pos2) (tLZip X.K ta):=by
 intro pins s σ H Q I h
 unfold tLZip at h
 refine Call_ (zcQ I hg2 hm2 PyProof.Rows.Boot.list (PyProof.Rows.callWith_type1 ?_ hs3 rfl))
 rw[hs3]
 show wpAny _ _ (spliced ((false,eval (.Call (.Name "zip" p) [a,b] [] pos) X.env) :: backTo pos2 [])) _ _ s
 refine Calls.spliced_cons ?_
 refine Call_ (zcQ I hg hm boot_zip (PyProof.Rows.callWith_type1 (thn (ha pos pins s σ H _ I h) fun us s1 ⟨vs,H1,I1,r1,q1⟩=>?_) (by rw[hs,hs2]) (by rw[hs2];rfl)))
 obtain⟨a,b,xs,ys,e,hq,hq2,hl,q⟩:=q1
 subst e
 obtain⟨u,v,rfl,ru,rv'⟩:=r1.two
 cases ru
 cases rv'
 obtain⟨its,rv,pl,hz⟩:=I1.tuple hq
 obtain⟨its2,rv2,pl2,hz2⟩:=I1.tuple hq2
 have la:a < s1.heap.objs.size:=by obtain⟨o,e,_⟩:=pl;exact Heap.lt_size e
 have lb:b < s1.heap.objs.size:=by obtain⟨o,e,_⟩:=pl2;exact Heap.lt_size e
 refine zj4 (show s1.heap.IsTuple a its.toArray from pl) (show s1.heap.IsTuple b its2.toArray from pl2) fun h' h1 h2 h3 h4 h5 hz' kk=>?_
 refine Calls.spliced_nil ?_
 have D:=zipApart_new la lb
 have kt:∀ {c:Addr} {zs:Array Value},s1.heap.IsTuple c zs→h'.IsTuple c zs:=fun⟨o,e1,e2⟩=>⟨o,kk _ _ e1,e2⟩
 have Z:ZSt h' (s1.heap.objs.size+4) (s1.heap.objs.size+2) (s1.heap.objs.size+3) s1.heap.objs.size (s1.heap.objs.size+1) a b 0 its.toArray its2.toArray:=⟨.inl h1,h2,⟨_,_,h3⟩,⟨h4,kt pl⟩,h5,kt pl2⟩
 have l1:=rv.length
 have l2:=rv2.length
 refine zgY (s:={ s1 with heap:=h' }) (I1.ok.hd hc) D Z h1 (by simp;omega) (by simp;omega) fun h'' acc cn kp hS hacc=>?_
 obtain⟨ps,e1,e2,e3⟩:=zk4 hacc
 have big:∀ c,c < s1.heap.objs.size→c≠s1.heap.objs.size+4∧c≠s1.heap.objs.size+3∧c≠s1.heap.objs.size∧c≠s1.heap.objs.size+1:=fun c hc=>⟨by omega,by omega,by omega,by omega⟩
 have kk2:∀ c o,s1.heap.get? c=some o→h''.get? c=some o:=fun c o e=>by
  obtain⟨b1,b2,b3,b4⟩:=big c (Heap.lt_size e)
  exact kp c o b1 b2 b3 b4 (kk c o e)
 have hS':h''.get? h'.objs.size=some { cls:=.type "list",dict:=none,data:=.seq acc cn,slots:=#[] }:=hS
 have eN:s1.heap.objs.size+5=h'.objs.size:=hz'.symm
 let H2:Hp:=fun c=>if c=h'.objs.size then some (.lst (ps.map V.ref)) else if c∈ps then some (.tup [xs.getD (ps.idxOf c) .non,ys.getD (ps.idxOf c) .non]) else H1 c
 have inP:∀ c∈ps,s1.heap.objs.size≤c∧c≠h'.objs.size∧∃ x y:V,∃ ux uy:Value,xs.getD (ps.idxOf c) .non=x∧ys.getD (ps.idxOf c) .non=y∧xs[ps.idxOf c]?=some x∧ys[ps.idxOf c]?=some y∧aL x ux∧aL y uy∧IsPair h'' c ux uy:=fun c hc=>by
  have lt:=List.idxOf_lt_length_of_mem hc
  have at_:ps[ps.idxOf c]?=some c:=by rw[List.getElem?_eq_getElem lt];simp
  obtain⟨ux,uy,g1,g2,g3,g4,g5⟩:=e3 _ _ at_
  have g1':its[ps.idxOf c]?=some ux:=by simpa using g1
  have g2':its2[ps.idxOf c]?=some uy:=by simpa using g2
  have lx:ps.idxOf c < xs.length:=by rw[l1];exact(List.getElem?_eq_some_iff.mp g1').1
  have ly:ps.idxOf c < ys.length:=by rw[l2];exact(List.getElem?_eq_some_iff.mp g2').1
  obtain⟨w1,w2,w3⟩:=rv.get (List.getElem?_eq_getElem lx)
  obtain⟨w4,w5,w6⟩:=rv2.get (List.getElem?_eq_getElem ly)
  cases w2.symm.trans g1'
  cases w5.symm.trans g2'
  exact⟨by have:h'.objs.size≤c:=g5;omega,g4,xs[ps.idxOf c],ys[ps.idxOf c],ux,uy,by simp [lx],by simp [ly],List.getElem?_eq_getElem lx,List.getElem?_eq_getElem ly,w3,w6,g3⟩
 have up:∀ c o,H1 c=some o→H2 c=some o:=fun c o e=>by
  have lt:Nat.lt c s1.heap.objs.size:=I1.hok.lt e
  have lt:c < s1.heap.objs.size:=lt
  show(if c=h'.objs.size then _ else _)=_
  have n1:¬c=h'.objs.size:=Nat.ne_of_lt (Nat.lt_of_lt_of_le lt (by omega))
  have n2:¬c∈ps:=fun hc=>Nat.lt_irrefl _ (Nat.lt_of_lt_of_le lt (inP c hc).1)
  rw[if_neg n1,if_neg n2]
  exact e
 have I2:Inv X pins σ H2 { s1 with heap:=h'' }:=by
  refine Inv.grow (t':=s1.toks) I1 kk2 up fun c o e=>?_
  have e:(if c=h'.objs.size then some (HO.lst (ps.map V.ref)) else if c∈ps then some (.tup [xs.getD (ps.idxOf c) .non,ys.getD (ps.idxOf c) .non]) else H1 c)=some o:=e
  split at e
  ·rename_i ec
   cases e
   subst ec
   refine .inr ⟨by omega,?_,ps.map Value.ref,cn,?_,?_⟩
   ·rw[List.length_map,e2];simp;omega
   ·clear e1 e2 e3 up inP hacc hS hS' e
    induction ps with
    | nil=>exact .nil
    | cons p ps ih=>exact .cons rfl ih
   ·rw[hS',←e1,Array.toArray_toList]
  ·split at e
   ·rename_i hc
    cases e
    obtain⟨g0,_,x,y,ux,uy,g1,g2,_,_,g3,g4,g5⟩:=inP c hc
    refine .inr ⟨g0,?_⟩
    rw[g1,g2]
    exact⟨Nat.le_of_lt (zaY (show 2≤1000 by decide)),[ux,uy],.cons g3 (.cons g4 .nil),_,g5,rfl,_,rfl⟩
   ·exact .inl e
 refine⟨.ref h'.objs.size,H2,I2,rfl,q H2 h'.objs.size ps (I1.hok.fresh (by omega)) up (by show(if _ then _ else _)=_;rw[if_pos rfl]) (fun j x y hx hy=>?_) (by rw[e2];simp;omega)⟩
 have lj:j < ps.length:=by rw[e2];simp;rw[←l1];exact(List.getElem?_eq_some_iff.mp hx).1
 have hj:=List.getElem?_eq_getElem lj
 refine⟨ps[j],hj,.inl (.inl ?_)⟩
 obtain⟨g0,g00,x',y',ux,uy,g1,g2,g1',g2',g3,g4,g5⟩:=inP ps[j] (List.getElem_mem lj)
 obtain⟨vx,vy,k1,k2,k3,_⟩:=e3 _ _ hj
 have k1':its[j]?=some vx:=by simpa using k1
 have k2':its2[j]?=some vy:=by simpa using k2
 obtain⟨w1,w2,w3⟩:=rv.get hx
 obtain⟨w4,w5,w6⟩:=rv2.get hy
 cases w2.symm.trans k1'
 cases w5.symm.trans k2'
 have ee:=Option.some.inj (g5.symm.trans k3)
 injection ee with _ _ ee
 injection ee with ee
 have e5:[ux,uy]=[vx,vy]:=congrArg Array.toList ee
 injection e5 with e6 e7
 injection e7 with e7
 subst e6 e7
 show(if _ then _ else _)=_
 rw[if_neg g00,if_pos (List.getElem_mem lj),g1,g2,g3.inj w3,g4.inj w6]
end
end L2
namespace L2
open PySem
section
variable {K:W.Frag} {h:Heap} {mg:Str→Option Value} {C f:Addr} {fd:FuncData} {n x q:Str} {st:Stmt} {oc kV doc pm cdv ct:Value} {od an:Option Addr} {osl:Array (Option Value)}
structure FT (K:W.Frag) (n x:Str) (st:Stmt) (f:Addr) (fd:FuncData):Prop where
 a:W.nsIn K mainGlobals n=some (some (.ref f))
 F:Fun K x x st f fd
 k:W.keepIn K (.ref f)=true
theorem FT.m (z:FT K n x st f fd) (X:K.In h) (G:h.Ns mainGlobals mg):mg n=some (.ref f):=W.mg_of X G z.a
theorem ft_in (a:W.nsIn K mainGlobals n=some (some (.ref f))) (l:K.lookup f=some ⟨oc,od,.func (W.fnOf x x (zcj st) (za3 st) (ar st) .none kV doc pm an cdv ct),osl⟩) (c:W.codeIn K cdv x=true) (k:W.keepIn K (.ref f)=true):FT K n x st f (W.fnOf x x (zcj st) (za3 st) (ar st) .none kV doc pm an cdv ct):=⟨a,zjn l c k,k⟩
structure FM (K:W.Frag) (C:Addr) (x q:Str) (st:Stmt) (f:Addr) (fd:FuncData):Prop where
 a:W.findIn K (.ref C) x=some (some (.ref f))
 i:W.isFn K (.ref f)=true
 F:Fun K x q st f fd
 k:W.keepIn K (.ref f)=true
theorem FM.M (z:FM K C x q st f fd):zbQ K C x f:=⟨z.a,z.i,z.k⟩
theorem fm_in (a:W.findIn K (.ref C) x=some (some (.ref f))) (i:W.isFn K (.ref f)=true) (l:K.lookup f=some ⟨oc,od,.func (W.fnOf x q (zcj st) (za3 st) (ar st) .none kV doc pm an cdv ct),osl⟩) (c:W.codeIn K cdv q=true) (k:W.keepIn K (.ref f)=true):FM K C x q st f (W.fnOf x q (zcj st) (za3 st) (ar st) .none kV doc pm an cdv ct):=⟨a,i,zjn l c k,k⟩
abbrev Bd (x q:Str) (st:Stmt) (ps:List Str) (us:List Value):Prop:=∀(kV doc pm:Value) (an:Option Addr) (cdv ct:Value),bindArgs (W.fnOf x q (zcj st) (za3 st) (ar st) .none kV doc pm an cdv ct) ⟨us,[]⟩=pure (ps.zip us)
theorem Fun.b1 {p:Str} (F:Fun K x q st f fd) (h:∀ a,Bd x q st [p] [a]):aD K fd [p] []:=F.binds fun kV doc pm an cdv ct us hl=>match us,hl with | [_],_=>h _ kV doc pm an cdv ct
theorem Fun.b2 {p p2:Str} (F:Fun K x q st f fd) (h:∀ a b,Bd x q st [p,p2] [a,b]):aD K fd [p,p2] []:=F.binds fun kV doc pm an cdv ct us hl=>match us,hl with | [_,_],_=>h _ _ kV doc pm an cdv ct
theorem Fun.b3 {p p2 p3:Str} (F:Fun K x q st f fd) (h:∀ a b c,Bd x q st [p,p2,p3] [a,b,c]):aD K fd [p,p2,p3] []:=F.binds fun kV doc pm an cdv ct us hl=>match us,hl with | [_,_,_],_=>h _ _ _ kV doc pm an cdv ct
theorem Fun.b4 {p p2 p3 p4:Str} (F:Fun K x q st f fd) (h:∀ a b c d,Bd x q st [p,p2,p3,p4] [a,b,c,d]):aD K fd [p,p2,p3,p4] []:=F.binds fun kV doc pm an cdv ct us hl=>match us,hl with | [_,_,_,_],_=>h _ _ _ _ kV doc pm an cdv ct
theorem Fun.top {p:Str} (F:Fun K x q st f fd) (h:∀ a,Bd x q st [p] [a]):∀(s:Shared) (v:Value),BindsTo s fd ⟨[v],[]⟩ [(p,v)]:=fun s v=>by
 obtain⟨oc,od,kV,doc,pm,an,cdv,ct,osl,rfl,lk,hcd⟩:=F.ex
 exact .of_eq (h v kV doc pm an cdv ct)
end
end L2
namespace W51
open PySem L2
def top (i:Nat):Stmt:=PySem.Challenge.pw_yesorno_k51_clashes.main.body.getD i (.Pass ⟨0,0,0,0⟩)
abbrev s_init:Stmt:=zci (top 2) 0
abbrev s_head:Stmt:=zci (top 2) 1
abbrev s_together:Stmt:=zci (top 2) 2
abbrev s_merge:Stmt:=zci (top 2) 3
abbrev s_given_links:Stmt:=top 3
abbrev s_alike_links:Stmt:=top 4
abbrev s_links:Stmt:=top 5
abbrev s_groups_of:Stmt:=top 6
abbrev s_heads:Stmt:=top 7
abbrev zdw:Stmt:=top 27
abbrev s_steps_of:Stmt:=top 29
abbrev s_way:Stmt:=top 30
abbrev s_part_pairs:Stmt:=top 31
abbrev s_ways:Stmt:=top 32
abbrev zcu:Stmt:=top 34
abbrev zb7:Stmt:=top 35
abbrev zbV:Stmt:=top 36
abbrev zb8:Stmt:=top 37
abbrev zfm:Stmt:=top 38
structure TxG (K:W.Frag) (mg:Str→Option Value) (C:Addr):Prop where
 cl:Cls K C
 nL:zb2 K C "least"
 nG:zb2 K C "gathered"
 min:mg "min"=none
 max:mg "max"=none
 range:mg "range"=none
structure Txt (K:W.Frag) (mg:Str→Option Value):Prop where
 len:mg "len"=none
 list:mg "list"=none
 range:mg "range"=none
 isinstance:mg "isinstance"=none
 int:mg "int"=none
 bool:mg "bool"=none
 min:mg "min"=none
 max:mg "max"=none
 tuple:mg "tuple"=none
 enumerate:mg "enumerate"=none
 zip:mg "zip"=none
 sorted:mg "sorted"=none
 dict:mg "dict"=none
 ib:W.kitOne K (.type "int") (.type "bool")=some false
def zgj (C:Addr):Sp:=fun vs H Q _=>∃(g dx:Addr),vs=[.ref g]∧H g=some (.ins C dx [])∧∀(H':Hp) (ld gd:Addr),(∀ b o,b≠g→H b=some o→H' b=some o)→H ld=none→H gd=none→ld≠gd→H' g=some (.ins C dx [("least",.ref ld),("gathered",.ref gd)])→H' ld=some (.dK [])→H' gd=some (.dK [])→Q .non H'
theorem zk1:zae ["self"] ["self"] (ar s_init):=⟨rfl,rfl,rfl,by decide +kernel,rfl,by decide +kernel,by decide +kernel⟩
section
variable {P:Program} {w:World} {K:W.Frag} {mg:Str→Option Value} {base:Heap} {C f fH fT fM fI fG:Addr} {fd dH dT' dM dI dG:FuncData}
theorem ok_init (F:Fun K "__init__" "Groups.__init__" s_init f fd) (T:TxG K mg C):aH P w K mg base CX0 1 f fd ["self"] (zgj C):=by
 refine F.ok zk1 (fun vs H Q E h=>?_) (fun cdv A outer s H vs Q E hr h=>?_)
 ·obtain⟨g,dx,rfl,_⟩:=h
  rfl
 obtain⟨g,dx,rfl,hg,q⟩:=h
 refine⟨_,(af (zeU (pv 0) zc2 rfl)
  (ak (zeU (pv 0) zc2 rfl))),?_⟩
 refine fun ld hld=>?_
 have n1:g≠ld:=zac hg hld
 have hg1:(upd H ld (.dK [])) g=some (.ins C dx []):=by rw[aj n1];exact hg
 have k1:∀ b o,H b=some o→(upd H ld (.dK [])) b=some o:=ai hld _
 have hl1:=ad (H:=H) (a:=ld) (o:=.dK [])
 generalize upd H ld (.dK [])=H1 at hg1 k1 hl1
 refine⟨_,rfl,g,C,dx,_,rfl,hg1,T.cl,T.nL,(by decide),?_⟩
 have hg2:(upd H1 g (.ins C dx (zbn "least" (.ref ld) []))) g=some (.ins C dx [("least",.ref ld)]):=ad
 have hl2:(upd H1 g (.ins C dx (zbn "least" (.ref ld) []))) ld=some (.dK []):=by rw[aj (Ne.symm n1)];exact hl1
 have k2:∀ b o,b≠g→H b=some o→(upd H1 g (.ins C dx (zbn "least" (.ref ld) []))) b=some o:=fun b o nb h=>by rw[aj nb];exact k1 b o h
 have f2:∀ b,(upd H1 g (.ins C dx (zbn "least" (.ref ld) []))) b=none→H b=none:=fun b h=>by
  cases e:H b with
  | none=>rfl
  | some o =>
   by_cases z:b=g
   ·rw[z,hg2]at h;cases h
   ·rw[k2 b o z e]at h;cases h
 generalize upd H1 g (.ins C dx (zbn "least" (.ref ld) []))=H2 at hg2 hl2 k2 f2
 refine fun gd hgd=>?_
 have n3:g≠gd:=zac hg2 hgd
 have n4:ld≠gd:=zac hl2 hgd
 refine⟨_,rfl,g,C,dx,_,rfl,by rw[aj n3];exact hg2,T.cl,T.nG,(by show 1 < 1000;decide),?_⟩
 refine q _ ld gd (fun b o nb h=>?_) hld (f2 gd hgd) n4 ad (by rw[aj (Ne.symm n1),aj n4];exact hl2) (by rw[aj (Ne.symm n3)];exact ad)
 have nbg:b≠gd:=fun z=>by rw[z,f2 gd hgd]at h;cases h
 rw[aj nb,aj nbg]
 exact k2 b o nb h
def zep (C:Addr):Sp:=fun vs H Q _=>∃(g ld gd:Addr) (t:Int) (N b:Nat) (hd:Int→Int) (av:List Addr),vs=[.ref g,.int t]∧GO H C g ld gd N b hd av∧Q (.int (hd t)) H
theorem zk2:zae ["self","term"] ["self","term"] (ar s_head):=⟨rfl,rfl,rfl,by decide +kernel,rfl,by decide +kernel,by decide +kernel⟩
theorem ok_head (F:Fun K "head" "Groups.head" s_head f fd) (T:TxG K mg C):aH P w K mg base CX0 1 f fd ["self","term"] (zep C):=by
 refine F.ok zk2 (fun vs H Q E h=>?_) (fun cdv A outer s H vs Q E hr h=>?_)
 ·obtain⟨g,ld,gd,t,N,b,hd,av,rfl,_⟩:=h
  rfl
 obtain⟨g,ld,gd,t,N,b,hd,av,rfl,G,q⟩:=h
 have hu:=zeE hr
 obtain⟨dx,kl,kg,h1,h2,h3,h4,h5,h6,h7⟩:=G.ex
 refine⟨_,(ak (aB (zeJ hu (zaj (pv 0) rfl) (pv 1) (pv 1) ⟨rfl,rfl,rfl,rfl⟩))),?_⟩
 refine⟨_,rfl,g,C,dx,_,_,rfl,h1,T.cl,T.nL,rfl,ld,rfl,.inl ⟨kl,.inl h2⟩,_,rfl,_,rfl,_,zbv.k (k:=Sum.inl t) h2,?_⟩
 rw[h4]
 exact q
def zea (C:Addr):Sp:=fun vs H Q _=>∃(g ld gd:Addr) (t u:Int) (N b:Nat) (hd:Int→Int) (av:List Addr),vs=[.ref g,.int t,.int u]∧GO H C g ld gd N b hd av∧Q (.bl (decide (hd t=hd u))) H
theorem zhP:zae ["self","one","other"] ["self","one","other"] (ar s_together):=⟨rfl,rfl,rfl,by decide +kernel,rfl,by decide +kernel,by decide +kernel⟩
theorem decV (x y:Int):decide (V.int x=V.int y)=decide (x=y):=decide_eq_decide.mpr ⟨fun z=>by injection z,fun z=>by rw[z]⟩
theorem ok_together (F:Fun K "together" "Groups.together" s_together f fd) (T:TxG K mg C) (M:zbQ K C "head" fH) (Bh:aH P w K mg base CX0 1 fH dH ["self","term"] (zep C)) (bh:aD K dH ["self","term"] []):aH P w K mg base CX0 2 f fd ["self","one","other"] (zea C):=by
 refine F.ok zhP (fun vs H Q E h=>?_) (fun cdv A outer s H vs Q E hr h=>?_)
 ·obtain⟨g,ld,gd,t,u,N,b,hd,av,rfl,_⟩:=h
  rfl
 obtain⟨g,ld,gd,t,u,N,b,hd,av,rfl,G,q⟩:=h
 obtain⟨dx,kl,kg,h1,h2,h3,h4,h5,h6,h7⟩:=G.ex
 refine⟨_,(ak (aB (zbO zaO (zay (pv 0) T.cl M Bh hr bh .nil aE (aa (pv 1) ac)) (zay (pv 0) T.cl M Bh hr bh .nil aE (aa (pv 2) ac)) (aF _)))),?_⟩
 refine⟨_,rfl,g,dx,_,rfl,h1,rfl,_,rfl,g,ld,gd,t,N,b,hd,av,rfl,G,_,rfl,g,dx,_,rfl,h1,rfl,_,rfl,g,ld,gd,u,N,b,hd,av,rfl,G,rfl,?_⟩
 rw[decV]
 exact q
def zeF (C:Addr):Sp:=fun vs H Q _=>∃(g ld gd:Addr) (t u:Int) (N b:Nat) (hd:Int→Int) (av:List Addr),vs=[.ref g,.int t,.int u]∧GO H C g ld gd N b hd av∧(0≤t∧t < (N:Int))∧(0≤u∧u < (N:Int))∧N≤100∧b≤1000∧(∀ a∈av,H a≠none)∧∀ H',zar ld gd H H'→GO H' C g ld gd N (b+1) (mrg hd t u) av→Q .non H'
theorem zdN:zae ["self","one","other","low","high","moved","term"] ["self","one","other"] (ar s_merge):=⟨rfl,rfl,rfl,by decide +kernel,rfl,by decide +kernel,by decide +kernel⟩
theorem zds {n:Nat} (h:n≤200000):n≤sizeLine:=by rw[sizeLine_eq];omega
theorem zdY {n:Nat} (h:n≤200000):n < sizeLine:=by rw[sizeLine_eq];omega
set_option maxHeartbeats 1000000 in
theorem merge3 (T:TxG K mg C) {cdv:Value} {A:Around} {outer:List Env} {s:Shared} {H0:Hp} {E:XK} (hr:aO 1 (A.deeper (PyProof.Rows.envOfC "Groups.merge" (ar s_merge) s.heap.objs.size f cdv))) :
  ∃ z,PSs (zcK CX0 P w K mg base ["self","one","other","low","high","moved","term"] "Groups.merge" (ar s_merge) f cdv A outer s H0 E).nox ((za3 s_merge).drop 3) z ∧
   ∀(D:zcX) (H:Hp) (g ld gd:Addr) (t u:Int) (N b:Nat) (hd:Int→Int) (av:List Addr),GO H C g ld gd N b hd av→(0≤t∧t < (N:Int))→(0≤u∧u < (N:Int))→N≤100→b≤1000→loF (hd t) (hd u)≠hiF (hd t) (hd u)→(∀ a∈av,H a≠none)→(∀ H' σ',zar ld gd H H'→GO H' C g ld gd N (b+1) (mrg hd t u) av→D.nx σ' H') →
    z D [some (.ref g),some (.int t),some (.int u),some (.int (loF (hd t) (hd u))),some (.int (hiF (hd t) (hd u))),none,none] H:=by
 have hu:=zeE hr
 refine⟨_,(af (ay (i:=5) zdN.nd rfl (Or.inl rfl) (zeJ hu (zaj (pv 0) rfl) (pv 4) (zas (aa (pv 4) ac)) ⟨rfl,rfl,rfl,rfl⟩))
  (af (zaE PassesOwn.never rfl (zbq (pv 5)) (zam (i:=6) zdN.nd rfl (Or.inl rfl))
   (ak (zeq hu (zaj (pv 0) rfl) (pv 6) (pv 3) rfl)))
  (ak (zeq hu (zaj (pv 0) rfl) (pv 3) (az zek (zeJ hu (zaj (pv 0) rfl) (pv 3) (zas (aa (pv 3) ac)) ⟨rfl,rfl,rfl,rfl⟩) (pv 5)) rfl)))),?_⟩
 rintro D H g ld gd t u N b hd av G ht hu' N100 b1000 e hav q
 obtain⟨dx,kl,kg,h1,h2,h3,h4,h5,h6,h7⟩:=G.ex
 have bN:b * N≤100000:=Nat.mul_le_mul b1000 N100
 obtain⟨mh,k1,k2,k3⟩:=h5 _ (G.h.hi_id t u)
 obtain⟨ml,l1,l2,l3⟩:=h5 _ (G.h.lo_id t u)
 have tN:=G.h.in' ht
 have uN:=G.h.in' hu'
 have lh:=lohi (hd t) (hd u)
 have mhl:=zic G.h (x:=hiF (hd t) (hd u)) (by omega) k1 k2
 have mll:=zic G.h (x:=loF (hd t) (hd u)) (by omega) l1 l2
 have ngl:g≠ld:=zax h1 h2 (by intro z;cases z)
 have ngg:g≠gd:=zax h1 h3 (by intro z;cases z)
 refine⟨_,rfl,g,C,dx,_,_,rfl,h1,T.cl,T.nG,rfl,gd,rfl,.inl ⟨kg,.inl h3⟩,_,rfl,_,rfl,lS1,fun l hl=>?_⟩
 have s1:ao H (upd H l (.lst [.int (hiF (hd t) (hd u))])):=ai hl _
 have n1:(upd H l (.lst [.int (hiF (hd t) (hd u))])) l=some (.lst ([hiF (hd t) (hd u)].map V.int)):=ad
 generalize upd H l (.lst [.int (hiF (hd t) (hd u))])=H1 at s1 n1
 obtain⟨am,eam,ham⟩:∃ am,(zat kg (Sum.inl (hiF (hd t) (hd u)))).getD (.ref l)=.ref am∧H1 am=some (.lst (mh.map V.int)):=by
  rcases k3 with ⟨k3,k4⟩ | ⟨a,k3,k4,_⟩
  ·rw[k3]
   refine⟨l,rfl,?_⟩
   rw[k4]
   exact n1
  ·rw[k3]
   exact⟨a,rfl,s1 _ _ k4⟩
 refine⟨_,zbv.k (k:=Sum.inl (hiF (hd t) (hd u))) (s1 _ _ h3),?_⟩
 rw[eam]
 have G1:=G.same s1
 have h11:=s1 _ _ h1
 have h21:=s1 _ _ h2
 have h31:=s1 _ _ h3
 have nal:am≠ld:=zax ham h21 (by intro z;cases z)
 have nag:am≠gd:=zax ham h31 (by intro z;cases z)
 refine⟨_,rfl,am,rfl,⟨_,SqL.of ham⟩,zbx zbd (fun i σ H'=>∃(v6:Option V) (kl':List (Key × V)),σ=[some (.ref g),some (.int t),some (.int u),some (.int (loF (hd t) (hd u))),some (.int (hiF (hd t) (hd u))),some (.ref am),v6]∧zaP ld H1 H'∧H' ld=some (.dK kl')∧kl'.length≤kl.length+i∧∀ x:Int,(zat kl' (Sum.inl x)).getD (.int x)=.int (if x∈mh.take i then loF (hd t) (hd u) else hd x)) (fun i σ H' ⟨_,_,_,sx,_⟩=>SqL.of (sx _ _ nal ham)) ⟨none,kl,rfl,zaP.refl _ _,h21,Nat.le_refl _,fun x=>by simpa using h4 x⟩ ?_ ?_⟩
 ·rintro i σ H2 x H3 hi ⟨v6,kl',rfl,sx,hl2,ll,hv⟩ ⟨rfl,hx⟩
  obtain⟨k,hk,rfl⟩:=zaT (hx _ (SqL.of (sx _ _ nal ham)))
  rw[List.length_map]at hi
  refine⟨_,rfl,_,rfl,g,C,dx,_,_,rfl,sx _ _ ngl h11,T.cl,T.nL,rfl,_,rfl,ld,_,rfl,zeB.k (k:=Sum.inl k) hl2 (zdY (by omega)),_,_,rfl,sx.trans (zaP.put _ _),ad,?_,fun x=>?_⟩
  ·have:=zhx kl' (Sum.inl k) (.int (loF (hd t) (hd u)))
   show(zaw kl' (Sum.inl k) (.int (loF (hd t) (hd u)))).length≤_
   omega
  ·rw[zb4,zai hk]
   by_cases z:x=k
   ·subst z
    rw[if_pos rfl,if_pos (List.mem_append_right _ List.mem_cons_self)]
    rfl
   ·rw[if_neg (fun w=>z (by injection w)),hv]
    congr 1
    by_cases w:x∈mh.take i
    ·rw[if_pos w,if_pos (List.mem_append_left _ w)]
    ·rw[if_neg w,if_neg (fun y=>by
      rcases List.mem_append.mp y with y | y
      ·exact w y
      ·exact z (List.mem_singleton.mp y))]
 ·rintro σ H2 ⟨v6,kl',rfl,sx,hl2,ll,hv⟩
  rw[List.length_map]at ll
  rw[List.length_map,List.take_of_length_le (Nat.le_refl _)]at hv
  have h12:=sx _ _ ngl h11
  have h32:=sx _ _ (Ne.symm G.ne) h31
  have ham2:=sx _ _ nal ham
  refine⟨_,rfl,g,C,dx,_,_,rfl,h12,T.cl,T.nG,rfl,gd,rfl,.inl ⟨kg,.inl h32⟩,_,rfl,_,rfl,lS1,fun l2' hl2'=>?_⟩
  have s3:ao H2 (upd H2 l2' (.lst [.int (loF (hd t) (hd u))])):=ai hl2' _
  have n3:(upd H2 l2' (.lst [.int (loF (hd t) (hd u))])) l2'=some (.lst ([loF (hd t) (hd u)].map V.int)):=ad
  generalize upd H2 l2' (.lst [.int (loF (hd t) (hd u))])=H3 at s3 n3
  obtain⟨al,eal,hal⟩:∃ al,(zat kg (Sum.inl (loF (hd t) (hd u)))).getD (.ref l2')=.ref al∧H3 al=some (.lst (ml.map V.int)):=by
   rcases l3 with ⟨l3,l4⟩ | ⟨a,l3,l4,_⟩
   ·rw[l3]
    refine⟨l2',rfl,?_⟩
    rw[l4]
    exact n3
   ·rw[l3]
    have na:a≠ld:=zax l4 h2 (by intro z;cases z)
    exact⟨a,rfl,s3 _ _ (sx _ _ na (s1 _ _ l4))⟩
  refine⟨_,zbv.k (k:=Sum.inl (loF (hd t) (hd u))) (s3 _ _ h32),?_⟩
  rw[eal]
  refine⟨_,rfl,al,am,_,_,rfl,rfl,hal,s3 _ _ ham2,zds (by rw[List.length_map,List.length_map];omega),fun p hp=>?_⟩
  rw[←List.map_append]
  have s4:ao H3 (upd H3 p (.lst ((ml++mh).map V.int))):=ai hp _
  have n4:=ad (H:=H3) (a:=p) (o:=.lst ((ml++mh).map V.int))
  generalize upd H3 p (.lst ((ml++mh).map V.int))=H4 at s4 n4
  have s24:=s3.trans s4
  have h14:=s24 _ _ h12
  have h34:=s24 _ _ h32
  have hl4:=s24 _ _ hl2
  have npg:p≠gd:=zax n4 h34 (by intro z;cases z)
  refine⟨_,rfl,g,C,dx,_,_,rfl,h14,T.cl,T.nG,rfl,_,rfl,gd,_,rfl,zeB.k (k:=Sum.inl (loF (hd t) (hd u))) h34 (zdY (by omega)),?_⟩
  refine q _ _ ?_ ?_
  ·intro b' o' nb1 nb2 hb
   rw[aj nb2]
   exact s24 _ _ (sx _ _ nb1 (s1 _ _ hb))
  ·have l4:kl'.length≤(b+1) * N:=by
    rw[Nat.add_mul,Nat.one_mul]
    omega
   refine GO.merged (kl:=kl') (kg:=kg) (p:=p) (ml:=ml) (mh:=mh) (dx:=dx) G.h G.ne ht hu' e (by rw[aj ngg];exact h14) (by rw[aj G.ne];exact hl4) ad hv (fun x hx=>?_) l1 l2 k1 k2 (by rw[aj npg];exact n4) l4 (by omega) (fun z=>?_)
   ·obtain⟨ms,m1,m2,m3⟩:=h5 x hx
    refine⟨ms,m1,m2,?_⟩
    rcases m3 with m3 | ⟨a,m3,m4,m5⟩
    ·exact .inl m3
    ·have na:a≠ld:=zax m4 h2 (by intro z;cases z)
     have ng:a≠gd:=zax m4 h3 (by intro z;cases z)
     exact .inr ⟨a,m3,(by rw[aj ng];exact s24 _ _ (sx _ _ na (s1 _ _ m4))),m5⟩
   ·cases eo:H p with
    | none=>exact hav p z eo
    | some o =>
     by_cases c:p=ld
     ·rw[c,s3 _ _ hl2]at hp
      cases hp
     ·rw[s3 _ _ (sx _ _ c (s1 _ _ eo))]at hp
      cases hp
theorem ok_merge (F:Fun K "merge" "Groups.merge" s_merge f fd) (T:TxG K mg C) (M:zbQ K C "head" fH) (Bh:aH P w K mg base CX0 1 fH dH ["self","term"] (zep C)) (bh:aD K dH ["self","term"] []):aH P w K mg base CX0 2 f fd ["self","one","other"] (zeF C):=by
 refine F.ok zdN (fun vs H Q E h=>?_) (fun cdv A outer s H vs Q E hr h=>?_)
 ·obtain⟨g,ld,gd,t,u,N,b,hd,av,rfl,_⟩:=h
  rfl
 obtain⟨g,ld,gd,t,u,N,b,hd,av,rfl,G,ht,hu',N100,b1000,hav,q⟩:=h
 have hu:=zeE hr
 obtain⟨dx,kl,kg,h1,h2,h3,h4,h5,h6,h7⟩:=G.ex
 have bN:b * N≤100000:=Nat.mul_le_mul b1000 N100
 obtain⟨t3,h3',q3⟩:=merge3 (P:=P) (w:=w) (base:=base) (f:=f) (outer:=outer) (H0:=H) (E:=E) T hr
 refine⟨_,(af (ay (i:=3) zdN.nd rfl (Or.inl rfl) (zaa (zj5 rfl) rfl T.min PyProof.Rows.Boot.min (aa (zay (pv 0) T.cl M Bh hr bh .nil aE (aa (pv 1) ac)) (aa (zay (pv 0) T.cl M Bh hr bh .nil aE (aa (pv 2) ac)) ac))))
  (af (ay (i:=4) zdN.nd rfl (Or.inl rfl) (zaa (zj6 rfl) rfl T.max PyProof.Rows.Boot.max (aa (zay (pv 0) T.cl M Bh hr bh .nil aE (aa (pv 1) ac)) (aa (zay (pv 0) T.cl M Bh hr bh .nil aE (aa (pv 2) ac)) ac))))
  (af (zal (aw zaO (pv 3) (pv 4) (aF _))
   (ak zk9)
   zaf)
  h3'))),?_⟩
 refine⟨_,rfl,g,dx,_,rfl,h1,rfl,_,rfl,g,ld,gd,t,N,b,hd,av,rfl,G,_,rfl,g,dx,_,rfl,h1,rfl,_,rfl,g,ld,gd,u,N,b,hd,av,rfl,G,_,_,rfl,?_⟩
 refine⟨_,rfl,g,dx,_,rfl,h1,rfl,_,rfl,g,ld,gd,t,N,b,hd,av,rfl,G,_,rfl,g,dx,_,rfl,h1,rfl,_,rfl,g,ld,gd,u,N,b,hd,av,rfl,G,_,_,rfl,?_⟩
 refine⟨_,rfl,_,rfl,rfl,_,rfl,?_⟩
 show if decide (V.int (loF (hd t) (hd u))=V.int (hiF (hd t) (hd u)))=true then _ else _
 rw[decV]
 by_cases e:loF (hd t) (hd u)=hiF (hd t) (hd u)
 ·rw[decide_eq_true e]
  refine zaK (q H (fun _ _ _ _ h=>h) ?_)
  rw[zje e]
  exact G.mono (Nat.le_succ _)
 rw[decide_eq_false e]
 exact aP (q3 _ H g ld gd t u N b hd av G ht hu' N100 b1000 e hav fun H' σ' s' G'=>q H' s' G')
end
section
variable {P:Program} {w:World} {K:W.Frag} {mg:Str→Option Value} {base:Heap} {C f fH fT fM fI fG:Addr} {fd dH dT' dM dI dG:FuncData}
def zfb (K:W.Frag) (C:Addr):Sp:=fun vs H Q _=>∃(a:Addr) (xs:List V) (ls:List Lk) (N:Nat),vs=[.ref a]∧SqL K H a xs∧ah K H (ls.map dL) xs∧InN N ls∧N≤100∧ls.length≤1000∧∀(H':Hp) (g ld gd:Addr),ao H H'→H ld=none→H gd=none→GO H' C g ld gd N ls.length (hdL ls) []→Q (.ref g) H'
theorem zdR:zae ["links","groups","link"] ["links"] (ar s_groups_of):=⟨rfl,rfl,rfl,by decide +kernel,rfl,by decide +kernel,by decide +kernel⟩
theorem ok_groups_of (F:Fun K "groups_of" "groups_of" s_groups_of f fd) (T:TxG K mg C) (MK:Mk K C fI) (mC:mg "Groups"=some (.ref C)) (Bi:aH P w K mg base CX0 1 fI dI ["self"] (zgj C)) (bi:aD K dI ["self"] []) (M:zbQ K C "merge" fM) (Bm:aH P w K mg base CX0 2 fM dM ["self","one","other"] (zeF C)) (bm:aD K dM ["self","one","other"] []):aH P w K mg base CX0 3 f fd ["links"] (zfb K C):=by
 refine F.ok zdR (fun vs H Q E h=>?_) (fun cdv A outer s H vs Q E hr h=>?_)
 ·obtain⟨a,xs,ls,N,rfl,_⟩:=h
  rfl
 obtain⟨a,xs,ls,N,rfl,hS,hL,hN,N100,l1000,q⟩:=h
 have xl:xs.length=ls.length:=by rw[←hL.length,List.length_map]
 refine⟨_,(af (ay (i:=1) zdR.nd rfl (Or.inl rfl) (zeI MK Bi hr rfl mC bi .nil aE))
  (af (zaE PassesOwn.never rfl (zbq (pv 0)) (zam (i:=2) zdR.nd rfl (Or.inl rfl))
   (ak (zaB (zay (pv 1) T.cl M Bm hr bm .nil aE (aa (aq au (pv 2) ae (fun _ _=>rfl)) (aa (aq au (pv 2) ae (fun _ _=>rfl)) ac))))))
  (ak (aB (pv 1))))),?_⟩
 intro g dx ng ndx nex
 have s0:∀ b o,H b=some o→(upd (upd H dx (.own g)) g (.ins C dx [])) b=some o:=fun b o h=>by
  rw[aj (fun e=>by rw[e,ng]at h;cases h),aj (fun e=>by rw[e,ndx]at h;cases h)]
  exact h
 have hg0:=ad (H:=upd H dx (.own g)) (a:=g) (o:=.ins C dx [])
 have f0:∀ b,(upd (upd H dx (.own g)) g (.ins C dx [])) b=none→H b=none:=fun b h=>by
  cases e:H b with
  | none=>rfl
  | some o=>rw[s0 b o e]at h;cases h
 generalize upd (upd H dx (.own g)) g (.ins C dx [])=H0 at s0 hg0 f0
 refine⟨g,dx,rfl,hg0,fun H1 ld gd k1 nl ngd ne hg1 hl1 hgd1=>⟨rfl,?_⟩⟩
 have s1:ao H H1:=fun b o h=>k1 b o (fun e=>by rw[e,ng]at h;cases h) (s0 b o h)
 have G1:GO H1 C g ld gd N 0 (fun t=>t) []:=⟨Hd.zero N,ne,dx,[],[],hg1,hl1,hgd1,fun t=>rfl,fun x _=>⟨[x],by simp,fun t=>by simp,.inl ⟨rfl,rfl⟩⟩,Nat.zero_le _,Nat.zero_le _⟩
 have nld:H ld=none:=f0 ld nl
 have ngd':H gd=none:=f0 gd ngd
 refine⟨_,rfl,a,rfl,⟨_,s1.seq hS⟩,zbx (zbd (xs:=xs)) (fun i σ H'=>∃ v2,σ=[some (.ref a),some (.ref g),v2]∧ao H H'∧GO H' C g ld gd N i (hdL (ls.take i)) []) (fun i σ H' ⟨_,_,s2,_⟩=>s2.seq hS) ⟨none,rfl,s1,G1⟩ ?_ ?_⟩
 ·rintro i σ H2 x H3 hi ⟨v2,rfl,s2,G2⟩ ⟨rfl,hx⟩
  obtain⟨l,p,hl,rfl,hp⟩:=zdu hL (hx _ (s2.seq hS))
  have hp2:=s2.tup hp
  obtain⟨dx2,kl,kg,e1,_⟩:=id G2.ex
  have b:=hN l (List.mem_of_getElem? hl)
  have a0:atI [V.int l.1,V.int l.2.1,V.int l.2.2] 0=some (.int l.1):=aA (j:=0) rfl
  have a1:atI [V.int l.1,V.int l.2.1,V.int l.2.2] 1=some (.int l.2.1):=aA (j:=1) rfl
  refine⟨_,rfl,g,dx2,_,rfl,e1,rfl,_,rfl,p,_,_,_,rfl,rfl,hp2,a0,_,rfl,p,_,_,_,rfl,rfl,hp2,a1,g,ld,gd,l.1,l.2.1,N,i,_,[],rfl,G2,b.1,b.2,N100,by omega,(fun a ha=>nomatch ha),fun H4 s4 G4=>?_⟩
  refine⟨_,rfl,s2.ofG nld ngd' s4,?_⟩
  rw[zai hl,zbs]
  exact G4
 ·rintro σ H2 ⟨v2,rfl,s2,G2⟩
  rw[xl,List.take_length]at G2
  exact⟨_,rfl,q H2 g ld gd s2 nld ngd' G2⟩
end
section
variable {P:Program} {w:World} {K:W.Frag} {mg:Str→Option Value} {base:Heap} {C f fH fT fM fI fG:Addr} {fd dH dT' dM dI dG:FuncData}
def zen (ls:List Lk) (n:Nat):List Int:=(List.range n).map fun i:Nat=>hdL ls (i:Int)
theorem zhW (ls:List Lk) (n:Nat):zen ls (n+1)=zen ls n++[hdL ls (n:Int)]:=by
 unfold zen
 rw[List.range_succ,List.map_append]
 rfl
def sp_heads (K:W.Frag):Sp:=fun vs H Q _=>∃(a:Addr) (n:Nat) (xs:List V) (ls:List Lk) (N:Nat),vs=[.int (n:Int),.ref a]∧SqL K H a xs∧ah K H (ls.map dL) xs∧InN N ls∧N≤100∧ls.length≤1000∧n≤1000∧∀ H' l,ao H H'→H l=none→H' l=some (.lst ((zen ls n).map V.int))→Q (.ref l) H'
theorem zhu:zae ["many","links","groups"] ["many","links"] (ar s_heads):=⟨rfl,rfl,rfl,by decide +kernel,rfl,by decide +kernel,by decide +kernel⟩
theorem ok_heads (F:Fun K "heads" "heads" s_heads f fd) (T:TxG K mg C) (Bg:FB P w K mg base CX0 3 "groups_of" fG dG ["links"] (zfb K C)) (M:zbQ K C "head" fH) (Bh:aH P w K mg base CX0 1 fH dH ["self","term"] (zep C)) (bh:aD K dH ["self","term"] []):aH P w K mg base CX0 4 f fd ["many","links"] (sp_heads K):=by
 refine F.ok zhu (fun vs H Q E h=>?_) (fun cdv A outer s H vs Q E hr h=>?_)
 ·obtain⟨a,n,xs,ls,N,rfl,_⟩:=h
  rfl
 obtain⟨a,n,xs,ls,N,rfl,hS,hL,hN,N100,l1000,n1000,q⟩:=h
 have hr1:aO 1 _:=hr.mono (by decide)
 refine⟨_,(af (ay (i:=2) zhu.nd rfl (Or.inr rfl) (ax Bg.ok hr rfl Bg.m Bg.kp Bg.b .nil aE (aa (pv 1) ac)))
  (ak (aB (zdr (N':=["term","groups"]) (ix:=[2]) rfl rfl (by decide +kernel) (by decide +kernel) rfl (fun ok=>zb1 (sc:=ar s_heads) ok rfl (by decide +kernel) (by decide +kernel)) (by decide +kernel) rfl rfl (fun j i h=>match j,h with | 0,h=>by cases h;exact⟨_,rfl,rfl,.inl rfl,.inl rfl⟩ | n+1,h=>by simp at h) (zaZ rfl T.range (aa (pv 0) ac)) (fun _ _ _ _=>(zay (pv 1) T.cl M Bh hr1 bh .nil aE (aa (pv 0) ac))))))),?_⟩
 refine⟨_,rfl,a,xs,ls,N,rfl,hS,hL,hN,N100,l1000,fun H1 g ld gd s1 _ _ G=>?_⟩
 refine⟨_,rfl,_,rfl,by omega,by omega,fun D hD=>zcM zhg (fun i ys H'=>ao H1 H'∧ys=(zen ls i).map V.int) (fun _ _ _ _=>trivial) ⟨ai hD _,rfl⟩ ?_ ?_⟩
 ·rintro i ys H2 x H3 hi hly hDs ⟨s2,rfl⟩ ⟨rfl,rfl⟩
  have hi':i < n:=by
   have:i < ((n:Int)).toNat:=hi
   omega
  have G2:=G.same s2
  obtain⟨dx,kl,kg,e1,_⟩:=id G2.ex
  refine⟨_,rfl,g,dx,_,rfl,e1,rfl,_,rfl,g,ld,gd,_,N,_,_,_,rfl,G2,zaQ (bsz _ (by omega)) hi hly hDs ⟨s2.upd hD,?_⟩⟩
  rw[zhW,List.map_append]
  show _++[V.int (hdL ls (0+(i:Int)))]=_
  rw[Int.zero_add]
  rfl
 ·rintro ys H2 hDs ⟨s2,rfl⟩
  have hDs':H2 D=some (.lst ((zen ls ((n:Int)).toNat).map V.int)):=hDs
  rw[Int.toNat_natCast]at hDs'
  exact q H2 D (s1.trans s2) (s1.free hD) hDs'
end
end W51
namespace W51
open PySem L2
section
variable {P:Program} {w:World} {K:W.Frag} {mg:Str→Option Value} {base:Heap} {C f fd' fI fH fT fM fG fA:Addr} {fd dI dH dT' dM dG dA:FuncData}
def zew (K:W.Frag) (C:Addr):Sp:=fun vs H Q _=>∃(a g ld gd:Addr) (ys:List V) (gs:List (Int × Int)) (ts:List Tm),vs=[.ref a,.ref g]∧SqL K H a ys∧ah K H (gs.map dP) ys∧zis ts.length gs∧GO H C g ld gd ts.length 0 (hdL []) []∧ts.length≤100∧gs.length≤1000 ∧
 ∀(H':Hp) (fl:Addr) (ls:List Lk) (zs:List V),zar ld gd H H'→H fl=none→H' fl=some (.lst zs)→ah K H' (ls.map dL) zs→GO H' C g ld gd ts.length ls.length (hdL ls) [fl]→zah ts gs ls→zbC gs (hdL ls)→ls=gvF gs→Q (.ref fl) H'
theorem zcl:zae ["given","groups","found","number","pair"] ["given","groups"] (ar s_given_links):=⟨rfl,rfl,rfl,by decide +kernel,rfl,by decide +kernel,by decide +kernel⟩
theorem ok_given_links (F:Fun K "given_links" "given_links" s_given_links f fd) (T:TxG K mg C) (TE:mg "enumerate"=none) (MT:zbQ K C "together" fT) (Bt:aH P w K mg base CX0 2 fT dT' ["self","one","other"] (zea C)) (bt:aD K dT' ["self","one","other"] []) (MM:zbQ K C "merge" fM) (Bm:aH P w K mg base CX0 2 fM dM ["self","one","other"] (zeF C)) (bm:aD K dM ["self","one","other"] []):aH P w K mg base CX0 3 f fd ["given","groups"] (zew K C):=by
 refine F.ok zcl (fun vs H Q E h=>?_) (fun cdv A outer s H vs Q E hr h=>?_)
 ·obtain⟨a,g,ld,gd,ys,gs,ts,rfl,_⟩:=h
  rfl
 obtain⟨a,g,ld,gd,ys,gs,ts,rfl,hS,hL,hP,G,N100,g1000,q⟩:=h
 have yl:ys.length=gs.length:=by rw[←hL.length,List.length_map]
 refine⟨_,(af (ay (i:=2) zcl.nd rfl (Or.inl rfl) (zas ac))
  (af (zaE PassesOwn.never rfl (zgs rfl TE (aa (pv 0) ac)) (zha rfl (zc1 (zam (i:=3) zcl.nd rfl (Or.inl rfl)) (zc1 (zam (i:=4) zcl.nd rfl (Or.inl rfl)) zgt)))
   (ak (zal (zbk (zbj (zay (pv 1) T.cl MT Bt hr bt .nil aE (aa (aq au (pv 4) ae (fun _ _=>rfl)) (aa (aq au (pv 4) ae (fun _ _=>rfl)) ac)))))
     (af (zaB (zay (pv 1) T.cl MM Bm hr bm .nil aE (aa (aq au (pv 4) ae (fun _ _=>rfl)) (aa (aq au (pv 4) ae (fun _ _=>rfl)) ac))))
      (ak (zaB (zcy PySem.F.plainAttrs_list PySem.F.slot_list_append PySem.F.type_list_append za5 (pv 2) (aa (zaR (aa (aq au (pv 4) ae (fun _ _=>rfl)) (aa (aq au (pv 4) ae (fun _ _=>rfl)) (aa (pv 3) ac)))) ac)))))
     zaf)))
  (ak (aB (pv 2))))),?_⟩
 refine⟨lS0,fun fl hfl=>?_⟩
 have s1:zar ld gd H (upd H fl (.lst [])):=(ai hfl _).g
 have G1:GO (upd H fl (.lst [])) C g ld gd ts.length 0 (hdL []) [fl]:=(G.avoid hfl).same (ai hfl _)
 have n1:=ad (H:=H) (a:=fl) (o:=.lst [])
 generalize upd H fl (.lst [])=H1 at s1 G1 n1
 refine⟨_,rfl,a,rfl,⟨_,G.seqG s1 hS⟩,zbx zgh (fun i σ H'=>∃(v3 v4:Option V) (ls:List Lk) (zs:List V),σ=[some (.ref a),some (.ref g),some (.ref fl),v3,v4]∧zar ld gd H H'∧H' fl=some (.lst zs)∧ah K H' (ls.map dL) zs∧GO H' C g ld gd ts.length ls.length (hdL ls) [fl]∧zah ts gs ls∧(∀ j p,j < i→gs[j]?=some p→hdL ls p.1=hdL ls p.2)∧(gs.take i).foldl zeo ([],0)=(ls,i))
  (fun i σ H' ⟨_,_,_,_,_,s2,_⟩=>G.seqG s2 hS) ⟨none,none,[],[],rfl,s1,n1,ah.nil,G1,zah.nil _ _,(fun j p hj=>absurd hj (Nat.not_lt_zero _)),rfl⟩ ?_ ?_⟩
 ·rintro i σ H2 x H3 hi ⟨v3,v4,ls,zs,rfl,s2,hf2,has2,G2,R2,g2,gf⟩ ⟨t,y,rfl,ht,rfl,hy⟩
  obtain⟨pr,p,hpr,rfl,hp⟩:=zgu hL (hy _ (G.seqG s2 hS))
  have s3:zar ld gd H (upd H2 t (.tup [.int i,.ref p])):=s2.trans (ai ht _).g
  have s23:ao H2 (upd H2 t (.tup [.int i,.ref p])):=ai ht _
  have G3:=G2.same s23
  have hf3:=s23 _ _ hf2
  have has3:=ah.keep s23.kt (zaF _) has2
  have n3:=ad (H:=H2) (a:=t) (o:=.tup [.int i,.ref p])
  generalize upd H2 t (.tup [.int i,.ref p])=H3 at s3 s23 G3 hf3 has3 n3
  have hp3:=(G.ktG s3).sq hp
  have b:=hP pr (List.mem_of_getElem? hpr)
  have a0:atI [V.int pr.1,V.int pr.2] 0=some (.int pr.1):=aA (j:=0) rfl
  have a1:atI [V.int pr.1,V.int pr.2] 1=some (.int pr.2):=aA (j:=1) rfl
  have ll:=R2.len
  have gf':(gs.take (i+1)).foldl zeo ([],0)=zeo (ls,i) pr:=by rw[zai hpr,List.foldl_append,gf];rfl
  obtain⟨dx,kl,kg,e1,_⟩:=id G3.ex
  refine⟨t,_,rfl,SqT.of n3,rfl,_,_,rfl,_,_,rfl,rfl,?_⟩
  refine⟨_,rfl,g,dx,_,rfl,e1,rfl,_,rfl,p,_,_,_,rfl,rfl,hp3,a0,_,rfl,p,_,_,_,rfl,rfl,hp3,a1,g,ld,gd,pr.1,pr.2,_,_,_,_,rfl,G3,_,rfl,?_⟩
  by_cases c:hdL ls pr.1=hdL ls pr.2
  ·rw[decide_eq_true c]
   refine aP ⟨_,_,ls,zs,rfl,s3,hf3,has3,G3,R2,fun j r hj hr'=>?_,?_⟩
   ·by_cases z:j=i
    ·subst z
     cases hpr.symm.trans hr'
     exact c
    ·exact g2 j r (by omega) hr'
   ·rw[gf']
    unfold zeo
    rw[if_pos c]
  ·rw[decide_eq_false c]
   refine zaK ⟨_,rfl,g,dx,_,rfl,e1,rfl,_,rfl,p,_,_,_,rfl,rfl,hp3,a0,_,rfl,p,_,_,_,rfl,rfl,hp3,a1,g,ld,gd,pr.1,pr.2,_,_,_,_,rfl,G3,b.1,b.2,N100,by omega,(fun z hz=>by cases List.mem_singleton.mp hz;rw[hf3];exact fun e=>nomatch e),fun H4 s4 G4=>?_⟩
   have s34:=s3.trans s4
   have hf4:=G3.lstG s4 hf3
   have has4:=ah.keep (G3.ktG s4) (zaF _) has3
   have hp4:=(G3.ktG s4).sq hp3
   refine⟨_,rfl,.inl ⟨rfl,_,SqL.of hf4⟩,_,rfl,p,_,_,_,rfl,rfl,hp4,a0,_,rfl,p,_,_,_,rfl,rfl,hp4,a1,_,rfl,lS3,fun u hu=>?_⟩
   have s5:ao H4 (upd H4 u (.tup [.int pr.1,.int pr.2,.int i])):=ai hu _
   have n5:=ad (H:=H4) (a:=u) (o:=.tup [.int pr.1,.int pr.2,.int i])
   have G5:=G4.same s5
   have s35:=s34.trans (s5.g (ld:=ld) (gd:=gd))
   have hf5:=s5 _ _ hf4
   have has5:=ah.keep s5.kt (zaF _) has4
   generalize upd H4 u (.tup [.int pr.1,.int pr.2,.int i])=H5 at s5 n5 G5 s35 hf5 has5
   have zl:zs.length=ls.length:=by rw[←has5.length,List.length_map]
   refine⟨fl,_,_,rfl,rfl,hf5,zaY (by omega),_,_,ls++[(pr.1,pr.2,(i:Int))],zs++[.ref u],rfl,s35.grow hfl,ad,?_,?_,R2.snoc ⟨b.1,b.2,c,.inl ⟨by show(0:Int)≤(i:Int);omega,by show gs[((i:Nat):Int).toNat]?=_;rw[Int.toNat_natCast];exact hpr⟩⟩,fun j r hj hr'=>?_,?_⟩
   ·rw[List.map_append]
    have kt:=zag.lst (ys:=zs++[.ref u]) hf5
    exact ah.append (ah.keep kt (zaF _) has5) (ah.one (zg3 (l:=(pr.1,pr.2,(i:Int))) (kt.sq (SqT.of n5))))
   ·rw[zbs,List.length_append]
    exact G5.putL List.mem_cons_self hf5
   ·by_cases z:j=i
    ·subst z
     cases hpr.symm.trans hr'
     exact zc4 _ _ (List.mem_append_right _ List.mem_cons_self)
    ·exact zd5 _ (g2 j r (by omega) hr')
   ·rw[gf']
    unfold zeo
    rw[if_neg c]
 ·rintro σ H2 ⟨v3,v4,ls,zs,rfl,s2,hf2,has2,G2,R2,g2,gf⟩
  rw[yl]at g2 gf
  rw[List.take_length]at gf
  refine⟨_,rfl,q H2 fl ls zs s2 hfl hf2 has2 G2 R2 (fun p hp=>?_) (by unfold gvF;rw[gf])⟩
  obtain⟨j,hj⟩:=List.mem_iff_getElem?.mp hp
  exact g2 j p (List.getElem?_eq_some_iff.mp hj).1 hj
def zex (K:W.Frag) (C:Addr):Sp:=fun vs H Q _=>∃(a g ld gd:Addr) (xs:List V) (gs:List (Int × Int)) (ts:List Tm) (ls:List Lk) (av:List Addr),vs=[.ref a,.ref g]∧SqL K H a xs∧ah K H (ts.map dTm) xs∧GO H C g ld gd ts.length ls.length (hdL ls) av∧(∀ z∈av,H z≠none)∧(∀ t∈ts,t.2.length≤100)∧ts.length≤100∧zah ts gs ls ∧
 ∀(H':Hp) (fl:Addr) (ms:List Lk) (zs:List V),zar ld gd H H'→H fl=none→H' fl=some (.lst zs)→ah K H' (ms.map dL) zs→GO H' C g ld gd ts.length (ls++ms).length (hdL (ls++ms)) av→zah ts gs (ls++ms)→(ms=[]→zbD ts (hdL ls))→ms=alF ts ls→Q (.ref fl) H'
theorem zba:zae ["terms","groups","noted","found","number","term","sign","first"] ["terms","groups"] (ar s_alike_links):=⟨rfl,rfl,rfl,by decide +kernel,rfl,by decide +kernel,by decide +kernel⟩
set_option maxHeartbeats 1000000 in
theorem ok_alike_links (F:Fun K "alike_links" "alike_links" s_alike_links f fd) (T:TxG K mg C) (TE:mg "enumerate"=none) (TT:mg "tuple"=none) (MH:zbQ K C "head" fH) (Bh:aH P w K mg base CX0 1 fH dH ["self","term"] (zep C)) (bh:aD K dH ["self","term"] []) (MT:zbQ K C "together" fT) (Bt:aH P w K mg base CX0 2 fT dT' ["self","one","other"] (zea C)) (bt:aD K dT' ["self","one","other"] []) (MM:zbQ K C "merge" fM) (Bm:aH P w K mg base CX0 2 fM dM ["self","one","other"] (zeF C)) (bm:aD K dM ["self","one","other"] []):aH P w K mg base CX0 3 f fd ["terms","groups"] (zex K C):=by
 refine F.ok zba (fun vs H Q E h=>?_) (fun cdv A outer s H vs Q E hr h=>?_)
 ·obtain⟨a,g,ld,gd,xs,gs,ts,ls,av,rfl,_⟩:=h
  rfl
 obtain⟨a,g,ld,gd,xs,gs,ts,ls,av,rfl,hS,hL,G,hav,t100,N100,R,q⟩:=h
 have hu:=zkR hr
 have hr1:aO 1 _:=hr.mono (by decide)
 have xl:xs.length=ts.length:=by rw[←hL.length,List.length_map]
 refine⟨_,(af (ay (i:=2) zba.nd rfl (Or.inl rfl) zc2)
  (af (ay (i:=3) zba.nd rfl (Or.inl rfl) (zas ac))
  (af (zaE PassesOwn.never rfl (zgs rfl TE (aa (pv 0) ac)) (zha rfl (zc1 (zam (i:=4) zba.nd rfl (Or.inl rfl)) (zc1 (zam (i:=5) zba.nd rfl (Or.inl rfl)) zgt)))
   (af (ay (i:=6) zba.nd rfl (Or.inl rfl) (zaR (aa (aq au (pv 5) ae (fun _ _=>rfl)) (aa (zaC za7 rfl TT PyProof.Rows.Boot.tuple (aa (zdr (N':=["part","groups"]) (ix:=[1]) rfl rfl (by decide +kernel) (by decide +kernel) rfl (fun ok=>zb1 (sc:=ar s_alike_links) ok rfl (by decide +kernel) (by decide +kernel)) (by decide +kernel) rfl rfl (fun j i h=>match j,h with | 0,h=>by cases h;exact⟨_,rfl,rfl,.inl rfl,.inl rfl⟩ | n+1,h=>by simp at h) (zcr (aq au (pv 5) ae (fun _ _=>rfl))) (fun _ _ _ _=>(zay (pv 1) T.cl MH Bh hr1 bh .nil aE (aa (pv 0) ac)))) ac)) ac))))
    (af (ay (i:=7) zba.nd rfl (Or.inl rfl) (zla hu (pv 2) (aa (pv 6) (aa (pv 4) ac))))
    (ak (zal (zbk (zbj (zay (pv 1) T.cl MT Bt hr bt .nil aE (aa (pv 7) (aa (pv 4) ac)))))
     (af (zaB (zay (pv 1) T.cl MM Bm hr bm .nil aE (aa (pv 7) (aa (pv 4) ac))))
      (ak (zaB (zcy PySem.F.plainAttrs_list PySem.F.slot_list_append PySem.F.type_list_append za5 (pv 3) (aa (zaR (aa (pv 7) (aa (pv 4) (aa (zcc zbB ae) ac)))) ac)))))
     zaf)))))
  (ak (aB (pv 3)))))),?_⟩
 refine fun nd hnd=>?_
 have s0:ao H (upd H nd (.dK [])):=ai hnd _
 have d0:SD P w (upd H nd (.dK [])) nd []:=.inl ⟨ad,rfl⟩
 generalize upd H nd (.dK [])=H0 at s0 d0
 refine⟨lS0,fun fl hfl=>?_⟩
 have hfl0:H fl=none:=s0.free hfl
 have s01:ao H0 (upd H0 fl (.lst [])):=ai hfl _
 have s1:zar ld gd H (upd H0 fl (.lst [])):=(s0.trans s01).g
 have G1:GO (upd H0 fl (.lst [])) C g ld gd ts.length ls.length (hdL ls) (fl :: av):=((G.same s0).avoid hfl).same s01
 have n1:=ad (H:=H0) (a:=fl) (o:=.lst [])
 have d1:SD P w (upd H0 fl (.lst [])) nd []:=d0.to fun o z=>s01 _ _ z
 generalize upd H0 fl (.lst [])=H1 at s1 G1 n1 d1 s01
 obtain⟨dx0,kl0,kg0,e10,e20,e30,_⟩:=id G.ex
 have ndl:nd≠ld:=Ne.symm (zac e20 hnd)
 have ndg:nd≠gd:=Ne.symm (zac e30 hnd)
 have ndf:nd≠fl:=fun e=>(e ▸ d1).nol _ n1
 have avl:∀ {H':Hp},zar ld gd H H'→(∃ zs,H' fl=some (.lst zs))→(∃ dx kl kg,H' g=some (.ins C dx [("least",.ref ld),("gathered",.ref gd)])∧H' ld=some (.dK kl)∧H' gd=some (.dK kg))→∀ z∈fl :: av,H' z≠none:=by
  rintro H' s' ⟨zs,hz⟩ ⟨dx,kl,kg,_,e2,e3⟩ z hz'
  rcases List.mem_cons.mp hz' with rfl | hz'
  ·rw[hz];exact fun e=>nomatch e
  ·by_cases c1:z=ld
   ·rw[c1,e2];exact fun e=>nomatch e
   ·by_cases c2:z=gd
    ·rw[c2,e3];exact fun e=>nomatch e
    ·cases eo:H z with
     | none=>exact absurd eo (hav z hz')
     | some o=>rw[s' z o c1 c2 eo];exact fun e=>nomatch e
 refine⟨_,rfl,a,rfl,⟨_,G.seqG s1 hS⟩,zbx zgh (fun i σ H'=>∃(v4 v5 v6 v7:Option V) (ms:List Lk) (zs:List V) (kvs:List SE),σ=[some (.ref a),some (.ref g),some (.ref nd),some (.ref fl),v4,v5,v6,v7]∧zar ld gd H H'∧H' fl=some (.lst zs)∧ah K H' (ms.map dL) zs∧GO H' C g ld gd ts.length (ls++ms).length (hdL (ls++ms)) (fl :: av)∧zah ts gs (ls++ms)∧SD P w H' nd kvs∧kvs.length≤i∧(∀ e∈kvs,zcN K H' e.1 e.2.1)∧zfx ts (hdL (ls++ms)) i kvs∧(ms=[]→zfW ts (hdL ls) i kvs)∧∃ nt,(ts.take i).foldl (zdI ls) ([],[],0)=(ms,nt,i)∧NtR kvs nt)
  (fun i σ H' ⟨_,_,_,_,_,_,_,_,s2,_⟩=>G.seqG s2 hS) ⟨none,none,none,none,[],[],[],rfl,s1,n1,ah.nil,by rw[List.append_nil];exact G1,by rw[List.append_nil];exact R,d1,Nat.le_refl _,(fun e he=>nomatch he),(fun e he=>nomatch he),(fun _ j t hj=>absurd hj (Nat.not_lt_zero _)),[],rfl,rfl⟩ ?_ ?_⟩
 ·rintro i σ H2 x H3 hi ⟨v4,v5,v6,v7,ms,zs,kvs,rfl,s2,hf2,has2,G2,R2,D2,l2,sg2,N2,A2,nt,nf,NR⟩ ⟨t,y,rfl,ht,rfl,hy⟩
  obtain⟨tm,p,pq,htm,rfl,hp,hpq⟩:=tm_at hL (hy _ (G.seqG s2 hS))
  have s23:ao H2 (upd H2 t (.tup [.int i,.ref p])):=ai ht _
  have n3:=ad (H:=H2) (a:=t) (o:=.tup [.int i,.ref p])
  generalize upd H2 t (.tup [.int i,.ref p])=H3 at s23 n3
  have k23:=(G.ktG s2).trans s23.kt
  have hp3:=k23.sq hp
  have hpq3:=k23.sq hpq
  have a0:atI [V.str tm.1,V.ref pq] 0=some (.str tm.1):=aA (j:=0) rfl
  have a1:atI [V.str tm.1,V.ref pq] 1=some (.ref pq):=aA (j:=1) rfl
  have lt:=t100 tm (List.mem_of_getElem? htm)
  refine⟨t,_,rfl,SqT.of n3,rfl,_,_,rfl,_,_,rfl,rfl,?_⟩
  refine⟨_,rfl,p,_,_,_,rfl,rfl,hp3,a0,_,rfl,p,_,_,_,rfl,rfl,hp3,a1,pq,rfl,⟨_,hpq3⟩,fun D hD=>zcM zbY (fun j ys H'=>ao H3 H'∧ys=((tm.2.take j).map (hdL (ls++ms))).map V.int) (fun j ys H' ⟨s4,_⟩=>s4.tup hpq3) ⟨ai hD _,rfl⟩ ?_ ?_⟩
  ·rintro j ys H4 x H5 hj hly hDs ⟨s4,rfl⟩ ⟨rfl,hx⟩
   obtain⟨n,hn,rfl⟩:=zaT (hx _ (s4.tup hpq3))
   have G4:=(G2.same s23).same s4
   obtain⟨dx,kl,kg,e1,_⟩:=id G4.ex
   rw[List.length_map]at hj
   refine⟨_,rfl,g,dx,_,rfl,e1,rfl,_,rfl,g,ld,gd,n,_,_,_,_,rfl,G4,zaQ (bsz _ (by rw[List.length_map];omega)) (by rw[List.length_map];exact hj) hly hDs ⟨s4.upd hD,?_⟩⟩
   rw[zai hn,List.map_append,List.map_append]
   rfl
  rintro ys H4 hDs ⟨s4,rfl⟩
  rw[List.length_map,List.take_of_length_le (Nat.le_refl _)]at hDs
  refine⟨D,_,rfl,.inl ⟨SqL.of hDs,fun u hu'=>?_⟩⟩
  have s45:ao H4 (upd H4 u (.tup ((tm.2.map (hdL (ls++ms))).map V.int))):=ai hu' _
  have n5:=ad (H:=H4) (a:=u) (o:=.tup ((tm.2.map (hdL (ls++ms))).map V.int))
  generalize upd H4 u (.tup ((tm.2.map (hdL (ls++ms))).map V.int))=H5 at s45 n5
  refine⟨lS2,fun sg hsg=>?_⟩
  have s56:ao H5 (upd H5 sg (.tup [.str tm.1,.ref u])):=ai hsg _
  have n6:=ad (H:=H5) (a:=sg) (o:=.tup [.str tm.1,.ref u])
  have n65:=s56 _ _ n5
  generalize upd H5 sg (.tup [.str tm.1,.ref u])=H6 at s56 n6 n65
  have s26:ao H2 H6:=((s23.trans s4).trans s45).trans s56
  have sH6:zar ld gd H H6:=s2.trans s26.g
  have G6:=G2.same s26
  have hf6:=s26 _ _ hf2
  have has6:=ah.keep s26.kt (zaF _) has2
  have D6:SD P w H6 nd kvs:=D2.to fun o z=>s26 _ _ z
  have sg6:∀ e∈kvs,zcN K H6 e.1 e.2.1:=fun e he=>(sg2 e he).keep s26.kt
  have sgn6:zcN K H6 (zby tm (hdL (ls++ms))) sg:=⟨u,SqT.of n6,by
   show SqT K H6 u (((tm.2.map (hdL (ls++ms))).map Sum.inl).map kV)
   rw[List.map_map]
   exact SqT.of n65⟩
  have Hh:=zii R2.inn
  have idm:(tm.2.map (hdL (ls++ms))).map (hdL (ls++ms))=tm.2.map (hdL (ls++ms)):=by
   rw[List.map_map]
   exact List.map_congr_left fun z _=>Hh.idem z
  have iN:i < ts.length:=by rw[←xl];exact hi
  have zl:zs.length=ms.length:=by rw[←has6.length,List.length_map]
  have ll:=R2.len
  rw[List.length_append]at ll
  have nf':(ts.take (i+1)).foldl (zdI ls) ([],[],0)=zdI ls (ms,nt,i) tm:=by rw[zai htm,List.foldl_append,nf];rfl
  obtain⟨dx,kl,kg,e1,e2,e3,_⟩:=id G6.ex
  refine⟨_,rfl,⟨nd,kvs,rfl,D6⟩,_,rfl,_,rfl,nd,sg,zby tm (hdL (ls++ms)),.int i,kvs,rfl,rfl,D6,zaY (by omega),sg6,sgn6,?_⟩
  cases ha:atS kvs (zby tm (hdL (ls++ms))) with
  | none =>
   have fn:nt.find? (fun e=>decide (e.1=zby tm (hdL (ls++ms))))=none:=by
    rcases NR.at (k:=zby tm (hdL (ls++ms))) with ⟨e,x,y1,y2,y3⟩ | ⟨y1,y2⟩
    ·rw[ha]at y1;cases y1
    ·exact y2
   refine .inr ⟨rfl,?_⟩
   have G7:GO (upd H6 nd (zdv P w nd (kvs++[(zby tm (hdL (ls++ms)),sg,.int i)]))) C g ld gd ts.length (ls++ms).length (hdL (ls++ms)) (fl :: av):=G6.put (.inr D6.nol) (fun z=>D6.noi (z ▸ e1)) ndl ndg
   have kt:=zag.sd (o:=zdv P w nd (kvs++[(zby tm (hdL (ls++ms)),sg,.int i)])) D6
   have D7:SD P w (upd H6 nd (zdv P w nd (kvs++[(zby tm (hdL (ls++ms)),sg,.int i)]))) nd (kvs++[(zby tm (hdL (ls++ms)),sg,.int i)]):=.inr ad
   have sH7:zar ld gd H (upd H6 nd (zdv P w nd (kvs++[(zby tm (hdL (ls++ms)),sg,.int i)]))):=sH6.grow hnd
   have hf7:(upd H6 nd (zdv P w nd (kvs++[(zby tm (hdL (ls++ms)),sg,.int i)]))) fl=some (.lst zs):=by rw[aj (Ne.symm ndf)];exact hf6
   obtain⟨dx7,kl7,kg7,e17,_⟩:=id G7.ex
   refine⟨_,rfl,g,dx7,_,rfl,e17,rfl,_,rfl,_,rfl,g,ld,gd,i,i,_,_,_,_,rfl,G7,_,rfl,?_⟩
   rw[decide_eq_true (show hdL (ls++ms) (i:Int)=hdL (ls++ms) (i:Int) from rfl)]
   refine aP ⟨_,_,_,_,ms,zs,_,rfl,sH7,hf7,ah.keep kt (zaF _) has6,G7,R2,D7,?_,fun e he=>?_,fun e he=>?_,fun em j t' hj ht'=>?_,nt++[(zby tm (hdL (ls++ms)),(i:Int))],?_,NR.snoc⟩
   ·rw[List.length_append]
    show kvs.length+1≤i+1
    omega
   ·rcases List.mem_append.mp he with he | he
    ·exact(sg6 e he).keep kt
    ·cases List.mem_singleton.mp he
     exact sgn6.keep kt
   ·rcases List.mem_append.mp he with he | he
    ·obtain⟨j,t',es,z1,z2,z3⟩:=N2 e he
     exact⟨j,t',es,z1,by omega,z3⟩
    ·cases List.mem_singleton.mp he
     exact⟨i,tm,_,rfl,by omega,htm,rfl,idm⟩
   ·subst em
    rw[List.append_nil]at ha
    rw[List.append_nil]
    by_cases c:j=i
    ·subst c
     cases htm.symm.trans ht'
     exact⟨_,_,zlz ha,rfl,rfl⟩
    ·obtain⟨e,k,z1,z2,z3⟩:=A2 rfl j t' (by omega) ht'
     exact⟨e,k,zkK (k2:=zby tm (hdL ls)) z1,z2,z3⟩
   ·rw[nf']
    unfold zdI
    rw[fn]
  | some e =>
   refine .inl ⟨e,rfl,?_⟩
   obtain⟨em,ek⟩:=zlA ha
   obtain⟨j,tj,es,z1,z2,z3,z4,z5⟩:=N2 e em
   obtain⟨x,fx,xj⟩:∃ x,nt.find? (fun e=>decide (e.1=zby tm (hdL (ls++ms))))=some x∧x.2=(j:Int):=by
    rcases NR.at (k:=zby tm (hdL (ls++ms))) with ⟨e',x,y1,y2,y3⟩ | ⟨y1,y2⟩
    ·cases ha.symm.trans y1
     refine⟨x,y2,?_⟩
     have:=y3.symm.trans z1
     injection this
    ·rw[ha]at y1;cases y1
   rw[z1]
   refine⟨_,rfl,g,dx,_,rfl,e1,rfl,_,rfl,_,rfl,g,ld,gd,j,i,_,_,_,_,rfl,G6,_,rfl,?_⟩
   by_cases c:hdL (ls++ms) (j:Int)=hdL (ls++ms) (i:Int)
   ·rw[decide_eq_true c]
    refine aP ⟨_,_,_,_,ms,zs,kvs,rfl,sH6,hf6,has6,G6,R2,D6,by omega,sg6,(fun e he=>by
     obtain⟨j,t',es,z1,z2,z3⟩:=N2 e he
     exact⟨j,t',es,z1,by omega,z3⟩),fun em' k t' hk ht'=>?_,nt,?_,NR⟩
    ·by_cases c2:k=i
     ·subst c2
      cases htm.symm.trans ht'
      subst em'
      rw[List.append_nil]at ha c
      exact⟨e,j,ha,z1,c⟩
     ·exact A2 em' k t' (by omega) ht'
    ·rw[nf']
     unfold zdI
     rw[fx]
     show(if hdL (ls++ms) x.2=hdL (ls++ms) (i:Int) then _ else _)=_
     rw[xj,if_pos c]
   ·rw[decide_eq_false c]
    have b1:(0:Int)≤(j:Int)∧(j:Int) < (ts.length:Int):=by omega
    have b2:(0:Int)≤(i:Int)∧(i:Int) < (ts.length:Int):=by omega
    refine zaK ⟨_,rfl,g,dx,_,rfl,e1,rfl,_,rfl,_,rfl,g,ld,gd,j,i,_,_,_,_,rfl,G6,b1,b2,N100,by rw[List.length_append];omega,avl sH6 ⟨_,hf6⟩ ⟨_,_,_,e1,e2,e3⟩,fun H7 s7 G7=>?_⟩
    have sH7:=sH6.trans s7
    have hf7:=G6.lstG s7 hf6
    have has7:=ah.keep (G6.ktG s7) (zaF _) has6
    have D7:SD P w H7 nd kvs:=D6.to fun o z=>s7 _ _ ndl ndg z
    have sg7:∀ e∈kvs,zcN K H7 e.1 e.2.1:=fun e he=>(sg6 e he).keep (G6.ktG s7)
    refine⟨_,rfl,.inl ⟨rfl,_,SqL.of hf7⟩,_,rfl,_,rfl,_,rfl,lS3,fun r hr'=>?_⟩
    have s78:ao H7 (upd H7 r (.tup [.int j,.int i,.int (-1)])):=ai hr' _
    have n8:=ad (H:=H7) (a:=r) (o:=.tup [.int j,.int i,.int (-1)])
    have G8:=G7.same s78
    have sH8:=sH7.trans (s78.g (ld:=ld) (gd:=gd))
    have hf8:=s78 _ _ hf7
    have has8:=ah.keep s78.kt (zaF _) has7
    have D8:SD P w (upd H7 r (.tup [.int j,.int i,.int (-1)])) nd kvs:=D7.to fun o z=>s78 _ _ z
    have sg8:∀ e∈kvs,zcN K (upd H7 r (.tup [.int j,.int i,.int (-1)])) e.1 e.2.1:=fun e he=>(sg7 e he).keep s78.kt
    generalize upd H7 r (.tup [.int j,.int i,.int (-1)])=H8 at s78 n8 G8 sH8 hf8 has8 D8 sg8
    have kt:=zag.lst (ys:=zs++[.ref r]) hf8
    have al:zb3 ts (hdL (ls++ms)) (j:Int) (i:Int):=by
     refine⟨tj,tm,by rw[Int.toNat_natCast];exact z3,by rw[Int.toNat_natCast];exact htm,?_,?_⟩
     ·have:=congrArg Prod.fst (z4.symm.trans ek)
      exact this
     ·have h2:es.map Sum.inl=(tm.2.map (hdL (ls++ms))).map Sum.inl:=congrArg Prod.snd (z4.symm.trans ek)
      rw[←z5,zif h2]
      exact idm
    have R8:zah ts gs (ls++(ms++[((j:Int),(i:Int),(-1:Int))])):=by
     rw[←List.append_assoc]
     exact R2.snoc ⟨b1,b2,c,.inr ⟨rfl,al⟩⟩
    refine⟨fl,_,_,rfl,rfl,hf8,zaY (by omega),_,_,_,_,ms++[((j:Int),(i:Int),(-1:Int))],zs++[.ref r],kvs,rfl,sH8.grow hfl0,ad,?_,?_,R8,D8.to fun o z=>by rw[aj ndf];exact z,by omega,fun e he=>(sg8 e he).keep kt,?_,(fun z=>absurd z (by simp)),nt,?_,NR⟩
    ·rw[List.map_append]
     exact ah.append (ah.keep kt (zaF _) has8) (ah.one (zg3 (l:=((j:Int),(i:Int),(-1:Int))) (kt.sq (SqT.of n8))))
    ·rw[←List.append_assoc,zbs,List.length_append]
     exact G8.putL List.mem_cons_self hf8
    ·rw[←List.append_assoc]
     exact N2.more _ (by omega)
    ·rw[nf']
     unfold zdI
     rw[fx]
     show(if hdL (ls++ms) x.2=hdL (ls++ms) (i:Int) then _ else _)=_
     rw[xj,if_neg c]
 ·rintro σ H2 ⟨v4,v5,v6,v7,ms,zs,kvs,rfl,s2,hf2,has2,G2,R2,D2,l2,sg2,N2,A2,nt,nf,NR⟩
  rw[xl]at A2 nf
  rw[List.take_length]at nf
  exact⟨_,rfl,q H2 fl ms zs s2 hfl0 hf2 has2 (G2.sub fun z hz=>List.mem_cons_of_mem _ hz) R2 (fun z=>(A2 z).closed) (by unfold alF;rw[nf])⟩
def sp_links (K:W.Frag):Sp:=fun vs H Q _=>∃(a ga:Addr) (xs ys:List V) (gs:List (Int × Int)) (ts:List Tm),vs=[.ref a,.ref ga]∧SqL K H a xs∧ah K H (ts.map dTm) xs∧SqL K H ga ys∧ah K H (gs.map dP) ys∧zis ts.length gs∧(∀ t∈ts,t.2.length≤100)∧ts.length≤100∧gs.length≤1000 ∧
 ∀(H':Hp) (l:Addr) (ls:List Lk) (zs:List V),ao H H'→H l=none→H' l=some (.lst zs)→ah K H' (ls.map dL) zs→zah ts gs ls→zbC gs (hdL ls)→zbD ts (hdL ls)→ls=zel ts gs→Q (.ref l) H'
theorem zdO:zae ["terms","given","groups","found","more"] ["terms","given"] (ar s_links):=⟨rfl,rfl,rfl,by decide +kernel,rfl,by decide +kernel,by decide +kernel⟩
set_option maxHeartbeats 1000000 in
theorem ok_links (F:Fun K "links" "links" s_links f fd) (TL:mg "len"=none) (MK:Mk K C fI) (mC:mg "Groups"=some (.ref C)) (Bi:aH P w K mg base CX0 1 fI dI ["self"] (zgj C)) (bi:aD K dI ["self"] []) (Bgv:FB P w K mg base CX0 3 "given_links" fG dG ["given","groups"] (zew K C)) (Bal:FB P w K mg base CX0 3 "alike_links" fA dA ["terms","groups"] (zex K C)):aH P w K mg base CX0 4 f fd ["terms","given"] (sp_links K):=by
 refine F.ok zdO (fun vs H Q E h=>?_) (fun cdv A outer s H vs Q E hr h=>?_)
 ·obtain⟨a,ga,xs,ys,gs,ts,rfl,_⟩:=h
  rfl
 obtain⟨a,ga,xs,ys,gs,ts,rfl,hS,hL,hSg,hLg,hP,t100,N100,g1000,q⟩:=h
 have hr2:aO 2 _:=hr.mono (by decide)
 refine⟨_,(af (ay (i:=2) zdO.nd rfl (Or.inl rfl) (zeI MK Bi hr2 rfl mC bi .nil aE))
  (af (ay (i:=3) zdO.nd rfl (Or.inl rfl) (ax Bgv.ok hr rfl Bgv.m Bgv.kp Bgv.b .nil aE (aa (pv 1) (aa (pv 2) ac))))
  (af (ay (i:=4) zdO.nd rfl (Or.inl rfl) (ax Bal.ok hr rfl Bal.m Bal.kp Bal.b .nil aE (aa (pv 0) (aa (pv 2) ac))))
  (af (zfP PassesOwn.never (aw zdX (zaa zab rfl TL PySem.boot_len (aa (pv 4) ac)) ae (aF _))
   (af (zaB (zcy PySem.F.plainAttrs_list PySem.F.slot_list_extend PySem.F.type_list_extend zgN (pv 3) (aa (pv 4) ac)))
    (ak (ay (i:=4) zdO.nd rfl (Or.inl rfl) (ax Bal.ok hr rfl Bal.m Bal.kp Bal.b .nil aE (aa (pv 0) (aa (pv 2) ac)))))))
  (ak (aB (pv 3))))))),?_⟩
 intro g dx ng ndx nex
 have s0:∀ b o,H b=some o→(upd (upd H dx (.own g)) g (.ins C dx [])) b=some o:=fun b o h=>by
  rw[aj (fun e=>by rw[e,ng]at h;cases h),aj (fun e=>by rw[e,ndx]at h;cases h)]
  exact h
 have hg0:=ad (H:=upd H dx (.own g)) (a:=g) (o:=.ins C dx [])
 have f0:∀ b,(upd (upd H dx (.own g)) g (.ins C dx [])) b=none→H b=none:=fun b h=>by
  cases e:H b with
  | none=>rfl
  | some o=>rw[s0 b o e]at h;cases h
 generalize upd (upd H dx (.own g)) g (.ins C dx [])=H0 at s0 hg0 f0
 refine⟨g,dx,rfl,hg0,fun H1 ld gd k1 nl ngd ne hg1 hl1 hgd1=>⟨rfl,?_⟩⟩
 have s1:ao H H1:=fun b o h=>k1 b o (fun e=>by rw[e,ng]at h;cases h) (s0 b o h)
 have G1:GO H1 C g ld gd ts.length 0 (hdL []) []:=⟨Hd.zero _,ne,dx,[],[],hg1,hl1,hgd1,fun t=>rfl,fun x _=>⟨[x],by simp,fun t=>by show t∈[x]↔t=x;simp,.inl ⟨rfl,rfl⟩⟩,Nat.zero_le _,Nat.zero_le _⟩
 have nld:H ld=none:=f0 ld nl
 have ngd':H gd=none:=f0 gd ngd
 refine⟨_,rfl,_,rfl,ga,g,ld,gd,ys,gs,ts,rfl,s1.seq hSg,ah.keep s1.kt (za9 _) hLg,hP,G1,N100,g1000,fun H2 fl fs zs s2 hfl hfl2 has2 G2 R2 g2 ef=>?_⟩
 have sH2:=s1.ofG nld ngd' s2
 refine⟨_,rfl,_,rfl,a,g,ld,gd,xs,gs,ts,fs,[fl],rfl,sH2.seq hS,ah.keep sH2.kt (zc3 _) hL,G2,(fun z hz=>by cases List.mem_singleton.mp hz;rw[hfl2];exact fun e=>nomatch e),t100,N100,R2,fun H3 ml ms ws s3 hml hml3 has3 G3 R3 c3 em=>?_⟩
 have sH3:=sH2.ofG nld ngd' s3
 have hflH:H fl=none:=s1.free hfl
 refine⟨fun m σ H'=>∃(ml:Addr) (fs ms:List Lk) (zs ws:List V),σ=[some (.ref a),some (.ref ga),some (.ref g),some (.ref fl),some (.ref ml)]∧m=ts.length+1 - fs.length∧ao H H'∧H' fl=some (.lst zs)∧ah K H' (fs.map dL) zs∧H' ml=some (.lst ws)∧ah K H' (ms.map dL) ws∧GO H' C g ld gd ts.length (fs++ms).length (hdL (fs++ms)) [fl]∧zah ts gs (fs++ms)∧zbC gs (hdL (fs++ms))∧(ms=[]→zbD ts (hdL fs))∧ms=alF ts fs∧∃ k:Nat,ts.length < k+fs.length∧lkF ts k fs=zel ts gs,
  ⟨_,ml,fs,ms,zs,ws,rfl,rfl,sH3,G2.lstG s3 hfl2,ah.keep (G2.ktG s3) (zaF _) has2,hml3,has3,G3,R3,g2.more _,c3,em,ts.length+1,by omega,by rw[ef];rfl⟩,?_⟩
 rintro m σ H4 ⟨ml,fs,ms,zs,ws,rfl,rfl,s4,hf4,has4,hm4,hasm4,G4,R4,g4,c4,em4,k4,kl4,ek4⟩
 have wl:ws.length=ms.length:=by rw[←hasm4.length,List.length_map]
 have zl:zs.length=fs.length:=by rw[←has4.length,List.length_map]
 have ll:=R4.len
 rw[List.length_append]at ll
 refine⟨_,rfl,ml,_,rfl,.inl (SqL.of hm4),_,_,rfl,rfl,_,rfl,?_⟩
 by_cases c:ms=[]
 ·subst c
  rw[List.length_nil]at wl
  rw[List.append_nil]at G4 R4 g4
  rw[show decide (((ws.length:Nat):Int) > 0)=false by rw[wl];rfl]
  have er:fs=zel ts gs:=by
   rw[←ek4]
   cases k4 with
   | zero =>
    rfl
   | succ k =>
    show fs=if alF ts fs=[] then fs else _
    rw[if_pos em4.symm]
  exact aP ⟨_,rfl,q H4 fl fs zs s4 hflH hf4 has4 R4 g4 (c4 rfl) er⟩
 have mp:0 < ms.length:=List.length_pos_iff.mpr c
 rw[show decide (((ws.length:Nat):Int) > 0)=true from decide_eq_true (by omega)]
 refine zaK ⟨fun σ' H'=>∃(ml':Addr) (ms':List Lk) (ws':List V),σ'=[some (.ref a),some (.ref ga),some (.ref g),some (.ref fl),some (.ref ml')]∧ao H H'∧H' fl=some (.lst (zs++ws))∧ah K H' ((fs++ms).map dL) (zs++ws)∧H' ml'=some (.lst ws')∧ah K H' (ms'.map dL) ws'∧GO H' C g ld gd ts.length ((fs++ms)++ms').length (hdL ((fs++ms)++ms')) [fl]∧zah ts gs ((fs++ms)++ms')∧zbC gs (hdL ((fs++ms)++ms'))∧(ms'=[]→zbD ts (hdL (fs++ms)))∧ms'=alF ts (fs++ms)∧∃ k:Nat,ts.length < k+(fs++ms).length∧lkF ts k (fs++ms)=zel ts gs,?_,?_⟩
 ·rintro σ' H' ⟨ml',ms',ws',rfl,z⟩
  refine⟨_,?_,ml',fs++ms,ms',zs++ws,ws',rfl,rfl,z⟩
  rw[List.length_append]
  omega
 refine⟨_,rfl,.inl ⟨rfl,_,SqL.of hf4⟩,_,rfl,fl,ml,zs,ws,rfl,rfl,hf4,hm4,zds (by omega),?_⟩
 have kt:=zag.lst (ys:=zs++ws) hf4
 have s5:ao H (upd H4 fl (.lst (zs++ws))):=s4.upd hflH
 have G5:GO (upd H4 fl (.lst (zs++ws))) C g ld gd ts.length (fs++ms).length (hdL (fs++ms)) [fl]:=G4.putL List.mem_cons_self hf4
 have n5:=ad (H:=H4) (a:=fl) (o:=.lst (zs++ws))
 have has5:ah K (upd H4 fl (.lst (zs++ws))) ((fs++ms).map dL) (zs++ws):=by
  rw[List.map_append]
  exact ah.append (ah.keep kt (zaF _) has4) (ah.keep kt (zaF _) hasm4)
 generalize upd H4 fl (.lst (zs++ws))=H5 at s5 G5 n5 has5
 refine⟨_,rfl,_,rfl,a,g,ld,gd,xs,gs,ts,fs++ms,[fl],rfl,s5.seq hS,ah.keep s5.kt (zc3 _) hL,G5,(fun z hz=>by cases List.mem_singleton.mp hz;rw[n5];exact fun e=>nomatch e),t100,N100,R4,fun H6 ml6 ms6 ws6 s6 hml6 hml66 has6 G6 R6 c6 em6=>?_⟩
 exact⟨ml6,ms6,ws6,rfl,s5.ofG nld ngd' s6,G5.lstG s6 n5,ah.keep (G5.ktG s6) (zaF _) has5,hml66,has6,G6,R6,g4.more _,c6,em6,k4 - 1,(by rw[List.length_append];omega),by
  cases k4 with
  | zero=>omega
  | succ k =>
   rw[←ek4]
   show lkF ts k (fs++ms)=if alF ts fs=[] then fs else lkF ts k (fs++alF ts fs)
   rw[←em4,if_neg c]⟩
end
end W51
namespace W51
open PySem L2
def alikeB (ts:List Tm) (hd:Int→Int) (a b:Int):Bool:=match ts[a.toNat]?,ts[b.toNat]? with
 | some t,some u=>decide (t.1=u.1)&&decide (t.2.map hd=u.2.map hd)
 | _,_=>false
theorem alikeB_iff {ts:List Tm} {hd:Int→Int} {a b:Int}:alikeB ts hd a b=true↔zb3 ts hd a b:=by
 unfold alikeB zb3
 cases h1:ts[a.toNat]? with
 | none=>simp
 | some t =>
  cases h2:ts[b.toNat]? with
  | none=>simp
  | some u=>simp
def Forest (L:List Lk):Prop:=∀ i l,L[i]?=some l→hdL (L.take i) l.1≠hdL (L.take i) l.2.1
def Cut (L:List Lk) (q:Nat) (c:Int→Bool):Prop:=∀ i l,L[i]?=some l→(if i=q then c l.1≠c l.2.1 else c l.1=c l.2.1)
theorem zgD {L:List Lk} {i j:Nat} {l:Lk} (h:L[j]?=some l) (hj:j < i):hdL (L.take i) l.1=hdL (L.take i) l.2.1 :=
 zc4 _ l (List.mem_of_getElem? (i:=j) (by rw[List.getElem?_take,if_pos hj];exact h))
theorem zjs {L:List Lk} (F:Forest L) {q:Nat} {lq:Lk} (hq:L[q]?=some lq):∀ n,q+1+n≤L.length→∃ c,Cut (L.take (q+1+n)) q c
 | 0,_=>by
  refine⟨fun t=>decide (hdL (L.take q) t=hdL (L.take q) lq.1),fun i l hi=>?_⟩
  rw[List.getElem?_take]at hi
  split at hi
  ·rename_i lt
   split
   ·rename_i e
    subst e
    cases hq.symm.trans hi
    have:=F i lq hq
    simp only[decide_true,ne_eq]
    intro z
    exact this (of_decide_eq_true z.symm).symm
   ·rename_i e
    dsimp only
    rw[zgD hi (show i < q by omega)]
  ·cases hi
 | n+1,h=>by
  obtain⟨c,hc⟩:=zjs F hq n (by omega)
  have lt:q+1+n < L.length:=by omega
  obtain⟨r,hr⟩:∃ r,L[q+1+n]?=some r:=⟨_,List.getElem?_eq_getElem lt⟩
  have old:∀ i l,L[i]?=some l→i < q+1+n→(if i=q then c l.1≠c l.2.1 else c l.1=c l.2.1):=fun i l hi lt=>hc i l (by rw[List.getElem?_take,if_pos lt];exact hi)
  by_cases e:c r.1=c r.2.1
  ·refine⟨c,fun i l hi=>?_⟩
   rw[List.getElem?_take]at hi
   split at hi
   ·rename_i lt2
    by_cases ei:i=q+1+n
    ·subst ei
     cases hr.symm.trans hi
     rw[if_neg (by omega)]
     exact e
    ·exact old i l hi (by omega)
   ·cases hi
  ·refine⟨fun t=>if hdL (L.take (q+1+n)) t=hdL (L.take (q+1+n)) r.2.1 then !c t else c t,fun i l hi=>?_⟩
   rw[List.getElem?_take]at hi
   split at hi
   ·rename_i lt2
    by_cases ei:i=q+1+n
    ·subst ei
     cases hr.symm.trans hi
     rw[if_neg (by omega)]
     dsimp only
     rw[if_pos rfl,if_neg (F _ _ hr)]
     revert e
     cases c r.1 <;> cases c r.2.1 <;> simp
    ·have o:=old i l hi (by omega)
     have tl:=zgD hi (show i < q+1+n by omega)
     dsimp only
     rw[tl]
     by_cases z:hdL (L.take (q+1+n)) l.2.1=hdL (L.take (q+1+n)) r.2.1
     ·rw[if_pos z,if_pos z]
      split at o
      ·rw[if_pos ‹_›]
       revert o
       cases c l.1 <;> cases c l.2.1 <;> simp
      ·rw[if_neg ‹_›,o]
     ·rw[if_neg z,if_neg z]
      exact o
   ·cases hi
theorem cut_at {L:List Lk} (F:Forest L) {q:Nat} (hq:q < L.length):∃ c,Cut L q c:=by
 obtain⟨c,h⟩:=zjs F (List.getElem?_eq_getElem hq) (L.length - (q+1)) (by omega)
 rw[show q+1+(L.length - (q+1))=L.length by omega,List.take_length]at h
 exact⟨c,h⟩
theorem RightL_forest {ts:List Tm} {gs:List (Int × Int)} {L:List Lk} (h:zah ts gs L):Forest L:=fun i l hi=>(h i l hi).new
theorem same_cls {α:Type} (c:Int→α) {S:List Lk} (h:∀ l∈S,c l.1=c l.2.1) {t u:Int} (e:hdL S t=hdL S u):c t=c u :=
 ((zgb (fun x=>c x=c u) S (fun l hl=>by rw[h l hl]) t u e).mpr rfl)
structure PathOk (L:List Lk) (π:List Nat) (x y:Int):Prop where
 inn:∀ q∈π,q < L.length
 walk:∀(c:Int→Int),(∀ q∈π,∀ l,L[q]?=some l→c l.1=c l.2.1)→c x=c y
 cut:∀ q∈π,∀ c:Int→Bool,Cut L q c→c x≠c y
theorem PathOk.nil (L:List Lk) (x:Int):PathOk L [] x x:=⟨by simp,fun _ _=>rfl,by simp⟩
theorem PathOk.step {L:List Lk} {π:List Nat} {x y z:Int} {p:Nat} {l:Lk} (h:PathOk L π x y) (hp:L[p]?=some l) (hz:(l.1=y∧l.2.1=z)∨(l.2.1=y∧l.1=z)) (np:p∉π):PathOk L (π++[p]) x z:=by
 have lt:=(List.getElem?_eq_some_iff.mp hp).1
 refine⟨fun q hq=>?_,fun c hc=>?_,fun q hq c hc=>?_⟩
 ·rcases List.mem_append.mp hq with a | a
  ·exact h.inn q a
  ·rw[List.mem_singleton.mp a];exact lt
 ·have e1:=h.walk c fun q hq l hl=>hc q (List.mem_append_left _ hq) l hl
  have e2:=hc p (List.mem_append_right _ (List.mem_singleton.mpr rfl)) l hp
  rcases hz with ⟨a,b⟩ | ⟨a,b⟩
  ·rw[e1,←a,e2,b]
  ·rw[e1,←a,←e2,b]
 ·by_cases eq:q=p
  ·subst eq
   have e1:(if c x=true then(1:Int) else 0)=if c y=true then 1 else 0:=h.walk (fun t=>if c t=true then 1 else 0) fun q' hq' l' hl'=>by
    have:=hc q' l' hl'
    rw[if_neg (fun e:q'=q=>np (e ▸ hq'))]at this
    rw[this]
   have e2:=hc q l hp
   rw[if_pos rfl]at e2
   have e3:c x=c y:=by revert e1;cases c x <;> cases c y <;> simp
   rcases hz with ⟨a,b⟩ | ⟨a,b⟩
   ·rw[e3,←a,←b];exact e2
   ·rw[e3,←a,←b];exact fun z=>e2 z.symm
  ·have hq':q∈π:=by
    rcases List.mem_append.mp hq with a | a
    ·exact a
    ·exact absurd (List.mem_singleton.mp a) eq
   have e1:=h.cut q hq' c hc
   have e2:=hc p l hp
   rw[if_neg (fun e=>eq e.symm)]at e2
   rcases hz with ⟨a,b⟩ | ⟨a,b⟩
   ·rw[←b,←e2,a];exact e1
   ·rw[←b,e2,a];exact e1
theorem PathOk.below {L:List Lk} (F:Forest L) {π:List Nat} {x y:Int} {k:Nat} (h:PathOk L π x y) (e:hdL (L.take k) x=hdL (L.take k) y):∀ q∈π,q < k:=fun q hq=>by
 refine Decidable.byContradiction fun n=>?_
 obtain⟨c,hc⟩:=cut_at F (h.inn q hq)
 refine h.cut q hq c hc (same_cls c (S:=L.take k) (fun l hl=>?_) e)
 obtain⟨i,hi⟩:=List.mem_iff_getElem?.mp hl
 rw[List.getElem?_take]at hi
 split at hi
 ·have:=hc i l hi
  rw[if_neg (by omega)]at this
  exact this
 ·cases hi
theorem PathOk.joins {L:List Lk} {π:List Nat} {x y:Int} (h:PathOk L π x y):hdL L x=hdL L y:=h.walk (hdL L) fun q _ l hl=>zc4 L l (List.mem_of_getElem? hl)
def pairsF (ts:List Tm) (l:Lk):List (Int × Int):=if l.2.2=-1 then(match ts[l.1.toNat]?,ts[l.2.1.toNat]? with | some t,some u=>t.2.zip u.2 | _,_=>[]) else []
theorem zeQ {hd:Int→Int}:∀ {as bs:List Int},as.map hd=bs.map hd→∀ p∈as.zip bs,hd p.1=hd p.2
 | [],_,_,p,h=>by simp at h
 | _ :: _,[],h,_,_=>by simp at h
 | a :: as,b :: bs,h,p,hp=>by
  rw[List.map_cons,List.map_cons]at h
  injection h with h1 h2
  rw[List.zip_cons_cons]at hp
  rcases List.mem_cons.mp hp with e | e
  ·rw[e];exact h1
  ·exact zeQ h2 p e
theorem eq_map_zip {hd:Int→Int}:∀ {as bs:List Int},as.length=bs.length→(∀ p∈as.zip bs,hd p.1=hd p.2)→as.map hd=bs.map hd
 | [],[],_,_=>rfl
 | a :: as,b :: bs,h,hp=>by
  rw[List.map_cons,List.map_cons,hp (a,b) (by rw[List.zip_cons_cons];exact List.mem_cons_self),eq_map_zip (by simpa using h) fun p q=>hp p (by rw[List.zip_cons_cons];exact List.mem_cons_of_mem _ q)]
theorem pairs_joined {ts:List Tm} {gs:List (Int × Int)} {L:List Lk} (R:zah ts gs L) {k:Nat} {l:Lk} (hl:L[k]?=some l):∀ p∈pairsF ts l,hdL (L.take k) p.1=hdL (L.take k) p.2:=fun p hp=>by
 unfold pairsF at hp
 split at hp
 ·rename_i e
  rcases(R k l hl).how with ⟨a,_⟩ | ⟨_,t,u,e1,e2,_,e4⟩
  ·omega
  ·rw[e1,e2]at hp
   exact zeQ e4 p hp
 ·simp at hp
structure Needs (ts:List Tm) (L:List Lk) (x y:Int) (M:List Nat):Prop where
 inn:∀ q∈M,q < L.length
 why:∀ q∈M,∃ π a b,PathOk L π a b∧q∈π∧((a=x∧b=y)∨∃ p∈M,∃ l,L[p]?=some l∧(a,b)∈pairsF ts l)
 top:∃ π,PathOk L π x y∧∀ q∈π,q∈M
 all:∀ p∈M,∀ l,L[p]?=some l→∀ ab∈pairsF ts l,∃ π,PathOk L π ab.1 ab.2∧∀ q∈π,q∈M
def atP (L:List Lk) (M:List Nat):List Lk:=M.map fun q=>L.getD q (0,0,0)
theorem getD_at {L:List Lk} {q:Nat} {l:Lk} (h:L[q]?=some l):L.getD q (0,0,0)=l:=by rw[List.getD_eq_getElem?_getD,h];rfl
theorem mem_atP {L:List Lk} {M:List Nat} {q:Nat} {l:Lk} (hq:q∈M) (h:L[q]?=some l):l∈atP L M:=List.mem_map.mpr ⟨q,hq,getD_at h⟩
theorem of_atP {L:List Lk} {M:List Nat} (hM:∀ q∈M,q < L.length) {l:Lk} (h:l∈atP L M):∃ q∈M,L[q]?=some l:=by
 obtain⟨q,hq,e⟩:=List.mem_map.mp h
 have e2:=List.getElem?_eq_getElem (hM q hq)
 rw[getD_at e2]at e
 exact⟨q,hq,by rw[e2,e]⟩
def joinsF (ts:List Tm):List Lk→List Lk→Int→Int→Bool
 | pre,[],x,y=>decide (hdL pre x=hdL pre y)
 | pre,l :: zau,x,y=>if l.2.2=-1∧alikeB ts (hdL pre) l.1 l.2.1=false then false else joinsF ts (pre++[l]) zau x y
theorem zga {ts:List Tm} {x y:Int}:∀(zau pre:List Lk),(∀(i:Nat) l,zau[i]?=some l→l.2.2=-1→zb3 ts (hdL (pre++zau.take i)) l.1 l.2.1)→hdL (pre++zau) x=hdL (pre++zau) y→joinsF ts pre zau x y=true
 | [],pre,_,h2=>by
  rw[List.append_nil]at h2
  exact decide_eq_true h2
 | l :: zau,pre,h1,h2=>by
  unfold joinsF
  have n:¬(l.2.2=-1∧alikeB ts (hdL pre) l.1 l.2.1=false):=fun⟨a,b⟩=>by
   have:=alikeB_iff.mpr (h1 0 l rfl a)
   rw[List.take_zero,List.append_nil,b]at this
   cases this
  rw[if_neg n]
  refine zga zau (pre++[l]) (fun i m hi hm=>?_) ?_
  ·have:=h1 (i+1) m hi hm
   rw[List.take_succ_cons]at this
   rw[List.append_assoc]
   exact this
  ·rw[List.append_assoc]
   exact h2
theorem joinsF_of {ts:List Tm} {x y:Int}:∀(zau pre:List Lk),joinsF ts pre zau x y=true→(∀ l∈zau,l.2.2=-1→zb3 ts (hdL (pre++zau)) l.1 l.2.1)∧hdL (pre++zau) x=hdL (pre++zau) y
 | [],pre,h=>by
  rw[List.append_nil]
  exact⟨by simp,of_decide_eq_true h⟩
 | l :: zau,pre,h=>by
  unfold joinsF at h
  split at h
  ·cases h
  ·rename_i n
   obtain⟨h1,h2⟩:=joinsF_of zau (pre++[l]) h
   rw[List.append_assoc]at h1 h2
   refine⟨fun m hm e=>?_,h2⟩
   rcases List.mem_cons.mp hm with z | z
   ·subst z
    have a:alikeB ts (hdL pre) m.1 m.2.1=true:=by
     cases b:alikeB ts (hdL pre) m.1 m.2.1 with
     | true=>rfl
     | false=>exact absurd ⟨e,b⟩ n
    obtain⟨t,u,e1,e2,e3,e4⟩:=alikeB_iff.mp a
    exact⟨t,u,e1,e2,e3,zec _ e4⟩
   ·exact h1 m z e
theorem Needs.joins {ts:List Tm} {gs:List (Int × Int)} {L:List Lk} {x y:Int} {M:List Nat} (h:Needs ts L x y M) (R:zah ts gs L) (so:M.Pairwise (· < ·)):joinsF ts [] (atP L M) x y=true:=by
 refine zga _ _ (fun i l hi hm=>?_) ?_
 ·rw[List.nil_append]
  unfold atP at hi ⊢
  rw[List.getElem?_map]at hi
  obtain⟨q,hq,e⟩:=Option.map_eq_some_iff.mp hi
  have hqM:=List.mem_of_getElem? hq
  have e2:=List.getElem?_eq_getElem (h.inn q hqM)
  rw[getD_at e2]at e
  rw[e]at e2
  rcases(R q l e2).how with ⟨a,_⟩ | ⟨_,t,u,t1,t2,t3,t4⟩
  ·omega
  have len:t.2.length=u.2.length:=by have:=congrArg List.length t4;simpa using this
  refine⟨t,u,t1,t2,t3,eq_map_zip len fun ab hab=>?_⟩
  have hp:ab∈pairsF ts l:=by unfold pairsF;rw[if_pos hm,t1,t2];exact hab
  obtain⟨π,P,sub⟩:=h.all q hqM l e2 ab hp
  have low:=P.below (RightL_forest R) (pairs_joined R e2 ab hp)
  refine P.walk _ fun r hr m hrm=>?_
  rw[←List.map_take]
  refine zc4 _ m (mem_atP (q:=r) ?_ hrm)
  have hrM:=sub r hr
  obtain⟨j,hj⟩:=List.mem_iff_getElem?.mp hrM
  have hjl:=(List.getElem?_eq_some_iff.mp hj)
  have hil:=(List.getElem?_eq_some_iff.mp hq)
  have lt:j < i:=by
   refine Decidable.byContradiction fun n=>?_
   have rq:=low r hr
   by_cases ej:j=i
   ·subst ej
    cases hj.symm.trans hq
    omega
   ·have:=List.pairwise_iff_getElem.mp so i j hil.1 hjl.1 (by omega)
    rw[hil.2,hjl.2]at this
    omega
  exact List.mem_of_getElem? (i:=j) (by rw[List.getElem?_take,if_pos lt];exact hj)
 ·rw[List.nil_append]
  obtain⟨π,P,sub⟩:=h.top
  exact P.walk _ fun r hr m hrm=>zc4 _ m (mem_atP (sub r hr) hrm)
theorem Needs.least {ts:List Tm} {gs:List (Int × Int)} {L:List Lk} {x y:Int} {M M':List Nat} {q:Nat} (h:Needs ts L x y M) (R:zah ts gs L) (hq:q∈M) (h1:∀ p∈M',p∈M∧p≠q) (h2:∀ p∈M,p≠q→p∈M'):joinsF ts [] (atP L M') x y=false:=by
 refine Bool.eq_false_iff.mpr fun z=>?_
 obtain⟨j1,j2⟩:=joinsF_of _ _ z
 rw[List.nil_append]at j1 j2
 obtain⟨c,hc⟩:=cut_at (RightL_forest R) (h.inn q hq)
 have cst:∀ l∈atP L M',c l.1=c l.2.1:=fun l hl=>by
  obtain⟨p,hp,e⟩:=of_atP (fun p hp=>h.inn p (h1 p hp).1) hl
  have:=hc p l e
  rw[if_neg (h1 p hp).2]at this
  exact this
 obtain⟨π,a,b,P,hqπ,w⟩:=h.why q hq
 refine P.cut q hqπ c hc ?_
 rcases w with ⟨rfl,rfl⟩ | ⟨p,hp,l,hl,hab⟩
 ·exact same_cls c cst j2
 ·by_cases ep:p=q
  ·subst ep
   have:=P.below (RightL_forest R) (pairs_joined R hl (a,b) hab) p hqπ
   omega
  ·have hm:l.2.2=-1:=by
    unfold pairsF at hab
    split at hab
    ·assumption
    ·simp at hab
   obtain⟨t,u,t1,t2,_,t4⟩:=j1 l (mem_atP (h2 p hp ep) hl) hm
   unfold pairsF at hab
   rw[if_pos hm,t1,t2]at hab
   exact same_cls c cst (zeQ t4 (a,b) hab)
end W51
namespace W51
open PySem L2
def nbr1 (L:List Lk) (t:Int) (i:Nat):List (Int × Int):=match L[i]? with
 | some l=>(if l.1=t then [(l.2.1,(i:Int))] else [])++(if l.2.1=t then [(l.1,(i:Int))] else [])
 | none=>[]
def nbr (L:List Lk) (n:Nat) (t:Int):List (Int × Int):=(List.range n).flatMap (nbr1 L t)
theorem zkw (L:List Lk) (n:Nat) (t:Int):nbr L (n+1) t=nbr L n t++nbr1 L t n:=by
 unfold nbr
 rw[List.range_succ,List.flatMap_append,List.flatMap_cons,List.flatMap_nil,List.append_nil]
theorem zln {L:List Lk} {n:Nat} {t u p:Int} (h:(u,p)∈nbr L n t):∃(i:Nat) (l:Lk),p=(i:Int)∧L[i]?=some l∧((l.1=t∧l.2.1=u)∨(l.2.1=t∧l.1=u)):=by
 unfold nbr at h
 obtain⟨i,_,hi⟩:=List.mem_flatMap.mp h
 unfold nbr1 at hi
 cases e:L[i]? with
 | none=>rw[e]at hi;simp at hi
 | some l =>
  rw[e]at hi
  dsimp only at hi
  refine⟨i,l,?_⟩
  rcases List.mem_append.mp hi with a | a
  ·by_cases c:l.1=t
   ·rw[if_pos c]at a
    have:=List.mem_singleton.mp a
    injection this with a1 a2
    exact⟨a2,e,.inl ⟨c,a1.symm⟩⟩
   ·rw[if_neg c]at a;simp at a
  ·by_cases c:l.2.1=t
   ·rw[if_pos c]at a
    have:=List.mem_singleton.mp a
    injection this with a1 a2
    exact⟨a2,e,.inr ⟨c,a1.symm⟩⟩
   ·rw[if_neg c]at a;simp at a
theorem zlk {L:List Lk} {n i:Nat} {l:Lk} (hi:i < n) (h:L[i]?=some l):(l.2.1,(i:Int))∈nbr L n l.1∧(l.1,(i:Int))∈nbr L n l.2.1:=by
 unfold nbr
 constructor
 ·refine List.mem_flatMap.mpr ⟨i,List.mem_range.mpr hi,?_⟩
  unfold nbr1
  rw[h]
  dsimp only
  rw[if_pos rfl]
  exact List.mem_append_left _ (List.mem_singleton.mpr rfl)
 ·refine List.mem_flatMap.mpr ⟨i,List.mem_range.mpr hi,?_⟩
  unfold nbr1
  rw[h]
  dsimp only
  exact List.mem_append_right _ (by rw[if_pos rfl];exact List.mem_singleton.mpr rfl)
structure StD (K:W.Frag) (H0 H:Hp) (d:Addr) (kvs:List (Key × V)) (N:Int→List (Int × Int)) (b:Nat):Prop where
 hd:H d=some (.dK kvs)
 nd:H0 d=none
 len:kvs.length≤b
 big:∀ t,(N t).length≤b
 at_:∀ t,(zat kvs (.inl t)=none∧N t=[])∨∃ l xs,zat kvs (.inl t)=some (.ref l)∧H l=some (.lst xs)∧H0 l=none∧l≠d∧ah K H ((N t).map dP) xs
 inj:∀ t u l,zat kvs (.inl t)=some (.ref l)→zat kvs (.inl u)=some (.ref l)→t=u
 same:ao H0 H
theorem StD.step {K:W.Frag} {H0 H H':Hp} {d l:Addr} {kvs kvs':List (Key × V)} {N:Int→List (Int × Int)} {b:Nat} {k u i:Int} {xs':List V} (S:StD K H0 H d kvs N b) (same:ao H0 H') (hd:H' d=some (.dK kvs')) (len:kvs'.length≤b+1) (kt:zag H H')
  (hk:zat kvs' (.inl k)=some (.ref l)) (hl:H' l=some (.lst xs')) (nl:H0 l=none) (ld:l≠d) (has:ah K H' ((N k++[(u,i)]).map dP) xs') (oth:∀ t,t≠k→zat kvs' (.inl t)=zat kvs (.inl t))
  (kl:∀ t l' ys,t≠k→zat kvs (.inl t)=some (.ref l')→H l'=some (.lst ys)→H' l'=some (.lst ys)∧l'≠l):StD K H0 H' d kvs' (fun t=>if t=k then N t++[(u,i)] else N t) (b+1):=by
 refine⟨hd,S.nd,len,fun t=>?_,fun t=>?_,fun t v l2 h1 h2=>?_,same⟩
 ·have:=S.big t
  split
  ·rw[List.length_append];show _+1≤_;omega
  ·omega
 ·by_cases e:t=k
  ·subst e
   refine .inr ⟨l,xs',hk,hl,nl,ld,?_⟩
   rw[if_pos rfl]
   exact has
  ·rw[if_neg e,oth t e]
   rcases S.at_ t with a | ⟨l2,ys,a1,a2,a3,a4,a5⟩
   ·exact .inl a
   ·exact .inr ⟨l2,ys,a1,(kl t l2 ys e a1 a2).1,a3,a4,ah.keep kt (za9 _) a5⟩
 ·by_cases e1:t=k
  ·by_cases e2:v=k
   ·rw[e1,e2]
   ·subst e1
    rw[hk]at h1
    cases h1
    rw[oth v e2]at h2
    rcases S.at_ v with a | ⟨l3,ys,a1,a2,_⟩
    ·rw[a.1]at h2;cases h2
    ·rw[a1]at h2
     cases h2
     exact absurd rfl (kl v _ ys e2 a1 a2).2
  ·by_cases e2:v=k
   ·subst e2
    rw[hk]at h2
    cases h2
    rw[oth t e1]at h1
    rcases S.at_ t with a | ⟨l3,ys,a1,a2,_⟩
    ·rw[a.1]at h1;cases h1
    ·rw[a1]at h1
     cases h1
     exact absurd rfl (kl t _ ys e1 a1 a2).2
   ·rw[oth t e1]at h1
    rw[oth v e2]at h2
    exact S.inj t v l2 h1 h2
theorem StD.old {K:W.Frag} {H0 H:Hp} {d l e p:Addr} {kvs:List (Key × V)} {N:Int→List (Int × Int)} {b:Nat} {k u i:Int} {xs:List V} (S:StD K H0 H d kvs N b) (he:H e=none) (hp:(upd H e (.lst [])) p=none)
  (hk:zat kvs (.inl k)=some (.ref l)) (hl:H l=some (.lst xs)) (has:ah K H ((N k).map dP) xs) (nl:H0 l=none) (ld:l≠d) :
  StD K H0 (upd (upd (upd H e (.lst [])) p (.tup [.int u,.int i])) l (.lst (xs++[.ref p]))) d kvs (fun t=>if t=k then N t++[(u,i)] else N t) (b+1):=by
 have s1:ao H (upd H e (.lst [])):=ai he _
 have s2:ao H (upd (upd H e (.lst [])) p (.tup [.int u,.int i])):=s1.trans (ai hp _)
 have n2:=ad (H:=upd H e (.lst [])) (a:=p) (o:=.tup [.int u,.int i])
 generalize upd (upd H e (.lst [])) p (.tup [.int u,.int i])=H2 at s2 n2
 have kt:zag H (upd H2 l (.lst (xs++[.ref p]))):=s2.kt.trans (zag.lst (s2 _ _ hl))
 have lp:p≠l:=fun z=>by rw[z,s2 _ _ hl]at n2;cases n2
 refine S.step (S.same.trans s2 |>.upd nl) (by rw[aj ld.symm];exact s2 _ _ S.hd) (by have:=S.len;omega) kt hk (ad ..) nl ld ?_ (fun _ _=>rfl) fun t l' ys ht h1 h2=>?_
 ·rw[List.map_append]
  refine ah.append (ah.keep kt (za9 _) has) (.cons (Has.tup' (SqT.of (by rw[aj lp];exact n2)) (.cons Has.int (.cons Has.int .nil))) .nil)
 ·have ne:l'≠l:=fun z=>ht (S.inj t k l (z ▸ h1) hk)
  exact⟨by rw[aj ne];exact s2 _ _ h2,ne⟩
theorem StD.new {K:W.Frag} {H0 H:Hp} {d e p:Addr} {kvs:List (Key × V)} {N:Int→List (Int × Int)} {b:Nat} {k u i:Int} (S:StD K H0 H d kvs N b) (he:H e=none) (hp:(upd (upd H e (.lst [])) d (.dK (zaw kvs (.inl k) (.ref e)))) p=none)
  (hk:zat kvs (.inl k)=none) (nk:N k=[]) :
  StD K H0 (upd (upd (upd (upd H e (.lst [])) d (.dK (zaw kvs (.inl k) (.ref e)))) p (.tup [.int u,.int i])) e (.lst [.ref p])) d (zaw kvs (.inl k) (.ref e)) (fun t=>if t=k then N t++[(u,i)] else N t) (b+1):=by
 have ed:e≠d:=fun z=>by rw[z,S.hd]at he;cases he
 have ne0:H0 e=none:=by
  cases z:H0 e with
  | none=>rfl
  | some o=>rw[S.same _ _ z]at he;cases he
 have x1:zaP d H (upd (upd H e (.lst [])) d (.dK (zaw kvs (.inl k) (.ref e)))):=((ai he _).x d).trans (zaP.put _ _)
 have k1:zag H (upd (upd H e (.lst [])) d (.dK (zaw kvs (.inl k) (.ref e)))):=x1.kt S.hd
 have d1:=ad (H:=upd H e (.lst [])) (a:=d) (o:=.dK (zaw kvs (.inl k) (.ref e)))
 have e1:(upd (upd H e (.lst [])) d (.dK (zaw kvs (.inl k) (.ref e)))) e=some (.lst []):=by rw[aj ed,ad]
 generalize upd (upd H e (.lst [])) d (.dK (zaw kvs (.inl k) (.ref e)))=H1 at hp x1 k1 d1 e1
 have s2:ao H1 (upd H1 p (.tup [.int u,.int i])):=ai hp _
 have n2:=ad (H:=H1) (a:=p) (o:=.tup [.int u,.int i])
 generalize upd H1 p (.tup [.int u,.int i])=H2 at s2 n2
 have e2:=s2 _ _ e1
 have lp:p≠e:=fun z=>by rw[z,e2]at n2;cases n2
 have kt:zag H (upd H2 e (.lst [.ref p])):=(k1.trans s2.kt).trans (zag.lst e2)
 have sm:ao H0 (upd H2 e (.lst [.ref p])):=fun c o hc=>by
  have n1:c≠d:=fun z=>by rw[z,S.nd]at hc;cases hc
  have n2:c≠e:=fun z=>by rw[z,ne0]at hc;cases hc
  rw[aj n2]
  exact s2 _ _ (x1 _ _ n1 (S.same _ _ hc))
 refine S.step (l:=e) sm (by rw[aj ed.symm];exact s2 _ _ d1) (by have:=zcw kvs (Sum.inl k) (.ref e);have:=S.len;omega) kt (by rw[zb4,if_pos rfl]) (ad ..) ne0 ed ?_ (fun t ht=>by rw[zb4,if_neg (fun z=>ht (Sum.inl.inj z))]) fun t l' ys ht h1 h2=>?_
 ·rw[nk]
  exact .cons (Has.tup' (SqT.of (by rw[aj lp];exact n2)) (.cons Has.int (.cons Has.int .nil))) .nil
 ·have ne:l'≠e:=fun z=>by rw[z,he]at h2;cases h2
  have nd:l'≠d:=fun z=>by rw[z,S.hd]at h2;cases h2
  exact⟨by rw[aj ne];exact s2 _ _ (x1 _ _ nd h2),ne⟩
theorem zi3 {K:W.Frag} {H0 H:Hp} {d e:Addr} {kvs:List (Key × V)} {N:Int→List (Int × Int)} {b:Nat} {k:Int} {Q:VK} (S:StD K H0 H d kvs N b) (hb:b≤1000) (he:H e=none)
  (q:∀ l xs H' kvs',ao H0 H'→H' l=some (.lst xs)→xs.length≤b→(∀ p u i,H' p=none→StD K H0 (upd (upd H' p (.tup [.int u,.int i])) l (.lst (xs++[.ref p]))) d kvs' (fun t=>if t=k then N t++[(u,i)] else N t) (b+1))→Q (.ref l) H') :
  ziy (.ref d) [.int k,.ref e] (upd H e (.lst [])) Q:=by
 have ed:e≠d:=fun z=>by rw[z,S.hd]at he;cases he
 refine⟨d,.inl k,.ref e,kvs,rfl,rfl,by rw[aj ed.symm];exact S.hd,zdY (by have:=S.len;omega),?_⟩
 rcases S.at_ k with ⟨a1,a2⟩ | ⟨l,xs,a1,a2,a3,a4,a5⟩
 ·refine .inr ⟨a1,q e [] _ _ (fun c o hc=>?_) (by rw[aj ed,ad]) (Nat.zero_le _) fun p u i hp=>S.new he hp a1 a2⟩
  have n1:c≠d:=fun z=>by rw[z,S.nd]at hc;cases hc
  rw[aj n1]
  exact ai he _ _ _ (S.same _ _ hc)
 ·have hx:xs.length≤b:=by have:=a5.length;rw[List.length_map]at this;have:=S.big k;omega
  exact .inl ⟨_,a1,q l xs _ kvs (S.same.trans (ai he _)) (ai he _ _ _ a2) hx fun p u i hp=>S.old he hp a1 a2 a5 a3 a4⟩
section
variable {P:Program} {w:World} {K:W.Frag} {mg:Str→Option Value} {base:Heap} {f:Addr} {fd:FuncData}
def zfA (K:W.Frag):Sp:=fun vs H Q _=>∃(a:Addr) (ys:List V) (L:List Lk),vs=[.ref a]∧SqL K H a ys∧ah K H (L.map dL) ys∧L.length≤100∧∀(H':Hp) (d:Addr) (kvs:List (Key × V)),StD K H H' d kvs (nbr L L.length) (2 * L.length)→Q (.ref d) H'
theorem zda:zae ["links","steps","place","link"] ["links"] (ar s_steps_of):=⟨rfl,rfl,rfl,by decide +kernel,rfl,by decide +kernel,by decide +kernel⟩
theorem ok_steps_of (F:Fun K "steps_of" "steps_of" s_steps_of f fd) (T:Txt K mg):aH P w K mg base CX0 1 f fd ["links"] (zfA K):=by
 refine F.ok zda (fun vs H Q E h=>?_) (fun cdv A outer s H vs Q E hr h=>?_)
 ·obtain⟨a,ys,L,rfl,_⟩:=h
  rfl
 obtain⟨a,ys,L,rfl,hS,hL,L100,q⟩:=h
 have yl:ys.length=L.length:=by rw[←hL.length,List.length_map]
 refine⟨_,(af (ay (i:=1) zda.nd rfl (Or.inl rfl) zc2)
  (af (zaE PassesOwn.never rfl (zgs rfl T.enumerate (aa (pv 0) ac)) (zha rfl (zc1 (zam (i:=2) zda.nd rfl (Or.inl rfl)) (zc1 (zam (i:=3) zda.nd rfl (Or.inl rfl)) zgt)))
   (af (zaB (zcy PySem.F.plainAttrs_list PySem.F.slot_list_append PySem.F.type_list_append za5 (zh6 (pv 1) (aa (aq au (pv 3) ae (fun _ _=>rfl)) (aa (zas ac) ac))) (aa (zaR (aa (aq au (pv 3) ae (fun _ _=>rfl)) (aa (pv 2) ac))) ac)))
    (ak (zaB (zcy PySem.F.plainAttrs_list PySem.F.slot_list_append PySem.F.type_list_append za5 (zh6 (pv 1) (aa (aq au (pv 3) ae (fun _ _=>rfl)) (aa (zas ac) ac))) (aa (zaR (aa (aq au (pv 3) ae (fun _ _=>rfl)) (aa (pv 2) ac))) ac))))))
  (ak (aB (pv 1))))),?_⟩
 intro d hd
 have S0:StD K H (upd H d (.dK [])) d [] (nbr L 0) 0:=⟨ad ..,hd,Nat.le_refl _,fun t=>Nat.le_refl _,fun t=>.inl ⟨rfl,rfl⟩,fun t u l h1=>(by cases h1),ai hd _⟩
 generalize upd H d (.dK [])=H1 at S0
 refine⟨_,rfl,a,rfl,⟨_,S0.same.seq hS⟩,zbx zgh (fun i σ H'=>∃(v2 v3:Option V) (kvs:List (Key × V)),σ=[some (.ref a),some (.ref d),v2,v3]∧StD K H H' d kvs (nbr L i) (2 * i))
  (fun i σ H' ⟨_,_,_,_,S⟩=>S.same.seq hS) ⟨none,none,[],rfl,S0⟩ ?_ ?_⟩
 ·rintro i σ H2 x H3 hi ⟨v2,v3,kvs,rfl,S⟩ ⟨t,y,rfl,ht,rfl,hy⟩
  obtain⟨l,p,hl,rfl,hp⟩:=zdu hL (hy _ (S.same.seq hS))
  have s23:ao H2 (upd H2 t (.tup [.int i,.ref p])):=ai ht _
  have S3:StD K H (upd H2 t (.tup [.int i,.ref p])) d kvs (nbr L i) (2 * i):=⟨s23 _ _ S.hd,S.nd,S.len,S.big,fun u=>by
   rcases S.at_ u with a | ⟨l2,ys,a1,a2,a3,a4,a5⟩
   ·exact .inl a
   ·exact .inr ⟨l2,ys,a1,s23 _ _ a2,a3,a4,ah.keep s23.kt (za9 _) a5⟩,S.inj,S.same.trans s23⟩
  have n3:=ad (H:=H2) (a:=t) (o:=.tup [.int i,.ref p])
  generalize upd H2 t (.tup [.int i,.ref p])=H3 at S3 n3
  have a0:atI [V.int l.1,V.int l.2.1,V.int l.2.2] 0=some (.int l.1):=aA (j:=0) rfl
  have a1:atI [V.int l.1,V.int l.2.1,V.int l.2.2] 1=some (.int l.2.1):=aA (j:=1) rfl
  refine⟨t,_,rfl,SqT.of n3,rfl,_,_,rfl,_,_,rfl,rfl,?_⟩
  clear n3 s23 ht hy
  have i100:i < 100:=by omega
  refine⟨_,rfl,⟨d,_,rfl,S3.hd⟩,_,rfl,p,_,_,_,rfl,rfl,S3.same.tup hp,a0,lS0,fun e he=>?_⟩
  dsimp only [tNil]
  refine zi3 S3 (by omega) he fun l1 xs H4 kvs4 s4 hl4 x4 k4=>?_
  refine⟨.inl ⟨rfl,_,SqL.of hl4⟩,_,rfl,p,_,_,_,rfl,rfl,s4.tup hp,a1,_,rfl,lS2,fun p5 hp5=>⟨l1,_,_,rfl,rfl,(by rw[aj (fun z=>by rw[←z,hl4]at hp5;cases hp5)];exact hl4),zdY (by omega),?_⟩⟩
  have S5:=k4 p5 l.2.1 i hp5
  generalize upd (upd H4 p5 (.tup [.int l.2.1,.int i])) l1 (.lst (xs++[.ref p5]))=H5 at S5
  refine⟨_,rfl,⟨d,_,rfl,S5.hd⟩,_,rfl,p,_,_,_,rfl,rfl,S5.same.tup hp,a1,lS0,fun e2 he2=>?_⟩
  dsimp only [tNil]
  refine zi3 S5 (by omega) he2 fun l2 xs2 H6 kvs6 s6 hl6 x6 k6=>?_
  refine⟨.inl ⟨rfl,_,SqL.of hl6⟩,_,rfl,p,_,_,_,rfl,rfl,s6.tup hp,a0,_,rfl,lS2,fun p7 hp7=>⟨l2,_,_,rfl,rfl,(by rw[aj (fun z=>by rw[←z,hl6]at hp7;cases hp7)];exact hl6),zdY (by omega),?_⟩⟩
  have S7:=k6 p7 l.1 i hp7
  refine⟨_,_,kvs6,rfl,?_⟩
  have e:(fun t=>if t=l.2.1 then(if t=l.1 then nbr L i t++[(l.2.1,(i:Int))] else nbr L i t)++[(l.1,(i:Int))] else(if t=l.1 then nbr L i t++[(l.2.1,(i:Int))] else nbr L i t))=nbr L (i+1):=by
   funext t
   rw[zkw]
   unfold nbr1
   rw[hl]
   dsimp only
   by_cases c1:t=l.1
   ·by_cases c2:t=l.2.1
    ·rw[if_pos c2,if_pos c1,if_pos c1.symm,if_pos c2.symm,List.append_assoc]
    ·rw[if_neg c2,if_pos c1,if_pos c1.symm,if_neg (fun z=>c2 z.symm),List.append_nil]
   ·by_cases c2:t=l.2.1
    ·rw[if_pos c2,if_neg c1,if_neg (fun z=>c1 z.symm),if_pos c2.symm,List.nil_append]
    ·rw[if_neg c2,if_neg c1,if_neg (fun z=>c1 z.symm),if_neg (fun z=>c2 z.symm),List.append_nil,List.append_nil]
  rw[e]at S7
  exact S7
 rintro σ H2 ⟨v2,v3,kvs,rfl,S⟩
 refine⟨_,rfl,q H2 d kvs ?_⟩
 rw[yl]at S
 exact S
end
end W51
namespace W51
open PySem L2
abbrev bmV:List Value:=[.type "ValueError",.type "Exception",.type "BaseException",.type "object"]
theorem za4 (a b:Str):(a++b).length=a.length+b.length:=by
 show(a.cps++b.cps).size=a.cps.size+b.cps.size
 exact Array.size_append
theorem zes {n:Int} (h1:-1000≤n) (h2:n≤1000):n.natAbs.log2 < 1920∧((toString n:String):Str).length≤1002:=by
 have hb:n.natAbs≤1000:=by omega
 refine⟨?_,?_⟩
 ·by_cases h0:n.natAbs=0
  ·rw[h0]
   decide
  ·have:=(Nat.log2_lt h0 (k:=1920)).mpr (Nat.lt_of_le_of_lt hb (by decide +kernel))
   exact this
 ·have:=PyProof.Rows.len_str_of_int n
  omega
def plV (π:List Nat):List V:=π.map fun q:Nat=>V.int (q:Int)
def StR (K:W.Frag) (H:Hp) (d:Addr) (N:Int→List (Int × Int)):Prop:=∃ kvs,H d=some (.dK kvs)∧∀ t,(N t).length≤1000∧((zat kvs (.inl t)=none∧N t=[])∨∃ l xs,zat kvs (.inl t)=some (.ref l)∧H l=some (.lst xs)∧ah K H ((N t).map dP) xs)
theorem StR.same {K:W.Frag} {H H':Hp} {d:Addr} {N:Int→List (Int × Int)} (h:StR K H d N) (s:ao H H'):StR K H' d N:=by
 obtain⟨kvs,h1,h2⟩:=h
 refine⟨kvs,s _ _ h1,fun t=>⟨(h2 t).1,?_⟩⟩
 rcases(h2 t).2 with a | ⟨l,xs,a1,a2,a3⟩
 ·exact .inl a
 ·exact .inr ⟨l,xs,a1,s _ _ a2,ah.keep s.kt (za9 _) a3⟩
theorem StD.r {K:W.Frag} {H0 H:Hp} {d:Addr} {kvs:List (Key × V)} {N:Int→List (Int × Int)} {b:Nat} (S:StD K H0 H d kvs N b) (hb:b≤1000):StR K H d N:=⟨kvs,S.hd,fun t=>⟨Nat.le_trans (S.big t) hb,by
 rcases S.at_ t with a | ⟨l,xs,a1,a2,_,_,a3⟩
 ·exact .inl a
 ·exact .inr ⟨l,xs,a1,a2,a3⟩⟩⟩
structure zbH (K:W.Frag) (H0 H:Hp) (fd wl:Addr) (L:List Lk) (n:Nat) (x:Int) (kf:List (Key × V)) (F W:List Int):Prop where
 same:ao H0 H
 hf:H fd=some (.dK kf)
 hw:H wl=some (.lst (W.map V.int))
 keys:kf.map (·.1)=F.map Sum.inl
 nd:F.Nodup
 inn:∀ t∈F,0≤t∧t < (n:Int)
 st:x∈F
 sub:∀ t∈W,t∈F
 wb:W.length≤2 * F.length
 val:∀ t v,zat kf (.inl t)=some v→∃ p π,v=.ref p∧SqT K H p (plV π)∧PathOk L π x t∧π.length < F.length∧∀ q∈π,∀ l,L[q]?=some l→l.1∈F∧l.2.1∈F
theorem zbH.len {K:W.Frag} {H0 H:Hp} {fd wl:Addr} {L:List Lk} {n:Nat} {x:Int} {kf:List (Key × V)} {F W:List Int} (S:zbH K H0 H fd wl L n x kf F W):F.length≤n:=zbi n S.nd S.inn
theorem zbH.to {K:W.Frag} {H0 H H2:Hp} {fd wl:Addr} {L:List Lk} {n:Nat} {x:Int} {kf:List (Key × V)} {F W:List Int} (S:zbH K H0 H fd wl L n x kf F W) (s:ao H H2):zbH K H0 H2 fd wl L n x kf F W :=
 ⟨S.same.trans s,s _ _ S.hf,s _ _ S.hw,S.keys,S.nd,S.inn,S.st,S.sub,S.wb,fun t v h=>let ⟨p,π,a,b,c⟩:=S.val t v h;⟨p,π,a,s.tup b,c⟩⟩
theorem zbH.add {K:W.Frag} {H0 H:Hp} {fd wl pc:Addr} {L:List Lk} {n:Nat} {x u:Int} {kf:List (Key × V)} {F W:List Int} {π:List Nat} (S:zbH K H0 H fd wl L n x kf F W) (nf:H0 fd=none) (nw:H0 wl=none)
  (hu:u∉F) (ub:0≤u∧u < (n:Int)) (hp:SqT K H pc (plV π)) (P:PathOk L π x u) (pl:π.length≤F.length) (en:∀ q∈π,∀ l,L[q]?=some l→l.1∈F++[u]∧l.2.1∈F++[u]) :
  zbH K H0 (upd (upd H fd (.dK (zaw kf (.inl u) (.ref pc)))) wl (.lst (W.map V.int++[.int u]))) fd wl L n x (zaw kf (.inl u) (.ref pc)) (F++[u]) (W++[u]):=by
 have ne:fd≠wl:=fun e=>by have:=S.hf;rw[e,S.hw]at this;cases this
 have x1:zaP fd H (upd H fd (.dK (zaw kf (.inl u) (.ref pc)))):=zaP.put _ _
 have w1:(upd H fd (.dK (zaw kf (.inl u) (.ref pc)))) wl=some (.lst (W.map V.int)):=by rw[aj ne.symm];exact S.hw
 have kt:zag H (upd (upd H fd (.dK (zaw kf (.inl u) (.ref pc)))) wl (.lst (W.map V.int++[.int u]))):=(x1.kt S.hf).trans (zag.lst w1)
 have keys:(zaw kf (.inl u) (.ref pc)).map (·.1)=(F++[u]).map Sum.inl:=by
  have:=zjf S.keys u (.ref pc)
  unfold addK at this
  rw[if_neg hu]at this
  exact this
 refine⟨(S.same.upd nf).upd nw,by rw[aj ne,ad],by rw[ad,List.map_append];rfl,keys,?_,?_,List.mem_append_left _ S.st,?_,?_,?_⟩
 ·refine List.nodup_append.mpr ⟨S.nd,by simp,fun a ha b hb=>?_⟩
  rw[List.mem_singleton.mp hb]
  exact fun e=>hu (e ▸ ha)
 ·intro t ht
  rcases List.mem_append.mp ht with a | a
  ·exact S.inn t a
  ·rw[List.mem_singleton.mp a];exact ub
 ·intro t ht
  rcases List.mem_append.mp ht with a | a
  ·exact List.mem_append_left _ (S.sub t a)
  ·exact List.mem_append_right _ a
 ·have:=S.wb
  rw[List.length_append,List.length_append]
  show _+1≤2 * (_+1)
  omega
 ·intro t v h
  rw[zb4]at h
  split at h
  ·rename_i e
   cases h
   cases Sum.inl.inj e
   exact⟨pc,π,rfl,kt.sq hp,P,by rw[List.length_append];show _ < _+1;omega,en⟩
  ·obtain⟨p,ρ,a,b,c,d,e⟩:=S.val t v h
   exact⟨p,ρ,a,kt.sq b,c,by rw[List.length_append];omega,fun q hq l hl=>⟨List.mem_append_left _ (e q hq l hl).1,List.mem_append_left _ (e q hq l hl).2⟩⟩
section
variable {P:Program} {w:World} {K:W.Frag} {mg:Str→Option Value} {base:Heap} {f CJ:Addr} {fd:FuncData}
theorem Fun.okX {x qual:Str} {st:Stmt} {f:Addr} {fd:FuncData} {N ps:List Str} {k:Nat} {sp:Sp} (F:Fun K x qual st f fd) (S:zae N ps (ar st)) (len:∀ vs H Q E,sp vs H Q E→vs.length=ps.length)
  (hbody:∀(cdv:Value) (A:Around) (outer:List Env) (s:Shared) (H:Hp) (vs:List V) (Q:VK) (E:XK),aO k (A.deeper (PyProof.Rows.envOfC qual (ar st) s.heap.objs.size f cdv))→sp vs H Q E →
   ∃ t,PSs (zcK (CX1 P w) P w K mg base N qual (ar st) f cdv A outer s H E) (za3 st) t∧t { nx:=fun _ H'=>Q .non H',rt:=Q } (zc7 N vs) H):aH P w K mg base (CX1 P w) (k+1) f fd ps sp:=by
 obtain⟨oc,od,kV,doc,pm,an,cdv,ct,osl,rfl,lk,hcd⟩:=F.ex
 exact ziz lk hcd S len fun A outer s H vs Q E hr hsp=>hbody cdv A outer s H vs Q E hr hsp
theorem xe1 {N:List Str} {qual:Str} {scope:Scope} {f:Addr} {cd:Value} {A:Around} {outer:List Env} {s:Shared} {H:Hp} {E:XK}:Xe1 (zcK (CX1 P w) P w K mg base N qual scope f cd A outer s H E) E:=⟨rfl,rfl,rfl,rfl⟩
def sp_way (K:W.Frag) (CJ:Addr):Sp:=fun vs H Q E=>∃(d:Addr) (x y:Int) (L:List Lk) (n:Nat),vs=[.ref d,.int x,.int y]∧StR K H d (nbr L L.length)∧InN n L∧n≤100∧(0≤x∧x < (n:Int))∧(0≤y∧y < (n:Int)) ∧
 (hdL L x=hdL L y→∀(H':Hp) (p:Addr) (π:List Nat),ao H H'→SqT K H' p (plV π)→PathOk L π x y→π.length < n→Q (.ref p) H')∧(hdL L x≠hdL L y→∀ H',ao H H'→E (.ref CJ) none H')
theorem zeT:zae ["steps","one","other","found","waiting","term","step"] ["steps","one","other"] (ar s_way):=⟨rfl,rfl,rfl,by decide +kernel,rfl,by decide +kernel,by decide +kernel⟩
abbrev NWy:List Str:=["steps","one","other","found","waiting","term","step"]
theorem zkd (T:Txt K mg) (bJ:mg "NotJoined"=some (.ref CJ)) (xJ:W.excIn K CJ bmV "ValueError.__new__"=true) {cdv:Value} {A:Around} {outer:List Env} {s:Shared} {H0:Hp} {E:XK} {k:Nat} (hr:aO k (A.deeper (PyProof.Rows.envOfC "way" (ar s_way) s.heap.objs.size f cdv))) :
  ∃ t,PSs (zcK (CX1 P w) P w K mg base NWy "way" (ar s_way) f cdv A outer s H0 E) ((za3 s_way).drop 3) t∧∀(Q:VK) (H H':Hp) (d fd wl:Addr) (x y:Int) (L:List Lk) (n:Nat) (kf:List (Key × V)) (F W:List Int) (v5 v6:Option V),zbH K H H' fd wl L n x kf F W→(0≤x∧x < (n:Int))→(0≤y∧y < (n:Int))→n≤100→(y∈F∨∀ t∈F,∀ up∈nbr L L.length t,up.1∈F) →
   (hdL L x=hdL L y→∀(H':Hp) (p:Addr) (π:List Nat),ao H H'→SqT K H' p (plV π)→PathOk L π x y→π.length < n→Q (.ref p) H')→(hdL L x≠hdL L y→∀ H',ao H H'→E (.ref CJ) none H') →
   t { nx:=fun _ H'=>Q .non H',rt:=Q } [some (.ref d),some (.int x),some (.int y),some (.ref fd),some (.ref wl),v5,v6] H':=by
 have hu:=zeE hr
 refine⟨_,(af (zal (zf0 (zd2 hu (pv 2) (pv 3)))
   (ak (zdP (C:=CJ) xe1 rfl rfl bJ PySem.F.excBase_ValueError xJ (aa (zdh (za8 zao (za8 (zfe (pv 1)) (za8 zao (za8 (zfe (pv 2)) zeV))))) ac)))
   zaf)
  (ak (aB (zer hu (pv 3) (pv 2) (fun _ _=>rfl))))),?_⟩
 intro Q H H' d fd wl x y L n kf F W v5 v6 S hx hy n100 cl qY qN
 refine⟨_,rfl,_,rfl,fd,_,rfl,zbv.k (k:=.inl y) S.hf,_,rfl,?_⟩
 rw[zem S.keys y]
 by_cases c:y∈F
 ·rw[decide_eq_true c]
  have hs:(zat kf (.inl y)).isSome=true:=by rw[zem S.keys y];exact decide_eq_true c
  obtain⟨v,hv⟩:=Option.isSome_iff_exists.mp hs
  obtain⟨p,π,rfl,hp,PO,pl,_⟩:=S.val y v hv
  have fl:=S.len
  have g:=zbv.k (k:=.inl y) S.hf
  rw[hv]at g
  exact aP ⟨_,rfl,_,rfl,fd,_,rfl,g,qY PO.joins H' p π S.same hp PO (by omega)⟩
 ·rw[decide_eq_false c]
  obtain⟨a1,a2⟩:=zes (n:=x) (by omega) (by omega)
  obtain⟨b1,b2⟩:=zes (n:=y) (by omega) (by omega)
  have nj:hdL L x≠hdL L y:=fun e=>by
   rcases cl with z | z
   ·exact c z
   ·refine c ((zgb (fun t=>t∈F) L (fun l hl=>?_) x y e).mp S.st)
    obtain⟨i,hi⟩:=List.mem_iff_getElem?.mp hl
    obtain⟨m1,m2⟩:=zlk (List.getElem?_eq_some_iff.mp hi).1 hi
    exact⟨fun h=>z _ h (l.2.1,(i:Int)) m1,fun h=>z _ h (l.1,(i:Int)) m2⟩
  have e1:(Str.empty++("no links lead from ":Str)).length≤100:=by decide +kernel
  have e2:(" to ":Str).length≤100:=by decide +kernel
  have w1:(Str.empty++("no links lead from ":Str)++((toString x:String):Str)).length≤2000:=by rw[za4];omega
  have w2:(Str.empty++("no links lead from ":Str)++((toString x:String):Str)++(" to ":Str)).length≤3000:=by rw[za4];omega
  have w3:(Str.empty++("no links lead from ":Str)++((toString x:String):Str)++(" to ":Str)++((toString y:String):Str)).length≤5000:=by rw[za4];omega
  exact zaK ⟨_,rfl,zds (by omega),_,rfl,.inr ⟨x,rfl,a1,_,rfl,zds (by omega),_,rfl,zds (by omega),_,rfl,.inr ⟨y,rfl,b1,_,rfl,zds (by omega),zds (by omega),(by show 1≤sizeLine;decide),qN nj H' S.same⟩⟩⟩
theorem ok_way (F:Fun K "way" "way" s_way f fd) (T:Txt K mg) (bJ:mg "NotJoined"=some (.ref CJ)) (xJ:W.excIn K CJ bmV "ValueError.__new__"=true):aH P w K mg base (CX1 P w) 1 f fd ["steps","one","other"] (sp_way K CJ):=by
 refine Fun.okX F zeT (fun vs H Q E h=>?_) (fun cdv A outer s H vs Q E hr h=>?_)
 ·obtain⟨d,x,y,L,n,rfl,_⟩:=h
  rfl
 obtain⟨d,x,y,L,n,rfl,hSt,hN,n100,hx,hy,qY,qN⟩:=h
 have hu:=zeE hr
 obtain⟨tt,ht,tq⟩:=zkd (P:=P) (w:=w) (base:=base) (f:=f) (cdv:=cdv) (outer:=outer) (H0:=H) (E:=E) T bJ xJ hr
 refine⟨_,(af (ay (i:=3) zeT.nd rfl (Or.inl rfl) (pe_d1 (pv 1) (zaR ac)))
  (af (ay (i:=4) zeT.nd rfl (Or.inl rfl) (zas (aa (pv 1) ac)))
  (af (zfP PassesOwn.leaving (PW.pt (zbZ (aw zdX (zaa zab rfl T.len PySem.boot_len (aa (pv 4) ac)) ae (aF _)) (zcf (zf0 (zd2 hu (pv 2) (pv 3))))))
   (af (ay (i:=5) zeT.nd rfl (Or.inl rfl) (zi6 PySem.F.plainAttrs_list PySem.F.slot_list_pop PySem.F.type_list_pop zjd (pv 4)))
    (ak (zaE PassesOwn.leaving rfl (zbq (zeJ hu (pv 0) (pv 5) (zas ac) ⟨rfl,rfl,rfl,rfl⟩)) (zam (i:=6) zeT.nd rfl (Or.inl rfl))
     (ak (zal (zf0 (zd2 hu (aq au (pv 6) ae (fun _ _=>rfl)) (pv 3)))
       (af (zeq hu (pv 3) (aq au (pv 6) ae (fun _ _=>rfl)) (az zia (zer hu (pv 3) (pv 5) (fun _ _=>rfl)) (zaR (aa (aq au (pv 6) ae (fun _ _=>rfl)) ac))) rfl)
        (ak (zaB (zcy PySem.F.plainAttrs_list PySem.F.slot_list_append PySem.F.type_list_append za5 (pv 4) (aa (aq au (pv 6) ae (fun _ _=>rfl)) ac)))))
       zaf))))))
  ht))),?_⟩
 intro fd hfd
 refine⟨_,rfl,lS0,fun pt hpt=>⟨.inl x,rfl,?_,?_⟩⟩
 ·rw[aj (fun e=>by rw[←e,ad]at hpt;cases hpt),ad]
 have nfd:fd≠pt:=fun e=>by rw[←e,ad]at hpt;cases hpt
 have npt:H pt=none:=by
  have h0:=hpt
  rw[aj nfd.symm]at h0
  exact h0
 have s1:ao H (upd (upd (upd H fd (.dK [])) pt (.tup [])) fd (.dK [(.inl x,.ref pt)])):=((ai hfd _).upd npt).upd hfd
 have f1:=ad (H:=upd (upd H fd (.dK [])) pt (.tup [])) (a:=fd) (o:=.dK [(.inl x,.ref pt)])
 have t1:(upd (upd (upd H fd (.dK [])) pt (.tup [])) fd (.dK [(.inl x,.ref pt)])) pt=some (.tup []):=by rw[aj nfd.symm,ad]
 generalize upd (upd (upd H fd (.dK [])) pt (.tup [])) fd (.dK [(.inl x,.ref pt)])=H1 at s1 f1 t1
 refine⟨_,rfl,lS1,fun wl hwl=>?_⟩
 have nwl:H wl=none:=s1.free hwl
 have S0:zbH K H (upd H1 wl (.lst [.int x])) fd wl L n x [(.inl x,.ref pt)] [x] [x]:=by
  have s2:ao H1 (upd H1 wl (.lst [.int x])):=ai hwl _
  refine⟨s1.trans s2,s2 _ _ f1,ad ..,rfl,by simp,fun t ht=>by rw[List.mem_singleton.mp ht];exact hx,List.mem_cons_self,fun t ht=>ht,by simp,fun t v h=>?_⟩
  by_cases e:(Sum.inl x:Key)=.inl t
  ·rw[zbg e]at h
   cases h
   cases Sum.inl.inj e
   exact⟨pt,[],rfl,SqT.of (s2 _ _ t1),PathOk.nil L x,by simp,fun q hq=>by simp at hq⟩
  ·rw[zbh e]at h
   cases h
 generalize upd H1 wl (.lst [.int x])=H2 at S0
 clear s1 f1 t1 hwl hpt
 let Cl:List Int→List Int→Prop:=fun F W=>∀ t∈F,t∉W→∀ up∈nbr L L.length t,up.1∈F
 refine⟨fun m σ H'=>∃(v5 v6:Option V) (kf:List (Key × V)) (F W:List Int),σ=[some (.ref d),some (.int x),some (.int y),some (.ref fd),some (.ref wl),v5,v6]∧zbH K H H' fd wl L n x kf F W∧Cl F W∧m=2 * (n - F.length)+W.length,
  ⟨_,none,none,_,[x],[x],rfl,S0,(fun t ht hn=>absurd ht hn),rfl⟩,?_⟩
 rintro m σ H3 ⟨v5,v6,kf,F,W,rfl,S,cl,rfl⟩
 have inF:∀ {H' kf F W},zbH K H H' fd wl L n x kf F W→∀ u,(zat kf (.inl u)).isSome=decide (u∈F):=fun S u=>zem S.keys u
 refine⟨_,rfl,wl,_,rfl,.inl (SqL.of S.hw),_,_,rfl,rfl,_,rfl,?_⟩
 by_cases cW:W=[]
 ·subst cW
  exact aP (aP (tq Q H H3 d fd wl x y L n kf F [] v5 v6 S hx hy n100 (.inr fun t ht up hup=>cl t ht (by simp) up hup) qY qN))
 have wp:0 < W.length:=List.length_pos_iff.mpr cW
 rw[show decide ((((W.map V.int).length:Nat):Int) > 0)=true from decide_eq_true (by rw[List.length_map];omega)]
 refine zaK ⟨_,rfl,_,rfl,fd,_,rfl,zbv.k (k:=.inl y) S.hf,_,rfl,?_⟩
 rw[inF S y]
 by_cases cy:y∈F
 ·rw[decide_eq_true cy]
  exact aP (tq Q H H3 d fd wl x y L n kf F W v5 v6 S hx hy n100 (.inl cy) qY qN)
 rw[decide_eq_false cy]
 refine zaK ⟨fun σ' H'=>∃(v5 v6:Option V) (kf':List (Key × V)) (F' W':List Int),σ'=[some (.ref d),some (.int x),some (.int y),some (.ref fd),some (.ref wl),v5,v6]∧zbH K H H' fd wl L n x kf' F' W'∧Cl F' W'∧2 * (n - F'.length)+W'.length < 2 * (n - F.length)+W.length,?_,?_⟩
 ·rintro σ' H' ⟨v5',v6',kf',F',W',rfl,a,b,c⟩
  exact⟨_,c,v5',v6',kf',F',W',rfl,a,b,rfl⟩
 obtain⟨W0,t,rfl⟩:∃ W0 t,W=W0++[t]:=⟨W.dropLast,W.getLast cW,(List.dropLast_concat_getLast cW).symm⟩
 have tF:t∈F:=S.sub t (by simp)
 refine⟨_,rfl,.inl ⟨rfl,_,SqL.of S.hw⟩,wl,_,.int t,rfl,rfl,S.hw,?_,?_⟩
 ·rw[List.map_append,List.length_append,List.getElem?_append_right (by show _≤_+1 - 1;omega)]
  show [V.int t][_]?=_
  rw[show(W0.map V.int).length+([t].map V.int).length - 1 - (W0.map V.int).length=0 by show _+1 - 1 - _=0;omega]
  rfl
 have ew:((W0++[t]).map V.int).dropLast=W0.map V.int:=by rw[List.map_append];simp
 rw[ew]
 have nwf:fd≠wl:=fun e=>by have:=S.hf;rw[e,S.hw]at this;cases this
 have S1:zbH K H (upd H3 wl (.lst (W0.map V.int))) fd wl L n x kf F W0:=⟨S.same.upd nwl,by rw[aj nwf];exact S.hf,ad ..,S.keys,S.nd,S.inn,S.st,fun u hu=>S.sub u (List.mem_append_left _ hu),by have:=S.wb;rw[List.length_append]at this;omega,fun u v h=>let ⟨p,π,a,b,c⟩:=S.val u v h;⟨p,π,a,(zag.lst S.hw).sq b,c⟩⟩
 generalize upd H3 wl (.lst (W0.map V.int))=H4 at S1
 obtain⟨kst,hst,stAt⟩:=hSt.same S1.same
 refine⟨_,rfl,d,rfl,.inl ⟨_,.inl hst⟩,_,rfl,lS0,fun e he=>⟨_,zbv.k (k:=.inl t) (ai he _ _ _ hst),?_⟩⟩
 have s5:ao H4 (upd H4 e (.lst [])):=ai he _
 have S5:=S1.to s5
 obtain⟨lv,xs,elv,hlv,hxs,nlw,nlf⟩:∃ lv xs,(zat kst (.inl t)).getD (.ref e)=.ref lv∧(upd H4 e (.lst [])) lv=some (.lst xs)∧ah K (upd H4 e (.lst [])) ((nbr L L.length t).map dP) xs∧lv≠wl∧lv≠fd:=by
  rcases(stAt t).2 with ⟨a1,a2⟩ | ⟨l,xs,a1,a2,a3⟩
  ·rw[a1,a2]
   exact⟨e,[],rfl,ad ..,ah.nil,(fun z=>by rw[z,S1.hw]at he;cases he),(fun z=>by rw[z,S1.hf]at he;cases he)⟩
  ·rw[a1]
   obtain⟨_,hst0,stAt0⟩:=hSt
   cases (S1.same _ _ hst0).symm.trans hst
   rcases(stAt0 t).2 with ⟨b1,_⟩ | ⟨l',xs',b1,b2,_⟩
   ·rw[a1]at b1;cases b1
   ·cases a1.symm.trans b1
    exact⟨l,xs,rfl,s5 _ _ a2,ah.keep s5.kt (za9 _) a3,(fun z=>by rw[z,nwl]at b2;cases b2),(fun z=>by rw[z,hfd]at b2;cases b2)⟩
 rw[elv]
 have big:=(stAt t).1
 generalize upd H4 e (.lst [])=H5 at s5 S5 hlv hxs
 have xl:xs.length=(nbr L L.length t).length:=by rw[←hxs.length,List.length_map]
 refine⟨lv,rfl,⟨_,SqL.of hlv⟩,zbx zbd (fun i σ H'=>∃(v6:Option V) (kf':List (Key × V)) (F' W':List Int),σ=[some (.ref d),some (.int x),some (.int y),some (.ref fd),some (.ref wl),some (.int t),v6]∧zbH K H H' fd wl L n x kf' F' W'∧zar fd wl H5 H'∧(∀ u∈F,u∈F')∧(∀ u∈W0,u∈W')∧(∀ u∈F',u∈F∨u∈W')∧(∀ j up,j < i→(nbr L L.length t)[j]?=some up→up.1∈F')∧2 * (n - F'.length)+W'.length≤2 * (n - F.length)+W0.length)
  (fun i σ H' ⟨_,_,_,_,_,_,sg,_⟩=>SqL.of (sg _ _ nlf nlw hlv)) ⟨v6,kf,F,W0,rfl,S5,ao.g (ao.refl _),(fun _ h=>h),(fun _ h=>h),(fun _ h=>.inl h),(fun j up hj=>absurd hj (Nat.not_lt_zero _)),Nat.le_refl _⟩ ?_ ?_⟩
 ·rintro i σ H7 z H6 hi ⟨v6,kf6,F6,W6,rfl,S6,sg6,f6,w6,fw6,n6,m6⟩ ⟨rfl,hz⟩
  obtain⟨up,p,hup,rfl,hp5⟩:=zgu hxs (hz _ (SqL.of (sg6 _ _ nlf nlw hlv)))
  have hp:SqT K H6 p [.int up.1,.int up.2]:=by
   rcases hp5 with a | a
   ·rcases a with a | ⟨o,a⟩
    ·exact .inl (.inl (sg6 _ _ (fun e=>by rw[e,S5.hf]at a;cases a) (fun e=>by rw[e,S5.hw]at a;cases a) a))
    ·exact .inl (.inr ⟨o,sg6 _ _ (fun e=>by rw[e,S5.hf]at a;cases a) (fun e=>by rw[e,S5.hw]at a;cases a) a⟩)
   ·exact .inr a
  have a0:atI [V.int up.1,V.int up.2] 0=some (.int up.1):=aA (j:=0) rfl
  have a1:atI [V.int up.1,V.int up.2] 1=some (.int up.2):=aA (j:=1) rfl
  refine⟨_,rfl,p,_,_,_,rfl,rfl,hp,a0,_,rfl,fd,_,rfl,zbv.k (k:=.inl up.1) S6.hf,_,rfl,?_⟩
  rw[inF S6 up.1]
  by_cases c:up.1∈F6
  ·rw[decide_eq_true c]
   refine aP ⟨_,kf6,F6,W6,rfl,S6,sg6,f6,w6,fw6,fun j r hj hr'=>?_,m6⟩
   by_cases z:j=i
   ·subst z
    cases hup.symm.trans hr'
    exact c
   ·exact n6 j r (by omega) hr'
  rw[decide_eq_false c]
  have tF6:t∈F6:=f6 t tF
  have hs:(zat kf6 (.inl t)).isSome=true:=by rw[inF S6 t];exact decide_eq_true tF6
  obtain⟨v,hv⟩:=Option.isSome_iff_exists.mp hs
  obtain⟨pt2,π,rfl,hpt2,PO,pl,ends⟩:=S6.val t v hv
  have g:=zbv.k (k:=.inl t) S6.hf
  rw[hv]at g
  obtain⟨i',l,ei',hl,hor⟩:=zln (List.mem_of_getElem? hup)
  have fl6:=S6.len
  refine zaK ⟨_,rfl,_,rfl,fd,_,rfl,g,_,rfl,p,_,_,_,rfl,rfl,hp,a1,lS1,fun q8 hq8=>⟨pt2,q8,_,_,rfl,rfl,((ai hq8 _).tup hpt2),SqT.of (ad ..),?_,fun H9 pc s9 hpc=>?_⟩⟩
  ·unfold plV
   rw[List.length_map]
   exact zds (by show _+1≤_;omega)
  have s69:ao H6 H9:=(ai hq8 _).trans s9
  have S9:=S6.to s69
  have ep:plV π++[V.int up.2]=plV (π++[i']):=by unfold plV;rw[List.map_append,ei'];rfl
  rw[ep]at hpc
  have ub:0≤up.1∧up.1 < (n:Int):=by
   have:=hN l (List.mem_of_getElem? hl)
   rcases hor with ⟨_,b⟩ | ⟨_,b⟩
   ·rw[←b];exact this.2
   ·rw[←b];exact this.1
  have np:i'∉π:=fun hm=>by
   have:=ends i' hm l hl
   rcases hor with ⟨_,b⟩ | ⟨_,b⟩
   ·exact c (b ▸ this.2)
   ·exact c (b ▸ this.1)
  have PO2:=PO.step hl hor np
  refine⟨_,rfl,_,rfl,p,_,_,_,rfl,rfl,s69.tup hp,a0,fd,_,rfl,.inl ⟨_,.inl up.1,S9.hf,rfl,zdY (by rw[zjg S9.keys];omega),rfl⟩,?_⟩
  have S10:=S9.add hfd nwl c ub hpc PO2 (by rw[List.length_append];show _+1≤_;omega) fun q hq m hm=>by
   rcases List.mem_append.mp hq with a | a
   ·exact⟨List.mem_append_left _ (ends q a m hm).1,List.mem_append_left _ (ends q a m hm).2⟩
   ·rw[List.mem_singleton.mp a,hl]at hm
    cases hm
    rcases hor with ⟨b1,b2⟩ | ⟨b1,b2⟩
    ·exact⟨List.mem_append_left _ (b1 ▸ tF6),List.mem_append_right _ (by rw[b2];simp)⟩
    ·exact⟨List.mem_append_right _ (by rw[b2];simp),List.mem_append_left _ (b1 ▸ tF6)⟩
  have sg10:zar fd wl H5 (upd (upd H9 fd (.dK (zaw kf6 (.inl up.1) (.ref pc)))) wl (.lst (W6.map V.int++[.int up.1]))):=((sg6.trans s69.g).trans (zar.put1 _ _)).trans (zar.put2 _ _)
  have hpk:SqT K (upd H9 fd (.dK (zaw kf6 (.inl up.1) (.ref pc)))) p [.int up.1,.int up.2]:=(zaP.kt (zaP.put _ _) S9.hf).sq (s69.tup hp)
  have hwk:(upd H9 fd (.dK (zaw kf6 (.inl up.1) (.ref pc)))) wl=some (.lst (W6.map V.int)):=by rw[aj nwf.symm];exact S9.hw
  refine⟨_,rfl,.inl ⟨rfl,_,SqL.of hwk⟩,_,rfl,p,_,_,_,rfl,rfl,hpk,a0,wl,_,_,rfl,rfl,hwk,zdY (by rw[List.length_map];have:=S9.wb;omega),?_⟩
  refine⟨_,_,F6++[up.1],W6++[up.1],rfl,S10,sg10,fun u hu=>List.mem_append_left _ (f6 u hu),fun u hu=>List.mem_append_left _ (w6 u hu),fun u hu=>?_,fun j r hj hr'=>?_,?_⟩
  ·rcases List.mem_append.mp hu with a | a
   ·rcases fw6 u a with b | b
    ·exact .inl b
    ·exact .inr (List.mem_append_left _ b)
   ·exact .inr (List.mem_append_right _ a)
  ·by_cases z:j=i
   ·subst z
    cases hup.symm.trans hr'
    exact List.mem_append_right _ (by simp)
   ·exact List.mem_append_left _ (n6 j r (by omega) hr')
  ·have:=S10.len
   rw[List.length_append]at this
   rw[List.length_append,List.length_append]
   have this:F6.length+1≤n:=this
   show 2 * (n - (F6.length+1))+(W6.length+1)≤_
   omega
 rintro σ H6 ⟨v6',kf6,F6,W6,rfl,S6,sg6,f6,w6,fw6,n6,m6⟩
 refine⟨_,_,kf6,F6,W6,rfl,S6,fun u hu hn up hup=>?_,by rw[List.length_append];show _ < _+(_+1);omega⟩
 by_cases eu:u=t
 ·subst eu
  obtain⟨j,hj⟩:=List.mem_iff_getElem?.mp hup
  exact n6 j up (by rw[xl];exact(List.getElem?_eq_some_iff.mp hj).1) hj
 ·have uF:u∈F:=(fw6 u hu).resolve_right hn
  refine f6 _ (cl u uF (fun h=>?_) up hup)
  rcases List.mem_append.mp h with a | a
  ·exact hn (w6 u a)
  ·exact eu (List.mem_singleton.mp a)
end
end W51
namespace W51
open PySem L2
section
variable {P:Program} {w:World} {K:W.Frag} {mg:Str→Option Value} {base:Heap} {f fS fW fP CJ:Addr} {fd dS dW dP':FuncData}
theorem zij {K:W.Frag} {H:Hp}:∀ {as bs:List Int} {ps:List Addr},as.length=bs.length→ps.length=as.length→(∀(j:Nat) x y,(as.map V.int)[j]?=some x→(bs.map V.int)[j]?=some y→∃ p,ps[j]?=some p∧SqT K H p [x,y])→ah K H ((as.zip bs).map dP) (ps.map V.ref)
 | [],[],[],_,_,_=>ah.nil
 | a :: as,b :: bs,p :: ps,h1,h2,h3=>by
  rw[List.zip_cons_cons,List.map_cons,List.map_cons]
  obtain⟨p',e,hp⟩:=h3 0 (.int a) (.int b) rfl rfl
  cases e
  exact .cons (Has.tup' hp (.cons Has.int (.cons Has.int .nil))) (zij (by simpa using h1) (by simpa using h2) fun j x y hx hy=>h3 (j+1) x y hx hy)
def zhn (K:W.Frag):Sp:=fun vs H Q _=>∃(tl lp:Addr) (xs:List V) (ts:List Tm) (l:Lk),vs=[.ref tl,.ref lp]∧SqL K H tl xs∧ah K H (ts.map dTm) xs∧SqT K H lp [.int l.1,.int l.2.1,.int l.2.2]∧(0≤l.1∧l.1 < (ts.length:Int))∧(0≤l.2.1∧l.2.1 < (ts.length:Int)) ∧
 (l.2.2=-1→∀ t u,ts[l.1.toNat]?=some t→ts[l.2.1.toNat]?=some u→t.2.length=u.2.length)∧∀(H':Hp) (r:Addr) (zs:List V),ao H H'→H r=none→H' r=some (.lst zs)→ah K H' ((pairsF ts l).map dP) zs→Q (.ref r) H'
theorem zgW:zae ["terms","link"] ["terms","link"] (ar s_part_pairs):=⟨rfl,rfl,rfl,by decide +kernel,rfl,by decide +kernel,by decide +kernel⟩
theorem ok_pairs (F:Fun K "part_pairs" "part_pairs" s_part_pairs f fd) (T:Txt K mg):aH P w K mg base CX0 1 f fd ["terms","link"] (zhn K):=by
 refine F.ok zgW (fun vs H Q E h=>?_) (fun cdv A outer s H vs Q E hr h=>?_)
 ·obtain⟨tl,lp,xs,ts,l,rfl,_⟩:=h
  rfl
 obtain⟨tl,lp,xs,ts,l,rfl,hT,hL,hp,ha,hb,hlen,q⟩:=h
 refine⟨_,(af (zal (aw zc8 (aq au (pv 1) ae (fun _ _=>rfl)) (zcc zbB ae) (aF _))
   (ak (aB (zas ac)))
   zaf)
  (ak (aB (zlb rfl rfl T.zip rfl T.list (aa (aq au (aq zad (pv 0) (aq au (pv 1) ae (fun _ _=>rfl)) (fun _ _=>rfl)) ae (fun _ _=>rfl)) (aa (aq au (aq zad (pv 0) (aq au (pv 1) ae (fun _ _=>rfl)) (fun _ _=>rfl)) ae (fun _ _=>rfl)) ac)))))),?_⟩
 have a0:atI [V.int l.1,V.int l.2.1,V.int l.2.2] 0=some (.int l.1):=aA (j:=0) rfl
 have a1:atI [V.int l.1,V.int l.2.1,V.int l.2.2] 1=some (.int l.2.1):=aA (j:=1) rfl
 have a2:atI [V.int l.1,V.int l.2.1,V.int l.2.2] 2=some (.int l.2.2):=aA (j:=2) rfl
 refine⟨_,rfl,lp,_,_,_,rfl,rfl,hp,a2,_,rfl,rfl,_,rfl,?_⟩
 rw[zdk]
 by_cases c:l.2.2=-1
 case neg =>
  rw[decide_eq_false c]
  refine zaK ⟨lS0,fun r hr=>q _ r [] (ai hr _) hr (ad ..) ?_⟩
  unfold pairsF
  rw[if_neg c]
  exact ah.nil
 rw[decide_eq_true c]
 have xl:xs.length=ts.length:=by rw[←hL.length,List.length_map]
 obtain⟨t,e1⟩:∃ t,ts[l.1.toNat]?=some t:=⟨_,List.getElem?_eq_getElem (show l.1.toNat < ts.length by omega)⟩
 obtain⟨u,e2⟩:∃ u,ts[l.2.1.toNat]?=some u:=⟨_,List.getElem?_eq_getElem (show l.2.1.toNat < ts.length by omega)⟩
 have at_of:∀ {k:Int} {t:Tm},0≤k→k < (ts.length:Int)→ts[k.toNat]?=some t→∃ p pq,atI xs k=some (.ref p)∧SqT K H p [.str t.1,.ref pq]∧SqT K H pq (t.2.map V.int):=fun {k t} k0 k1 ht=>by
  have lt:k.toNat < xs.length:=by omega
  have ek:k=((k.toNat:Nat):Int):=by omega
  have h2:atI xs ((k.toNat:Nat):Int)=some xs[k.toNat]:=aA (List.getElem?_eq_getElem lt)
  rw[←ek]at h2
  obtain⟨t',p,pq,ht',ev,hp,hpq⟩:=tm_at hL (List.getElem?_eq_getElem lt)
  cases ht.symm.trans ht'
  rw[ev]at h2
  exact⟨p,pq,h2,hp,hpq⟩
 obtain⟨p1,q1,at1,hp1,hq1⟩:=at_of ha.1 ha.2 e1
 obtain⟨p2,q2,at2,hp2,hq2⟩:=at_of hb.1 hb.2 e2
 have c1:atI [V.str t.1,V.ref q1] 1=some (.ref q1):=aA (j:=1) rfl
 have d1:atI [V.str u.1,V.ref q2] 1=some (.ref q2):=aA (j:=1) rfl
 have hl:=hlen c t u e1 e2
 refine aP ⟨_,rfl,_,rfl,lp,_,_,_,rfl,rfl,hp,a0,tl,_,_,_,rfl,rfl,hT,at1,p1,_,_,_,rfl,rfl,hp1,c1,_,rfl,_,rfl,lp,_,_,_,rfl,rfl,hp,a1,tl,_,_,_,rfl,rfl,hT,at2,p2,_,_,_,rfl,rfl,hp2,d1,?_⟩
 refine⟨q1,q2,_,_,rfl,hq1,hq2,by rw[List.length_map,List.length_map,hl],fun H2 r ps hr s2 h2 h3 h4=>q H2 r _ s2 hr h2 ?_⟩
 unfold pairsF
 rw[if_pos c,e1,e2]
 exact zij hl (by rw[h4,List.length_map]) h3
def Src (ts:List Tm) (L:List Lk) (x y:Int) (M:List Nat) (pr:Int × Int):Prop:=pr=(x,y)∨∃ p∈M,∃ l,L[p]?=some l∧pr∈pairsF ts l
theorem Src.mono {ts:List Tm} {L:List Lk} {x y:Int} {M M':List Nat} {pr:Int × Int} (h:Src ts L x y M pr) (hm:∀ q∈M,q∈M'):Src ts L x y M' pr:=h.imp id fun⟨p,hp,r⟩=>⟨p,hm p hp,r⟩
structure zce (K:W.Frag) (H0 H:Hp) (nd wl:Addr) (ts:List Tm) (L:List Lk) (x y:Int) (kn:List (Key × V)) (M:List Nat) (Wp:List (Int × Int)) (ws:List V) (cur:Option (Int × Int)):Prop where
 same:ao H0 H
 hn:H nd=some (.dK kn)
 hw:H wl=some (.lst ws)
 has:ah K H (Wp.map dP) ws
 keys:kn.map (·.1)=(M.map fun q:Nat=>(q:Int)).map Sum.inl
 ndp:M.Nodup
 inn:∀ q∈M,q < L.length
 wb:Wp.length≤1+3 * M.length
 ok:∀ pr∈Wp,Src ts L x y M pr
 why:∀ q∈M,∃ π a b,PathOk L π a b∧q∈π∧Src ts L x y M (a,b)
 cov:∀ pr,Src ts L x y M pr→pr∈Wp∨some pr=cur∨∃ π,PathOk L π pr.1 pr.2∧∀ q∈π,q∈M
theorem nat_nodup_len:∀(n:Nat) {M:List Nat},M.Nodup→(∀ q∈M,q < n)→M.length≤n:=fun n M h1 h2=>by
 have:=zbi n (xs:=M.map fun q:Nat=>(q:Int)) (List.pairwise_map.mpr (h1.imp fun {a b} h e=>h (by omega))) fun x hx=>by
  obtain⟨q,hq,rfl⟩:=List.mem_map.mp hx
  have:=h2 q hq
  omega
 rwa [List.length_map]at this
theorem zce.len {H0 H:Hp} {nd wl:Addr} {ts:List Tm} {L:List Lk} {x y:Int} {kn:List (Key × V)} {M:List Nat} {Wp:List (Int × Int)} {ws:List V} {cur:Option (Int × Int)} (S:zce K H0 H nd wl ts L x y kn M Wp ws cur):M.length≤L.length:=nat_nodup_len _ S.ndp S.inn
theorem zce.to {H0 H H2:Hp} {nd wl:Addr} {ts:List Tm} {L:List Lk} {x y:Int} {kn:List (Key × V)} {M:List Nat} {Wp:List (Int × Int)} {ws:List V} {cur:Option (Int × Int)} (S:zce K H0 H nd wl ts L x y kn M Wp ws cur) (s:ao H H2):zce K H0 H2 nd wl ts L x y kn M Wp ws cur :=
 ⟨S.same.trans s,s _ _ S.hn,s _ _ S.hw,ah.keep s.kt (za9 _) S.has,S.keys,S.ndp,S.inn,S.wb,S.ok,S.why,S.cov⟩
theorem zeu {M:List Nat} {q:Nat}:((q:Int)∈M.map fun q:Nat=>(q:Int))↔q∈M:=⟨fun h=>by
 obtain⟨r,hr,e⟩:=List.mem_map.mp h
 have:r=q:=by omega
 exact this ▸ hr,fun h=>List.mem_map.mpr ⟨q,h,rfl⟩⟩
theorem zce.add {H0 H H2:Hp} {nd wl:Addr} {ts:List Tm} {L:List Lk} {x y:Int} {kn:List (Key × V)} {M:List Nat} {Wp:List (Int × Int)} {ws zs:List V} {cur:Option (Int × Int)} {q:Nat} {l:Lk} {π:List Nat} {a b:Int} (S:zce K H0 H nd wl ts L x y kn M Wp ws cur)
  (nn:H0 nd=none) (nw:H0 wl=none) (nq:q∉M) (hl:L[q]?=some l) (P:PathOk L π a b) (hq:q∈π) (sc:Src ts L x y M (a,b)) (p3:(pairsF ts l).length≤3) (s2:ao (upd H nd (.dK (zaw kn (.inl (q:Int)) (.bl true)))) H2) (hz:ah K H2 ((pairsF ts l).map dP) zs) :
  zce K H0 (upd H2 wl (.lst (ws++zs))) nd wl ts L x y (zaw kn (.inl (q:Int)) (.bl true)) (M++[q]) (Wp++pairsF ts l) (ws++zs) cur:=by
 have ne:nd≠wl:=fun e=>by have:=S.hn;rw[e,S.hw]at this;cases this
 have x1:zaP nd H (upd H nd (.dK (zaw kn (.inl (q:Int)) (.bl true)))):=zaP.put _ _
 have k1:=(x1.kt S.hn).trans s2.kt
 have w2:H2 wl=some (.lst ws):=s2 _ _ (x1 _ _ ne.symm S.hw)
 have n2:H2 nd=some (.dK (zaw kn (.inl (q:Int)) (.bl true))):=s2 _ _ (ad ..)
 have k2:zag H2 (upd H2 wl (.lst (ws++zs))):=zag.lst w2
 have hm:∀ p∈M,p∈M++[q]:=fun p hp=>List.mem_append_left _ hp
 have keys:(zaw kn (.inl (q:Int)) (.bl true)).map (·.1)=((M++[q]).map fun q:Nat=>(q:Int)).map Sum.inl:=by
  have:=zjf S.keys (q:Int) (.bl true)
  unfold addK at this
  rw[if_neg (fun h=>nq (zeu.mp h))]at this
  rw[this]
  simp
 refine⟨((S.same.upd nn).trans s2).upd nw,by rw[aj ne];exact n2,ad ..,?_,keys,?_,?_,?_,?_,?_,?_⟩
 ·rw[List.map_append]
  exact ah.append (ah.keep (k1.trans k2) (za9 _) S.has) (ah.keep k2 (za9 _) hz)
 ·refine List.nodup_append.mpr ⟨S.ndp,by simp,fun a ha b hb=>?_⟩
  rw[List.mem_singleton.mp hb]
  exact fun e=>nq (e ▸ ha)
 ·intro p hp
  rcases List.mem_append.mp hp with h | h
  ·exact S.inn p h
  ·rw[List.mem_singleton.mp h];exact(List.getElem?_eq_some_iff.mp hl).1
 ·have:=S.wb
  rw[List.length_append,List.length_append]
  show _≤1+3 * (_+1)
  omega
 ·intro pr hpr
  rcases List.mem_append.mp hpr with h | h
  ·exact(S.ok pr h).mono hm
  ·exact .inr ⟨q,by simp,l,hl,h⟩
 ·intro p hp
  rcases List.mem_append.mp hp with h | h
  ·obtain⟨ρ,a,b,h1,h2,h3⟩:=S.why p h
   exact⟨ρ,a,b,h1,h2,h3.mono hm⟩
  ·rw[List.mem_singleton.mp h]
   exact⟨π,a,b,P,hq,sc.mono hm⟩
 ·intro pr hpr
  have old:Src ts L x y M pr→pr∈Wp++pairsF ts l∨some pr=cur∨∃ π,PathOk L π pr.1 pr.2∧∀ p∈π,p∈M++[q]:=fun h=>by
   rcases S.cov pr h with h | h | ⟨ρ,h1,h2⟩
   ·exact .inl (List.mem_append_left _ h)
   ·exact .inr (.inl h)
   ·exact .inr (.inr ⟨ρ,h1,fun p hp=>hm p (h2 p hp)⟩)
  rcases hpr with h | ⟨p,hp,m,hpm,h⟩
  ·exact old (.inl h)
  ·rcases List.mem_append.mp hp with z | z
   ·exact old (.inr ⟨p,z,m,hpm,h⟩)
   ·rw[List.mem_singleton.mp z,hl]at hpm
    cases hpm
    exact .inl (List.mem_append_right _ h)
def TmB (ts:List Tm):Prop:=∀ t∈ts,t.2.length≤3∧∀ x∈t.2,0≤x∧x < (ts.length:Int)
def sp_ways (K:W.Frag) (CJ:Addr):Sp:=fun vs H Q E=>∃(tl la:Addr) (x y:Int) (xs ys:List V) (ts:List Tm) (gs:List (Int × Int)) (L:List Lk),vs=[.ref tl,.ref la,.int x,.int y]∧SqL K H tl xs∧ah K H (ts.map dTm) xs∧SqL K H la ys∧ah K H (L.map dL) ys∧TmB ts∧zah ts gs L∧ts.length≤60∧(0≤x∧x < (ts.length:Int))∧(0≤y∧y < (ts.length:Int)) ∧
 (hdL L x=hdL L y→∀(H':Hp) (r:Addr) (M:List Nat) (rs:List V),ao H H'→H r=none→H' r=some (.lst rs)→ah K H' ((atP L M).map dL) rs→Needs ts L x y M→M.Pairwise (· < ·)→Q (.ref r) H')∧(hdL L x≠hdL L y→∀ H',ao H H'→E (.ref CJ) none H')
theorem zdA:zae ["terms","links","one","other","steps","needed","waiting","pair","place"] ["terms","links","one","other"] (ar s_ways):=⟨rfl,rfl,rfl,by decide +kernel,rfl,by decide +kernel,by decide +kernel⟩
theorem zgT {M:List Nat} {ms:List Int} (hp:ms.Perm (M.map fun q:Nat=>(q:Int))) (so:ms.Pairwise (·≤·)) (nd:M.Nodup):∃ M':List Nat,ms=M'.map (fun q:Nat=>(q:Int))∧(∀ q,q∈M'↔q∈M)∧M'.Pairwise (· < ·):=by
 have pos:∀ z∈ms,0≤z:=fun z hz=>by
  obtain⟨q,_,rfl⟩:=List.mem_map.mp (hp.mem_iff.mp hz)
  omega
 have e:ms=(ms.map Int.toNat).map fun q:Nat=>(q:Int):=by
  rw[List.map_map]
  conv=>lhs;rw[←List.map_id ms]
  refine List.map_congr_left fun z hz=>?_
  have:=pos z hz
  show z=((z.toNat:Nat):Int)
  omega
 have ndm:ms.Nodup:=hp.nodup_iff.mpr (List.pairwise_map.mpr (nd.imp fun {a b} h e=>h (by omega)))
 refine⟨ms.map Int.toNat,e,fun q=>?_,?_⟩
 ·rw[←zeu (M:=M),←hp.mem_iff,←zeu (M:=ms.map Int.toNat),←e]
 ·refine List.pairwise_map.mpr ?_
  have lt:ms.Pairwise (· < ·):=by
   have:=so.and ndm
   exact this.imp fun {a b} h=>by have:=h.1;have:=h.2;omega
  refine List.Pairwise.imp_of_mem ?_ lt
  intro a b ha hb h
  have:=pos a ha
  have:=pos b hb
  omega
theorem pairs3 {ts:List Tm} (hW:TmB ts) (l:Lk):(pairsF ts l).length≤3:=by
 unfold pairsF
 split
 ·split
  ·rename_i t u h1 h2
   rw[List.length_zip]
   have:=(hW _ (List.mem_of_getElem? h1)).1
   omega
  ·exact Nat.zero_le _
 ·exact Nat.zero_le _
theorem zkk {ts:List Tm} (hW:TmB ts) {l:Lk} {pr:Int × Int} (h:pr∈pairsF ts l):(0≤pr.1∧pr.1 < (ts.length:Int))∧0≤pr.2∧pr.2 < (ts.length:Int):=by
 unfold pairsF at h
 split at h
 ·split at h
  ·rename_i t u h1 h2
   obtain⟨a,b⟩:=List.of_mem_zip h
   exact⟨(hW _ (List.mem_of_getElem? h1)).2 _ a,(hW _ (List.mem_of_getElem? h2)).2 _ b⟩
  ·simp at h
 ·simp at h
theorem ok_ways (F:Fun K "ways" "ways" s_ways f fd) (T:Txt K mg) (Bs:FB P w K mg base CX0 1 "steps_of" fS dS ["links"] (zfA K)) (Bw:FB P w K mg base (CX1 P w) 1 "way" fW dW ["steps","one","other"] (sp_way K CJ)) (Bp:FB P w K mg base CX0 1 "part_pairs" fP dP' ["terms","link"] (zhn K)):aH P w K mg base (CX1 P w) 2 f fd ["terms","links","one","other"] (sp_ways K CJ):=by
 refine Fun.okX F zdA (fun vs H Q E h=>?_) (fun cdv A outer s H vs Q E hr h=>?_)
 ·obtain⟨tl,la,x,y,xs,ys,ts,gs,L,rfl,_⟩:=h
  rfl
 obtain⟨tl,la,x,y,xs,ys,ts,gs,L,rfl,hT,hL,hS,hY,hW,R,t60,hx,hy,qY,qN⟩:=h
 have hu:=zeE hr
 refine⟨_,(af (ay (i:=4) zdA.nd rfl (Or.inl rfl) (ax Bs.ok hr rfl Bs.m Bs.kp Bs.b .nil aE (aa (pv 1) ac)))
  (af (ay (i:=5) zdA.nd rfl (Or.inl rfl) zc2)
  (af (ay (i:=6) zdA.nd rfl (Or.inl rfl) (zas (aa (zaR (aa (pv 2) (aa (pv 3) ac))) ac)))
  (af (zfP PassesOwn.leaving (aw zdX (zaa zab rfl T.len PySem.boot_len (aa (pv 6) ac)) ae (aF _))
   (af (ay (i:=7) zdA.nd rfl (Or.inl rfl) (zi6 PySem.F.plainAttrs_list PySem.F.slot_list_pop PySem.F.type_list_pop zjd (pv 6)))
    (ak (zaE PassesOwn.leaving rfl (zcr (ax Bw.ok hr rfl Bw.m Bw.kp Bw.b .nil (zcg xe1) (aa (pv 4) (aa (aq au (pv 7) ae (fun _ _=>rfl)) (aa (aq au (pv 7) ae (fun _ _=>rfl)) ac))))) (zam (i:=8) zdA.nd rfl (Or.inl rfl))
     (ak (zal (zf0 (zd2 hu (pv 8) (pv 5)))
       (af (zeq hu (pv 5) (pv 8) zbu rfl)
        (ak (zaB (zcy PySem.F.plainAttrs_list PySem.F.slot_list_extend PySem.F.type_list_extend zgN (pv 6) (aa (ax Bp.ok hr rfl Bp.m Bp.kp Bp.b .nil aE (aa (pv 0) (aa (aq zad (pv 1) (pv 8) (fun _ _=>rfl)) ac))) ac)))))
       zaf))))))
  (ak (aB (zdr (N':=["place","links"]) (ix:=[1]) rfl rfl (by decide +kernel) (by decide +kernel) rfl (fun ok=>zb1 (sc:=ar s_ways) ok rfl (by decide +kernel) (by decide +kernel)) (by decide +kernel) rfl rfl (fun j i h=>match j,h with | 0,h=>by cases h;exact⟨_,rfl,rfl,.inl rfl,.inl rfl⟩ | n+1,h=>by simp at h) (zbq (zaa (zhO rfl) rfl T.sorted PyProof.Rows.Boot.sorted (aa (pv 5) ac))) (fun _ _ _ _=>(aq (r:=zez K) zad (pv 1) (pv 0) (fun _ _=>rfl)))))))))),?_⟩
 have yl:ys.length=L.length:=by rw[←hY.length,List.length_map]
 have L60:L.length≤60:=Nat.le_trans R.len t60
 refine⟨_,rfl,la,ys,L,rfl,hS,hY,by omega,fun H1 sd kst S1=>?_⟩
 intro nd hnd
 have s2:ao H1 (upd H1 nd (.dK [])):=ai hnd _
 refine⟨_,rfl,_,rfl,lS2,fun pp hpp=>⟨lS1,fun wl hwl=>?_⟩⟩
 have s3:ao (upd H1 nd (.dK [])) (upd (upd H1 nd (.dK [])) pp (.tup [.int x,.int y])):=ai hpp _
 have s4:=ai hwl (.lst [.ref pp])
 have sA:ao H1 (upd (upd (upd H1 nd (.dK [])) pp (.tup [.int x,.int y])) wl (.lst [.ref pp])):=(s2.trans s3).trans s4
 have St:StR K (upd (upd (upd H1 nd (.dK [])) pp (.tup [.int x,.int y])) wl (.lst [.ref pp])) sd (nbr L L.length):=(S1.r (by omega)).same sA
 have nnd:H nd=none:=S1.same.free hnd
 have nwl:H wl=none:=(S1.same.trans (s2.trans s3)).free hwl
 have S0:zce K H (upd (upd (upd H1 nd (.dK [])) pp (.tup [.int x,.int y])) wl (.lst [.ref pp])) nd wl ts L x y [] [] [(x,y)] [.ref pp] none :=
  ⟨S1.same.trans sA,s4 _ _ (s3 _ _ (ad ..)),ad ..,.cons (Has.tup' (SqT.of (s4 _ _ (ad ..))) (.cons Has.int (.cons Has.int .nil))) .nil,rfl,by simp,by simp,by simp,fun pr h=>.inl (List.mem_singleton.mp h),by simp,fun pr h=>.inl (by
   rcases h with h | ⟨p,hp,_⟩
   ·rw[h];simp
   ·simp at hp)⟩
 have nw1:H1 wl=none:=(s2.trans s3).free hwl
 generalize eHA:upd (upd (upd H1 nd (.dK [])) pp (.tup [.int x,.int y])) wl (.lst [.ref pp])=HA at sA St S0
 have ktG:∀ {H'},zar nd wl HA H'→zag HA H':=fun {H'} sg b us z=>by
  have nb1:b≠nd:=fun e=>by
   rw[e]at z
   rcases z with z | ⟨o,z⟩ <;> (rw[S0.hn]at z;cases z)
  have nb2:b≠wl:=fun e=>by
   rw[e]at z
   rcases z with z | ⟨o,z⟩ <;> (rw[S0.hw]at z;cases z)
  rcases z with z | ⟨o,z⟩
  ·exact .inl (sg _ _ nb1 nb2 z)
  ·exact .inr ⟨o,sg _ _ nb1 nb2 z⟩
 have stOf:∀ {H'},zar nd wl HA H'→StR K H' sd (nbr L L.length):=fun {H'} sg=>by
  refine⟨kst,sg _ _ (fun e=>?_) (fun e=>?_) (sA _ _ S1.hd),fun t=>⟨Nat.le_trans (S1.big t) (by omega),?_⟩⟩
  ·have:=S1.hd
   rw[e,hnd]at this
   cases this
  ·have:=S1.hd
   rw[e,nw1]at this
   cases this
  ·rcases S1.at_ t with a | ⟨l,us,a1,a2,_,_,a3⟩
   ·exact .inl a
   ·exact .inr ⟨l,us,a1,sg _ _ (fun e=>by rw[e,hnd]at a2;cases a2) (fun e=>by rw[e,nw1]at a2;cases a2) (sA _ _ a2),ah.keep (sA.kt.trans (ktG sg)) (za9 _) a3⟩
 clear s2 s3 s4 eHA hpp hwl
 refine⟨fun m σ H'=>∃(v7 v8:Option V) (kn:List (Key × V)) (M:List Nat) (Wp:List (Int × Int)) (ws:List V),σ=[some (.ref tl),some (.ref la),some (.int x),some (.int y),some (.ref sd),some (.ref nd),some (.ref wl),v7,v8]∧zce K H H' nd wl ts L x y kn M Wp ws none∧zar nd wl HA H'∧m=4 * (L.length - M.length)+Wp.length,
  ⟨_,none,none,_,_,_,_,rfl,S0,ao.g (ao.refl _),rfl⟩,?_⟩
 rintro m σ H3 ⟨v7,v8,kn,M,Wp,ws,rfl,S,sg,rfl⟩
 have wl3:ws.length=Wp.length:=by rw[←S.has.length,List.length_map]
 have ml:=S.len
 have wb:=S.wb
 refine⟨_,rfl,wl,_,rfl,.inl (SqL.of S.hw),_,_,rfl,rfl,_,rfl,?_⟩
 by_cases cW:Wp=[]
 ·-- all are found
  subst cW
  rw[show decide (((ws.length:Nat):Int) > 0)=false from decide_eq_false (by rw[wl3];simp)]
  have nope:∀ pr,Src ts L x y M pr→∃ π,PathOk L π pr.1 pr.2∧∀ q∈π,q∈M:=fun pr h=>by
   rcases S.cov pr h with z | z | z
   ·simp at z
   ·cases z
   ·exact z
  obtain⟨π0,P0,sub0⟩:=nope (x,y) (.inl rfl)
  have ND:Needs ts L x y M:=⟨S.inn,fun q hq=>by
   obtain⟨π,a,b,h1,h2,h3⟩:=S.why q hq
   refine⟨π,a,b,h1,h2,?_⟩
   rcases h3 with h3 | ⟨p,hp,l,hl,h3⟩
   ·injection h3 with e1 e2
    exact .inl ⟨e1,e2⟩
   ·exact .inr ⟨p,hp,l,hl,h3⟩,⟨π0,P0,sub0⟩,fun p hp l hl ab hab=>nope ab (.inr ⟨p,hp,l,hl,hab⟩)⟩
  have ek:kn.map (fun kv=>kV kv.1)=(M.map fun q:Nat=>(q:Int)).map V.int:=zlo S.keys
  refine aP ⟨_,rfl,nd,kn,_,rfl,S.hn,ek,by rw[List.length_map];omega,fun so ms hso pm pw=>?_⟩
  obtain⟨M',rfl,mm,lt⟩:=zgT pm pw S.ndp
  have ml':M'.length≤L.length:=nat_nodup_len _ (lt.imp fun h=>Nat.ne_of_lt h) fun q hq=>S.inn q ((mm q).mp hq)
  have ND':Needs ts L x y M':=⟨fun q hq=>ND.inn q ((mm q).mp hq),fun q hq=>by
   obtain⟨π,a,b,h1,h2,h3⟩:=ND.why q ((mm q).mp hq)
   exact⟨π,a,b,h1,h2,h3.imp id fun⟨p,hp,r⟩=>⟨p,(mm p).mpr hp,r⟩⟩,⟨π0,P0,fun q hq=>(mm q).mpr (sub0 q hq)⟩,fun p hp l hl ab hab=>by
   obtain⟨π,h1,h2⟩:=ND.all p ((mm p).mp hp) l hl ab hab
   exact⟨π,h1,fun q hq=>(mm q).mpr (h2 q hq)⟩⟩
  have s4:ao H3 (upd H3 so (.lst ((M'.map fun q:Nat=>(q:Int)).map V.int))):=ai hso _
  have n4:=ad (H:=H3) (a:=so) (o:=.lst ((M'.map fun q:Nat=>(q:Int)).map V.int))
  generalize upd H3 so (.lst ((M'.map fun q:Nat=>(q:Int)).map V.int))=H4 at s4 n4
  have sH4:=S.same.trans s4
  refine⟨so,rfl,⟨_,SqL.of n4⟩,fun D hD=>zcM zbd (fun j us H'=>ao H4 H'∧ah K H' (((atP L M').take j).map dL) us) (fun j us H' ⟨s1,_⟩=>s1.seq (SqL.of n4)) ⟨ai hD _,ah.nil⟩ ?_ ?_⟩
  ·rintro j us H8 z H5 hj hly hDs ⟨s5,hus⟩ ⟨rfl,hz⟩
   obtain⟨n,hn,rfl⟩:=zaT (hz _ (s5.seq (SqL.of n4)))
   rw[List.getElem?_map]at hn
   obtain⟨q,hq,rfl⟩:=Option.map_eq_some_iff.mp hn
   have ql:=ND'.inn q (List.mem_of_getElem? hq)
   have hlq:=List.getElem?_eq_getElem ql
   have at1:atI ys (q:Int)=some (ys[q]'(by omega)):=aA (List.getElem?_eq_getElem (by omega))
   obtain⟨l,p,el,ep,hp⟩:=zdu (ah.keep sH4.kt (zaF _) hY) (List.getElem?_eq_getElem (show q < ys.length by omega))
   rw[ep]at at1
   refine⟨_,rfl,_,rfl,la,_,_,_,rfl,rfl,s5.seq (sH4.seq hS),at1,zaQ (bsz _ (by simp;omega)) hj hly hDs ⟨s5.upd hD,?_⟩⟩
   have hal:(atP L M')[j]?=some l:=by
    unfold atP
    rw[List.getElem?_map,hq]
    exact congrArg some (getD_at el)
   rw[zai hal,List.map_append]
   have kt5:zag H5 (upd H5 D (.lst (us++[.ref p]))):=zag.lst hDs
   exact ah.append (ah.keep kt5 (zaF _) hus) (.cons (zg3 (kt5.sq (s5.tup hp))) .nil)
  rintro us H5 hDs ⟨s5,hus⟩
  refine qY P0.joins H5 D M' us (sH4.trans s5) (sH4.free hD) hDs ?_ ND' lt
  rw[List.length_map,List.length_map,List.take_of_length_le (by unfold atP;rw[List.length_map];exact Nat.le_refl _)]at hus
  exact hus
 have wp:0 < Wp.length:=List.length_pos_iff.mpr cW
 rw[show decide (((ws.length:Nat):Int) > 0)=true from decide_eq_true (by omega)]
 refine zaK ⟨fun σ' H'=>∃(v7 v8:Option V) (kn':List (Key × V)) (M':List Nat) (Wp':List (Int × Int)) (ws':List V),σ'=[some (.ref tl),some (.ref la),some (.int x),some (.int y),some (.ref sd),some (.ref nd),some (.ref wl),v7,v8]∧zce K H H' nd wl ts L x y kn' M' Wp' ws' none∧zar nd wl HA H'∧4 * (L.length - M'.length)+Wp'.length < 4 * (L.length - M.length)+Wp.length,?_,?_⟩
 ·rintro σ' H' ⟨v7',v8',kn',M',Wp',ws',rfl,a,b,c⟩
  exact⟨_,c,v7',v8',kn',M',Wp',ws',rfl,a,b,rfl⟩
 obtain⟨W0,pr,rfl⟩:∃ W0 pr,Wp=W0++[pr]:=⟨Wp.dropLast,Wp.getLast cW,(List.dropLast_concat_getLast cW).symm⟩
 have lw:ws.length=W0.length+1:=by rw[wl3,List.length_append];rfl
 have ew:=List.getElem?_eq_getElem (show W0.length < ws.length by omega)
 obtain⟨pr',p,hpr,ev,hp⟩:=zgu S.has ew
 have e0:pr=pr':=by simpa using hpr
 subst e0
 refine⟨_,rfl,.inl ⟨rfl,_,SqL.of S.hw⟩,wl,_,_,rfl,rfl,S.hw,(by rw[show ws.length - 1=W0.length by omega];exact ew.trans (congrArg some ev)),?_⟩
 have hdl:ah K H3 (W0.map dP) ws.dropLast:=by
  have:=ah.take W0.length S.has
  rw[←List.map_take,List.take_left]at this
  rw[List.dropLast_eq_take,show ws.length - 1=W0.length by omega]
  exact this
 have nwf:nd≠wl:=fun e=>by have:=S.hn;rw[e,S.hw]at this;cases this
 have sc0:Src ts L x y M pr:=S.ok pr (by simp)
 have S1:zce K H (upd H3 wl (.lst ws.dropLast)) nd wl ts L x y kn M W0 ws.dropLast (some pr) :=
  ⟨S.same.upd nwl,by rw[aj nwf];exact S.hn,ad ..,ah.keep (zag.lst S.hw) (za9 _) hdl,S.keys,S.ndp,S.inn,by have:=S.wb;rw[List.length_append]at this;omega,fun q hq=>S.ok q (List.mem_append_left _ hq),S.why,fun q hq=>by
   rcases S.cov q hq with z | z | z
   ·rcases List.mem_append.mp z with z | z
    ·exact .inl z
    ·exact .inr (.inl (congrArg some (List.mem_singleton.mp z)))
   ·cases z
   ·exact .inr (.inr z)⟩
 have sg1:zar nd wl HA (upd H3 wl (.lst ws.dropLast)):=sg.trans (zar.put2 _ _)
 have hp4:SqT K (upd H3 wl (.lst ws.dropLast)) p [.int pr.1,.int pr.2]:=(zag.lst S.hw).sq hp
 generalize upd H3 wl (.lst ws.dropLast)=H4 at S1 sg1 hp4
 have a0:atI [V.int pr.1,V.int pr.2] 0=some (.int pr.1):=aA (j:=0) rfl
 have a1:atI [V.int pr.1,V.int pr.2] 1=some (.int pr.2):=aA (j:=1) rfl
 have pin:(0≤pr.1∧pr.1 < (ts.length:Int))∧0≤pr.2∧pr.2 < (ts.length:Int):=by
  rcases sc0 with z | ⟨q,hq,l,hl,z⟩
  ·rw[z];exact⟨hx,hy⟩
  ·exact zkk hW z
 refine⟨_,rfl,_,rfl,p,_,_,_,rfl,rfl,hp4,a0,_,rfl,p,_,_,_,rfl,rfl,hp4,a1,sd,pr.1,pr.2,L,ts.length,rfl,stOf sg1,R.inn,by omega,pin.1,pin.2,fun _ H5 pw π s5 hpw PO _=>?_,fun nj H5 s5=>?_⟩
 case refine_2 =>
  refine qN ?_ H5 (S1.same.trans s5)
  rcases sc0 with z | ⟨q,hq,l,hl,z⟩
  ·rw[z]at nj;exact nj
  ·refine absurd ?_ nj
   have:=zd5 (L.drop q) (pairs_joined R hl pr z)
   rwa [List.take_append_drop]at this
 have S5:=S1.to s5
 have sg5:zar nd wl HA H5:=sg1.trans s5.g
 clear hp4
 have xk:plV π=(π.map fun q:Nat=>(q:Int)).map V.int:=by unfold plV;rw[List.map_map];rfl
 have ktH:∀ {H6},zar nd wl H5 H6→zag H5 H6:=fun {H'} sg b us z=>by
  have nb1:b≠nd:=fun e=>by
   rw[e]at z
   rcases z with z | ⟨o,z⟩ <;> (rw[S5.hn]at z;cases z)
  have nb2:b≠wl:=fun e=>by
   rw[e]at z
   rcases z with z | ⟨o,z⟩ <;> (rw[S5.hw]at z;cases z)
  rcases z with z | ⟨o,z⟩
  ·exact .inl (sg _ _ nb1 nb2 z)
  ·exact .inr ⟨o,sg _ _ nb1 nb2 z⟩
 refine⟨pw,rfl,⟨_,hpw⟩,zbx zbY (fun j σ H'=>∃(v8:Option V) (kn':List (Key × V)) (M':List Nat) (W':List (Int × Int)) (ws':List V),σ=[some (.ref tl),some (.ref la),some (.int x),some (.int y),some (.ref sd),some (.ref nd),some (.ref wl),some (.ref p),v8]∧zce K H H' nd wl ts L x y kn' M' W' ws' (some pr)∧zar nd wl H5 H'∧(∀ q∈M,q∈M')∧(∀ i q,i < j→π[i]?=some q→q∈M')∧4 * (L.length - M'.length)+W'.length≤4 * (L.length - M.length)+W0.length)
  (fun i σ H' ⟨_,_,_,_,_,_,_,sg,_⟩=>(ktH sg).sq hpw) ⟨v8,kn,M,W0,_,rfl,S5,ao.g (ao.refl _),(fun _ h=>h),(fun i q hi=>absurd hi (Nat.not_lt_zero _)),Nat.le_refl _⟩ ?_ ?_⟩
 ·rintro i σ H7 z H6 hi ⟨v8,kn6,M6,W6,ws6,rfl,S6,sg6,m6,n6,b6⟩ ⟨rfl,hz⟩
  have hz:=hz _ ((ktH sg6).sq hpw)
  rw[xk]at hz
  obtain⟨n,hn,rfl⟩:=zaT hz
  rw[List.getElem?_map]at hn
  obtain⟨q,hq,rfl⟩:=Option.map_eq_some_iff.mp hn
  refine⟨_,rfl,_,rfl,nd,_,rfl,zbv.k (k:=.inl (q:Int)) S6.hn,_,rfl,?_⟩
  rw[zem S6.keys]
  have up:∀ {M7:List Nat},(∀ r∈M6,r∈M7)→q∈M7→∀ j r,j < i+1→π[j]?=some r→r∈M7:=fun h1 h2 j r hj hr'=>by
   by_cases z:j=i
   ·subst z
    cases hq.symm.trans hr'
    exact h2
   ·exact h1 r (n6 j r (by omega) hr')
  by_cases c:q∈M6
  ·rw[decide_eq_true (zeu.mpr c)]
   exact aP ⟨_,kn6,M6,W6,ws6,rfl,S6,sg6,m6,up (fun _ h=>h) c,b6⟩
  rw[decide_eq_false (fun h=>c (zeu.mp h))]
  have ql:=PO.inn q (List.mem_of_getElem? hq)
  have hYq:=List.getElem?_eq_getElem (show q < ys.length by omega)
  have ml6:=S6.len
  have wb6:=S6.wb
  obtain⟨l,lp,hl,el,hlp0⟩:=zdu hY hYq
  have at1:atI ys (q:Int)=some (.ref lp):=aA (hYq.trans (congrArg some el))
  have wl6:ws6.length=W6.length:=by rw[←S6.has.length,List.length_map]
  have hw7:(upd H6 nd (.dK (zaw kn6 (.inl (q:Int)) (.bl true)))) wl=some (.lst ws6):=by rw[aj nwf.symm];exact S6.hw
  have sH7:ao H (upd H6 nd (.dK (zaw kn6 (.inl (q:Int)) (.bl true)))):=S6.same.upd nnd
  have lin:=R.inn l (List.mem_of_getElem? hl)
  refine zaK ⟨_,rfl,_,rfl,nd,_,rfl,.inl ⟨_,.inl (q:Int),S6.hn,rfl,zdY (by rw[zjg S6.keys,List.length_map];omega),rfl⟩,?_⟩
  refine⟨_,rfl,.inl ⟨rfl,_,SqL.of hw7⟩,_,rfl,_,rfl,_,rfl,la,_,_,_,rfl,rfl,sH7.seq hS,at1,tl,lp,xs,ts,l,rfl,sH7.seq hT,ah.keep sH7.kt (zc3 _) hL,sH7.tup hlp0,lin.1,lin.2,fun hm t u ht hu'=>?_,fun H8 r zs8 s8 hr8 h8 hz8=>?_⟩
  ·rcases(R q l hl).how with ⟨a,_⟩ | ⟨_,t',u',t1,t2,t3,t4⟩
   ·omega
   ·cases ht.symm.trans t1
    cases hu'.symm.trans t2
    have:=congrArg List.length t4
    simpa using this
  have p3:=pairs3 hW l
  have zl:zs8.length=(pairsF ts l).length:=by rw[←hz8.length,List.length_map]
  refine⟨wl,r,ws6,zs8,rfl,rfl,s8 _ _ hw7,h8,zds (n:=ws6.length+zs8.length) (by omega),?_⟩
  have S9:=S6.add nnd nwl c hl PO (List.mem_of_getElem? hq) (sc0.mono m6) p3 s8 hz8
  have ml9:=S9.len
  rw[List.length_append]at ml9
  have ml9:M6.length+1≤L.length:=ml9
  refine⟨_,_,M6++[q],W6++pairsF ts l,_,rfl,S9,((sg6.trans (zar.put1 _ _)).trans s8.g).trans (zar.put2 _ _),fun r hr'=>List.mem_append_left _ (m6 r hr'),up (fun r h=>List.mem_append_left _ h) (by simp),?_⟩
  rw[List.length_append,List.length_append]
  show 4 * (L.length - (M6.length+1))+_≤_
  omega
 rintro σ H6 ⟨v8',kn6,M6,W6,ws6,rfl,S6,sg6,m6,n6,b6⟩
 refine⟨_,_,kn6,M6,W6,ws6,rfl,⟨S6.same,S6.hn,S6.hw,S6.has,S6.keys,S6.ndp,S6.inn,S6.wb,S6.ok,S6.why,fun q hq=>?_⟩,sg5.trans sg6,by rw[List.length_append];show _ < _+(_+1);omega⟩
 rcases S6.cov q hq with z | z | z
 ·exact .inl z
 ·cases z
  refine .inr (.inr ⟨π,PO,fun r hr'=>?_⟩)
  obtain⟨j,hj⟩:=List.mem_iff_getElem?.mp hr'
  exact n6 j r (by rw[xk,List.length_map,List.length_map];exact(List.getElem?_eq_some_iff.mp hj).1) hj
 ·exact .inr (.inr z)
end
end W51
namespace K51
open PySem L2
def top (i:Nat):Stmt:=PySem.Challenge.pw_yesorno_k51_clashes.main.body.getD i (.Pass ⟨0,0,0,0⟩)
abbrev s_given_links:Stmt:=top 3
abbrev s_alike_links:Stmt:=top 4
abbrev s_links:Stmt:=top 5
abbrev s_groups_of:Stmt:=top 6
abbrev s_heads:Stmt:=top 7
abbrev zgn:Stmt:=top 21
abbrev zgo:Stmt:=top 22
abbrev zfO:Stmt:=top 23
abbrev zg9:Stmt:=top 24
abbrev zix:Stmt:=zci (top 25) 0
abbrev zfN:Stmt:=zci (top 25) 1
abbrev sAdd:Stmt:=zci (top 25) 3
abbrev zg8:Stmt:=zci (top 25) 4
abbrev ziw:Stmt:=zci (top 25) 5
abbrev zdw:Stmt:=top 27
abbrev s_steps_of:Stmt:=top 29
abbrev s_way:Stmt:=top 30
abbrev s_part_pairs:Stmt:=top 31
abbrev s_ways:Stmt:=top 32
abbrev zcu:Stmt:=top 34
abbrev zb7:Stmt:=top 35
abbrev zbV:Stmt:=top 36
abbrev zb8:Stmt:=top 37
abbrev zfm:Stmt:=top 38
abbrev sCell:Stmt:=top 40
abbrev zc5:Stmt:=top 41
abbrev zdS:Stmt:=top 42
abbrev zbX:Stmt:=top 43
abbrev zco:Stmt:=top 44
abbrev zcB:Stmt:=top 45
abbrev zb9:Stmt:=top 46
abbrev zeb:Stmt:=top 47
abbrev zcH:Stmt:=top 48
abbrev zdn:Stmt:=top 49
abbrev zbW:Stmt:=top 50
abbrev zdo:Stmt:=top 51
abbrev zdT:Stmt:=top 52
abbrev zcq:Stmt:=top 53
abbrev zcp:Stmt:=top 54
abbrev zdm:Stmt:=top 55
abbrev zdU:Stmt:=top 56
abbrev zdq:Stmt:=top 57
abbrev abc:Str:="abcdefghijklmnopqrstuvwxyz"
def isL (c:Str):Bool:=!(Builtin.Str.occurrences abc c 0 abc.length 1).isEmpty
def zd7 (z:Str):List Bool:=z.cps.toList.map fun c=>isL ⟨#[c]⟩
def zg4:List V:=[.str "or",.str "and",.str "not",.str "never",.str "always",.str "then",.str "as",.str "unlike"]
def zgZ (z:Str):Bool:=decide ((0:Int) < (z.length:Int))&&(zd7 z).all id
def zbG (z:Str):Bool:=zgZ z&&(decide ((z.length:Int)≤8)&&!inV (.str z) zg4)
theorem sz (n:Nat) (h:n≤1000):n≤sizeLine:=Nat.le_of_lt (zaY h)
theorem ziQ:zg4.all zc9=true:=by decide +kernel
theorem zhD (z:Str):(zd7 z).length=z.length:=by simp [zd7,Str.length]
theorem za4 (a b:Str):(a++b).length=a.length+b.length:=by
 show(a.cps++b.cps).size=a.cps.size+b.cps.size
 exact Array.size_append
theorem zke {z:Str} {i ch:Nat} (hch:z.cps[i]?=some ch):(zd7 z).take (i+1)=(zd7 z).take i++[isL ⟨#[ch]⟩]:=by
 have hb:(zd7 z)[i]?=some (isL ⟨#[ch]⟩):=by
  unfold zd7
  rw[List.getElem?_map,Array.getElem?_toList,hch]
  rfl
 rw[List.take_add_one,hb]
 rfl
abbrev Tm:=Str × List Int
def dT (t:Tm):Dt:=.tup [.str t.1,.tup (t.2.map Dt.int)]
theorem zd3:∀ ns:List Int,zdE (ns.map Dt.int)=true
 | []=>by simp [zdE]
 | n :: ns=>by simp only[List.map_cons,zdE,nob,Bool.true_and];exact zd3 ns
theorem ze7:∀ ns:List Int,zaW (ns.map Dt.int)=true
 | []=>by simp [zaW]
 | n :: ns=>by simp only[List.map_cons,zaW,nol,Bool.true_and];exact ze7 ns
theorem zbc:∀ ns:List Int,zaM (ns.map Dt.int)=0
 | []=>by simp [zaM]
 | n :: ns=>by simp only[List.map_cons,zaM,dep,zbc ns];rfl
theorem zi9 (t:Tm):nob (dT t)=true:=by simp only[dT,nob,zdE,zd3,Bool.and_self]
theorem zi8 (t:Tm):nol (dT t)=true:=by simp only[dT,nol,zaW,ze7,Bool.and_self]
theorem zjq (t:Tm):dep (dT t)=2:=by simp only[dT,dep,zaM,zbc];rfl
theorem zbr:∀ T:List Tm,zaW (T.map dT)=true
 | []=>by simp [zaW]
 | t :: T=>by simp only[List.map_cons,zaW,zi8,Bool.true_and];exact zbr T
theorem zhI:∀ T:List Tm,zaM (T.map dT)≤2
 | []=>by simp [zaM]
 | t :: T=>by
  have h:=zhI T
  simp only[List.map_cons,zaM,zjq]
  omega
theorem zlp {a b:Int} (h:Dt.int a=Dt.int b):a=b:=by cases h;rfl
theorem zhE:∀ {as bs:List Int},as.map Dt.int=bs.map Dt.int→as=bs
 | [],[],_=>rfl
 | [],b :: bs,h=>by cases h
 | a :: as,[],h=>by cases h
 | a :: as,b :: bs,h=>by
  rw[List.map_cons,List.map_cons]at h
  injection h with h1 h2
  rw[zlp h1,zhE h2]
theorem dT_inj {a b:Tm} (h:dT a=dT b):a=b:=by
 obtain⟨n,ps⟩:=a
 obtain⟨m,qs⟩:=b
 unfold dT at h
 injection h with h
 injection h with h1 h2
 injection h1 with h1
 injection h2 with h2 _
 injection h2 with h2
 have e1:n=m:=h1
 have e2:ps=qs:=zhE h2
 rw[e1,e2]
theorem peq_dT (a b:Tm):peq (dT a) (dT b)=decide (a=b):=by
 by_cases h:a=b
 ·subst h
  rw[zaS,decide_eq_true rfl]
 ·rw[decide_eq_false h]
  cases e:peq (dT a) (dT b) with
  | false=>rfl
  | true=>exact absurd (dT_inj (zhb _ _ (zi9 a) (zi9 b) e)) h
inductive Out where
 | num (n:Nat) | name | term | many | part
def bad (T:List Tm) (ps:List Int):Bool:=decide (3 < ps.length)||ps.any fun p=>decide (p < 0)||decide ((T.length:Int)≤p)
def zcL (T:List Tm) (good:Bool) (t:Tm):Out × List Tm :=
 if good=false then(.name,T) else if bad T t.2=true then(.term,T) else if t∈T then(.num (T.idxOf t),T) else if 60≤T.length then(.many,T) else(.num T.length,T++[t])
theorem zfV {α:Type} [BEq α] [LawfulBEq α] {code:α→Dt} (hc:∀ a b,peq (code a) (code b)=true↔a=b) (T:List α) (t:α):((T.map code).any fun d=>peq d (code t))=decide (t∈T):=by
 rw[Bool.eq_iff_iff,List.any_eq_true]
 constructor
 ·rintro ⟨d,hd,e⟩
  obtain⟨u,hu,rfl⟩:=List.mem_map.mp hd
  rw[hc]at e
  rw[←e]
  exact decide_eq_true hu
 ·intro h
  exact⟨code t,List.mem_map.mpr ⟨t,of_decide_eq_true h,rfl⟩,zaS _⟩
theorem zhG {α:Type} [BEq α] [LawfulBEq α] {code:α→Dt} (hc:∀ a b,peq (code a) (code b)=true↔a=b) (T:List α) (t:α):(T.map code).findIdx (fun d=>peq d (code t))=T.idxOf t:=by
 rw[List.findIdx_map]
 unfold List.idxOf
 congr 1
 funext a
 show peq (code a) (code t)=(a == t)
 rw[Bool.eq_iff_iff,hc,beq_iff_eq]
theorem zji (a b:Tm):peq (dT a) (dT b)=true↔a=b:=by
 rw[peq_dT]
 exact decide_eq_true_iff
inductive At where
 | plain (z:Str)
 | same (a b:Int)
 deriving DecidableEq
def dA:At→Dt
 | .plain z=>.tup [.str "plain",.str z]
 | .same a b=>.tup [.str "same",.int a,.int b]
theorem zja (t:At):nob (dA t)=true:=by cases t <;> simp only[dA,nob,zdE,Bool.and_self]
theorem zcO (t:At):nol (dA t)=true:=by cases t <;> simp only[dA,nol,zaW,Bool.and_self]
theorem zhf (t:At):dep (dA t)=1:=by cases t <;> simp only[dA,dep,zaM] <;> rfl
theorem dA_inj {a b:At} (h:dA a=dA b):a=b:=by
 cases a <;> cases b
 all_goals
  unfold dA at h
  injection h with h
  injection h with h1 h2
  injection h2 with h2 h3
  first
   | (injection h2 with h2;injection h3 with h3 _;injection h3 with h3;rw[h2,h3])
   | (injection h2 with h2;rw[h2])
   | (injection h1 with h1;exact absurd h1 (by decide +kernel))
   | cases h2
theorem zi5 (a b:At):peq (dA a) (dA b)=decide (a=b):=by
 by_cases h:a=b
 ·subst h
  rw[zaS,decide_eq_true rfl]
 ·rw[decide_eq_false h]
  cases e:peq (dA a) (dA b) with
  | false=>rfl
  | true=>exact absurd (dA_inj (zhb _ _ (zja a) (zja b) e)) h
theorem zhd (a b:At):peq (dA a) (dA b)=true↔a=b:=by
 rw[zi5]
 exact decide_eq_true_iff
def dR (r:List Int):Dt:=.tup (r.map Dt.int)
theorem zdG (r:List Int):nol (dR r)=true:=by simp only[dR,nol,ze7]
theorem dep_dR (r:List Int):dep (dR r)=1:=by simp only[dR,dep,zbc]
theorem zaJ {α:Type} {code:α→Dt} (hc:∀ a,nol (code a)=true):∀ T:List α,zaW (T.map code)=true
 | []=>by simp [zaW]
 | t :: T=>by simp only[List.map_cons,zaW,hc,Bool.true_and];exact zaJ hc T
theorem zcJ {α:Type} {code:α→Dt} {n:Nat} (hc:∀ a,dep (code a)≤n):∀ T:List α,zaM (T.map code)≤n
 | []=>by simp [zaM]
 | t :: T=>by
  have h:=zcJ hc T
  have:=hc t
  simp only[List.map_cons,zaM]
  omega
theorem kTA:¬(("terms":Str)="atoms"):=by decide +kernel
theorem kTR:¬(("terms":Str)="rows"):=by decide +kernel
theorem kAR:¬(("atoms":Str)="rows"):=by decide +kernel
def zcC (tl al rl:Addr):List (Str × V):=zbn "rows" (.ref rl) (zbn "atoms" (.ref al) (zbn "terms" (.ref tl) []))
theorem zan (tl al rl:Addr):(zcC tl al rl).lookup ("terms":Str)=some (.ref tl):=by
 unfold zcC
 rw[zaV,if_neg kTR,zaV,if_neg kTA,zaV,if_pos rfl]
theorem zaD (tl al rl:Addr):(zcC tl al rl).lookup ("atoms":Str)=some (.ref al):=by
 unfold zcC
 rw[zaV,if_neg kAR,zaV,if_pos rfl]
theorem zfa (tl al rl:Addr):(zcC tl al rl).lookup ("rows":Str)=some (.ref rl):=by
 unfold zcC
 rw[zaV,if_pos rfl]
theorem zdC (tl al rl:Addr) {m:Str} (h1:¬m="rows") (h2:¬m="atoms") (h3:¬m="terms"):(zcC tl al rl).lookup m=none:=by
 unfold zcC
 rw[zaV,if_neg h1,zaV,if_neg h2,zaV,if_neg h3]
 all_goals rfl
def Fr1 (H H':Hp) (z:Addr):Prop:=∀ b o,H b=some o→b≠z→H' b=some o
theorem Fr1.of_same {H H':Hp} {z:Addr} (s:ao H H'):Fr1 H H' z:=fun b o e _=>s b o e
theorem Fr1.trans {H H1 H2:Hp} {z:Addr} (a:Fr1 H H1 z) (b:Fr1 H1 H2 z):Fr1 H H2 z:=fun c o e n=>b c o (a c o e n) n
theorem Fr1.keepT {H H':Hp} {z:Addr} {xs:List V} (f:Fr1 H H' z) (h:H z=some (.lst xs)):zag H H':=fun b ys q=>by
 rcases q with q | ⟨o,q⟩
 ·exact .inl (f b _ q (zax q h (fun e=>by cases e)))
 ·exact .inr ⟨o,f b _ q (zax q h (fun e=>by cases e))⟩
structure zbf (K:W.Frag) (C:Addr) (H:Hp) (p tl al rl:Addr) (T:List Tm) (As:List At) (Rs:List (List Int)):Prop where
 ob:∃ dx,H p=some (.ins C dx (zcC tl al rl))
 tm:∃ xs,H tl=some (.lst xs)∧ah K H (T.map dT) xs
 am:∃ xs,H al=some (.lst xs)∧ah K H (As.map dA) xs
 rm:∃ xs,H rl=some (.lst xs)∧ah K H (Rs.map dR) xs
 na:al≠tl
 nr:rl≠tl
 nx:rl≠al
theorem zbf.keep {K:W.Frag} {C:Addr} {H H':Hp} {p tl al rl z:Addr} {T:List Tm} {As:List At} {Rs:List (List Int)} {zs:List V} (h:zbf K C H p tl al rl T As Rs) (f:Fr1 H H' z) (hz:H z=some (.lst zs)) (n1:z≠tl) (n2:z≠al) (n3:z≠rl):zbf K C H' p tl al rl T As Rs:=by
 obtain⟨⟨dx,h1⟩,⟨xs,h2,h3⟩,⟨ys,h4,h5⟩,⟨ws,h6,h7⟩,h8,h9,h10⟩:=h
 exact⟨⟨dx,f _ _ h1 (zax h1 hz (fun e=>by cases e))⟩,⟨xs,f _ _ h2 n1.symm,h3.keep (f.keepT hz) (zbr T)⟩,⟨ys,f _ _ h4 n2.symm,h5.keep (f.keepT hz) (zaJ zcO As)⟩,⟨ws,f _ _ h6 n3.symm,h7.keep (f.keepT hz) (zaJ zdG Rs)⟩,h8,h9,h10⟩
theorem zbf.same {K:W.Frag} {C:Addr} {H H':Hp} {p tl al rl:Addr} {T:List Tm} {As:List At} {Rs:List (List Int)} (h:zbf K C H p tl al rl T As Rs) (s:ao H H'):zbf K C H' p tl al rl T As Rs:=by
 obtain⟨⟨dx,h1⟩,⟨xs,h2,h3⟩,⟨ys,h4,h5⟩,⟨ws,h6,h7⟩,h8,h9,h10⟩:=h
 exact⟨⟨dx,s _ _ h1⟩,⟨xs,s _ _ h2,h3.keep (.of_same s) (zbr T)⟩,⟨ys,s _ _ h4,h5.keep (.of_same s) (zaJ zcO As)⟩,⟨ws,s _ _ h6,h7.keep (.of_same s) (zaJ zdG Rs)⟩,h8,h9,h10⟩
theorem zbf.setT {K:W.Frag} {C:Addr} {H:Hp} {p tl al rl:Addr} {T T':List Tm} {As:List At} {Rs:List (List Int)} {us:List V} (h:zbf K C H p tl al rl T As Rs) (hs:ah K (upd H tl (.lst us)) (T'.map dT) us):zbf K C (upd H tl (.lst us)) p tl al rl T' As Rs:=by
 obtain⟨⟨dx,h1⟩,⟨xs,h2,h3⟩,⟨ys,h4,h5⟩,⟨ws,h6,h7⟩,h8,h9,h10⟩:=h
 have kt:zag H (upd H tl (.lst us)):=zag.lst h2
 exact⟨⟨dx,by rw[aj (zax h1 h2 (fun e=>by cases e))];exact h1⟩,⟨us,ad,hs⟩,⟨ys,by rw[aj h8];exact h4,h5.keep kt (zaJ zcO As)⟩,⟨ws,by rw[aj h9];exact h6,h7.keep kt (zaJ zdG Rs)⟩,h8,h9,h10⟩
theorem zbf.setA {K:W.Frag} {C:Addr} {H:Hp} {p tl al rl:Addr} {T:List Tm} {As As':List At} {Rs:List (List Int)} {us:List V} (h:zbf K C H p tl al rl T As Rs) (hs:ah K (upd H al (.lst us)) (As'.map dA) us):zbf K C (upd H al (.lst us)) p tl al rl T As' Rs:=by
 obtain⟨⟨dx,h1⟩,⟨xs,h2,h3⟩,⟨ys,h4,h5⟩,⟨ws,h6,h7⟩,h8,h9,h10⟩:=h
 have kt:zag H (upd H al (.lst us)):=zag.lst h4
 exact⟨⟨dx,by rw[aj (zax h1 h4 (fun e=>by cases e))];exact h1⟩,⟨xs,by rw[aj h8.symm];exact h2,h3.keep kt (zbr T)⟩,⟨us,ad,hs⟩,⟨ws,by rw[aj h10];exact h6,h7.keep kt (zaJ zdG Rs)⟩,h8,h9,h10⟩
def SqI (K:W.Frag) (H:Hp) (q:Addr) (ps:List Int):Prop:=SqL K H q (ps.map V.int)∨SqT K H q (ps.map V.int)
theorem SqI.same {K:W.Frag} {H H':Hp} {q:Addr} {ps:List Int} (h:SqI K H q ps) (s:ao H H'):SqI K H' q ps:=h.elim (fun z=>.inl (s.seq z)) fun z=>.inr ((zag.of_same s).sq z)
def Low (z:Str):Prop:=z.length≤100∧∀ c∈z.cps.toList,c < 1000
theorem Low.repr {z:Str} (h:Low z):(reprText z).length≤1002:=by
 have:=StrLaws.reprText_len z fun c hc=>Nat.lt_of_lt_of_le (h.2 c hc) (by decide)
 have:=h.1
 omega
def zhs:Sp:=fun vs H Q _=>∃ z:Str,vs=[.str z]∧z.length≤1000∧∀ H',ao H H'→Q (.bl (zgZ z)) H'
def zht:Sp:=fun vs H Q _=>∃ z:Str,vs=[.str z]∧z.length≤1000∧∀ H',ao H H'→Q (.bl (zbG z)) H'
def ze6 (CN:Addr):Sp:=fun vs H Q E=>∃ z:Str,vs=[.str z]∧Low z∧if zbG z=true then ∀ H',ao H H'→Q .non H' else ∀ H',ao H H'→E (.ref CN) none H'
def zdz (K:W.Frag) (CM:Addr):Sp:=fun vs H Q E=>∃(a tl:Addr) (m:Int) (xs:List V) (ds:List Dt) (d:Dt),vs=[.ref a,.ref tl,.int m]∧Has K H d (.ref a)∧H tl=some (.lst xs)∧ah K H ds xs∧zaM ds≤50∧ds.length≤1000∧0≤m∧m≤1000 ∧
 if(ds.any fun e=>peq e d)=true then ∀ H',ao H H'→Q (.int ((ds.findIdx fun e=>peq e d):Nat)) H' else if m≤(ds.length:Int) then ∀ H',ao H H'→E (.ref CM) none H' else Q (.int (ds.length:Nat)) (upd H tl (.lst (xs++[.ref a])))
def zi0 (C:Addr):Sp:=fun vs H Q _=>∃(p dx:Addr),vs=[.ref p]∧H p=some (.ins C dx [])∧∀(tl al rl:Addr) (H':Hp),H tl=none→H al=none→H rl=none→al≠tl→rl≠tl→rl≠al→H' p=some (.ins C dx (zcC tl al rl))→H' tl=some (.lst [])→H' al=some (.lst [])→H' rl=some (.lst []) →
 (∀ b o,H b=some o→b≠p→H' b=some o)→Q .non H'
def ze5 (K:W.Frag) (C CT:Addr):Sp:=fun vs H Q E=>∃(p tl al rl:Addr) (T:List Tm) (As:List At) (Rs:List (List Int)) (n:Int),vs=[.ref p,.int n]∧zbf K C H p tl al rl T As Rs∧-1000≤n∧n≤1000 ∧
 if n < 0∨(T.length:Int)≤n then ∀ H',ao H H'→E (.ref CT) none H' else Q .non H
theorem zbJ {H:Hp} {p:Addr} (h:H p=none) (o:HO):ao H (upd H p o):=fun b u q=>by rw[aj (zac q h)];exact q
abbrev bmV:List Value:=[.type "ValueError",.type "Exception",.type "BaseException",.type "object"]
structure Txt (K:W.Frag) (mg:Str→Option Value) (aK C CN CT CP CM:Addr):Prop where
 small:∃ t,mg "SMALL_LETTERS"=some (.str abc t)
 longest:∃ t,mg "LONGEST_NAME"=some (.int 8 t)
 parts:∃ t,mg "MOST_TERM_PARTS"=some (.int 3 t)
 terms:∃ t,mg "MOST_TERMS"=some (.int 60 t)
 atoms:∃ t,mg "MOST_ATOMS"=some (.int 40 t)
 kept:mg "KEPT_WORDS"=some (.ref aK)
 tup:∀ H,SqT K H aK zg4
 len:mg "len"=none
 all:mg "all"=none
 range:mg "range"=none
 isi:mg "isinstance"=none
 bool:mg "bool"=none
 tuple:mg "tuple"=none
 abs:mg "abs"=none
 bname:mg "BadName"=some (.ref CN)
 bterm:mg "BadTerm"=some (.ref CT)
 bmany:mg "TooMany"=some (.ref CM)
 xname:W.excIn K CN bmV "ValueError.__new__"=true
 xterm:W.excIn K CT bmV "ValueError.__new__"=true
 xmany:W.excIn K CM bmV "ValueError.__new__"=true
 cl:Cls K C
 nT:zb2 K C "terms"
 nA:zb2 K C "atoms"
 nR:zb2 K C "rows"
section
variable {P:Program} {w:World} {K:W.Frag} {mg:Str→Option Value} {base:Heap} {aK C CN CT CP CM:Addr}
theorem Fun.okX {x qual:Str} {st:Stmt} {f:Addr} {fd:FuncData} {N ps:List Str} {k:Nat} {sp:Sp} (F:Fun K x qual st f fd) (S:zae N ps (ar st)) (len:∀ vs H Q E,sp vs H Q E→vs.length=ps.length)
  (hbody:∀(cdv:Value) (A:Around) (outer:List Env) (s:Shared) (H:Hp) (vs:List V) (Q:VK) (E:XK),aO k (A.deeper (PyProof.Rows.envOfC qual (ar st) s.heap.objs.size f cdv))→sp vs H Q E →
   ∃ t,PSs (zcK (CX1 P w) P w K mg base N qual (ar st) f cdv A outer s H E) (za3 st) t∧t { nx:=fun _ H'=>Q .non H',rt:=Q } (zc7 N vs) H):aH P w K mg base (CX1 P w) (k+1) f fd ps sp:=by
 obtain⟨oc,od,kV,doc,pm,an,cdv,ct,osl,rfl,lk,hcd⟩:=F.ex
 exact ziz lk hcd S len fun A outer s H vs Q E hr hsp=>hbody cdv A outer s H vs Q E hr hsp
theorem xe1 {N:List Str} {qual:Str} {scope:Scope} {f:Addr} {cd:Value} {A:Around} {outer:List Env} {s:Shared} {H:Hp} {E:XK}:Xe1 (zcK (CX1 P w) P w K mg base N qual scope f cd A outer s H E) E:=⟨rfl,rfl,rfl,rfl⟩
theorem zfH {k:Nat} {A:Around} (hr:aO k A):A.units+64 < cLine:=hr.units
theorem scIW:zae ["text"] ["text"] (ar zgn):=⟨rfl,rfl,rfl,by decide +kernel,rfl,by decide +kernel,by decide +kernel⟩
theorem zjM {f:Addr} {fd:FuncData} (F:Fun K "is_word" "is_word" zgn f fd) (T:Txt K mg aK C CN CT CP CM):aH P w K mg base CX0 1 f fd ["text"] zhs:=by
 obtain⟨t1,e1⟩:=T.small
 refine F.ok scIW (fun vs H Q E h=>?_) (fun cdv A outer s H vs Q E hr h=>?_)
 ·obtain⟨z,rfl,_⟩:=h
  rfl
 obtain⟨z,rfl,hz,q⟩:=h
 refine⟨_,ak (aB (zei (zbO zdX (zaa zfd rfl T.len PySem.boot_len (aa (pv 0) ac)) ae (aF _))
  (zeW (zaa (zgB rfl) rfl T.all PyProof.Rows.Boot.all (aa
   (zdr (N':=["letter"]) (ix:=[]) rfl rfl (by decide +kernel) (by decide +kernel) rfl (fun _=>⟨[],zbK (by decide +kernel) (by decide +kernel)⟩) (by decide +kernel) rfl rfl (fun j i h=>by simp at h)
    (pi_str (pv 0)) (fun cl fp s₃ H₃=>zbO zjG (pv 0) (zcI (v:=.str abc) rfl e1 ⟨_,rfl⟩) rfl)) ac))))),?_⟩
 refine⟨_,rfl,z,rfl,sz _ hz,_,_,rfl,rfl,_,rfl,?_⟩
 refine zaq (fun c=>?_) (fun c=>?_)
 ·have c':(0:Int) < (z.length:Int):=of_decide_eq_true c
  refine⟨_,rfl,z,rfl,fun D hD=>⟨fun i m ys H'=>m=z.length - i∧i≤z.length∧ys=((zd7 z).take i).map V.bl∧H'=upd H D (.lst ys),⟨z.length,rfl,Nat.zero_le _,rfl,rfl⟩,?_⟩⟩
  rintro i m ys H' ⟨rfl,hi,rfl,rfl⟩
  refine⟨ad,?_⟩
  by_cases hlt:i < z.length
  ·refine .inr ⟨hlt,fun x H'' y=>?_⟩
   obtain⟨rfl,ch,hch,rfl⟩:=y
   have et:=zke hch
   refine⟨_,rfl,_,_,rfl,rfl,ad,?_,z.length - (i+1),by omega,rfl,hlt,?_,zkQ⟩
   ·rw[List.length_map,List.length_take,zhD]
    exact Nat.lt_of_le_of_lt (Nat.le_trans (Nat.min_le_right _ _) hz) (by decide)
   ·rw[et,List.map_append]
    rfl
  ·have hi':i=z.length:=by omega
   subst hi'
   refine .inl ⟨Nat.le_refl _,D,zd7 z,rfl,SqL.of (by rw[ad,List.take_of_length_le (by rw[zhD];exact Nat.le_refl _)]),?_⟩
   have:=q _ (zbJ hD (.lst (((zd7 z).take z.length).map V.bl)))
   unfold zgZ at this
   rw[c,Bool.true_and]at this
   exact this
 ·have:=q H (ao.refl H)
  unfold zgZ at this
  rw[Bool.eq_false_iff.mpr c,Bool.false_and]at this
  exact this
theorem scIN:zae ["word"] ["word"] (ar zgo):=⟨rfl,rfl,rfl,by decide +kernel,rfl,by decide +kernel,by decide +kernel⟩
theorem zjN {f g:Addr} {fd gd:FuncData} (F:Fun K "is_name" "is_name" zgo f fd) (T:Txt K mg aK C CN CT CP CM) (G:aH P w K mg base CX0 1 g gd ["text"] zhs) (bG:aD K gd ["text"] []) (kG:W.keepIn K (.ref g)=true) (mG:mg "is_word"=some (.ref g)) :
  aH P w K mg base CX0 2 f fd ["word"] zht:=by
 obtain⟨t2,e2⟩:=T.longest
 refine F.ok scIN (fun vs H Q E h=>?_) (fun cdv A outer s H vs Q E hr h=>?_)
 ·obtain⟨z,rfl,_⟩:=h
  rfl
 obtain⟨z,rfl,hz,q⟩:=h
 refine⟨_,ak (aB (zei (ax G hr rfl mG kG bG .nil aE (aa (pv 0) ac)) (zei (zbO zg2 (zaa zfd rfl T.len PySem.boot_len (aa (pv 0) ac)) (zcI (v:=.int 8) rfl e2 ⟨_,rfl⟩) (aF _))
  (zeW (zbO zcU (pv 0) (zcI (v:=.ref aK) rfl T.kept rfl) rfl))))),?_⟩
 refine⟨_,rfl,z,rfl,hz,fun H1 s1=>⟨_,rfl,?_⟩⟩
 refine zaq (fun c=>?_) (fun c=>?_)
 ·refine⟨_,rfl,z,rfl,sz _ hz,_,_,rfl,rfl,_,rfl,?_⟩
  refine zaq (fun c2=>?_) (fun c2=>?_)
  ·refine⟨_,rfl,aK,zg4,rfl,.inr (T.tup H1),rfl,ziQ,?_⟩
   have:=q H1 s1
   unfold zbG at this
   rw[c,c2,Bool.true_and,Bool.true_and]at this
   exact this
  ·have:=q H1 s1
   unfold zbG at this
   rw[c,Bool.eq_false_iff.mpr c2,Bool.true_and,Bool.false_and]at this
   exact this
 ·have:=q H1 s1
  unfold zbG at this
  rw[Bool.eq_false_iff.mpr c,Bool.false_and]at this
  exact this
theorem scAN:zae ["word"] ["word"] (ar zfO):=⟨rfl,rfl,rfl,by decide +kernel,rfl,by decide +kernel,by decide +kernel⟩
theorem ziL {f g:Addr} {fd gd:FuncData} (F:Fun K "ask_name" "ask_name" zfO f fd) (T:Txt K mg aK C CN CT CP CM) (G:aH P w K mg base CX0 2 g gd ["word"] zht) (bG:aD K gd ["word"] []) (kG:W.keepIn K (.ref g)=true) (mG:mg "is_name"=some (.ref g)) :
  aH P w K mg base (CX1 P w) 3 f fd ["word"] (ze6 CN):=by
 refine Fun.okX F scAN (fun vs H Q E h=>?_) (fun cdv A outer s H vs Q E hr h=>?_)
 ·obtain⟨z,rfl,_⟩:=h
  rfl
 obtain⟨z,rfl,lo,h⟩:=h
 refine⟨_,ak (zal (zbk (zbj (ax G hr rfl mG kG bG .nil aE (aa (pv 0) ac))))
  (ak (zdP (C:=CN) xe1 rfl rfl T.bname PySem.F.excBase_ValueError T.xname (aa (zdh (za8 (pe_fvr (pv 0)) (za8 zao zeV))) ac))) zaf),?_⟩
 refine⟨_,rfl,z,rfl,Nat.le_trans lo.1 (by decide),fun H1 s1=>⟨_,rfl,?_⟩⟩
 have hre:=lo.repr
 cases e:zbG z with
 | true =>
  rw[e]at h
  exact aP (h H1 s1)
 | false =>
  rw[e,if_neg (by decide)]at h
  refine zaK ?_
  refine⟨_,rfl,z,rfl,Nat.le_trans hre (by decide),_,rfl,?_,_,rfl,?_,?_,(by show 1≤sizeLine;decide),h H1 s1⟩
  ·rw[za4]
   exact Nat.le_trans (Nat.add_le_add_left hre _) (by decide +kernel)
  ·rw[za4,za4]
   exact Nat.le_trans (Nat.add_le_add_right (Nat.add_le_add_left hre _) _) (by decide +kernel)
  ·rw[za4,za4]
   exact Nat.le_trans (Nat.add_le_add_right (Nat.add_le_add_left hre _) _) (by decide +kernel)
theorem scPl:zae ["thing","things","most"] ["thing","things","most"] (ar zg9):=⟨rfl,rfl,rfl,by decide +kernel,rfl,by decide +kernel,by decide +kernel⟩
theorem zes {n:Int} (h1:-1000≤n) (h2:n≤1000):n.natAbs.log2 < 1920∧((toString n:String):Str).length≤1002:=by
 have hb:n.natAbs≤1000:=by omega
 refine⟨?_,?_⟩
 ·by_cases h0:n.natAbs=0
  ·rw[h0]
   decide
  ·have:=(Nat.log2_lt h0 (k:=1920)).mpr (Nat.lt_of_le_of_lt hb (by decide +kernel))
   exact this
 ·have:=PyProof.Rows.len_str_of_int n
  omega
theorem zko {f:Addr} {fd:FuncData} (F:Fun K "place_of" "place_of" zg9 f fd) (T:Txt K mg aK C CN CT CP CM):aH P w K mg base (CX1 P w) 1 f fd ["thing","things","most"] (zdz K CM):=by
 refine Fun.okX F scPl (fun vs H Q E h=>?_) (fun cdv A outer s H vs Q E hr h=>?_)
 ·obtain⟨a,tl,m,xs,ds,d,rfl,_⟩:=h
  rfl
 obtain⟨a,tl,m,xs,ds,d,rfl,ht,hl,hs,hd,hn,m0,m1,h⟩:=h
 have hu:=zfH hr
 have hlen:xs.length=ds.length:=hs.length.symm
 obtain⟨hlog,hsl⟩:=zes (n:=m) (by omega) m1
 refine⟨_,af (zal (aw (zi7 hu) (pv 0) (pv 1) rfl) (ak (aB (zcy PySem.F.plainAttrs_list PySem.F.slot_list_index PySem.F.type_list_index (zgM hu) (pv 1) (aa (pv 0) ac)))) zaf)
  (af (zal (aw op_ge (zaa zab rfl T.len PySem.boot_len (aa (pv 1) ac)) (pv 2) (aF _))
   (ak (zdP (C:=CM) xe1 rfl rfl T.bmany PySem.F.excBase_ValueError T.xmany (aa (zdh (za8 zao (za8 (zfe (pv 2)) (za8 zao zeV)))) ac))) zaf)
  (af (zaB (zcy PySem.F.plainAttrs_list PySem.F.slot_list_append PySem.F.type_list_append za5 (pv 1) (aa (pv 0) ac)))
  (ak (aB (az zcs (zaa zab rfl T.len PySem.boot_len (aa (pv 1) ac)) ae))))),?_⟩
 refine⟨_,rfl,_,rfl,tl,xs,ds,d,rfl,.inl (SqL.of hl),hs,ht,Nat.le_trans hd (by decide),_,rfl,?_⟩
 refine zaq (fun c=>?_) (fun c=>?_)
 ·have c':(ds.any fun e=>peq e d)=true:=c
  rw[if_pos c']at h
  have hlt:(ds.findIdx fun e=>peq e d) < ds.length:=List.findIdx_lt_length_of_exists (by simpa using c')
  refine⟨_,rfl,.inl ⟨rfl,_,SqL.of hl⟩,_,rfl,tl,xs,ds,_,d,ds.findIdx (fun e=>peq e d),rfl,rfl,hl,hs,ht,Nat.le_trans hd (by decide),⟨_,List.getElem?_eq_getElem hlt,List.findIdx_getElem (w:=hlt)⟩,fun j dj h1 h2=>?_,h H (ao.refl H)⟩
  obtain⟨h3,h4⟩:=List.getElem?_eq_some_iff.mp h2
  have z:=List.not_of_lt_findIdx (p:=fun e=>peq e d) h1
  rw[h4]at z
  cases e:peq dj d with
  | false=>rfl
  | true=>rw[e]at z;cases z
 ·have c':¬(ds.any fun e=>peq e d)=true:=c
  rw[if_neg c']at h
  refine⟨_,rfl,tl,xs,rfl,.inl (SqL.of hl),_,rfl,_,_,rfl,rfl,_,rfl,zaq (fun c2=>?_) (fun c2=>?_)⟩
  ·have c3:m≤((xs.length:Nat):Int):=of_decide_eq_true c2
   rw[hlen]at c3
   rw[if_pos c3]at h
   refine⟨_,rfl,by decide +kernel,_,rfl,.inr ⟨m,rfl,hlog,_,rfl,?_,_,rfl,?_,?_,(by show 1≤sizeLine;decide),h H (ao.refl H)⟩⟩
   all_goals
    simp only[za4]
    first
     | exact Nat.le_trans (Nat.add_le_add_left hsl _) (by decide +kernel)
     | exact Nat.le_trans (Nat.add_le_add_right (Nat.add_le_add_left hsl _) _) (by decide +kernel)
  ·have c3:¬m≤((xs.length:Nat):Int):=fun z=>c2 (decide_eq_true z)
   rw[hlen]at c3
   rw[if_neg c3]at h
   refine⟨_,rfl,.inl ⟨rfl,_,SqL.of hl⟩,_,rfl,tl,xs,_,rfl,rfl,hl,Nat.lt_of_le_of_lt (by rw[hlen];exact hn) (by decide),?_⟩
   refine⟨_,rfl,tl,_,rfl,.inl (SqL.of ad),_,_,rfl,rfl,?_⟩
   have e:(((xs++[V.ref a]).length:Nat):Int) - 1=(ds.length:Nat):=by rw[List.length_append,hlen];simp
   show Q (.int ((((xs++[V.ref a]).length:Nat):Int) - 1)) _
   rw[e]
   exact h
theorem scI:zae ["self"] ["self"] (ar zix):=⟨rfl,rfl,rfl,by decide +kernel,rfl,by decide +kernel,by decide +kernel⟩
theorem ok_init {f:Addr} {fd:FuncData} (F:Fun K "__init__" "Problem.__init__" zix f fd) (T:Txt K mg aK C CN CT CP CM):aH P w K mg base CX0 1 f fd ["self"] (zi0 C):=by
 refine F.ok scI (fun vs H Q E h=>?_) (fun cdv A outer s H vs Q E hr h=>?_)
 ·obtain⟨p,dx,rfl,_⟩:=h
  rfl
 obtain⟨p,dx,rfl,hp,k⟩:=h
 refine⟨_,af (zeU (pv 0) (zas ac) rfl) (af (zeU (pv 0) (zas ac) rfl) (ak (zeU (pv 0) (zas ac) rfl))),?_⟩
 refine⟨lS0,fun tl ht=>?_⟩
 have n1:p≠tl:=zac hp ht
 refine⟨_,rfl,p,C,dx,[],rfl,(by rw[aj n1];exact hp),T.cl,T.nT,(by show 0 < 1000;decide),?_⟩
 refine⟨lS0,fun al ha=>?_⟩
 have a1:al≠p:=fun z=>by rw[z,ad]at ha;cases ha
 have a2:al≠tl:=fun z=>by rw[z,aj n1.symm,ad]at ha;cases ha
 have a0:H al=none:=by rw[aj a1,aj a2]at ha;exact ha
 refine⟨_,rfl,p,C,dx,_,rfl,(by rw[aj a1.symm,ad]),T.cl,T.nA,(by show 1 < 1000;decide),?_⟩
 refine⟨lS0,fun rl hrl=>?_⟩
 have r1:rl≠p:=fun z=>by rw[z,ad]at hrl;cases hrl
 have r2:rl≠al:=fun z=>by rw[z,aj a1,ad]at hrl;cases hrl
 have r3:rl≠tl:=fun z=>by rw[z,aj n1.symm,aj a2.symm,aj n1.symm,ad]at hrl;cases hrl
 have r0:H rl=none:=by rw[aj r1,aj r2,aj r1,aj r3]at hrl;exact hrl
 refine⟨_,rfl,p,C,dx,_,rfl,(by rw[aj r1.symm,ad]),T.cl,T.nR,(by show 2 < 1000;decide),?_⟩
 refine k tl al rl _ ht a0 r0 a2 r3 r2 ad ?_ ?_ ?_ fun b o e hb=>?_
 ·rw[aj n1.symm,aj r3.symm,aj n1.symm,aj a2.symm,aj n1.symm,ad]
 ·rw[aj a1,aj r2.symm,aj a1,ad]
 ·rw[aj r1,ad]
 ·rw[aj hb,aj (zac e r0),aj hb,aj (zac e a0),aj hb,aj (zac e ht)]
  exact e
theorem scAT:zae ["self","number"] ["self","number"] (ar zfN):=⟨rfl,rfl,rfl,by decide +kernel,rfl,by decide +kernel,by decide +kernel⟩
theorem ziK {f:Addr} {fd:FuncData} (F:Fun K "ask_term" "Problem.ask_term" zfN f fd) (T:Txt K mg aK C CN CT CP CM):aH P w K mg base (CX1 P w) 1 f fd ["self","number"] (ze5 K C CT):=by
 refine Fun.okX F scAT (fun vs H Q E h=>?_) (fun cdv A outer s H vs Q E hr h=>?_)
 ·obtain⟨p,tl,al,rl,T,As,Rs,n,rfl,_⟩:=h
  rfl
 obtain⟨p,tl,al,rl,T',As,Rs,n,rfl,S,h1,h2,h⟩:=h
 obtain⟨⟨dx,ho⟩,⟨xs,hl,hs⟩,_⟩:=id S
 have hlen:xs.length=T'.length:=by rw[←hs.length,List.length_map]
 obtain⟨hlog,hsl⟩:=zes h1 h2
 refine⟨_,ak (zal (PW.pt (zbS (aw zeC (pv 1) ae (aF _)) (zbM (aw op_ge (pv 1) (zaa zab rfl T.len PySem.boot_len (aa (zaj (pv 0) rfl) ac)) (aF _)))))
  (ak (zdP (C:=CT) xe1 rfl rfl T.bterm PySem.F.excBase_ValueError T.xterm (aa (zdh (za8 (zfe (pv 1)) (za8 zao zeV))) ac))) zaf),?_⟩
 refine⟨_,rfl,_,_,rfl,rfl,_,rfl,zaq (fun c=>zaK ?_) (fun c=>⟨_,rfl,_,rfl,p,C,dx,_,_,rfl,ho,T.cl,T.nT,zan _ _ _,tl,xs,rfl,.inl (SqL.of hl),_,_,rfl,rfl,_,rfl,zaq (fun c2=>?_) (fun c2=>?_)⟩)⟩
 rotate_left 2
 ·have c':¬n < 0:=fun z=>c (decide_eq_true z)
  have c2':¬((xs.length:Nat):Int)≤n:=fun z=>c2 (decide_eq_true z)
  rw[hlen]at c2'
  rw[if_neg (by omega)]at h
  exact h
 all_goals
  have hcond:n < 0∨(T'.length:Int)≤n:=by
   first
    | exact .inl (of_decide_eq_true c)
    | exact .inr (by have z:((xs.length:Nat):Int)≤n:=of_decide_eq_true c2;rw[hlen]at z;exact z)
  rw[if_pos hcond]at h
  refine⟨_,rfl,.inr ⟨n,rfl,hlog,_,rfl,?_,_,rfl,?_,?_,(by show 1≤sizeLine;decide),h H (ao.refl H)⟩⟩
  ·rw[za4]
   exact Nat.le_trans (Nat.add_le_add_left hsl _) (by decide +kernel)
  ·rw[za4,za4]
   exact Nat.le_trans (Nat.add_le_add_right (Nat.add_le_add_left hsl _) _) (by decide +kernel)
  ·rw[za4,za4]
   exact Nat.le_trans (Nat.add_le_add_right (Nat.add_le_add_left hsl _) _) (by decide +kernel)
end
end K51
namespace K51
open PySem L2
def Fr2 (H H':Hp) (z y:Addr):Prop:=∀ b o,H b=some o→b≠z→b≠y→H' b=some o
theorem Fr2.of1 {H H':Hp} {z y:Addr} (f:Fr1 H H' z):Fr2 H H' z y:=fun b o e n _=>f b o e n
theorem Fr2.of_same {H H':Hp} {z y:Addr} (s:ao H H'):Fr2 H H' z y:=fun b o e _ _=>s b o e
theorem Fr2.trans {H H1 H2:Hp} {z y:Addr} (a:Fr2 H H1 z y) (b:Fr2 H1 H2 z y):Fr2 H H2 z y:=fun c o e n m=>b c o (a c o e n m) n m
def zcW (As:List At) (z:Str):Out × List At :=
 if zbG z=false then(.name,As) else if .plain z∈As then(.num (As.idxOf (.plain z)+1),As) else if 40≤As.length then(.many,As) else(.num (As.length+1),As++[.plain z])
def zbo (n:Nat) (As:List At) (a b:Int):Out × List At :=
 if a < 0∨(n:Int)≤a∨b < 0∨(n:Int)≤b then(.term,As) else if .same b a∈As then(.num (As.idxOf (.same b a)+1),As) else if .same a b∈As then(.num (As.idxOf (.same a b)+1),As) else if 40≤As.length then(.many,As) else(.num (As.length+1),As++[.same a b])
def once:List Int→List Int→List Int
 | acc,[]=>acc
 | acc,p :: ps=>once (if p∈acc then acc else acc++[p]) ps
def Told (K:W.Frag) (C CN CT CP CM:Addr) (H:Hp) (p tl al rl:Addr) (T:List Tm) (As:List At) (Rs:List (List Int)) (Q:VK) (E:XK):Out→Prop
 | .num k=>∀ H',zbf K C H' p tl al rl T As Rs→Fr2 H H' al rl→Q (.int (k:Nat)) H'
 | .name=>∀ H',ao H H'→E (.ref CN) none H'
 | .term=>∀ H',ao H H'→E (.ref CT) none H'
 | .part=>∀ H',ao H H'→E (.ref CP) none H'
 | .many=>∀ H',ao H H'→E (.ref CM) none H'
def zfk (K:W.Frag) (C CN CT CP CM:Addr):Sp:=fun vs H Q E=>∃(p tl al rl:Addr) (T:List Tm) (As:List At) (Rs:List (List Int)) (z:Str),vs=[.ref p,.str z]∧zbf K C H p tl al rl T As Rs∧Low z∧As.length≤1000 ∧
 Told K C CN CT CP CM H p tl al rl T (zcW As z).2 Rs Q E (zcW As z).1
def zfY (K:W.Frag) (C CN CT CP CM:Addr):Sp:=fun vs H Q E=>∃(p tl al rl:Addr) (T:List Tm) (As:List At) (Rs:List (List Int)) (a b:Int),vs=[.ref p,.int a,.int b]∧zbf K C H p tl al rl T As Rs∧(-1000≤a∧a≤1000)∧(-1000≤b∧b≤1000)∧As.length≤1000 ∧
 Told K C CN CT CP CM H p tl al rl T (zbo T.length As a b).2 Rs Q E (zbo T.length As a b).1
theorem q1 {Q:VK} {n:Nat} {H:Hp} (h:Q (.int ((n+1:Nat):Int)) H):Q (.int (((n:Nat):Int)+1)) H:=h
section
variable {P:Program} {w:World} {K:W.Frag} {mg:Str→Option Value} {base:Heap} {aK C CN CT CP CM:Addr}
theorem zh4 {H:Hp} {p tl al rl a:Addr} {T:List Tm} {As:List At} {Rs:List (List Int)} {t:At} {Q:VK} {E:XK} (S:zbf K C H p tl al rl T As Rs) (ha:Has K H (dA t) (.ref a)) (len:As.length≤1000)
  (k1:t∈As→∀ H',ao H H'→Q (.int (As.idxOf t:Nat)) H') (k2:t∉As→40≤As.length→∀ H',ao H H'→E (.ref CM) none H')
  (k3:t∉As→¬40≤As.length→∀ H',zbf K C H' p tl al rl T (As++[t]) Rs→Fr1 H H' al→Q (.int (As.length:Nat)) H'):zdz K CM [.ref a,.ref al,.int 40] H Q E:=by
 obtain⟨xs,hl,hs⟩:=id S.am
 refine⟨a,al,40,xs,As.map dA,dA t,rfl,ha,hl,hs,Nat.le_trans (zcJ (n:=1) (fun a=>by rw[zhf];exact Nat.le_refl _) As) (by decide),by rw[List.length_map];exact len,by decide,by decide,?_⟩
 rw[zfV zhd,zhG zhd,List.length_map]
 by_cases hm:t∈As
 ·rw[if_pos (decide_eq_true hm)]
  exact k1 hm
 ·rw[if_neg (by rw[decide_eq_false hm];decide)]
  by_cases h40:40≤As.length
  ·rw[if_pos (by omega)]
   exact k2 hm h40
  ·rw[if_neg (by omega)]
   have kt:zag H (upd H al (.lst (xs++[.ref a]))):=zag.lst hl
   refine k3 hm h40 _ (S.setA ?_) fun b o e hb=>by rw[aj hb];exact e
   rw[List.map_append]
   exact(hs.keep kt (zaJ zcO As)).append (ah.one (ha.keep kt (zcO t)))
theorem scP:zae ["self","name"] ["self","name"] (ar zg8):=⟨rfl,rfl,rfl,by decide +kernel,rfl,by decide +kernel,by decide +kernel⟩
theorem zkn {f fN fP:Addr} {fd dN dP:FuncData} (F:Fun K "add_plain" "Problem.add_plain" zg8 f fd) (T:Txt K mg aK C CN CT CP CM)
  (GN:aH P w K mg base (CX1 P w) 3 fN dN ["word"] (ze6 CN)) (bN:aD K dN ["word"] []) (kN:W.keepIn K (.ref fN)=true) (mN:mg "ask_name"=some (.ref fN))
  (GP:aH P w K mg base (CX1 P w) 1 fP dP ["thing","things","most"] (zdz K CM)) (bP:aD K dP ["thing","things","most"] []) (kP:W.keepIn K (.ref fP)=true) (mP:mg "place_of"=some (.ref fP)) :
  aH P w K mg base (CX1 P w) 4 f fd ["self","name"] (zfk K C CN CT CP CM):=by
 obtain⟨t40,e40⟩:=T.atoms
 refine Fun.okX F scP (fun vs H Q E h=>?_) (fun cdv A outer s H vs Q E hr h=>?_)
 ·obtain⟨p,tl,al,rl,T,As,Rs,z,rfl,_⟩:=h
  rfl
 obtain⟨p,tl,al,rl,T',As,Rs,z,rfl,S,lo,len,h⟩:=h
 have hr1:aO 1 _:=hr.mono (by decide)
 refine⟨_,af (zaB (ax GN hr rfl mN kN bN .nil (zcg xe1) (aa (pv 1) ac)))
  (ak (aB (az zaX (ax GP hr1 rfl mP kP bP .nil (zcg xe1) (aa (zaR (aa zao (aa (pv 1) ac))) (aa (zaj (pv 0) rfl) (aa (zcI (v:=.int 40) rfl e40 ⟨_,rfl⟩) ac)))) ae))),?_⟩
 refine⟨_,rfl,z,rfl,lo,?_⟩
 cases hg:zbG z with
 | false =>
  rw[if_neg (by decide)]
  have e:zcW As z=(.name,As):=if_pos hg
  rw[e]at h
  exact h
 | true =>
 rw[if_pos rfl]
 intro H1 s1
 refine⟨_,rfl,lS2,fun a ha=>?_⟩
 have s2:ao H1 (upd H1 a (.tup [.str "plain",.str z])):=zbJ ha _
 have s12:=s1.trans s2
 have S2:=S.same s12
 obtain⟨⟨dx,ho⟩,_⟩:=id S2
 have hd:Has K (upd H1 a (.tup [.str "plain",.str z])) (dA (.plain z)) (.ref a):=by
  simp only[dA,Has,ah]
  exact⟨a,_,rfl,SqT.of ad,_,_,rfl,rfl,_,_,rfl,rfl,rfl⟩
 refine⟨_,rfl,p,C,dx,_,_,rfl,ho,T.cl,T.nA,zaD _ _ _,?_⟩
 refine zh4 (CM:=CM) (E:=E) (Q:=fun x H'=>rI0 (fun i j=>.int (i+j)) x (.int 1) H' Q) S2 hd len (fun hm H' s'=>?_) (fun hm h40 H' s'=>?_) (fun hm h40 H' S' fr=>?_)
 ·have e:zcW As z=(.num (As.idxOf (.plain z)+1),As):=by unfold zcW;rw[if_neg (by rw[hg];decide),if_pos hm]
  rw[e]at h
  exact⟨_,_,rfl,rfl,q1 <| h H' (S2.same s') (Fr2.of_same (s12.trans s'))⟩
 ·have e:zcW As z=(.many,As):=by unfold zcW;rw[if_neg (by rw[hg];decide),if_neg hm,if_pos h40]
  rw[e]at h
  exact h H' (s12.trans s')
 ·have e:zcW As z=(.num (As.length+1),As++[.plain z]):=by unfold zcW;rw[if_neg (by rw[hg];decide),if_neg hm,if_neg h40]
  rw[e]at h
  exact⟨_,_,rfl,rfl,q1 <| h H' S' ((Fr2.of_same s12).trans (Fr2.of1 fr))⟩
theorem scSm:zae ["self","one","other","turned"] ["self","one","other"] (ar ziw):=⟨rfl,rfl,rfl,by decide +kernel,rfl,by decide +kernel,by decide +kernel⟩
theorem zld {f fT fP:Addr} {fd dT' dP:FuncData} (F:Fun K "add_same" "Problem.add_same" ziw f fd) (T:Txt K mg aK C CN CT CP CM)
  (GT:aH P w K mg base (CX1 P w) 1 fT dT' ["self","number"] (ze5 K C CT)) (bT:aD K dT' ["self","number"] []) (mT:zbQ K C "ask_term" fT)
  (GP:aH P w K mg base (CX1 P w) 1 fP dP ["thing","things","most"] (zdz K CM)) (bP:aD K dP ["thing","things","most"] []) (kP:W.keepIn K (.ref fP)=true) (mP:mg "place_of"=some (.ref fP)) :
  aH P w K mg base (CX1 P w) 2 f fd ["self","one","other"] (zfY K C CN CT CP CM):=by
 obtain⟨t40,e40⟩:=T.atoms
 refine Fun.okX F scSm (fun vs H Q E h=>?_) (fun cdv A outer s H vs Q E hr h=>?_)
 ·obtain⟨p,tl,al,rl,T,As,Rs,a,b,rfl,_⟩:=h
  rfl
 obtain⟨p,tl,al,rl,T',As,Rs,a,b,rfl,S,⟨a1,a2⟩,⟨b1,b2⟩,len,h⟩:=h
 have hu:=zfH hr
 refine⟨_,af (zaB (zay (pv 0) T.cl mT GT hr bT .nil (zcg xe1) (aa (pv 1) ac)))
  (af (zaB (zay (pv 0) T.cl mT GT hr bT .nil (zcg xe1) (aa (pv 2) ac)))
  (af (ay (i:=3) scSm.nd rfl (Or.inl rfl) (zaR (aa zao (aa (pv 2) (aa (pv 1) ac)))))
  (af (zal (aw (zi7 hu) (pv 3) (zaj (pv 0) rfl) rfl) (ak (aB (az zaX (zcy PySem.F.plainAttrs_list PySem.F.slot_list_index PySem.F.type_list_index (zgM hu) (zaj (pv 0) rfl) (aa (pv 3) ac)) ae))) zaf)
  (ak (aB (az zaX (ax GP hr rfl mP kP bP .nil (zcg xe1) (aa (zaR (aa zao (aa (pv 1) (aa (pv 2) ac)))) (aa (zaj (pv 0) rfl) (aa (zcI (v:=.int 40) rfl e40 ⟨_,rfl⟩) ac)))) ae)))))),?_⟩
 obtain⟨⟨dx,ho⟩,_,⟨xs,hl,hs⟩,_⟩:=id S
 have no:=zdC tl al rl (m:="ask_term") (by decide +kernel) (by decide +kernel) (by decide +kernel)
 refine⟨_,rfl,p,dx,_,rfl,ho,no,_,rfl,p,tl,al,rl,T',As,Rs,a,rfl,S,a1,a2,?_⟩
 by_cases ca:a < 0∨(T'.length:Int)≤a
 ·rw[if_pos ca]
  have e:zbo T'.length As a b=(.term,As):=if_pos (ca.elim .inl fun z=>.inr (.inl z))
  rw[e]at h
  exact h
 rw[if_neg ca]
 refine⟨_,rfl,p,dx,_,rfl,ho,no,_,rfl,p,tl,al,rl,T',As,Rs,b,rfl,S,b1,b2,?_⟩
 by_cases cb:b < 0∨(T'.length:Int)≤b
 ·rw[if_pos cb]
  have e:zbo T'.length As a b=(.term,As):=if_pos (.inr (.inr cb))
  rw[e]at h
  exact h
 rw[if_neg cb]
 have cn:¬(a < 0∨(T'.length:Int)≤a∨b < 0∨(T'.length:Int)≤b):=by omega
 refine⟨_,rfl,_,rfl,lS3,fun u hu'=>?_⟩
 have s1:ao H (upd H u (.tup [.str "same",.int b,.int a])):=zbJ hu' _
 have hd:Has K (upd H u (.tup [.str "same",.int b,.int a])) (dA (.same b a)) (.ref u):=by
  simp only[dA,Has,ah]
  exact⟨u,_,rfl,SqT.of ad,_,_,rfl,rfl,_,_,rfl,rfl,_,_,rfl,rfl,rfl⟩
 have S1:=S.same s1
 have hs1:=hs.keep (.of_same s1) (zaJ zcO As)
 have dp:zaM (As.map dA)≤60:=Nat.le_trans (zcJ (n:=1) (fun a=>by rw[zhf];exact Nat.le_refl _) As) (by decide)
 refine⟨_,rfl,_,rfl,p,C,dx,_,_,rfl,s1 _ _ ho,T.cl,T.nA,zaD _ _ _,al,xs,As.map dA,dA (.same b a),rfl,.inl (SqL.of (s1 _ _ hl)),hs1,hd,dp,_,rfl,?_⟩
 have ea:=zfV zhd As (.same b a)
 by_cases hm:At.same b a∈As
 ·rw[decide_eq_true hm]at ea
  refine zaq (fun _=>?_) (fun c=>absurd ea c)
  have e:zbo T'.length As a b=(.num (As.idxOf (.same b a)+1),As):=by unfold zbo;rw[if_neg cn,if_pos hm]
  rw[e]at h
  have hlt:=List.idxOf_lt_length_of_mem hm
  refine⟨_,rfl,p,C,dx,_,_,rfl,s1 _ _ ho,T.cl,T.nA,zaD _ _ _,.inl ⟨rfl,_,SqL.of (s1 _ _ hl)⟩,_,rfl,al,xs,As.map dA,_,dA (.same b a),As.idxOf (.same b a),rfl,rfl,s1 _ _ hl,hs1,hd,dp,⟨dA (.same b a),?_,zaS _⟩,fun m dm h1 h2=>?_,_,_,rfl,rfl,q1 (h _ S1 (Fr2.of_same s1))⟩
  ·rw[List.getElem?_map,List.getElem?_eq_getElem hlt]
   simp
  ·rw[List.getElem?_map]at h2
   cases q:As[m]? with
   | none=>rw[q]at h2;cases h2
   | some v =>
    rw[q]at h2
    have e':dm=dA v:=(Option.some.inj h2).symm
    rw[e',zi5]
    refine decide_eq_false fun z=>?_
    obtain⟨hm',hv⟩:=List.getElem?_eq_some_iff.mp q
    have z':=List.not_of_lt_findIdx (p:=(· == At.same b a)) h1
    rw[hv,z,beq_self_eq_true]at z'
    cases z'
 ·rw[decide_eq_false hm]at ea
  refine zaq (fun c=>absurd (show false=true from ea.symm.trans c) (by decide)) (fun _=>?_)
  refine⟨_,rfl,_,rfl,lS3,fun v hv=>?_⟩
  have s2:ao (upd H u (.tup [.str "same",.int b,.int a])) (upd (upd H u (.tup [.str "same",.int b,.int a])) v (.tup [.str "same",.int a,.int b])):=zbJ hv _
  have s12:=s1.trans s2
  have S2:=S.same s12
  have hd2:Has K (upd (upd H u (.tup [.str "same",.int b,.int a])) v (.tup [.str "same",.int a,.int b])) (dA (.same a b)) (.ref v):=by
   simp only[dA,Has,ah]
   exact⟨v,_,rfl,SqT.of ad,_,_,rfl,rfl,_,_,rfl,rfl,_,_,rfl,rfl,rfl⟩
  refine⟨_,rfl,p,C,dx,_,_,rfl,s12 _ _ ho,T.cl,T.nA,zaD _ _ _,?_⟩
  refine zh4 (CM:=CM) (E:=E) (Q:=fun x H'=>rI0 (fun i j=>.int (i+j)) x (.int 1) H' Q) S2 hd2 len (fun hm2 H' s'=>?_) (fun hm2 h40 H' s'=>?_) (fun hm2 h40 H' S' fr=>?_)
  ·have e:zbo T'.length As a b=(.num (As.idxOf (.same a b)+1),As):=by unfold zbo;rw[if_neg cn,if_neg hm,if_pos hm2]
   rw[e]at h
   exact⟨_,_,rfl,rfl,q1 <| h H' (S2.same s') (Fr2.of_same (s12.trans s'))⟩
  ·have e:zbo T'.length As a b=(.many,As):=by unfold zbo;rw[if_neg cn,if_neg hm,if_neg hm2,if_pos h40]
   rw[e]at h
   exact h H' (s12.trans s')
  ·have e:zbo T'.length As a b=(.num (As.length+1),As++[.same a b]):=by unfold zbo;rw[if_neg cn,if_neg hm,if_neg hm2,if_neg h40]
   rw[e]at h
   exact⟨_,_,rfl,rfl,q1 <| h H' S' ((Fr2.of_same s12).trans (Fr2.of1 fr))⟩
end
end K51
namespace K51
open PySem L2
structure Asks (K:W.Frag) (C:Addr) (H:Hp) (p tl al rl q:Addr) (T:List Tm) (As:List At) (Rs:List (List Int)) (n:Str) (ps:List Int):Prop where
 pr:zbf K C H p tl al rl T As Rs
 sq:SqI K H q ps
 low:Low n
 few:ps.length≤10
 small:∀ i∈ps,-1000≤i∧i≤1000
 len:T.length≤1000
def zg1 (K:W.Frag) (C CN CT CM:Addr):Sp:=fun vs H Q E=>∃(p tl al rl q:Addr) (T:List Tm) (As:List At) (Rs:List (List Int)) (n:Str) (ps:List Int),vs=[.ref p,.str n,.ref q]∧Asks K C H p tl al rl q T As Rs n ps ∧
 match zcL T (zbG n) (n,ps) with
 | (.num k,T')=>∀ H',zbf K C H' p tl al rl T' As Rs→Fr1 H H' tl→Q (.int (k:Nat)) H'
 | (.name,_)=>∀ H',ao H H'→E (.ref CN) none H'
 | (.term,_)=>∀ H',ao H H'→E (.ref CT) none H'
 | (.many,_)=>∀ H',ao H H'→E (.ref CM) none H'
 | (.part,_)=>True
section
variable {P:Program} {w:World} {K:W.Frag} {mg:Str→Option Value} {base:Heap} {aK C CN CT CP CM:Addr}
theorem scA:zae ["self","name","parts","part"] ["self","name","parts"] (ar sAdd):=⟨rfl,rfl,rfl,by decide +kernel,rfl,by decide +kernel,by decide +kernel⟩
theorem zhF {ps:List Int} {i:Nat} {x:V} (h:(ps.map V.int)[i]?=some x):∃ k,ps[i]?=some k∧x=.int k:=by
 rw[List.getElem?_map]at h
 cases e:ps[i]? with
 | none=>rw[e]at h;cases h
 | some k =>
  rw[e]at h
  exact⟨k,rfl,(Option.some.inj h).symm⟩
theorem zjt {T:List Tm} {ps:List Int} {i:Nat} {k:Int} (h3:ps.length≤3) (e:ps[i]?=some k) (h:k < 0∨(T.length:Int)≤k):bad T ps=true:=by
 unfold bad
 rw[Bool.or_eq_true]
 refine .inr (List.any_eq_true.mpr ⟨k,List.mem_of_getElem? e,?_⟩)
 rw[Bool.or_eq_true]
 exact h.elim (fun z=>.inl (decide_eq_true z)) fun z=>.inr (decide_eq_true z)
theorem zgv {T:List Tm} {ps:List Int} (h3:ps.length≤3) (h:∀(i:Nat) k,ps[i]?=some k→¬(k < 0∨(T.length:Int)≤k)):bad T ps=false:=by
 cases e:bad T ps with
 | false=>rfl
 | true =>
  unfold bad at e
  rw[Bool.or_eq_true]at e
  rcases e with e | e
  ·have:=of_decide_eq_true e
   omega
  ·obtain⟨k,hk,e⟩:=List.any_eq_true.mp e
   obtain⟨i,hi⟩:=List.mem_iff_getElem?.mp hk
   rw[Bool.or_eq_true]at e
   exact absurd (e.elim (fun z=>.inl (of_decide_eq_true z)) fun z=>.inr (of_decide_eq_true z)) (h i k hi)
theorem ok_add {f fN fT fP:Addr} {fd dN dT' dP:FuncData} (F:Fun K "add_term" "Problem.add_term" sAdd f fd) (T:Txt K mg aK C CN CT CP CM)
  (GN:aH P w K mg base (CX1 P w) 3 fN dN ["word"] (ze6 CN)) (bN:aD K dN ["word"] []) (kN:W.keepIn K (.ref fN)=true) (mN:mg "ask_name"=some (.ref fN))
  (GT:aH P w K mg base (CX1 P w) 1 fT dT' ["self","number"] (ze5 K C CT)) (bT:aD K dT' ["self","number"] []) (mT:zbQ K C "ask_term" fT)
  (GP:aH P w K mg base (CX1 P w) 1 fP dP ["thing","things","most"] (zdz K CM)) (bP:aD K dP ["thing","things","most"] []) (kP:W.keepIn K (.ref fP)=true) (mP:mg "place_of"=some (.ref fP)) :
  aH P w K mg base (CX1 P w) 4 f fd ["self","name","parts"] (zg1 K C CN CT CM):=by
 obtain⟨t3,e3⟩:=T.parts
 obtain⟨t60,e60⟩:=T.terms
 refine Fun.okX F scA (fun vs H Q E h=>?_) (fun cdv A outer s H vs Q E hr h=>?_)
 ·obtain⟨p,tl,al,rl,q,T,As,Rs,n,ps,rfl,_⟩:=h
  rfl
 obtain⟨p,tl,al,rl,q,T',As,Rs,n,ps,rfl,A0,h⟩:=h
 obtain⟨S,hq,lo,few,small,len⟩:=A0
 have hr1:aO 1 _:=hr.mono (by decide)
 refine⟨_,af (zaB (ax GN hr rfl mN kN bN .nil (zcg xe1) (aa (pv 1) ac)))
  (af (zal (aw zdX (zaa zab rfl T.len PySem.boot_len (aa (pv 2) ac)) (zcI (v:=.int 3) rfl e3 ⟨_,rfl⟩) (aF _))
   (ak (zdP (C:=CT) xe1 rfl rfl T.bterm PySem.F.excBase_ValueError T.xterm (aa (zdh (za8 (zfe (pv 1)) (za8 zao (za8 (zfe (zcI (v:=.int 3) rfl e3 ⟨_,rfl⟩)) (za8 zao zeV))))) ac))) zaf)
  (af (zaE PassesOwn.leaving rfl (pi_seq (pv 2)) (zam (i:=3) scA.nd rfl (Or.inl rfl)) (ak (zaB (zay (pv 0) T.cl mT GT hr1 bT .nil (zcg xe1) (aa (pv 3) ac)))))
  (ak (aB (ax GP hr1 rfl mP kP bP .nil (zcg xe1) (aa (zaR (aa (pv 1) (aa (zaC za7 rfl T.tuple PyProof.Rows.Boot.tuple (aa (pv 2) ac)) ac))) (aa (zaj (pv 0) rfl) (aa (zcI (v:=.int 60) rfl e60 ⟨_,rfl⟩) ac)))))))),?_⟩
 refine⟨_,rfl,n,rfl,lo,?_⟩
 cases hg:zbG n with
 | false =>
  have e:zcL T' false (n,ps)=(.name,T'):=if_pos rfl
  rw[hg,e]at h
  rw[if_neg (by decide)]
  exact h
 | true =>
 rw[if_pos rfl]
 intro H1 s1
 have S1:=S.same s1
 have hq1:=hq.same s1
 refine⟨_,rfl,q,_,rfl,hq1,_,_,rfl,rfl,_,rfl,?_⟩
 have hl1:(ps.map V.int).length=ps.length:=List.length_map _
 refine zaq (fun c=>?_) (fun c=>?_)
 ·have c':(3:Int) < (((ps.map V.int).length:Nat):Int):=of_decide_eq_true c
  rw[hl1]at c'
  have hb:bad T' ps=true:=by unfold bad;rw[decide_eq_true (by omega:3 < ps.length)];rfl
  have e:zcL T' true (n,ps)=(.term,T'):=by unfold zcL;rw[if_neg (by decide),if_pos hb]
  rw[hg,e]at h
  have hn:=lo.1
  refine⟨_,rfl,.inl ⟨n,rfl,Nat.le_trans hn (by decide),_,rfl,?_,_,rfl,?_,.inr ⟨3,rfl,by decide +kernel,_,rfl,?_,_,rfl,?_,?_,(by show 1≤sizeLine;decide),h H1 s1⟩⟩⟩
  all_goals
   simp only[za4]
   exact Nat.le_trans (by first | exact Nat.add_le_add_left hn _ | exact Nat.add_le_add_right (Nat.add_le_add_left hn _) _ | exact Nat.add_le_add_right (Nat.add_le_add_right (Nat.add_le_add_left hn _) _) _ | exact Nat.add_le_add_right (Nat.add_le_add_right (Nat.add_le_add_right (Nat.add_le_add_left hn _) _) _) _) (by decide +kernel)
 ·have c':¬(3:Int) < (((ps.map V.int).length:Nat):Int):=fun z=>c (decide_eq_true z)
  rw[hl1]at c'
  have h3:ps.length≤3:=by omega
  obtain⟨⟨dx,ho⟩,⟨xs,hl,hs⟩,_⟩:=id S1
  have addE:bad T' ps=false→zcL T' true (n,ps)=if(n,ps)∈T' then(.num (T'.idxOf (n,ps)),T') else if 60≤T'.length then(.many,T') else(.num T'.length,T'++[(n,ps)]):=fun hb=>by unfold zcL;rw[if_neg (by decide),if_neg (by rw[hb];decide)]
  have last:∀(H3:Hp) (a l:Addr),ao H H3→H3 a=some (.tup [.str n,.ref l])→SqT K H3 l (ps.map V.int)→bad T' ps=false→zdz K CM [.ref a,.ref tl,.int 60] H3 Q E:=fun H3 a l s3 ha hq3 hb=>by
   have S3:=S.same s3
   rw[hg,addE hb]at h
   obtain⟨xs3,hl3,hs3⟩:=id S3.tm
   have hd:Has K H3 (dT (n,ps)) (.ref a):=by
    simp only[dT,Has,ah]
    exact⟨a,_,rfl,SqT.of ha,_,_,rfl,rfl,_,_,rfl,⟨l,_,rfl,hq3,ah.ints ps⟩,rfl⟩
   refine⟨a,tl,60,xs3,T'.map dT,dT (n,ps),rfl,hd,hl3,hs3,Nat.le_trans (zhI T') (by decide),by rw[List.length_map];exact len,by decide,by decide,?_⟩
   rw[zfV zji,zhG zji,List.length_map]
   by_cases hm:(n,ps)∈T'
   ·rw[if_pos hm]at h
    rw[if_pos (decide_eq_true hm)]
    exact fun H' s'=>h H' (S3.same s') (Fr1.of_same (s3.trans s'))
   ·rw[if_neg hm]at h
    rw[if_neg (by rw[decide_eq_false hm];decide)]
    by_cases h60:60≤T'.length
    ·rw[if_pos h60]at h
     rw[if_pos (by omega)]
     exact fun H' s'=>h H' (s3.trans s')
    ·rw[if_neg h60]at h
     rw[if_neg (by omega)]
     have kt:zag H3 (upd H3 tl (.lst (xs3++[.ref a]))):=zag.lst hl3
     refine h _ (S3.setT ?_) fun b o e hb'=>?_
     ·rw[List.map_append]
      exact(hs3.keep kt (zbr T')).append (ah.one (hd.keep kt (zi8 _)))
     ·rw[aj hb']
      exact s3 b o e
  rcases hq1 with hqX | hqX
  ·refine⟨_,rfl,q,rfl,.inl ⟨⟨_,hqX⟩,zkE (K:=K) (a:=q) (xs:=ps.map V.int) (fun i σ H2=>H2=H1∧(∃ z,σ=[some (.ref p),some (.str n),some (.ref q),z])∧∀(j:Nat) k,j < i→ps[j]?=some k→¬(k < 0∨(T'.length:Int)≤k))
    ⟨rfl,⟨_,rfl⟩,fun j k hj=>absurd hj (Nat.not_lt_zero j)⟩ (fun i σ H2 _ ⟨e,_⟩=>by rw[e];exact hqX) ?_ ?_⟩⟩
   ·rintro i x σ H2 hx ⟨rfl,⟨z,rfl⟩,no⟩
    obtain⟨k,ek,rfl⟩:=zhF hx
    have sk:=small k (List.mem_of_getElem? ek)
    refine⟨_,rfl,p,dx,_,rfl,ho,zdC _ _ _ (by decide +kernel) (by decide +kernel) (by decide +kernel),_,rfl,p,tl,al,rl,T',As,Rs,k,rfl,S1,sk.1,sk.2,?_⟩
    by_cases hk:k < 0∨(T'.length:Int)≤k
    ·rw[if_pos hk]
     have e:zcL T' true (n,ps)=(.term,T'):=by unfold zcL;rw[if_neg (by decide),if_pos (zjt h3 ek hk)]
     rw[hg,e]at h
     exact fun H' s'=>h H' (s1.trans s')
    ·rw[if_neg hk]
     refine⟨rfl,⟨_,rfl⟩,fun j k' hj ej=>?_⟩
     by_cases hji:j < i
     ·exact no j k' hji ej
     ·have:j=i:=by omega
      subst this
      rw[ek]at ej
      cases ej
      exact hk
   ·rintro σ H2 ⟨rfl,⟨z,rfl⟩,no⟩
    have hb:bad T' ps=false:=zgv h3 fun i k e=>no i k (by rw[hl1];exact(List.getElem?_eq_some_iff.mp e).1) e
    refine⟨_,rfl,_,rfl,q,_,rfl,.inl ⟨hqX,fun l hl'=>⟨lS2,fun a ha=>?_⟩⟩⟩
    have sA:ao H2 (upd H2 l (.tup (ps.map V.int))):=zbJ hl' _
    have sB:ao (upd H2 l (.tup (ps.map V.int))) (upd (upd H2 l (.tup (ps.map V.int))) a (.tup [.str n,.ref l])):=zbJ ha _
    have sAB:=sA.trans sB
    have hq3:SqT K (upd (upd H2 l (.tup (ps.map V.int))) a (.tup [.str n,.ref l])) l (ps.map V.int):=SqT.of (sB _ _ ad)
    refine⟨_,rfl,p,C,dx,_,_,rfl,sAB _ _ ho,T.cl,T.nT,zan _ _ _,last _ a _ (s1.trans sAB) ad hq3 hb⟩
  ·refine⟨_,rfl,q,rfl,.inr ⟨⟨_,hqX⟩,zlu (K:=K) (a:=q) (xs:=ps.map V.int) (fun i σ H2=>H2=H1∧(∃ z,σ=[some (.ref p),some (.str n),some (.ref q),z])∧∀(j:Nat) k,j < i→ps[j]?=some k→¬(k < 0∨(T'.length:Int)≤k))
    ⟨rfl,⟨_,rfl⟩,fun j k hj=>absurd hj (Nat.not_lt_zero j)⟩ (fun i σ H2 _ ⟨e,_⟩=>by rw[e];exact hqX) ?_ ?_⟩⟩
   ·rintro i x σ H2 hx ⟨rfl,⟨z,rfl⟩,no⟩
    obtain⟨k,ek,rfl⟩:=zhF hx
    have sk:=small k (List.mem_of_getElem? ek)
    refine⟨_,rfl,p,dx,_,rfl,ho,zdC _ _ _ (by decide +kernel) (by decide +kernel) (by decide +kernel),_,rfl,p,tl,al,rl,T',As,Rs,k,rfl,S1,sk.1,sk.2,?_⟩
    by_cases hk:k < 0∨(T'.length:Int)≤k
    ·rw[if_pos hk]
     have e:zcL T' true (n,ps)=(.term,T'):=by unfold zcL;rw[if_neg (by decide),if_pos (zjt h3 ek hk)]
     rw[hg,e]at h
     exact fun H' s'=>h H' (s1.trans s')
    ·rw[if_neg hk]
     refine⟨rfl,⟨_,rfl⟩,fun j k' hj ej=>?_⟩
     by_cases hji:j < i
     ·exact no j k' hji ej
     ·have:j=i:=by omega
      subst this
      rw[ek]at ej
      cases ej
      exact hk
   ·rintro σ H2 ⟨rfl,⟨z,rfl⟩,no⟩
    have hb:bad T' ps=false:=zgv h3 fun i k e=>no i k (by rw[hl1];exact(List.getElem?_eq_some_iff.mp e).1) e
    refine⟨_,rfl,_,rfl,q,_,rfl,.inr ⟨hqX,lS2,fun a ha=>?_⟩⟩
    have sAB:ao H2 (upd H2 a (.tup [.str n,.ref q])):=zbJ ha _
    have hq3:SqT K (upd H2 a (.tup [.str n,.ref q])) q (ps.map V.int):=(zag.of_same sAB).sq hqX
    refine⟨_,rfl,p,C,dx,_,_,rfl,sAB _ _ ho,T.cl,T.nT,zan _ _ _,last _ a _ (s1.trans sAB) ad hq3 hb⟩
end
end K51
namespace K51
open PySem L2
theorem zcz {P:Program} {w:World} {X:Cx}:zde (CX1 P w) X E0:=fun _ _ _ _ _ _ _ h=>by
 obtain⟨_,_,_,_,_,_,_,_,_,_,_,_,_,hE⟩:=h
 exact hE.elim
theorem zbz (a:Int) {b:Int} (h:0 < b):0≤a % b∧a % b < b:=⟨Int.emod_nonneg _ (by omega),Int.emod_lt_of_pos _ h⟩
theorem made {K:W.Frag} {C:Addr} {H H1:Hp} {x dx tl al rl:Addr} (hx:H x=none) (hdx:H dx=none) (hne:dx≠x) (h1:(upd (upd H dx (.own x)) x (.ins C dx [])) tl=none) (h2:(upd (upd H dx (.own x)) x (.ins C dx [])) al=none)
  (h3:(upd (upd H dx (.own x)) x (.ins C dx [])) rl=none) (na:al≠tl) (nr:rl≠tl) (nx:rl≠al) (k1:H1 x=some (.ins C dx (zcC tl al rl))) (k2:H1 tl=some (.lst [])) (k3:H1 al=some (.lst [])) (k4:H1 rl=some (.lst []))
  (k5:∀ b o,(upd (upd H dx (.own x)) x (.ins C dx [])) b=some o→b≠x→H1 b=some o):zbf K C H1 x tl al rl [] [] []∧ao H H1∧H tl=none∧H al=none∧H rl=none:=by
 have sm:ao H (upd (upd H dx (.own x)) x (.ins C dx [])):=(zbJ hdx _).trans (zbJ (by rw[aj hne.symm];exact hx) _)
 exact⟨⟨⟨dx,k1⟩,⟨[],k2,.nil⟩,⟨[],k3,.nil⟩,⟨[],k4,.nil⟩,na,nr,nx⟩,fun b o e=>k5 b o (sm _ _ e) (zac e hx),sm.free h1,sm.free h2,sm.free h3⟩
structure Own (P:Program) (w:World) (K:W.Frag) (mg:Str→Option Value) (base:Heap) (C CN CT CP CM:Addr) (fI fA fQ fS:Addr) (dI dA' dQ dS:FuncData):Prop where
 I:aH P w K mg base CX0 1 fI dI ["self"] (zi0 C)
 bI:aD K dI ["self"] []
 mI:Mk K C fI
 gI:mg "Problem"=some (.ref C)
 A:aH P w K mg base (CX1 P w) 4 fA dA' ["self","name","parts"] (zg1 K C CN CT CM)
 bA:aD K dA' ["self","name","parts"] []
 mA:zbQ K C "add_term" fA
 Q:aH P w K mg base (CX1 P w) 4 fQ dQ ["self","name"] (zfk K C CN CT CP CM)
 bQ:aD K dQ ["self","name"] []
 mQ:zbQ K C "add_plain" fQ
 S:aH P w K mg base (CX1 P w) 4 fS dS ["self","one","other"] (zfY K C CN CT CP CM)
 bS:aD K dS ["self","one","other"] []
 mS:zbQ K C "add_same" fS
section
variable {K:W.Frag} {C CN CT CP CM:Addr}
theorem zdb (tl al rl:Addr):(zcC tl al rl).lookup ("add_term":Str)=none:=zdC _ _ _ (by decide +kernel) (by decide +kernel) (by decide +kernel)
theorem zdV (tl al rl:Addr):(zcC tl al rl).lookup ("add_plain":Str)=none:=zdC _ _ _ (by decide +kernel) (by decide +kernel) (by decide +kernel)
theorem zcv (tl al rl:Addr):(zcC tl al rl).lookup ("add_same":Str)=none:=zdC _ _ _ (by decide +kernel) (by decide +kernel) (by decide +kernel)
end
def tG (T:List Tm) (a:Int):Tm:=T.getD a.toNat ("",[])
def smF (As:List At) (k:Int):Option (Int × Int):=if 1≤k∧k≤(As.length:Int) then(match As.getD (k - 1).toNat (.plain "") with | .same a b=>some (a,b) | .plain _=>none) else none
def toldB (ps:List Int) (As:List At) (l:Lk):Bool:=decide (-l.2.2∈ps)&&(match smF As l.2.2 with | some q=>decide (q=(l.1,l.2.1))||decide (q=(l.2.1,l.1)) | none=>false)
def alikeB (f:Int→Int) (T:List Tm) (a b:Int):Bool:=decide ((tG T a).1=(tG T b).1)&&(decide ((tG T a).2.length=(tG T b).2.length)&&((tG T a).2.zip (tG T b).2).all fun xy=>decide (f xy.1=f xy.2))
def zaL (f:Int→Int) (As:List At) (p:Int):Bool:=match smF As p with | some q=>decide (f q.1=f q.2) | none=>false
def rtm (f:Int→Int) (a b:Int):Int→Int:=fun t=>if f t=f a then f b else f t
def InR (n:Nat) (x:Int):Prop:=0≤x∧x < (n:Int)
structure Dom (T:List Tm) (As:List At):Prop where
 tm:∀ t∈T,∀ q∈t.2,InR T.length q
 am:∀ x y,At.same x y∈As→InR T.length x∧InR T.length y
def LkIn (n m:Nat) (l:Lk):Prop:=InR n l.1∧InR n l.2.1∧0≤l.2.2∧l.2.2≤(m:Int)
theorem zed {T:List Tm} {a:Int} (h:InR T.length a):T[a.toNat]?=some (tG T a)∧tG T a∈T:=by
 obtain⟨h0,h1⟩:=h
 have e:T[a.toNat]?=some (tG T a):=by
  unfold tG
  rw[List.getD_eq_getElem?_getD,List.getElem?_eq_getElem (by omega)]
  rfl
 exact⟨e,List.mem_of_getElem? e⟩
theorem zg6 {As:List At} {k:Int} (h0:1≤k) (h1:k≤(As.length:Int)):∃ a,As[(k - 1).toNat]?=some a∧a∈As∧smF As k=(match a with | .same x y=>some (x,y) | .plain _=>none):=by
 have hl:(k - 1).toNat < As.length:=by omega
 refine⟨As[(k - 1).toNat],List.getElem?_eq_getElem hl,List.getElem_mem hl,?_⟩
 unfold smF
 rw[if_pos ⟨h0,h1⟩,List.getD_eq_getElem?_getD,List.getElem?_eq_getElem hl]
 rfl
theorem zee {T:List Tm} {As:List At} (D:Dom T As) {k:Int} {x y:Int} (h:smF As k=some (x,y)):InR T.length x∧InR T.length y:=by
 unfold smF at h
 split at h
 ·rename_i hk
  have hl:(k - 1).toNat < As.length:=by omega
  rw[List.getD_eq_getElem?_getD,List.getElem?_eq_getElem hl]at h
  have hm:As[(k - 1).toNat]∈As:=List.getElem_mem hl
  change (match As[(k - 1).toNat] with | .same a b=>some (a,b) | .plain _=>none)=some (x,y) at h
  generalize As[(k - 1).toNat]=a at h hm
  cases a with
  | plain z=>cases h
  | same u v =>
   cases h
   exact D.am _ _ hm
 ·cases h
def zbp (n:Nat) (f g:Int→Int):Prop:=∀ t u,InR n t→InR n u→(f t=f u↔g t=g u)
theorem zbp.dec {n:Nat} {f g:Int→Int} (h:zbp n f g) {t u:Int} (ht:InR n t) (hu:InR n u):decide (f t=f u)=decide (g t=g u):=decide_eq_decide.mpr (h t u ht hu)
theorem zkN {α β:Type} {xs:List α} {ys:List β} {p:α × β} (h:p∈xs.zip ys):p.1∈xs∧p.2∈ys:=List.of_mem_zip (a:=p.1) (b:=p.2) h
theorem zcx {T:List Tm} {As:List At} (D:Dom T As) {f g:Int→Int} (h:zbp T.length f g) {a b:Int} (ha:InR T.length a) (hb:InR T.length b):alikeB f T a b=alikeB g T a b:=by
 unfold alikeB
 congr 2
 have key:∀(zs:List (Int × Int)),(∀ p∈zs,InR T.length p.1∧InR T.length p.2)→(zs.all fun xy=>decide (f xy.1=f xy.2))=zs.all fun xy=>decide (g xy.1=g xy.2):=fun zs=>by
  induction zs with
  | nil=>intro _;rfl
  | cons z zs ih =>
   intro hz
   rw[List.all_cons,List.all_cons,ih fun p hp=>hz p (List.mem_cons_of_mem _ hp),h.dec (hz z (by simp)).1 (hz z (by simp)).2]
 refine key _ fun p hp=>?_
 obtain⟨p1,p2⟩:=zkN hp
 exact⟨D.tm _ (zed ha).2 _ p1,D.tm _ (zed hb).2 _ p2⟩
theorem zk3 {f:Int→Int} {a b t u:Int}:rtm f a b t=rtm f a b u↔f t=f u∨(f t=f a∧f u=f b)∨(f t=f b∧f u=f a):=by
 unfold rtm
 constructor
 ·intro h
  split at h <;> split at h <;> omega
 ·intro h
  split <;> split <;> omega
theorem ziV {n:Nat} {f g:Int→Int} (h:zbp n f g) {a b:Int} (ha:InR n a) (hb:InR n b):zbp n (mrg f a b) (rtm g a b):=fun t u ht hu=>by
 rw[zfq,zk3,h t u ht hu,h t a ht ha,h u b hu hb,h t b ht hb,h u a hu ha]
end K51
namespace K51
open PySem L2
section
variable {K:W.Frag}
theorem zgx {H:Hp} {T:List Tm} {xs:List V} {i:Nat} {x:V} (h:ah K H (T.map dT) xs) (e:xs[i]?=some x):∃ t q r,T[i]?=some t∧x=.ref q∧SqT K H q [.str t.1,.ref r]∧SqT K H r (t.2.map V.int):=by
 obtain⟨d,e1,e2⟩:=h.get e
 rw[List.getElem?_map]at e1
 cases q:T[i]? with
 | none=>rw[q]at e1;cases e1
 | some t =>
  rw[q]at e1
  cases e1
  simp only[dT,Has,ah]at e2
  obtain⟨p,ys,rfl,hp,v1,r1,rfl,rfl,v2,r2,rfl,⟨r,zs,rfl,hr,hz⟩,rfl⟩:=e2
  rw[zdi hz]at hr
  exact⟨t,p,r,rfl,rfl,hp,hr⟩
theorem zft {H:Hp} {As:List At} {xs:List V} {i:Nat} {x:V} (h:ah K H (As.map dA) xs) (e:xs[i]?=some x):∃ a,As[i]?=some a∧Has K H (dA a) x:=by
 obtain⟨d,e1,e2⟩:=h.get e
 rw[List.getElem?_map]at e1
 cases q:As[i]? with
 | none=>rw[q]at e1;cases e1
 | some t =>
  rw[q]at e1
  cases e1
  exact⟨t,rfl,e2⟩
theorem zd6 {H:Hp} {z:Str} {x:V} (h:Has K H (dA (.plain z)) x):∃ q,x=.ref q∧SqT K H q [.str "plain",.str z]:=by
 unfold dA at h
 simp only[Has,ah]at h
 obtain⟨a,xs,rfl,hs,v,r,rfl,rfl,v2,r2,rfl,rfl,rfl⟩:=h
 exact⟨a,rfl,hs⟩
theorem zeM {H:Hp} {a b:Int} {x:V} (h:Has K H (dA (.same a b)) x):∃ q,x=.ref q∧SqT K H q [.str "same",.int a,.int b]:=by
 unfold dA at h
 simp only[Has,ah]at h
 obtain⟨q,xs,rfl,hs,v,r,rfl,rfl,v2,r2,rfl,rfl,v3,r3,rfl,rfl,rfl⟩:=h
 exact⟨q,rfl,hs⟩
theorem zdH {α:Type} {xs:List α} {i:Int} (h0:0≤i) (h1:i < (xs.length:Int)):∃ x,xs[i.toNat]?=some x∧atI xs i=some x:=by
 have hk:i.toNat < xs.length:=by omega
 have e:i=((i.toNat:Nat):Int):=by omega
 have q:atI xs ((i.toNat:Nat):Int)=some xs[i.toNat]:=aA (List.getElem?_eq_getElem hk)
 rw[←e]at q
 exact⟨_,List.getElem?_eq_getElem hk,q⟩
end
section
variable {P:Program} {w:World} {K:W.Frag} {mg:Str→Option Value} {base:Heap} {aK C CN CT CP CM CG:Addr} {f fS fT fA fM fI fG fJ fR:Addr} {fd dS dT' dA' dM dI dG dJ dR':FuncData}
def SmQ (K:W.Frag) (As:List At) (k:Int) (H:Hp) (Q:VK):Prop:=(smF As k=none→∀ H',ao H H'→Q .non H')∧∀ x y,smF As k=some (x,y)→∀(H':Hp) (a:Addr),ao H H'→SqT K H' a [.int x,.int y]→Q (.ref a) H'
def zct (K:W.Frag) (C:Addr):Sp:=fun vs H Q _=>∃(p tl al rl:Addr) (T:List Tm) (As:List At) (Rs:List (List Int)) (k:Int),vs=[.ref p,.int k]∧zbf K C H p tl al rl T As Rs∧SmQ K As k H Q
theorem zfB:zae ["problem","number","atom"] ["problem","number"] (ar zdw):=⟨rfl,rfl,rfl,by decide +kernel,rfl,by decide +kernel,by decide +kernel⟩
set_option maxHeartbeats 1000000 in
theorem zhR (F:Fun K "sameness" "sameness" zdw f fd) (T:Txt K mg aK C CN CT CP CM):aH P w K mg base CX0 1 f fd ["problem","number"] (zct K C):=by
 refine F.ok zfB (fun vs H Q E h=>?_) (fun cdv A outer s H vs Q E hr h=>?_)
 ·obtain⟨p,tl,al,rl,T',As,Rs,k,rfl,_⟩:=h
  rfl
 obtain⟨p,tl,al,rl,T',As,Rs,k,rfl,S,q0,q1⟩:=h
 obtain⟨⟨dx,ho⟩,_,⟨ys,ha,hA⟩,_⟩:=id S
 have yl:ys.length=As.length:=by rw[←hA.length,List.length_map]
 refine⟨_,(af (zal (PW.pt (zbS (aw zeC (pv 1) ae (aF _)) (zbM (aw zdX (pv 1) (zaa zab rfl T.len PySem.boot_len (aa (zaj (pv 0) rfl) ac)) (aF _)))))
   (ak (aB zb0))
   zaf)
  (af (ay (i:=2) zfB.nd rfl (Or.inl rfl) (aq zad (zaj (pv 0) rfl) (az zcs (pv 1) ae) (fun _ _=>rfl)))
  (ak (aB (zfR (aw zaO (aq au (pv 2) ae (fun _ _=>rfl)) zao (aF _)) (zcF zi1 (pv 2) (zcZ ae) zc0) zb0))))),?_⟩
 refine⟨_,rfl,_,_,rfl,rfl,_,rfl,zaq (fun c=>zaK ?_) (fun c=>⟨_,rfl,_,rfl,p,C,dx,_,_,rfl,ho,T.cl,T.nA,zaD _ _ _,al,ys,rfl,.inl (SqL.of ha),_,_,rfl,rfl,_,rfl,zaq (fun c2=>?_) (fun c2=>?_)⟩)⟩
 ·have c':k < 1:=of_decide_eq_true c
  exact q0 (by unfold smF;rw[if_neg (by omega)]) H (ao.refl H)
 ·have c':((ys.length:Nat):Int) < k:=of_decide_eq_true c2
  exact q0 (by unfold smF;rw[if_neg (by omega)]) H (ao.refl H)
 ·have c1:¬k < 1:=fun z=>c (decide_eq_true z)
  have c3:¬((ys.length:Nat):Int) < k:=fun z=>c2 (decide_eq_true z)
  obtain⟨a,e1,e2,e3⟩:=zg6 (As:=As) (k:=k) (by omega) (by omega)
  obtain⟨x,x1,x2⟩:=zdH (xs:=ys) (i:=k - 1) (by omega) (by omega)
  obtain⟨a',ea,hax⟩:=zft hA x1
  rw[e1]at ea
  cases ea
  refine⟨_,rfl,p,C,dx,_,_,rfl,ho,T.cl,T.nA,zaD _ _ _,_,rfl,_,_,rfl,rfl,al,_,_,_,rfl,rfl,SqL.of ha,x2,?_⟩
  cases a with
  | plain z =>
   obtain⟨q,rfl,hq⟩:=zd6 hax
   refine⟨_,rfl,q,_,_,_,rfl,rfl,hq,aA (j:=0) rfl,rfl,_,rfl,zaq (fun c=>?_) (fun c=>?_)⟩
   ·exact absurd (of_decide_eq_true c) (by decide +kernel)
   ·exact q0 e3 H (ao.refl H)
  | same x y =>
   obtain⟨q,rfl,hq⟩:=zeM hax
   refine⟨_,rfl,q,_,_,_,rfl,rfl,hq,aA (j:=0) rfl,rfl,_,rfl,zaq (fun c=>?_) (fun c=>?_)⟩
   ·refine⟨_,rfl,_,rfl,q,_,rfl,hq,(by show ¬(1=0∧_);rintro ⟨z,_⟩;exact absurd z (by decide)),fun b hb=>?_⟩
    exact q1 x y e3 _ b (ai hb _) (SqT.of ad)
   ·exact absurd (decide_eq_true rfl) c
theorem zeL (k:Int):∀ ps:List Int,inV (.int k) (ps.map V.int)=decide (k∈ps)
 | []=>by simp [inV]
 | p :: ps=>by
  have ih:=zeL k ps
  unfold inV at ih ⊢
  rw[List.map_cons,List.any_cons,ih]
  by_cases h:k=p
  ·subst h
   simp [eqV]
  ·have:¬p=k:=fun z=>h z.symm
   simp [eqV,h,this]
theorem zd4:∀ ps:List Int,(ps.map V.int).all zc9=true
 | []=>rfl
 | p :: ps=>by rw[List.map_cons,List.all_cons,zd4 ps];rfl
end
end K51
namespace K51
open PySem L2
section
variable {P:Program} {w:World} {K:W.Frag} {mg:Str→Option Value} {base:Heap} {aK C CN CT CP CM CG:Addr} {f fA fM fR:Addr} {fd dA' dM dR':FuncData}
def SeqJ (J:It) (ps:List Int) (H:Hp):Prop:=∃ Ok:Hp→Prop,Wk J ps.length Ok∧(∀ H',ao H H'→Ok H')∧∀ i H' x H'',ao H H'→J.yld i H' x H''→H''=H'∧∃ k,ps[i]?=some k∧x=.int k
theorem zjB {H:Hp} {a:Addr} {ps:List Int} (hq:SqL K H a (ps.map V.int)):SeqJ (Itl K a) ps H:=by
 refine⟨fun H'=>SqL K H' a (ps.map V.int),?_,fun H' s=>s.seq hq,?_⟩
 ·have:=zbd (K:=K) (a:=a) (xs:=ps.map V.int)
  rw[List.length_map]at this
  exact this
 ·rintro i H' x H'' s ⟨rfl,hx⟩
  exact⟨rfl,zaT (hx _ (s.seq hq))⟩
theorem zkg {H:Hp} {a:Addr} {ps:List Int} (hq:SqT K H a (ps.map V.int)):SeqJ (Itt K a) ps H:=by
 refine⟨fun H'=>SqT K H' a (ps.map V.int),?_,fun H' s=>s.tup hq,?_⟩
 ·have:=zbY (K:=K) (a:=a) (xs:=ps.map V.int)
  rw[List.length_map]at this
  exact this
 ·rintro i H' x H'' s ⟨rfl,hx⟩
  exact⟨rfl,zaT (hx _ (s.tup hq))⟩
def iSeqI (K:W.Frag) (tl:TE):L2.TI:=fun σ H R=>tl σ H fun x H1=>∃ a ps,x=.ref a∧SqI K H1 a ps∧∀ J,SeqJ J ps H1→R J H1
theorem zgr {X:Cx} {tg l:Expr} {tl:TE} (hl:PE X l tl):PI X tg l (iSeqI X.K tl):=by
 intro pins s σ H R I h
 refine thn (hl pins s σ H _ I h) fun v s1 ⟨x,H1,I1,r1,q1⟩=>?_
 obtain⟨a,ps,rfl,hq,q⟩:=q1
 cases r1
 have fp:∀ b∈[s1.heap.objs.size],zbA X pins H1 b:=fun b hb=>by
  have e:b=s1.heap.objs.size:=by simpa using hb
  subst e
  exact I1.fpOk (Nat.le_refl _) (I1.hok.fresh (Nat.le_refl _))
 rcases hq with hq | hq
 ·obtain⟨its,rv,p,hz⟩:=I1.list hq
  refine wpAny_pyIter_list p.isList ?_
  exact⟨s1.heap.objs.size,[s1.heap.objs.size],_,_,H1,rfl,I1.kept (t':=s1.toks) fun b o e=>Heap.get?_push_of_some _ e,ze1 a _,⟨_,Heap.get?_push_size _ rfl,rfl,rfl⟩,fp,q _ (zjB hq)⟩
 ·obtain⟨its,rv,p,hz⟩:=I1.tuple hq
  refine wpAny_pyIter_tuple (show s1.heap.IsTuple a its.toArray from p) ?_
  exact⟨s1.heap.objs.size,[s1.heap.objs.size],_,_,H1,rfl,I1.kept (t':=s1.toks) fun b o e=>Heap.get?_push_of_some _ e,zeP a _,⟨_,Heap.get?_push_size _ rfl,rfl,rfl⟩,fp,q _ (zkg hq)⟩
def rf (rs:List Int) (t:Int):Int:=rs.getD t.toNat 0
theorem za1 {rs:List Int} {t:Int} (h:InR rs.length t):atI (rs.map V.int) t=some (.int (rf rs t)):=by
 obtain⟨h0,h1⟩:=h
 have e:t=((t.toNat:Nat):Int):=by omega
 have:rs[t.toNat]?=some (rf rs t):=by
  unfold rf
  rw[List.getD_eq_getElem?_getD,List.getElem?_eq_getElem (by omega)]
  rfl
 have q:=zhK this
 rw[←e]at q
 exact q
def zcP (rs:List Int) (a b:Int):List Int:=rs.map fun h=>if h=rf rs a then rf rs b else h
theorem zdx (rs:List Int) (a b:Int):(zcP rs a b).length=rs.length:=by unfold zcP;rw[List.length_map]
theorem zhv {rs:List Int} {a b t:Int} (h:InR rs.length t):rf (zcP rs a b) t=rtm (rf rs) a b t:=by
 obtain⟨h0,h1⟩:=h
 have:rs[t.toNat]?=some (rf rs t):=by
  unfold rf
  rw[List.getD_eq_getElem?_getD,List.getElem?_eq_getElem (by omega)]
  rfl
 show(zcP rs a b).getD t.toNat 0=_
 unfold zcP
 rw[List.getD_eq_getElem?_getD,List.getElem?_map,this]
 rfl
def zcR (K:W.Frag):Sp:=fun vs H Q _=>∃(r:Addr) (rs:List Int) (a b:Int),vs=[.ref r,.int a,.int b]∧SqL K H r (rs.map V.int)∧InR rs.length a∧InR rs.length b∧rs.length≤1000∧∀(H':Hp) (l:Addr),ao H H'→H l=none→H' l=some (.lst ((zcP rs a b).map V.int))→Q (.ref l) H'
theorem zgA:zae ["_law_roots","_law_one","_law_other"] ["_law_roots","_law_one","_law_other"] (ar zcB):=⟨rfl,rfl,rfl,by decide +kernel,rfl,by decide +kernel,by decide +kernel⟩
set_option maxHeartbeats 1000000 in
theorem ziH (F:Fun K "_law_merged" "_law_merged" zcB f fd):aH P w K mg base CX0 1 f fd ["_law_roots","_law_one","_law_other"] (zcR K):=by
 refine F.ok zgA (fun vs H Q E h=>?_) (fun cdv A outer s H vs Q E hr h=>?_)
 ·obtain⟨r,rs,a,b,rfl,_⟩:=h
  rfl
 obtain⟨r,rs,a,b,rfl,hR,ha,hb,r1000,q⟩:=h
 refine⟨_,(ak (aB (zdr (N':=["_law_head","_law_roots","_law_other","_law_one"]) (ix:=[0,2,1]) rfl rfl (by decide +kernel) (by decide +kernel) rfl (fun ok=>zb1 (sc:=ar zcB) ok rfl (by decide +kernel) (by decide +kernel)) (by decide +kernel) rfl rfl (fun j i h=>match j,h with | 0,h=>by cases h;exact⟨_,rfl,rfl,.inl rfl,.inl rfl⟩ | 1,h=>by cases h;exact⟨_,rfl,rfl,.inl rfl,.inl rfl⟩ | 2,h=>by cases h;exact⟨_,rfl,rfl,.inl rfl,.inl rfl⟩ | n+3,h=>by simp at h) (zbq (pv 0)) (fun _ _ _ _=>(zfR (aw zaO (pv 0) (aq (r:=zez K) zad (pv 1) (pv 3) (fun _ _=>rfl)) (aF _)) (aq (r:=zez K) zad (pv 1) (pv 2) (fun _ _=>rfl)) (pv 0)))))),?_⟩
 refine⟨_,rfl,r,rfl,⟨_,hR⟩,fun D hD=>zcM zbd (fun i us H'=>ao H H'∧us=(((rs.take i).map fun h=>if h=rf rs a then rf rs b else h)).map V.int) (fun i us H' ⟨s4,_⟩=>s4.seq hR) ⟨ai hD _,rfl⟩ ?_ ?_⟩
 ·rintro i us H8 z H4 hi hly hDs ⟨s4,rfl⟩ ⟨rfl,hx⟩
  obtain⟨k,hk,rfl⟩:=zaT (hx _ (s4.seq hR))
  refine⟨_,rfl,_,rfl,_,rfl,r,_,_,_,rfl,rfl,s4.seq hR,za1 ha,rfl,_,rfl,zaq (fun c=>?_) (fun c=>?_)⟩
  ·have c':k=rf rs a:=by have:=of_decide_eq_true c;injection this
   refine⟨_,rfl,_,rfl,r,_,_,_,rfl,rfl,s4.seq hR,za1 hb,zaQ (sz _ (by rw[List.length_map];exact r1000)) hi hly hDs ⟨s4.upd hD,?_⟩⟩
   rw[zai hk,List.map_append,List.map_append]
   simp only[List.map_cons,List.map_nil,if_pos c']
  ·have c':¬k=rf rs a:=fun z=>c (by rw[z];exact decide_eq_true rfl)
   refine⟨_,rfl,zaQ (sz _ (by rw[List.length_map];exact r1000)) hi hly hDs ⟨s4.upd hD,?_⟩⟩
   rw[zai hk,List.map_append,List.map_append]
   simp only[List.map_cons,List.map_nil,if_neg c']
 rintro us H4 hDs ⟨s4,rfl⟩
 rw[List.length_map,List.take_of_length_le (Nat.le_refl _)]at hDs
 exact q H4 D s4 hD hDs
theorem zgK (xs ys:List Int):zbe (xs.map Dt.int) (ys.map Dt.int)=decide (xs=ys):=by
 by_cases h:xs=ys
 ·subst h
  rw[decide_eq_true rfl]
  exact zd1 _
 ·rw[decide_eq_false h,Bool.eq_false_iff]
  intro z
  have:=zfo _ _ (zd3 xs) (zd3 ys) z
  exact h (List.map_inj_right (f:=Dt.int) (fun a b e=>by injection e) |>.mp this)
theorem zfj (g:Int→Int):∀(xs ys:List Int),xs.length=ys.length→decide (xs.map g=ys.map g)=(xs.zip ys).all fun xy=>decide (g xy.1=g xy.2)
 | [],[],_=>rfl
 | [],_ :: _,h=>by cases h
 | _ :: _,[],h=>by cases h
 | x :: xs,y :: ys,h=>by
  have ih:=zfj g xs ys (by simpa using h)
  rw[List.zip_cons_cons,List.all_cons,←ih]
  by_cases c:g x=g y
  ·by_cases d:xs.map g=ys.map g
   ·simp [c,d]
   ·simp [c,d]
  ·simp [c]
def ze4 (K:W.Frag):Sp:=fun vs H Q _=>∃(tl r:Addr) (xs:List V) (T:List Tm) (rs:List Int) (a b:Int),vs=[.ref tl,.ref r,.int a,.int b]∧SqL K H tl xs∧ah K H (T.map dT) xs∧(∀ t∈T,∀ q∈t.2,InR T.length q)∧(∀ t∈T,t.2.length≤1000)∧SqL K H r (rs.map V.int)∧rs.length=T.length∧InR T.length a∧InR T.length b∧∀ H',ao H H'→Q (.bl (alikeB (rf rs) T a b)) H'
theorem zdl:zae ["_law_terms","_law_roots","_law_one","_law_other","_law_first","_law_second"] ["_law_terms","_law_roots","_law_one","_law_other"] (ar zb9):=⟨rfl,rfl,rfl,by decide +kernel,rfl,by decide +kernel,by decide +kernel⟩
set_option maxHeartbeats 1000000 in
theorem zjL (F:Fun K "_law_alike" "_law_alike" zb9 f fd) (T:Txt K mg aK C CN CT CP CM):aH P w K mg base CX0 1 f fd ["_law_terms","_law_roots","_law_one","_law_other"] (ze4 K):=by
 refine F.ok zdl (fun vs H Q E h=>?_) (fun cdv A outer s H vs Q E hr h=>?_)
 ·obtain⟨tl,r,xs,T',rs,a,b,rfl,_⟩:=h
  rfl
 obtain⟨tl,r,xs,T',rs,a,b,rfl,ht,hT,dm,t1000,hR,rl,r1,r2,q⟩:=h
 have hu:=zfH hr
 have xl:xs.length=T'.length:=by rw[←hT.length,List.length_map]
 refine⟨_,(af (ay (i:=4) zdl.nd rfl (Or.inl rfl) (aq zad (pv 0) (pv 2) (fun _ _=>rfl)))
  (af (ay (i:=5) zdl.nd rfl (Or.inl rfl) (aq zad (pv 0) (pv 3) (fun _ _=>rfl)))
  (af (zal (PW.pt (zbS (aw zc8 (aq au (pv 4) ae (fun _ _=>rfl)) (aq au (pv 5) ae (fun _ _=>rfl)) (aF _)) (zbM (aw zc8 (zaa zab rfl T.len PySem.boot_len (aa (aq au (pv 4) ae (fun _ _=>rfl)) ac)) (zaa zab rfl T.len PySem.boot_len (aa (aq au (pv 5) ae (fun _ _=>rfl)) ac)) (aF _)))))
   (ak (aB zbu))
   zaf)
  (ak (aB (zbO (zhc hu) (zdr (N':=["_law_part","_law_roots"]) (ix:=[1]) rfl rfl (by decide +kernel) (by decide +kernel) rfl (fun ok=>zb1 (sc:=ar zb9) ok rfl (by decide +kernel) (by decide +kernel)) (by decide +kernel) rfl rfl (fun j i h=>match j,h with | 0,h=>by cases h;exact⟨_,rfl,rfl,.inl rfl,.inl rfl⟩ | n+1,h=>by simp at h) (zcr (aq au (pv 4) ae (fun _ _=>rfl))) (fun _ _ _ _=>(aq (r:=zez K) zad (pv 1) (pv 0) (fun _ _=>rfl)))) (zdr (N':=["_law_part","_law_roots"]) (ix:=[1]) rfl rfl (by decide +kernel) (by decide +kernel) rfl (fun ok=>zb1 (sc:=ar zb9) ok rfl (by decide +kernel) (by decide +kernel)) (by decide +kernel) rfl rfl (fun j i h=>match j,h with | 0,h=>by cases h;exact⟨_,rfl,rfl,.inl rfl,.inl rfl⟩ | n+1,h=>by simp at h) (zcr (aq au (pv 5) ae (fun _ _=>rfl))) (fun _ _ _ _=>(aq (r:=zez K) zad (pv 1) (pv 0) (fun _ _=>rfl)))) rfl)))))),?_⟩
 obtain⟨x,x1,x2⟩:=zdH (xs:=xs) (i:=a) r1.1 (by rw[xl];exact r1.2)
 obtain⟨y,y1,y2⟩:=zdH (xs:=xs) (i:=b) r2.1 (by rw[xl];exact r2.2)
 obtain⟨t,qa,ra,ta,rfl,ha,hra⟩:=zgx hT x1
 obtain⟨u,qb,rb,ua,rfl,hb,hrb⟩:=zgx hT y1
 have et:tG T' a=t:=by have:=(zed r1).1;rw[ta]at this;cases this;rfl
 have eu:tG T' b=u:=by have:=(zed r2).1;rw[ua]at this;cases this;rfl
 have tm:=List.mem_of_getElem? ta
 have um:=List.mem_of_getElem? ua
 unfold alikeB at q
 rw[et,eu]at q
 refine⟨_,rfl,_,rfl,tl,_,_,_,rfl,rfl,ht,x2,?_⟩
 refine⟨_,rfl,_,rfl,tl,_,_,_,rfl,rfl,ht,y2,?_⟩
 have a0:∀(z:Str) (r:Addr),atI [V.str z,V.ref r] 0=some (.str z):=fun z r=>aA (j:=0) rfl
 have a1:∀(z:Str) (r:Addr),atI [V.str z,V.ref r] 1=some (.ref r):=fun z r=>aA (j:=1) rfl
 refine⟨_,rfl,qa,_,_,_,rfl,rfl,ha,a0 _ _,_,rfl,qb,_,_,_,rfl,rfl,hb,a0 _ _,rfl,_,rfl,zaq (fun c=>zaK ?_) (fun c=>⟨_,rfl,qa,_,_,_,rfl,rfl,ha,a1 _ _,ra,_,rfl,.inr hra,_,rfl,qb,_,_,_,rfl,rfl,hb,a1 _ _,rb,_,rfl,.inr hrb,rfl,_,rfl,zaq (fun c2=>?_) (fun c2=>?_)⟩)⟩
 ·have:=q H (ao.refl H)
  rw[decide_eq_false (fun z:t.1=u.1=>by rw[z]at c;simp at c)]at this
  exact this
 ·have:=q H (ao.refl H)
  rw[decide_eq_false (p:=t.2.length=u.2.length) (fun z=>by simp [z]at c2)]at this
  rw[Bool.false_and,Bool.and_false]at this
  exact this
 have n1:t.1=u.1:=by
  apply Classical.byContradiction
  intro z
  exact c (by simp [z])
 have n2:t.2.length=u.2.length:=by
  apply Classical.byContradiction
  intro z
  exact c2 (by simp;omega)
 rw[decide_eq_true n1,decide_eq_true n2,Bool.true_and,Bool.true_and,←zfj (rf rs) _ _ n2]at q
 refine⟨_,rfl,qa,_,_,_,rfl,rfl,ha,a1 _ _,ra,rfl,⟨_,hra⟩,fun D hD=>zcM zbY (fun i us H'=>ao H H'∧us=((t.2.take i).map (rf rs)).map V.int) (fun i us H' ⟨s4,_⟩=>s4.tup hra) ⟨ai hD _,rfl⟩ ?_ ?_⟩
 ·rintro i us H8 z H4 hi hly hDs ⟨s4,rfl⟩ ⟨rfl,hx⟩
  obtain⟨k,hk,rfl⟩:=zaT (hx _ (s4.tup hra))
  have kin:=dm t tm k (List.mem_of_getElem? hk)
  refine⟨_,rfl,_,rfl,r,_,_,_,rfl,rfl,s4.seq hR,za1 (by rw[rl];exact kin),zaQ (sz _ (by rw[List.length_map];exact t1000 t tm)) hi hly hDs ⟨s4.upd hD,?_⟩⟩
  rw[zai hk,List.map_append,List.map_append]
  rfl
 rintro us H4 hDs ⟨s4,rfl⟩
 rw[List.length_map,List.take_of_length_le (Nat.le_refl _)]at hDs
 refine⟨_,rfl,qb,_,_,_,rfl,rfl,s4.tup hb,a1 _ _,rb,rfl,⟨_,s4.tup hrb⟩,fun D2 hD2=>zcM zbY (fun i us H'=>ao H4 H'∧us=((u.2.take i).map (rf rs)).map V.int) (fun i us H' ⟨s5,_⟩=>s5.tup (s4.tup hrb)) ⟨ai hD2 _,rfl⟩ ?_ ?_⟩
 ·rintro i us H8 z H5 hi hly hDs2 ⟨s5,rfl⟩ ⟨rfl,hx⟩
  obtain⟨k,hk,rfl⟩:=zaT (hx _ (s5.tup (s4.tup hrb)))
  have kin:=dm u um k (List.mem_of_getElem? hk)
  refine⟨_,rfl,_,rfl,r,_,_,_,rfl,rfl,s5.seq (s4.seq hR),za1 (by rw[rl];exact kin),zaQ (sz _ (by rw[List.length_map];exact t1000 u um)) hi hly hDs2 ⟨s5.upd hD2,?_⟩⟩
  rw[zai hk,List.map_append,List.map_append]
  rfl
 rintro us H5 hDs2 ⟨s5,rfl⟩
 rw[List.length_map,List.take_of_length_le (Nat.le_refl _)]at hDs2
 refine⟨_,_,Has.lst' (SqL.of (s5 _ _ hDs)) (ah.ints _),Has.lst' (SqL.of hDs2) (ah.ints _),(by simp only[dep,zbc];decide),?_⟩
 show Q (.bl (zbe ((t.2.map (rf rs)).map Dt.int) ((u.2.map (rf rs)).map Dt.int))) H5
 rw[zgK]
 exact q H5 (s4.trans s5)
theorem perm2 {m n a b:Int} (h:[m,n].Perm [a,b]):(m=a∧n=b)∨(m=b∧n=a):=by
 have hm:m∈[a,b]:=h.mem_iff.mp (by simp)
 simp only[List.mem_cons,List.not_mem_nil,or_false]at hm
 rcases hm with rfl | rfl
 ·have:=(List.perm_cons m).mp h
  exact .inl ⟨rfl,by simpa using this⟩
 ·have:=(List.perm_cons m).mp (h.trans (List.Perm.swap m a []))
  exact .inr ⟨rfl,by simpa using this⟩
theorem sort2 {ms ns:List Int} {a b x y:Int} (h1:ms.Perm [a,b]) (h2:ms.Pairwise (·≤·)) (h3:ns.Perm [x,y]) (h4:ns.Pairwise (·≤·)):decide (ms=ns)=(decide ((x,y)=(a,b))||decide ((x,y)=(b,a))):=by
 have l1:=h1.length_eq
 have l3:=h3.length_eq
 match ms,ns,l1,l3 with
 | [m1,m2],[n1,n2],_,_ =>
  have p1:=perm2 h1
  have p3:=perm2 h3
  have o1:m1≤m2:=by simpa using h2
  have o2:n1≤n2:=by simpa using h4
  rw[Bool.eq_iff_iff,Bool.or_eq_true,decide_eq_true_iff,decide_eq_true_iff,decide_eq_true_iff]
  simp only[List.cons.injEq,and_true,Prod.mk.injEq]
  omega
end
end K51
namespace K51
open PySem L2
section
variable {P:Program} {w:World} {K:W.Frag} {mg:Str→Option Value} {base:Heap} {aK C CN CT CP CM CG:Addr} {f fA fM fN fC:Addr} {fd dA' dM dN dC:FuncData}
theorem l0 (lk:Lk):atI [V.int lk.1,V.int lk.2.1,V.int lk.2.2] 0=some (.int lk.1):=aA (j:=0) rfl
theorem l1 (lk:Lk):atI [V.int lk.1,V.int lk.2.1,V.int lk.2.2] 1=some (.int lk.2.1):=aA (j:=1) rfl
theorem l2 (lk:Lk):atI [V.int lk.1,V.int lk.2.1,V.int lk.2.2] 2=some (.int lk.2.2):=aA (j:=2) rfl
structure PrD (K:W.Frag) (C:Addr) (H:Hp) (p tl al rl:Addr) (T:List Tm) (As:List At) (Rs:List (List Int)):Prop where
 pr:zbf K C H p tl al rl T As Rs
 dm:Dom T As
 t3:∀ t∈T,t.2.length≤3
 tN:T.length≤100
theorem PrD.same {H H':Hp} {p tl al rl:Addr} {T:List Tm} {As:List At} {Rs:List (List Int)} (h:PrD K C H p tl al rl T As Rs) (s:ao H H'):PrD K C H' p tl al rl T As Rs:=⟨h.pr.same s,h.dm,h.t3,h.tN⟩
def PIn (m:Nat) (p:Int):Prop:=p≠0∧-(m:Int)≤p∧p≤(m:Int)
def zaU (n:Nat):List Int:=(List.range n).map fun i:Nat=>(i:Int)
theorem zef {n:Nat} {t:Int} (h:InR n t):rf (zaU n) t=t:=by
 obtain⟨h0,h1⟩:=h
 unfold rf zaU
 rw[List.getD_eq_getElem?_getD,List.getElem?_map,List.getElem?_range (by omega)]
 show((t.toNat:Nat):Int)=t
 omega
theorem zb5 (n:Nat):(zaU n).length=n:=by simp [zaU]
theorem zly {H:Hp} {As:List At} {ys:List V} {k:Int} (hA:ah K H (As.map dA) ys) (h:PIn As.length k):∃ x a,atI ys ((if k < 0 then -k else k) - 1)=some x∧a∈As∧Has K H (dA a) x∧As[(((k.natAbs:Nat):Int) - 1).toNat]?=some a:=by
 obtain⟨p0,p1,p2⟩:=h
 have yl:ys.length=As.length:=by rw[←hA.length,List.length_map]
 have eabs:(if k < 0 then -k else k)=((k.natAbs:Nat):Int):=by split <;> omega
 obtain⟨x,x1,x2⟩:=zdH (xs:=ys) (i:=((k.natAbs:Nat):Int) - 1) (by omega) (by omega)
 obtain⟨a,ea,hax⟩:=zft hA x1
 exact⟨x,a,by rw[eabs];exact x2,List.mem_of_getElem? ea,hax,ea⟩
def apF:At→Option (Int × Int)
 | .same x y=>some (x,y)
 | .plain _=>none
def zju (rt:Int→Int) (T:List Tm) (As:List At) (ps:List Int):Prop:=(∀ k∈ps,k < 0→∀ x y,smF As (-k)=some (x,y)→rt x=rt y)∧∀ i j:Nat,j < i→i < T.length→alikeB rt T (i:Int) (j:Int)=true→rt (i:Int)=rt (j:Int)
def zit (rt:Int→Int) (T:List Tm) (As:List At) (ps:List Int) (lk:Lk):Prop:=LkIn T.length As.length lk∧rt lk.1≠rt lk.2.1∧((0 < lk.2.2∧-lk.2.2∈ps∧smF As lk.2.2=some (lk.1,lk.2.1))∨(lk.2.2=0∧alikeB rt T lk.1 lk.2.1=true))
def zgi (K:W.Frag) (C:Addr):Sp:=fun vs H Q _=>∃(p tl al rl q r:Addr) (T:List Tm) (As:List At) (Rs:List (List Int)) (ps rs:List Int),vs=[.ref p,.ref q,.ref r]∧PrD K C H p tl al rl T As Rs∧SqI K H q ps∧(∀ k∈ps,PIn As.length k)∧SqL K H r (rs.map V.int)∧rs.length=T.length∧(zju (rf rs) T As ps→∀ H',ao H H'→Q .non H')∧∀(H':Hp) (l:Addr) (lk:Lk),ao H H'→SqT K H' l [.int lk.1,.int lk.2.1,.int lk.2.2]→zit (rf rs) T As ps lk→Q (.ref l) H'
theorem zb6:zae ["_law_problem","_law_parts","_law_roots","_law_part","_law_atom","_law_one","_law_other"] ["_law_problem","_law_parts","_law_roots"] (ar zeb):=⟨rfl,rfl,rfl,by decide +kernel,rfl,by decide +kernel,by decide +kernel⟩
set_option maxHeartbeats 2000000 in
theorem zle (F:Fun K "_law_next" "_law_next" zeb f fd) (T:Txt K mg aK C CN CT CP CM) (mrange:mg "range"=none) (mabs:mg "abs"=none) (BA:FB P w K mg base CX0 1 "_law_alike" fA dA' ["_law_terms","_law_roots","_law_one","_law_other"] (ze4 K)):aH P w K mg base CX0 2 f fd ["_law_problem","_law_parts","_law_roots"] (zgi K C):=by
 refine F.ok zb6 (fun vs H Q E h=>?_) (fun cdv A outer s H vs Q E hr h=>?_)
 ·obtain⟨p,tl,al,rl,q,r,T',As,Rs,ps,rs,rfl,_⟩:=h
  rfl
 obtain⟨p,tl,al,rl,q,r,T',As,Rs,ps,rs,rfl,S,hq,pin,hR,rl',q0,q1⟩:=h
 refine⟨_,(af (zaE PassesOwn.never rfl (zgr (pv 1)) (zam (i:=3) zb6.nd rfl (Or.inl rfl))
   (af (ay (i:=4) zb6.nd rfl (Or.inl rfl) (aq zad (zaj (pv 0) rfl) (az zcs (zaa zkJ rfl mabs PyProof.Rows.Boot.abs (aa (pv 3) ac)) ae) (fun _ _=>rfl)))
    (ak (zal (PW.pt (zbZ (aw zeC (pv 3) ae (aF _)) (zbZ (aw zaO (aq au (pv 4) ae (fun _ _=>rfl)) zao (aF _)) (zcf (aw zc8 (aq zad (pv 2) (aq au (pv 4) ae (fun _ _=>rfl)) (fun _ _=>rfl)) (aq zad (pv 2) (aq au (pv 4) ae (fun _ _=>rfl)) (fun _ _=>rfl)) (aF _))))))
     (ak (aB (zaR (aa (aq au (pv 4) ae (fun _ _=>rfl)) (aa (aq au (pv 4) ae (fun _ _=>rfl)) (aa (zcc zbB (pv 3)) ac))))))
     zaf))))
  (af (zaE PassesOwn.never rfl (zaZ rfl mrange (aa (zaa zab rfl T.len PySem.boot_len (aa (pv 2) ac)) ac)) (zam (i:=5) zb6.nd rfl (Or.inl rfl))
   (ak (zaE PassesOwn.never rfl (zaZ rfl mrange (aa (pv 5) ac)) (zam (i:=6) zb6.nd rfl (Or.inl rfl))
     (ak (zal (PW.pt (zbZ (aw zc8 (aq zad (pv 2) (pv 5) (fun _ _=>rfl)) (aq zad (pv 2) (pv 6) (fun _ _=>rfl)) (aF _)) (zcf (zbj (ax BA.ok hr rfl BA.m BA.kp BA.b .nil aE (aa (zaj (pv 0) rfl) (aa (pv 2) (aa (pv 5) (aa (pv 6) ac)))))))))
       (ak (aB (zaR (aa (pv 5) (aa (pv 6) (aa ae ac))))))
       zaf)))))
  (ak (aB zb0)))),?_⟩
 obtain⟨⟨dx,ho⟩,⟨ts,ht,hT⟩,⟨ys,ha,hA⟩,_⟩:=id S.pr
 have tN:=S.tN
 refine⟨_,rfl,q,ps,rfl,hq,fun J ⟨Ok,W,ok,yl'⟩=>zbx W (fun i σ H'=>∃(v3 v4:Option V),σ=[some (.ref p),some (.ref q),some (.ref r),v3,v4,none,none]∧H'=H∧∀(j:Nat) k,j < i→ps[j]?=some k→k < 0→∀ x y,smF As (-k)=some (x,y)→rf rs x=rf rs y) (fun i σ H' ⟨_,_,_,e,_⟩=>e ▸ ok _ (ao.refl _)) ⟨none,none,rfl,rfl,(fun j k hj=>absurd hj (Nat.not_lt_zero _))⟩ ?_ ?_⟩
 ·rintro i σ H9 x H3 hi ⟨v3,v4,rfl,rfl,old⟩ yy
  obtain⟨rfl,k,hk,rfl⟩:=yl' _ _ _ _ (ao.refl _) yy
  have pk:=pin k (List.mem_of_getElem? hk)
  obtain⟨x,a,x2,am,hax,xa⟩:=zly hA pk
  have nxt:(k < 0→∀ x y,smF As (-k)=some (x,y)→rf rs x=rf rs y)→∀(j:Nat) k,j < i+1→ps[j]?=some k→k < 0→∀ x y,smF As (-k)=some (x,y)→rf rs x=rf rs y:=fun z j k' hj hk'=>by
   by_cases e:j=i
   ·subst e
    cases hk.symm.trans hk'
    exact z
   ·exact old j k' (by omega) hk'
  have sm:k < 0→smF As (-k)=apF a:=fun c=>by
   obtain⟨p0,p1,p2⟩:=pk
   obtain⟨a',e1,_,e3⟩:=zg6 (As:=As) (k:=-k) (by omega) (by omega)
   rw[show(-k - 1).toNat=(((k.natAbs:Nat):Int) - 1).toNat by omega,xa]at e1
   cases e1
   exact e3.trans (by cases a <;> rfl)
  refine⟨_,rfl,p,C,dx,_,_,rfl,ho,T.cl,T.nA,zaD _ _ _,_,rfl,_,rfl,_,_,rfl,rfl,al,_,_,_,rfl,rfl,SqL.of ha,x2,?_⟩
  refine⟨_,rfl,_,_,rfl,rfl,_,rfl,zaq (fun c=>?_) (fun c=>aP ⟨_,_,rfl,rfl,nxt fun z=>absurd (decide_eq_true z) c⟩)⟩
  have c':k < 0:=of_decide_eq_true c
  cases a with
  | plain z =>
   obtain⟨qq,rfl,hqq⟩:=zd6 hax
   exact⟨_,rfl,qq,_,_,_,rfl,rfl,hqq,aA (j:=0) rfl,rfl,_,rfl,zaq (fun c=>absurd (of_decide_eq_true c) (by decide +kernel)) (fun c=>aP ⟨_,_,rfl,rfl,nxt fun z x y e=>by rw[sm z]at e;cases e⟩)⟩
  | same x y =>
   obtain⟨qq,rfl,hqq⟩:=zeM hax
   obtain⟨in1,in2⟩:=S.dm.am x y am
   have i1:=in1
   have i2:=in2
   rw[←rl']at i1 i2
   refine⟨_,rfl,qq,_,_,_,rfl,rfl,hqq,aA (j:=0) rfl,rfl,_,rfl,zaq (fun c=>⟨_,rfl,_,rfl,qq,_,_,_,rfl,rfl,hqq,aA (j:=1) rfl,r,_,_,_,rfl,rfl,hR,za1 i1,_,rfl,_,rfl,qq,_,_,_,rfl,rfl,hqq,aA (j:=2) rfl,r,_,_,_,rfl,rfl,hR,za1 i2,rfl,_,rfl,zaq (fun c3=>?_) (fun c3=>⟨_,_,rfl,rfl,nxt fun z x' y' e=>?_⟩)⟩) (fun c=>absurd (decide_eq_true rfl) c)⟩
   rotate_left
   ·rw[sm z]at e
    cases e
    rw[zdk]at c3
    exact Decidable.byContradiction fun w=>c3 (by rw[decide_eq_false w];rfl)
   refine⟨_,rfl,qq,_,_,_,rfl,rfl,hqq,aA (j:=1) rfl,_,rfl,qq,_,_,_,rfl,rfl,hqq,aA (j:=2) rfl,_,rfl,_,rfl,lS3,fun l hl=>?_⟩
   obtain⟨p0,p1,p2⟩:=pk
   rw[zdk]at c3
   exact q1 _ l (x,y,-k) (ai hl _) (SqT.of ad) ⟨⟨in1,in2,by show 0≤-k;omega,by show -k≤_;omega⟩,(fun w=>by have w:rf rs x=rf rs y:=w;rw[decide_eq_true w]at c3;cases c3),.inl ⟨by show 0 < -k;omega,by show - -k∈ps;rw[Int.neg_neg];exact List.mem_of_getElem? hk,sm c'⟩⟩
 ·rintro σ H2 ⟨v3,v4,rfl,rfl,old⟩
  have g1:∀ k∈ps,k < 0→∀ x y,smF As (-k)=some (x,y)→rf rs x=rf rs y:=fun k hk=>by
   obtain⟨j,hj⟩:=List.mem_iff_getElem?.mp hk
   exact old j k (List.getElem?_eq_some_iff.mp hj).1 hj
  refine⟨_,rfl,r,_,rfl,.inl hR,_,rfl,(by omega),(by rw[List.length_map];omega),za6 (lo:=0) (n:=(((rs.map V.int).length:Nat):Int).toNat) (fun i σ H'=>∃(v5 v6:Option V),σ=[some (.ref p),some (.ref q),some (.ref r),v3,v4,v5,v6]∧ao H2 H'∧∀ a b:Nat,b < a→a < i→alikeB (rf rs) T' (a:Int) (b:Int)=true→rf rs (a:Int)=rf rs (b:Int)) ⟨none,none,rfl,ao.refl _,(fun a b _ ha=>absurd ha (Nat.not_lt_zero _))⟩ ?_ ?_⟩
  ·rintro i σ H3 hi ⟨v5,v6,rfl,s3,olda⟩
   rw[Int.toNat_natCast,List.length_map]at hi
   refine⟨_,rfl,_,rfl,(by show -(2 ^ 62)≤(0:Int)+(i:Nat);omega),(by show(0:Int)+(i:Nat) < 2 ^ 62;omega),za6 (lo:=0) (n:=((0:Int)+((i:Nat):Int)).toNat) (fun j σ H'=>∃(v6:Option V),σ=[some (.ref p),some (.ref q),some (.ref r),v3,v4,some (.int ((0:Int)+((i:Nat):Int))),v6]∧ao H2 H'∧∀ b:Nat,b < j→alikeB (rf rs) T' (i:Int) (b:Int)=true→rf rs (i:Int)=rf rs (b:Int)) ⟨_,rfl,s3,(fun b hb=>absurd hb (Nat.not_lt_zero _))⟩ ?_ ?_⟩
   ·rintro j σ H4 hj ⟨v6,rfl,s4,oldb⟩
    have nb:(alikeB (rf rs) T' (0+(i:Int)) (0+(j:Int))=true→rf rs (0+(i:Int))=rf rs (0+(j:Int)))→∀ b:Nat,b < j+1→alikeB (rf rs) T' (i:Int) (b:Int)=true→rf rs (i:Int)=rf rs (b:Int):=fun z b hb=>by
     rw[Int.zero_add,Int.zero_add]at z
     by_cases e:b=j
     ·subst e;exact z
     ·exact oldb b (by omega)
    have ii:InR rs.length ((0:Int)+((i:Nat):Int)):=⟨by omega,by omega⟩
    have jj:InR rs.length ((0:Int)+((j:Nat):Int)):=⟨by omega,by omega⟩
    have hR4:=s4.seq hR
    refine⟨_,rfl,_,rfl,r,_,_,_,rfl,rfl,hR4,za1 ii,_,rfl,_,rfl,r,_,_,_,rfl,rfl,hR4,za1 jj,rfl,_,rfl,zaq (fun c=>?_) (fun c=>aP ⟨_,rfl,s4,nb fun _=>by rw[zdk]at c;exact Decidable.byContradiction fun w=>c (by rw[decide_eq_false w];rfl)⟩)⟩
    rw[rl']at ii jj
    refine⟨_,rfl,p,C,dx,_,_,rfl,s4 _ _ ho,T.cl,T.nT,zan _ _ _,_,rfl,_,rfl,_,rfl,tl,r,ts,T',rs,_,_,rfl,SqL.of (s4 _ _ ht),hT.keep s4.kt (zbr _),S.dm.tm,(fun t ht=>Nat.le_trans (S.t3 t ht) (by decide)),hR4,rl',ii,jj,fun H5 s5=>⟨_,rfl,zaq (fun c2=>?_) (fun c2=>⟨_,rfl,s4.trans s5,nb fun z=>absurd z c2⟩)⟩⟩
    refine⟨_,rfl,_,rfl,lS3,fun l hl=>?_⟩
    exact q1 _ l (0+((i:Nat):Int),0+((j:Nat):Int),0) ((s4.trans s5).trans (ai hl _)) (SqT.of ad) ⟨⟨ii,jj,by show(0:Int)≤0;omega,by show(0:Int)≤_;omega⟩,(fun w=>by rw[zdk]at c;have w:rf rs (0+(i:Int))=rf rs (0+(j:Int)):=w;rw[decide_eq_true w]at c;cases c),.inr ⟨rfl,c2⟩⟩
   ·rintro σ H4 ⟨v6,rfl,s4,oldb⟩
    refine⟨_,_,rfl,s4,fun a b hb ha=>?_⟩
    by_cases e:a=i
    ·subst e
     exact oldb b (by omega)
    ·exact olda a b hb (by omega)
  ·rintro σ H3 ⟨v5,v6,rfl,s3,olda⟩
   rw[Int.toNat_natCast,List.length_map,rl']at olda
   exact q0 ⟨g1,fun i j hj hi=>olda i j hj hi⟩ H3 s3
def zf6 (K:W.Frag) (C:Addr):Sp:=fun vs H Q _=>∃(p tl al rl q:Addr) (T:List Tm) (As:List At) (Rs:List (List Int)) (ps:List Int),vs=[.ref p,.ref q]∧PrD K C H p tl al rl T As Rs∧SqI K H q ps∧(∀ k∈ps,PIn As.length k)∧∀(H':Hp) (r:Addr) (rs:List Int),ao H H'→H' r=some (.lst (rs.map V.int))→rs.length=T.length→Q (.ref r) H'
theorem zbF:zae ["_law_problem","_law_parts","_law_roots","_law_step","_law_bond"] ["_law_problem","_law_parts"] (ar zdo):=⟨rfl,rfl,rfl,by decide +kernel,rfl,by decide +kernel,by decide +kernel⟩
set_option maxHeartbeats 2000000 in
theorem ziJ (F:Fun K "_law_closed" "_law_closed" zdo f fd) (T:Txt K mg aK C CN CT CP CM) (mlist:mg "list"=none) (mrange:mg "range"=none) (BN:FB P w K mg base CX0 2 "_law_next" fN dN ["_law_problem","_law_parts","_law_roots"] (zgi K C)) (BM:FB P w K mg base CX0 1 "_law_merged" fM dM ["_law_roots","_law_one","_law_other"] (zcR K)):aH P w K mg base CX0 3 f fd ["_law_problem","_law_parts"] (zf6 K C):=by
 refine F.ok zbF (fun vs H Q E h=>?_) (fun cdv A outer s H vs Q E hr h=>?_)
 ·obtain⟨p,tl,al,rl,q,T',As,Rs,ps,rfl,_⟩:=h
  rfl
 obtain⟨p,tl,al,rl,q,T',As,Rs,ps,rfl,S,hq,pin,Q0⟩:=h
 have hr1:aO 1 _:=hr.mono (by decide)
 refine⟨_,(af (ay (i:=2) zbF.nd rfl (Or.inl rfl) (zaC (zbN rfl) rfl mlist PyProof.Rows.Boot.list (aa (zdg rfl mrange (aa (zaa zab rfl T.len PySem.boot_len (aa (zaj (pv 0) rfl) ac)) ac)) ac)))
  (af (zaE PassesOwn.never rfl (zaZ rfl mrange (aa (zaa zab rfl T.len PySem.boot_len (aa (pv 2) ac)) ac)) (zam (i:=3) zbF.nd rfl (Or.inl rfl))
   (af (ay (i:=4) zbF.nd rfl (Or.inl rfl) (ax BN.ok hr rfl BN.m BN.kp BN.b .nil aE (aa (pv 0) (aa (pv 1) (aa (pv 2) ac)))))
    (af (zal (aw zf1 (pv 4) zb0 (aF _))
     (ak (aB (pv 2)))
     zaf)
    (ak (ay (i:=2) zbF.nd rfl (Or.inl rfl) (ax BM.ok hr1 rfl BM.m BM.kp BM.b .nil aE (aa (pv 2) (aa (aq au (pv 4) ae (fun _ _=>rfl)) (aa (aq au (pv 4) ae (fun _ _=>rfl)) ac)))))))))
  (ak (aB (pv 2))))),?_⟩
 obtain⟨⟨dx,ho⟩,⟨ts,ht,hT⟩,_⟩:=id S.pr
 have tl':ts.length=T'.length:=by rw[←hT.length,List.length_map]
 have tN:=S.tN
 refine⟨_,rfl,p,C,dx,_,_,rfl,ho,T.cl,T.nT,zan _ _ _,tl,_,rfl,.inl (SqL.of ht),_,rfl,fun r0 hr0=>?_⟩
 have s0:=ai hr0 (.rng 0 ((ts.length:Nat):Int))
 have n0:=ad (H:=H) (a:=r0) (o:=.rng 0 ((ts.length:Nat):Int))
 generalize upd H r0 (.rng 0 ((ts.length:Nat):Int))=H0 at s0 n0
 refine⟨r0,_,rfl,n0,(by omega),(by omega),fun r1 hr1'=>?_⟩
 have e0:(((List.range (((ts.length:Nat):Int)).toNat).map fun i:Nat=>(i:Int)).map V.int)=(zaU T'.length).map V.int:=by
  rw[Int.toNat_natCast,tl']
  rfl
 rw[e0]
 have s1:=s0.trans (ai hr1' (.lst ((zaU T'.length).map V.int)))
 have n1:=ad (H:=H0) (a:=r1) (o:=.lst ((zaU T'.length).map V.int))
 generalize upd H0 r1 (.lst ((zaU T'.length).map V.int))=H1 at s1 n1
 refine⟨_,rfl,r1,_,rfl,.inl (SqL.of n1),_,rfl,(by omega),(by rw[List.length_map,zb5];omega),za6 (lo:=0) (n:=((((zaU T'.length).map V.int).length:Nat):Int).toNat) (fun i σ H'=>∃(r:Addr) (rs:List Int) (v3 v4:Option V),σ=[some (.ref p),some (.ref q),some (.ref r),v3,v4]∧ao H H'∧H' r=some (.lst (rs.map V.int))∧rs.length=T'.length) ⟨r1,_,none,none,rfl,s1,n1,zb5 _⟩ ?_ ?_⟩
 ·rintro i σ H3 hi ⟨r,rs,v3,v4,rfl,s3,hr3,rl3⟩
  refine⟨_,rfl,_,rfl,_,rfl,p,tl,al,rl,q,r,T',As,Rs,ps,rs,rfl,S.same s3,hq.same s3,pin,SqL.of hr3,rl3,fun _ H4 s4=>?_,fun H4 b lk s4 hb ⟨lkin,_⟩=>?_⟩
  ·exact⟨_,rfl,rfl,_,rfl,zaK ⟨_,rfl,Q0 H4 r rs (s3.trans s4) (s4 _ _ hr3) rl3⟩⟩
  ·refine⟨_,rfl,rfl,_,rfl,zaq (fun c=>absurd (of_decide_eq_true c) (by intro z;cases z)) (fun c=>?_)⟩
   refine⟨_,rfl,_,rfl,b,_,_,_,rfl,rfl,hb,l0 lk,_,rfl,b,_,_,_,rfl,rfl,hb,l1 lk,r,rs,lk.1,lk.2.1,rfl,SqL.of (s4 _ _ hr3),by rw[rl3];exact lkin.1,by rw[rl3];exact lkin.2.1,by omega,fun H6 r6 s6 f6 hr6=>?_⟩
   exact⟨r6,_,_,_,rfl,(s3.trans s4).trans s6,hr6,by rw[zdx];exact rl3⟩
 ·rintro σ H3 ⟨r,rs,v3,v4,rfl,s3,hr3,rl3⟩
  exact⟨_,rfl,Q0 H3 r rs s3 hr3 rl3⟩
end
end K51
namespace K51
open PySem L2
section
variable {P:Program} {w:World} {K:W.Frag} {mg:Str→Option Value} {base:Heap} {aK C CN CT CP CM CG:Addr} {f fA fM fN fC:Addr} {fd dA' dM dN dC:FuncData}
theorem cutIs (ns:List Int) (lo hi:Option Int):∃ ms:List Int,zcn (ns.map V.int) lo hi=ms.map V.int∧ms.length≤ns.length∧∀ k∈ms,k∈ns:=by
 unfold zcn
 refine⟨_,by rw[←List.map_drop,←List.map_take],?_,fun l hl=>List.mem_of_mem_drop (List.mem_of_mem_take hl)⟩
 rw[List.length_take,List.length_drop]
 omega
def KO (m:Nat) (kvs:List (Key × V)):Prop:=∀ key∈kvs.map (·.1),∃ j:Int,key=Sum.inl j∧1≤j∧j≤(m:Int)∧∃ n:Int,zat kvs key=some (.int n)
theorem zjD {kvs:List (Key × V)} {k:Key} {v:V} {key:Key} (h:key∈(zaw kvs k v).map (·.1)):key=k∨key∈kvs.map (·.1):=by
 unfold zaw at h
 split at h
 ·rw[List.map_map]at h
  obtain⟨kv,h1,rfl⟩:=List.mem_map.mp h
  right
  refine List.mem_map.mpr ⟨kv,h1,?_⟩
  simp only[Function.comp]
  split <;> rfl
 ·rw[List.map_append]at h
  rcases List.mem_append.mp h with h | h
  ·exact .inr h
  ·simp only[List.map_cons,List.map_nil,List.mem_singleton]at h
   exact .inl h
theorem KO.put {m:Nat} {kvs:List (Key × V)} (h:KO m kvs) {j n:Int} (h1:1≤j) (h2:j≤(m:Int)):KO m (zaw kvs (Sum.inl j) (.int n)):=fun key hk=>by
 by_cases e:key=Sum.inl j
 ·exact⟨j,e,h1,h2,n,by rw[zb4,if_pos e]⟩
 ·rcases zjD hk with z | z
  ·exact absurd z e
  ·obtain⟨j',e',a1,a2,n',a3⟩:=h key z
   exact⟨j',e',a1,a2,n',by rw[zb4,if_neg e];exact a3⟩
def zhm (K:W.Frag) (C:Addr):Sp:=fun vs H Q _=>∃(p tl al rl:Addr) (T:List Tm) (As:List At) (Rs:List (List Int)) (c:Int),vs=[.ref p,.int c]∧PrD K C H p tl al rl T As Rs∧As.length≤200∧∀(H':Hp) (q:Addr) (ps:List Int),ao H H'→SqT K H' q (ps.map V.int)→(∀ k∈ps,PIn As.length k)→ps.length≤3 * As.length→Q (.ref q) H'
theorem zaG:zae ["_law_problem","_law_cell","_law_signs","_law_atom","_law_low","_law_roots","_law_high","_law_same"] ["_law_problem","_law_cell"] (ar zbW):=⟨rfl,rfl,rfl,by decide +kernel,rfl,by decide +kernel,by decide +kernel⟩
theorem zlt {i:Int} (h0:0≤i) (h1:i < 4):∃ n:Int,atI [V.int 1,V.int 1,V.int 2,V.int 0] i=some (.int n):=by
 have:i=0∨i=1∨i=2∨i=3:=by omega
 rcases this with rfl | rfl | rfl | rfl
 ·exact⟨1,rfl⟩
 ·exact⟨1,rfl⟩
 ·exact⟨2,rfl⟩
 ·exact⟨0,rfl⟩
set_option maxHeartbeats 4000000 in
theorem zkm (F:Fun K "_law_signs_by" "_law_signs_by" zbW f fd) (T:Txt K mg aK C CN CT CP CM) (mrange:mg "range"=none) (mtuple:mg "tuple"=none) (BC:FB P w K mg base CX0 3 "_law_closed" fC dC ["_law_problem","_law_parts"] (zf6 K C)):aH P w K mg base CX0 4 f fd ["_law_problem","_law_cell"] (zhm K C):=by
 refine F.ok zaG (fun vs H Q E h=>?_) (fun cdv A outer s H vs Q E hr h=>?_)
 ·obtain⟨p,tl,al,rl,T',As,Rs,c,rfl,_⟩:=h
  rfl
 obtain⟨p,tl,al,rl,T',As,Rs,c,rfl,S,a200,Q0⟩:=h
 have hu:=zeE hr
 refine⟨_,(af (ay (i:=2) zaG.nd rfl (Or.inr rfl) zc2)
  (af (zaE PassesOwn.never rfl (zjF rfl mrange (aa ae (aa (az zaX (zaa zab rfl T.len PySem.boot_len (aa (zaj (pv 0) rfl) ac)) ae) ac))) (zam (i:=3) zaG.nd rfl (Or.inl rfl))
   (af (zeq hu (pv 2) (pv 3) (aq zad (zas (aa ae (aa ae (aa ae (aa ae ac))))) (az zaA (pv 1) ae) (fun _ _=>rfl)) rfl)
    (ak (ay (i:=1) zaG.nd rfl (Or.inl rfl) (az zaI (pv 1) ae)))))
  (af (zk8 (zgJ (i:=4) (N':=["_law_atom","_law_signs"]) (ix:=[2]) zaG.nd rfl (Or.inl rfl) rfl rfl (by decide +kernel) (by decide +kernel) rfl (fun ok=>zb1 (sc:=ar zbW) ok rfl (by decide +kernel) (by decide +kernel)) (by decide +kernel) rfl rfl (fun j i h=>match j,h with | 0,h=>by cases h;exact⟨_,rfl,rfl,.inl rfl,.inl rfl⟩ | n+1,h=>by simp at h) (zh5 (pv 2)) (fun _ _ _ _=>(aw zaO (zer hu (pv 1) (pv 0) (fun _ _=>rfl)) ae (aF _))) (fun _ _ _ _=>(zcc zbB (pv 0)))))
  (af (ay (i:=5) zaG.nd rfl (Or.inl rfl) (ax BC.ok hr rfl BC.m BC.kp BC.b .nil aE (aa (pv 0) (aa (pv 4) ac))))
  (af (ay (i:=6) zaG.nd rfl (Or.inl rfl) (zas ac))
  (af (zaE PassesOwn.never rfl (zh5 (pv 2)) (zam (i:=3) zaG.nd rfl (Or.inl rfl))
   (af (ay (i:=7) zaG.nd rfl (Or.inl rfl) (aq zad (zaj (pv 0) rfl) (az zcs (pv 3) ae) (fun _ _=>rfl)))
    (ak (zal (PW.pt (zbS (aw zaO (zer hu (pv 2) (pv 3) (fun _ _=>rfl)) ae (aF _)) (zbM (PW.pt (zbZ (aw zaO (zer hu (pv 2) (pv 3) (fun _ _=>rfl)) ae (aF _)) (zbZ (aw zaO (aq au (pv 7) ae (fun _ _=>rfl)) zao (aF _)) (zcf (aw zaO (aq zad (pv 5) (aq au (pv 7) ae (fun _ _=>rfl)) (fun _ _=>rfl)) (aq zad (pv 5) (aq au (pv 7) ae (fun _ _=>rfl)) (fun _ _=>rfl)) (aF _)))))))))
     (ak (zaB (zcy PySem.F.plainAttrs_list PySem.F.slot_list_append PySem.F.type_list_append za5 (pv 6) (aa (pv 3) ac))))
     zaf))))
  (ak (aB (zaC za7 rfl mtuple PyProof.Rows.Boot.tuple (aa (az zek (az zek (zcF zh2 (pv 6) zc0 (zcZ ae)) (pv 4)) (zcF zh2 (pv 6) (zcZ ae) zc0)) ac)))))))))),?_⟩
 obtain⟨⟨dx,ho⟩,⟨ts,ht,hT⟩,⟨ys,ha,hA⟩,_⟩:=id S.pr
 have yl:ys.length=As.length:=by rw[←hA.length,List.length_map]
 refine fun d hd=>?_
 have s0:=ai hd (.dK [])
 have n0:=ad (H:=H) (a:=d) (o:=.dK [])
 generalize upd H d (.dK [])=H0 at s0 n0
 refine⟨_,rfl,p,C,dx,_,_,rfl,s0 _ _ ho,T.cl,T.nA,zaD _ _ _,al,_,rfl,.inl (SqL.of (s0 _ _ ha)),_,_,rfl,rfl,1,_,rfl,⟨by decide,by decide,by omega,by omega⟩,za6 (lo:=1) (n:=(((ys.length:Nat):Int)+1 - 1).toNat) (fun i σ H'=>∃(c':Int) (v3:Option V) (kvs:List (Key × V)),σ=[some (.ref p),some (.int c'),some (.ref d),v3,none,none,none,none]∧ao H H'∧H' d=some (.dK kvs)∧KO As.length kvs∧kvs.length≤i) ⟨c,none,[],rfl,s0,n0,(fun _ h=>nomatch h),Nat.le_refl _⟩ ?_ ?_⟩
 ·rintro i σ H1 hi ⟨c',v3,kvs,rfl,s1,hd1,ko,kl⟩
  have b4:=zbz c' (show(0:Int) < 4 by decide)
  obtain⟨n,hn⟩:=zlt b4.1 b4.2
  refine⟨lS4,fun l hl=>?_⟩
  have s2:=ai hl (.lst [.int 1,.int 1,.int 2,.int 0])
  have n2:=ad (H:=H1) (a:=l) (o:=.lst [.int 1,.int 1,.int 2,.int 0])
  generalize upd H1 l (.lst [.int 1,.int 1,.int 2,.int 0])=H2 at s2 n2
  have hd2:=s2 _ _ hd1
  refine⟨_,rfl,_,_,rfl,rfl,(by show(0:Int) < 4;decide),l,_,_,_,rfl,rfl,SqL.of n2,hn,_,rfl,_,rfl,d,_,rfl,zeB.k (k:=Sum.inl (1+((i:Nat):Int))) hd2 (zaY (by omega)),?_⟩
  refine⟨_,rfl,_,_,rfl,rfl,⟨by decide,by decide⟩,_,_,_,rfl,(s1.trans s2).upd hd,ad,ko.put (by omega) (by omega),?_⟩
  have:=zcw kvs (Sum.inl (1+((i:Nat):Int))) (.int n)
  omega
 rintro σ H1 ⟨c',v3,kvs,rfl,s1,hd1,ko,kl⟩
 have kl':kvs.length≤As.length:=by omega
 have key_at:∀ {i:Nat} {k:Key} {v:V},kvs[i]?=some (k,v)→∃ j n:Int,k=Sum.inl j∧1≤j∧j≤(As.length:Int)∧zat kvs k=some (.int n):=fun {i k v} e=>by
  obtain⟨j,e1,e2,e3,n,e4⟩:=ko k (List.mem_map.mpr ⟨_,List.mem_of_getElem? e,rfl⟩)
  exact⟨j,n,e1,e2,e3,e4⟩
 refine⟨_,rfl,d,kvs,rfl,hd1,fun o D hD=>zdd zhZ (fun i us H'=>H' d=some (.frz o (.dK kvs))∧(∀ b u,b≠d→H1 b=some u→H' b=some u)∧∃ ks:List Int,us=ks.map V.int∧(∀ k∈ks,PIn As.length k)∧ks.length≤i) (fun i us H' ⟨h,_⟩=>h) ?_ ?_ ?_⟩
 ·have nD:d≠D:=fun z=>by rw[←z,ad]at hD;cases hD
  refine⟨by rw[aj nD];exact ad,fun b u hb e=>?_,[],rfl,(fun _ h=>nomatch h),Nat.le_refl _⟩
  have nb:b≠D:=fun z=>by rw[←z,aj hb,e]at hD;cases hD
  rw[aj nb,aj hb]
  exact e
 ·rintro i us H8 x H2 hi hly hDs ⟨f2,g2,ks,rfl,pk,kl2⟩ ⟨rfl,k,v,hkv,rfl⟩
  obtain⟨j,n,rfl,j1,j2,hv⟩:=key_at hkv
  have nD:d≠D:=fun z=>by rw[←z,f2]at hDs;cases hDs
  refine⟨_,rfl,_,rfl,d,_,rfl,.inl ⟨kvs,Sum.inl j,.inr ⟨o,f2⟩,rfl,hv.symm⟩,rfl,_,rfl,zaq (fun _=>⟨_,rfl,_,rfl,zaQ (sz _ (by omega)) hi hly hDs ⟨by rw[aj nD];exact f2,fun b u hb e=>?_,ks++[-j],by rw[List.map_append];rfl,fun k hk=>?_,by rw[List.length_append,List.length_singleton];omega⟩⟩) (fun _=>zch hi hly hDs ⟨f2,g2,ks,rfl,pk,by omega⟩)⟩
  ·have nb:b≠D:=fun z=>by
    have hD':H1 D=none:=by rw[aj nD.symm]at hD;exact hD
    rw[z,hD']at e;cases e
   rw[aj nb]
   exact g2 b u hb e
  ·rcases List.mem_append.mp hk with h | h
   ·exact pk k h
   ·rw[List.mem_singleton.mp h]
    exact⟨by omega,by omega,by omega⟩
 rintro us H2 hDs ⟨f2,g2,ks,rfl,pk,kl2⟩
 have nD:D≠d:=fun z=>by rw[z,f2]at hDs;cases hDs
 refine⟨d,o,kvs,f2,(fun o u=>by show H d≠_;rw[hd];intro z;cases z),?_⟩
 have s3:ao H (upd H2 d (.dK kvs)):=fun b u e=>by
  have nb:b≠d:=fun z=>by rw[z,hd]at e;cases e
  rw[aj nb]
  exact g2 b u nb (s1 _ _ e)
 have hd3:=ad (H:=H2) (a:=d) (o:=.dK kvs)
 have hD3:upd H2 d (.dK kvs) D=some (.lst (ks.map V.int)):=by rw[aj nD];exact hDs
 generalize upd H2 d (.dK kvs)=H3 at s3 hd3 hD3
 refine⟨_,rfl,_,rfl,p,tl,al,rl,D,T',As,Rs,ks,rfl,S.same s3,.inl (SqL.of hD3),pk,fun H4 r rs s4 hr4 rl4=>?_⟩
 refine⟨lS0,fun l hl=>?_⟩
 have s5:=ai hl (.lst [])
 have n5:=ad (H:=H4) (a:=l) (o:=.lst [])
 generalize upd H4 l (.lst [])=H5 at s5 n5
 have s05:=(s3.trans s4).trans s5
 have lH:H l=none:=(s3.trans s4).free hl
 have hd5:=s5 _ _ (s4 _ _ hd3)
 have hr5:=s5 _ _ hr4
 have hD5:=s5 _ _ (s4 _ _ hD3)
 have nrl:r≠l:=zac hr4 hl
 have nDl:D≠l:=zac (s4 _ _ hD3) hl
 have ndl:d≠l:=zac (s4 _ _ hd3) hl
 have nrd:r≠d:=zax hr5 hd5 (by intro z;cases z)
 refine⟨_,rfl,d,kvs,rfl,hd5,fun o2=>zbx zhZ (fun i σ H'=>∃(v3 v7:Option V) (hs:List Int),σ=[some (.ref p),some (.int c'),some (.ref d),v3,some (.ref D),some (.ref r),some (.ref l),v7]∧ao H H'∧H' d=some (.frz o2 (.dK kvs))∧H' r=some (.lst (rs.map V.int))∧H' D=some (.lst (ks.map V.int))∧H' l=some (.lst (hs.map V.int))∧(∀ k∈hs,PIn As.length k)∧hs.length≤i) (fun i σ H' ⟨_,_,_,_,_,h,_⟩=>h) ⟨v3,none,[],rfl,s05.upd hd,ad,by rw[aj nrd];exact hr5,by rw[aj nD];exact hD5,by rw[aj ndl.symm];exact n5,(fun _ h=>nomatch h),Nat.le_refl _⟩ ?_ ?_⟩
 ·rintro i σ H9 x H6 hi ⟨v3',v7,hs,rfl,s6,f6,hr6,hD6,hl6,ph,hl'⟩ ⟨rfl,k,v,hkv,rfl⟩
  obtain⟨j,n,rfl,j1,j2,hv⟩:=key_at hkv
  have S6:=(S.same s6).pr
  obtain⟨⟨dx6,ho6⟩,_,⟨ys6,ha6,hA6⟩,_⟩:=id S6
  have yl6:ys6.length=As.length:=by rw[←hA6.length,List.length_map]
  obtain⟨x,x1,x2⟩:=zdH (xs:=ys6) (i:=j - 1) (by omega) (by omega)
  obtain⟨a,ea,hax⟩:=zft hA6 x1
  have am:=List.mem_of_getElem? ea
  have gd:zbv H6 d (.int j) (some (.int n)):=.inl ⟨kvs,Sum.inl j,.inr ⟨o2,f6⟩,rfl,hv.symm⟩
  refine⟨_,rfl,p,C,dx6,_,_,rfl,ho6,T.cl,T.nA,zaD _ _ _,_,rfl,_,_,rfl,rfl,al,_,_,_,rfl,rfl,SqL.of ha6,x2,?_⟩
  have ap:∀(Pv:St→Hp→Prop),(∀(hs':List Int) (H':Hp),ao H H'→H' d=some (.frz o2 (.dK kvs))→H' r=some (.lst (rs.map V.int))→H' D=some (.lst (ks.map V.int))→H' l=some (.lst (hs'.map V.int))→(∀ k∈hs',PIn As.length k)→hs'.length≤i+1→Pv [some (.ref p),some (.int c'),some (.ref d),some (.int j),some (.ref D),some (.ref r),some (.ref l),some x] H')→Pv [some (.ref p),some (.int c'),some (.ref d),some (.int j),some (.ref D),some (.ref r),some (.ref l),some x] (upd H6 l (.lst (hs.map V.int++[.int j]))):=fun Pv out=>by
   refine out (hs++[j]) _ (s6.upd lH) (by rw[aj ndl];exact f6) (by rw[aj nrl];exact hr6) (by rw[aj nDl];exact hD6) (by rw[ad,List.map_append];rfl) (fun k hk=>?_) (by rw[List.length_append,List.length_singleton];omega)
   rcases List.mem_append.mp hk with h | h
   ·exact ph k h
   ·rw[List.mem_singleton.mp h]
    exact⟨by omega,by omega,j2⟩
  refine⟨_,rfl,_,rfl,d,_,rfl,gd,rfl,_,rfl,zaq (fun _=>zaK ?_) (fun _=>?_)⟩
  ·exact⟨_,rfl,.inl ⟨rfl,_,SqL.of hl6⟩,_,rfl,l,_,_,rfl,rfl,hl6,zaY (by rw[List.length_map];omega),ap _ fun hs' H' a1 a2 a3 a4 a5 a6 a7=>⟨_,_,hs',rfl,a1,a2,a3,a4,a5,a6,a7⟩⟩
  refine⟨_,rfl,_,rfl,d,_,rfl,gd,rfl,_,rfl,zaq (fun _=>?_) (fun _=>aP ⟨_,_,hs,rfl,s6,f6,hr6,hD6,hl6,ph,by omega⟩)⟩
  cases a with
  | plain z =>
   obtain⟨qq,rfl,hqq⟩:=zd6 hax
   exact⟨_,rfl,qq,_,_,_,rfl,rfl,hqq,aA (j:=0) rfl,rfl,_,rfl,zaq (fun c=>absurd (of_decide_eq_true c) (by decide +kernel)) (fun c=>aP ⟨_,_,hs,rfl,s6,f6,hr6,hD6,hl6,ph,by omega⟩)⟩
  | same x y =>
   obtain⟨qq,rfl,hqq⟩:=zeM hax
   obtain⟨in1,in2⟩:=S.dm.am x y am
   rw[←rl4]at in1 in2
   have hrr:SqL K H6 r (rs.map V.int):=SqL.of hr6
   refine⟨_,rfl,qq,_,_,_,rfl,rfl,hqq,aA (j:=0) rfl,rfl,_,rfl,zaq (fun c=>⟨_,rfl,_,rfl,qq,_,_,_,rfl,rfl,hqq,aA (j:=1) rfl,r,_,_,_,rfl,rfl,hrr,za1 in1,_,rfl,_,rfl,qq,_,_,_,rfl,rfl,hqq,aA (j:=2) rfl,r,_,_,_,rfl,rfl,hrr,za1 in2,rfl,_,rfl,zaq (fun c3=>?_) (fun c3=>⟨_,_,hs,rfl,s6,f6,hr6,hD6,hl6,ph,by omega⟩)⟩) (fun c=>absurd (decide_eq_true rfl) c)⟩
   exact⟨_,rfl,.inl ⟨rfl,_,SqL.of hl6⟩,_,rfl,l,_,_,rfl,rfl,hl6,zaY (by rw[List.length_map];omega),ap _ fun hs' H' a1 a2 a3 a4 a5 a6 a7=>⟨_,_,hs',rfl,a1,a2,a3,a4,a5,a6,a7⟩⟩
 ·rintro σ H6 ⟨v3',v7,hs,rfl,s6,f6,hr6,hD6,hl6,ph,hl'⟩
  obtain⟨ms1,e1,l1',m1⟩:=cutIs hs none (some 1)
  obtain⟨ms2,e2,l2',m2⟩:=cutIs hs (some 1) none
  refine⟨_,rfl,_,rfl,l,_,rfl,SqL.of hl6,fun p1 hp1=>?_⟩
  rw[e1]
  have s7:=ai hp1 (.lst (ms1.map V.int))
  have n7:=ad (H:=H6) (a:=p1) (o:=.lst (ms1.map V.int))
  generalize upd H6 p1 (.lst (ms1.map V.int))=H7 at s7 n7
  refine⟨_,rfl,p1,D,_,_,rfl,rfl,n7,s7 _ _ hD6,sz _ (by rw[List.length_map,List.length_map];omega),fun p2 hp2=>?_⟩
  have s8:=s7.trans (ai hp2 (.lst (ms1.map V.int++ks.map V.int)))
  have n8:=ad (H:=H7) (a:=p2) (o:=.lst (ms1.map V.int++ks.map V.int))
  generalize upd H7 p2 (.lst (ms1.map V.int++ks.map V.int))=H8 at s8 n8
  refine⟨_,rfl,_,rfl,l,_,rfl,SqL.of (s8 _ _ hl6),fun p3 hp3=>?_⟩
  rw[e2]
  have s9:=ai hp3 (.lst (ms2.map V.int))
  have n9:=ad (H:=H8) (a:=p3) (o:=.lst (ms2.map V.int))
  generalize upd H8 p3 (.lst (ms2.map V.int))=H9 at s9 n9
  refine⟨p2,p3,_,_,rfl,rfl,s9 _ _ n8,n9,sz _ (by rw[List.length_append,List.length_map,List.length_map,List.length_map];omega),fun p4 hp4=>?_⟩
  have s10:=ai hp4 (.lst (ms1.map V.int++ks.map V.int++ms2.map V.int))
  have n10:=ad (H:=H9) (a:=p4) (o:=.lst (ms1.map V.int++ks.map V.int++ms2.map V.int))
  generalize upd H9 p4 (.lst (ms1.map V.int++ks.map V.int++ms2.map V.int))=H10 at s10 n10
  refine⟨p4,_,rfl,.inl ⟨SqL.of n10,fun t ht=>?_⟩⟩
  refine Q0 _ t (ms1++ks++ms2) (((s6.trans s8).trans (s9.trans s10)).trans (ai ht _)) (by rw[List.map_append,List.map_append];exact SqT.of ad) (fun k hk=>?_) (by rw[List.length_append,List.length_append];omega)
  rcases List.mem_append.mp hk with h | h
  ·rcases List.mem_append.mp h with h | h
   ·exact ph _ (m1 _ h)
   ·exact pk _ h
  ·exact ph _ (m2 _ h)
end
end K51
namespace K51
open PySem L2
section
variable {P:Program} {w:World} {K:W.Frag} {mg:Str→Option Value} {base:Heap} {aK C CN CT CP CM:Addr}
theorem InR.mono {n m:Nat} {x:Int} (h:InR n x) (l:n≤m):InR m x:=⟨h.1,by have:=h.2;omega⟩
theorem Dom.snocT {T:List Tm} {As:List At} (D:Dom T As) {z:Str} {ps:List Int} (h:∀ i∈ps,InR T.length i):Dom (T++[(z,ps)]) As:=by
 have l:T.length≤(T++[(z,ps)]).length:=by rw[List.length_append];omega
 refine⟨fun t ht q hq=>?_,fun x y hx=>⟨(D.am x y hx).1.mono l,(D.am x y hx).2.mono l⟩⟩
 rcases List.mem_append.mp ht with h' | h'
 ·exact(D.tm t h' q hq).mono l
 ·rw[List.mem_singleton.mp h']at hq
  exact(h q hq).mono l
theorem Dom.snocA {T:List Tm} {As:List At} (D:Dom T As) {a:At} (h:∀ x y,a=.same x y→InR T.length x∧InR T.length y):Dom T (As++[a]):=by
 refine⟨D.tm,fun x y hx=>?_⟩
 rcases List.mem_append.mp hx with h' | h'
 ·exact D.am x y h'
 ·exact h x y (List.mem_singleton.mp h').symm
theorem dom0:Dom [] []:=⟨fun _ h=>(nomatch h),fun _ _ h=>(nomatch h)⟩
theorem zf3 {H:Hp} {p tl al rl q:Addr} {T:List Tm} {As:List At} {Rs:List (List Int)} {z:Str} {ps:List Int} {Q:VK} {E:XK} (S:PrD K C H p tl al rl T As Rs) (hq:SqI K H q ps) (hz:zbG z=true) (hlow:Low z) (h3:ps.length≤3) (hp:∀ i∈ps,InR T.length i) (hl:T.length < 60)
  (out:∀(H':Hp) (more:List Tm) (k:Nat),PrD K C H' p tl al rl (T++more) As Rs→Fr1 H H' tl→more.length≤1→k < (T++more).length→((z,ps)∉T→more=[(z,ps)])→Q (.int (k:Nat)) H'):zg1 K C CN CT CM [.ref p,.str z,.ref q] H Q E:=by
 refine⟨p,tl,al,rl,q,T,As,Rs,z,ps,rfl,⟨S.pr,hq,hlow,by omega,fun i hi=>?_,by omega⟩,?_⟩
 ·have:=hp i hi;have h1:=this.1;have h2:=this.2;omega
 have hb:bad T ps=false:=zgv h3 fun i k hk=>by have:=hp k (List.mem_of_getElem? hk);have h1:=this.1;have h2:=this.2;omega
 by_cases hm:(z,ps)∈T
 ·have e:zcL T (zbG z) (z,ps)=(.num (T.idxOf (z,ps)),T):=by
   unfold zcL
   rw[if_neg (by rw[hz];decide),if_neg (by show ¬bad T ps=true;rw[hb];decide),if_pos hm]
  rw[e]
  intro H' pr f
  refine out H' [] _ ⟨by rw[List.append_nil];exact pr,by rw[List.append_nil];exact S.dm,by rw[List.append_nil];exact S.t3,by rw[List.append_nil];exact S.tN⟩ f (Nat.zero_le _) ?_ (fun h=>absurd hm h)
  rw[List.append_nil]
  exact List.idxOf_lt_length_of_mem hm
 ·have e:zcL T (zbG z) (z,ps)=(.num T.length,T++[(z,ps)]):=by
   unfold zcL
   rw[if_neg (by rw[hz];decide),if_neg (by show ¬bad T ps=true;rw[hb];decide),if_neg hm,if_neg (by omega)]
  rw[e]
  intro H' pr f
  refine out H' [(z,ps)] _ ⟨pr,S.dm.snocT hp,fun t ht=>?_,by rw[List.length_append,List.length_singleton];omega⟩ f (Nat.le_refl _) (by rw[List.length_append,List.length_singleton];omega) (fun _=>rfl)
  rcases List.mem_append.mp ht with h' | h'
  ·exact S.t3 t h'
  ·rw[List.mem_singleton.mp h']
   show ps.length≤3
   omega
theorem zeN {H:Hp} {p tl al rl:Addr} {T:List Tm} {As:List At} {Rs:List (List Int)} {z:Str} {Q:VK} {E:XK} (S:PrD K C H p tl al rl T As Rs) (hz:zbG z=true) (hlow:Low z) (hl:As.length < 40)
  (out:∀(H':Hp) (more:List At) (k:Nat),PrD K C H' p tl al rl T (As++more) Rs→Fr2 H H' al rl→more.length≤1→1≤(As++more).length→Q (.int (k:Nat)) H'):zfk K C CN CT CP CM [.ref p,.str z] H Q E:=by
 refine⟨p,tl,al,rl,T,As,Rs,z,rfl,S.pr,hlow,by omega,?_⟩
 by_cases hm:At.plain z∈As
 ·have e:zcW As z=(.num (As.idxOf (.plain z)+1),As):=by
   unfold zcW
   rw[if_neg (by rw[hz];decide),if_pos hm]
  rw[e]
  intro H' pr f
  exact out H' [] _ ⟨by rw[List.append_nil];exact pr,by rw[List.append_nil];exact S.dm,S.t3,S.tN⟩ f (Nat.zero_le _) (by rw[List.append_nil];exact List.length_pos_of_mem hm)
 ·have e:zcW As z=(.num (As.length+1),As++[.plain z]):=by
   unfold zcW
   rw[if_neg (by rw[hz];decide),if_neg hm,if_neg (by omega)]
  rw[e]
  intro H' pr f
  exact out H' [.plain z] _ ⟨pr,S.dm.snocA (fun x y h=>nomatch h),S.t3,S.tN⟩ f (Nat.le_refl _) (by rw[List.length_append,List.length_singleton];omega)
theorem zfu {H:Hp} {p tl al rl:Addr} {T:List Tm} {As:List At} {Rs:List (List Int)} {a b:Int} {Q:VK} {E:XK} (S:PrD K C H p tl al rl T As Rs) (ha:InR T.length a) (hb:InR T.length b) (hl:As.length < 40)
  (out:∀(H':Hp) (more:List At) (k:Nat),PrD K C H' p tl al rl T (As++more) Rs→Fr2 H H' al rl→more.length≤1→1≤(As++more).length→Q (.int (k:Nat)) H'):zfY K C CN CT CP CM [.ref p,.int a,.int b] H Q E:=by
 have tN:=S.tN
 obtain⟨a0,a1⟩:=id ha
 obtain⟨b0,b1⟩:=id hb
 refine⟨p,tl,al,rl,T,As,Rs,a,b,rfl,S.pr,⟨by omega,by omega⟩,⟨by omega,by omega⟩,by omega,?_⟩
 by_cases hm:At.same b a∈As
 ·have e:zbo T.length As a b=(.num (As.idxOf (.same b a)+1),As):=by
   unfold zbo
   rw[if_neg (by omega),if_pos hm]
  rw[e]
  intro H' pr f
  exact out H' [] _ ⟨by rw[List.append_nil];exact pr,by rw[List.append_nil];exact S.dm,S.t3,S.tN⟩ f (Nat.zero_le _) (by rw[List.append_nil];exact List.length_pos_of_mem hm)
 by_cases hm2:At.same a b∈As
 ·have e:zbo T.length As a b=(.num (As.idxOf (.same a b)+1),As):=by
   unfold zbo
   rw[if_neg (by omega),if_neg hm,if_pos hm2]
  rw[e]
  intro H' pr f
  exact out H' [] _ ⟨by rw[List.append_nil];exact pr,by rw[List.append_nil];exact S.dm,S.t3,S.tN⟩ f (Nat.zero_le _) (by rw[List.append_nil];exact List.length_pos_of_mem hm2)
 ·have e:zbo T.length As a b=(.num (As.length+1),As++[.same a b]):=by
   unfold zbo
   rw[if_neg (by omega),if_neg hm,if_neg hm2,if_neg (by omega)]
  rw[e]
  intro H' pr f
  exact out H' [.same a b] _ ⟨pr,S.dm.snocA (fun x y h=>by cases h;exact⟨ha,hb⟩),S.t3,S.tN⟩ f (Nat.le_refl _) (by rw[List.length_append,List.length_singleton];omega)
theorem Fr1.after {H H1 H':Hp} {z:Addr} (f:Fr1 H1 H' z) (s:ao H H1):Fr1 H H' z:=fun b o e n=>f b o (s b o e) n
theorem Fr1.fresh {H H1 H':Hp} {z:Addr} (f:Fr1 H1 H' z) (s:ao H H1) (h:H z=none):ao H H':=fun b o e=>f b o (s b o e) (zac e h)
theorem Fr2.fresh {H H1 H':Hp} {z y:Addr} (f:Fr2 H1 H' z y) (s:ao H H1) (h:H z=none) (h':H y=none):ao H H':=fun b o e=>f b o (s b o e) (zac e h) (zac e h')
theorem madeD {H H1:Hp} {x dx tl al rl:Addr} (hx:H x=none) (hdx:H dx=none) (hne:dx≠x) (h1:(upd (upd H dx (.own x)) x (.ins C dx [])) tl=none) (h2:(upd (upd H dx (.own x)) x (.ins C dx [])) al=none)
  (h3:(upd (upd H dx (.own x)) x (.ins C dx [])) rl=none) (na:al≠tl) (nr:rl≠tl) (nx:rl≠al) (k1:H1 x=some (.ins C dx (zcC tl al rl))) (k2:H1 tl=some (.lst [])) (k3:H1 al=some (.lst [])) (k4:H1 rl=some (.lst []))
  (k5:∀ b o,(upd (upd H dx (.own x)) x (.ins C dx [])) b=some o→b≠x→H1 b=some o):PrD K C H1 x tl al rl [] [] []∧ao H H1∧H tl=none∧H al=none∧H rl=none:=by
 obtain⟨pr1,s1,ft,fa,fr⟩:=made (K:=K) hx hdx hne h1 h2 h3 na nr nx k1 k2 k3 k4 k5
 exact⟨⟨pr1,dom0,fun _ h=>(nomatch h),by show 0≤100;decide⟩,s1,ft,fa,fr⟩
def zdL (K:W.Frag):Sp:=fun vs H Q _=>∃(a:Addr) (ns:List Int) (k:Int),vs=[.ref a,.int k]∧SqL K H a (ns.map V.int)∧ns.length≤1000∧0≤k∧k≤1000∧∀ i:Int,Q (.int i) H
abbrev zey:Stmt:=sCell
theorem zge:zae ["_law_script","_law_k"] ["_law_script","_law_k"] (ar zey):=⟨rfl,rfl,rfl,by decide +kernel,rfl,by decide +kernel,by decide +kernel⟩
theorem zkt {f:Addr} {fd:FuncData} (F:Fun K "_law_cell_at" "_law_cell_at" zey f fd) (T:Txt K mg aK C CN CT CP CM):aH P w K mg base CX0 1 f fd ["_law_script","_law_k"] (zdL K):=by
 refine F.ok zge (fun vs H Q E h=>?_) (fun cdv A outer s H vs Q E hr h=>?_)
 ·obtain⟨a,ns,k,rfl,_⟩:=h
  rfl
 obtain⟨a,ns,k,rfl,hS,n1000,k0,k1,q⟩:=h
 refine⟨_,(af (zal (aw zaO (zaa zab rfl T.len PySem.boot_len (aa (pv 0) ac)) ae (aF _))
   (ak (aB (pv 1)))
   zaf)
  (ak (aB (az zaX (aq zad (pv 0) (az zaA (pv 1) (zaa zab rfl T.len PySem.boot_len (aa (pv 0) ac))) (fun _ _=>rfl)) (az op_mul ae (az zaI (pv 1) (zaa zab rfl T.len PySem.boot_len (aa (pv 0) ac)))))))),?_⟩
 refine⟨_,rfl,a,_,rfl,.inl hS,rfl,_,rfl,zaq (fun c=>⟨_,rfl,q k⟩) (fun c=>?_)⟩
 have c':(0:Int) < (((ns.map V.int).length:Nat):Int):=by
  have:¬(((ns.map V.int).length:Nat):Int)=0:=fun z=>c (by rw[z];exact decide_eq_true rfl)
  omega
 have m:=zbz k c'
 have sm:(((ns.map V.int).length:Nat):Int) < 1073741824:=by rw[List.length_map];omega
 have il:InR ns.length (k % (((ns.map V.int).length:Nat):Int)):=by rw[List.length_map]at m ⊢;exact m
 refine⟨_,rfl,_,rfl,_,rfl,a,_,rfl,.inl hS,_,_,rfl,rfl,c',a,_,_,_,rfl,rfl,hS,za1 il,_,rfl,_,rfl,a,_,rfl,.inl hS,_,_,rfl,rfl,⟨c',sm⟩,_,_,rfl,rfl,.inl ⟨by decide,by decide⟩,_,_,rfl,rfl,q _⟩
end
end K51
namespace K51
open PySem L2
section
variable {P:Program} {w:World} {K:W.Frag} {mg:Str→Option Value} {base:Heap} {aK C CN CT CP CM:Addr} {f fM fC fT fO fW:Addr} {fd dM dC dT' dO dW:FuncData}
variable {fI fA fQ fS:Addr} {dI dA' dQ dS:FuncData}
def zfX (z:Str):Prop:=zbG z=true∧Low z
def nm4 (r:Int):Str:=if r=0 then "a" else if r=1 then "b" else if r=2 then "abc" else "abd"
theorem zjb {i:Int} (h0:0≤i) (h1:i < 4):atI [V.str "a",V.str "b",V.str "abc",V.str "abd"] i=some (.str (nm4 i))∧zfX (nm4 i):=by
 have:i=0∨i=1∨i=2∨i=3:=by omega
 rcases this with rfl | rfl | rfl | rfl
 ·exact⟨rfl,by decide +kernel,by decide +kernel,by decide +kernel⟩
 ·exact⟨rfl,by decide +kernel,by decide +kernel,by decide +kernel⟩
 ·exact⟨rfl,by decide +kernel,by decide +kernel,by decide +kernel⟩
 ·exact⟨rfl,by decide +kernel,by decide +kernel,by decide +kernel⟩
theorem zlj {i j:Int} (h0:0≤i) (h1:i < 4) (h2:0≤j) (h3:j < 4) (e:nm4 i=nm4 j):i=j:=by
 have hi:i=0∨i=1∨i=2∨i=3:=by omega
 have hj:j=0∨j=1∨j=2∨j=3:=by omega
 rcases hi with rfl | rfl | rfl | rfl <;> rcases hj with rfl | rfl | rfl | rfl <;> first | rfl | exact absurd e (by decide +kernel)
theorem ff_at {i:Int} (h0:0≤i) (h1:i < 4):∃ z,atI [V.str "f",V.str "f",V.str "ffa",V.str "ffb"] i=some (.str z)∧zfX z:=by
 have:i=0∨i=1∨i=2∨i=3:=by omega
 rcases this with rfl | rfl | rfl | rfl
 ·exact⟨_,rfl,by decide +kernel,by decide +kernel,by decide +kernel⟩
 ·exact⟨_,rfl,by decide +kernel,by decide +kernel,by decide +kernel⟩
 ·exact⟨_,rfl,by decide +kernel,by decide +kernel,by decide +kernel⟩
 ·exact⟨_,rfl,by decide +kernel,by decide +kernel,by decide +kernel⟩
theorem f2_at {i:Int} (h0:0≤i) (h1:i < 2):∃ z,atI [V.str "f",V.str "ffa"] i=some (.str z)∧zfX z:=by
 have:i=0∨i=1:=by omega
 rcases this with rfl | rfl
 ·exact⟨_,rfl,by decide +kernel,by decide +kernel,by decide +kernel⟩
 ·exact⟨_,rfl,by decide +kernel,by decide +kernel,by decide +kernel⟩
theorem pq_at {i:Int} (h0:0≤i) (h1:i < 3):∃ z,atI [V.str "p",V.str "q",V.str "a"] i=some (.str z)∧zfX z:=by
 have:i=0∨i=1∨i=2:=by omega
 rcases this with rfl | rfl | rfl
 ·exact⟨_,rfl,by decide +kernel,by decide +kernel,by decide +kernel⟩
 ·exact⟨_,rfl,by decide +kernel,by decide +kernel,by decide +kernel⟩
 ·exact⟨_,rfl,by decide +kernel,by decide +kernel,by decide +kernel⟩
theorem zlv {i:Int} (h0:0≤i) (h1:i < 5):∃ n:Int,atI [V.int 1,V.int 1,V.int 1,V.int 2,V.int 3] i=some (.int n)∧(n=1∨n=2∨n=3):=by
 have:i=0∨i=1∨i=2∨i=3∨i=4:=by omega
 rcases this with rfl | rfl | rfl | rfl | rfl
 ·exact⟨1,rfl,.inl rfl⟩
 ·exact⟨1,rfl,.inl rfl⟩
 ·exact⟨1,rfl,.inl rfl⟩
 ·exact⟨2,rfl,.inr (.inl rfl)⟩
 ·exact⟨3,rfl,.inr (.inr rfl)⟩
def zgE (K:W.Frag) (C:Addr):Sp:=fun vs H Q _=>∃(p tl al rl:Addr) (T:List Tm) (As:List At) (Rs:List (List Int)) (c:Int),vs=[.ref p,.int c]∧PrD K C H p tl al rl T As Rs∧T.length < 60∧∀(H':Hp) (more:List Tm) (k:Nat),PrD K C H' p tl al rl (T++more) As Rs→Fr1 H H' tl→more.length≤1→1≤(T++more).length→Q (.int (k:Nat)) H'
theorem zbU:zae ["_law_problem","_law_cell","_law_many","_law_rest","_law_parts"] ["_law_problem","_law_cell"] (ar zc5):=⟨rfl,rfl,rfl,by decide +kernel,rfl,by decide +kernel,by decide +kernel⟩
set_option maxHeartbeats 2000000 in
theorem zjH (F:Fun K "_law_term_by" "_law_term_by" zc5 f fd) (T:Txt K mg aK C CN CT CP CM) (G:Own P w K mg base C CN CT CP CM fI fA fQ fS dI dA' dQ dS):aH P w K mg base CX0 5 f fd ["_law_problem","_law_cell"] (zgE K C):=by
 refine F.ok zbU (fun vs H Q E h=>?_) (fun cdv A outer s H vs Q E hr h=>?_)
 ·obtain⟨p,tl,al,rl,T',As,Rs,c,rfl,_⟩:=h
  rfl
 obtain⟨p,tl,al,rl,T',As,Rs,c,rfl,S,t60,q⟩:=h
 refine⟨_,(af (ay (i:=2) zbU.nd rfl (Or.inl rfl) (zaa zab rfl T.len PySem.boot_len (aa (zaj (pv 0) rfl) ac)))
  (af (zal (PW.pt (zbS (aw zeC (pv 2) ae (aF _)) (zbM (aw zaO (az zaA (pv 1) ae) ae (aF _)))))
   (ak (aB (zay (pv 0) T.cl G.mA G.A hr G.bA .nil zcz (aa (aq zad (zas (aa zao (aa zao (aa zao (aa zao ac))))) (az zaA (az zaI (pv 1) ae) ae) (fun _ _=>rfl)) (aa (zaR ac) ac)))))
   zaf)
  (af (ay (i:=3) zbU.nd rfl (Or.inl rfl) (az zaI (pv 1) ae))
  (af (ay (i:=4) zbU.nd rfl (Or.inl rfl) (zaR (aa (az zaA (pv 3) (pv 2)) (aa (az zaA (az zaI (pv 3) (pv 2)) (pv 2)) (aa (az zaA (az zaI (az zaI (pv 3) (pv 2)) (pv 2)) (pv 2)) ac)))))
  (ak (aB (zay (pv 0) T.cl G.mA G.A hr G.bA .nil zcz (aa (aq zad (zas (aa zao (aa zao (aa zao (aa zao ac))))) (az zaA (az zaI (pv 1) ae) ae) (fun _ _=>rfl)) (aa (zcF zfl (pv 4) zc0 (zcZ (aq zad (zas (aa ae (aa ae (aa ae (aa ae (aa ae ac)))))) (az zaA (az zaI (pv 1) ae) ae) (fun _ _=>rfl)))) ac))))))))),?_⟩
 obtain⟨⟨dx,ho⟩,⟨ts,ht,hT⟩,_⟩:=id S.pr
 have tl':ts.length=T'.length:=by rw[←hT.length,List.length_map]
 have b4:=zbz (c / 5) (show(0:Int) < 4 by decide)
 have b5:=zbz (c / 20) (show(0:Int) < 5 by decide)
 refine⟨_,rfl,p,C,dx,_,_,rfl,ho,T.cl,T.nT,zan _ _ _,tl,_,rfl,.inl (SqL.of ht),?_⟩
 refine⟨_,rfl,_,_,rfl,rfl,_,rfl,zaq (fun c1=>zaK ?_) (fun c1=>⟨_,rfl,_,_,rfl,rfl,(by show(0:Int) < 5;decide),rfl,_,rfl,zaq (fun c2=>?_) (fun c2=>?_)⟩)⟩
 rotate_left 2
 ·have c1':¬((ts.length:Nat):Int) < 2:=fun z=>c1 (decide_eq_true z)
  have mpos:(0:Int) < ((ts.length:Nat):Int):=by omega
  have msm:((ts.length:Nat):Int) < 1073741824:=by omega
  have m1:=zbz (c / 100) mpos
  have m2:=zbz (c / 100 / ((ts.length:Nat):Int)) mpos
  have m3:=zbz (c / 100 / ((ts.length:Nat):Int) / ((ts.length:Nat):Int)) mpos
  rw[tl']at m1 m2 m3
  obtain⟨z,hz,g1,g2⟩:=ff_at b4.1 b4.2
  obtain⟨n,hn,n3⟩:=zlv b5.1 b5.2
  refine⟨_,rfl,_,_,rfl,rfl,⟨by decide,by decide⟩,?_⟩
  refine⟨_,rfl,_,rfl,_,_,rfl,rfl,mpos,_,rfl,_,rfl,_,_,rfl,rfl,⟨mpos,msm⟩,_,rfl,_,_,rfl,rfl,mpos,_,rfl,_,rfl,_,_,rfl,rfl,⟨mpos,msm⟩,_,rfl,_,_,rfl,rfl,⟨mpos,msm⟩,_,rfl,_,_,rfl,rfl,mpos,lS3,fun b hb=>?_⟩
  rw[tl']
  dsimp only
  have s1:=ai hb (.tup [.int (c / 100 % ((T'.length:Nat):Int)),.int (c / 100 / ((T'.length:Nat):Int) % ((T'.length:Nat):Int)),.int (c / 100 / ((T'.length:Nat):Int) / ((T'.length:Nat):Int) % ((T'.length:Nat):Int))])
  have n1:=ad (H:=H) (a:=b) (o:=.tup [.int (c / 100 % ((T'.length:Nat):Int)),.int (c / 100 / ((T'.length:Nat):Int) % ((T'.length:Nat):Int)),.int (c / 100 / ((T'.length:Nat):Int) / ((T'.length:Nat):Int) % ((T'.length:Nat):Int))])
  generalize c / 100 % ((T'.length:Nat):Int)=x1 at m1 s1 n1 ⊢
  generalize c / 100 / ((T'.length:Nat):Int) % ((T'.length:Nat):Int)=x2 at m2 s1 n1 ⊢
  generalize c / 100 / ((T'.length:Nat):Int) / ((T'.length:Nat):Int) % ((T'.length:Nat):Int)=x3 at m3 s1 n1 ⊢
  generalize upd H b (.tup [.int x1,.int x2,.int x3])=H1 at s1 n1 ⊢
  refine⟨_,rfl,p,dx,_,rfl,s1 _ _ ho,zdb _ _ _,lS4,fun l hl=>?_⟩
  have s2:=s1.trans (ai hl (.lst [V.str "f",V.str "f",V.str "ffa",V.str "ffb"]))
  have k2:=ai hl (.lst [V.str "f",V.str "f",V.str "ffa",V.str "ffb"]) _ _ n1
  have n2:=ad (H:=H1) (a:=l) (o:=.lst [V.str "f",V.str "f",V.str "ffa",V.str "ffb"])
  generalize upd H1 l (.lst [V.str "f",V.str "f",V.str "ffa",V.str "ffb"])=H2 at s2 k2 n2
  refine⟨_,rfl,_,_,rfl,rfl,⟨by decide,by decide⟩,_,_,rfl,rfl,(by show(0:Int) < 4;decide),l,_,_,_,rfl,rfl,SqL.of n2,hz,_,rfl,(by show 5≤sizeLine;decide),fun e he=>?_⟩
  have s3:=s2.trans (ai he (.lst [V.int 1,V.int 1,V.int 1,V.int 2,V.int 3]))
  have k3:=ai he (.lst [V.int 1,V.int 1,V.int 1,V.int 2,V.int 3]) _ _ k2
  have n3':=ad (H:=H2) (a:=e) (o:=.lst [V.int 1,V.int 1,V.int 1,V.int 2,V.int 3])
  generalize upd H2 e (.lst [V.int 1,V.int 1,V.int 1,V.int 2,V.int 3])=H3 at s3 k3 n3'
  refine⟨_,rfl,_,_,rfl,rfl,⟨by decide,by decide⟩,_,_,rfl,rfl,(by show(0:Int) < 5;decide),e,_,_,_,rfl,rfl,SqL.of n3',hn,_,rfl,?_⟩
  have fin:∀(H4:Hp) (d:Addr) (ps:List Int),ao H H4→SqT K H4 d (ps.map V.int)→ps.length≤3→(∀ i∈ps,InR T'.length i)→zg1 K C CN CT CM [.ref p,.str z,.ref d] H4 Q E0:=fun H4 d ps s4 hd l3 hps =>
   zf3 (S.same s4) (.inr hd) g1 g2 l3 hps t60 (fun H' more k pr f m1 kl _=>q H' more k pr (f.after s4) m1 (by omega))
  rcases n3 with rfl | rfl | rfl
  ·exact .inl ⟨b,_,rfl,SqT.of k3,(by show ¬(0=0∧(1:Nat)=3);rintro ⟨_,z⟩;exact absurd z (by decide)),fun d hd=>fin _ d [x1] (s3.trans (ai hd _)) (SqT.of ad) (by show 1≤3;decide) (fun i hi=>by rw[List.mem_singleton.mp hi];exact m1)⟩
  ·exact .inl ⟨b,_,rfl,SqT.of k3,(by show ¬(0=0∧(2:Nat)=3);rintro ⟨_,z⟩;exact absurd z (by decide)),fun d hd=>fin _ d [x1,x2] (s3.trans (ai hd _)) (SqT.of ad) (by show 2≤3;decide) (fun i hi=>by
    simp only[List.mem_cons,List.not_mem_nil,or_false]at hi
    rcases hi with rfl | rfl
    ·exact m1
    ·exact m2)⟩
  ·exact .inr ⟨b,_,rfl,SqT.of k3,(by show(0=0∧(3:Nat)=3);exact⟨rfl,rfl⟩),fin _ b [x1,x2,x3] s3 (SqT.of k3) (by show 3≤3;decide) (fun i hi=>by
    simp only[List.mem_cons,List.not_mem_nil,or_false]at hi
    rcases hi with rfl | rfl | rfl
    ·exact m1
    ·exact m2
    ·exact m3)⟩
 all_goals
  obtain⟨hz,g1,g2⟩:=zjb b4.1 b4.2
  refine⟨_,rfl,p,dx,_,rfl,ho,zdb _ _ _,lS4,fun l hl=>?_⟩
  have s1:=ai hl (.lst [V.str "a",V.str "b",V.str "abc",V.str "abd"])
  have n1:=ad (H:=H) (a:=l) (o:=.lst [V.str "a",V.str "b",V.str "abc",V.str "abd"])
  generalize upd H l (.lst [V.str "a",V.str "b",V.str "abc",V.str "abd"])=H1 at s1 n1
  refine⟨_,rfl,_,_,rfl,rfl,⟨by decide,by decide⟩,_,_,rfl,rfl,(by show(0:Int) < 4;decide),l,_,_,_,rfl,rfl,SqL.of n1,hz,lS0,fun e he=>?_⟩
  have s2:=s1.trans (ai he (.tup []))
  exact zf3 (S.same s2) (.inr (SqT.of ad)) g1 g2 (ps:=[]) (by show 0≤3;decide) (fun _ h=>nomatch h) t60 (fun H' more k pr f m1 kl _=>q H' more k pr (f.after s2) m1 (by omega))
def zho (K:W.Frag) (C:Addr):Sp:=fun vs H Q _=>∃(p tl al rl:Addr) (T:List Tm) (As:List At) (Rs:List (List Int)) (a c:Int),vs=[.ref p,.int a,.int c]∧PrD K C H p tl al rl T As Rs∧InR T.length a∧∀(H':Hp) (k:Int),ao H H'→InR T.length k→Q (.int k) H'
theorem zcG:zae ["_law_problem","_law_one","_law_cell","_law_many","_law_kin"] ["_law_problem","_law_one","_law_cell"] (ar zbX):=⟨rfl,rfl,rfl,by decide +kernel,rfl,by decide +kernel,by decide +kernel⟩
theorem zh0 {H:Hp} {T:List Tm} {xs:List V} {a:Int} (hT:ah K H (T.map dT) xs) (h:InR T.length a):∃ q z r,atI xs a=some (.ref q)∧SqT K H q [.str z,.ref r]:=by
 have xl:xs.length=T.length:=by rw[←hT.length,List.length_map]
 obtain⟨x,x1,x2⟩:=zdH (xs:=xs) (i:=a) h.1 (by rw[xl];exact h.2)
 obtain⟨t,qa,ra,ta,rfl,ha,hra⟩:=zgx hT x1
 exact⟨qa,t.1,ra,x2,ha⟩
set_option maxHeartbeats 2000000 in
theorem zkp (F:Fun K "_law_other_by" "_law_other_by" zbX f fd) (T:Txt K mg aK C CN CT CP CM) (mrange:mg "range"=none):aH P w K mg base CX0 1 f fd ["_law_problem","_law_one","_law_cell"] (zho K C):=by
 refine F.ok zcG (fun vs H Q E h=>?_) (fun cdv A outer s H vs Q E hr h=>?_)
 ·obtain⟨p,tl,al,rl,T',As,Rs,a,c,rfl,_⟩:=h
  rfl
 obtain⟨p,tl,al,rl,T',As,Rs,a,c,rfl,S,ain,q⟩:=h
 have hu:=zfH hr
 refine⟨_,(af (ay (i:=3) zcG.nd rfl (Or.inl rfl) (zaa zab rfl T.len PySem.boot_len (aa (zaj (pv 0) rfl) ac)))
  (af (zgJ (i:=4) (N':=["_law_k","_law_one","_law_problem"]) (ix:=[1,0]) zcG.nd rfl (Or.inl rfl) rfl rfl (by decide +kernel) (by decide +kernel) rfl (fun ok=>zb1 (sc:=ar zbX) ok rfl (by decide +kernel) (by decide +kernel)) (by decide +kernel) rfl rfl (fun j i h=>match j,h with | 0,h=>by cases h;exact⟨_,rfl,rfl,.inl rfl,.inl rfl⟩ | 1,h=>by cases h;exact⟨_,rfl,rfl,.inl rfl,.inl rfl⟩ | n+2,h=>by simp at h) (zaZ rfl mrange (aa (pv 3) ac)) (fun _ _ _ _=>(PW.pt (zbZ (aw zaO (aq (r:=zdD K) au (aq (r:=zez K) zad (zh7 K rfl (pv 2) rfl) (pv 0) (fun _ _=>rfl)) ae (fun _ _=>rfl)) (aq (r:=zdD K) au (aq (r:=zez K) zad (zh7 K rfl (pv 2) rfl) (pv 1) (fun _ _=>rfl)) ae (fun _ _=>rfl)) (aF _)) (zcf (aw zc8 (pv 0) (pv 1) (aF _)))))) (fun _ _ _ _=>(pv 0)))
  (af (zal (PW.pt (zbZ (aw zaO (az zaA (pv 2) ae) ae (aF _)) (zcf (aw (zej hu) (pv 4) (zas ac) rfl))))
   (ak (aB (aq zad (pv 4) (az zaA (az zaI (pv 2) ae) (zaa zab rfl T.len PySem.boot_len (aa (pv 4) ac))) (fun _ _=>rfl))))
   zaf)
  (ak (aB (az zaA (az zaX (pv 1) (az zaI (pv 2) ae)) (pv 3))))))),?_⟩
 obtain⟨⟨dx,ho⟩,⟨ts,ht,hT⟩,_⟩:=id S.pr
 have tl':ts.length=T'.length:=by rw[←hT.length,List.length_map]
 have tN:=S.tN
 have mpos:(0:Int) < ((ts.length:Nat):Int):=by have h1:=ain.1;have h2:=ain.2;omega
 refine⟨_,rfl,p,C,dx,_,_,rfl,ho,T.cl,T.nT,zan _ _ _,tl,_,rfl,.inl (SqL.of ht),?_⟩
 refine⟨_,rfl,_,rfl,(by show -(2 ^ 62)≤((ts.length:Nat):Int);omega),(by show((ts.length:Nat):Int) < 2 ^ 62;omega),fun D hD=>zdd zhg (fun i us H'=>ao H H'∧∃ ks:List Int,us=ks.map V.int∧(∀ k∈ks,InR T'.length k)) (fun _ _ _ _=>trivial) ⟨ai hD _,[],rfl,fun _ h=>nomatch h⟩ ?_ ?_⟩
 ·rintro i us H8 x H2 hi hly hDs ⟨s2,ks,rfl,pk⟩ ⟨rfl,rfl⟩
  rw[Int.toNat_natCast]at hi
  have iin:InR T'.length (0+((i:Nat):Int)):=⟨by omega,by omega⟩
  have hT2:=hT.keep s2.kt (zbr _)
  obtain⟨q1,z1,r1,a1,a2⟩:=zh0 hT2 iin
  obtain⟨q2,z2,r2,a3,a4⟩:=zh0 hT2 ain
  have ho2:=s2 _ _ ho
  have ht2:=SqL.of (K:=K) (s2 _ _ ht)
  refine⟨_,rfl,p,C,dx,_,_,rfl,ho2,T.cl,T.nT,zan _ _ _,_,rfl,tl,_,_,_,rfl,rfl,ht2,a1,q1,_,_,_,rfl,rfl,a2,aA (j:=0) rfl,_,rfl,p,C,dx,_,_,rfl,ho2,T.cl,T.nT,zan _ _ _,_,rfl,tl,_,_,_,rfl,rfl,ht2,a3,q2,_,_,_,rfl,rfl,a4,aA (j:=0) rfl,rfl,_,rfl,zaq (fun _=>⟨_,rfl,_,rfl,rfl,_,rfl,zaq (fun _=>⟨_,rfl,zaQ (sz _ (by rw[Int.toNat_natCast];omega)) (by rw[Int.toNat_natCast];exact hi) hly hDs ⟨s2.upd hD,ks++[0+((i:Nat):Int)],by rw[List.map_append];rfl,fun k hk=>?_⟩⟩) (fun _=>zch (by rw[Int.toNat_natCast];exact hi) hly hDs ⟨s2,ks,rfl,pk⟩)⟩) (fun _=>aP (zch (by rw[Int.toNat_natCast];exact hi) hly hDs ⟨s2,ks,rfl,pk⟩))⟩
  rcases List.mem_append.mp hk with h | h
  ·exact pk k h
  ·rw[List.mem_singleton.mp h];exact iin
 rintro us H2 hDs ⟨s2,ks,rfl,pk⟩
 have last:∀ H',ao H H'→Q (.int ((a+c / 2) % ((ts.length:Nat):Int))) H':=fun H' s'=>q H' _ s' (by have:=zbz (a+c / 2) mpos;rw[tl']at this ⊢;exact this)
 refine⟨_,rfl,_,_,rfl,rfl,(by show(0:Int) < 2;decide),rfl,_,rfl,zaq (fun _=>⟨_,rfl,lS0,fun l hl=>?_⟩) (fun _=>aP ⟨_,rfl,_,rfl,_,_,rfl,rfl,⟨by decide,by decide⟩,_,_,rfl,rfl,_,rfl,_,_,rfl,rfl,mpos,last H2 s2⟩)⟩
 have s3:=s2.trans (ai hl (.lst []))
 have hD3:=ai hl (.lst []) _ _ hDs
 have n3:=ad (H:=H2) (a:=l) (o:=.lst [])
 generalize upd H2 l (.lst [])=H3 at s3 hD3 n3
 refine⟨.lst (ks.map Dt.int),.lst [],Has.lst' (SqL.of hD3) (ah.ints _),Has.lst' (SqL.of n3) ah.nil,(by simp only[dep,zbc];decide),_,rfl,?_⟩
 by_cases hk:ks=[]
 ·subst hk
  exact aP ⟨_,rfl,_,rfl,_,_,rfl,rfl,⟨by decide,by decide⟩,_,_,rfl,rfl,_,rfl,_,_,rfl,rfl,mpos,last H3 s3⟩
 ·have e:peq (.lst (ks.map Dt.int)) (.lst [])=false:=by
   cases ks with
   | nil=>exact absurd rfl hk
   | cons x xs=>rfl
  rw[e]
  have kpos:(0:Int) < (((ks.map V.int).length:Nat):Int):=by
   rw[List.length_map]
   have:=List.length_pos_iff.mpr hk
   omega
  have m:=zbz (c / 2) kpos
  have il:InR ks.length (c / 2 % (((ks.map V.int).length:Nat):Int)):=by rw[List.length_map]at m ⊢;exact m
  refine zaK ⟨_,rfl,_,rfl,_,_,rfl,rfl,⟨by decide,by decide⟩,_,rfl,D,_,rfl,.inl (SqL.of hD3),_,_,rfl,rfl,kpos,D,_,_,_,rfl,rfl,SqL.of hD3,za1 il,q H3 _ s3 (pk _ ?_)⟩
  unfold rf
  rw[List.getD_eq_getElem?_getD,List.getElem?_eq_getElem (by have h1:=il.1;have h2:=il.2;omega)]
  exact List.getElem_mem _
end
end K51
namespace K51
open PySem L2
section
variable {P:Program} {w:World} {K:W.Frag} {mg:Str→Option Value} {base:Heap} {aK C CN CT CP CM:Addr} {f fM fC fT fO fW:Addr} {fd dM dC dT' dO dW:FuncData}
variable {fI fA fQ fS:Addr} {dI dA' dQ dS:FuncData}
def wv (c:Int) (i:Nat):List Tm:=(List.range i).map fun j:Nat=>((nm4 ((0+(j:Int)+c / 3) % 4),[]):Tm)
theorem ziX (c:Int) (i:Nat):(wv c i).length=i:=by simp [wv]
theorem zkP (c:Int) (i:Nat):wv c (i+1)=wv c i++[(nm4 ((0+(i:Int)+c / 3) % 4),[])]:=by
 unfold wv
 rw[List.range_succ,List.map_append]
 rfl
theorem wv_new {c:Int} {i:Nat} (h:i < 4):(nm4 ((0+(i:Int)+c / 3) % 4),([]:List Int))∉wv c i:=fun z=>by
 unfold wv at z
 obtain⟨j,hj,e⟩:=List.mem_map.mp z
 have hj':=List.mem_range.mp hj
 have e1:nm4 ((0+(j:Int)+c / 3) % 4)=nm4 ((0+(i:Int)+c / 3) % 4):=(Prod.mk.inj e).1
 have b1:=zbz (0+(j:Int)+c / 3) (show(0:Int) < 4 by decide)
 have b2:=zbz (0+(i:Int)+c / 3) (show(0:Int) < 4 by decide)
 have:=zlj b1.1 b1.2 b2.1 b2.2 e1
 omega
def zhl (K:W.Frag) (C:Addr):Sp:=fun vs H Q _=>∃(a:Addr) (ns:List Int) (fs:Int),vs=[.ref a,.int fs]∧SqL K H a (ns.map V.int)∧ns.length≤1000∧0≤fs∧fs≤100 ∧
 ∀(H':Hp) (p tl al rl:Addr) (T:List Tm) (As:List At),ao H H'→H p=none→H tl=none→H al=none→H rl=none→PrD K C H' p tl al rl T As []→1≤T.length→T.length≤20→As.length≤20→Q (.ref p) H'
theorem zaH:zae ["_law_script","_law_first","_law_cell","_law_problem","_law_many","_law_k","_law_tops","_law_turn"] ["_law_script","_law_first"] (ar zdS):=⟨rfl,rfl,rfl,by decide +kernel,rfl,by decide +kernel,by decide +kernel⟩
theorem PrD.keep {H H':Hp} {p tl al rl z:Addr} {T:List Tm} {As:List At} {Rs:List (List Int)} {zs:List V} (S:PrD K C H p tl al rl T As Rs) (f:Fr1 H H' z) (hz:H z=some (.lst zs)) (n1:z≠tl) (n2:z≠al) (n3:z≠rl):PrD K C H' p tl al rl T As Rs:=⟨S.pr.keep f hz n1 n2 n3,S.dm,S.t3,S.tN⟩
theorem ziZ {x y i:Int} (h0:0≤i) (h1:i < 2):∃ k,atI [V.int x,V.int y] i=some (.int k)∧(k=x∨k=y):=by
 have:i=0∨i=1:=by omega
 rcases this with rfl | rfl
 ·exact⟨x,rfl,.inl rfl⟩
 ·exact⟨y,rfl,.inr rfl⟩
theorem zfZ {ns:List Int} {t:Int} (h:InR ns.length t):rf ns t∈ns:=by
 unfold rf
 rw[List.getD_eq_getElem?_getD,List.getElem?_eq_getElem (by have h1:=h.1;have h2:=h.2;omega)]
 exact List.getElem_mem _
theorem ixN_of {n:Nat} {i:Int} (h:InR n i):ixN n i=some i.toNat:=by
 unfold ixN
 rw[if_pos h.1,if_pos h.2]
set_option maxHeartbeats 4000000 in
theorem zkl (F:Fun K "_law_woven" "_law_woven" zdS f fd) (T:Txt K mg aK C CN CT CP CM) (mlist:mg "list"=none) (mrange:mg "range"=none) (G:Own P w K mg base C CN CT CP CM fI fA fQ fS dI dA' dQ dS) (BC:FB P w K mg base CX0 1 "_law_cell_at" fC dC ["_law_script","_law_k"] (zdL K)):aH P w K mg base CX0 5 f fd ["_law_script","_law_first"] (zhl K C):=by
 refine F.ok zaH (fun vs H Q E h=>?_) (fun cdv A outer s H vs Q E hr h=>?_)
 ·obtain⟨a,ns,fs,rfl,_⟩:=h
  rfl
 obtain⟨a,ns,fs,rfl,hS,n1000,f0,f1,Q0⟩:=h
 have hr1:aO 1 _:=hr.mono (by decide)
 have hr2:aO 2 _:=hr.mono (by decide)
 refine⟨_,(af (ay (i:=2) zaH.nd rfl (Or.inl rfl) (ax BC.ok hr1 rfl BC.m BC.kp BC.b .nil aE (aa (pv 0) (aa (pv 1) ac))))
  (af (ay (i:=3) zaH.nd rfl (Or.inl rfl) (zeI G.mI G.I hr2 rfl G.gI G.bI .nil aE))
  (af (ay (i:=4) zaH.nd rfl (Or.inl rfl) (az zaX ae (az zaA (pv 2) ae)))
  (af (zaE PassesOwn.never rfl (zaZ rfl mrange (aa (pv 4) ac)) (zam (i:=5) zaH.nd rfl (Or.inl rfl))
   (ak (zaB (zay (pv 3) T.cl G.mA G.A hr G.bA .nil zcz (aa (aq zad (zas (aa zao (aa zao (aa zao (aa zao ac))))) (az zaA (az zaX (pv 5) (az zaI (pv 2) ae)) ae) (fun _ _=>rfl)) (aa (zaR ac) ac))))))
  (af (ay (i:=6) zaH.nd rfl (Or.inl rfl) (zaC (zbN rfl) rfl mlist PyProof.Rows.Boot.list (aa (zdg rfl mrange (aa (pv 4) ac)) ac)))
  (af (zaE PassesOwn.never rfl (zaZ rfl mrange (aa (az zaX ae (az zaA (az zaI (pv 2) ae) ae)) ac)) (zam (i:=7) zaH.nd rfl (Or.inl rfl))
   (ak (zaE PassesOwn.never rfl (zaZ rfl mrange (aa (pv 4) ac)) (zam (i:=5) zaH.nd rfl (Or.inl rfl))
     (ak (ps_asg (zay (pv 3) T.cl G.mA G.A hr G.bA .nil zcz (aa (aq zad (zas (aa zao (aa zao ac))) (az zaA (az zaI (pv 2) ae) ae) (fun _ _=>rfl)) (aa (zaR (aa (aq zad (pv 6) (pv 5) (fun _ _=>rfl)) ac)) ac))) (pg_sub (pv 6) (pv 5) zkf))))))
  (af (zaE PassesOwn.never rfl (zaZ rfl mrange (aa (az zcs (pv 4) ae) ac)) (zam (i:=5) zaH.nd rfl (Or.inl rfl))
   (af (ay (i:=2) zaH.nd rfl (Or.inl rfl) (ax BC.ok hr1 rfl BC.m BC.kp BC.b .nil aE (aa (pv 0) (aa (az zaX (az zaX (pv 1) ae) (pv 5)) ac))))
    (ak (zaB (zay (pv 3) T.cl G.mS G.S hr G.bS .nil zcz (aa (aq zad (zas (aa (pv 5) (aa (az zaX (pv 5) ae) ac))) (az zaA (pv 2) ae) (fun _ _=>rfl)) (aa (aq zad (zas (aa (az zaX (pv 5) ae) (aa (pv 5) ac))) (az zaA (pv 2) ae) (fun _ _=>rfl)) ac)))))))
  (af (zaB (zay (pv 3) T.cl G.mS G.S hr G.bS .nil zcz (aa (aq zad (pv 6) ae (fun _ _=>rfl)) (aa (aq zad (pv 6) (az zcs (pv 4) ae) (fun _ _=>rfl)) ac))))
  (af (ay (i:=2) zaH.nd rfl (Or.inl rfl) (ax BC.ok hr1 rfl BC.m BC.kp BC.b .nil aE (aa (pv 0) (aa (az zaX (pv 1) ae) ac))))
  (af (zal (aw zaO (az zaA (pv 2) ae) ae (aF _))
   (ak (zaB (zay (pv 3) T.cl G.mS G.S hr G.bS .nil zcz (aa (az zaA (az zaI (pv 2) ae) (pv 4)) (aa (aq zad (pv 6) (az zaA (az zaI (pv 2) ae) (pv 4)) (fun _ _=>rfl)) ac)))))
   zaf)
  (af (zal (aw zaO (az zaA (pv 2) ae) ae (aF _))
   (ak (zaB (zay (pv 3) T.cl G.mQ G.Q hr G.bQ .nil zcz (aa (aq zad (zas (aa zao (aa zao (aa zao ac)))) (az zaA (az zaI (pv 2) ae) ae) (fun _ _=>rfl)) ac))))
   zaf)
  (ak (aB (pv 3)))))))))))))),?_⟩
 refine⟨_,rfl,_,rfl,a,ns,fs,rfl,hS,n1000,f0,by omega,fun c=>?_⟩
 intro p dx np ndx nex
 refine⟨p,dx,rfl,ad,fun tl al rl H1 ht ha hrr na nr nx k1 k2 k3 k4 k5=>⟨rfl,?_⟩⟩
 obtain⟨S1,s1,ft,fa,fr⟩:=madeD (K:=K) (C:=C) np ndx nex ht ha hrr na nr nx k1 k2 k3 k4 k5
 have b3:=zbz c (show(0:Int) < 3 by decide)
 refine⟨_,rfl,_,_,rfl,rfl,(by show(0:Int) < 3;decide),_,_,rfl,rfl,?_⟩
 refine⟨_,rfl,_,rfl,(by show -(2 ^ 62)≤2+c % 3;omega),(by show 2+c % 3 < 2 ^ 62;omega),za6 (lo:=0) (n:=(2+c % 3).toNat) (fun i σ H'=>∃(v5:Option V),σ=[some (.ref a),some (.int fs),some (.int c),some (.ref p),some (.int (2+c % 3)),v5,none,none]∧ao H H'∧PrD K C H' p tl al rl (wv c i) [] []) ⟨none,rfl,s1,S1⟩ ?_ ?_⟩
 ·rintro i σ H2 hi ⟨v5,rfl,s2,S2⟩
  have hi4:i < 4:=by omega
  obtain⟨⟨dx2,ho2⟩,_⟩:=id S2.pr
  have b4:=zbz (0+((i:Nat):Int)+c / 3) (show(0:Int) < 4 by decide)
  obtain⟨hz,g1,g2⟩:=zjb b4.1 b4.2
  refine⟨_,rfl,p,dx2,_,rfl,ho2,zdb _ _ _,lS4,fun l hl=>?_⟩
  have s3:=ai hl (.lst [V.str "a",V.str "b",V.str "abc",V.str "abd"])
  have n3:=ad (H:=H2) (a:=l) (o:=.lst [V.str "a",V.str "b",V.str "abc",V.str "abd"])
  generalize upd H2 l (.lst [V.str "a",V.str "b",V.str "abc",V.str "abd"])=H3 at s3 n3
  refine⟨_,rfl,_,rfl,_,_,rfl,rfl,⟨by decide,by decide⟩,_,_,rfl,rfl,_,_,rfl,rfl,(by show(0:Int) < 4;decide),l,_,_,_,rfl,rfl,SqL.of n3,hz,lS0,fun e he=>?_⟩
  have s4:=s3.trans (ai he (.tup []))
  dsimp only [tNil]
  refine zf3 (S2.same s4) (.inr (SqT.of ad)) g1 g2 (ps:=[]) (by show 0≤3;decide) (fun _ h=>nomatch h) (by rw[ziX];omega) (fun H' more k pr f m1 kl hn=>⟨_,rfl,f.fresh (s2.trans s4) ft,?_⟩)
  rw[zkP,←hn (wv_new hi4)]
  exact pr
 rintro σ H2 ⟨v5,rfl,s2,S2⟩
 have wl:=ziX c (2+c % 3).toNat
 generalize wv c (2+c % 3).toNat=T0 at S2 wl
 refine⟨_,rfl,_,rfl,fun r0 hr0=>?_⟩
 have s3:=s2.trans (ai hr0 (.rng 0 (2+c % 3)))
 have S3:=S2.same (ai hr0 (.rng 0 (2+c % 3)))
 have n3:=ad (H:=H2) (a:=r0) (o:=.rng 0 (2+c % 3))
 generalize upd H2 r0 (.rng 0 (2+c % 3))=H3 at s3 S3 n3
 refine⟨r0,_,rfl,n3,(by omega),(by omega),fun tp htp=>?_⟩
 have e0:(((List.range (2+c % 3).toNat).map fun i:Nat=>(i:Int)).map V.int)=(zaU (2+c % 3).toNat).map V.int:=rfl
 rw[e0]
 obtain⟨⟨dx3,ho3⟩,⟨_,ht3,_⟩,⟨_,ha3,_⟩,⟨_,hr3,_⟩,_⟩:=id S3.pr
 have ntl:tp≠tl:=(zac ht3 htp).symm
 have nal:tp≠al:=(zac ha3 htp).symm
 have nrl:tp≠rl:=(zac hr3 htp).symm
 have ftp:H tp=none:=s3.free htp
 have s4:=s3.trans (ai htp (.lst ((zaU (2+c % 3).toNat).map V.int)))
 have S4:=S3.same (ai htp (.lst ((zaU (2+c % 3).toNat).map V.int)))
 have n4:=ad (H:=H3) (a:=tp) (o:=.lst ((zaU (2+c % 3).toNat).map V.int))
 generalize upd H3 tp (.lst ((zaU (2+c % 3).toNat).map V.int))=H4 at s4 S4 n4
 have b2:=zbz (c / 12) (show(0:Int) < 2 by decide)
 have rin:∀ k∈zaU (2+c % 3).toNat,InR T0.length k:=fun k hk=>by
  unfold zaU at hk
  obtain⟨j,hj,rfl⟩:=List.mem_map.mp hk
  have:=List.mem_range.mp hj
  exact⟨by omega,by omega⟩
 refine⟨_,rfl,_,_,rfl,rfl,⟨by decide,by decide⟩,_,_,rfl,rfl,(by show(0:Int) < 2;decide),_,_,rfl,rfl,_,rfl,(by show -(2 ^ 62)≤1+c / 12 % 2;omega),(by show 1+c / 12 % 2 < 2 ^ 62;omega),za6 (lo:=0) (n:=(1+c / 12 % 2).toNat) (fun i σ H'=>∃(v5 v7:Option V) (T':List Tm) (us:List Int),σ=[some (.ref a),some (.int fs),some (.int c),some (.ref p),some (.int (2+c % 3)),v5,some (.ref tp),v7]∧ao H H'∧PrD K C H' p tl al rl T' [] []∧H' tp=some (.lst (us.map V.int))∧us.length=(2+c % 3).toNat∧(∀ k∈us,InR T'.length k)∧2+c % 3≤(T'.length:Int)∧T'.length≤4+4 * i) ⟨v5,none,T0,_,rfl,s4,S4,n4,by rw[zb5],rin,by omega,by omega⟩ ?_ ?_⟩
 ·rintro i σ H5 hi ⟨v5',v7,T',us,rfl,s5,S5,htp5,ul,uin,t1,t2⟩
  refine⟨_,rfl,_,rfl,(by show -(2 ^ 62)≤2+c % 3;omega),(by show 2+c % 3 < 2 ^ 62;omega),za6 (lo:=0) (n:=(2+c % 3).toNat) (fun j σ H'=>∃(v5:Option V) (T':List Tm) (us:List Int),σ=[some (.ref a),some (.int fs),some (.int c),some (.ref p),some (.int (2+c % 3)),v5,some (.ref tp),some (.int (0+((i:Nat):Int)))]∧ao H H'∧PrD K C H' p tl al rl T' [] []∧H' tp=some (.lst (us.map V.int))∧us.length=(2+c % 3).toNat∧(∀ k∈us,InR T'.length k)∧2+c % 3≤(T'.length:Int)∧T'.length≤4+4 * i+j) ⟨v5',T',us,rfl,s5,S5,htp5,ul,uin,t1,by omega⟩ ?_ ?_⟩
  ·rintro j σ H6 hj ⟨v5'',T6,us6,rfl,s6,S6,htp6,ul6,uin6,t16,t26⟩
   obtain⟨⟨dx6,ho6⟩,_⟩:=id S6.pr
   have b6:=zbz (c / 24) (show(0:Int) < 2 by decide)
   obtain⟨z,hz,g1,g2⟩:=f2_at b6.1 b6.2
   have jin:InR us6.length (0+((j:Nat):Int)):=⟨by omega,by omega⟩
   refine⟨_,rfl,p,dx6,_,rfl,ho6,zdb _ _ _,lS2,fun l hl=>?_⟩
   have s7:=ai hl (.lst [V.str "f",V.str "ffa"])
   have n7:=ad (H:=H6) (a:=l) (o:=.lst [V.str "f",V.str "ffa"])
   generalize upd H6 l (.lst [V.str "f",V.str "ffa"])=H7 at s7 n7
   refine⟨_,rfl,_,_,rfl,rfl,⟨by decide,by decide⟩,_,_,rfl,rfl,(by show(0:Int) < 2;decide),l,_,_,_,rfl,rfl,SqL.of n7,hz,_,rfl,_,rfl,tp,_,_,_,rfl,rfl,SqL.of (s7 _ _ htp6),za1 jin,lS1,fun e he=>?_⟩
   have s8:=s7.trans (ai he (.tup [.int (rf us6 (0+((j:Nat):Int)))]))
   dsimp only [tNil]
   refine zf3 (S6.same s8) (.inr (SqT.of ad)) g1 g2 (ps:=[rf us6 (0+((j:Nat):Int))]) (by show 1≤3;decide) (fun k hk=>by rw[List.mem_singleton.mp hk];exact uin6 _ (zfZ jin)) (by omega) (fun H' more k pr f m1 kl hn=>?_)
   have htp9:H' tp=some (.lst (us6.map V.int)):=f _ _ (s8 _ _ htp6) ntl
   refine⟨_,rfl,_,rfl,tp,_,_,_,rfl,rfl,htp9,(by rw[List.length_map];exact ixN_of jin),?_⟩
   have fr9:Fr1 H' (upd H' tp (.lst ((us6.map V.int).set (0+((j:Nat):Int)).toNat (.int ((k:Nat):Int))))) tp:=fun b o h n=>by rw[aj n];exact h
   have tl9:T6.length≤(T6++more).length:=by rw[List.length_append];omega
   refine⟨_,T6++more,us6.set (0+((j:Nat):Int)).toNat ((k:Nat):Int),rfl,(f.fresh (s6.trans s8) ft).upd ftp,pr.keep fr9 htp9 ntl nal nrl,by rw[ad,List.map_set],by rw[List.length_set];exact ul6,fun x hx=>?_,by omega,by rw[List.length_append];omega⟩
   rcases List.mem_or_eq_of_mem_set hx with h | h
   ·exact(uin6 x h).mono tl9
   ·rw[h];exact⟨by omega,by omega⟩
  ·rintro σ H6 ⟨v5'',T6,us6,rfl,s6,S6,htp6,ul6,uin6,t16,t26⟩
   exact⟨_,_,T6,us6,rfl,s6,S6,htp6,ul6,uin6,t16,by omega⟩
 rintro σ H5 ⟨v5',v7,T',us,rfl,s5,S5,htp5,ul,uin,t1,t2⟩
 have t12:T'.length≤12:=by omega
 refine⟨_,rfl,_,_,rfl,rfl,_,rfl,(by show -(2 ^ 62)≤2+c % 3 - 1;omega),(by show 2+c % 3 - 1 < 2 ^ 62;omega),za6 (lo:=0) (n:=(2+c % 3 - 1).toNat) (fun i σ H'=>∃(c2:Int) (v5:Option V) (As:List At),σ=[some (.ref a),some (.int fs),some (.int c2),some (.ref p),some (.int (2+c % 3)),v5,some (.ref tp),v7]∧ao H H'∧PrD K C H' p tl al rl T' As []∧H' tp=some (.lst (us.map V.int))∧As.length≤i) ⟨c,_,[],rfl,s5,S5,htp5,Nat.le_refl _⟩ ?_ ?_⟩
 ·rintro i σ H6 hi ⟨c2,v5,As,rfl,s6,S6,htp6,al6⟩
  refine⟨_,rfl,_,rfl,_,_,rfl,rfl,_,rfl,_,_,rfl,rfl,a,ns,_,rfl,s6.seq hS,n1000,(by show 0≤fs+1+(0+((i:Nat):Int));omega),(by show fs+1+(0+((i:Nat):Int))≤1000;omega),fun c3=>?_⟩
  obtain⟨⟨dx6,ho6⟩,_⟩:=id S6.pr
  have b6:=zbz c3 (show(0:Int) < 2 by decide)
  obtain⟨x1,hx1,ex1⟩:=ziZ (x:=0+((i:Nat):Int)) (y:=0+((i:Nat):Int)+1) b6.1 b6.2
  obtain⟨x2,hx2,ex2⟩:=ziZ (x:=0+((i:Nat):Int)+1) (y:=0+((i:Nat):Int)) b6.1 b6.2
  refine⟨_,rfl,p,dx6,_,rfl,ho6,zcv _ _ _,_,rfl,_,rfl,_,_,rfl,rfl,lS2,fun l hl=>?_⟩
  have s7:=ai hl (.lst [V.int (0+((i:Nat):Int)),V.int (0+((i:Nat):Int)+1)])
  have n7:=ad (H:=H6) (a:=l) (o:=.lst [V.int (0+((i:Nat):Int)),V.int (0+((i:Nat):Int)+1)])
  generalize upd H6 l (.lst [V.int (0+((i:Nat):Int)),V.int (0+((i:Nat):Int)+1)])=H7 at s7 n7
  refine⟨_,rfl,_,_,rfl,rfl,(by show(0:Int) < 2;decide),l,_,_,_,rfl,rfl,SqL.of n7,hx1,_,rfl,_,_,rfl,rfl,_,rfl,lS2,fun e he=>?_⟩
  have s8:=s7.trans (ai he (.lst [V.int (0+((i:Nat):Int)+1),V.int (0+((i:Nat):Int))]))
  have n8:=ad (H:=H7) (a:=e) (o:=.lst [V.int (0+((i:Nat):Int)+1),V.int (0+((i:Nat):Int))])
  generalize upd H7 e (.lst [V.int (0+((i:Nat):Int)+1),V.int (0+((i:Nat):Int))])=H8 at s8 n8
  refine⟨_,rfl,_,_,rfl,rfl,(by show(0:Int) < 2;decide),e,_,_,_,rfl,rfl,SqL.of n8,hx2,zfu (S6.same s8) ⟨by omega,by omega⟩ ⟨by omega,by omega⟩ (by omega) (fun H' more k pr f m1 _=>?_)⟩
  exact⟨_,_,As++more,rfl,f.fresh (s6.trans s8) fa fr,pr,f _ _ (s8 _ _ htp6) nal nrl,by rw[List.length_append];omega⟩
 rintro σ H6 ⟨c2,v5,As,rfl,s6,S6,htp6,al6⟩
 have al4:As.length≤4:=by omega
 obtain⟨⟨dx6,ho6⟩,_⟩:=id S6.pr
 have i0:InR us.length 0:=⟨by decide,by omega⟩
 have i1:InR us.length (2+c % 3 - 1):=⟨by omega,by omega⟩
 refine⟨_,rfl,p,dx6,_,rfl,ho6,zcv _ _ _,_,rfl,tp,_,_,_,rfl,rfl,SqL.of htp6,za1 i0,_,rfl,_,rfl,_,_,rfl,rfl,tp,_,_,_,rfl,rfl,SqL.of htp6,za1 i1,zfu S6 (uin _ (zfZ i0)) (uin _ (zfZ i1)) (by omega) (fun H7 more k S7 f7 m7 _=>?_)⟩
 have s7:=f7.fresh s6 fa fr
 have htp7:=f7 _ _ htp6 nal nrl
 refine⟨_,rfl,_,rfl,_,_,rfl,rfl,a,ns,_,rfl,s7.seq hS,n1000,(by show 0≤fs+5;omega),(by show fs+5≤1000;omega),fun c3=>?_⟩
 have al7:(As++more).length≤5:=by rw[List.length_append];omega
 generalize As++more=As7 at S7 al7
 have fin:∀(H8:Hp) (As8:List At) (Dn:zcX) (σ8:St),ao H H8→PrD K C H8 p tl al rl T' As8 []→As8.length≤7→Q (.ref p) H8:=fun H8 As8 _ _ s8 S8 l8=>Q0 H8 p tl al rl T' As8 s8 np ft fa fr S8 (by omega) (by omega) (by omega)
 have tail:∀(H8:Hp) (As8:List At),ao H H8→PrD K C H8 p tl al rl T' As8 []→As8.length≤6→∀(z:Str) (l:Addr),zfX z→∀ H9,ao H8 H9→zfk K C CN CT CP CM [.ref p,.str z] H9 (fun x H'=>Q (.ref p) H') E0:=fun H8 As8 s8 S8 l8 z l g H9 s9=>zeN (S8.same s9) g.1 g.2 (by omega) (fun H' more k pr f m1 _=>fin H' (As8++more) ⟨fun _ _=>True,fun _ _=>True,fun _ _=>True,fun _ _=>True⟩ [] (f.fresh (s8.trans s9) fa fr) pr (by rw[List.length_append];omega))
 have b5:=zbz (c3 / 5) (show(0:Int) < 3 by decide)
 obtain⟨z,hz,gz⟩:=pq_at b5.1 b5.2
 have mpos:(0:Int) < 2+c % 3:=by omega
 have m1:=zbz (c3 / 3) mpos
 have m2:=zbz (c3 / 12) mpos
 have i3:InR T'.length (c3 / 3 % (2+c % 3)):=⟨m1.1,by have:=m1.2;omega⟩
 have i4:InR us.length (c3 / 12 % (2+c % 3)):=⟨m2.1,by have:=m2.2;omega⟩
 obtain⟨⟨dx7,ho7⟩,_⟩:=id S7.pr
 refine⟨_,rfl,_,_,rfl,rfl,(by show(0:Int) < 3;decide),rfl,_,rfl,zaq (fun _=>?_) (fun _=>?_)⟩
 ·refine⟨_,rfl,p,dx7,_,rfl,ho7,zcv _ _ _,_,rfl,_,_,rfl,rfl,⟨by decide,by decide⟩,_,rfl,_,_,rfl,rfl,mpos,_,rfl,_,rfl,_,_,rfl,rfl,⟨by decide,by decide⟩,_,rfl,_,_,rfl,rfl,mpos,tp,_,_,_,rfl,rfl,SqL.of htp7,za1 i4,zfu S7 i3 (uin _ (zfZ i4)) (by omega) (fun H8 more k S8 f8 m8 _=>?_)⟩
  have s8:=f8.fresh s7 fa fr
  have al8:(As7++more).length≤6:=by rw[List.length_append];omega
  obtain⟨⟨dx8,ho8⟩,_⟩:=id S8.pr
  refine⟨_,rfl,_,_,rfl,rfl,(by show(0:Int) < 5;decide),rfl,_,rfl,zaq (fun _=>?_) (fun _=>⟨_,rfl,fin H8 _ ⟨fun _ _=>True,fun _ _=>True,fun _ _=>True,fun _ _=>True⟩ [] s8 S8 (by omega)⟩)⟩
  refine⟨_,rfl,p,dx8,_,rfl,ho8,zdV _ _ _,lS3,fun l hl=>⟨_,rfl,_,_,rfl,rfl,⟨by decide,by decide⟩,_,_,rfl,rfl,(by show(0:Int) < 3;decide),l,_,_,_,rfl,rfl,SqL.of ad,hz,zeN (S8.same (ai hl _)) gz.1 gz.2 (by omega) (fun H' more' k pr f m1 _=>⟨_,rfl,fin H' _ ⟨fun _ _=>True,fun _ _=>True,fun _ _=>True,fun _ _=>True⟩ [] (f.fresh (s8.trans (ai hl _)) fa fr) pr (by rw[List.length_append];omega)⟩)⟩⟩
 ·refine⟨_,rfl,_,_,rfl,rfl,(by show(0:Int) < 5;decide),rfl,_,rfl,zaq (fun _=>?_) (fun _=>⟨_,rfl,fin H7 _ ⟨fun _ _=>True,fun _ _=>True,fun _ _=>True,fun _ _=>True⟩ [] s7 S7 (by omega)⟩)⟩
  refine⟨_,rfl,p,dx7,_,rfl,ho7,zdV _ _ _,lS3,fun l hl=>⟨_,rfl,_,_,rfl,rfl,⟨by decide,by decide⟩,_,_,rfl,rfl,(by show(0:Int) < 3;decide),l,_,_,_,rfl,rfl,SqL.of ad,hz,zeN (S7.same (ai hl _)) gz.1 gz.2 (by omega) (fun H' more' k pr f m1 _=>⟨_,rfl,fin H' _ ⟨fun _ _=>True,fun _ _=>True,fun _ _=>True,fun _ _=>True⟩ [] (f.fresh (s7.trans (ai hl _)) fa fr) pr (by rw[List.length_append];omega)⟩)⟩⟩
def zgG (K:W.Frag) (C:Addr):Sp:=fun vs H Q _=>∃(a:Addr) (ns:List Int) (fs tn an:Int),vs=[.ref a,.int fs,.int tn,.int an]∧SqL K H a (ns.map V.int)∧ns.length≤1000∧0≤fs∧fs≤100∧1≤tn∧tn≤20∧1≤an∧an≤20 ∧
 ∀(H':Hp) (p tl al rl:Addr) (T:List Tm) (As:List At),ao H H'→H p=none→H tl=none→H al=none→H rl=none→PrD K C H' p tl al rl T As []→1≤T.length→T.length≤20→As.length≤20→Q (.ref p) H'
theorem za0:zae ["_law_script","_law_first","_law_terms","_law_atoms","_law_problem","_law_k","_law_cell","_law_one"] ["_law_script","_law_first","_law_terms","_law_atoms"] (ar zco):=⟨rfl,rfl,rfl,by decide +kernel,rfl,by decide +kernel,by decide +kernel⟩
set_option maxHeartbeats 4000000 in
theorem zjJ (F:Fun K "_law_problem_by" "_law_problem_by" zco f fd) (T:Txt K mg aK C CN CT CP CM) (mrange:mg "range"=none) (G:Own P w K mg base C CN CT CP CM fI fA fQ fS dI dA' dQ dS) (BC:FB P w K mg base CX0 1 "_law_cell_at" fC dC ["_law_script","_law_k"] (zdL K)) (BW:FB P w K mg base CX0 5 "_law_woven" fW dW ["_law_script","_law_first"] (zhl K C)) (BT:FB P w K mg base CX0 5 "_law_term_by" fT dT' ["_law_problem","_law_cell"] (zgE K C)) (BO:FB P w K mg base CX0 1 "_law_other_by" fO dO ["_law_problem","_law_one","_law_cell"] (zho K C)):aH P w K mg base CX0 6 f fd ["_law_script","_law_first","_law_terms","_law_atoms"] (zgG K C):=by
 refine F.ok za0 (fun vs H Q E h=>?_) (fun cdv A outer s H vs Q E hr h=>?_)
 ·obtain⟨a,ns,fs,tn,an,rfl,_⟩:=h
  rfl
 obtain⟨a,ns,fs,tn,an,rfl,hS,n1000,f0,f1,t0,t1,a0,a1,Q0⟩:=h
 have hr1:aO 1 _:=hr.mono (by decide)
 have hr2:aO 2 _:=hr.mono (by decide)
 have hr4:aO 4 _:=hr.mono (by decide)
 refine⟨_,(af (zal (aw zaO (az zaA (ax BC.ok hr1 rfl BC.m BC.kp BC.b .nil aE (aa (pv 0) (aa ae ac))) ae) ae (aF _))
   (ak (aB (ax BW.ok hr rfl BW.m BW.kp BW.b .nil aE (aa (pv 0) (aa (pv 1) ac)))))
   zaf)
  (af (ay (i:=4) za0.nd rfl (Or.inl rfl) (zeI G.mI G.I hr2 rfl G.gI G.bI .nil aE))
  (af (zaE PassesOwn.never rfl (zaZ rfl mrange (aa (pv 2) ac)) (zam (i:=5) za0.nd rfl (Or.inl rfl))
   (ak (zaB (ax BT.ok hr rfl BT.m BT.kp BT.b .nil aE (aa (pv 4) (aa (ax BC.ok hr1 rfl BC.m BC.kp BC.b .nil aE (aa (pv 0) (aa (az zaX (pv 1) (pv 5)) ac))) ac))))))
  (af (zaE PassesOwn.never rfl (zaZ rfl mrange (aa (pv 3) ac)) (zam (i:=5) za0.nd rfl (Or.inl rfl))
   (af (ay (i:=6) za0.nd rfl (Or.inl rfl) (ax BC.ok hr1 rfl BC.m BC.kp BC.b .nil aE (aa (pv 0) (aa (az zaX (az zaX (pv 1) (pv 2)) (pv 5)) ac))))
    (af (ay (i:=7) za0.nd rfl (Or.inl rfl) (az zaA (az zaI (pv 6) ae) (zaa zab rfl T.len PySem.boot_len (aa (zaj (pv 4) rfl) ac))))
    (ak (zal (aw zaO (az zaA (pv 6) ae) ae (aF _))
     (ak (zaB (zay (pv 4) T.cl G.mQ G.Q hr4 G.bQ .nil zcz (aa (aq zad (zas (aa zao (aa zao (aa zao ac)))) (az zaA (az zaI (pv 6) ae) ae) (fun _ _=>rfl)) ac))))
     (ak (zaB (zay (pv 4) T.cl G.mS G.S hr4 G.bS .nil zcz (aa (pv 7) (aa (ax BO.ok hr1 rfl BO.m BO.kp BO.b .nil aE (aa (pv 4) (aa (pv 7) (aa (az zaI (az zaI (pv 6) ae) (zaa zab rfl T.len PySem.boot_len (aa (zaj (pv 4) rfl) ac))) ac)))) ac))))))))))
  (ak (aB (pv 4))))))),?_⟩
 refine⟨_,rfl,a,ns,5,rfl,hS,n1000,by decide,by decide,fun c0=>⟨_,_,rfl,rfl,(by show(0:Int) < 2;decide),rfl,_,rfl,zaq (fun _=>?_) (fun _=>?_)⟩⟩
 ·exact⟨_,rfl,_,rfl,a,ns,fs,rfl,hS,n1000,f0,f1,Q0⟩
 intro p dx np ndx nex
 refine⟨p,dx,rfl,ad,fun tl al rl H1 ht ha hrr na nr nx k1 k2 k3 k4 k5=>⟨rfl,?_⟩⟩
 obtain⟨S1,s1,ft,fa,fr⟩:=madeD (K:=K) (C:=C) np ndx nex ht ha hrr na nr nx k1 k2 k3 k4 k5
 refine⟨_,rfl,_,rfl,(by show -(2 ^ 62)≤tn;omega),(by show tn < 2 ^ 62;omega),za6 (lo:=0) (n:=tn.toNat) (fun i σ H'=>∃(v5:Option V) (T':List Tm),σ=[some (.ref a),some (.int fs),some (.int tn),some (.int an),some (.ref p),v5,none,none]∧ao H H'∧PrD K C H' p tl al rl T' [] []∧T'.length≤i∧(1≤i→1≤T'.length)) ⟨none,[],rfl,s1,S1,Nat.le_refl _,fun h=>absurd h (by decide)⟩ ?_ ?_⟩
 ·rintro i σ H2 hi ⟨v5,T',rfl,s2,S2,lT,pT⟩
  refine⟨_,rfl,_,rfl,_,rfl,_,rfl,_,_,rfl,rfl,a,ns,_,rfl,s2.seq hS,n1000,(by show 0≤fs+(0+((i:Nat):Int));omega),(by show fs+(0+((i:Nat):Int))≤1000;omega),fun c1=>⟨p,tl,al,rl,T',[],[],c1,rfl,S2,by omega,fun H3 more k S3 f3 m3 l3=>?_⟩⟩
  exact⟨_,T'++more,rfl,f3.fresh s2 ft,S3,by rw[List.length_append];omega,fun _=>l3⟩
 rintro σ H2 ⟨v5,T',rfl,s2,S2,lT,pT⟩
 have lT1:1≤T'.length:=pT (by omega)
 refine⟨_,rfl,_,rfl,(by show -(2 ^ 62)≤an;omega),(by show an < 2 ^ 62;omega),za6 (lo:=0) (n:=an.toNat) (fun i σ H'=>∃(v5 v6 v7:Option V) (As:List At),σ=[some (.ref a),some (.int fs),some (.int tn),some (.int an),some (.ref p),v5,v6,v7]∧ao H H'∧PrD K C H' p tl al rl T' As []∧As.length≤i) ⟨v5,none,none,[],rfl,s2,S2,Nat.le_refl _⟩ ?_ ?_⟩
 ·rintro i σ H3 hi ⟨v5',v6,v7,As,rfl,s3,S3,lA⟩
  refine⟨_,rfl,_,rfl,_,rfl,_,_,rfl,rfl,_,rfl,_,_,rfl,rfl,a,ns,_,rfl,s3.seq hS,n1000,(by show 0≤fs+tn+(0+((i:Nat):Int));omega),(by show fs+tn+(0+((i:Nat):Int))≤1000;omega),fun c1=>?_⟩
  obtain⟨⟨dx3,ho3⟩,⟨ts,ht3,hT3⟩,_⟩:=id S3.pr
  have tl':ts.length=T'.length:=by rw[←hT3.length,List.length_map]
  have mpos:(0:Int) < ((ts.length:Nat):Int):=by omega
  have msm:((ts.length:Nat):Int) < 1073741824:=by omega
  have m1:=zbz (c1 / 9) mpos
  have i1:InR T'.length (c1 / 9 % ((ts.length:Nat):Int)):=by rw[←tl'];exact m1
  refine⟨_,rfl,_,_,rfl,rfl,⟨by decide,by decide⟩,_,rfl,p,C,dx3,_,_,rfl,ho3,T.cl,T.nT,zan _ _ _,tl,_,rfl,.inl (SqL.of ht3),_,_,rfl,rfl,mpos,?_⟩
  refine⟨_,rfl,_,_,rfl,rfl,(by show(0:Int) < 9;decide),rfl,_,rfl,zaq (fun _=>?_) (fun _=>?_)⟩
  ·have b5:=zbz (c1 / 9) (show(0:Int) < 3 by decide)
   obtain⟨z,hz,gz⟩:=pq_at b5.1 b5.2
   exact⟨_,rfl,p,dx3,_,rfl,ho3,zdV _ _ _,lS3,fun l hl=>⟨_,rfl,_,_,rfl,rfl,⟨by decide,by decide⟩,_,_,rfl,rfl,(by show(0:Int) < 3;decide),l,_,_,_,rfl,rfl,SqL.of ad,hz,zeN (S3.same (ai hl _)) gz.1 gz.2 (by omega) (fun H' more' k pr f m1 _=>⟨_,_,_,As++more',rfl,f.fresh (s3.trans (ai hl _)) fa fr,pr,by rw[List.length_append];omega⟩)⟩⟩
  ·exact⟨_,rfl,p,dx3,_,rfl,ho3,zcv _ _ _,_,rfl,_,rfl,_,rfl,_,rfl,_,_,rfl,rfl,⟨by decide,by decide⟩,_,rfl,p,C,dx3,_,_,rfl,ho3,T.cl,T.nT,zan _ _ _,tl,_,rfl,.inl (SqL.of ht3),_,_,rfl,rfl,⟨mpos,msm⟩,p,tl,al,rl,T',As,[],_,_,rfl,S3,i1,fun H4 k s4 kin=>zfu (S3.same s4) i1 kin (by omega) (fun H' more' k pr f m1 _=>⟨_,_,_,As++more',rfl,f.fresh (s3.trans s4) fa fr,pr,by rw[List.length_append];omega⟩)⟩
 rintro σ H3 ⟨v5',v6,v7,As,rfl,s3,S3,lA⟩
 exact⟨_,rfl,Q0 H3 p tl al rl T' As s3 np ft fa fr S3 lT1 (by omega) (by omega)⟩
end
end K51
namespace K51
open PySem L2
def hsF (As:List At) (ps:List Int):List Int:=ps.filter fun k=>(smF As k).isSome
def gsF (As:List At) (ps:List Int):List (Int × Int):=ps.filterMap (smF As)
theorem zgm {As:List At} {k:Int} {pr:Int × Int} (h:smF As k=some pr):1≤k∧k≤(As.length:Int):=by
 unfold smF at h
 split at h
 ·assumption
 ·cases h
theorem zg5 {As:List At}:∀ {ps:List Int},(hsF As ps).map (smF As)=(gsF As ps).map some
 | []=>rfl
 | k :: ps=>by
  unfold hsF gsF
  have ih:=zg5 (As:=As) (ps:=ps)
  unfold hsF gsF at ih
  cases e:smF As k with
  | none=>rw[List.filter_cons_of_neg (by rw[e];decide),List.filterMap_cons_none e];exact ih
  | some pr=>rw[List.filter_cons_of_pos (by rw[e];rfl),List.filterMap_cons_some e,List.map_cons,List.map_cons,ih,e]
theorem zjk {As:List At} {ps:List Int}:(hsF As ps).length=(gsF As ps).length:=by
 have:=congrArg List.length (zg5 (As:=As) (ps:=ps))
 simpa using this
theorem zjj {As:List At} {ps:List Int} {k:Int} (h:k∈hsF As ps):k∈ps∧∃ pr,smF As k=some pr:=by
 obtain⟨a,b⟩:=List.mem_filter.mp h
 exact⟨a,Option.isSome_iff_exists.mp b⟩
theorem zjm {As:List At} {ps:List Int} {pr:Int × Int} (h:pr∈gsF As ps):∃ k∈ps,smF As k=some pr:=List.mem_filterMap.mp h
theorem gs_of {As:List At} {ps:List Int} {k:Int} {pr:Int × Int} (hk:k∈ps) (e:smF As k=some pr):pr∈gsF As ps:=List.mem_filterMap.mpr ⟨k,hk,e⟩
theorem gs_at {As:List At} {ps:List Int} {i:Nat} {pr:Int × Int} (h:(gsF As ps)[i]?=some pr):∃ k,(hsF As ps)[i]?=some k∧smF As k=some pr∧k∈ps:=by
 have e:=congrArg (fun l=>l[i]?) (zg5 (As:=As) (ps:=ps))
 rw[List.getElem?_map,List.getElem?_map,h]at e
 obtain⟨k,h1,h2⟩:=Option.map_eq_some_iff.mp e
 exact⟨k,h1,h2,(zjj (List.mem_of_getElem? h1)).1⟩
theorem zdj {T:List Tm} {f:Int→Int} {a b:Int} (ha:InR T.length a) (hb:InR T.length b):alikeB f T a b=true↔zb3 T f a b:=by
 obtain⟨e1,_⟩:=zed ha
 obtain⟨e2,_⟩:=zed hb
 unfold alikeB zb3
 constructor
 ·intro h
  rw[Bool.and_eq_true,Bool.and_eq_true]at h
  obtain⟨h1,h2,h3⟩:=h
  refine⟨_,_,e1,e2,of_decide_eq_true h1,?_⟩
  rw[←zfj f _ _ (of_decide_eq_true h2)]at h3
  exact of_decide_eq_true h3
 ·rintro ⟨t,u,h1,h2,h3,h4⟩
  cases e1.symm.trans h1
  cases e2.symm.trans h2
  have hl:(tG T a).2.length=(tG T b).2.length:=by
   have:=congrArg List.length h4
   simpa using this
  rw[Bool.and_eq_true,Bool.and_eq_true]
  exact⟨decide_eq_true h3,decide_eq_true hl,by rw[←zfj f _ _ hl];exact decide_eq_true h4⟩
theorem zhC {f g:Int→Int} (h:∀ x y,f x=f y→g x=g y):∀ {xs ys:List Int},xs.map f=ys.map f→xs.map g=ys.map g
 | [],[],_=>rfl
 | [],_ :: _,e=>by cases e
 | _ :: _,[],e=>by cases e
 | x :: xs,y :: ys,e=>by
  rw[List.map_cons,List.map_cons]at e ⊢
  injection e with e1 e2
  rw[h x y e1,zhC h e2]
theorem zf2 {T:List Tm} {gs:List (Int × Int)} {L:List Lk} (R:zah T gs L) {g:Int→Int} (G:zbC gs g) (C:zbD T g):∀ x y,hdL L x=hdL L y→g x=g y:=by
 have key:∀ n,∀ l∈L.take n,g l.1=g l.2.1:=fun n=>by
  induction n with
  | zero=>intro l hl;simp at hl
  | succ n ih =>
   intro l hl
   obtain⟨i,hi⟩:=List.mem_iff_getElem?.mp hl
   rw[List.getElem?_take]at hi
   split at hi
   ·rename_i lt
    by_cases e:i < n
    ·exact ih l (List.mem_of_getElem? (i:=i) (by rw[List.getElem?_take,if_pos e];exact hi))
    ·have e:i=n:=by omega
     subst e
     rcases(R i l hi).how with ⟨_,h⟩ | ⟨_,t,u,h1,h2,h3,h4⟩
     ·exact G _ (List.mem_of_getElem? h)
     ·have:=C l.1.toNat l.2.1.toNat t u h1 h2 h3 (zhC (fun x y e=>W51.same_cls g ih e) h4)
      have a:=(R i l hi).a
      have b:=(R i l hi).b
      rw[show((l.1.toNat:Nat):Int)=l.1 by omega,show((l.2.1.toNat:Nat):Int)=l.2.1 by omega]at this
      exact this
   ·cases hi
 intro x y e
 refine W51.same_cls g (fun l hl=>?_) e
 exact key L.length l (by rw[List.take_length];exact hl)
theorem zj8 {T:List Tm} {gs:List (Int × Int)} {L:List Lk} (R:zah T gs L) (h:0 < T.length):L.length < T.length:=by
 obtain⟨xs,x1,x2,x3⟩:=R.his L.length (Nat.le_refl _)
 rw[List.take_length]at x3
 have H:=zii R.inn
 have low:∀ x∈xs,1≤x:=fun x hx=>by
  obtain⟨⟨a,b⟩,c⟩:=x3 x hx
  by_cases e:x=0
  ·subst e
   have h1:=H.le 0
   have h2:=H.in' (a:=0) ⟨by omega,by omega⟩
   omega
  ·omega
 have:=zbi (T.length - 1) (xs:=xs.map (· - 1)) (List.pairwise_map.mpr (x2.imp fun {a b} h e=>h (by omega))) fun y hy=>by
  obtain⟨x,hx,rfl⟩:=List.mem_map.mp hy
  have:=low x hx
  have:=(x3 x hx).1.2
  omega
 rw[List.length_map]at this
 omega
theorem zj3 {T:List Tm} {As:List At} {ps rs:List Int} {L:List Lk} (D:Dom T As) (A:zbp T.length (hdL L) (rf rs)) (N:zju (rf rs) T As (ps.map fun k=>-k)):zbC (gsF As ps) (hdL L)∧zbD T (hdL L):=by
 refine⟨fun pr hpr=>?_,fun a b t u ha hb h1 h2=>?_⟩
 ·obtain⟨k,hk,e⟩:=zjm hpr
  obtain⟨x,y⟩:=pr
  have:=zgm e
  obtain⟨ix,iy⟩:=zee D e
  exact(A x y ix iy).mpr (N.1 (-k) (List.mem_map.mpr ⟨k,hk,rfl⟩) (by omega) x y (by rw[Int.neg_neg];exact e))
 ·have la:=(List.getElem?_eq_some_iff.mp ha).1
  have lb:=(List.getElem?_eq_some_iff.mp hb).1
  have ia:InR T.length (a:Int):=⟨by omega,by omega⟩
  have ib:InR T.length (b:Int):=⟨by omega,by omega⟩
  have at_:zb3 T (hdL L) (a:Int) (b:Int):=⟨t,u,ha,hb,h1,h2⟩
  have ta:zb3 T (hdL L) (b:Int) (a:Int):=⟨u,t,hb,ha,h1.symm,h2.symm⟩
  rcases Nat.lt_trichotomy a b with c | c | c
  ·have:=(zdj ib ia).mpr ta
   rw[zcx D A ib ia]at this
   exact((A _ _ ib ia).mpr (N.2 b a c lb this)).symm
  ·rw[c]
  ·have:=(zdj ia ib).mpr at_
   rw[zcx D A ia ib]at this
   exact(A _ _ ia ib).mpr (N.2 a b c la this)
theorem zgp {n:Nat} {f:Int→Int} {rs:List Int} {a b:Int} (A:zbp n f (rf rs)) (h:rs.length=n) (ha:InR n a) (hb:InR n b):zbp n (mrg f a b) (rf (zcP rs a b)):=fun t u ht hu=>by
 rw[zhv (by rw[h];exact ht),zhv (by rw[h];exact hu)]
 exact ziV A ha hb t u ht hu
theorem zjR {T:List Tm} {As:List At} {ps rs:List Int} {L:List Lk} {lk:Lk} (D:Dom T As) (A:zbp T.length (hdL L) (rf rs)) (h:rs.length=T.length) (R:zah T (gsF As ps) L) (N:zit (rf rs) T As (ps.map fun k=>-k) lk):∃ l,zah T (gsF As ps) (L++[l])∧zbp T.length (hdL (L++[l])) (rf (zcP rs lk.1 lk.2.1)):=by
 obtain⟨⟨i1,i2,_,_⟩,nn,how⟩:=N
 have new:hdL L lk.1≠hdL L lk.2.1:=fun e=>nn ((A _ _ i1 i2).mp e)
 have ag:∀ z,zbp T.length (hdL (L++[(lk.1,lk.2.1,z)])) (rf (zcP rs lk.1 lk.2.1)):=fun z=>by
  rw[zbs]
  exact zgp A h i1 i2
 rcases how with ⟨_,hm,e⟩ | ⟨_,e⟩
 ·obtain⟨k,hk,ek⟩:=List.mem_map.mp hm
  have:k=lk.2.2:=by omega
  rw[this]at hk
  obtain⟨i,hi⟩:=List.mem_iff_getElem?.mp (gs_of hk e)
  exact⟨(lk.1,lk.2.1,(i:Int)),R.snoc ⟨i1,i2,new,.inl ⟨by show(0:Int)≤(i:Int);omega,by show(gsF As ps)[((i:Int)).toNat]?=_;rw[Int.toNat_natCast];exact hi⟩⟩,ag _⟩
 ·refine⟨(lk.1,lk.2.1,-1),R.snoc ⟨i1,i2,new,.inr ⟨rfl,?_⟩⟩,ag _⟩
  rw[←zcx D A i1 i2]at e
  exact(zdj i1 i2).mp e
theorem zcS:∀ {xs ys:List Int},xs.Perm ys→xs.Pairwise (·≤·)→ys.Pairwise (·≤·)→xs=ys:=fun h1 h2 h3=>h1.eq_of_pairwise (fun a b _ _ h4 h5=>by omega) h2 h3
end K51
namespace K51
open PySem L2
theorem zig {As:List At} {ps:List Int} {i:Nat} {k:Int} (h:ps[i]?=some k):hsF As (ps.take (i+1))=hsF As (ps.take i)++(if(smF As k).isSome=true then [k] else []):=by
 unfold hsF
 rw[zai h,List.filter_append]
 congr 1
 by_cases c:(smF As k).isSome=true
 ·simp [c]
 ·simp [c]
def ngF (ps:List Int):List Int:=(ps.filter fun k=>decide (k < 0)).map fun k=>-k
theorem zfp {ps:List Int} {i:Nat} {k:Int} (h:ps[i]?=some k):ngF (ps.take (i+1))=ngF (ps.take i)++(if k < 0 then [-k] else []):=by
 unfold ngF
 rw[zai h,List.filter_append,List.map_append]
 congr 1
 by_cases c:k < 0
 ·simp [c]
 ·simp [c]
theorem zjc (ps:List Int):(ngF ps).length≤ps.length:=by
 unfold ngF
 rw[List.length_map]
 exact List.length_filter_le _ _
section
variable {P:Program} {w:World} {K:W.Frag} {mg:Str→Option Value} {base:Heap} {aK C CN CT CP CM:Addr} {f fS fH fL fD:Addr} {fd dS dH dL' dD:FuncData}
def zgk (K:W.Frag) (C:Addr):Sp:=fun vs H Q _=>∃(p tl al rl q:Addr) (T:List Tm) (As:List At) (Rs:List (List Int)) (ps:List Int),vs=[.ref p,.ref q]∧PrD K C H p tl al rl T As Rs∧SqI K H q ps∧ps.length≤1000∧∀(H':Hp) (l:Addr),ao H H'→H l=none→H' l=some (.lst ((hsF As ps).map V.int))→Q (.ref l) H'
theorem zhN:zae ["problem","held"] ["problem","held"] (ar zcu):=⟨rfl,rfl,rfl,by decide +kernel,rfl,by decide +kernel,by decide +kernel⟩
theorem zlf (F:Fun K "held_same" "held_same" zcu f fd) (BS:FB P w K mg base CX0 1 "sameness" fS dS ["problem","number"] (zct K C)):aH P w K mg base CX0 2 f fd ["problem","held"] (zgk K C):=by
 refine F.ok zhN (fun vs H Q E h=>?_) (fun cdv A outer s H vs Q E hr h=>?_)
 ·obtain⟨p,tl,al,rl,q,T',As,Rs,ps,rfl,_⟩:=h
  rfl
 obtain⟨p,tl,al,rl,q,T',As,Rs,ps,rfl,S,hq,p1000,Q0⟩:=h
 refine⟨_,(ak (aB (zeh (N':=["part","problem"]) (ix:=[0]) rfl rfl (by decide +kernel) (by decide +kernel) rfl (fun ok=>zb1 (sc:=ar zcu) ok rfl (by decide +kernel) (by decide +kernel)) (by decide +kernel) rfl rfl (fun j i h=>match j,h with | 0,h=>by cases h;exact⟨_,rfl,rfl,.inl rfl,.inl rfl⟩ | n+1,h=>by simp at h) (zgr (pv 1)) (fun _ _ _ _=>(aw zh9 (ax BS.ok hr rfl BS.m BS.kp BS.b .nil aE (aa (pv 1) (aa (pv 0) ac))) zb0 (aF _))) (fun _ _ _ _=>(pv 0))))),?_⟩
 refine⟨_,rfl,q,ps,rfl,hq,fun J ⟨Ok,W,ok,yl'⟩ D hD=>zdd W (fun i us H'=>ao H H'∧us=(hsF As (ps.take i)).map V.int) (fun i us H' ⟨s1,_⟩=>ok _ s1) ⟨ai hD _,rfl⟩ ?_ ?_⟩
 ·rintro i us H9 x H3 hi hly hDs ⟨s3,rfl⟩ yy
  obtain⟨rfl,k,hk,rfl⟩:=yl' _ _ _ _ s3 yy
  refine⟨_,rfl,_,rfl,p,tl,al,rl,T',As,Rs,k,rfl,(S.same s3).pr,fun e H4 s4=>?_,fun x y e H4 a s4 ha=>?_⟩
  ·refine⟨rfl,_,rfl,aP (zch hi hly (s4 _ _ hDs) ⟨s3.trans s4,?_⟩)⟩
   rw[zig hk,e]
   show _=(_++[]).map _
   rw[List.append_nil]
  ·refine⟨rfl,_,rfl,zaK ⟨_,rfl,zaQ (sz _ (by omega)) hi hly (s4 _ _ hDs) ⟨(s3.trans s4).upd hD,?_⟩⟩⟩
   rw[zig hk,e,if_pos (show(some (x,y)).isSome=true from rfl),List.map_append]
   rfl
 ·rintro us H3 hDs ⟨s3,rfl⟩
  rw[List.take_of_length_le (Nat.le_refl _)]at hDs
  exact Q0 H3 D s3 hD hDs
def zgF (K:W.Frag) (C:Addr):Sp:=fun vs H Q _=>∃(p tl al rl q:Addr) (T:List Tm) (As:List At) (Rs:List (List Int)) (ps:List Int),vs=[.ref p,.ref q]∧PrD K C H p tl al rl T As Rs∧SqI K H q ps∧ps.length≤1000∧∀(H':Hp) (l:Addr) (us:List V) (L:List Lk),ao H H'→H' l=some (.lst us)→ah K H' (L.map dL) us→zah T (gsF As ps) L→zbC (gsF As ps) (hdL L)→zbD T (hdL L)→L=zel T (gsF As ps)→Q (.ref l) H'
theorem zgV:zae ["problem","held"] ["problem","held"] (ar zb7):=⟨rfl,rfl,rfl,by decide +kernel,rfl,by decide +kernel,by decide +kernel⟩
theorem zjI (F:Fun K "same_links" "same_links" zb7 f fd) (T:Txt K mg aK C CN CT CP CM) (BS:FB P w K mg base CX0 1 "sameness" fS dS ["problem","number"] (zct K C)) (BH:FB P w K mg base CX0 2 "held_same" fH dH ["problem","held"] (zgk K C)) (BL:FB P w K mg base CX0 4 "links" fL dL' ["terms","given"] (W51.sp_links K)):aH P w K mg base CX0 5 f fd ["problem","held"] (zgF K C):=by
 refine F.ok zgV (fun vs H Q E h=>?_) (fun cdv A outer s H vs Q E hr h=>?_)
 ·obtain⟨p,tl,al,rl,q,T',As,Rs,ps,rfl,_⟩:=h
  rfl
 obtain⟨p,tl,al,rl,q,T',As,Rs,ps,rfl,S,hq,p1000,Q0⟩:=h
 have hr1:aO 1 _:=hr.mono (by decide)
 have hr2:aO 2 _:=hr.mono (by decide)
 obtain⟨⟨dx,ho⟩,⟨ts,ht,hT⟩,_⟩:=id S.pr
 have hl:(hsF As ps).length≤1000:=Nat.le_trans (List.length_filter_le _ _) p1000
 refine⟨_,(ak (aB (ax BL.ok hr rfl BL.m BL.kp BL.b .nil aE (aa (zaj (pv 0) rfl) (aa (zdr (N':=["part","problem"]) (ix:=[0]) rfl rfl (by decide +kernel) (by decide +kernel) rfl (fun ok=>zb1 (sc:=ar zb7) ok rfl (by decide +kernel) (by decide +kernel)) (by decide +kernel) rfl rfl (fun j i h=>match j,h with | 0,h=>by cases h;exact⟨_,rfl,rfl,.inl rfl,.inl rfl⟩ | n+1,h=>by simp at h) (zbq (ax BH.ok hr2 rfl BH.m BH.kp BH.b .nil aE (aa (pv 0) (aa (pv 1) ac)))) (fun _ _ _ _=>(ax BS.ok hr1 rfl BS.m BS.kp BS.b .nil aE (aa (pv 1) (aa (pv 0) ac))))) ac))))),?_⟩
 refine⟨_,rfl,p,C,dx,_,_,rfl,ho,T.cl,T.nT,zan _ _ _,_,rfl,_,rfl,p,tl,al,rl,q,T',As,Rs,ps,rfl,S,hq,p1000,fun H1 hl1 s1 _ h1=>?_⟩
 refine⟨hl1,rfl,⟨_,SqL.of h1⟩,fun D hD=>zcM zbd (fun i us H'=>ao H1 H'∧ah K H' (((gsF As ps).take i).map dP) us) (fun i us H' ⟨s2,_⟩=>s2.seq (SqL.of h1)) ⟨ai hD _,ah.nil⟩ ?_ ?_⟩
 ·rintro i us H9 x H2 hi hly hDs ⟨s2,hus⟩ ⟨rfl,hx⟩
  obtain⟨k,hk,rfl⟩:=zaT (hx _ (s2.seq (SqL.of h1)))
  obtain⟨_,⟨x,y⟩,e⟩:=zjj (List.mem_of_getElem? hk)
  have s02:=s1.trans s2
  refine⟨_,rfl,_,rfl,p,tl,al,rl,T',As,Rs,k,rfl,(S.same s02).pr,fun z=>(by rw[e]at z;cases z),fun x' y' z H3 a s3 ha=>?_⟩
  rw[e]at z
  cases z
  have hg:(gsF As ps)[i]?=some (x,y):=by
   have e2:=congrArg (fun l=>l[i]?) (zg5 (As:=As) (ps:=ps))
   rw[List.getElem?_map,List.getElem?_map,hk]at e2
   have e2:some (smF As k)=((gsF As ps)[i]?).map some:=e2
   rw[e]at e2
   cases q:(gsF As ps)[i]? with
   | none=>rw[q]at e2;cases e2
   | some pr=>rw[q]at e2;cases e2;rfl
  have kt:=zag.lst (ys:=us++[.ref a]) (s3 _ _ hDs)
  refine zaQ (sz _ (by rw[List.length_map];exact hl)) hi hly (s3 _ _ hDs) ⟨(s2.trans s3).upd hD,?_⟩
  rw[zai hg,List.map_append]
  exact ah.append (ah.keep (s3.kt.trans kt) (za9 _) hus) (ah.one (Has.tup' (kt.sq ha) (.cons Has.int (.cons Has.int .nil))))
 rintro us H2 hDs ⟨s2,hus⟩
 rw[List.length_map,zjk,List.take_of_length_le (Nat.le_refl _)]at hus
 have s02:=s1.trans s2
 refine⟨tl,D,ts,us,gsF As ps,T',rfl,SqL.of (s02 _ _ ht),ah.keep s02.kt (zc3 _) hT,SqL.of hDs,hus,fun pr hpr=>?_,(fun t htt=>Nat.le_trans (S.t3 t htt) (by decide)),S.tN,by rw[←zjk];exact hl,fun H3 l L zs s3 _ h3 hL R G Cl e=>Q0 H3 l zs L (s02.trans s3) h3 hL R G Cl e⟩
 obtain⟨k,_,e⟩:=zjm hpr
 exact zee S.dm e
def zh1 (K:W.Frag) (C:Addr):Sp:=fun vs H Q _=>∃(p tl al rl q l:Addr) (T:List Tm) (As:List At) (Rs:List (List Int)) (ps:List Int) (us:List V) (L:List Lk),vs=[.ref p,.ref q,.ref l]∧PrD K C H p tl al rl T As Rs∧SqI K H q ps∧ps.length < 64∧SqL K H l us∧ah K H (L.map dL) us∧InN T.length L∧L.length≤100 ∧
 ∀ ms:List Int,ms.Perm (ngF ps)→ms.Pairwise (·≤·)→((ms.filter (zaL (hdL L) As)=[]→∀ H',ao H H'→Q .non H')∧∀ d r,ms.filter (zaL (hdL L) As)=d :: r→∀ H',ao H H'→Q (.int d) H')
theorem zbL:zae ["problem","held","found","least","atom","pair"] ["problem","held","found"] (ar zbV):=⟨rfl,rfl,rfl,by decide +kernel,rfl,by decide +kernel,by decide +kernel⟩
theorem zlg (F:Fun K "clashing_atom" "clashing_atom" zbV f fd) (T:Txt K mg aK C CN CT CP CM) (msort:mg "sorted"=none) (BS:FB P w K mg base CX0 1 "sameness" fS dS ["problem","number"] (zct K C)) (BD:FB P w K mg base CX0 4 "heads" fD dD ["many","links"] (W51.sp_heads K)):aH P w K mg base CX0 5 f fd ["problem","held","found"] (zh1 K C):=by
 refine F.ok zbL (fun vs H Q E h=>?_) (fun cdv A outer s H vs Q E hr h=>?_)
 ·obtain⟨p,tl,al,rl,q,l,T',As,Rs,ps,us,L,rfl,_⟩:=h
  rfl
 obtain⟨p,tl,al,rl,q,l,T',As,Rs,ps,us,L,rfl,S,hq,p64,hS,hL,inn,l100,Q0⟩:=h
 have hr1:aO 1 _:=hr.mono (by decide)
 obtain⟨⟨dx,ho⟩,⟨ts,ht,hT⟩,_⟩:=id S.pr
 have tl':ts.length=T'.length:=by rw[←hT.length,List.length_map]
 have tN:=S.tN
 refine⟨_,(af (ay (i:=3) zbL.nd rfl (Or.inl rfl) (ax BD.ok hr rfl BD.m BD.kp BD.b .nil aE (aa (zaa zab rfl T.len PySem.boot_len (aa (zaj (pv 0) rfl) ac)) (aa (pv 2) ac))))
  (af (zaE PassesOwn.never rfl (zbq (zaa zca rfl msort PyProof.Rows.Boot.sorted (aa (zeh (N':=["part"]) (ix:=[]) rfl rfl (by decide +kernel) (by decide +kernel) rfl (fun _=>⟨[],zbK (by decide +kernel) (by decide +kernel)⟩) (by decide +kernel) rfl rfl (fun j i h=>by simp at h) (zgr (pv 1)) (fun _ _ _ _=>(aw zeC (pv 0) ae (aF _))) (fun _ _ _ _=>(zcc zbB (pv 0)))) ac))) (zam (i:=4) zbL.nd rfl (Or.inl rfl))
   (af (ay (i:=5) zbL.nd rfl (Or.inl rfl) (ax BS.ok hr1 rfl BS.m BS.kp BS.b .nil aE (aa (pv 0) (aa (pv 4) ac))))
    (ak (zal (PW.pt (zbZ (aw zh9 (pv 5) zb0 (aF _)) (zcf (aw zaO (aq zad (pv 3) (aq au (pv 5) ae (fun _ _=>rfl)) (fun _ _=>rfl)) (aq zad (pv 3) (aq au (pv 5) ae (fun _ _=>rfl)) (fun _ _=>rfl)) (aF _)))))
     (ak (aB (pv 4)))
     zaf))))
  (ak (aB zb0)))),?_⟩
 refine⟨_,rfl,p,C,dx,_,_,rfl,ho,T.cl,T.nT,zan _ _ _,tl,_,rfl,.inl (SqL.of ht),_,rfl,l,ts.length,us,L,T'.length,rfl,hS,hL,inn,tN,by omega,by omega,fun H1 hd s1 _ h1=>?_⟩
 have h1':H1 hd=some (.lst ((hdsG (hdL L) T'.length).map V.int)):=by rw[←tl'];exact h1
 refine⟨_,rfl,q,ps,rfl,hq.same s1,fun J ⟨Ok,W,ok,yl'⟩ D hD=>zdd W (fun i us H'=>ao H1 H'∧us=(ngF (ps.take i)).map V.int) (fun i us H' ⟨s2,_⟩=>ok _ s2) ⟨ai hD _,rfl⟩ ?_ ?_⟩
 ·rintro i us H9 x H3 hi hly hDs ⟨s3,rfl⟩ yy
  obtain⟨rfl,k,hk,rfl⟩:=yl' _ _ _ _ s3 yy
  refine⟨_,rfl,_,_,rfl,rfl,_,rfl,zaq (fun c=>?_) (fun c=>?_)⟩
  ·refine⟨_,rfl,_,rfl,zaQ (sz _ (by omega)) hi hly hDs ⟨s3.upd hD,?_⟩⟩
   rw[zfp hk,if_pos (of_decide_eq_true c),List.map_append]
   rfl
  ·refine zch hi hly hDs ⟨s3,?_⟩
   rw[zfp hk,if_neg (fun z=>c (decide_eq_true z)),List.append_nil]
 rintro vs H2 hDs ⟨s2,rfl⟩
 rw[List.take_of_length_le (Nat.le_refl _)]at hDs
 have nl:=zjc ps
 refine⟨D,ngF ps,rfl,SqL.of hDs,by omega,fun so ms hso pm pw=>?_⟩
 have s3:=ai hso (.lst (ms.map V.int))
 have n3:=ad (H:=H2) (a:=so) (o:=.lst (ms.map V.int))
 generalize upd H2 so (.lst (ms.map V.int))=H3 at s3 n3
 obtain⟨q0,q1⟩:=Q0 ms pm pw
 have s03:=(s1.trans s2).trans s3
 have h3:=(s2.trans s3) _ _ h1'
 refine⟨so,rfl,⟨_,SqL.of n3⟩,zbx zbd (fun i σ H'=>∃ v4 v5:Option V,σ=[some (.ref p),some (.ref q),some (.ref l),some (.ref hd),v4,v5]∧ao H3 H'∧(ms.take i).filter (zaL (hdL L) As)=[]) (fun i σ H' ⟨_,_,_,s4,_⟩=>s4.seq (SqL.of n3)) ⟨none,none,rfl,ao.refl _,rfl⟩ ?_ ?_⟩
 ·rintro i σ H9 x H4 hi ⟨v4,v5,rfl,s4,no⟩ ⟨rfl,hx⟩
  obtain⟨k,hk,rfl⟩:=zaT (hx _ (s4.seq (SqL.of n3)))
  have s04:=s03.trans s4
  refine⟨_,rfl,_,rfl,p,tl,al,rl,T',As,Rs,k,rfl,(S.same s04).pr,fun e H5 s5=>?_,fun x y e H5 a s5 ha=>?_⟩
  ·refine⟨_,rfl,rfl,_,rfl,aP (aP ⟨_,_,rfl,s4.trans s5,?_⟩)⟩
   have:zaL (hdL L) As k=false:=by unfold zaL;rw[e]
   rw[zai hk,List.filter_append,no,List.filter_cons_of_neg (by rw[this];decide)]
   rfl
  ·obtain⟨ix,iy⟩:=zee S.dm e
   have sk:zaL (hdL L) As k=decide (hdL L x=hdL L y):=by unfold zaL;rw[e]
   have h5:=(s4.trans s5) _ _ h3
   have b0:atI [V.int x,V.int y] 0=some (.int x):=aA (j:=0) rfl
   have b1:atI [V.int x,V.int y] 1=some (.int y):=aA (j:=1) rfl
   refine⟨_,rfl,rfl,_,rfl,zaK ⟨_,rfl,_,rfl,a,_,_,_,rfl,rfl,ha,b0,hd,_,_,_,rfl,rfl,SqL.of h5,zih _ ix.1 ix.2,_,rfl,_,rfl,a,_,_,_,rfl,rfl,ha,b1,hd,_,_,_,rfl,rfl,SqL.of h5,zih _ iy.1 iy.2,rfl,_,rfl,?_⟩⟩
   rw[zdk,←sk]
   cases es:zaL (hdL L) As k with
   | true =>
    refine zaK ⟨_,rfl,q1 k ((ms.drop (i+1)).filter (zaL (hdL L) As)) ?_ H5 (s04.trans s5)⟩
    obtain⟨lt,ek⟩:=List.getElem?_eq_some_iff.mp hk
    conv=>lhs;rw[←List.take_append_drop i ms,List.drop_eq_getElem_cons lt,ek]
    rw[List.filter_append,no,List.nil_append,List.filter_cons_of_pos es]
   | false =>
    refine aP ⟨_,_,rfl,s4.trans s5,?_⟩
    rw[zai hk,List.filter_append,no,List.filter_cons_of_neg (by rw[es];decide)]
    rfl
 ·rintro σ H4 ⟨v4,v5,rfl,s4,no⟩
  rw[List.length_map,List.take_length]at no
  exact q0 no H4 (s03.trans s4)
end
end K51
namespace K51
open PySem L2
def mk1 (hs:List Int) (l:Lk):Lk:=(l.1,l.2.1,if l.2.2=-1 then 0 else hs.getD l.2.2.toNat 0)
def ptF (d:Int) (B:List Lk):List Int:=d :: (B.filter fun b=>decide (b.2.2 > 0)).map fun b=>-b.2.2
def zdf (K:W.Frag) (H:Hp) (a:Addr) (d:Int) (B:List Lk):Prop:=∃(pa ma:Addr) (bs:List V),SqT K H a [.str "equal",.ref pa,.ref ma]∧SqT K H pa ((ptF d B).map V.int)∧SqT K H ma bs∧ah K H (B.map dL) bs
theorem zdf.same {K:W.Frag} {H H':Hp} {a:Addr} {d:Int} {B:List Lk} (h:zdf K H a d B) (s:ao H H'):zdf K H' a d B:=by
 obtain⟨pa,ma,bs,h1,h2,h3,h4⟩:=h
 exact⟨pa,ma,bs,s.tup h1,s.tup h2,s.tup h3,ah.keep s.kt (zaF _) h4⟩
theorem zh8 {L:List Lk} {π ρ:List Nat} {a b:Int} {q:Nat} (F:W51.Forest L) (P:W51.PathOk L π a b) (hq:q∈π) (R:W51.PathOk L ρ a b):q∈ρ:=by
 refine Decidable.byContradiction fun n=>?_
 obtain⟨c,hc⟩:=W51.cut_at F (P.inn q hq)
 refine P.cut q hq c hc ?_
 have e:(if c a=true then(1:Int) else 0)=if c b=true then 1 else 0:=R.walk (fun t=>if c t=true then 1 else 0) fun r hr l hl=>by
  have:=hc r l hl
  rw[if_neg (fun e:r=q=>n (e ▸ hr))]at this
  rw[this]
 revert e
 cases c a <;> cases c b <;> simp
theorem zgL {T:List Tm} {gs:List (Int × Int)} {L:List Lk} {x y:Int} {M M':List Nat} (h:W51.Needs T L x y M) (h':W51.Needs T L x y M') (R:zah T gs L):∀ q∈M,q∈M':=by
 have F:=W51.RightL_forest R
 have key:∀ n,∀ q∈M,L.length≤q+n→q∈M':=fun n=>by
  induction n with
  | zero=>intro q hq hn;have:=h.inn q hq;omega
  | succ n ih =>
   intro q hq hn
   obtain⟨π,a,b,P,hqπ,w⟩:=h.why q hq
   rcases w with ⟨rfl,rfl⟩ | ⟨p,hp,l,hl,hab⟩
   ·obtain⟨ρ,P',sub⟩:=h'.top
    exact sub q (zh8 F P hqπ P')
   ·have low:=P.below F (W51.pairs_joined R hl (a,b) hab) q hqπ
    obtain⟨ρ,P',sub⟩:=h'.all p (ih p hp (by omega)) l hl (a,b) hab
    exact sub q (zh8 F P hqπ P')
 intro q hq
 exact key L.length q hq (by omega)
theorem zf7:∀ {M N:List Nat},M.Pairwise (· < ·)→N.Pairwise (· < ·)→(∀ q,q∈M↔q∈N)→M=N
 | [],[],_,_,_=>rfl
 | [],n :: N,_,_,h=>by have:=(h n).mpr (by simp);simp at this
 | m :: M,[],_,_,h=>by have:=(h m).mp (by simp);simp at this
 | m :: M,n :: N,h1,h2,h=>by
  rw[List.pairwise_cons]at h1 h2
  have e:m=n:=by
   rcases List.mem_cons.mp ((h m).mp (by simp)) with a | a
   ·exact a
   ·rcases List.mem_cons.mp ((h n).mpr (by simp)) with b | b
    ·exact b.symm
    ·have:=h1.1 n b
     have:=h2.1 m a
     omega
  subst e
  congr 1
  refine zf7 h1.2 h2.2 fun q=>⟨fun hq=>?_,fun hq=>?_⟩
  ·rcases List.mem_cons.mp ((h q).mp (List.mem_cons_of_mem _ hq)) with a | a
   ·have:=h1.1 q hq;omega
   ·exact a
  ·rcases List.mem_cons.mp ((h q).mpr (List.mem_cons_of_mem _ hq)) with a | a
   ·have:=h2.1 q hq;omega
   ·exact a
theorem zjS {T:List Tm} {gs:List (Int × Int)} {L:List Lk} {x y:Int} {M M':List Nat} (h:W51.Needs T L x y M) (h':W51.Needs T L x y M') (R:zah T gs L) (so:M.Pairwise (· < ·)) (so':M'.Pairwise (· < ·)):M=M' :=
 zf7 so so' fun q=>⟨zgL h h' R q,zgL h' h R q⟩
theorem zfn {B:List Lk} {i:Nat} {b:Lk} (h:B[i]?=some b):((B.take (i+1)).filter fun b=>decide (b.2.2 > 0)).map (fun b=>-b.2.2)=((B.take i).filter fun b=>decide (b.2.2 > 0)).map (fun b=>-b.2.2)++(if b.2.2 > 0 then [-b.2.2] else []):=by
 rw[zai h,List.filter_append,List.map_append]
 congr 1
 by_cases c:b.2.2 > 0
 ·simp [c]
 ·simp [c]
section
variable {P:Program} {w:World} {K:W.Frag} {mg:Str→Option Value} {base:Heap} {aK C CN CT CP CM CJ:Addr} {f fS fH fW fL fA fE:Addr} {fd dS dH dW dL' dA' dE:FuncData}
def zhq (K:W.Frag) (C:Addr):Sp:=fun vs H Q _=>∃(p tl al rl q l:Addr) (T:List Tm) (As:List At) (Rs:List (List Int)) (ps:List Int) (us:List V) (L:List Lk) (d x y:Int),vs=[.ref p,.ref q,.ref l,.int d]∧PrD K C H p tl al rl T As Rs∧SqI K H q ps∧ps.length≤1000∧SqL K H l us∧ah K H (L.map dL) us∧zah T (gsF As ps) L∧T.length≤60∧smF As d=some (x,y)∧hdL L x=hdL L y ∧
 ∀(H':Hp) (a:Addr) (M:List Nat),ao H H'→zdf K H' a d ((W51.atP L M).map (mk1 (hsF As ps)))→W51.Needs T L x y M→M.Pairwise (· < ·)→Q (.ref a) H'
theorem zbw:zae ["problem","held","found","atom","told","pair","needed","marked","parts"] ["problem","held","found","atom"] (ar zb8):=⟨rfl,rfl,rfl,by decide +kernel,rfl,by decide +kernel,by decide +kernel⟩
theorem zkr (F:Fun K "equal_line" "equal_line" zb8 f fd) (T:Txt K mg aK C CN CT CP CM) (mtuple:mg "tuple"=none) (BS:FB P w K mg base CX0 1 "sameness" fS dS ["problem","number"] (zct K C)) (BH:FB P w K mg base CX0 2 "held_same" fH dH ["problem","held"] (zgk K C)) (BW:FB P w K mg base (CX1 P w) 2 "ways" fW dW ["terms","links","one","other"] (W51.sp_ways K CJ)):aH P w K mg base CX0 3 f fd ["problem","held","found","atom"] (zhq K C):=by
 refine F.ok zbw (fun vs H Q E h=>?_) (fun cdv A outer s H vs Q E hr h=>?_)
 ·obtain⟨p,tl,al,rl,q,l,T',As,Rs,ps,us,L,d,x,y,rfl,_⟩:=h
  rfl
 obtain⟨p,tl,al,rl,q,l,T',As,Rs,ps,us,L,d,x,y,rfl,S,hq,p1000,hS,hL,R,t60,e,hj,Q0⟩:=h
 have hr1:aO 1 _:=hr.mono (by decide)
 obtain⟨⟨dx,ho⟩,⟨ts,ht,hT⟩,_⟩:=id S.pr
 have ll:=R.len
 refine⟨_,(af (ay (i:=4) zbw.nd rfl (Or.inr rfl) (ax BH.ok hr rfl BH.m BH.kp BH.b .nil aE (aa (pv 0) (aa (pv 1) ac))))
  (af (ay (i:=5) zbw.nd rfl (Or.inl rfl) (ax BS.ok hr1 rfl BS.m BS.kp BS.b .nil aE (aa (pv 0) (aa (pv 3) ac))))
  (af (ay (i:=6) zbw.nd rfl (Or.inl rfl) (ax BW.ok hr rfl BW.m BW.kp BW.b .nil zcz (aa (zaj (pv 0) rfl) (aa (pv 2) (aa (aq au (pv 5) ae (fun _ _=>rfl)) (aa (aq au (pv 5) ae (fun _ _=>rfl)) ac))))))
  (af (zfQ (i:=7) (N':=["link","told"]) (ix:=[4]) zbw.nd rfl (Or.inl rfl) rfl rfl (by decide +kernel) (by decide +kernel) rfl (fun ok=>zb1 (sc:=ar zb8) ok rfl (by decide +kernel) (by decide +kernel)) (by decide +kernel) rfl rfl (fun j i h=>match j,h with | 0,h=>by cases h;exact⟨_,rfl,rfl,.inl rfl,.inl rfl⟩ | n+1,h=>by simp at h) (zbq (pv 6)) (fun _ _ _ _=>(zaR (aa (aq (r:=zdD K) au (pv 0) ae (fun _ _=>rfl)) (aa (aq (r:=zdD K) au (pv 0) ae (fun _ _=>rfl)) (aa (zfR (aw zaO (aq (r:=zdD K) au (pv 0) ae (fun _ _=>rfl)) (zcc zbB ae) (aF _)) ae (aq (r:=zez K) zad (pv 1) (aq (r:=zdD K) au (pv 0) ae (fun _ _=>rfl)) (fun _ _=>rfl))) ac))))))
  (af (ay (i:=8) zbw.nd rfl (Or.inl rfl) (az zek (zas (aa (pv 3) ac)) (zeh (N':=["link"]) (ix:=[]) rfl rfl (by decide +kernel) (by decide +kernel) rfl (fun _=>⟨[],zbK (by decide +kernel) (by decide +kernel)⟩) (by decide +kernel) rfl rfl (fun j i h=>by simp at h) (zbq (pv 7)) (fun _ _ _ _=>(aw zdX (aq (r:=zdD K) au (pv 0) ae (fun _ _=>rfl)) ae (aF _))) (fun _ _ _ _=>(zcc zbB (aq (r:=zdD K) au (pv 0) ae (fun _ _=>rfl)))))))
  (ak (aB (zaR (aa zao (aa (zaC za7 rfl mtuple PyProof.Rows.Boot.tuple (aa (pv 8) ac)) (aa (zaC za7 rfl mtuple PyProof.Rows.Boot.tuple (aa (pv 7) ac)) ac))))))))))),?_⟩
 refine⟨_,rfl,_,rfl,p,tl,al,rl,q,T',As,Rs,ps,rfl,S,hq,p1000,fun H1 tol s1 _ h1=>?_⟩
 refine⟨_,rfl,_,rfl,p,tl,al,rl,T',As,Rs,d,rfl,(S.same s1).pr,fun z=>(by rw[e]at z;cases z),fun x' y' z H2 pa s2 hpa=>?_⟩
 rw[e]at z
 cases z
 obtain⟨ix,iy⟩:=zee S.dm e
 have s02:=s1.trans s2
 have b0:atI [V.int x,V.int y] 0=some (.int x):=aA (j:=0) rfl
 have b1:atI [V.int x,V.int y] 1=some (.int y):=aA (j:=1) rfl
 refine⟨_,rfl,p,C,dx,_,_,rfl,s02 _ _ ho,T.cl,T.nT,zan _ _ _,_,rfl,_,rfl,pa,_,_,_,rfl,rfl,hpa,b0,_,rfl,pa,_,_,_,rfl,rfl,hpa,b1,tl,l,x,y,ts,us,T',gsF As ps,L,rfl,SqL.of (s02 _ _ ht),ah.keep s02.kt (zc3 _) hT,s02.seq hS,ah.keep s02.kt (zaF _) hL,(fun t htt=>⟨S.t3 t htt,S.dm.tm t htt⟩),R,t60,ix,iy,fun _ H3 nl M rs s3 _ h3 hrs N lt=>?_,fun z=>absurd hj z⟩
 have s03:=s02.trans s3
 have h1':=(s2.trans s3) _ _ h1
 have rl':rs.length=M.length:=by rw[←hrs.length,List.length_map];unfold W51.atP;rw[List.length_map]
 have ml:M.length≤L.length:=W51.nat_nodup_len _ (lt.imp fun h=>Nat.ne_of_lt h) N.inn
 have aml:(W51.atP L M).length=M.length:=by unfold W51.atP;rw[List.length_map]
 refine⟨_,rfl,nl,rfl,⟨_,SqL.of h3⟩,fun D hD=>zcM zbd (fun i zs H'=>ao H3 H'∧ah K H' ((((W51.atP L M).map (mk1 (hsF As ps))).take i).map dL) zs) (fun i zs H' ⟨s4,_⟩=>s4.seq (SqL.of h3)) ⟨ai hD _,ah.nil⟩ ?_ ?_⟩
 ·rintro i zs H9 z H4 hi hly hDs ⟨s4,hzs⟩ ⟨rfl,hz⟩
  obtain⟨k,pk,hk,rfl,hpk⟩:=zdu hrs (hz _ (s4.seq (SqL.of h3)))
  have hpk4:=s4.tup hpk
  have hmk:((W51.atP L M).map (mk1 (hsF As ps)))[i]?=some (mk1 (hsF As ps) k):=by rw[List.getElem?_map,hk];rfl
  have fin:∀(n:Int),n=(mk1 (hsF As ps) k).2.2→∀(r:Addr),H4 r=none→zf4 rs.length D (fun i zs H'=>ao H3 H'∧ah K H' ((((W51.atP L M).map (mk1 (hsF As ps))).take i).map dL) zs) i zs (.ref r) (upd H4 r (.tup [.int k.1,.int k.2.1,.int n])):=fun n en r hr'=>by
   have s5:ao H4 (upd H4 r (.tup [.int k.1,.int k.2.1,.int n])):=ai hr' _
   have n5:=ad (H:=H4) (a:=r) (o:=.tup [.int k.1,.int k.2.1,.int n])
   generalize upd H4 r (.tup [.int k.1,.int k.2.1,.int n])=H5 at s5 n5
   have kt:=zag.lst (ys:=zs++[.ref r]) (s5 _ _ hDs)
   refine zaQ (sz _ (by omega)) hi hly (s5 _ _ hDs) ⟨(s4.trans s5).upd hD,?_⟩
   rw[zai hmk,List.map_append]
   rw[en]at n5
   exact ah.append (ah.keep (s5.kt.trans kt) (zaF _) hzs) (ah.one (zg3 (l:=mk1 (hsF As ps) k) (kt.sq (SqT.of n5))))
  refine⟨_,rfl,pk,_,_,_,rfl,rfl,hpk4,l0 k,_,rfl,pk,_,_,_,rfl,rfl,hpk4,l1 k,_,rfl,pk,_,_,_,rfl,rfl,hpk4,l2 k,_,rfl,rfl,_,rfl,?_⟩
  rw[zdk]
  by_cases c:k.2.2=-1
  ·rw[decide_eq_true c]
   exact zaK ⟨lS3,fun r hr'=>fin 0 (by unfold mk1;rw[if_pos c]) r hr'⟩
  ·rw[decide_eq_false c]
   obtain⟨qi,hqi,eqi⟩:=W51.of_atP N.inn (List.mem_of_getElem? hk)
   rcases(R qi k eqi).how with ⟨k0,hg⟩ | ⟨z,_⟩
   ·obtain⟨m,hm,_,_⟩:=gs_at hg
    have at1:atI ((hsF As ps).map V.int) k.2.2=some (.int m):=by
     have:atI ((hsF As ps).map V.int) ((k.2.2.toNat:Nat):Int)=some (.int m):=aA (by rw[List.getElem?_map,hm];rfl)
     rw[show((k.2.2.toNat:Nat):Int)=k.2.2 by omega]at this
     exact this
    exact aP ⟨_,rfl,_,rfl,pk,_,_,_,rfl,rfl,hpk4,l2 k,tol,_,_,_,rfl,rfl,s4.seq (SqL.of h1'),at1,lS3,fun r hr'=>fin m (by unfold mk1;rw[if_neg c,List.getD_eq_getElem?_getD,hm];rfl) r hr'⟩
   ·exact absurd z c
 rintro zs H4 hDs ⟨s4,hzs⟩
 rw[List.take_of_length_le (by rw[List.length_map,aml];omega)]at hzs
 have zl:zs.length=M.length:=by rw[←hzs.length,List.length_map,List.length_map,aml]
 generalize eB:(W51.atP L M).map (mk1 (hsF As ps))=B at hzs
 have bl:B.length=M.length:=by rw[←eB,List.length_map,aml]
 have s04:=s03.trans s4
 refine⟨_,rfl,lS1,fun o ho'=>?_⟩
 have s5:=ai ho' (.lst [.int d])
 have n5:=ad (H:=H4) (a:=o) (o:=.lst [.int d])
 have hD5:=s5 _ _ hDs
 have hzs5:=ah.keep s5.kt (zaF _) hzs
 generalize upd H4 o (.lst [.int d])=H5 at s5 n5 hD5 hzs5
 refine⟨_,rfl,D,rfl,⟨_,SqL.of hD5⟩,fun D2 hD2=>zdd zbd (fun i vs H'=>ao H5 H'∧vs=(((B.take i).filter fun b=>decide (b.2.2 > 0)).map fun b=>-b.2.2).map V.int) (fun i vs H' ⟨s6,_⟩=>s6.seq (SqL.of hD5)) ⟨ai hD2 _,rfl⟩ ?_ ?_⟩
 ·rintro i vs H9 z H6 hi hly hDs6 ⟨s6,rfl⟩ ⟨rfl,hz⟩
  obtain⟨k,pk,hk,rfl,hpk⟩:=zdu hzs5 (hz _ (s6.seq (SqL.of hD5)))
  refine⟨_,rfl,pk,_,_,_,rfl,rfl,s6.tup hpk,l2 k,_,_,rfl,rfl,_,rfl,zaq (fun c=>?_) (fun c=>?_)⟩
  ·refine⟨_,rfl,pk,_,_,_,rfl,rfl,s6.tup hpk,l2 k,_,rfl,zaQ (sz _ (by omega)) hi hly hDs6 ⟨s6.upd hD2,?_⟩⟩
   rw[zfn hk,if_pos (of_decide_eq_true c),List.map_append]
   rfl
  ·refine zch hi hly hDs6 ⟨s6,?_⟩
   rw[zfn hk,if_neg (fun z=>c (decide_eq_true z)),List.append_nil]
 rintro vs H6 hDs6 ⟨s6,rfl⟩
 rw[zl,←bl,List.take_length]at hDs6
 have fl:((B.filter fun b=>decide (b.2.2 > 0)).map fun b=>-b.2.2).length≤60:=by
  rw[List.length_map]
  have:=List.length_filter_le (fun b:Lk=>decide (b.2.2 > 0)) B
  omega
 refine⟨o,D2,_,_,rfl,rfl,s6 _ _ n5,hDs6,sz _ (by rw[List.length_map];show 1+_≤1000;omega),fun o7 ho7=>?_⟩
 have s7:=ai ho7 (.lst ([.int d]++((B.filter fun b=>decide (b.2.2 > 0)).map fun b=>-b.2.2).map V.int))
 have n7:=ad (H:=H6) (a:=o7) (o:=.lst ([.int d]++((B.filter fun b=>decide (b.2.2 > 0)).map fun b=>-b.2.2).map V.int))
 generalize upd H6 o7 (.lst ([.int d]++((B.filter fun b=>decide (b.2.2 > 0)).map fun b=>-b.2.2).map V.int))=H7 at s7 n7
 have n7:H7 o7=some (.lst ((ptF d B).map V.int)):=n7
 refine⟨_,rfl,o7,_,rfl,.inl ⟨SqL.of n7,fun t8 ht8=>?_⟩⟩
 have s8:=ai ht8 (.tup ((ptF d B).map V.int))
 have n8:=ad (H:=H7) (a:=t8) (o:=.tup ((ptF d B).map V.int))
 generalize upd H7 t8 (.tup ((ptF d B).map V.int))=H8 at s8 n8
 have s58:=(s6.trans s7).trans s8
 refine⟨_,rfl,D,_,rfl,.inl ⟨SqL.of (s58 _ _ hD5),fun t9 ht9=>?_⟩⟩
 have s9:=ai ht9 (.tup zs)
 have n9:=ad (H:=H8) (a:=t9) (o:=.tup zs)
 generalize upd H8 t9 (.tup zs)=H9 at s9 n9
 refine⟨lS3,fun r hr'=>?_⟩
 have s10:=ai hr' (.tup [.str "equal",.ref t8,.ref t9])
 have n10:=ad (H:=H9) (a:=r) (o:=.tup [.str "equal",.ref t8,.ref t9])
 generalize upd H9 r (.tup [.str "equal",.ref t8,.ref t9])=H10 at s10 n10
 refine Q0 H10 r M (((s04.trans s5).trans s58).trans (s9.trans s10)) ?_ N lt
 rw[eB]
 exact⟨t8,t9,zs,SqT.of n10,SqT.of (s10 _ _ (s9 _ _ n8)),SqT.of (s10 _ _ n9),ah.keep (s58.trans (s9.trans s10)).kt (zaF _) hzs5⟩
def zhr (K:W.Frag) (C:Addr):Sp:=fun vs H Q _=>∃(p tl al rl q:Addr) (T:List Tm) (As:List At) (Rs:List (List Int)) (ps:List Int),vs=[.ref p,.ref q]∧PrD K C H p tl al rl T As Rs∧SqI K H q ps∧ps.length < 64∧T.length≤60 ∧
 ∀(L:List Lk) (ms:List Int),L=zel T (gsF As ps)→zah T (gsF As ps) L→zbC (gsF As ps) (hdL L)→zbD T (hdL L)→ms.Perm (ngF ps)→ms.Pairwise (·≤·)→(ms.filter (zaL (hdL L) As)=[]→∀ H',ao H H'→Q .non H') ∧
  ∀(d:Int) (r:List Int) (x y:Int) (M:List Nat) (H':Hp) (a:Addr),ms.filter (zaL (hdL L) As)=d :: r→smF As d=some (x,y)→hdL L x=hdL L y→W51.Needs T L x y M→M.Pairwise (· < ·)→ao H H'→zdf K H' a d ((W51.atP L M).map (mk1 (hsF As ps)))→Q (.ref a) H'
theorem zfM:zae ["problem","held","found","atom"] ["problem","held"] (ar zfm):=⟨rfl,rfl,rfl,by decide +kernel,rfl,by decide +kernel,by decide +kernel⟩
theorem zks (F:Fun K "clash" "clash" zfm f fd) (BL:FB P w K mg base CX0 5 "same_links" fL dL' ["problem","held"] (zgF K C)) (BA:FB P w K mg base CX0 5 "clashing_atom" fA dA' ["problem","held","found"] (zh1 K C)) (BE:FB P w K mg base CX0 3 "equal_line" fE dE ["problem","held","found","atom"] (zhq K C)):aH P w K mg base CX0 6 f fd ["problem","held"] (zhr K C):=by
 refine F.ok zfM (fun vs H Q E h=>?_) (fun cdv A outer s H vs Q E hr h=>?_)
 ·obtain⟨p,tl,al,rl,q,T',As,Rs,ps,rfl,_⟩:=h
  rfl
 obtain⟨p,tl,al,rl,q,T',As,Rs,ps,rfl,S,hq,p64,t60,Q0⟩:=h
 have hr3:aO 3 _:=hr.mono (by decide)
 refine⟨_,(af (ay (i:=2) zfM.nd rfl (Or.inl rfl) (ax BL.ok hr rfl BL.m BL.kp BL.b .nil aE (aa (pv 0) (aa (pv 1) ac))))
  (af (ay (i:=3) zfM.nd rfl (Or.inl rfl) (ax BA.ok hr rfl BA.m BA.kp BA.b .nil aE (aa (pv 0) (aa (pv 1) (aa (pv 2) ac)))))
  (af (zal (aw zf1 (pv 3) zb0 (aF _))
   (ak (aB zb0))
   zaf)
  (ak (aB (ax BE.ok hr3 rfl BE.m BE.kp BE.b .nil aE (aa (pv 0) (aa (pv 1) (aa (pv 2) (aa (pv 3) ac)))))))))),?_⟩
 refine⟨_,rfl,_,rfl,p,tl,al,rl,q,T',As,Rs,ps,rfl,S,hq,by omega,fun H1 l us L s1 h1 hL R G Cl eL=>?_⟩
 have ll:=R.len
 refine⟨_,rfl,_,rfl,_,rfl,p,tl,al,rl,q,l,T',As,Rs,ps,us,L,rfl,S.same s1,hq.same s1,p64,SqL.of h1,hL,R.inn,by omega,fun ms pm pw=>⟨fun e H2 s2=>?_,fun d r e H2 s2=>?_⟩⟩
 ·exact⟨_,rfl,rfl,_,rfl,zaK ((Q0 L ms eL R G Cl pm pw).1 e H2 (s1.trans s2))⟩
 ·refine⟨_,rfl,rfl,_,rfl,zaq (fun c=>absurd (of_decide_eq_true c) (by intro z;cases z)) (fun c=>?_)⟩
  have hd:zaL (hdL L) As d=true:=(List.mem_filter.mp (by rw[e];exact List.mem_cons_self:d∈ms.filter (zaL (hdL L) As))).2
  obtain⟨x,y,e1,e2⟩:∃ x y,smF As d=some (x,y)∧hdL L x=hdL L y:=by
   unfold zaL at hd
   cases z:smF As d with
   | none=>rw[z]at hd;cases hd
   | some pr=>rw[z]at hd;exact⟨pr.1,pr.2,rfl,of_decide_eq_true hd⟩
  have s02:=s1.trans s2
  exact⟨_,rfl,_,rfl,_,rfl,_,rfl,p,tl,al,rl,q,l,T',As,Rs,ps,us,L,d,x,y,rfl,S.same s02,hq.same s02,by omega,SqL.of (s2 _ _ h1),ah.keep s2.kt (zaF _) hL,R,t60,e1,e2,fun H3 a M s3 hA N lt=>(Q0 L ms eL R G Cl pm pw).2 d r x y M H3 a e e1 e2 N lt (s02.trans s3) hA⟩
end
end K51
namespace K51
open PySem L2
theorem zdQ:∀ As:List At,zaW (As.map dA)=true
 | []=>by simp [zaW]
 | .plain z :: As=>by simp [zaW,dA,nol,zdQ As]
 | .same a b :: As=>by simp [zaW,dA,nol,zdQ As]
theorem PIn.neg {m:Nat} {p:Int} (h:PIn m p):PIn m (-p):=⟨by have:=h.1;omega,by have:=h.2.2;omega,by have:=h.2.1;omega⟩
section
variable {P:Program} {w:World} {K:W.Frag} {mg:Str→Option Value} {base:Heap} {aK C CN CT CP CM:Addr} {f fN fM fJ:Addr} {fd dN dM dJ:FuncData}
def zf5 (K:W.Frag) (C:Addr):Sp:=fun vs H Q _=>∃(p tl al rl q:Addr) (T:List Tm) (As:List At) (Rs:List (List Int)) (ps:List Int),vs=[.ref p,.ref q]∧PrD K C H p tl al rl T As Rs∧SqL K H q (ps.map V.int)∧(∀ k∈ps,PIn As.length k)∧ps.length≤1000∧0 < T.length ∧
 ∀(H':Hp) (r:Addr) (rs:List Int) (L:List Lk),ao H H'→H' r=some (.lst (rs.map V.int))→rs.length=T.length→zah T (gsF As ps) L→zbC (gsF As ps) (hdL L)→zbD T (hdL L)→zbp T.length (hdL L) (rf rs)→Q (.ref r) H'
theorem zbm:zae ["_law_problem","_law_held","_law_roots","_law_step","_law_bond"] ["_law_problem","_law_held"] (ar zcH):=⟨rfl,rfl,rfl,by decide +kernel,rfl,by decide +kernel,by decide +kernel⟩
theorem ziI (F:Fun K "_law_joined_by" "_law_joined_by" zcH f fd) (T:Txt K mg aK C CN CT CP CM) (mlist:mg "list"=none) (mrange:mg "range"=none) (BN:FB P w K mg base CX0 2 "_law_next" fN dN ["_law_problem","_law_parts","_law_roots"] (zgi K C)) (BM:FB P w K mg base CX0 1 "_law_merged" fM dM ["_law_roots","_law_one","_law_other"] (zcR K)):aH P w K mg base CX0 3 f fd ["_law_problem","_law_held"] (zf5 K C):=by
 refine F.ok zbm (fun vs H Q E h=>?_) (fun cdv A outer s H vs Q E hr h=>?_)
 ·obtain⟨p,tl,al,rl,q,T',As,Rs,ps,rfl,_⟩:=h
  rfl
 obtain⟨p,tl,al,rl,q,T',As,Rs,ps,rfl,S,hq,pin,p1000,t1,Q0⟩:=h
 have hr1:aO 1 _:=hr.mono (by decide)
 refine⟨_,(af (ay (i:=2) zbm.nd rfl (Or.inl rfl) (zaC (zbN rfl) rfl mlist PyProof.Rows.Boot.list (aa (zdg rfl mrange (aa (zaa zab rfl T.len PySem.boot_len (aa (zaj (pv 0) rfl) ac)) ac)) ac)))
  (af (zaE PassesOwn.never rfl (zaZ rfl mrange (aa (zaa zab rfl T.len PySem.boot_len (aa (pv 2) ac)) ac)) (zam (i:=3) zbm.nd rfl (Or.inl rfl))
   (af (ay (i:=4) zbm.nd rfl (Or.inl rfl) (ax BN.ok hr rfl BN.m BN.kp BN.b .nil aE (aa (pv 0) (aa (zdr (N':=["_law_part"]) (ix:=[]) rfl rfl (by decide +kernel) (by decide +kernel) rfl (fun _=>⟨[],zbK (by decide +kernel) (by decide +kernel)⟩) (by decide +kernel) rfl rfl (fun j i h=>by simp at h) (zbq (pv 1)) (fun _ _ _ _=>(zcc zbB (pv 0)))) (aa (pv 2) ac)))))
    (af (zal (aw zf1 (pv 4) zb0 (aF _))
     (ak (aB (pv 2)))
     zaf)
    (ak (ay (i:=2) zbm.nd rfl (Or.inl rfl) (ax BM.ok hr1 rfl BM.m BM.kp BM.b .nil aE (aa (pv 2) (aa (aq au (pv 4) ae (fun _ _=>rfl)) (aa (aq au (pv 4) ae (fun _ _=>rfl)) ac)))))))))
  (ak (aB (pv 2))))),?_⟩
 obtain⟨⟨dx,ho⟩,⟨ts,ht,hT⟩,_⟩:=id S.pr
 have tl':ts.length=T'.length:=by rw[←hT.length,List.length_map]
 have tN:=S.tN
 refine⟨_,rfl,p,C,dx,_,_,rfl,ho,T.cl,T.nT,zan _ _ _,tl,_,rfl,.inl (SqL.of ht),_,rfl,fun r0 hr0=>?_⟩
 have s0:=ai hr0 (.rng 0 ((ts.length:Nat):Int))
 have n0:=ad (H:=H) (a:=r0) (o:=.rng 0 ((ts.length:Nat):Int))
 generalize upd H r0 (.rng 0 ((ts.length:Nat):Int))=H0 at s0 n0
 refine⟨r0,_,rfl,n0,(by omega),(by omega),fun r1 hr1'=>?_⟩
 have e0:(((List.range (((ts.length:Nat):Int)).toNat).map fun i:Nat=>(i:Int)).map V.int)=(zaU T'.length).map V.int:=by
  rw[Int.toNat_natCast,tl']
  rfl
 rw[e0]
 have s1:=s0.trans (ai hr1' (.lst ((zaU T'.length).map V.int)))
 have n1:=ad (H:=H0) (a:=r1) (o:=.lst ((zaU T'.length).map V.int))
 generalize upd H0 r1 (.lst ((zaU T'.length).map V.int))=H1 at s1 n1
 have ag0:zbp T'.length (hdL []) (rf (zaU T'.length)):=fun t u ht hu=>by rw[zef ht,zef hu];exact Iff.rfl
 refine⟨_,rfl,r1,_,rfl,.inl (SqL.of n1),_,rfl,(by omega),(by rw[List.length_map,zb5];omega),za6 (lo:=0) (n:=((((zaU T'.length).map V.int).length:Nat):Int).toNat) (fun i σ H'=>∃(r:Addr) (rs:List Int) (L:List Lk) (v3 v4:Option V),σ=[some (.ref p),some (.ref q),some (.ref r),v3,v4]∧ao H H'∧H' r=some (.lst (rs.map V.int))∧rs.length=T'.length∧zah T' (gsF As ps) L∧zbp T'.length (hdL L) (rf rs)∧L.length=i) ⟨r1,_,[],none,none,rfl,s1,n1,zb5 _,zah.nil _ _,ag0,rfl⟩ ?_ ?_⟩
 ·rintro i σ H3 hi ⟨r,rs,L,v3,v4,rfl,s3,hr3,rl3,R,Ag,li⟩
  refine⟨_,rfl,_,rfl,q,rfl,⟨_,s3.seq hq⟩,fun D hD=>zcM zbd (fun i us H'=>ao H3 H'∧us=((ps.take i).map fun k=>-k).map V.int) (fun i us H' ⟨s4,_⟩=>(s3.trans s4).seq hq) ⟨ai hD _,rfl⟩ ?_ ?_⟩
  ·rintro j us H9 x H4 hj hly hDs ⟨s4,rfl⟩ ⟨rfl,hx⟩
   obtain⟨k,hk,rfl⟩:=zaT (hx _ ((s3.trans s4).seq hq))
   refine⟨_,rfl,_,rfl,zaQ (sz _ (by rw[List.length_map];exact p1000)) hj hly hDs ⟨s4.upd hD,?_⟩⟩
   rw[zai hk,List.map_append,List.map_append]
   rfl
  rintro us H4 hDs ⟨s4,rfl⟩
  rw[List.length_map,List.take_length]at hDs
  have s04:=s3.trans s4
  refine⟨_,rfl,p,tl,al,rl,D,r,T',As,Rs,ps.map (fun k=>-k),rs,rfl,S.same s04,.inl (SqL.of hDs),(fun k hk=>by obtain⟨j,hj,rfl⟩:=List.mem_map.mp hk;exact(pin j hj).neg),SqL.of (s4 _ _ hr3),rl3,fun no H5 s5=>?_,fun H5 b lk s5 hb yes=>?_⟩
  ·obtain⟨G,Cl⟩:=zj3 S.dm Ag no
   exact⟨_,rfl,rfl,_,rfl,zaK ⟨_,rfl,Q0 H5 r rs L (s04.trans s5) ((s4.trans s5) _ _ hr3) rl3 R G Cl Ag⟩⟩
  ·refine⟨_,rfl,rfl,_,rfl,zaq (fun c=>absurd (of_decide_eq_true c) (by intro z;cases z)) (fun c=>?_)⟩
   obtain⟨l,R',Ag'⟩:=zjR S.dm Ag rl3 R yes
   refine⟨_,rfl,_,rfl,b,_,_,_,rfl,rfl,hb,l0 lk,_,rfl,b,_,_,_,rfl,rfl,hb,l1 lk,r,rs,lk.1,lk.2.1,rfl,SqL.of ((s4.trans s5) _ _ hr3),by rw[rl3];exact yes.1.1,by rw[rl3];exact yes.1.2.1,by omega,fun H6 r6 s6 f6 hr6=>?_⟩
   exact⟨r6,_,L++[l],_,_,rfl,(s04.trans s5).trans s6,hr6,by rw[zdx];exact rl3,R',Ag',by rw[List.length_append,li];rfl⟩
 ·rintro σ H3 ⟨r,rs,L,v3,v4,rfl,s3,hr3,rl3,R,Ag,li⟩
  rw[Int.toNat_natCast,List.length_map,zb5]at li
  have:=zj8 R t1
  omega
theorem zgy {H:Hp} {T:List Tm} {As:List At} {ys:List V} {k:Int} {f:Int→Int} (D:Dom T As) (hA:ah K H (As.map dA) ys) (h0:1≤k) (h1:k≤(As.length:Int)):∃ x,atI ys (k - 1)=some x∧((∃(z:Str) (q:Addr),x=.ref q∧SqT K H q [.str "plain",.str z]∧zaL f As k=false∧smF As k=none)∨∃(a b:Int) (q:Addr),x=.ref q∧SqT K H q [.str "same",.int a,.int b]∧InR T.length a∧InR T.length b∧smF As k=some (a,b)∧zaL f As k=decide (f a=f b)):=by
 have yl:ys.length=As.length:=by rw[←hA.length,List.length_map]
 obtain⟨x,x1,x2⟩:=zdH (xs:=ys) (i:=k - 1) (by omega) (by omega)
 obtain⟨a,ea,hax⟩:=zft hA x1
 obtain⟨a',e1,e2,e3⟩:=zg6 (As:=As) h0 h1
 rw[ea]at e1
 cases e1
 refine⟨x,x2,?_⟩
 cases a with
 | plain z =>
  obtain⟨q,rfl,hq⟩:=zd6 hax
  exact .inl ⟨z,q,rfl,hq,by unfold zaL;rw[e3],e3⟩
 | same a b =>
  obtain⟨q,rfl,hq⟩:=zeM hax
  obtain⟨ia,ib⟩:=zee D e3
  exact .inr ⟨a,b,q,rfl,hq,ia,ib,e3,by unfold zaL;rw[e3]⟩
def zgI (K:W.Frag) (C:Addr):Sp:=fun vs H Q _=>∃(p tl al rl q:Addr) (T:List Tm) (As:List At) (Rs:List (List Int)) (ps:List Int),vs=[.ref p,.ref q]∧PrD K C H p tl al rl T As Rs∧SqL K H q (ps.map V.int)∧(∀ k∈ps,PIn As.length k)∧ps.length < 64∧0 < T.length ∧
 ∀(H':Hp) (l:Addr) (ms:List Int) (L:List Lk),ao H H'→H' l=some (.lst ((ms.filter (zaL (hdL L) As)).map V.int))→ms.Perm (ngF ps)→ms.Pairwise (·≤·)→zah T (gsF As ps) L→zbC (gsF As ps) (hdL L)→zbD T (hdL L)→Q (.ref l) H'
theorem zbE:zae ["_law_problem","_law_held","_law_roots","_law_found","_law_part","_law_atom"] ["_law_problem","_law_held"] (ar zdn):=⟨rfl,rfl,rfl,by decide +kernel,rfl,by decide +kernel,by decide +kernel⟩
theorem zjP (F:Fun K "_law_denied" "_law_denied" zdn f fd) (T:Txt K mg aK C CN CT CP CM) (msort:mg "sorted"=none) (BJ:FB P w K mg base CX0 3 "_law_joined_by" fJ dJ ["_law_problem","_law_held"] (zf5 K C)):aH P w K mg base CX0 4 f fd ["_law_problem","_law_held"] (zgI K C):=by
 refine F.ok zbE (fun vs H Q E h=>?_) (fun cdv A outer s H vs Q E hr h=>?_)
 ·obtain⟨p,tl,al,rl,q,T',As,Rs,ps,rfl,_⟩:=h
  rfl
 obtain⟨p,tl,al,rl,q,T',As,Rs,ps,rfl,S,hq,pin,p64,t1,Q0⟩:=h
 refine⟨_,(af (ay (i:=2) zbE.nd rfl (Or.inl rfl) (ax BJ.ok hr rfl BJ.m BJ.kp BJ.b .nil aE (aa (pv 0) (aa (pv 1) ac))))
  (af (ay (i:=3) zbE.nd rfl (Or.inl rfl) (zas ac))
  (af (zaE PassesOwn.never rfl (zbq (zaa zca rfl msort PyProof.Rows.Boot.sorted (aa (zeh (N':=["_law_part"]) (ix:=[]) rfl rfl (by decide +kernel) (by decide +kernel) rfl (fun _=>⟨[],zbK (by decide +kernel) (by decide +kernel)⟩) (by decide +kernel) rfl rfl (fun j i h=>by simp at h) (zbq (pv 1)) (fun _ _ _ _=>(aw zeC (pv 0) ae (aF _))) (fun _ _ _ _=>(zcc zbB (pv 0)))) ac))) (zam (i:=4) zbE.nd rfl (Or.inl rfl))
   (af (ay (i:=5) zbE.nd rfl (Or.inl rfl) (aq zad (zaj (pv 0) rfl) (az zcs (pv 4) ae) (fun _ _=>rfl)))
    (ak (zal (PW.pt (zbZ (aw zaO (aq au (pv 5) ae (fun _ _=>rfl)) zao (aF _)) (zcf (aw zaO (aq zad (pv 2) (aq au (pv 5) ae (fun _ _=>rfl)) (fun _ _=>rfl)) (aq zad (pv 2) (aq au (pv 5) ae (fun _ _=>rfl)) (fun _ _=>rfl)) (aF _)))))
     (ak (zaB (zcy PySem.F.plainAttrs_list PySem.F.slot_list_append PySem.F.type_list_append za5 (pv 3) (aa (pv 4) ac))))
     zaf))))
  (ak (aB (pv 3)))))),?_⟩
 obtain⟨⟨dx,ho⟩,_,⟨ys,ha,hA⟩,_⟩:=id S.pr
 refine⟨_,rfl,_,rfl,p,tl,al,rl,q,T',As,Rs,ps,rfl,S,hq,pin,by omega,t1,fun H1 r rs L s1 h1 rl1 R G Cl Ag=>?_⟩
 refine⟨lS0,fun l hl=>?_⟩
 have s2:=ai hl (.lst [])
 have n2:=ad (H:=H1) (a:=l) (o:=.lst [])
 have nlr:r≠l:=zac h1 hl
 have lH:H l=none:=s1.free hl
 generalize upd H1 l (.lst [])=H2 at s2 n2
 have s02:=s1.trans s2
 refine⟨_,rfl,q,rfl,⟨_,s02.seq hq⟩,fun D hD=>zdd zbd (fun i us H'=>ao H2 H'∧us=(ngF (ps.take i)).map V.int) (fun i us H' ⟨s3,_⟩=>(s02.trans s3).seq hq) ⟨ai hD _,rfl⟩ ?_ ?_⟩
 ·rintro i us H9 x H3 hi hly hDs ⟨s3,rfl⟩ ⟨rfl,hx⟩
  obtain⟨k,hk,rfl⟩:=zaT (hx _ ((s02.trans s3).seq hq))
  refine⟨_,rfl,_,_,rfl,rfl,_,rfl,zaq (fun c=>?_) (fun c=>?_)⟩
  ·refine⟨_,rfl,_,rfl,zaQ (sz _ (by rw[List.length_map];omega)) hi hly hDs ⟨s3.upd hD,?_⟩⟩
   rw[zfp hk,if_pos (of_decide_eq_true c),List.map_append]
   rfl
  ·refine zch hi hly hDs ⟨s3,?_⟩
   rw[zfp hk,if_neg (fun z=>c (decide_eq_true z)),List.append_nil]
 rintro us H3 hDs ⟨s3,rfl⟩
 rw[List.length_map,List.take_length]at hDs
 have nl:=zjc ps
 refine⟨D,ngF ps,rfl,SqL.of hDs,by omega,fun so ms hso pm pw=>?_⟩
 have s4:=ai hso (.lst (ms.map V.int))
 have n4:=ad (H:=H3) (a:=so) (o:=.lst (ms.map V.int))
 have nso:so≠l:=fun e=>by rw[e,s3 _ _ n2]at hso;cases hso
 generalize upd H3 so (.lst (ms.map V.int))=H4 at s4 n4
 have mlen:=pm.length_eq
 have s04:=(s02.trans s3).trans s4
 have r4:H4 r=some (.lst (rs.map V.int)):=(s2.trans (s3.trans s4)) _ _ h1
 refine⟨so,rfl,⟨_,SqL.of n4⟩,zbx zbd (fun i σ H'=>∃ v4 v5:Option V,σ=[some (.ref p),some (.ref q),some (.ref r),some (.ref l),v4,v5]∧zaP l H4 H'∧H' l=some (.lst (((ms.take i).filter (zaL (hdL L) As)).map V.int))) (fun i σ H' ⟨_,_,_,x5,_⟩=>SqL.of (x5 _ _ nso n4)) ⟨none,none,rfl,zaP.refl _ _,(s3.trans s4) _ _ n2⟩ ?_ ?_⟩
 ·rintro i σ H9 x H5 hi ⟨v4,v5,rfl,x5,l5⟩ ⟨rfl,hx⟩
  obtain⟨k,hk,rfl⟩:=zaT (hx _ (SqL.of (x5 _ _ nso n4)))
  have kin:1≤k∧k≤(As.length:Int):=by
   have:=pm.mem_iff.mp (List.mem_of_getElem? hk)
   unfold ngF at this
   obtain⟨k0,hk0,e⟩:=List.mem_map.mp this
   obtain⟨m0,c0⟩:=List.mem_filter.mp hk0
   have c0:=of_decide_eq_true c0
   have:=pin k0 m0
   obtain⟨_,b1,b2⟩:=this
   omega
  have s05:ao H H5:=fun b o hb=>x5 b o (fun e=>by rw[e,lH]at hb;cases hb) (s04 b o hb)
  obtain⟨x,x2,hcase⟩:=zgy (f:=hdL L) S.dm (hA.keep s05.kt (zdQ _)) kin.1 kin.2
  have r5:H5 r=some (.lst (rs.map V.int)):=x5 _ _ nlr r4
  refine⟨_,rfl,p,C,dx,_,_,rfl,s05 _ _ ho,T.cl,T.nA,zaD _ _ _,_,rfl,_,_,rfl,rfl,al,_,_,_,rfl,rfl,SqL.of (s05 _ _ ha),x2,?_⟩
  have skip:zaL (hdL L) As k=false→((ms.take (i+1)).filter (zaL (hdL L) As))=(ms.take i).filter (zaL (hdL L) As):=fun e=>by
   rw[zai hk,List.filter_append,List.filter_cons_of_neg (by rw[e];decide)]
   exact List.append_nil _
  rcases hcase with ⟨z,qa,rfl,hqa,sb,_⟩ | ⟨a,b,qa,rfl,hqa,ia,ib,_,sb⟩
  ·refine⟨_,rfl,qa,_,_,_,rfl,rfl,hqa,aA (j:=0) rfl,rfl,_,rfl,zaq (fun c=>absurd (of_decide_eq_true c) (by decide +kernel)) (fun c=>aP ⟨_,_,rfl,x5,?_⟩)⟩
   rw[skip sb]
   exact l5
  ·refine⟨_,rfl,qa,_,_,_,rfl,rfl,hqa,aA (j:=0) rfl,rfl,_,rfl,zaq (fun c=>?_) (fun c=>absurd (decide_eq_true rfl) c)⟩
   refine⟨_,rfl,_,rfl,qa,_,_,_,rfl,rfl,hqa,aA (j:=1) rfl,r,_,_,_,rfl,rfl,SqL.of r5,za1 (by rw[rl1];exact ia),_,rfl,_,rfl,qa,_,_,_,rfl,rfl,hqa,aA (j:=2) rfl,r,_,_,_,rfl,rfl,SqL.of r5,za1 (by rw[rl1];exact ib),rfl,_,rfl,?_⟩
   rw[zdk,←Ag.dec ia ib,←sb]
   cases es:zaL (hdL L) As k with
   | false =>
    refine aP ⟨_,_,rfl,x5,?_⟩
    rw[skip es]
    exact l5
   | true =>
    refine zaK ⟨_,rfl,.inl ⟨rfl,_,SqL.of l5⟩,_,rfl,l,_,_,rfl,rfl,l5,zaY ?_,_,_,rfl,x5.trans (zaP.put _ _),?_⟩
    ·rw[List.length_map]
     have:=List.length_filter_le (zaL (hdL L) As) (ms.take i)
     rw[List.length_take]at this
     omega
    ·rw[ad,zai hk,List.filter_append,List.filter_cons_of_pos es,List.map_append]
     rfl
 ·rintro σ H5 ⟨v4,v5,rfl,x5,l5⟩
  rw[List.length_map,List.take_length]at l5
  have s05:ao H H5:=fun b o hb=>x5 b o (fun e=>by rw[e,lH]at hb;cases hb) (s04 b o hb)
  exact⟨_,rfl,Q0 H5 l ms L s05 l5 pm pw R G Cl⟩
end
end K51
namespace K51
open PySem L2
theorem zg7 {K:W.Frag} {H:Hp} {a:Addr} {xs:List V} {lo hi:Option Int} {Q:VK} (h:SqT K H a xs) (q:∀(H':Hp) (p:Addr),ao H H'→SqT K H' p (zcn xs lo hi)→Q (.ref p) H'):rSlTA K (.ref a) lo hi H Q:=by
 by_cases c:HT.sIx xs.length 0 lo=0∧HT.sIx xs.length xs.length hi=xs.length
 ·refine .inr ⟨a,xs,rfl,h,c,q H a (ao.refl _) ?_⟩
  have:zcn xs lo hi=xs:=by
   unfold zcn
   rw[c.1,c.2,List.drop_zero,Nat.sub_zero,List.take_length]
  rw[this]
  exact h
 ·exact .inl ⟨a,xs,rfl,h,c,fun p hp=>q _ p (ai hp _) (SqT.of (ad ..))⟩
def zfI (f:Int→Int) (ps:List Int) (T:List Tm) (As:List At) (lk:Lk):Bool:=!decide (f lk.1=f lk.2.1)&&(if lk.2.2=0 then alikeB f T lk.1 lk.2.1 else decide (lk.2.2∈ps)&&(match smF As lk.2.2 with | some q=>decide (q=(lk.1,lk.2.1))||decide (q=(lk.2.1,lk.1)) | none=>false))
section
variable {P:Program} {w:World} {K:W.Frag} {mg:Str→Option Value} {base:Heap} {aK C CN CT CP CM:Addr} {f fA fH fB fM:Addr} {fd dA' dH dB dM:FuncData}
def ze3:Sp:=fun vs H Q _=>∃ n:Int,vs=[.int n]∧Q (.bl true) H
theorem zgX:zae ["_law_thing"] ["_law_thing"] (ar zdT):=⟨rfl,rfl,rfl,by decide +kernel,rfl,by decide +kernel,by decide +kernel⟩
theorem zjK (F:Fun K "_law_whole" "_law_whole" zdT f fd) (T:W51.Txt K mg):aH P w K mg base CX0 1 f fd ["_law_thing"] ze3:=by
 refine F.ok zgX (fun vs H Q E h=>?_) (fun cdv A outer s H vs Q E hr h=>?_)
 ·obtain⟨n,rfl,_⟩:=h
  rfl
 obtain⟨n,rfl,q⟩:=h
 refine⟨_,(ak (aB (zei (zaa zfG rfl T.isinstance PyProof.Rows.Boot.isinstance (aa (pv 0) (aa (zdB (v:=.ty "int") rfl T.int PyProof.Rows.Boot.int rfl) ac))) (zeW (pe_not (zaa zfG rfl T.isinstance PyProof.Rows.Boot.isinstance (aa (pv 0) (aa (zdB (v:=.ty "bool") rfl T.bool PyProof.Rows.Boot.bool rfl) ac)))))))),?_⟩
 exact⟨_,rfl,_,.type "int","int",true,rfl,zcD.int _,zet K "int",_,rfl,zaK ⟨_,rfl,_,.type "int","bool",false,rfl,zcD.int _,T.ib,_,rfl,q⟩⟩
def zgl (K:W.Frag) (C:Addr):Sp:=fun vs H Q _=>∃(p tl al rl q r l:Addr) (T:List Tm) (As:List At) (Rs:List (List Int)) (ps rs:List Int) (lk:Lk),vs=[.ref p,.ref q,.ref r,.ref l]∧PrD K C H p tl al rl T As Rs∧SqL K H q (ps.map V.int)∧SqL K H r (rs.map V.int)∧rs.length=T.length∧SqT K H l [.int lk.1,.int lk.2.1,.int lk.2.2]∧InR T.length lk.1∧InR T.length lk.2.1∧∀ H',ao H H'→Q (.bl (zfI (rf rs) ps T As lk)) H'
theorem zcb:zae ["_law_problem","_law_held","_law_roots","_law_bond","_law_term","_law_atom"] ["_law_problem","_law_held","_law_roots","_law_bond"] (ar zcq):=⟨rfl,rfl,rfl,by decide +kernel,rfl,by decide +kernel,by decide +kernel⟩
set_option maxHeartbeats 2000000 in
theorem zlh (F:Fun K "_law_bond_right" "_law_bond_right" zcq f fd) (T:Txt K mg aK C CN CT CP CM) (TW:W51.Txt K mg) (BA:FB P w K mg base CX0 1 "_law_alike" fA dA' ["_law_terms","_law_roots","_law_one","_law_other"] (ze4 K)) (BH:FB P w K mg base CX0 1 "_law_whole" fH dH ["_law_thing"] ze3):aH P w K mg base CX0 2 f fd ["_law_problem","_law_held","_law_roots","_law_bond"] (zgl K C):=by
 refine F.ok zcb (fun vs H Q E h=>?_) (fun cdv A outer s H vs Q E hr h=>?_)
 ·obtain⟨p,tl,al,rl,q,r,l,T',As,Rs,ps,rs,lk,rfl,_⟩:=h
  rfl
 obtain⟨p,tl,al,rl,q,r,l,T',As,Rs,ps,rs,lk,rfl,S,hq,hR,rl',hl,i1,i2,Q0⟩:=h
 have hu:=zfH hr
 obtain⟨⟨dx,ho⟩,⟨ts,ht,hT⟩,⟨ys,ha,hA⟩,_⟩:=id S.pr
 have tl':ts.length=T'.length:=by rw[←hT.length,List.length_map]
 have yl:ys.length=As.length:=by rw[←hA.length,List.length_map]
 refine⟨_,(af (zal (PW.pt (zbS (zbk (zbj (zaa zcV rfl TW.isinstance PyProof.Rows.Boot.isinstance (aa (pv 3) (aa (zdB (v:=.ty "tuple") rfl TW.tuple PyProof.Rows.Boot.tuple rfl) ac))))) (zbS (aw zc8 (zaa zab rfl T.len PySem.boot_len (aa (pv 3) ac)) ae (aF _)) (zbM (zbk (zbj (ax BH.ok hr rfl BH.m BH.kp BH.b .nil aE (aa (aq au (pv 3) ae (fun _ _=>rfl)) ac))))))))
   (ak (aB zbu))
   zaf)
  (af (zaE PassesOwn.never rfl (zcr (zcF zfl (pv 3) zc0 (zcZ ae))) (zam (i:=4) zcb.nd rfl (Or.inl rfl))
   (ak (zal (PW.pt (zbS (zbk (zbj (ax BH.ok hr rfl BH.m BH.kp BH.b .nil aE (aa (pv 4) ac)))) (zbM (zbk (zhy zg2 zeC ae (pv 4) (zaa zab rfl T.len PySem.boot_len (aa (zaj (pv 0) rfl) ac)))))))
     (ak (aB zbu))
     zaf)))
  (af (zal (aw zaO (aq zad (pv 2) (aq au (pv 3) ae (fun _ _=>rfl)) (fun _ _=>rfl)) (aq zad (pv 2) (aq au (pv 3) ae (fun _ _=>rfl)) (fun _ _=>rfl)) (aF _))
   (ak (aB zbu))
   zaf)
  (af (zal (aw zaO (aq au (pv 3) ae (fun _ _=>rfl)) ae (aF _))
   (ak (aB (ax BA.ok hr rfl BA.m BA.kp BA.b .nil aE (aa (zaj (pv 0) rfl) (aa (pv 2) (aa (aq au (pv 3) ae (fun _ _=>rfl)) (aa (aq au (pv 3) ae (fun _ _=>rfl)) ac)))))))
   zaf)
  (af (zal (PW.pt (zbS (aw zcU (aq au (pv 3) ae (fun _ _=>rfl)) (pv 1) rfl) (zbM (zbk (zhy zg2 zg2 ae (aq au (pv 3) ae (fun _ _=>rfl)) (zaa zab rfl T.len PySem.boot_len (aa (zaj (pv 0) rfl) ac)))))))
   (ak (aB zbu))
   zaf)
  (af (ay (i:=5) zcb.nd rfl (Or.inl rfl) (aq zad (zaj (pv 0) rfl) (az zcs (aq au (pv 3) ae (fun _ _=>rfl)) ae) (fun _ _=>rfl)))
  (ak (aB (zei (zbO zaO (aq au (pv 5) ae (fun _ _=>rfl)) zao (aF _)) (zeW (zbO (zhc hu) (zaa zca rfl TW.sorted PyProof.Rows.Boot.sorted (aa (zas (aa (aq au (pv 3) ae (fun _ _=>rfl)) (aa (aq au (pv 3) ae (fun _ _=>rfl)) ac))) ac)) (zaa zca rfl TW.sorted PyProof.Rows.Boot.sorted (aa (zas (aa (aq au (pv 5) ae (fun _ _=>rfl)) (aa (aq au (pv 5) ae (fun _ _=>rfl)) ac))) ac)) rfl))))))))))),?_⟩
 refine⟨_,rfl,l,_,"tuple",true,rfl,hl,zet K "tuple",_,rfl,aP ⟨_,rfl,l,_,rfl,.inr hl,rfl,_,rfl,aP ⟨_,rfl,l,_,_,_,rfl,rfl,hl,l2 lk,lk.2.2,rfl,_,rfl,aP ?_⟩⟩⟩
 refine⟨_,rfl,_,rfl,zg7 hl fun H1 c s1 hc=>?_⟩
 have ec:zcn [V.int lk.1,V.int lk.2.1,V.int lk.2.2] none (some 2)=[lk.1,lk.2.1].map V.int:=rfl
 rw[ec]at hc
 refine⟨c,rfl,⟨_,hc⟩,zbx zbY (fun i σ H'=>∃ v4:Option V,σ=[some (.ref p),some (.ref q),some (.ref r),some (.ref l),v4,none]∧H'=H1) (fun i σ H' ⟨_,_,e⟩=>by rw[e];exact hc) ⟨none,rfl,rfl⟩ ?_ ?_⟩
 ·rintro i σ H9 x H2 hi ⟨v4,rfl,rfl⟩ ⟨rfl,hx⟩
  obtain⟨n,hn,rfl⟩:=zaT (hx _ hc)
  have inn:InR T'.length n:=by
   have:=List.mem_of_getElem? hn
   rcases List.mem_cons.mp this with e | e
   ·rw[e];exact i1
   ·rw[List.mem_singleton.mp e];exact i2
  refine⟨_,rfl,n,rfl,_,rfl,aP ⟨_,rfl,_,_,rfl,rfl,_,rfl,?_⟩⟩
  rw[show decide ((0:Int)≤n)=true from decide_eq_true inn.1]
  refine zaK ⟨_,rfl,p,C,dx,_,_,rfl,s1 _ _ ho,T.cl,T.nT,zan _ _ _,tl,_,rfl,.inl (SqL.of (s1 _ _ ht)),_,_,rfl,rfl,_,rfl,?_⟩
  rw[show decide (n < ((ts.length:Nat):Int))=true from decide_eq_true (by rw[tl'];exact inn.2)]
  exact aP ⟨_,rfl,rfl⟩
 rintro σ H2 ⟨v4,rfl,rfl⟩
 have hl1:=s1.tup hl
 have hR1:=s1.seq hR
 refine⟨_,rfl,_,rfl,l,_,_,_,rfl,rfl,hl1,l0 lk,r,_,_,_,rfl,rfl,hR1,za1 (by rw[rl'];exact i1),_,rfl,_,rfl,l,_,_,_,rfl,rfl,hl1,l1 lk,r,_,_,_,rfl,rfl,hR1,za1 (by rw[rl'];exact i2),rfl,_,rfl,?_⟩
 rw[zdk]
 unfold zfI at Q0
 by_cases c1:rf rs lk.1=rf rs lk.2.1
 ·rw[decide_eq_true c1]at Q0 ⊢
  exact zaK (Q0 _ s1)
 rw[decide_eq_false c1]at Q0 ⊢
 rw[Bool.not_false,Bool.true_and]at Q0
 refine aP ⟨_,rfl,l,_,_,_,rfl,rfl,hl1,l2 lk,rfl,_,rfl,?_⟩
 rw[zdk]
 by_cases c2:lk.2.2=0
 ·rw[decide_eq_true c2]
  rw[if_pos c2]at Q0
  exact zaK ⟨_,rfl,p,C,dx,_,_,rfl,s1 _ _ ho,T.cl,T.nT,zan _ _ _,_,rfl,_,rfl,l,_,_,_,rfl,rfl,hl1,l0 lk,_,rfl,l,_,_,_,rfl,rfl,hl1,l1 lk,tl,r,ts,T',rs,_,_,rfl,SqL.of (s1 _ _ ht),hT.keep s1.kt (zbr _),S.dm.tm,(fun t ht=>Nat.le_trans (S.t3 t ht) (by decide)),hR1,rl',i1,i2,fun H3 s3=>Q0 H3 (s1.trans s3)⟩
 rw[decide_eq_false c2]
 rw[if_neg c2]at Q0
 refine aP ⟨_,rfl,l,_,_,_,rfl,rfl,hl1,l2 lk,_,rfl,q,_,rfl,.inl (s1.seq hq),rfl,zd4 _,_,rfl,?_⟩
 rw[zeL]
 by_cases c3:lk.2.2∈ps
 case neg =>
  rw[decide_eq_false c3]at Q0 ⊢
  exact zaK (Q0 _ s1)
 rw[decide_eq_true c3]at Q0 ⊢
 rw[Bool.true_and]at Q0
 refine aP ⟨_,rfl,l,_,_,_,rfl,rfl,hl1,l2 lk,_,_,rfl,rfl,_,rfl,?_⟩
 by_cases c4:1≤lk.2.2
 case neg =>
  rw[show decide ((1:Int)≤lk.2.2)=false from decide_eq_false c4]
  have:smF As lk.2.2=none:=by unfold smF;rw[if_neg (fun z=>c4 z.1)]
  rw[this]at Q0
  exact aP ⟨_,rfl,zaK (Q0 _ s1)⟩
 rw[show decide ((1:Int)≤lk.2.2)=true from decide_eq_true c4]
 refine zaK ⟨_,rfl,p,C,dx,_,_,rfl,s1 _ _ ho,T.cl,T.nA,zaD _ _ _,al,_,rfl,.inl (SqL.of (s1 _ _ ha)),_,_,rfl,rfl,_,rfl,?_⟩
 by_cases c5:lk.2.2≤(As.length:Int)
 case neg =>
  rw[show decide (lk.2.2≤((ys.length:Nat):Int))=false from decide_eq_false (by rw[yl];exact c5)]
  have:smF As lk.2.2=none:=by unfold smF;rw[if_neg (fun z=>c5 z.2)]
  rw[this]at Q0
  exact zaK (Q0 _ s1)
 rw[show decide (lk.2.2≤((ys.length:Nat):Int))=true from decide_eq_true (by rw[yl];exact c5)]
 obtain⟨x,x2,hcase⟩:=zgy (f:=rf rs) S.dm (hA.keep s1.kt (zdQ _)) c4 c5
 refine aP ⟨_,rfl,p,C,dx,_,_,rfl,s1 _ _ ho,T.cl,T.nA,zaD _ _ _,_,rfl,l,_,_,_,rfl,rfl,hl1,l2 lk,_,_,rfl,rfl,al,_,_,_,rfl,rfl,SqL.of (s1 _ _ ha),x2,?_⟩
 rcases hcase with ⟨z,qa,rfl,hqa,sb,sm⟩ | ⟨a,b,qa,rfl,hqa,ia,ib,sm,sb⟩
 ·rw[sm]at Q0
  exact⟨_,rfl,qa,_,_,_,rfl,rfl,hqa,aA (j:=0) rfl,rfl,_,rfl,zaq (fun c=>absurd (of_decide_eq_true c) (by decide +kernel)) (fun c=>Q0 _ s1)⟩
 rw[sm]at Q0
 refine⟨_,rfl,qa,_,_,_,rfl,rfl,hqa,aA (j:=0) rfl,rfl,_,rfl,zaq (fun _=>?_) (fun c=>absurd (decide_eq_true rfl) c)⟩
 refine⟨_,rfl,l,_,_,_,rfl,rfl,hl1,l0 lk,_,rfl,l,_,_,_,rfl,rfl,hl1,l1 lk,lS2,fun d hd=>?_⟩
 have s3:=ai hd (.lst [.int lk.1,.int lk.2.1])
 have n3:=ad (H:=H2) (a:=d) (o:=.lst [.int lk.1,.int lk.2.1])
 generalize upd H2 d (.lst [.int lk.1,.int lk.2.1])=H3 at s3 n3
 refine⟨d,[lk.1,lk.2.1],rfl,SqL.of n3,(by simp),fun m ms hm pm so=>?_⟩
 have s4:=s3.trans (ai hm (.lst (ms.map V.int)))
 have n4:=ad (H:=H3) (a:=m) (o:=.lst (ms.map V.int))
 generalize upd H3 m (.lst (ms.map V.int))=H4 at s4 n4
 have hqa4:=s4.tup hqa
 refine⟨_,rfl,qa,_,_,_,rfl,rfl,hqa4,aA (j:=1) rfl,_,rfl,qa,_,_,_,rfl,rfl,hqa4,aA (j:=2) rfl,lS2,fun e he=>?_⟩
 have s5:=ai he (.lst [.int a,.int b])
 have n5:=ad (H:=H4) (a:=e) (o:=.lst [.int a,.int b])
 generalize upd H4 e (.lst [.int a,.int b])=H5 at s5 n5
 refine⟨e,[a,b],rfl,SqL.of n5,(by simp),fun n ns hn pn sn=>?_⟩
 have s6:=s5.trans (ai hn (.lst (ns.map V.int)))
 have n6:=ad (H:=H5) (a:=n) (o:=.lst (ns.map V.int))
 generalize upd H5 n (.lst (ns.map V.int))=H6 at s6 n6
 refine⟨_,_,Has.lst' (SqL.of (s6 _ _ n4)) (ah.ints _),Has.lst' (SqL.of n6) (ah.ints _),(by simp only[dep,zbc];decide),?_⟩
 show Q (.bl (zbe (ms.map Dt.int) (ns.map Dt.int))) H6
 rw[zgK,sort2 pm so pn sn]
 exact Q0 H6 ((s1.trans s4).trans s6)
end
end K51
namespace K51
open PySem L2
theorem zkH {xs:List V} {m:Nat} (h:m≤xs.length):zcn xs (some (m:Int)) none=xs.drop m:=by
 unfold zcn
 rw[HT.sIx_nat,HT.sIx_none,Nat.min_eq_left h]
 rw[List.take_of_length_le (by rw[List.length_drop];exact Nat.le_refl _)]
theorem zgS {K:W.Frag} {H:Hp}:∀ {ds:List Dt} {vs:List V} (n:Nat),ah K H ds vs→ah K H (ds.drop n) (vs.drop n)
 | _,_,0,h=>h
 | [],[],n+1,_=>by simp only[List.drop_nil];exact .nil
 | [],_ :: _,_,h=>by simp only[ah]at h;cases h
 | d :: ds,vs,n+1,h=>by
  simp only[ah]at h
  obtain⟨v,r,rfl,h1,h2⟩:=h
  simp only[List.drop_succ_cons]
  exact zgS n h2
theorem but_at {M:List Nat} {i q:Nat} (lt:M.Pairwise (· < ·)) (hi:M[i]?=some q):(∀ p∈M.take i++M.drop (i+1),p∈M∧p≠q)∧∀ p∈M,p≠q→p∈M.take i++M.drop (i+1):=by
 obtain⟨li,ei⟩:=List.getElem?_eq_some_iff.mp hi
 have pw:=List.pairwise_iff_getElem.mp lt
 constructor
 ·intro p hp
  rcases List.mem_append.mp hp with h | h
  ·refine⟨List.mem_of_mem_take h,?_⟩
   obtain⟨j,hj⟩:=List.mem_iff_getElem?.mp h
   rw[List.getElem?_take]at hj
   split at hj
   ·obtain⟨lj,ej⟩:=List.getElem?_eq_some_iff.mp hj
    have:=pw j i lj li (by omega)
    omega
   ·cases hj
  ·refine⟨List.mem_of_mem_drop h,?_⟩
   obtain⟨j,hj⟩:=List.mem_iff_getElem?.mp h
   rw[List.getElem?_drop]at hj
   obtain⟨lj,ej⟩:=List.getElem?_eq_some_iff.mp hj
   have:=pw i (i+1+j) li lj (by omega)
   omega
 ·intro p hp ne
  obtain⟨j,hj⟩:=List.mem_iff_getElem?.mp hp
  by_cases c:j < i
  ·exact List.mem_append_left _ (List.mem_of_getElem? (i:=j) (by rw[List.getElem?_take,if_pos c];exact hj))
  ·have nj:j≠i:=fun e=>by
    rw[e,hi]at hj
    cases hj
    exact ne rfl
   refine List.mem_append_right _ (List.mem_of_getElem? (i:=j - (i+1)) ?_)
   rw[List.getElem?_drop,show i+1+(j - (i+1))=j by omega]
   exact hj
theorem zlB (L:List Lk) (M:List Nat) (i:Nat):W51.atP L (M.take i++M.drop (i+1))=(W51.atP L M).take i++(W51.atP L M).drop (i+1):=by
 unfold W51.atP
 rw[List.map_append,List.map_take,List.map_drop]
theorem ziu {n:Nat} {L:List Lk} {M:List Nat} (h:InN n L) (hM:∀ q∈M,q < L.length):InN n (W51.atP L M):=fun l hl=>by
 obtain⟨q,hq,e⟩:=W51.of_atP hM hl
 exact h l (List.mem_of_getElem? e)
theorem zhV {ts:List Tm} {L:List Lk} {x y:Int} {i:Nat} {l:Lk} (h:L[i]?=some l):W51.joinsF ts (L.take i) (L.drop i) x y=if l.2.2=-1∧W51.alikeB ts (hdL (L.take i)) l.1 l.2.1=false then false else W51.joinsF ts (L.take (i+1)) (L.drop (i+1)) x y:=by
 obtain⟨lt,e⟩:=List.getElem?_eq_some_iff.mp h
 rw[List.drop_eq_getElem_cons lt,e,zai h]
 rfl
theorem zhS {ts:List Tm} {gs:List (Int × Int)} {L:List Lk} {x y:Int} {M:List Nat} (h:W51.Needs ts L x y M) (R:zah ts gs L) (so:M.Pairwise (· < ·)) {i:Nat} {l:Lk} (hi:(W51.atP L M)[i]?=some l) (hm:l.2.2=-1):zb3 ts (hdL ((W51.atP L M).take i)) l.1 l.2.1:=by
 unfold W51.atP at hi ⊢
 rw[List.getElem?_map]at hi
 obtain⟨q,hq,e⟩:=Option.map_eq_some_iff.mp hi
 have hqM:=List.mem_of_getElem? hq
 have e2:=List.getElem?_eq_getElem (h.inn q hqM)
 rw[W51.getD_at e2]at e
 rw[e]at e2
 rcases(R q l e2).how with ⟨a,_⟩ | ⟨_,t,u,t1,t2,t3,t4⟩
 ·omega
 have len:t.2.length=u.2.length:=by have:=congrArg List.length t4;simpa using this
 refine⟨t,u,t1,t2,t3,W51.eq_map_zip len fun ab hab=>?_⟩
 have hp:ab∈W51.pairsF ts l:=by unfold W51.pairsF;rw[if_pos hm,t1,t2];exact hab
 obtain⟨π,P,sub⟩:=h.all q hqM l e2 ab hp
 have low:=P.below (W51.RightL_forest R) (W51.pairs_joined R e2 ab hp)
 refine P.walk _ fun r hr m hrm=>?_
 rw[←List.map_take]
 refine zc4 _ m (W51.mem_atP (q:=r) ?_ hrm)
 have hrM:=sub r hr
 obtain⟨j,hj⟩:=List.mem_iff_getElem?.mp hrM
 have hjl:=(List.getElem?_eq_some_iff.mp hj)
 have hil:=(List.getElem?_eq_some_iff.mp hq)
 have lt:j < i:=by
  refine Decidable.byContradiction fun n=>?_
  have rq:=low r hr
  by_cases ej:j=i
  ·subst ej
   cases hj.symm.trans hq
   omega
  ·have:=List.pairwise_iff_getElem.mp so i j hil.1 hjl.1 (by omega)
   rw[hil.2,hjl.2]at this
   omega
 exact List.mem_of_getElem? (i:=j) (by rw[List.getElem?_take,if_pos lt];exact hj)
theorem zjT {ts:List Tm} {gs:List (Int × Int)} {L:List Lk} {x y:Int} {M:List Nat} (h:W51.Needs ts L x y M) (R:zah ts gs L) (so:M.Pairwise (· < ·)) {i:Nat} {l:Lk} (hi:(W51.atP L M)[i]?=some l):hdL ((W51.atP L M).take i) l.1≠hdL ((W51.atP L M).take i) l.2.1:=fun e=>by
 unfold W51.atP at hi e
 rw[List.getElem?_map]at hi
 obtain⟨q,hq,el⟩:=Option.map_eq_some_iff.mp hi
 have e2:=List.getElem?_eq_getElem (h.inn q (List.mem_of_getElem? hq))
 rw[W51.getD_at e2]at el
 rw[el]at e2
 obtain⟨c,hc⟩:=W51.cut_at (W51.RightL_forest R) (h.inn q (List.mem_of_getElem? hq))
 have:=hc q l e2
 rw[if_pos rfl]at this
 refine this (W51.same_cls c (fun m hm=>?_) e)
 obtain⟨j,hj⟩:=List.mem_iff_getElem?.mp hm
 rw[List.getElem?_take]at hj
 split at hj
 ·rename_i lt
  rw[List.getElem?_map]at hj
  obtain⟨r,hr,er⟩:=Option.map_eq_some_iff.mp hj
  have e3:=List.getElem?_eq_getElem (h.inn r (List.mem_of_getElem? hr))
  rw[W51.getD_at e3]at er
  rw[er]at e3
  have:=hc r m e3
  rw[if_neg]at this
  ·exact this
  ·obtain⟨l1,x1⟩:=List.getElem?_eq_some_iff.mp hq
   obtain⟨l2,x2⟩:=List.getElem?_eq_some_iff.mp hr
   have:=List.pairwise_iff_getElem.mp so j i l2 l1 lt
   omega
 ·cases hj
theorem zlD {T:List Tm} {f:Int→Int} {a b:Int} (ha:InR T.length a) (hb:InR T.length b):W51.alikeB T f a b=alikeB f T a b:=by
 rw[Bool.eq_iff_iff,W51.alikeB_iff,zdj ha hb]
section
variable {P:Program} {w:World} {K:W.Frag} {mg:Str→Option Value} {base:Heap} {aK C CN CT CP CM:Addr} {f fB fM fE fH:Addr} {fd dB dM dE dH:FuncData}
def zgH (K:W.Frag) (C:Addr):Sp:=fun vs H Q _=>∃(p tl al rl q t a:Addr) (T:List Tm) (As:List At) (Rs:List (List Int)) (ps hs:List Int) (bs:List V) (N:List Lk) (x y:Int),vs=[.ref p,.ref q,.ref t,.ref a]∧PrD K C H p tl al rl T As Rs∧SqL K H q (ps.map V.int)∧SqT K H t bs∧ah K H ((N.map (mk1 hs)).map dL) bs∧InN T.length N∧SqT K H a [.str "same",.int x,.int y]∧InR T.length x∧InR T.length y∧∀(H':Hp) (b:Bool),ao H H'→(b=true→W51.joinsF T [] N x y=true)→Q (.bl b) H'
theorem zcm:zae ["_law_problem","_law_held","_law_bonds","_law_atom","_law_roots","_law_bond"] ["_law_problem","_law_held","_law_bonds","_law_atom"] (ar zdm):=⟨rfl,rfl,rfl,by decide +kernel,rfl,by decide +kernel,by decide +kernel⟩
theorem zjO (F:Fun K "_law_enough" "_law_enough" zdm f fd) (T:Txt K mg aK C CN CT CP CM) (TW:W51.Txt K mg) (BB:FB P w K mg base CX0 2 "_law_bond_right" fB dB ["_law_problem","_law_held","_law_roots","_law_bond"] (zgl K C)) (BM:FB P w K mg base CX0 1 "_law_merged" fM dM ["_law_roots","_law_one","_law_other"] (zcR K)):aH P w K mg base CX0 3 f fd ["_law_problem","_law_held","_law_bonds","_law_atom"] (zgH K C):=by
 refine F.ok zcm (fun vs H Q E h=>?_) (fun cdv A outer s H vs Q E hr h=>?_)
 ·obtain⟨p,tl,al,rl,q,t,a,T',As,Rs,ps,hs,bs,N,x,y,rfl,_⟩:=h
  rfl
 obtain⟨p,tl,al,rl,q,t,a,T',As,Rs,ps,hs,bs,N,x,y,rfl,S,hq,ht',hb,inn,ha',ix,iy,Q0⟩:=h
 have hr1:aO 1 _:=hr.mono (by decide)
 obtain⟨⟨dx,ho⟩,⟨ts,ht,hT⟩,_⟩:=id S.pr
 have tl':ts.length=T'.length:=by rw[←hT.length,List.length_map]
 have bl:bs.length=N.length:=by rw[←hb.length,List.length_map,List.length_map]
 have tN:=S.tN
 refine⟨_,(af (ay (i:=4) zcm.nd rfl (Or.inl rfl) (zaC (zbN rfl) rfl TW.list PyProof.Rows.Boot.list (aa (zdg rfl TW.range (aa (zaa zab rfl T.len PySem.boot_len (aa (zaj (pv 0) rfl) ac)) ac)) ac)))
  (af (zaE PassesOwn.never rfl (zcr (pv 2)) (zam (i:=5) zcm.nd rfl (Or.inl rfl))
   (af (zal (zbk (zbj (ax BB.ok hr rfl BB.m BB.kp BB.b .nil aE (aa (pv 0) (aa (pv 1) (aa (pv 4) (aa (pv 5) ac)))))))
     (ak (aB zbu))
     zaf)
    (ak (ay (i:=4) zcm.nd rfl (Or.inl rfl) (ax BM.ok hr1 rfl BM.m BM.kp BM.b .nil aE (aa (pv 4) (aa (aq au (pv 5) ae (fun _ _=>rfl)) (aa (aq au (pv 5) ae (fun _ _=>rfl)) ac))))))))
  (ak (aB (zbO zaO (aq zad (pv 4) (aq au (pv 3) ae (fun _ _=>rfl)) (fun _ _=>rfl)) (aq zad (pv 4) (aq au (pv 3) ae (fun _ _=>rfl)) (fun _ _=>rfl)) (aF _)))))),?_⟩
 refine⟨_,rfl,p,C,dx,_,_,rfl,ho,T.cl,T.nT,zan _ _ _,tl,_,rfl,.inl (SqL.of ht),_,rfl,fun r0 hr0=>?_⟩
 have s0:=ai hr0 (.rng 0 ((ts.length:Nat):Int))
 have n0:=ad (H:=H) (a:=r0) (o:=.rng 0 ((ts.length:Nat):Int))
 generalize upd H r0 (.rng 0 ((ts.length:Nat):Int))=H0 at s0 n0
 refine⟨r0,_,rfl,n0,(by omega),(by omega),fun r1 hr1'=>?_⟩
 have e0:(((List.range (((ts.length:Nat):Int)).toNat).map fun i:Nat=>(i:Int)).map V.int)=(zaU T'.length).map V.int:=by
  rw[Int.toNat_natCast,tl']
  rfl
 rw[e0]
 have s1:=s0.trans (ai hr1' (.lst ((zaU T'.length).map V.int)))
 have n1:=ad (H:=H0) (a:=r1) (o:=.lst ((zaU T'.length).map V.int))
 generalize upd H0 r1 (.lst ((zaU T'.length).map V.int))=H1 at s1 n1
 have ag0:zbp T'.length (hdL []) (rf (zaU T'.length)):=fun t u ht hu=>by rw[zef ht,zef hu];exact Iff.rfl
 refine⟨_,rfl,t,rfl,⟨_,s1.tup ht'⟩,zbx zbY (fun i σ H'=>∃(r:Addr) (rs:List Int) (v5:Option V),σ=[some (.ref p),some (.ref q),some (.ref t),some (.ref a),some (.ref r),v5]∧ao H H'∧H' r=some (.lst (rs.map V.int))∧rs.length=T'.length∧zbp T'.length (hdL (N.take i)) (rf rs)∧W51.joinsF T' [] N x y=W51.joinsF T' (N.take i) (N.drop i) x y) (fun i σ H' ⟨_,_,_,_,s2,_⟩=>s2.tup ht') ⟨r1,_,none,rfl,s1,n1,zb5 _,ag0,rfl⟩ ?_ ?_⟩
 ·rintro i σ H9 z H2 hi ⟨r,rs,v5,rfl,s2,hr2,rl2,Ag,ej⟩ ⟨rfl,hz⟩
  obtain⟨b,pb,hb',rfl,hpb⟩:=zdu hb (hz _ (s2.tup ht'))
  rw[List.getElem?_map]at hb'
  obtain⟨n,hn,eb⟩:=Option.map_eq_some_iff.mp hb'
  obtain⟨in1,in2⟩:=inn n (List.mem_of_getElem? hn)
  have b1:b.1=n.1:=by rw[←eb];rfl
  have b2:b.2.1=n.2.1:=by rw[←eb];rfl
  refine⟨_,rfl,_,rfl,_,rfl,_,rfl,p,tl,al,rl,q,r,pb,T',As,Rs,ps,rs,b,rfl,S.same s2,s2.seq hq,SqL.of hr2,rl2,s2.tup hpb,by rw[b1];exact in1,by rw[b2];exact in2,fun H3 s3=>⟨_,rfl,?_⟩⟩
  cases ebn:zfI (rf rs) ps T' As b with
  | false=>exact zaK (Q0 _ false (s2.trans s3) fun z=>by cases z)
  | true =>
   have ej':W51.joinsF T' [] N x y=W51.joinsF T' (N.take (i+1)) (N.drop (i+1)) x y:=by
    rw[ej,zhV hn,if_neg]
    rintro ⟨c1,c2⟩
    unfold zfI at ebn
    rw[Bool.and_eq_true]at ebn
    have z:b.2.2=0:=by rw[←eb];unfold mk1;rw[if_pos c1]
    have:=ebn.2
    rw[if_pos z,b1,b2,←zcx S.dm Ag in1 in2,←zlD in1 in2,c2]at this
    cases this
   refine aP ⟨_,rfl,_,rfl,pb,_,_,_,rfl,rfl,(s2.trans s3).tup hpb,l0 b,_,rfl,pb,_,_,_,rfl,rfl,(s2.trans s3).tup hpb,l1 b,r,rs,b.1,b.2.1,rfl,SqL.of (s3 _ _ hr2),by rw[rl2,b1];exact in1,by rw[rl2,b2];exact in2,by omega,fun H4 r4 s4 f4 hr4=>?_⟩
   refine⟨r4,_,_,rfl,(s2.trans s3).trans s4,hr4,by rw[zdx];exact rl2,?_,ej'⟩
   rw[zai hn,zbs,b1,b2]
   exact zgp Ag rl2 in1 in2
 ·rintro σ H2 ⟨r,rs,v5,rfl,s2,hr2,rl2,Ag,ej⟩
  rw[bl,List.take_length,List.drop_length]at ej
  rw[bl,List.take_length]at Ag
  have ha2:=s2.tup ha'
  refine⟨_,rfl,_,rfl,a,_,_,_,rfl,rfl,ha2,aA (j:=1) rfl,r,_,_,_,rfl,rfl,SqL.of hr2,za1 (by rw[rl2];exact ix),_,rfl,_,rfl,a,_,_,_,rfl,rfl,ha2,aA (j:=2) rfl,r,_,_,_,rfl,rfl,SqL.of hr2,za1 (by rw[rl2];exact iy),rfl,?_⟩
  rw[zdk,←Ag.dec ix iy]
  exact Q0 H2 _ s2 fun z=>by rw[ej];exact z
end
end K51
namespace K51
open PySem L2
section
variable {P:Program} {w:World} {K:W.Frag} {mg:Str→Option Value} {base:Heap} {aK C CN CT CP CM:Addr} {f fB fM fE fH:Addr} {fd dB dM dE dH:FuncData}
structure LnOk (K:W.Frag) (H:Hp) (a:Addr) (T:List Tm) (As:List At) (ps:List Int) (L:List Lk) (M:List Nat) (d x y:Int):Prop where
 line:zdf K H a d ((W51.atP L M).map (mk1 (hsF As ps)))
 sm:smF As d=some (x,y)
 R:zah T (gsF As ps) L
 N:W51.Needs T L x y M
 lt:M.Pairwise (· < ·)
theorem zj7 {T:List Tm} {As:List At} {ps rs:List Int} {L:List Lk} {M:List Nat} {x y:Int} {i:Nat} {n:Lk} (D:Dom T As) (R:zah T (gsF As ps) L) (N:W51.Needs T L x y M) (lt:M.Pairwise (· < ·)) (hn:(W51.atP L M)[i]?=some n) (Ag:zbp T.length (hdL ((W51.atP L M).take i)) (rf rs)):zfI (rf rs) ps T As (mk1 (hsF As ps) n)=true:=by
 obtain⟨q,hq,eq⟩:=W51.of_atP N.inn (List.mem_of_getElem? hn)
 obtain⟨i1,i2⟩:=R.inn n (List.mem_of_getElem? eq)
 have new:=zjT N R lt hn
 have nr:rf rs n.1≠rf rs n.2.1:=fun e=>new ((Ag _ _ i1 i2).mpr e)
 unfold zfI mk1
 dsimp only
 rw[decide_eq_false nr,Bool.not_false,Bool.true_and]
 by_cases c:n.2.2=-1
 ·rw[if_pos c,if_pos rfl,←zcx D Ag i1 i2]
  exact(zdj i1 i2).mpr (zhS N R lt hn c)
 ·rw[if_neg c]
  rcases(R q n eq).how with ⟨k0,hg⟩ | ⟨z,_⟩
  ·obtain⟨m,hm,sm,mp⟩:=gs_at hg
   have em:(hsF As ps).getD n.2.2.toNat 0=m:=by rw[List.getD_eq_getElem?_getD,hm];rfl
   have:=zgm sm
   rw[em,if_neg (show ¬m=0 by omega),decide_eq_true mp,sm]
   simp
  ·exact absurd z c
def zhp (K:W.Frag) (C:Addr):Sp:=fun vs H Q _=>∃(p tl al rl q a:Addr) (T:List Tm) (As:List At) (Rs:List (List Int)) (ps:List Int) (L:List Lk) (M:List Nat) (d x y:Int),vs=[.ref p,.ref q,.ref a,.int d]∧PrD K C H p tl al rl T As Rs∧SqL K H q (ps.map V.int)∧LnOk K H a T As ps L M d x y∧∀ H',ao H H'→Q (.bl true) H'
abbrev NLi:List Str:=["_law_problem","_law_held","_law_line","_law_first","_law_roots","_law_bond","_law_due","_law_atom","_law_k"]
theorem zaN:zae NLi ["_law_problem","_law_held","_law_line","_law_first"] (ar zcp):=⟨rfl,rfl,rfl,by decide +kernel,rfl,by decide +kernel,by decide +kernel⟩
set_option maxHeartbeats 2000000 in
theorem zkq (F:Fun K "_law_line_right" "_law_line_right" zcp f fd) (T:Txt K mg aK C CN CT CP CM) (TW:W51.Txt K mg) (BB:FB P w K mg base CX0 2 "_law_bond_right" fB dB ["_law_problem","_law_held","_law_roots","_law_bond"] (zgl K C)) (BM:FB P w K mg base CX0 1 "_law_merged" fM dM ["_law_roots","_law_one","_law_other"] (zcR K)) (BE:FB P w K mg base CX0 3 "_law_enough" fE dE ["_law_problem","_law_held","_law_bonds","_law_atom"] (zgH K C)) (BH:FB P w K mg base CX0 1 "_law_whole" fH dH ["_law_thing"] ze3):aH P w K mg base CX0 4 f fd ["_law_problem","_law_held","_law_line","_law_first"] (zhp K C):=by
 refine F.ok zaN (fun vs H Q E h=>?_) (fun cdv A outer s H vs Q E hr h=>?_)
 ·obtain⟨p,tl,al,rl,q,a,T',As,Rs,ps,L,M,d,x,y,rfl,_⟩:=h
  rfl
 obtain⟨p,tl,al,rl,q,a,T',As,Rs,ps,L,M,d,x,y,rfl,S,hq,⟨⟨pa,ma,bs,hline,hpa,hma,hbs⟩,sm,R,N,lt⟩,Q0⟩:=h
 have hr1:aO 1 _:=hr.mono (by decide)
 have hr2:aO 2 _:=hr.mono (by decide)
 have hu:=zfH hr
 obtain⟨⟨dx,ho⟩,⟨ts,ht,hT⟩,⟨ys,ha,hA⟩,_⟩:=id S.pr
 have tl':ts.length=T'.length:=by rw[←hT.length,List.length_map]
 have aml:(W51.atP L M).length=M.length:=by unfold W51.atP;rw[List.length_map]
 have bl:bs.length=M.length:=by rw[←hbs.length,List.length_map,List.length_map,aml]
 have ml:M.length≤L.length:=W51.nat_nodup_len _ (lt.imp fun h=>Nat.ne_of_lt h) N.inn
 have ll:=R.len
 have tN:=S.tN
 obtain⟨ix,iy⟩:=zee S.dm sm
 have dpos:=zgm sm
 refine⟨_,(af (zal (PW.pt (zbS (zbk (zbj (zaa zcV rfl TW.isinstance PyProof.Rows.Boot.isinstance (aa (pv 2) (aa (zdB (v:=.ty "tuple") rfl TW.tuple PyProof.Rows.Boot.tuple rfl) ac))))) (zbS (aw zc8 (zaa zab rfl T.len PySem.boot_len (aa (pv 2) ac)) ae (aF _)) (zbM (aw zc8 (aq au (pv 2) ae (fun _ _=>rfl)) zao (aF _))))))
   (ak (aB zbu))
   zaf)
  (af (zal (PW.pt (zbS (zbk (zbj (zaa zcV rfl TW.isinstance PyProof.Rows.Boot.isinstance (aa (aq au (pv 2) ae (fun _ _=>rfl)) (aa (zdB (v:=.ty "tuple") rfl TW.tuple PyProof.Rows.Boot.tuple rfl) ac))))) (zbM (zbk (zbj (zaa zcV rfl TW.isinstance PyProof.Rows.Boot.isinstance (aa (aq au (pv 2) ae (fun _ _=>rfl)) (aa (zdB (v:=.ty "tuple") rfl TW.tuple PyProof.Rows.Boot.tuple rfl) ac))))))))
   (ak (aB zbu))
   zaf)
  (af (ay (i:=4) zaN.nd rfl (Or.inl rfl) (zaC (zbN rfl) rfl TW.list PyProof.Rows.Boot.list (aa (zdg rfl TW.range (aa (zaa zab rfl T.len PySem.boot_len (aa (zaj (pv 0) rfl) ac)) ac)) ac)))
  (af (zaE PassesOwn.never rfl (zcr (aq au (pv 2) ae (fun _ _=>rfl))) (zam (i:=5) zaN.nd rfl (Or.inl rfl))
   (af (zal (zbk (zbj (ax BB.ok hr2 rfl BB.m BB.kp BB.b .nil aE (aa (pv 0) (aa (pv 1) (aa (pv 4) (aa (pv 5) ac)))))))
     (ak (aB zbu))
     zaf)
    (ak (ay (i:=4) zaN.nd rfl (Or.inl rfl) (ax BM.ok hr1 rfl BM.m BM.kp BM.b .nil aE (aa (pv 4) (aa (aq au (pv 5) ae (fun _ _=>rfl)) (aa (aq au (pv 5) ae (fun _ _=>rfl)) ac))))))))
  (af (ay (i:=6) zaN.nd rfl (Or.inl rfl) (az zek (zas (aa (pv 3) ac)) (zeh (N':=["_law_bond"]) (ix:=[]) rfl rfl (by decide +kernel) (by decide +kernel) rfl (fun _=>⟨[],zbK (by decide +kernel) (by decide +kernel)⟩) (by decide +kernel) rfl rfl (fun j i h=>by simp at h) (zcr (aq au (pv 2) ae (fun _ _=>rfl))) (fun _ _ _ _=>(aw zdX (aq (r:=zdD K) au (pv 0) ae (fun _ _=>rfl)) ae (aF _))) (fun _ _ _ _=>(zcc zbB (aq (r:=zdD K) au (pv 0) ae (fun _ _=>rfl)))))))
  (af (zal (PW.pt (zbS (aw (zej hu) (zaC zbt rfl TW.list PyProof.Rows.Boot.list (aa (aq au (pv 2) ae (fun _ _=>rfl)) ac)) (pv 6) rfl) (zbM (aw (zej hu) (zeh (N':=["_law_part"]) (ix:=[]) rfl rfl (by decide +kernel) (by decide +kernel) rfl (fun _=>⟨[],zbK (by decide +kernel) (by decide +kernel)⟩) (by decide +kernel) rfl rfl (fun j i h=>by simp at h) (zcr (aq au (pv 2) ae (fun _ _=>rfl))) (fun _ _ _ _=>(zbk (zbj (ax BH.ok hr1 rfl BH.m BH.kp BH.b .nil aE (aa (pv 0) ac))))) (fun _ _ _ _=>(pv 0))) (zas ac) rfl))))
   (ak (aB zbu))
   zaf)
  (af (ay (i:=7) zaN.nd rfl (Or.inl rfl) (aq zad (zaj (pv 0) rfl) (az zcs (pv 3) ae) (fun _ _=>rfl)))
  (af (zal (aw zc8 (aq zad (pv 4) (aq au (pv 7) ae (fun _ _=>rfl)) (fun _ _=>rfl)) (aq zad (pv 4) (aq au (pv 7) ae (fun _ _=>rfl)) (fun _ _=>rfl)) (aF _))
   (ak (aB zbu))
   zaf)
  (af (zaE PassesOwn.never rfl (zaZ rfl TW.range (aa (zaa zab rfl T.len PySem.boot_len (aa (aq au (pv 2) ae (fun _ _=>rfl)) ac)) ac)) (zam (i:=8) zaN.nd rfl (Or.inl rfl))
   (ak (zal (zbj (ax BE.ok hr rfl BE.m BE.kp BE.b .nil aE (aa (pv 0) (aa (pv 1) (aa (az zia (zcF zfl (aq au (pv 2) ae (fun _ _=>rfl)) zc0 (zcZ (pv 8))) (zcF zfl (aq au (pv 2) ae (fun _ _=>rfl)) (zcZ (az zaX (pv 8) ae)) zc0)) (aa (pv 7) ac))))))
     (ak (aB zbu))
     zaf)))
  (ak (aB zbu))))))))))),?_⟩
 have at0:atI [V.str "equal",V.ref pa,V.ref ma] 0=some (.str "equal"):=aA (j:=0) rfl
 have at1:atI [V.str "equal",V.ref pa,V.ref ma] 1=some (.ref pa):=aA (j:=1) rfl
 have at2:atI [V.str "equal",V.ref pa,V.ref ma] 2=some (.ref ma):=aA (j:=2) rfl
 refine⟨_,rfl,a,_,"tuple",true,rfl,hline,zet K "tuple",_,rfl,aP ⟨_,rfl,a,_,rfl,.inr hline,rfl,_,rfl,aP ⟨_,rfl,a,_,_,_,rfl,rfl,hline,at0,rfl,_,rfl,zaq (fun c=>absurd c (by simp)) (fun _=>?_)⟩⟩⟩
 refine⟨_,rfl,a,_,_,_,rfl,rfl,hline,at1,pa,_,"tuple",true,rfl,hpa,zet K "tuple",_,rfl,aP ⟨_,rfl,a,_,_,_,rfl,rfl,hline,at2,ma,_,"tuple",true,rfl,hma,zet K "tuple",_,rfl,aP ?_⟩⟩
 refine⟨_,rfl,p,C,dx,_,_,rfl,ho,T.cl,T.nT,zan _ _ _,tl,_,rfl,.inl (SqL.of ht),_,rfl,fun r0 hr0=>?_⟩
 have s0:=ai hr0 (.rng 0 ((ts.length:Nat):Int))
 have n0:=ad (H:=H) (a:=r0) (o:=.rng 0 ((ts.length:Nat):Int))
 generalize upd H r0 (.rng 0 ((ts.length:Nat):Int))=H0 at s0 n0
 refine⟨r0,_,rfl,n0,(by omega),(by omega),fun r1 hr1'=>?_⟩
 have e0:(((List.range (((ts.length:Nat):Int)).toNat).map fun i:Nat=>(i:Int)).map V.int)=(zaU T'.length).map V.int:=by
  rw[Int.toNat_natCast,tl']
  rfl
 rw[e0]
 have s1:=s0.trans (ai hr1' (.lst ((zaU T'.length).map V.int)))
 have n1:=ad (H:=H0) (a:=r1) (o:=.lst ((zaU T'.length).map V.int))
 generalize upd H0 r1 (.lst ((zaU T'.length).map V.int))=H1 at s1 n1
 have ag0:zbp T'.length (hdL []) (rf (zaU T'.length)):=fun t u ht hu=>by rw[zef ht,zef hu];exact Iff.rfl
 refine⟨_,rfl,a,_,_,_,rfl,rfl,s1.tup hline,at2,ma,rfl,⟨_,s1.tup hma⟩,zbx zbY (fun i σ H'=>∃(r:Addr) (rs:List Int) (v5:Option V),σ=[some (.ref p),some (.ref q),some (.ref a),some (.int d),some (.ref r),v5,none,none,none]∧ao H H'∧H' r=some (.lst (rs.map V.int))∧rs.length=T'.length∧zbp T'.length (hdL ((W51.atP L M).take i)) (rf rs)) (fun i σ H' ⟨_,_,_,_,s2,_⟩=>s2.tup hma) ⟨r1,_,none,rfl,s1,n1,zb5 _,ag0⟩ ?_ ?_⟩
 ·rintro i σ H9 z H2 hi ⟨r,rs,v5,rfl,s2,hr2',rl2,Ag⟩ ⟨rfl,hz⟩
  obtain⟨b,pb,hb',rfl,hpb⟩:=zdu hbs (hz _ (s2.tup hma))
  rw[List.getElem?_map]at hb'
  obtain⟨n,hn,eb⟩:=Option.map_eq_some_iff.mp hb'
  obtain⟨in1,in2⟩:=ziu R.inn N.inn n (List.mem_of_getElem? hn)
  have b1:b.1=n.1:=by rw[←eb];rfl
  have b2:b.2.1=n.2.1:=by rw[←eb];rfl
  refine⟨_,rfl,_,rfl,_,rfl,_,rfl,p,tl,al,rl,q,r,pb,T',As,Rs,ps,rs,b,rfl,S.same s2,s2.seq hq,SqL.of hr2',rl2,s2.tup hpb,by rw[b1];exact in1,by rw[b2];exact in2,fun H3 s3=>⟨_,rfl,?_⟩⟩
  have ebn:zfI (rf rs) ps T' As b=true:=by rw[←eb];exact zj7 S.dm R N lt hn Ag
  rw[ebn]
  refine aP ⟨_,rfl,_,rfl,pb,_,_,_,rfl,rfl,(s2.trans s3).tup hpb,l0 b,_,rfl,pb,_,_,_,rfl,rfl,(s2.trans s3).tup hpb,l1 b,r,rs,b.1,b.2.1,rfl,SqL.of (s3 _ _ hr2'),by rw[rl2,b1];exact in1,by rw[rl2,b2];exact in2,by omega,fun H4 r4 s4 f4 hr4=>?_⟩
  refine⟨r4,_,_,rfl,(s2.trans s3).trans s4,hr4,by rw[zdx];exact rl2,?_⟩
  rw[zai hn,zbs,b1,b2]
  exact zgp Ag rl2 in1 in2
 rintro σ H2 ⟨r,rs,v5,rfl,s2,hr2',rl2,Ag⟩
 rw[bl,←aml,List.take_length]at Ag
 generalize eB:(W51.atP L M).map (mk1 (hsF As ps))=B at hbs hpa
 have bl2:B.length=M.length:=by rw[←eB,List.length_map,aml]
 refine⟨_,rfl,lS1,fun o ho'=>?_⟩
 have s3:=s2.trans (ai ho' (.lst [.int d]))
 have n3:=ad (H:=H2) (a:=o) (o:=.lst [.int d])
 have r3:=ai ho' (.lst [.int d]) _ _ hr2'
 generalize upd H2 o (.lst [.int d])=H3 at s3 n3 r3
 refine⟨_,rfl,a,_,_,_,rfl,rfl,s3.tup hline,at2,ma,rfl,⟨_,s3.tup hma⟩,fun D2 hD2=>zdd zbY (fun i vs H'=>ao H3 H'∧vs=(((B.take i).filter fun b=>decide (b.2.2 > 0)).map fun b=>-b.2.2).map V.int) (fun i vs H' ⟨s6,_⟩=>(s3.trans s6).tup hma) ⟨ai hD2 _,rfl⟩ ?_ ?_⟩
 ·rintro i vs H9 z H6 hi hly hDs6 ⟨s6,rfl⟩ ⟨rfl,hz⟩
  obtain⟨k,pk,hk,rfl,hpk⟩:=zdu hbs (hz _ ((s3.trans s6).tup hma))
  have hpk6:=(s3.trans s6).tup hpk
  refine⟨_,rfl,pk,_,_,_,rfl,rfl,hpk6,l2 k,_,_,rfl,rfl,_,rfl,zaq (fun c=>?_) (fun c=>?_)⟩
  ·refine⟨_,rfl,pk,_,_,_,rfl,rfl,hpk6,l2 k,_,rfl,zaQ (sz _ (by omega)) hi hly hDs6 ⟨s6.upd hD2,?_⟩⟩
   rw[zfn hk,if_pos (of_decide_eq_true c),List.map_append]
   rfl
  ·refine zch hi hly hDs6 ⟨s6,?_⟩
   rw[zfn hk,if_neg (fun z=>c (decide_eq_true z)),List.append_nil]
 rintro vs H6 hDs6 ⟨s6,rfl⟩
 rw[bl,←bl2,List.take_length]at hDs6
 have fl:((B.filter fun b=>decide (b.2.2 > 0)).map fun b=>-b.2.2).length≤100:=by
  rw[List.length_map]
  have:=List.length_filter_le (fun b:Lk=>decide (b.2.2 > 0)) B
  omega
 refine⟨o,D2,_,_,rfl,rfl,s6 _ _ n3,hDs6,sz _ (by rw[List.length_map];show 1+_≤1000;omega),fun o7 ho7=>?_⟩
 have s7:=ai ho7 (.lst ([.int d]++((B.filter fun b=>decide (b.2.2 > 0)).map fun b=>-b.2.2).map V.int))
 have n7:=ad (H:=H6) (a:=o7) (o:=.lst ([.int d]++((B.filter fun b=>decide (b.2.2 > 0)).map fun b=>-b.2.2).map V.int))
 generalize upd H6 o7 (.lst ([.int d]++((B.filter fun b=>decide (b.2.2 > 0)).map fun b=>-b.2.2).map V.int))=H7 at s7 n7
 have n7:H7 o7=some (.lst ((ptF d B).map V.int)):=n7
 have s07:=(s3.trans s6).trans s7
 have r7:=(s6.trans s7) _ _ r3
 refine⟨_,rfl,a,_,_,_,rfl,rfl,s07.tup hline,at1,pa,_,rfl,.inr (s07.tup hpa),fun l8 hl8=>?_⟩
 have s8:=ai hl8 (.lst ((ptF d B).map V.int))
 have n8:=ad (H:=H7) (a:=l8) (o:=.lst ((ptF d B).map V.int))
 generalize upd H7 l8 (.lst ((ptF d B).map V.int))=H8 at s8 n8
 have s08:=s07.trans s8
 refine⟨_,rfl,.lst ((ptF d B).map Dt.int),.lst ((ptF d B).map Dt.int),Has.lst' (SqL.of n8) (ah.ints _),Has.lst' (SqL.of (s8 _ _ n7)) (ah.ints _),(by simp only[dep,zbc];decide),_,rfl,?_⟩
 rw[zaS]
 refine aP ⟨_,rfl,a,_,_,_,rfl,rfl,s08.tup hline,at1,pa,rfl,⟨_,s08.tup hpa⟩,fun D9 hD9=>zdd zbY (fun i vs H'=>ao H8 H'∧vs=[]) (fun i vs H' ⟨s9,_⟩=>(s08.trans s9).tup hpa) ⟨ai hD9 _,rfl⟩ ?_ ?_⟩
 ·rintro i vs H10 z H9 hi hly hDs9 ⟨s9,rfl⟩ ⟨rfl,hz⟩
  obtain⟨n,hn,rfl⟩:=zaT (hz _ ((s08.trans s9).tup hpa))
  exact⟨_,rfl,n,rfl,_,rfl,aP (zch hi hly hDs9 ⟨s9,rfl⟩)⟩
 rintro vs H9 hDs9 ⟨s9,rfl⟩
 refine⟨lS0,fun e10 he10=>?_⟩
 have s10:=ai he10 (.lst [])
 have n10:=ad (H:=H9) (a:=e10) (o:=.lst [])
 have d10:=s10 _ _ hDs9
 generalize upd H9 e10 (.lst [])=H10 at s10 n10 d10
 have s010:=(s08.trans s9).trans s10
 have r10:=(s8.trans (s9.trans s10)) _ _ r7
 refine⟨.lst [],.lst [],Has.lst' (SqL.of d10) ah.nil,Has.lst' (SqL.of n10) ah.nil,(by simp only[dep,zaM];decide),_,rfl,?_⟩
 rw[zaS]
 obtain⟨xa,x2,hcase⟩:=zgy (f:=rf rs) S.dm (hA.keep s010.kt (zdQ _)) dpos.1 dpos.2
 refine aP ⟨_,rfl,p,C,dx,_,_,rfl,s010 _ _ ho,T.cl,T.nA,zaD _ _ _,_,rfl,_,_,rfl,rfl,al,_,_,_,rfl,rfl,SqL.of (s010 _ _ ha),x2,?_⟩
 rcases hcase with ⟨z,qa,rfl,hqa,_,sn⟩ | ⟨a1,b1,qa,rfl,hqa,ia,ib,sm2,_⟩
 ·rw[sm]at sn
  cases sn
 rw[sm]at sm2
 cases sm2
 refine⟨_,rfl,_,rfl,qa,_,_,_,rfl,rfl,hqa,aA (j:=1) rfl,r,_,_,_,rfl,rfl,SqL.of r10,za1 (by rw[rl2];exact ix),_,rfl,_,rfl,qa,_,_,_,rfl,rfl,hqa,aA (j:=2) rfl,r,_,_,_,rfl,rfl,SqL.of r10,za1 (by rw[rl2];exact iy),rfl,_,rfl,?_⟩
 have jn:=(W51.joinsF_of _ _ (N.joins R lt)).2
 rw[List.nil_append]at jn
 rw[zdk,decide_eq_true ((Ag x y ix iy).mp jn)]
 refine aP ⟨_,rfl,a,_,_,_,rfl,rfl,s010.tup hline,at2,ma,_,rfl,.inr (s010.tup hma),_,rfl,by omega,by omega,za6 (lo:=0) (n:=(((bs.length:Nat):Int)).toNat) (fun i σ H'=>∃ v8:Option V,σ=[some (.ref p),some (.ref q),some (.ref a),some (.int d),some (.ref r),v5,some (.ref o7),some (.ref qa),v8]∧ao H10 H') ⟨none,rfl,ao.refl _⟩ ?_ ?_⟩
 ·rintro k σ H11 hk ⟨v8,rfl,s11⟩
  have kM:k < M.length:=by
   have:k < (((bs.length:Nat):Int)).toNat:=hk
   omega
  have s011:=s010.trans s11
  rw[Int.zero_add]
  refine⟨_,rfl,_,rfl,_,rfl,a,_,_,_,rfl,rfl,s011.tup hline,at2,_,rfl,_,rfl,zg7 (s011.tup hma) fun H12 c1 s12 hc1=>?_⟩
  rw[zkG]at hc1
  have s012:=s011.trans s12
  refine⟨_,rfl,a,_,_,_,rfl,rfl,s012.tup hline,at2,_,rfl,_,_,rfl,rfl,_,rfl,zg7 (s012.tup hma) fun H13 c2 s13 hc2=>?_⟩
  rw[show(k:Int)+1=((k+1:Nat):Int) by omega,zkH (show k+1≤bs.length by omega)]at hc2
  have s013:=s012.trans s13
  refine⟨c1,c2,_,_,rfl,rfl,s13.tup hc1,hc2,sz _ (by rw[List.length_take,List.length_drop];omega),fun H14 c3 s14 hc3=>?_⟩
  have s014:=s013.trans s14
  have hb14:ah K H14 (((W51.atP L (M.take k++M.drop (k+1))).map (mk1 (hsF As ps))).map dL) (bs.take k++bs.drop (k+1)):=by
   have h:=ah.keep s014.kt (zaF _) hbs
   rw[zlB,List.map_append,List.map_append,List.map_take,List.map_drop,List.map_take,List.map_drop,eB]
   exact ah.append (ah.take k h) (zgS (k+1) h)
  obtain⟨g1,g2⟩:=but_at lt (List.getElem?_eq_getElem kM)
  have fin:=N.least R (List.getElem_mem kM) g1 g2
  refine⟨_,rfl,p,tl,al,rl,q,c3,qa,T',As,Rs,ps,hsF As ps,_,W51.atP L (M.take k++M.drop (k+1)),x,y,rfl,S.same s014,s014.seq hq,hc3,hb14,ziu R.inn (fun j hj=>N.inn j (g1 j hj).1),(s11.trans (s12.trans (s13.trans s14))).tup hqa,ix,iy,fun H15 b s15 hb=>⟨_,rfl,?_⟩⟩
  cases b with
  | true =>
   have:=hb rfl
   rw[fin]at this
   cases this
  | false=>exact aP ⟨_,rfl,s11.trans (s12.trans (s13.trans (s14.trans s15)))⟩
 ·rintro σ H11 ⟨v8,rfl,s11⟩
  exact Q0 H11 (s010.trans s11)
end
end K51
namespace K51
open PySem L2
def FrP (H H':Hp) (tl al rl:Addr):Prop:=∀ b o,H b=some o→b≠tl→b≠al→b≠rl→H' b=some o
theorem FrP.t {H H':Hp} {tl al rl:Addr} (f:Fr1 H H' tl):FrP H H' tl al rl:=fun b o e n _ _=>f b o e n
theorem FrP.trans {H H1 H2:Hp} {tl al rl:Addr} (a:FrP H H1 tl al rl) (b:FrP H1 H2 tl al rl):FrP H H2 tl al rl:=fun c o e n1 n2 n3=>b c o (a c o e n1 n2 n3) n1 n2 n3
structure L3 (K:W.Frag) (H:Hp) (lt la lr:Addr) (T:List Tm) (As:List At) (Rs:List (List Int)):Prop where
 t:∃ xs,H lt=some (.lst xs)∧ah K H (T.map dT) xs
 a:∃ xs,H la=some (.lst xs)∧ah K H (As.map dA) xs
 r:∃ xs,H lr=some (.lst xs)∧ah K H (Rs.map dR) xs
section
variable {K:W.Frag} {C:Addr} {H H':Hp} {p tl al rl lt la lr x y z:Addr} {T T2:List Tm} {As As2:List At} {Rs Rs2:List (List Int)}
theorem zbf.l3 (S:zbf K C H p tl al rl T As Rs):L3 K H tl al rl T As Rs:=⟨S.tm,S.am,S.rm⟩
theorem FrP.keepT (f:FrP H H' x y z) (L:L3 K H x y z T As Rs):zag H H':=fun b us q=>by
 obtain⟨⟨_,h1,_⟩,⟨_,h2,_⟩,⟨_,h3,_⟩⟩:=L
 rcases q with q | ⟨o,q⟩
 ·exact .inl (f b _ q (zax q h1 (fun e=>by cases e)) (zax q h2 (fun e=>by cases e)) (zax q h3 (fun e=>by cases e)))
 ·exact .inr ⟨o,f b _ q (zax q h1 (fun e=>by cases e)) (zax q h2 (fun e=>by cases e)) (zax q h3 (fun e=>by cases e))⟩
theorem L3.same (h:L3 K H lt la lr T As Rs) (s:ao H H'):L3 K H' lt la lr T As Rs:=by
 obtain⟨⟨xs,h2,h3⟩,⟨ys,h4,h5⟩,⟨ws,h6,h7⟩⟩:=h
 exact⟨⟨xs,s _ _ h2,h3.keep (.of_same s) (zbr T)⟩,⟨ys,s _ _ h4,h5.keep (.of_same s) (zaJ zcO As)⟩,⟨ws,s _ _ h6,h7.keep (.of_same s) (zaJ zdG Rs)⟩⟩
theorem L3.keep (h:L3 K H lt la lr T As Rs) (f:FrP H H' x y z) (L:L3 K H x y z T2 As2 Rs2) (n:∀ b∈[lt,la,lr],b≠x∧b≠y∧b≠z):L3 K H' lt la lr T As Rs:=by
 have kt:=f.keepT L
 obtain⟨⟨xs,h2,h3⟩,⟨ys,h4,h5⟩,⟨ws,h6,h7⟩⟩:=h
 have n1:=n lt (by simp)
 have n2:=n la (by simp)
 have n3:=n lr (by simp)
 exact⟨⟨xs,f _ _ h2 n1.1 n1.2.1 n1.2.2,h3.keep kt (zbr T)⟩,⟨ys,f _ _ h4 n2.1 n2.2.1 n2.2.2,h5.keep kt (zaJ zcO As)⟩,⟨ws,f _ _ h6 n3.1 n3.2.1 n3.2.2,h7.keep kt (zaJ zdG Rs)⟩⟩
theorem FrP.tup {q:Addr} {us:List V} (f:FrP H H' x y z) (L:L3 K H x y z T As Rs) (h:H q=some (.tup us)):H' q=some (.tup us):=by
 obtain⟨⟨_,g1,_⟩,⟨_,g2,_⟩,⟨_,g3,_⟩⟩:=L
 exact f _ _ h (zax h g1 (fun e=>by cases e)) (zax h g2 (fun e=>by cases e)) (zax h g3 (fun e=>by cases e))
theorem L3.apart (L:L3 K H x y z T As Rs) {b:Addr} (h:H b=none):b≠x∧b≠y∧b≠z:=by
 obtain⟨⟨_,g1,_⟩,⟨_,g2,_⟩,⟨_,g3,_⟩⟩:=L
 exact⟨Ne.symm (zac g1 h),Ne.symm (zac g2 h),Ne.symm (zac g3 h)⟩
theorem L3.hasT (h:L3 K H lt la lr T As Rs):Has K H (.lst (T.map dT)) (.ref lt):=by
 obtain⟨xs,h1,h2⟩:=h.t
 exact Has.lst' (SqL.of h1) h2
theorem L3.hasA (h:L3 K H lt la lr T As Rs):Has K H (.lst (As.map dA)) (.ref la):=by
 obtain⟨xs,h1,h2⟩:=h.a
 exact Has.lst' (SqL.of h1) h2
theorem L3.hasR (h:L3 K H lt la lr T As Rs):Has K H (.lst (Rs.map dR)) (.ref lr):=by
 obtain⟨xs,h1,h2⟩:=h.r
 exact Has.lst' (SqL.of h1) h2
theorem L3.has3 (h:L3 K H lt la lr T As Rs) {q:Addr} (hq:SqT K H q [.ref lt,.ref la,.ref lr]):Has K H (.tup [.lst (T.map dT),.lst (As.map dA),.lst (Rs.map dR)]) (.ref q):=Has.tup' hq (.cons h.hasT (.cons h.hasA (.cons h.hasR .nil)))
theorem depT (T:List Tm):dep (.lst (T.map dT))≤10:=by
 have:=zcJ (code:=dT) (n:=2) (fun t=>Nat.le_of_eq (zjq t)) T
 simp only[dep]
 omega
theorem depA (As:List At):dep (.lst (As.map dA))≤10:=by
 have:=zcJ (code:=dA) (n:=1) (fun t=>Nat.le_of_eq (zhf t)) As
 simp only[dep]
 omega
theorem depR (Rs:List (List Int)):dep (.lst (Rs.map dR))≤10:=by
 have:=zcJ (code:=dR) (n:=1) (fun t=>Nat.le_of_eq (dep_dR t)) Rs
 simp only[dep]
 omega
theorem dep3 (T:List Tm) (As:List At) (Rs:List (List Int)):dep (.tup [.lst (T.map dT),.lst (As.map dA),.lst (Rs.map dR)])≤60:=by
 have:=depT T
 have:=depA As
 have:=depR Rs
 simp only[dep,zaM]at *
 omega
end
section
variable {P:Program} {w:World} {K:W.Frag} {mg:Str→Option Value} {base:Heap} {aK C CN CT CP CM:Addr}
theorem zkC {H:Hp} {p tl al rl:Addr} {T:List Tm} {As:List At} {Rs:List (List Int)} {a b:Int} {Q:VK} {E:XK} (S:PrD K C H p tl al rl T As Rs) (ha:InR T.length a) (hb:InR T.length b) (hl:As.length < 40)
  (out:∀(H':Hp) (more:List At) (k:Nat),PrD K C H' p tl al rl T (As++more) Rs→Fr2 H H' al rl→more.length≤1→1≤k→k≤(As++more).length→Q (.int (k:Nat)) H'):zfY K C CN CT CP CM [.ref p,.int a,.int b] H Q E:=by
 have tN:=S.tN
 obtain⟨a0,a1⟩:=id ha
 obtain⟨b0,b1⟩:=id hb
 refine⟨p,tl,al,rl,T,As,Rs,a,b,rfl,S.pr,⟨by omega,by omega⟩,⟨by omega,by omega⟩,by omega,?_⟩
 by_cases hm:At.same b a∈As
 ·have e:zbo T.length As a b=(.num (As.idxOf (.same b a)+1),As):=by
   unfold zbo
   rw[if_neg (by omega),if_pos hm]
  rw[e]
  intro H' pr f
  exact out H' [] _ ⟨by rw[List.append_nil];exact pr,by rw[List.append_nil];exact S.dm,S.t3,S.tN⟩ f (Nat.zero_le _) (by omega) (by rw[List.append_nil];have:=List.idxOf_lt_length_of_mem hm;omega)
 by_cases hm2:At.same a b∈As
 ·have e:zbo T.length As a b=(.num (As.idxOf (.same a b)+1),As):=by
   unfold zbo
   rw[if_neg (by omega),if_neg hm,if_pos hm2]
  rw[e]
  intro H' pr f
  exact out H' [] _ ⟨by rw[List.append_nil];exact pr,by rw[List.append_nil];exact S.dm,S.t3,S.tN⟩ f (Nat.zero_le _) (by omega) (by rw[List.append_nil];have:=List.idxOf_lt_length_of_mem hm2;omega)
 ·have e:zbo T.length As a b=(.num (As.length+1),As++[.same a b]):=by
   unfold zbo
   rw[if_neg (by omega),if_neg hm,if_neg hm2,if_neg (by omega)]
  rw[e]
  intro H' pr f
  exact out H' [.same a b] _ ⟨pr,S.dm.snocA (fun x y h=>by cases h;exact⟨ha,hb⟩),S.t3,S.tN⟩ f (Nat.le_refl _) (by omega) (by rw[List.length_append,List.length_singleton];omega)
end
theorem zh3 {As:List At} {f g:Int→Int} (h:∀ x y,f x=f y↔g x=g y):zaL f As=zaL g As:=by
 funext k
 unfold zaL
 cases e:smF As k with
 | none=>rfl
 | some q=>exact decide_eq_decide.mpr (h _ _)
def ziA (d:Int) (B:List Lk):Dt:=.tup [.str "equal",.tup ((ptF d B).map Dt.int),.tup (B.map dL)]
theorem zdf.has {K:W.Frag} {H:Hp} {a:Addr} {d:Int} {B:List Lk} (h:zdf K H a d B):Has K H (ziA d B) (.ref a):=by
 obtain⟨pa,ma,bs,h1,h2,h3,h4⟩:=h
 exact Has.tup' h1 (.cons Has.str' (.cons (Has.tup' h2 (ah.ints _)) (.cons (Has.tup' h3 h4) .nil)))
theorem zkF (d:Int) (B:List Lk):dep (ziA d B)≤60:=by
 have:=zik B
 unfold ziA
 simp only[dep,zaM,zbc]
 omega
section
variable {P:Program} {w:World} {K:W.Frag} {mg:Str→Option Value} {base:Heap} {aK C CN CT CP CM:Addr} {f fC fD fL:Addr} {fd dC dD dL':FuncData}
def zeH (K:W.Frag) (C:Addr):Sp:=fun vs H Q _=>∃(p tl al rl q hd:Addr) (T:List Tm) (As:List At) (Rs:List (List Int)) (ps:List Int),vs=[.ref p,.ref q,.ref hd]∧PrD K C H p tl al rl T As Rs∧SqL K H q (ps.map V.int)∧SqI K H hd ps∧(∀ k∈ps,PIn As.length k)∧ps.length < 64∧0 < T.length∧T.length≤60∧∀ H',ao H H'→Q (.bl true) H'
theorem zcA:zae ["_law_problem","_law_held","_law_handed","_law_kept","_law_found","_law_denied_here"] ["_law_problem","_law_held","_law_handed"] (ar zdU):=⟨rfl,rfl,rfl,by decide +kernel,rfl,by decide +kernel,by decide +kernel⟩
set_option maxHeartbeats 1000000 in
theorem zku (F:Fun K "_law_asked" "_law_asked" zdU f fd) (T:Txt K mg aK C CN CT CP CM) (TW:W51.Txt K mg) (BC:FB P w K mg base CX0 6 "clash" fC dC ["problem","held"] (zhr K C)) (BD:FB P w K mg base CX0 4 "_law_denied" fD dD ["_law_problem","_law_held"] (zgI K C)) (BL:FB P w K mg base CX0 4 "_law_line_right" fL dL' ["_law_problem","_law_held","_law_line","_law_first"] (zhp K C)):aH P w K mg base CX0 7 f fd ["_law_problem","_law_held","_law_handed"] (zeH K C):=by
 refine F.ok zcA (fun vs H Q E h=>?_) (fun cdv A outer s H vs Q E hr h=>?_)
 ·obtain⟨p,tl,al,rl,q,hd,T',As,Rs,ps,rfl,_⟩:=h
  rfl
 obtain⟨p,tl,al,rl,q,hd,T',As,Rs,ps,rfl,S,hq,hI,pin,p64,t1,t60,Q0⟩:=h
 have hr4:aO 4 _:=hr.mono (by decide)
 have hu:=zfH hr
 refine⟨_,(af (ay (i:=3) zcA.nd rfl (Or.inl rfl) (zaR (aa (zaC zbt rfl TW.list PyProof.Rows.Boot.list (aa (zaj (pv 0) rfl) ac)) (aa (zaC zbt rfl TW.list PyProof.Rows.Boot.list (aa (zaj (pv 0) rfl) ac)) (aa (zaC zbt rfl TW.list PyProof.Rows.Boot.list (aa (zaj (pv 0) rfl) ac)) ac)))))
  (af (ay (i:=4) zcA.nd rfl (Or.inl rfl) (ax BC.ok hr rfl BC.m BC.kp BC.b .nil aE (aa (pv 0) (aa (pv 2) ac))))
  (af (zal (PW.pt (zbS (aw (zej hu) (zaC zbt rfl TW.list PyProof.Rows.Boot.list (aa (pv 2) ac)) (pv 1) rfl) (zbM (aw (zej hu) (pv 3) (zaR (aa (zaj (pv 0) rfl) (aa (zaj (pv 0) rfl) (aa (zaj (pv 0) rfl) ac)))) rfl))))
   (ak (aB zbu))
   zaf)
  (af (zal (aw (zej hu) (ax BC.ok hr rfl BC.m BC.kp BC.b .nil aE (aa (pv 0) (aa (pv 2) ac))) (pv 4) rfl)
   (ak (aB zbu))
   zaf)
  (af (ay (i:=5) zcA.nd rfl (Or.inl rfl) (ax BD.ok hr4 rfl BD.m BD.kp BD.b .nil aE (aa (pv 0) (aa (pv 1) ac))))
  (af (zal (aw (zhc hu) (pv 5) (zas ac) rfl)
   (ak (aB (zbO zf1 (pv 4) zb0 (aF _))))
   zaf)
  (ak (aB (ax BL.ok hr4 rfl BL.m BL.kp BL.b .nil aE (aa (pv 0) (aa (pv 1) (aa (pv 4) (aa (aq zad (pv 5) ae (fun _ _=>rfl)) ac))))))))))))),?_⟩
 obtain⟨⟨dx,ho⟩,⟨ts,ht,hT⟩,⟨ys,ha,hA⟩,⟨zs,hz,hZ⟩,_⟩:=id S.pr
 refine⟨_,rfl,p,C,dx,_,_,rfl,ho,T.cl,T.nT,zan _ _ _,tl,ts,rfl,.inl (SqL.of ht),fun lt hlt=>?_⟩
 have s5:=ai hlt (.lst ts)
 have n5:=ad (H:=H) (a:=lt) (o:=.lst ts)
 generalize upd H lt (.lst ts)=H5 at s5 n5
 refine⟨_,rfl,p,C,dx,_,_,rfl,s5 _ _ ho,T.cl,T.nA,zaD _ _ _,al,ys,rfl,.inl (SqL.of (s5 _ _ ha)),fun la hla=>?_⟩
 have s6:=ai hla (.lst ys)
 have n6:=ad (H:=H5) (a:=la) (o:=.lst ys)
 generalize upd H5 la (.lst ys)=H6 at s6 n6
 refine⟨_,rfl,p,C,dx,_,_,rfl,s6 _ _ (s5 _ _ ho),T.cl,T.nR,zfa _ _ _,rl,zs,rfl,.inl (SqL.of (s6 _ _ (s5 _ _ hz))),fun lr hlr=>?_⟩
 have s7:=ai hlr (.lst zs)
 have n7:=ad (H:=H6) (a:=lr) (o:=.lst zs)
 generalize upd H6 lr (.lst zs)=H7 at s7 n7
 refine⟨lS3,fun kp hkp=>?_⟩
 have s8:=ai hkp (.tup [.ref lt,.ref la,.ref lr])
 have n8:=ad (H:=H7) (a:=kp) (o:=.tup [.ref lt,.ref la,.ref lr])
 generalize upd H7 kp (.tup [.ref lt,.ref la,.ref lr])=H8 at s8 n8
 have s08:=((s5.trans s6).trans s7).trans s8
 have kept8:L3 K H8 lt la lr T' As Rs:=⟨⟨ts,s8 _ _ (s7 _ _ (s6 _ _ n5)),hT.keep s08.kt (zbr _)⟩,⟨ys,s8 _ _ (s7 _ _ n6),hA.keep s08.kt (zaJ zcO _)⟩,⟨zs,s8 _ _ n7,hZ.keep s08.kt (zaJ zdG _)⟩⟩
 have S8:=S.same s08
 refine⟨_,rfl,_,rfl,p,tl,al,rl,hd,T',As,Rs,ps,rfl,S8,hI.same s08,p64,t60,fun L ms eL R G Cl pm pw=>⟨fun e0 H9 s9=>?_,fun d r x y M H9 a e0 sm hj N lts s9 hLn=>?_⟩⟩
 ·have s09:=s08.trans s9
  have S9:=S8.same s9
  refine⟨_,rfl,hd,_,rfl,hI.same s09,fun l1 hl1=>?_⟩
  have s10:=s9.trans (ai hl1 (.lst (ps.map V.int)))
  have n10:=ad (H:=H9) (a:=l1) (o:=.lst (ps.map V.int))
  generalize upd H9 l1 (.lst (ps.map V.int))=H10 at s10 n10
  have s010:=s08.trans s10
  refine⟨_,rfl,.lst (ps.map Dt.int),.lst (ps.map Dt.int),Has.lst' (SqL.of n10) (ah.ints _),Has.lst' (s010.seq hq) (ah.ints _),(by simp only[dep,zbc];decide),_,rfl,?_⟩
  rw[zaS]
  have S10:=S8.same s10
  obtain⟨⟨dx10,ho10⟩,_⟩:=id S10.pr
  refine aP ⟨_,rfl,_,rfl,p,C,dx10,_,_,rfl,ho10,T.cl,T.nT,zan _ _ _,_,rfl,p,C,dx10,_,_,rfl,ho10,T.cl,T.nA,zaD _ _ _,_,rfl,p,C,dx10,_,_,rfl,ho10,T.cl,T.nR,zfa _ _ _,lS3,fun k2 hk2=>?_⟩
  have s11:=s10.trans (ai hk2 (.tup [.ref tl,.ref al,.ref rl]))
  have n11:=ad (H:=H10) (a:=k2) (o:=.tup [.ref tl,.ref al,.ref rl])
  generalize upd H10 k2 (.tup [.ref tl,.ref al,.ref rl])=H11 at s11 n11
  have S11:=S8.same s11
  have s011:=s08.trans s11
  refine⟨_,_,(kept8.same s11).has3 (SqT.of (s11 _ _ n8)),S11.pr.l3.has3 (SqT.of n11),dep3 _ _ _,_,rfl,?_⟩
  rw[zaS]
  refine aP ⟨_,rfl,_,rfl,p,tl,al,rl,hd,T',As,Rs,ps,rfl,S11,hI.same s011,p64,t60,fun L2 ms2 eL2 R2 G2 Cl2 pm2 pw2=>⟨fun _ H12 s12=>?_,fun d2 r2 x2 y2 M2 H12 a2 e2=>?_⟩⟩
  rotate_left
  ·exfalso
   rw[eL2,←eL,zcS (pm2.trans pm.symm) pw2 pw,e0]at e2
   cases e2
  have s012:=s011.trans s12
  refine⟨_,rfl,.non,.non,(by simp only[Has]),(by simp only[Has]),(by simp only[dep];decide),_,rfl,?_⟩
  rw[zaS]
  refine aP ⟨_,rfl,_,rfl,p,tl,al,rl,q,T',As,Rs,ps,rfl,S.same s012,s012.seq hq,pin,p64,t1,fun H13 dl ms' L' s13 hdl pm' pw' R' G' Cl'=>?_⟩
  have ag:∀ x y,hdL L' x=hdL L' y↔hdL L x=hdL L y:=fun x y=>⟨zf2 R' G Cl x y,zf2 R G' Cl' x y⟩
  rw[zh3 ag,zcS (pm'.trans pm.symm) pw' pw,e0]at hdl
  refine⟨_,rfl,lS0,fun e he=>?_⟩
  refine⟨.lst [],.lst [],Has.lst' (SqL.of (ai he _ _ _ hdl)) ah.nil,Has.lst' (SqL.of ad) ah.nil,(by simp only[dep,zaM];decide),_,rfl,?_⟩
  rw[zaS]
  refine zaK ⟨_,rfl,rfl,?_⟩
  rw[decide_eq_true rfl]
  exact Q0 _ ((s012.trans s13).trans (ai he _))
 ·have s09:=s08.trans s9
  have S9:=S8.same s9
  refine⟨_,rfl,hd,_,rfl,hI.same s09,fun l1 hl1=>?_⟩
  have s10:=s9.trans (ai hl1 (.lst (ps.map V.int)))
  have n10:=ad (H:=H9) (a:=l1) (o:=.lst (ps.map V.int))
  have f10:=hLn.same (ai hl1 (.lst (ps.map V.int)))
  generalize upd H9 l1 (.lst (ps.map V.int))=H10 at s10 n10 f10
  have s010:=s08.trans s10
  refine⟨_,rfl,.lst (ps.map Dt.int),.lst (ps.map Dt.int),Has.lst' (SqL.of n10) (ah.ints _),Has.lst' (s010.seq hq) (ah.ints _),(by simp only[dep,zbc];decide),_,rfl,?_⟩
  rw[zaS]
  have S10:=S8.same s10
  obtain⟨⟨dx10,ho10⟩,_⟩:=id S10.pr
  refine aP ⟨_,rfl,_,rfl,p,C,dx10,_,_,rfl,ho10,T.cl,T.nT,zan _ _ _,_,rfl,p,C,dx10,_,_,rfl,ho10,T.cl,T.nA,zaD _ _ _,_,rfl,p,C,dx10,_,_,rfl,ho10,T.cl,T.nR,zfa _ _ _,lS3,fun k2 hk2=>?_⟩
  have s11:=s10.trans (ai hk2 (.tup [.ref tl,.ref al,.ref rl]))
  have n11:=ad (H:=H10) (a:=k2) (o:=.tup [.ref tl,.ref al,.ref rl])
  have f11:=f10.same (ai hk2 (.tup [.ref tl,.ref al,.ref rl]))
  generalize upd H10 k2 (.tup [.ref tl,.ref al,.ref rl])=H11 at s11 n11 f11
  have S11:=S8.same s11
  have s011:=s08.trans s11
  refine⟨_,_,(kept8.same s11).has3 (SqT.of (s11 _ _ n8)),S11.pr.l3.has3 (SqT.of n11),dep3 _ _ _,_,rfl,?_⟩
  rw[zaS]
  refine aP ⟨_,rfl,_,rfl,p,tl,al,rl,hd,T',As,Rs,ps,rfl,S11,hI.same s011,p64,t60,fun L2 ms2 eL2 R2 G2 Cl2 pm2 pw2=>⟨fun e2=>?_,fun d2 r2 x2 y2 M2 H12 a2 e2 sm2 hj2 N2 lts2 s12 hLn2=>?_⟩⟩
  ·exfalso
   rw[eL2,←eL,zcS (pm2.trans pm.symm) pw2 pw,e0]at e2
   cases e2
  rw[eL2,←eL,zcS (pm2.trans pm.symm) pw2 pw,e0]at e2
  cases e2
  rw[sm]at sm2
  cases sm2
  rw[eL2,←eL]at N2 hLn2
  rw[zjS N2 N R lts2 lts]at hLn2
  have s012:=s011.trans s12
  have f12:=f11.same s12
  refine⟨_,rfl,_,_,hLn2.has,f12.has,zkF _ _,_,rfl,?_⟩
  rw[zaS]
  refine aP ⟨_,rfl,_,rfl,p,tl,al,rl,q,T',As,Rs,ps,rfl,S.same s012,s012.seq hq,pin,p64,t1,fun H13 dl ms' L' s13 hdl pm' pw' R' G' Cl'=>?_⟩
  have ag:∀ x y,hdL L' x=hdL L' y↔hdL L x=hdL L y:=fun x y=>⟨zf2 R' G Cl x y,zf2 R G' Cl' x y⟩
  rw[zh3 ag,zcS (pm'.trans pm.symm) pw' pw,e0]at hdl
  have s013:=s012.trans s13
  refine⟨_,rfl,lS0,fun e he=>?_⟩
  have s14:=ai he (.lst [])
  have n14:=ad (H:=H13) (a:=e) (o:=.lst [])
  generalize upd H13 e (.lst [])=H14 at s14 n14
  have s014:=s013.trans s14
  have d14:=s14 _ _ hdl
  refine⟨.lst ((d :: r).map Dt.int),.lst [],Has.lst' (SqL.of d14) (ah.ints _),Has.lst' (SqL.of n14) ah.nil,(by simp only[dep,zbc];decide),_,rfl,?_⟩
  have pf:peq (.lst ((d :: r).map Dt.int)) (.lst [])=false:=by simp [peq,zbe]
  rw[pf]
  have at0:atI ((d :: r).map V.int) 0=some (.int d):=aA (j:=0) rfl
  exact aP ⟨_,rfl,_,rfl,_,rfl,_,rfl,dl,_,_,_,rfl,rfl,SqL.of d14,at0,p,tl,al,rl,q,a,T',As,Rs,ps,L,M,d,x,y,rfl,S.same s014,s014.seq hq,⟨(f12.same s13).same s14,sm,R,N,lts⟩,fun H' s'=>Q0 _ (s014.trans s')⟩
end
end K51
namespace K51
open PySem L2
theorem PIn.mono {m m':Nat} {p:Int} (h:PIn m p) (h1:m≤m'):PIn m' p:=⟨h.1,by have:=h.2.1;omega,by have:=h.2.2;omega⟩
abbrev NLw:List Str:=["_law_script","_law_problem","_law_held","_law_other","_law_part"]
def zeG (K:W.Frag):Sp:=fun vs H Q _=>∃(a:Addr) (ns:List Int),vs=[.ref a]∧SqL K H a (ns.map V.int)∧ns.length≤63∧∀ H',Q (.bl true) H'
theorem zdF:zae NLw ["_law_script"] (ar zdq):=⟨rfl,rfl,rfl,by decide +kernel,rfl,by decide +kernel,by decide +kernel⟩
structure zd8 (H:Hp) (q al rl:Addr) (m:Nat) (ps:List Int):Prop where
 h:H q=some (.lst (ps.map V.int))
 a:q≠al
 r:q≠rl
 pin:∀ k∈ps,PIn m k
 len:ps.length≤62
theorem zd8.same {H H':Hp} {q al rl:Addr} {m:Nat} {ps:List Int} (h:zd8 H q al rl m ps) (s:ao H H'):zd8 H' q al rl m ps:=⟨s _ _ h.h,h.a,h.r,h.pin,h.len⟩
theorem zib {m:Nat} {ps:List Int} (h:∀ k∈ps,PIn m k):∀ k∈ps.map (fun k=>-k),PIn m k:=fun k hk=>by
 obtain⟨j,hj,rfl⟩:=List.mem_map.mp hk
 exact(h j hj).neg
section
variable {P:Program} {w:World} {K:W.Frag} {mg:Str→Option Value} {base:Heap} {aK C CN CT CP CM:Addr} {f fC fP fG fA2:Addr} {fd dC dP dG dA2:FuncData}
variable {fI fA fQ fS:Addr} {dI dA' dQ dS:FuncData}
theorem law8 (TW:W51.Txt K mg) (BA:FB P w K mg base CX0 7 "_law_asked" fA2 dA2 ["_law_problem","_law_held","_law_handed"] (zeH K C)) {cdv:Value} {A:Around} {outer:List Env} {s:Shared} {H0:Hp} {E:XK} (hr:aO 7 (A.deeper (PyProof.Rows.envOfC "law" (ar zdq) s.heap.objs.size f cdv))) :
  ∃ t,PSs (zcK CX0 P w K mg base NLw "law" (ar zdq) f cdv A outer s H0 E).nox ((za3 zdq).drop 8) t ∧
   ∀(Q:VK) (H:Hp) (p tl al rl q o:Addr) (T:List Tm) (As:List At) (Rs:List (List Int)) (ps qs:List Int) (v0 v4:Option V),PrD K C H p tl al rl T As Rs→zd8 H q al rl As.length ps→zd8 H o al rl As.length qs→0 < T.length→T.length≤60→(∀ H',Q (.bl true) H') →
    t { nx:=fun _ H'=>Q .non H',rt:=Q } [v0,some (.ref p),some (.ref q),some (.ref o),v4] H:=by
 refine⟨_,(ak (aB (zei (ax BA.ok hr rfl BA.m BA.kp BA.b .nil aE (aa (pv 1) (aa (pv 2) (aa (zaC za7 rfl TW.tuple PyProof.Rows.Boot.tuple (aa (pv 2) ac)) ac)))) (zeW (ax BA.ok hr rfl BA.m BA.kp BA.b .nil aE (aa (pv 1) (aa (pv 3) (aa (zaC za7 rfl TW.tuple PyProof.Rows.Boot.tuple (aa (pv 3) ac)) ac)))))))),?_⟩
 rintro Q H p tl al rl q o T As Rs ps qs v0 v4 S hp hq t1 t60 Q0
 refine⟨_,rfl,_,rfl,_,rfl,q,_,rfl,.inl ⟨SqL.of hp.h,fun l hl=>?_⟩⟩
 have s1:=ai hl (.tup (ps.map V.int))
 have n1:=ad (H:=H) (a:=l) (o:=.tup (ps.map V.int))
 generalize upd H l (.tup (ps.map V.int))=H1 at s1 n1
 have pl:=hp.len
 have ql:=hq.len
 refine⟨p,tl,al,rl,q,l,T,As,Rs,ps,rfl,S.same s1,SqL.of (s1 _ _ hp.h),.inr (SqT.of n1),hp.pin,by omega,t1,t60,fun H2 s2=>⟨_,rfl,zaK ?_⟩⟩
 have s02:=s1.trans s2
 refine⟨_,rfl,_,rfl,_,rfl,o,_,rfl,.inl ⟨SqL.of (s02 _ _ hq.h),fun l3 hl3=>?_⟩⟩
 have s3:=ai hl3 (.tup (qs.map V.int))
 have n3:=ad (H:=H2) (a:=l3) (o:=.tup (qs.map V.int))
 generalize upd H2 l3 (.tup (qs.map V.int))=H3 at s3 n3
 have s03:=s02.trans s3
 exact⟨p,tl,al,rl,o,l3,T,As,Rs,qs,rfl,S.same s03,SqL.of (s03 _ _ hq.h),.inr (SqT.of n3),hq.pin,by omega,t1,t60,fun H4 _=>Q0 H4⟩
set_option maxHeartbeats 1000000 in
theorem law3 (T:Txt K mg aK C CN CT CP CM) (TW:W51.Txt K mg) (G:Own P w K mg base C CN CT CP CM fI fA fQ fS dI dA' dQ dS) (BC:FB P w K mg base CX0 1 "_law_cell_at" fC dC ["_law_script","_law_k"] (zdL K)) (BA:FB P w K mg base CX0 7 "_law_asked" fA2 dA2 ["_law_problem","_law_held","_law_handed"] (zeH K C)) {cdv:Value} {A:Around} {outer:List Env} {s:Shared} {H0:Hp} {E:XK} (hr:aO 7 (A.deeper (PyProof.Rows.envOfC "law" (ar zdq) s.heap.objs.size f cdv))) :
  ∃ t,PSs (zcK CX0 P w K mg base NLw "law" (ar zdq) f cdv A outer s H0 E).nox ((za3 zdq).drop 3) t ∧
   ∀(Q:VK) (H:Hp) (a p tl al rl q:Addr) (ns:List Int) (T:List Tm) (As:List At) (ps:List Int) (v3 v4:Option V),SqL K H a (ns.map V.int)→ns.length≤1000→PrD K C H p tl al rl T As []→zd8 H q al rl As.length ps→ps.length≤60→0 < T.length→T.length≤20→As.length≤20→(∀ H',Q (.bl true) H') →
    t { nx:=fun _ H'=>Q .non H',rt:=Q } [some (.ref a),some (.ref p),some (.ref q),v3,v4] H:=by
 have hr1:aO 1 _:=hr.mono (by decide)
 have hr4:aO 4 _:=hr.mono (by decide)
 obtain⟨t8,h8,q8⟩:=law8 (P:=P) (w:=w) (base:=base) (f:=f) (cdv:=cdv) (outer:=outer) (H0:=H0) (E:=E) TW BA hr
 refine⟨_,(af (zal (zbk (zbj (ax BA.ok hr rfl BA.m BA.kp BA.b .nil aE (aa (pv 1) (aa (pv 2) (aa (aq zad (zas (aa (zaC zbt rfl TW.list PyProof.Rows.Boot.list (aa (pv 2) ac)) (aa (zaC za7 rfl TW.tuple PyProof.Rows.Boot.tuple (aa (pv 2) ac)) ac))) (az zaA (ax BC.ok hr1 rfl BC.m BC.kp BC.b .nil aE (aa (pv 0) (aa ae ac))) ae) (fun _ _=>rfl)) ac))))))
   (ak (aB zbu))
   zaf)
  (af (zfQ (i:=3) (N':=["_law_part"]) (ix:=[]) zdF.nd rfl (Or.inl rfl) rfl rfl (by decide +kernel) (by decide +kernel) rfl (fun _=>⟨[],zbK (by decide +kernel) (by decide +kernel)⟩) (by decide +kernel) rfl rfl (fun j i h=>by simp at h) (zbq (pv 2)) (fun _ _ _ _=>(zcc zbB (pv 0))))
  (af (zal (zbk (zbj (ax BA.ok hr rfl BA.m BA.kp BA.b .nil aE (aa (pv 1) (aa (pv 3) (aa (zaC zbt rfl TW.list PyProof.Rows.Boot.list (aa (pv 3) ac)) ac))))))
   (ak (aB zbu))
   zaf)
  (af (ay (i:=4) zdF.nd rfl (Or.inl rfl) (zay (pv 1) T.cl G.mS G.S hr4 G.bS .nil zcz (aa ae (aa (az zcs (zaa zab rfl T.len PySem.boot_len (aa (zaj (pv 1) rfl) ac)) ae) ac))))
  (af (zal (PW.pt (zbZ (aw zcU (pv 4) (pv 2) rfl) (zcf (aw zcU (zcc zbB (pv 4)) (pv 2) rfl))))
   (ak (ay (i:=2) zdF.nd rfl (Or.inl rfl) (az zek (pv 2) (zas (aa (pv 4) ac)))))
   zaf) h8))))),?_⟩
 rintro Q H a p tl al rl q ns T' As ps v3 v4 hA n1000 S hp p60 t1 t20 a20 Q0
 refine⟨_,rfl,_,rfl,_,rfl,q,_,rfl,.inl (SqL.of hp.h),fun l1 hl1=>?_⟩
 have s1:=ai hl1 (.lst (ps.map V.int))
 have n1:=ad (H:=H) (a:=l1) (o:=.lst (ps.map V.int))
 generalize upd H l1 (.lst (ps.map V.int))=H1 at s1 n1
 refine⟨_,rfl,q,_,rfl,.inl ⟨SqL.of (s1 _ _ hp.h),fun l2 hl2=>?_⟩⟩
 have s2:=ai hl2 (.tup (ps.map V.int))
 have n2:=ad (H:=H1) (a:=l2) (o:=.tup (ps.map V.int))
 generalize upd H1 l2 (.tup (ps.map V.int))=H2 at s2 n2
 refine⟨lS2,fun l3 hl3=>?_⟩
 have s3:=ai hl3 (.lst [.ref l1,.ref l2])
 have n3:=ad (H:=H2) (a:=l3) (o:=.lst [.ref l1,.ref l2])
 generalize upd H2 l3 (.lst [.ref l1,.ref l2])=H3 at s3 n3
 have s03:=(s1.trans s2).trans s3
 refine⟨_,rfl,a,ns,4,rfl,s03.seq hA,n1000,by decide,by decide,fun c=>?_⟩
 obtain⟨ha,hat,hI⟩:∃ ha:Addr,atI [V.ref l1,V.ref l2] (c % 2)=some (.ref ha)∧SqI K H3 ha ps:=by
  rcases(by omega:c % 2=0∨c % 2=1) with e | e
  ·exact⟨l1,by rw[e];exact aA (j:=0) rfl,.inl (SqL.of (s3 _ _ (s2 _ _ n1)))⟩
  ·exact⟨l2,by rw[e];exact aA (j:=1) rfl,.inr (SqT.of (s3 _ _ n2))⟩
 have hp3:=hp.same s03
 refine⟨_,_,rfl,rfl,(by show(0:Int) < 2;decide),l3,_,_,_,rfl,rfl,SqL.of n3,hat,p,tl,al,rl,q,ha,T',As,[],ps,rfl,S.same s03,SqL.of hp3.h,hI,hp.pin,by omega,t1,by omega,fun H4 s4=>⟨_,rfl,aP ?_⟩⟩
 have s04:=s03.trans s4
 have hp4:=hp.same s04
 have S4:=S.same s04
 refine⟨_,rfl,q,rfl,⟨_,SqL.of hp4.h⟩,fun D hD=>zcM zbd (fun i us H'=>ao H4 H'∧us=((ps.take i).map fun k=>-k).map V.int) (fun i us H' ⟨s5,_⟩=>s5.seq (SqL.of hp4.h)) ⟨ai hD _,rfl⟩ ?_ ?_⟩
 ·rintro i us H8 z H5 hi hly hDs ⟨s5,rfl⟩ ⟨rfl,hx⟩
  obtain⟨k,hk,rfl⟩:=zaT (hx _ (s5.seq (SqL.of hp4.h)))
  refine⟨_,rfl,_,rfl,zaQ (sz _ (by rw[List.length_map];omega)) hi hly hDs ⟨s5.upd hD,?_⟩⟩
  rw[zai hk,List.map_append,List.map_append]
  rfl
 rintro us H5 hDs ⟨s5,rfl⟩
 rw[List.length_map,List.take_length]at hDs
 have apD:=S4.pr.l3.apart hD
 have hq5:zd8 H5 D al rl As.length (ps.map fun k=>-k):=⟨hDs,apD.2.1,apD.2.2,zib hp.pin,by rw[List.length_map];omega⟩
 have hp5:=hp4.same s5
 have S5:=S4.same s5
 refine⟨_,rfl,_,rfl,_,rfl,D,_,rfl,.inl (SqL.of hDs),fun l6 hl6=>?_⟩
 have s6:=ai hl6 (.lst ((ps.map fun k=>-k).map V.int))
 have n6:=ad (H:=H5) (a:=l6) (o:=.lst ((ps.map fun k=>-k).map V.int))
 generalize upd H5 l6 (.lst ((ps.map fun k=>-k).map V.int))=H6 at s6 n6
 refine⟨p,tl,al,rl,D,l6,T',As,[],_,rfl,S5.same s6,SqL.of (s6 _ _ hDs),.inl (SqL.of n6),hq5.pin,by rw[List.length_map];omega,t1,by omega,fun H7 s7=>⟨_,rfl,aP ?_⟩⟩
 have s67:=s6.trans s7
 have S7:=S5.same s67
 have hp7:=hp5.same s67
 have hq7:=hq5.same s67
 obtain⟨⟨dx7,ho7⟩,⟨ts,ht,hT⟩,_⟩:=id S7.pr
 have tl':ts.length=T'.length:=by rw[←hT.length,List.length_map]
 refine⟨_,rfl,p,dx7,_,rfl,ho7,zcv _ _ _,_,rfl,p,C,dx7,_,_,rfl,ho7,T.cl,T.nT,zan _ _ _,tl,_,rfl,.inl (SqL.of ht),_,_,rfl,rfl,?_⟩
 refine zkC S7 ⟨by decide,by omega⟩ ⟨by omega,by omega⟩ (by omega) (fun H8 mA k S8 f8 m8 k1 k2=>?_)
 have lA:As.length≤(As++mA).length:=by rw[List.length_append];omega
 have hp8:zd8 H8 q al rl (As++mA).length ps:=⟨f8 _ _ hp7.h hp.a hp.r,hp.a,hp.r,fun j hj=>(hp.pin j hj).mono lA,hp.len⟩
 have hq8:zd8 H8 D al rl (As++mA).length (ps.map fun k=>-k):=⟨f8 _ _ hq7.h hq5.a hq5.r,hq5.a,hq5.r,fun j hj=>(hq5.pin j hj).mono lA,hq5.len⟩
 refine⟨_,rfl,_,rfl,q,_,rfl,.inl (SqL.of hp8.h),rfl,zd4 _,_,rfl,zaq (fun _=>?_) (fun _=>?_)⟩
 ·refine⟨_,rfl,_,rfl,_,rfl,q,_,rfl,.inl (SqL.of hp8.h),rfl,zd4 _,_,rfl,zaq (fun _=>?_) (fun _=>?_)⟩
  ·refine⟨_,rfl,_,rfl,lS1,fun o1 ho1=>?_⟩
   have s9:=ai ho1 (.lst [.int (k:Nat)])
   have n9:=ad (H:=H8) (a:=o1) (o:=.lst [.int (k:Nat)])
   generalize upd H8 o1 (.lst [.int (k:Nat)])=H9 at s9 n9
   refine⟨q,o1,_,_,rfl,rfl,s9 _ _ hp8.h,n9,sz _ (by rw[List.length_map];show _+1≤1000;omega),fun o2 ho2=>?_⟩
   have s10:=s9.trans (ai ho2 (.lst (ps.map V.int++[.int (k:Nat)])))
   have n10:=ad (H:=H9) (a:=o2) (o:=.lst (ps.map V.int++[.int (k:Nat)]))
   have ap2:=(S8.same s9).pr.l3.apart ho2
   generalize upd H9 o2 (.lst (ps.map V.int++[.int (k:Nat)]))=H10 at s10 n10
   refine q8 Q H10 p tl al rl o2 D T' (As++mA) [] (ps++[(k:Int)]) (ps.map fun k=>-k) _ _ (S8.same s10) ⟨by rw[n10,List.map_append];rfl,ap2.2.1,ap2.2.2,fun j hj=>?_,by rw[List.length_append];show _+1≤62;omega⟩ (hq8.same s10) t1 (by omega) Q0
   rcases List.mem_append.mp hj with z | z
   ·exact hp8.pin j z
   ·rw[List.mem_singleton.mp z]
    exact⟨by omega,by omega,by omega⟩
  ·exact q8 Q H8 p tl al rl q D T' (As++mA) [] ps _ _ _ S8 hp8 hq8 t1 (by omega) Q0
 ·exact aP (q8 Q H8 p tl al rl q D T' (As++mA) [] ps _ _ _ S8 hp8 hq8 t1 (by omega) Q0)
set_option maxHeartbeats 1000000 in
theorem ok_law (F:Fun K "law" "law" zdq f fd) (T:Txt K mg aK C CN CT CP CM) (TW:W51.Txt K mg) (G:Own P w K mg base C CN CT CP CM fI fA fQ fS dI dA' dQ dS) (BC:FB P w K mg base CX0 1 "_law_cell_at" fC dC ["_law_script","_law_k"] (zdL K)) (BP:FB P w K mg base CX0 6 "_law_problem_by" fP dP ["_law_script","_law_first","_law_terms","_law_atoms"] (zgG K C)) (BG:FB P w K mg base CX0 4 "_law_signs_by" fG dG ["_law_problem","_law_cell"] (zhm K C)) (BA:FB P w K mg base CX0 7 "_law_asked" fA2 dA2 ["_law_problem","_law_held","_law_handed"] (zeH K C)):aH P w K mg base CX0 8 f fd ["_law_script"] (zeG K):=by
 refine F.ok zdF (fun vs H Q E h=>?_) (fun cdv A outer s H vs Q E hr h=>?_)
 ·obtain⟨a,ns,rfl,_⟩:=h
  rfl
 obtain⟨a,ns,rfl,hS,n63,Q0⟩:=h
 have n1000:ns.length≤1000:=by omega
 have hr1:aO 1 _:=hr.mono (by decide)
 have hr4:aO 4 _:=hr.mono (by decide)
 have hr6:aO 6 _:=hr.mono (by decide)
 obtain⟨t3,h3,q3⟩:=law3 (P:=P) (w:=w) (base:=base) (f:=f) (cdv:=cdv) (outer:=outer) (H0:=H) (E:=E) T TW G BC BA hr
 refine⟨_,(af (ay (i:=1) zdF.nd rfl (Or.inl rfl) (ax BP.ok hr6 rfl BP.m BP.kp BP.b .nil aE (aa (pv 0) (aa ae (aa (az zaX ae (az zaA (ax BC.ok hr1 rfl BC.m BC.kp BC.b .nil aE (aa (pv 0) (aa ae ac))) ae)) (aa (az zaX ae (az zaA (ax BC.ok hr1 rfl BC.m BC.kp BC.b .nil aE (aa (pv 0) (aa ae ac))) ae)) ac))))))
  (af (zfQ (i:=2) (N':=["_law_part"]) (ix:=[]) zdF.nd rfl (Or.inl rfl) rfl rfl (by decide +kernel) (by decide +kernel) rfl (fun _=>⟨[],zbK (by decide +kernel) (by decide +kernel)⟩) (by decide +kernel) rfl rfl (fun j i h=>by simp at h) (zcr (ax BG.ok hr4 rfl BG.m BG.kp BG.b .nil aE (aa (pv 1) (aa (ax BC.ok hr1 rfl BC.m BC.kp BC.b .nil aE (aa (pv 0) (aa ae ac))) ac)))) (fun _ _ _ _=>(zcc zbB (pv 0))))
  (af (zal (aw zaO (az zaA (ax BC.ok hr1 rfl BC.m BC.kp BC.b .nil aE (aa (pv 0) (aa ae ac))) ae) ae (aF _))
   (ak (ay (i:=2) zdF.nd rfl (Or.inl rfl) (zaa zca rfl TW.sorted PyProof.Rows.Boot.sorted (aa (pv 2) ac))))
   zaf) h3))),?_⟩
 refine⟨_,rfl,_,rfl,a,ns,0,rfl,hS,n1000,by decide,by decide,fun c0=>⟨_,_,rfl,rfl,(by show(0:Int) < 8;decide),_,_,rfl,rfl,_,rfl,a,ns,1,rfl,hS,n1000,by decide,by decide,fun c1=>⟨_,_,rfl,rfl,(by show(0:Int) < 6;decide),_,_,rfl,rfl,?_⟩⟩⟩
 have m0:=modR c0 (show(0:Int) < 8 by decide)
 have m1:=modR c1 (show(0:Int) < 6 by decide)
 refine⟨a,ns,6,_,_,rfl,hS,n1000,by decide,by decide,by omega,by omega,by omega,by omega,fun H1 p tl al rl T' As s1 _ _ _ _ S1 t1 t20 a20=>?_⟩
 refine⟨_,rfl,_,rfl,a,ns,2,rfl,s1.seq hS,n1000,by decide,by decide,fun c2=>⟨p,tl,al,rl,T',As,[],c2,rfl,S1,by omega,fun H2 q ps s2 hq pin pl=>?_⟩⟩
 have S2:=S1.same s2
 refine⟨q,rfl,⟨_,hq⟩,fun D hD=>zcM zbY (fun i us H'=>ao H2 H'∧us=((ps.take i).map fun k=>-k).map V.int) (fun i us H' ⟨s3,_⟩=>s3.tup hq) ⟨ai hD _,rfl⟩ ?_ ?_⟩
 ·rintro i us H8 z H3 hi hly hDs ⟨s3,rfl⟩ ⟨rfl,hx⟩
  obtain⟨k,hk,rfl⟩:=zaT (hx _ (s3.tup hq))
  refine⟨_,rfl,_,rfl,zaQ (sz _ (by rw[List.length_map];omega)) hi hly hDs ⟨s3.upd hD,?_⟩⟩
  rw[zai hk,List.map_append,List.map_append]
  rfl
 rintro us H3 hDs ⟨s3,rfl⟩
 rw[List.length_map,List.take_length]at hDs
 have apD:=S2.pr.l3.apart hD
 have S3:=S2.same s3
 have s03:=(s1.trans s2).trans s3
 have hp3:zd8 H3 D al rl As.length (ps.map fun k=>-k):=⟨hDs,apD.2.1,apD.2.2,zib pin,by rw[List.length_map];omega⟩
 refine⟨_,rfl,a,ns,3,rfl,s03.seq hS,n1000,by decide,by decide,fun c3=>⟨_,_,rfl,rfl,(by show(0:Int) < 2;decide),rfl,_,rfl,zaq (fun _=>?_) (fun _=>?_)⟩⟩
 ·refine⟨_,rfl,D,_,rfl,SqL.of hDs,by rw[List.length_map];omega,fun so ms hso pm pw=>?_⟩
  have s4:=ai hso (.lst (ms.map V.int))
  have n4:=ad (H:=H3) (a:=so) (o:=.lst (ms.map V.int))
  have ap4:=S3.pr.l3.apart hso
  generalize upd H3 so (.lst (ms.map V.int))=H4 at s4 n4
  have ml:=pm.length_eq
  rw[List.length_map]at ml
  exact q3 Q H4 a p tl al rl so ns T' As ms _ _ ((s03.trans s4).seq hS) n1000 (S3.same s4) ⟨n4,ap4.2.1,ap4.2.2,fun k hk=>hp3.pin k (pm.mem_iff.mp hk),by omega⟩ (by omega) t1 t20 a20 Q0
 ·exact q3 Q H3 a p tl al rl D ns T' As (ps.map fun k=>-k) _ _ (s03.seq hS) n1000 S3 hp3 (by rw[List.length_map];omega) t1 t20 a20 Q0
end
end K51
namespace K51
open PySem L2
set_option maxHeartbeats 4000000 in
theorem all_mk {l:W.OpenLaw} {w:World} {K:W.Frag} {h:Heap} {mg:Str→Option Value} {fa aK C CN CT CM CG CJ f1 f2 f3 f4 f5 f6 f7 f8 f9 f10 f11 f12 f13 f14 f15 f16 f17 f18 f19 f20 f21 f22 f23 f24 f25 f26 f27 f28 f29 f30 f31 f32 f33 f34 f35 f36 f37 f38 f39 f40 f41 f42 f43 f44 f45 f46:Addr} (X:K.In h) (G:h.Ns mainGlobals mg) (hfa:mg "law"=some (.ref fa))
  {d1 d2 d3 d4 d5 d6 d7 d8 d9 d10 d11 d12 d13 d14 d15 d16 d17 d18 d19 d20 d21 d22 d23 d24 d25 d26 d27 d28 d29 d30 d31 d32 d33 d34 d35 d36 d37 d38 d39 d40 d41 d42 d43 d44 d45 d46:FuncData} {odK:Option Addr} {slK:Array (Option Value)} {t1 t2 t3 t4 t5 u1 u2 u3 u4 u5 u6 u7 u8:Tok} {nK:Nat}
  (aC:W.nsIn K mainGlobals "Problem"=some (some (.ref C)))
  (aN:W.nsIn K mainGlobals "BadName"=some (some (.ref CN)))
  (aT:W.nsIn K mainGlobals "BadTerm"=some (some (.ref CT)))
  (aM:W.nsIn K mainGlobals "TooMany"=some (some (.ref CM)))
  (aG:W.nsIn K mainGlobals "Groups"=some (some (.ref CG)))
  (aJ:W.nsIn K mainGlobals "NotJoined"=some (some (.ref CJ)))
  (y1:FT K "is_word" "is_word" zgn f1 d1)
  (y2:FT K "is_name" "is_name" zgo f2 d2)
  (y3:FT K "ask_name" "ask_name" zfO f3 d3)
  (y4:FT K "place_of" "place_of" zg9 f4 d4)
  (y5:FT K "given_links" "given_links" W51.s_given_links f5 d5)
  (y6:FT K "alike_links" "alike_links" W51.s_alike_links f6 d6)
  (y7:FT K "links" "links" W51.s_links f7 d7)
  (y8:FT K "groups_of" "groups_of" W51.s_groups_of f8 d8)
  (y9:FT K "heads" "heads" W51.s_heads f9 d9)
  (y10:FT K "steps_of" "steps_of" W51.s_steps_of f10 d10)
  (y11:FT K "way" "way" W51.s_way f11 d11)
  (y12:FT K "part_pairs" "part_pairs" W51.s_part_pairs f12 d12)
  (y13:FT K "ways" "ways" W51.s_ways f13 d13)
  (y14:FT K "sameness" "sameness" zdw f14 d14)
  (y15:FT K "held_same" "held_same" zcu f15 d15)
  (y16:FT K "same_links" "same_links" zb7 f16 d16)
  (y17:FT K "clashing_atom" "clashing_atom" zbV f17 d17)
  (y18:FT K "equal_line" "equal_line" zb8 f18 d18)
  (y19:FT K "clash" "clash" zfm f19 d19)
  (y20:FT K "_law_cell_at" "_law_cell_at" sCell f20 d20)
  (y21:FT K "_law_term_by" "_law_term_by" zc5 f21 d21)
  (y22:FT K "_law_woven" "_law_woven" zdS f22 d22)
  (y23:FT K "_law_other_by" "_law_other_by" zbX f23 d23)
  (y24:FT K "_law_problem_by" "_law_problem_by" zco f24 d24)
  (y25:FT K "_law_merged" "_law_merged" zcB f25 d25)
  (y26:FT K "_law_alike" "_law_alike" zb9 f26 d26)
  (y27:FT K "_law_next" "_law_next" zeb f27 d27)
  (y28:FT K "_law_joined_by" "_law_joined_by" zcH f28 d28)
  (y29:FT K "_law_denied" "_law_denied" zdn f29 d29)
  (y30:FT K "_law_signs_by" "_law_signs_by" zbW f30 d30)
  (y31:FT K "_law_closed" "_law_closed" zdo f31 d31)
  (y32:FT K "_law_whole" "_law_whole" zdT f32 d32)
  (y33:FT K "_law_bond_right" "_law_bond_right" zcq f33 d33)
  (y34:FT K "_law_line_right" "_law_line_right" zcp f34 d34)
  (y35:FT K "_law_enough" "_law_enough" zdm f35 d35)
  (y36:FT K "_law_asked" "_law_asked" zdU f36 d36)
  (y37:FT K "law" "law" zdq f37 d37)
  (y38:FM K C "__init__" "Problem.__init__" zix f38 d38)
  (y39:FM K C "ask_term" "Problem.ask_term" zfN f39 d39)
  (y40:FM K C "add_term" "Problem.add_term" sAdd f40 d40)
  (y41:FM K C "add_plain" "Problem.add_plain" zg8 f41 d41)
  (y42:FM K C "add_same" "Problem.add_same" ziw f42 d42)
  (y43:FM K CG "__init__" "Groups.__init__" W51.s_init f43 d43)
  (y44:FM K CG "head" "Groups.head" W51.s_head f44 d44)
  (y45:FM K CG "together" "Groups.together" W51.s_together f45 d45)
  (y46:FM K CG "merge" "Groups.merge" W51.s_merge f46 d46)
  (s1:W.nsIn K mainGlobals "SMALL_LETTERS"=some (some (.str abc t1)))
  (s2:W.nsIn K mainGlobals "LONGEST_NAME"=some (some (.int 8 t2)))
  (s3:W.nsIn K mainGlobals "MOST_TERM_PARTS"=some (some (.int 3 t3)))
  (s4:W.nsIn K mainGlobals "MOST_TERMS"=some (some (.int 60 t4)))
  (s5:W.nsIn K mainGlobals "MOST_ATOMS"=some (some (.int 40 t5)))
  (s8:W.nsIn K mainGlobals "KEPT_WORDS"=some (some (.ref aK)))
  (s9:K.lookup aK=some ⟨.type "tuple",odK,.seq #[.str "or" u1,.str "and" u2,.str "not" u3,.str "never" u4,.str "always" u5,.str "then" u6,.str "as" u7,.str "unlike" u8] nK,slK⟩)
  (z_len:W.nsIn K mainGlobals "len"=some none)
  (z_all:W.nsIn K mainGlobals "all"=some none)
  (z_range:W.nsIn K mainGlobals "range"=some none)
  (z_isinstance:W.nsIn K mainGlobals "isinstance"=some none)
  (z_bool:W.nsIn K mainGlobals "bool"=some none)
  (z_tuple:W.nsIn K mainGlobals "tuple"=some none)
  (z_abs:W.nsIn K mainGlobals "abs"=some none)
  (z_min:W.nsIn K mainGlobals "min"=some none)
  (z_max:W.nsIn K mainGlobals "max"=some none)
  (z_list:W.nsIn K mainGlobals "list"=some none)
  (z_int:W.nsIn K mainGlobals "int"=some none)
  (z_enumerate:W.nsIn K mainGlobals "enumerate"=some none)
  (z_zip:W.nsIn K mainGlobals "zip"=some none)
  (z_sorted:W.nsIn K mainGlobals "sorted"=some none)
  (z_dict:W.nsIn K mainGlobals "dict"=some none)
  (pg:W.plainGet K C Str.empty=true)
  (hd:W.hasDictIn K C=true)
  (po:W.plainOver K C=true)
  (sa:W.findIn K (.ref C) "__setattr__"=some (some (.builtin "object.__setattr__")))
  (mk:W.makesIn K C=true)
  (kc:W.keepIn K (.ref C)=true)
  (pgG:W.plainGet K CG Str.empty=true)
  (hdG:W.hasDictIn K CG=true)
  (poG:W.plainOver K CG=true)
  (saG:W.findIn K (.ref CG) "__setattr__"=some (some (.builtin "object.__setattr__")))
  (mkG:W.makesIn K CG=true)
  (kcG:W.keepIn K (.ref CG)=true)
  (nT:W.findIn K (.ref C) "terms"=some none)
  (nA:W.findIn K (.ref C) "atoms"=some none)
  (nR:W.findIn K (.ref C) "rows"=some none)
  (nL:W.findIn K (.ref CG) "least"=some none)
  (nG:W.findIn K (.ref CG) "gathered"=some none)
  (xN:W.excIn K CN bmV "ValueError.__new__"=true)
  (xT:W.excIn K CT bmV "ValueError.__new__"=true)
  (xM:W.excIn K CM bmV "ValueError.__new__"=true)
  (z_ib:W.kitOne K (.type "int") (.type "bool")=some false)
  (xJ:W.excIn K CJ W51.bmV "ValueError.__new__"=true)
  : ∃ fd:FuncData,(∀(s:Shared) (v:Value),BindsTo s fd ⟨[v],[]⟩ [("_law_script",v)])∧∀ base:Heap,K.In base→base.Ns mainGlobals mg→aH l.prog w K mg base CX0 8 fa fd ["_law_script"] (zeG K):=by
 have e:=hfa.symm.trans (y37.m X G)
 cases e
 have T:Txt K mg aK C CN CT C CM:=⟨⟨_,W.mg_of X G s1⟩,⟨_,W.mg_of X G s2⟩,⟨_,W.mg_of X G s3⟩,⟨_,W.mg_of X G s4⟩,⟨_,W.mg_of X G s5⟩,W.mg_of X G s8,fun H=>.inr ⟨_,_,_,s9,rfl,rfl,(by show 8≤sizeLine;decide),.cons ⟨_,rfl⟩ (.cons ⟨_,rfl⟩ (.cons ⟨_,rfl⟩ (.cons ⟨_,rfl⟩ (.cons ⟨_,rfl⟩ (.cons ⟨_,rfl⟩ (.cons ⟨_,rfl⟩ (.cons ⟨_,rfl⟩ .nil)))))))⟩,W.mg_none_of X G z_len,W.mg_none_of X G z_all,W.mg_none_of X G z_range,W.mg_none_of X G z_isinstance,W.mg_none_of X G z_bool,W.mg_none_of X G z_tuple,W.mg_none_of X G z_abs,W.mg_of X G aN,W.mg_of X G aT,W.mg_of X G aM,xN,xT,xM,⟨pg,hd,po,sa⟩,nT,nA,nR⟩
 have TG:W51.TxG K mg CG:=⟨⟨pgG,hdG,poG,saG⟩,nL,nG,W.mg_none_of X G z_min,W.mg_none_of X G z_max,W.mg_none_of X G z_range⟩
 have TW:W51.Txt K mg:=⟨W.mg_none_of X G z_len,W.mg_none_of X G z_list,W.mg_none_of X G z_range,W.mg_none_of X G z_isinstance,W.mg_none_of X G z_int,W.mg_none_of X G z_bool,W.mg_none_of X G z_min,W.mg_none_of X G z_max,W.mg_none_of X G z_tuple,W.mg_none_of X G z_enumerate,W.mg_none_of X G z_zip,W.mg_none_of X G z_sorted,W.mg_none_of X G z_dict,z_ib⟩
 have b1:aD K d1 ["text"] []:=y1.F.b1 fun _ _ _ _ _ _ _=>rfl
 have b2:aD K d2 ["word"] []:=y2.F.b1 fun _ _ _ _ _ _ _=>rfl
 have b3:aD K d3 ["word"] []:=y3.F.b1 fun _ _ _ _ _ _ _=>rfl
 have b4:aD K d4 ["thing","things","most"] []:=y4.F.b3 fun _ _ _ _ _ _ _ _ _=>rfl
 have b5:aD K d5 ["given","groups"] []:=y5.F.b2 fun _ _ _ _ _ _ _ _=>rfl
 have b6:aD K d6 ["terms","groups"] []:=y6.F.b2 fun _ _ _ _ _ _ _ _=>rfl
 have b7:aD K d7 ["terms","given"] []:=y7.F.b2 fun _ _ _ _ _ _ _ _=>rfl
 have b8:aD K d8 ["links"] []:=y8.F.b1 fun _ _ _ _ _ _ _=>rfl
 have b9:aD K d9 ["many","links"] []:=y9.F.b2 fun _ _ _ _ _ _ _ _=>rfl
 have b10:aD K d10 ["links"] []:=y10.F.b1 fun _ _ _ _ _ _ _=>rfl
 have b11:aD K d11 ["steps","one","other"] []:=y11.F.b3 fun _ _ _ _ _ _ _ _ _=>rfl
 have b12:aD K d12 ["terms","link"] []:=y12.F.b2 fun _ _ _ _ _ _ _ _=>rfl
 have b13:aD K d13 ["terms","links","one","other"] []:=y13.F.b4 fun _ _ _ _ _ _ _ _ _ _=>rfl
 have b14:aD K d14 ["problem","number"] []:=y14.F.b2 fun _ _ _ _ _ _ _ _=>rfl
 have b15:aD K d15 ["problem","held"] []:=y15.F.b2 fun _ _ _ _ _ _ _ _=>rfl
 have b16:aD K d16 ["problem","held"] []:=y16.F.b2 fun _ _ _ _ _ _ _ _=>rfl
 have b17:aD K d17 ["problem","held","found"] []:=y17.F.b3 fun _ _ _ _ _ _ _ _ _=>rfl
 have b18:aD K d18 ["problem","held","found","atom"] []:=y18.F.b4 fun _ _ _ _ _ _ _ _ _ _=>rfl
 have b19:aD K d19 ["problem","held"] []:=y19.F.b2 fun _ _ _ _ _ _ _ _=>rfl
 have b20:aD K d20 ["_law_script","_law_k"] []:=y20.F.b2 fun _ _ _ _ _ _ _ _=>rfl
 have b21:aD K d21 ["_law_problem","_law_cell"] []:=y21.F.b2 fun _ _ _ _ _ _ _ _=>rfl
 have b22:aD K d22 ["_law_script","_law_first"] []:=y22.F.b2 fun _ _ _ _ _ _ _ _=>rfl
 have b23:aD K d23 ["_law_problem","_law_one","_law_cell"] []:=y23.F.b3 fun _ _ _ _ _ _ _ _ _=>rfl
 have b24:aD K d24 ["_law_script","_law_first","_law_terms","_law_atoms"] []:=y24.F.b4 fun _ _ _ _ _ _ _ _ _ _=>rfl
 have b25:aD K d25 ["_law_roots","_law_one","_law_other"] []:=y25.F.b3 fun _ _ _ _ _ _ _ _ _=>rfl
 have b26:aD K d26 ["_law_terms","_law_roots","_law_one","_law_other"] []:=y26.F.b4 fun _ _ _ _ _ _ _ _ _ _=>rfl
 have b27:aD K d27 ["_law_problem","_law_parts","_law_roots"] []:=y27.F.b3 fun _ _ _ _ _ _ _ _ _=>rfl
 have b28:aD K d28 ["_law_problem","_law_held"] []:=y28.F.b2 fun _ _ _ _ _ _ _ _=>rfl
 have b29:aD K d29 ["_law_problem","_law_held"] []:=y29.F.b2 fun _ _ _ _ _ _ _ _=>rfl
 have b30:aD K d30 ["_law_problem","_law_cell"] []:=y30.F.b2 fun _ _ _ _ _ _ _ _=>rfl
 have b31:aD K d31 ["_law_problem","_law_parts"] []:=y31.F.b2 fun _ _ _ _ _ _ _ _=>rfl
 have b32:aD K d32 ["_law_thing"] []:=y32.F.b1 fun _ _ _ _ _ _ _=>rfl
 have b33:aD K d33 ["_law_problem","_law_held","_law_roots","_law_bond"] []:=y33.F.b4 fun _ _ _ _ _ _ _ _ _ _=>rfl
 have b34:aD K d34 ["_law_problem","_law_held","_law_line","_law_first"] []:=y34.F.b4 fun _ _ _ _ _ _ _ _ _ _=>rfl
 have b35:aD K d35 ["_law_problem","_law_held","_law_bonds","_law_atom"] []:=y35.F.b4 fun _ _ _ _ _ _ _ _ _ _=>rfl
 have b36:aD K d36 ["_law_problem","_law_held","_law_handed"] []:=y36.F.b3 fun _ _ _ _ _ _ _ _ _=>rfl
 have b38:aD K d38 ["self"] []:=y38.F.b1 fun _ _ _ _ _ _ _=>rfl
 have b39:aD K d39 ["self","number"] []:=y39.F.b2 fun _ _ _ _ _ _ _ _=>rfl
 have b40:aD K d40 ["self","name","parts"] []:=y40.F.b3 fun _ _ _ _ _ _ _ _ _=>rfl
 have b41:aD K d41 ["self","name"] []:=y41.F.b2 fun _ _ _ _ _ _ _ _=>rfl
 have b42:aD K d42 ["self","one","other"] []:=y42.F.b3 fun _ _ _ _ _ _ _ _ _=>rfl
 have b43:aD K d43 ["self"] []:=y43.F.b1 fun _ _ _ _ _ _ _=>rfl
 have b44:aD K d44 ["self","term"] []:=y44.F.b2 fun _ _ _ _ _ _ _ _=>rfl
 have b45:aD K d45 ["self","one","other"] []:=y45.F.b3 fun _ _ _ _ _ _ _ _ _=>rfl
 have b46:aD K d46 ["self","one","other"] []:=y46.F.b3 fun _ _ _ _ _ _ _ _ _=>rfl
 refine⟨_,y37.F.top fun _ _ _ _ _ _ _=>rfl,fun base _ _=>?_⟩
 have G1:=zjM (P:=l.prog) (w:=w) (base:=base) y1.F T
 have G2:=zjN y2.F T G1 b1 y1.k (y1.m X G)
 have G3:=ziL y3.F T G2 b2 y2.k (y2.m X G)
 have G4:=zko (P:=l.prog) (w:=w) (base:=base) y4.F T
 have G38:=ok_init (P:=l.prog) (w:=w) (base:=base) y38.F T
 have G39:=ziK (P:=l.prog) (w:=w) (base:=base) y39.F T
 have G40:=ok_add y40.F T G3 b3 y3.k (y3.m X G) G39 b39 y39.M G4 b4 y4.k (y4.m X G)
 have G41:=zkn y41.F T G3 b3 y3.k (y3.m X G) G4 b4 y4.k (y4.m X G)
 have G42:=zld y42.F T G39 b39 y39.M G4 b4 y4.k (y4.m X G)
 have GS4:=G42.mono (k:=4) (by decide)
 have MKI:Mk K C f38:=⟨mk,y38.a,y38.i,kc⟩
 have OW:Own l.prog w K mg base C CN CT C CM f38 f40 f41 f42 _ _ _ _:=⟨G38,b38,MKI,W.mg_of X G aC,G40,b40,y40.M,G41,b41,y41.M,GS4,b42,y42.M⟩
 have MKG:Mk K CG f43:=⟨mkG,y43.a,y43.i,kcG⟩
 have G43:=W51.ok_init (P:=l.prog) (w:=w) (base:=base) y43.F TG
 have G44:=W51.ok_head (P:=l.prog) (w:=w) (base:=base) y44.F TG
 have G45:=W51.ok_together y45.F TG y44.M G44 b44
 have G46:=W51.ok_merge y46.F TG y44.M G44 b44
 have G5:=W51.ok_given_links y5.F TG TW.enumerate y45.M G45 b45 y46.M G46 b46
 have G6:=W51.ok_alike_links y6.F TG TW.enumerate TW.tuple y44.M G44 b44 y45.M G45 b45 y46.M G46 b46
 have G7:=W51.ok_links y7.F TW.len MKG (W.mg_of X G aG) G43 b43 ⟨G5,b5,y5.k,(y5.m X G)⟩ ⟨G6,b6,y6.k,(y6.m X G)⟩
 have G8:=W51.ok_groups_of y8.F TG MKG (W.mg_of X G aG) G43 b43 y46.M G46 b46
 have G9:=W51.ok_heads y9.F TG ⟨G8,b8,y8.k,(y8.m X G)⟩ y44.M G44 b44
 have G10:=W51.ok_steps_of (P:=l.prog) (w:=w) (base:=base) y10.F TW
 have Bway:FB l.prog w K mg base (CX1 l.prog w) 1 "way" f11 _ ["steps","one","other"] (W51.sp_way K CJ):=⟨W51.ok_way y11.F TW (W.mg_of X G aJ) xJ,b11,y11.k,(y11.m X G)⟩
 have G12:=W51.ok_pairs (P:=l.prog) (w:=w) (base:=base) y12.F TW
 have Bways:FB l.prog w K mg base (CX1 l.prog w) 2 "ways" f13 _ ["terms","links","one","other"] (W51.sp_ways K CJ):=⟨W51.ok_ways y13.F TW ⟨G10,b10,y10.k,(y10.m X G)⟩ Bway ⟨G12,b12,y12.k,(y12.m X G)⟩,b13,y13.k,(y13.m X G)⟩
 have G14:=zhR (P:=l.prog) (w:=w) (base:=base) y14.F T
 have G15:=zlf y15.F ⟨G14,b14,y14.k,(y14.m X G)⟩
 have G16:=zjI y16.F T ⟨G14,b14,y14.k,(y14.m X G)⟩ ⟨G15,b15,y15.k,(y15.m X G)⟩ ⟨G7,b7,y7.k,(y7.m X G)⟩
 have G17:=zlg y17.F T (W.mg_none_of X G z_sorted) ⟨G14,b14,y14.k,(y14.m X G)⟩ ⟨G9,b9,y9.k,(y9.m X G)⟩
 have G18:=zkr y18.F T (W.mg_none_of X G z_tuple) ⟨G14,b14,y14.k,(y14.m X G)⟩ ⟨G15,b15,y15.k,(y15.m X G)⟩ Bways
 have G19:=zks y19.F ⟨G16,b16,y16.k,(y16.m X G)⟩ ⟨G17,b17,y17.k,(y17.m X G)⟩ ⟨G18,b18,y18.k,(y18.m X G)⟩
 have G20:=zkt (P:=l.prog) (w:=w) (base:=base) y20.F T
 have G21:=zjH y21.F T OW
 have G22:=zkl y22.F T (W.mg_none_of X G z_list) (W.mg_none_of X G z_range) OW ⟨G20,b20,y20.k,(y20.m X G)⟩
 have G23:=zkp (P:=l.prog) (w:=w) (base:=base) y23.F T (W.mg_none_of X G z_range)
 have G24:=zjJ y24.F T (W.mg_none_of X G z_range) OW ⟨G20,b20,y20.k,(y20.m X G)⟩ ⟨G22,b22,y22.k,(y22.m X G)⟩ ⟨G21,b21,y21.k,(y21.m X G)⟩ ⟨G23,b23,y23.k,(y23.m X G)⟩
 have G25:=ziH (P:=l.prog) (w:=w) (base:=base) (mg:=mg) y25.F
 have G26:=zjL (P:=l.prog) (w:=w) (base:=base) y26.F T
 have G27:=zle y27.F T (W.mg_none_of X G z_range) (W.mg_none_of X G z_abs) ⟨G26,b26,y26.k,(y26.m X G)⟩
 have G31:=ziJ y31.F T (W.mg_none_of X G z_list) (W.mg_none_of X G z_range) ⟨G27,b27,y27.k,(y27.m X G)⟩ ⟨G25,b25,y25.k,(y25.m X G)⟩
 have G30:=zkm y30.F T (W.mg_none_of X G z_range) (W.mg_none_of X G z_tuple) ⟨G31,b31,y31.k,(y31.m X G)⟩
 have G28:=ziI y28.F T (W.mg_none_of X G z_list) (W.mg_none_of X G z_range) ⟨G27,b27,y27.k,(y27.m X G)⟩ ⟨G25,b25,y25.k,(y25.m X G)⟩
 have G29:=zjP y29.F T (W.mg_none_of X G z_sorted) ⟨G28,b28,y28.k,(y28.m X G)⟩
 have G32:=zjK (P:=l.prog) (w:=w) (base:=base) y32.F TW
 have G33:=zlh y33.F T TW ⟨G26,b26,y26.k,(y26.m X G)⟩ ⟨G32,b32,y32.k,(y32.m X G)⟩
 have G35:=zjO y35.F T TW ⟨G33,b33,y33.k,(y33.m X G)⟩ ⟨G25,b25,y25.k,(y25.m X G)⟩
 have G34:=zkq y34.F T TW ⟨G33,b33,y33.k,(y33.m X G)⟩ ⟨G25,b25,y25.k,(y25.m X G)⟩ ⟨G35,b35,y35.k,(y35.m X G)⟩ ⟨G32,b32,y32.k,(y32.m X G)⟩
 have G36:=zku y36.F T TW ⟨G19,b19,y19.k,(y19.m X G)⟩ ⟨G29,b29,y29.k,(y29.m X G)⟩ ⟨G34,b34,y34.k,(y34.m X G)⟩
 exact ok_law y37.F T TW OW ⟨G20,b20,y20.k,(y20.m X G)⟩ ⟨G24,b24,y24.k,(y24.m X G)⟩ ⟨G30,b30,y30.k,(y30.m X G)⟩ ⟨G36,b36,y36.k,(y36.m X G)⟩
theorem walk {l:W.OpenLaw} {q:Program} {loose:List Str} {XP:(Str→Option Value)→Heap→Prop} {YP:World→Heap→Prop} {d:DefRec} {K:Params→W.Frag} (hn:l.most=some 63) (hdf:d.params.defaults=[])
  (hY:∀(w:World) (h:Heap),YP w h→(K w.params).In h)
  (F:∀(w:World) (mg:Str→Option Value) (fa:Addr) (h:Heap),(K w.params).In h→h.Ns mainGlobals mg→mg d.name=some (.ref fa) →
   ∃ fd:FuncData,(∀(s:Shared) (u:Value),BindsTo s fd ⟨[u],[]⟩ [("_law_script",u)])∧∀ base:Heap,(K w.params).In base→base.Ns mainGlobals mg→aH l.prog w (K w.params) mg base CX0 8 fa fd ["_law_script"] (zeG (K w.params))) :
  W.WalkO q loose XP YP l.row.toRowW d [] (fun f vs=>PySem.call f vs) :=
 L2.walk_of (n:=63) (k:=8) (x:="_law_script") (CX:=fun _=>CX0) (sp:=fun w=>zeG (K w.params)) hn (by decide) hdf ⟨rfl,by decide,by decide,rfl⟩ hY F (fun _ _ a ns hl _ hS=>⟨a,ns,rfl,hS,hl,fun _=>rfl⟩) fun _ _ _ _ _ z=>z
end K51
namespace PySem.W.Fast
def tw15792448840129782744:=()
def tw5428457935442336307:=()
def tw10237295221284625655:=()
def tw17168342958010498398:=()
def tw14402647874371038716:=()
def tw10137280059449115506:=()
def tw15726294828336787615:=()
def tw13008706641838210483:=()
def tw14996390795338612436:=()
def tw6292953931725382500:=()
def tw6778930618033372992:=()
def tw6874214375075120250:=()
def tw5027988057707490479:=()
def tw17041778349847446532:=()
def tw972722298449949474:=()
def tw1917377802955000750:=()
def tw14623140724869143498:=()
def tw1551897333397755851:=()
def tw16180456342545329324:=()
def tw6347210640078086204:=()
def tw6813067163129717106:=()
def tw9997833288964052906:=()
def tw5452048452355691925:=()
def tw10334943525249311403:=()
def tw2833245086404117931:=()
def tw11183950061183399765:=()
def tw9670366142652509022:=()
def tw3650463660152189419:=()
def tw15361798826246059843:=()
def tw5141519157725467476:=()
def tw1649359267615562620:=()
def tw7125414180617742728:=()
def tw6833285000471952682:=()
def tw5030493533804758349:=()
def tw1397191928206848586:=()
def tw9784350026172069877:=()
def tw11212344021371712907:=()
def tw15617524898554340820:=()
def tw15196832415079411534:=()
def tw8037247671133665266:=()
def tw17175828690669317213:=()
def tw7519329314849110075:=()
def tw6495078169304417302:=()
def tw9637901249003781035:=()
def tw15677521176279817029:=()
def tw13440851562103393454:=()
def tw17546767251528663011:=()
def tw16227867254874740359:=()
def tw759507669819345338:=()
def tw6999315112097223198:=()
def tw10162972773565136363:=()
def tw687412088470439722:=()
def tw1911841985311490477:=()
def tw152509264998972668:=()
def tw2642960680320101879:=()
def tw14140427869045863559:=()
def tw13916608031583430418:=()
def tw13239568381400763381:=()
def tw8693549213019053911:=()
def tw3076988462714416445:=()
def tw15662604567329925567:=()
def tw18034207576634886823:=()
def tw5112735122791220445:=()
def tw7240707834787571289:=()
def tw2284899288748917794:=()
def tw9679531505557465440:=()
def tw6340324790863889522:=()
def tw18168593840980784086:=()
def tw10329611521817122228:=()
def tw12545501491154389725:=()
def tw8854505064073897358:=()
def tw5839622421946829666:=()
def tw15313644290081231608:=()
def tw8958055227638127662:=()
def tw9353958915965003502:=()
def tw11594300876018044963:=()
def tw18289339813485846915:=()
def tw2737246277071873444:=()
def tw15634602061297307066:=()
def tw5045141576655363858:=()
def tw7061000010890252378:=()
def tw8396885628222260774:=()
def tw9122151564406315136:=()
def tw10476635498271420760:=()
def tw2849046382774996948:=()
def tw16505771307008795533:=()
def tw2225754795579474658:=()
def tw7265679255886302855:=()
def tw18116419585094473592:=()
def tw2907520461314700678:=()
def tw828378806541397092:=()
def tw12144464601414930350:=()
def tw13603814054832877907:=()
def tw6822091628167447961:=()
def tw13231379788452650511:=()
def tw6306381780905400329:=()
def tw10484201747052983135:=()
def tw6928270739413655607:=()
def tw15002270832390563177:=()
def tw6666436942783603727:=()
def tw12569155639530566251:=()
def tw6643820689036446109:=()
def tw7758900813939151032:=()
def tw10694882741117191572:=()
def tw8756050654148012009:=()
def tw12789939018131753438:=()
def tw4688556322065073709:=()
def tw2017027876086723607:=()
def tw13534224272011832465:=()
def tw17287320480689926641:=()
def tw1146370907970509067:=()
def tw8264342715057459787:=()
def tw14044222561664788418:=()
def tw18409894812343682346:=()
def tw6783312696626202578:=()
def tw3760917426883616811:=()
def tw14888050188489815962:=()
def tw15796919264329396011:=()
def tw5910553263239855256:=()
def tw12250801138641817700:=()
def tw4173659240741478517:=()
def tw8884543547144797232:=()
def tw8728207774323566206:=()
def tw10011641400036380026:=()
def tw189358443339831306:=()
def tw5342103001245335298:=()
def tw205483755517957097:=()
def tw9556763411922787059:=()
def tw11501930069942377537:=()
def tw14403794507465496272:=()
def tw8889538319520358596:=()
def tw13602189470941047301:=()
def tw16583029395975475115:=()
def tw4042350154276357149:=()
def tw7887961263295359669:=()
def tw946278158863635006:=()
def tw12418848183636654042:=()
def tw14578149000324286403:=()
def tw12877637930536992450:=()
def tw13940006175594887061:=()
def tw2837496929736850661:=()
def tw727565479259406543:=()
def tw15980536119229819517:=()
def tw1766346567666924459:=()
def tw3566369123484697234:=()
def tw8641016021009488738:=()
def tw623142367158662628:=()
def tw18205263788509503642:=()
def tw10428172071894889117:=()
def tw18241393425279111232:=()
def tw672675288006770331:=()
def tw10891976414883893807:=()
def tw16013840869014168311:=()
def tw5213765983446141282:=()
def tw3885028179194065760:=()
def tw6292892649912033976:=()
def tw4230761093000169519:=()
def tw6420407047478562163:=()
def tw15293622045735796119:=()
def tw6126896748537723731:=()
def tw12923407916327683363:=()
def tw3643652166768487206:=()
def tw1958382977879921355:=()
def tw8169575386146551745:=()
def tw4586170638955433840:=()
def tw569748167858715918:=()
def tw9627515524559018391:=()
def tw18359474267010185353:=()
def tw3553926743283580416:=()
def tw16787144507397702555:=()
def tw15849952219945264063:=()
def tw7605640290779125131:=()
def tw8253942750799692853:=()
def tw11366362873784658018:=()
def tw1022640151843303283:=()
def tw11025863581300665488:=()
def tw1549547670010465146:=()
def tw10533658844902559820:=()
def tw2793282799873148219:=()
def tw11342449700903302294:=()
def tw3671819647438592605:=()
def tw11000936168212558413:=()
def tw10304329488482993350:=()
def tw16100746744784475499:=()
def tw429721495754056087:=()
def tw13658194716412137464:=()
def tw5547294917499263956:=()
def tw2410406004046365584:=()
def tw1930415815689666544:=()
def tw132056156253805363:=()
def tw12303360724279994268:=()
def tw13090877538473957976:=()
def tw10139431670347466715:=()
def tw9859049610957399380:=()
def tw7838432071177219745:=()
def tw10504285344580159869:=()
def tw14616476605529864306:=()
def tw992783703612126440:=()
def tw7662372907714841755:=()
def tw6518665293472473878:=()
def tw12809565591446324778:=()
def tw2485992873174945611:=()
def tw7581016400951271115:=()
def tw12345877640245779976:=()
def tw8330809858731009090:=()
def tw4324876876811378965:=()
def tw1575568907138612503:=()
def tw9866481359164356245:=()
def tw5792177640623180803:=()
def tw10753942410456385826:=()
def tw13022355176606947833:=()
def tw14227657594362854769:=()
def tw8960071619467173372:=()
def tw48971156411712457:=()
def tw7691317531146945080:=()
def tw4880113605808964524:=()
def tw7051613921724685592:=()
def tw2638018953692898280:=()
def tw15683728590524633420:=()
def tw10620465358282572770:=()
def tw13894832269051640901:=()
def tw16533346874460525009:=()
def tw8071579782406402262:=()
def tw5172349739156490608:=()
def tw13159285705774873888:=()
def tw17462303670741453225:=()
def tw12356076172306059537:=()
def tw15647375643218304643:=()
def tw11171339158250968346:=()
def tw10310130408524633672:=()
def tw18182124928798716204:=()
def tw8944523260900230646:=()
def tw8783763817977938135:=()
def tw1790943296760256371:=()
def tw5543698168418292484:=()
def tw11502550562610495822:=()
def tw11158992624187565771:=()
def tw11134880648695289397:=()
def tw6269864427981662870:=()
def tw7278300616089867804:=()
def tw11751301479873712535:=()
def tw15716541749508217552:=()
def tw17736401812297235802:=()
def tw1865563436500250217:=()
def tw3400262749687822621:=()
def tw358112404283791606:=()
def tw5108432759029761274:=()
def tw1022904109363793053:=()
def tw268754162926457907:=()
def tw3576607919106424309:=()
def tw7995155344361338466:=()
def tw4173466225995393957:=()
def tw9036495886697235083:=()
def tw1847941963120927424:=()
def tw3014335179100569776:=()
def tw14763537534849843684:=()
def tw14178411195227320120:=()
def tw12901359039068945915:=()
def tw2744401088814496457:=()
def tw14736187874971978266:=()
def tw14583155150768097283:=()
def tw1609536758569596447:=()
def tw8030858838405290973:=()
def tw3123314519303792726:=()
def tw7077544071103714442:=()
def tw9855138327992478097:=()
def tw15785219657534303307:=()
def tw1600931287424429662:=()
def tw11425501974717474839:=()
def tw11028017838061164860:=()
def tw9888066192691272186:=()
def tw8522813078945722743:=()
def tw7882405580916857373:=()
def tw10948785040559856900:=()
def tw7198794513493590407:=()
def tw17272520018710026982:=()
def tw8412307583493069006:=()
def tw1232006507515606137:=()
def tw4451456804846367635:=()
def tw3106726422394895197:=()
def tw10166592260701664001:=()
def tw5570203354488479358:=()
def tw4158405510136994246:=()
def tw9576242461989108123:=()
def tw12872684397418200449:=()
def tw2301870871029763951:=()
def tw6497695177654333739:=()
def tw14236246066583997862:=()
def tw3979668919166657322:=()
def tw5793740001721137065:=()
def tw11903973912931584170:=()
def tw16125613927913617138:=()
def tw543527938893993977:=()
def tw12428186151993579561:=()
def tw14276697908889168729:=()
def tw7131344502559583030:=()
def tw18065079640594137929:=()
def tw3405470225083740072:=()
def tw9827799169327657136:=()
def tw13337766944970320125:=()
def tw10273059343350197140:=()
def tw6897973509530718490:=()
def tw12399545056497176398:=()
def tw11759710279777587673:=()
def tw7342853844330371341:=()
def tw5540528468649219526:=()
def tw361744385322990686:=()
def tw4887407640549748108:=()
def tw2597256189565321766:=()
def tw7636391590866113579:=()
def tw2077135787033408691:=()
def tw15052149270507605846:=()
def tw2488493281426770882:=()
def tw12725117354721782164:=()
def tw15872195255744893229:=()
def tw9661029222336755833:=()
def tw993978509188857235:=()
def tw5681130404264471494:=()
def tw11053068553044174506:=()
def tw434807389792108372:=()
def tw14138192153774454947:=()
def tw5694237903883980633:=()
def tw17179547857979579629:=()
def tw500700952023824444:=()
def tw18292793491474207624:=()
def tw13635761935849262449:=()
def tw6702477690444587323:=()
def tw9190015322241014602:=()
def tw2915739397571576605:=()
def tw15008195580658159260:=()
def tw12675237466208122835:=()
def tw12533934675555219306:=()
def tw10054680285642002688:=()
def tw8622825849089029325:=()
def tw18326430513521434292:=()
def tw7233135205039438831:=()
def tw7292287182306908909:=()
def tw11817785228046950935:=()
def tw8765219612201245798:=()
def tw2664157758889972290:=()
def tw17427576873578432500:=()
def tw173404793687123723:=()
def tw2693989286882589603:=()
def tw15476796589443586273:=()
def tw14349713723655162015:=()
def tw13294857476178086706:=()
def tw8768840989688060085:=()
def tw2272079792634996909:=()
def tw1037127068729968722:=()
def tw1425129219413680464:=()
def tw771466929406900433:=()
def tw1923980480639160540:=()
def tw5879034535572630936:=()
def tw4955674066001110079:=()
def tw3152085063000236055:=()
def tw7079622851548593488:=()
def tw17210432027135828550:=()
def tw12627416933218428466:=()
def tw6943469939198553223:=()
def tw15593514606023436741:=()
def tw4864111485424715563:=()
def tw2860997877638044206:=()
def tw12708101898398398086:=()
def tw4630625211906813611:=()
def tw5642939722901002938:=()
def tw8631291244048271204:=()
def tw4569820283565586710:=()
def tw13988361873517368571:=()
def tw856833604368455223:=()
def tw16418716038026976858:=()
def tw17945117262700198120:=()
def tw2429738914042583053:=()
def tw9202241580888881367:=()
def tw749823664477789227:=()
def tw5130828176840119091:=()
def tw10181726303523043510:=()
def tw4144455828710926622:=()
def tw5791038112414791209:=()
def tw18145766042501518026:=()
def tw9449113324765331991:=()
def tw538711723497706526:=()
def tw17887042276291127321:=()
def tw16141451082705773540:=()
def tw17264643286168253617:=()
def tw11619595552737848393:=()
def tw17486196242148850375:=()
def tw14234172040885820907:=()
def tw9880740857245565755:=()
def tw11621631848156003114:=()
def tw3614721695413375532:=()
end PySem.W.Fast
open PySem PySem.W PyProof.Rows
set_option maxRecDepth 100000 in
set_option maxHeartbeats 0 in
theorem PySem.Challenge.cw_yesorno_k51_clashes_holds : PySem.Challenge.rw_yesorno_k51_clashes.Holds := by
 w_on;o_law;k_head;(case hw=>w_witness2)
 k_fill
 refine K51.walk (l:=PySem.Challenge.rw_yesorno_k51_clashes) rfl rfl (fun w h Y=>W.kIn_of Y) ?F
 case F =>
  intro w mg fa h KX G hmg
  refine' K51.all_mk KX G hmg ?aC ?aN ?aT ?aM ?aG ?aJ ?y1 ?y2 ?y3 ?y4 ?y5 ?y6 ?y7 ?y8 ?y9 ?y10 ?y11 ?y12 ?y13 ?y14 ?y15 ?y16 ?y17 ?y18 ?y19 ?y20 ?y21 ?y22 ?y23 ?y24 ?y25 ?y26 ?y27 ?y28 ?y29 ?y30 ?y31 ?y32 ?y33 ?y34 ?y35 ?y36 ?y37 ?y38 ?y39 ?y40 ?y41 ?y42 ?y43 ?y44 ?y45 ?y46 ?s1 ?s2 ?s3 ?s4 ?s5 ?s8 ?s9 ?z_len ?z_all ?z_range ?z_isinstance ?z_bool ?z_tuple ?z_abs ?z_min ?z_max ?z_list ?z_int ?z_enumerate ?z_zip ?z_sorted ?z_dict ?pg ?hd ?po ?sa ?mk ?kc ?pgG ?hdG ?poG ?saG ?mkG ?kcG ?nT ?nA ?nR ?nL ?nG ?xN ?xT ?xM ?z_ib ?xJ
  (case aC=>k_is)
  (case aN=>k_is)
  (case aT=>k_is)
  (case aM=>k_is)
  (case aG=>k_is)
  (case aJ=>k_is)
  (case y1=>exact L2.ft_in (by k_is) (by k_is) (by k_is) (by k_is))
  (case y2=>exact L2.ft_in (by k_is) (by k_is) (by k_is) (by k_is))
  (case y3=>exact L2.ft_in (by k_is) (by k_is) (by k_is) (by k_is))
  (case y4=>exact L2.ft_in (by k_is) (by k_is) (by k_is) (by k_is))
  (case y5=>exact L2.ft_in (by k_is) (by k_is) (by k_is) (by k_is))
  (case y6=>exact L2.ft_in (by k_is) (by k_is) (by k_is) (by k_is))
  (case y7=>exact L2.ft_in (by k_is) (by k_is) (by k_is) (by k_is))
  (case y8=>exact L2.ft_in (by k_is) (by k_is) (by k_is) (by k_is))
  (case y9=>exact L2.ft_in (by k_is) (by k_is) (by k_is) (by k_is))
  (case y10=>exact L2.ft_in (by k_is) (by k_is) (by k_is) (by k_is))
  (case y11=>exact L2.ft_in (by k_is) (by k_is) (by k_is) (by k_is))
  (case y12=>exact L2.ft_in (by k_is) (by k_is) (by k_is) (by k_is))
  (case y13=>exact L2.ft_in (by k_is) (by k_is) (by k_is) (by k_is))
  (case y14=>exact L2.ft_in (by k_is) (by k_is) (by k_is) (by k_is))
  (case y15=>exact L2.ft_in (by k_is) (by k_is) (by k_is) (by k_is))
  (case y16=>exact L2.ft_in (by k_is) (by k_is) (by k_is) (by k_is))
  (case y17=>exact L2.ft_in (by k_is) (by k_is) (by k_is) (by k_is))
  (case y18=>exact L2.ft_in (by k_is) (by k_is) (by k_is) (by k_is))
  (case y19=>exact L2.ft_in (by k_is) (by k_is) (by k_is) (by k_is))
  (case y20=>exact L2.ft_in (by k_is) (by k_is) (by k_is) (by k_is))
  (case y21=>exact L2.ft_in (by k_is) (by k_is) (by k_is) (by k_is))
  (case y22=>exact L2.ft_in (by k_is) (by k_is) (by k_is) (by k_is))
  (case y23=>exact L2.ft_in (by k_is) (by k_is) (by k_is) (by k_is))
  (case y24=>exact L2.ft_in (by k_is) (by k_is) (by k_is) (by k_is))
  (case y25=>exact L2.ft_in (by k_is) (by k_is) (by k_is) (by k_is))
  (case y26=>exact L2.ft_in (by k_is) (by k_is) (by k_is) (by k_is))
  (case y27=>exact L2.ft_in (by k_is) (by k_is) (by k_is) (by k_is))
  (case y28=>exact L2.ft_in (by k_is) (by k_is) (by k_is) (by k_is))
  (case y29=>exact L2.ft_in (by k_is) (by k_is) (by k_is) (by k_is))
  (case y30=>exact L2.ft_in (by k_is) (by k_is) (by k_is) (by k_is))
  (case y31=>exact L2.ft_in (by k_is) (by k_is) (by k_is) (by k_is))
  (case y32=>exact L2.ft_in (by k_is) (by k_is) (by k_is) (by k_is))
  (case y33=>exact L2.ft_in (by k_is) (by k_is) (by k_is) (by k_is))
  (case y34=>exact L2.ft_in (by k_is) (by k_is) (by k_is) (by k_is))
  (case y35=>exact L2.ft_in (by k_is) (by k_is) (by k_is) (by k_is))
  (case y36=>exact L2.ft_in (by k_is) (by k_is) (by k_is) (by k_is))
  (case y37=>exact L2.ft_in (by k_is) (by k_is) (by k_is) (by k_is))
  (case y38=>exact L2.fm_in (by k_is) (by k_is) (by k_is) (by k_is) (by k_is))
  (case y39=>exact L2.fm_in (by k_is) (by k_is) (by k_is) (by k_is) (by k_is))
  (case y40=>exact L2.fm_in (by k_is) (by k_is) (by k_is) (by k_is) (by k_is))
  (case y41=>exact L2.fm_in (by k_is) (by k_is) (by k_is) (by k_is) (by k_is))
  (case y42=>exact L2.fm_in (by k_is) (by k_is) (by k_is) (by k_is) (by k_is))
  (case y43=>exact L2.fm_in (by k_is) (by k_is) (by k_is) (by k_is) (by k_is))
  (case y44=>exact L2.fm_in (by k_is) (by k_is) (by k_is) (by k_is) (by k_is))
  (case y45=>exact L2.fm_in (by k_is) (by k_is) (by k_is) (by k_is) (by k_is))
  (case y46=>exact L2.fm_in (by k_is) (by k_is) (by k_is) (by k_is) (by k_is))
  (case s1=>k_is)
  (case s2=>k_is)
  (case s3=>k_is)
  (case s4=>k_is)
  (case s5=>k_is)
  (case s8=>k_is)
  (case s9=>k_is)
  (case z_len=>k_is)
  (case z_all=>k_is)
  (case z_range=>k_is)
  (case z_isinstance=>k_is)
  (case z_bool=>k_is)
  (case z_tuple=>k_is)
  (case z_abs=>k_is)
  (case z_min=>k_is)
  (case z_max=>k_is)
  (case z_list=>k_is)
  (case z_int=>k_is)
  (case z_enumerate=>k_is)
  (case z_zip=>k_is)
  (case z_sorted=>k_is)
  (case z_dict=>k_is)
  (case pg=>k_is)
  (case hd=>k_is)
  (case po=>k_is)
  (case sa=>k_is)
  (case mk=>k_is)
  (case kc=>k_is)
  (case pgG=>k_is)
  (case hdG=>k_is)
  (case poG=>k_is)
  (case saG=>k_is)
  (case mkG=>k_is)
  (case kcG=>k_is)
  (case nT=>k_is)
  (case nA=>k_is)
  (case nR=>k_is)
  (case nL=>k_is)
  (case nG=>k_is)
  (case xN=>k_exc)
  (case xT=>k_exc)
  (case xM=>k_exc)
  (case z_ib=>kit_is)
  (case xJ=>k_exc)
