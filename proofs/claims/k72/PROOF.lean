import PyProof.Rows.All
import Wide.All
import OpenK.AllK
import Wide.FinOn
import Lean
import PyProof.EqAt
import PyProof.EqKinds
import PyProof.TupleCall
import PySem.Challenge.RW_yesorno_k72_whole_understood
set_option Elab.async false
set_option linter.all false
set_option maxRecDepth 100000
namespace L2
open PySem PySem.Spec PyProof.Rows
abbrev Key:=Sum Int Str
def keyIs:Key→Value→Bool
  | .inl k,v=>Value.isInt k v
  | .inr x,v=>Value.isStrOf x v
def keyH (w:World):Key→Int
  | .inl k=>hashInt k
  | .inr x=>hashStr w x
theorem zaW:∀ {k:Key} {v:Value},keyIs k v=true→(∃ i t,k=Sum.inl i∧v=Value.int i t)∨(∃ x t,k=Sum.inr x∧v=Value.str x t)
  | .inl i,v,h=>by
    obtain⟨t,e⟩:=Value.isInt_shape (k:=i) (v:=v) h
    exact .inl ⟨i,t,rfl,e⟩
  | .inr x,v,h=>by
    obtain⟨t,e⟩:=Value.isStrOf_shape (x:=x) (v:=v) h
    exact .inr ⟨x,t,rfl,e⟩
theorem key_ll (a b:Int):decide ((Sum.inl a:Key)=Sum.inl b)=(a == b):=by
  by_cases e:a=b
  · subst e;simp
  · have h:¬(Sum.inl a:Key)=Sum.inl b:=fun q=>e (Sum.inl.inj q)
    rw[decide_eq_false h]
    exact(beq_eq_false_iff_ne.mpr e).symm
theorem key_rr (a b:Str):decide ((Sum.inr a:Key)=Sum.inr b)=decide (a=b):=by
  by_cases e:a=b
  · subst e;simp
  · have h:¬(Sum.inr a:Key)=Sum.inr b:=fun q=>e (Sum.inr.inj q)
    rw[decide_eq_false h,decide_eq_false e]
theorem key_lr (a:Int) (b:Str):decide ((Sum.inl a:Key)=Sum.inr b)=false:=decide_eq_false (fun q=>nomatch q)
theorem key_rl (a:Str) (b:Int):decide ((Sum.inr a:Key)=Sum.inl b)=false:=decide_eq_false (fun q=>nomatch q)
def zeJ (prog:Program) (w:World):PySem.KeyKind prog w Key where
  is:=keyIs
  hash:=keyH w
  inj:=fun v a b ha hb=>by
    rcases zaW ha with ⟨i,t,rfl,rfl⟩ | ⟨x,t,rfl,rfl⟩
    · rcases zaW hb with ⟨j,u,rfl,e⟩ | ⟨y,u,rfl,e⟩
      · injection e with e1 _;rw[e1]
      · exact nomatch e
    · rcases zaW hb with ⟨j,u,rfl,e⟩ | ⟨y,u,rfl,e⟩
      · exact nomatch e
      · injection e with e1 _;rw[e1]
  byValue:=fun k v h=>by
    rcases zaW h with ⟨i,t,rfl,rfl⟩ | ⟨x,t,rfl,rfl⟩ <;> rfl
  pyHash:=fun hv h=>by
    rcases zaW hv with ⟨i,t,rfl,rfl⟩ | ⟨x,t,rfl,rfl⟩
    · exact wpAny_pyHash_int h
    · exact wpAny_pyHash_str h
  eqBool:=fun hu hv h=>by
    rcases zaW hu with ⟨i,t,rfl,rfl⟩ | ⟨x,t,rfl,rfl⟩
    · rcases zaW hv with ⟨j,u,rfl,rfl⟩ | ⟨y,u,rfl,rfl⟩
      · rw[key_ll]at h;exact wpAny_eqBool_int h
      · rw[key_lr]at h;exact SeqAt.EqAt.int_str i t y u _ _ _ _ h
    · rcases zaW hv with ⟨j,u,rfl,rfl⟩ | ⟨y,u,rfl,rfl⟩
      · rw[key_rl]at h;exact SeqAt.EqAt.str_int x t j u _ _ _ _ h
      · rw[key_rr]at h;exact wpAny_eqBool_str h
  «strs»:=fun k x t v h=>by
    rcases zaW h with ⟨i,u,rfl,e⟩ | ⟨y,u,rfl,e⟩
    · exact nomatch e
    · injection e with e1 _
      subst e1
      cases v <;> rfl
end L2
namespace L2
open PySem PySem.Spec PyProof.Rows
inductive V where
  | non | bl (b:Bool) | int (i:Int) | str (x:Str) | byt (b:Array UInt8) | flt (b:UInt64) | ref (a:Addr) | ty (n:String)
  deriving DecidableEq
def zak:V→Value→Prop
  | .non,u=>u=Value.none
  | .bl b,u=>u=Value.bool b
  | .int i,u=>∃ t,u=Value.int i t
  | .str x,u=>∃ t,u=Value.str x t
  | .byt b,u=>∃ t,u=Value.bytes b t
  | .flt b,u=>∃ t,u=Value.float b t
  | .ref a,u=>u=Value.ref a
  | .ty n,u=>u=Value.type n
abbrev au:List V→List Value→Prop:=Paired zak
theorem au.length {xs:List V} {us:List Value} (r:au xs us):xs.length=us.length:=Paired.length r
theorem au.get:∀ {xs:List V} {us:List Value} {i:Nat} {x:V},au xs us→xs[i]?=some x→∃ u,us[i]?=some u∧zak x u
  | _,_,_,_,.nil,e=>by simp at e
  | _,_,0,_,.cons r _,e=>by simp at e;subst e;exact⟨_,rfl,r⟩
  | _,_,i+1,x,.cons _ t,e=>by
    obtain⟨u,h1,h2⟩:=au.get (i:=i) (x:=x) t (by simpa using e)
    exact⟨u,by simpa using h1,h2⟩
theorem au.set {x:V} {u:Value} (r:zak x u):∀ {xs:List V} {us:List Value} (i:Nat),au xs us→au (xs.set i x) (us.set i u)
  | _,_,_,.nil=>.nil
  | _,_,0,.cons _ t=>.cons r t
  | _,_,i+1,.cons q t=>.cons q (au.set r i t)
theorem au.append:∀ {xs ys:List V} {us ws:List Value},au xs us→au ys ws→au (xs++ys) (us++ws)
  | _,_,_,_,.nil,s=>s
  | _,_,_,_,.cons r t,s=>.cons r (au.append t s)
theorem au.take:∀ {xs:List V} {us:List Value} (n:Nat),au xs us→au (xs.take n) (us.take n)
  | _,_,0,_=>.nil
  | _,_,_+1,.nil=>.nil
  | _,_,n+1,.cons r t=>.cons r (au.take n t)
theorem au.drop:∀ {xs:List V} {us:List Value} (n:Nat),au xs us→au (xs.drop n) (us.drop n)
  | _,_,0,r=>r
  | _,_,_+1,.nil=>.nil
  | _,_,n+1,.cons _ t=>au.drop n t
def zcU:Option V→Option Value→Prop
  | some v,some u=>zak v u
  | none,none=>True
  | _,_=>False
def KV {κ:Type}:List (κ × V)→List (κ × Value)→Prop:=Paired fun(p:κ × V) (q:κ × Value)=>p.1=q.1∧zak p.2 q.2
def kV:Key→V
  | .inl i=>.int i
  | .inr x=>.str x
inductive HO where
    | lst (xs:List V)
    | tup (xs:List V)
    | dK (kvs:List (Key × V)) | dT (kvs:List (List Key × V))
    | set (S:Int→Bool) (n:Nat)
    | ins (C dx:Addr) (fs:List (Str × V))
    | own (x:Addr)
    | xd (fs:List (Str × V))
    | met (f x:Addr)
    | rng (lo hi:Int)
    | frz (o:Obj) (u:HO)
    | tbl (ps:Array Value)
    | ext (φ:Heap→Prop)
abbrev Hp:=Addr→Option HO
def upd (H:Hp) (a:Addr) (o:HO):Hp:=fun b=>if b=a then some o else H b
theorem af {H:Hp} {a:Addr} {o:HO}:upd H a o a=some o:=by unfold upd;rw[if_pos rfl]
theorem zaj {H:Hp} {a b:Addr} {o:HO} (h:b≠a):upd H a o b=H b:=by unfold upd;rw[if_neg h]
theorem zgb {H:Hp} {a:Addr} {o u:HO}:upd (upd H a o) a u=upd H a u:=by
  funext b;unfold upd;split <;> rfl
theorem ne_of {H:Hp} {a b:Addr} {o u:HO} (h:H a=some o) (h':H b=some u) (d:o≠u):a≠b:=by
  intro e;subst e;rw[h]at h';exact d (Option.some.inj h')
theorem zaC {H:Hp} {a b:Addr} {o:HO} (h:H a=some o) (h':H b=none):a≠b:=by
  intro e;subst e;rw[h]at h';cases h'
section
variable (P:Program) (w:World)
def za3 (H:Hp) (h:Heap) (a:Addr):HO→Prop
  | .lst xs=>xs.length≤sizeLine∧∃(its:List Value) (n:Nat),au xs its∧h.get? a=some { cls:=.type "list",data:=.seq its.toArray n }
  | .tup xs=>xs.length≤sizeLine∧∃ its:List Value,au xs its∧IsTup h a its.toArray
  | .dK kvs=>kvs.length≤sizeLine∧(a == sysModules)=false∧∃ vs,KV kvs vs∧h.DictOf (zeJ P w) a vs
  | .dT kvs=>kvs.length≤sizeLine∧(a == sysModules)=false∧∃ xs:List (List Key × Addr × Value),
      Paired (fun(p:List Key × V) (q:List Key × Addr × Value)=>p.1=q.1∧H q.2.1=some (.tup (p.1.map kV))∧zak p.2 q.2.2) kvs xs ∧
      ∃ o es ep,h.get? a=some o∧o.ExactDict∧o.data=.dict es ep∧es.toList=xs.map (entryOfKey (tupleKind (zeJ P w)))∧(xs.map (·.1)).Nodup
  | .set S n=>h.SetOf (intKind P w) a S n
  | .ins C dx fs=>H dx=some (.own a)∧fs.length≤1000∧dx≠a∧h.get? a=some (PySem.W.instObj C dx) ∧
      ∃ mA,h.Ns1 dx mA∧(∀ f,zcU (fs.lookup f) (mA f))∧PySem.Within mA (fs.map (·.1))
  | .own _=>∃ o,h.get? a=some o
  | .xd fs=>∃ mA,h.Ns1 a mA∧∀ f,zcU (fs.lookup f) (mA f)
  | .rng lo hi=>∃ t u v,h.get? a=some { cls:=.type "range",data:=.fields #[.int lo t,.int hi u,.int 1 v] }
  | .frz o u=>h.get? a=some o∧za3 H h a u
  | .tbl ps=>h.get? a=some { cls:=.none,data:=.fields ps }
  | .met f x=>h.get? a=some (PySem.W.methodObj (.ref f) (.ref x))
  | .ext φ=>φ h∧(∃ o,h.get? a=some o)∧∀ h1 h2:Heap,φ h1→(∀ o,h1.get? a=some o→h2.get? a=some o)→φ h2
def HOk (H:Hp) (h:Heap):Prop:=∀ a o,H a=some o→za3 P w H h a o
end
section
variable {P:Program} {w:World} {H H':Hp} {h h':Heap} {a:Addr} {o:HO}
theorem za3.lt (x:za3 P w H h a o):a < h.objs.size:=by
  cases o with
  | lst xs=>obtain⟨_,_,_,_,e⟩:=x;exact Heap.lt_size e
  | tup xs=>obtain⟨_,_,_,p⟩:=x;exact p.lt
  | dK kvs=>obtain⟨_,_,_,_,o,_,_,e,_⟩:=x;exact Heap.lt_size e
  | dT kvs=>obtain⟨_,_,_,_,o,_,_,e,_⟩:=x;exact Heap.lt_size e
  | set S n=>obtain⟨o,_,_,_,e,_⟩:=x;exact Heap.lt_size e
  | ins C dx fs=>obtain⟨_,_,_,e,_⟩:=x;exact Heap.lt_size e
  | own y=>obtain⟨_,e⟩:=x;exact Heap.lt_size e
  | xd fs=>obtain⟨_,⟨_,_,_,e,_⟩,_⟩:=x;exact Heap.lt_size e
  | rng lo hi=>obtain⟨_,_,_,e⟩:=x;exact Heap.lt_size e
  | frz ob u=>obtain⟨e,_⟩:=x;exact Heap.lt_size e
  | tbl ps=>exact Heap.lt_size (show h.get? a=some _ from x)
  | met f y=>exact Heap.lt_size (show h.get? a=some _ from x)
  | ext φ=>obtain⟨_,⟨_,e⟩,_⟩:=x;exact Heap.lt_size e
theorem Paired.mapP {α β:Type} {F G:α→β→Prop}:∀ {l₁:List α} {l₂:List β},Paired F l₁ l₂→(∀ a b,F a b→G a b)→Paired G l₁ l₂
  | _,_,.nil,_=>.nil
  | _,_,.cons r t,f=>.cons (f _ _ r) (Paired.mapP t f)
theorem za3.stay (x:za3 P w H h a o) (k:∀ b u,(b=a∨H b=some (.own a))→h.get? b=some u→h'.get? b=some u)
    (ho:∀ b,H b=some (.own a)→H' b=some (.own a)) (ht:∀ b xs,H b=some (.tup xs)→H' b=some (.tup xs)):za3 P w H' h' a o:=by
  induction o with
  | lst xs=>obtain⟨z,its,n,r,e⟩:=x;exact⟨z,its,n,r,k _ _ (.inl rfl) e⟩
  | tup xs=>obtain⟨z,its,r,ob,e,c⟩:=x;exact⟨z,its,r,ob,k _ _ (.inl rfl) e,c⟩
  | dK kvs=>obtain⟨z,y,vs,r,ob,es,ep,e,c⟩:=x;exact⟨z,y,vs,r,ob,es,ep,k _ _ (.inl rfl) e,c⟩
  | dT kvs =>
    obtain⟨z,y,xs,r,ob,es,ep,e,c⟩:=x
    exact⟨z,y,xs,Paired.mapP r fun p q z=>⟨z.1,ht _ _ z.2.1,z.2.2⟩,ob,es,ep,k _ _ (.inl rfl) e,c⟩
  | set S n=>obtain⟨ob,es,ep,t,e,c⟩:=x;exact⟨ob,es,ep,t,k _ _ (.inl rfl) e,c⟩
  | ins C dx fs =>
    obtain⟨d,z,ne,e,mA,⟨od,es,ep,e2,c⟩,r⟩:=x
    exact⟨ho _ d,z,ne,k _ _ (.inl rfl) e,mA,⟨od,es,ep,k _ _ (.inr d) e2,c⟩,r⟩
  | own y=>obtain⟨ob,e⟩:=x;exact⟨ob,k _ _ (.inl rfl) e⟩
  | xd fs=>obtain⟨mA,⟨od,es,ep,e,c⟩,r⟩:=x;exact⟨mA,⟨od,es,ep,k _ _ (.inl rfl) e,c⟩,r⟩
  | rng lo hi=>obtain⟨t,u,v,e⟩:=x;exact⟨t,u,v,k _ _ (.inl rfl) e⟩
  | frz ob u ih=>obtain⟨e,q⟩:=x;exact⟨k _ _ (.inl rfl) e,ih q⟩
  | tbl ps =>
    have e:h.get? a=some { cls:=.none,data:=.fields ps }:=x
    show h'.get? a=some { cls:=.none,data:=.fields ps }
    exact k a _ (.inl rfl) e
  | met f y =>
    have e:h.get? a=some (PySem.W.methodObj (.ref f) (.ref y)):=x
    show h'.get? a=some (PySem.W.methodObj (.ref f) (.ref y))
    exact k a _ (.inl rfl) e
  | ext φ=>obtain⟨p,⟨o,e⟩,st⟩:=x;exact⟨st _ _ p fun o q=>k _ _ (.inl rfl) q,⟨o,k _ _ (.inl rfl) e⟩,st⟩
theorem HOk.lt (x:HOk P w H h) (e:H a=some o):a < h.objs.size:=(x a o e).lt
theorem HOk.fresh (x:HOk P w H h) (e:h.objs.size≤a):H a=none:=by
  cases q:H a with
  | none=>rfl
  | some u=>exact absurd (Nat.lt_of_lt_of_le (x.lt q) e) (Nat.lt_irrefl _)
theorem HOk.kept (x:HOk P w H h) (k:∀ b u,h.get? b=some u→h'.get? b=some u):HOk P w H h':=fun a o e =>
  (x a o e).stay (fun b u _ q=>k b u q) (fun _ q=>q) fun _ _ q=>q
theorem HOk.laid (x:HOk P w H h) (k:∀ b u,h.get? b=some u→h'.get? b=some u) (hp:h.objs.size≤a) (new:za3 P w (upd H a o) h' a o):HOk P w (upd H a o) h':=fun b u e=>by
  have hn:=x.fresh hp
  by_cases hb:b=a
  · subst hb;rw[af]at e;cases e;exact new
  · rw[zaj hb]at e
    exact(x b u e).stay (fun c v _ q=>k c v q) (fun c q=>by rw[zaj (zaC q hn)];exact q) fun c xs q=>by rw[zaj (zaC q hn)];exact q
end
def Rd (H:Hp) (a:Addr) (u:HO):Prop:=H a=some u∨∃ o,H a=some (.frz o u)
theorem Rd.ok {P:Program} {w:World} {H:Hp} {h:Heap} {a:Addr} {u:HO} (r:Rd H a u) (x:HOk P w H h):za3 P w H h a u:=by
  rcases r with r | ⟨o,r⟩
  · exact x a u r
  · obtain⟨_,q⟩:=x a _ r
    exact q
def Mut:Option HO→Prop
  | some (.lst _)=>True
  | some (.dK _)=>True
  | some (.dT _)=>True
  | some (.set _ _)=>True
  | some (.ins _ _ _)=>True
  | some (.ext _)=>True
  | _=>False
section
variable {P:Program} {w:World} {H:Hp} {h h':Heap} {x e:Addr} {o':HO}
theorem HOk.write (ok:HOk P w H h) (mu:Mut (H x)) (he:e=x∨H e=some (.own x)) (k:∀ b u,b≠e→h.get? b=some u→h'.get? b=some u) (heo:∃ u,h'.get? e=some u)
    (new:za3 P w (upd H x o') h' x o'):HOk P w (upd H x o') h':=fun b u q=>by
  have nown:∀ c y,H c=some (.own y)→c≠x:=fun c y r z=>by subst z;rw[r]at mu;exact mu
  have ntup:∀ c xs,H c=some (.tup xs)→c≠x:=fun c xs r z=>by subst z;rw[r]at mu;exact mu
  by_cases hb:b=x
  · subst hb;rw[af]at q;cases q;exact new
  · rw[zaj hb]at q
    by_cases hbe:b=e
    · have q':H b=some (.own x):=by
        rcases he with z | z
        · exact absurd (hbe.trans z) hb
        · rw[hbe];exact z
      rw[q]at q';cases q'
      obtain⟨v,hv⟩:=heo
      exact⟨v,by rw[hbe];exact hv⟩
    · refine(ok b u q).stay (fun c v hc r=>k c v ?_ r) (fun c r=>by rw[zaj (nown c b r)];exact r) fun c xs r=>by rw[zaj (ntup c xs r)];exact r
      rcases hc with rfl | hc
      · exact hbe
      · rintro rfl
        rcases he with z | z
        · exact nown c b hc z
        · rw[hc]at z;cases z;exact hb rfl
end
structure Un (fs ex:List Addr) (H H':Hp) (h h':Heap):Prop where
  keep:∀ b o,h.get? b=some o→H b=none→b∉fs→b∉ex→h'.get? b=some o
  slot:∀ b o,h.get? b=some o→H b=none→b∈fs→b∉ex→∃ sl,h'.get? b=some { o with slots:=sl }
  free:∀ b o,h.get? b=some o→H b=none→b∉ex→H' b=none
  there:∀ b o,h.get? b=some o→b∉ex→∃ o',h'.get? b=some o'
  tups:∀ b xs,H b=some (.tup xs)→H' b=some (.tup xs)
  frzs:∀ b o u,H b=some (.frz o u)→H' b=some (.frz o u)
  tbls:∀ b ps,H b=some (.tbl ps)→∃ more,H' b=some (.tbl (ps++more))
section
variable {fs fs' ex ex':List Addr} {H H1 H2:Hp} {h h1 h2 h':Heap} {a x e:Addr} {o:HO}
theorem Un.any (u:Un fs ex H H1 h h1) {b:Addr} {ob:Obj} (q:h.get? b=some ob) (n:H b=none) (hx:b∉ex):∃ sl,h1.get? b=some { ob with slots:=sl }:=by
  by_cases hb:b∈fs
  · exact u.slot b ob q n hb hx
  · exact⟨ob.slots,u.keep b ob q n hb hx⟩
theorem Un.trans (a:Un fs ex H H1 h h1) (b:Un fs ex H1 H2 h1 h2):Un fs ex H H2 h h2 where
  keep:=fun c ob q n hc hx=>b.keep c ob (a.keep c ob q n hc hx) (a.free c ob q n hx) hc hx
  slot:=fun c ob q n hc hx=>by
    obtain⟨sl,e1⟩:=a.slot c ob q n hc hx
    obtain⟨sl',e2⟩:=b.slot c _ e1 (a.free c ob q n hx) hc hx
    exact⟨sl',e2⟩
  free:=fun c ob q n hx=>by
    obtain⟨o',e1⟩:=a.there c ob q hx
    exact b.free c o' e1 (a.free c ob q n hx) hx
  there:=fun c ob q hx=>by
    obtain⟨o',e1⟩:=a.there c ob q hx
    exact b.there c o' e1 hx
  tups:=fun c xs q=>b.tups c xs (a.tups c xs q)
  frzs:=fun c ob xs q=>b.frzs c ob xs (a.frzs c ob xs q)
  tbls:=fun c ps q=>by
    obtain⟨m1,e1⟩:=a.tbls c ps q
    obtain⟨m2,e2⟩:=b.tbls c _ e1
    exact⟨m1++m2,by rw[e2,Array.append_assoc]⟩
theorem Un.kept (k:∀ b u,h.get? b=some u→h'.get? b=some u):Un fs ex H H h h' :=
  ⟨fun b ob q _ _ _=>k b ob q,fun b ob q _ _ _=>⟨ob.slots,k b ob q⟩,fun _ _ _ n _=>n,fun b ob q _=>⟨ob,k b ob q⟩,fun _ _ q=>q,fun _ _ _ q=>q,fun _ ps q=>⟨#[],by rw[q];simp⟩⟩
theorem Un.refl:Un fs ex H H h h:=Un.kept fun _ _ q=>q
theorem Un.laid (k:∀ b u,h.get? b=some u→h'.get? b=some u) (hp:h.objs.size≤a) (hn:H a=none):Un fs ex H (upd H a o) h h' where
  keep:=fun b u q _ _ _=>k b u q
  slot:=fun b u q _ _ _=>⟨u.slots,k b u q⟩
  free:=fun b u q n _=>by rw[zaj (Nat.ne_of_lt (Nat.lt_of_lt_of_le (Heap.lt_size q) hp))];exact n
  there:=fun b u q _=>⟨u,k b u q⟩
  tups:=fun b xs q=>by rw[zaj (zaC q hn)];exact q
  frzs:=fun b u xs q=>by rw[zaj (zaC q hn)];exact q
  tbls:=fun b ps q=>⟨#[],by rw[zaj (zaC q hn),q];simp⟩
theorem Un.write (mu:Mut (H x)) (he:e=x∨H e=some (.own x)) (k:∀ b u,b≠e→h.get? b=some u→h'.get? b=some u) (heo:∃ u,h'.get? e=some u):Un fs ex H (upd H x o) h h':=by
  have hx:∀ b,H b=none→b≠x:=fun b n z=>by subst z;rw[n]at mu;exact mu
  have hb:∀ b,H b=none→b≠e:=fun b n z=>by
    subst z
    rcases he with r | r
    · exact hx b n r
    · rw[n]at r;cases r
  have hm:∀ b u,H b=some u→¬Mut (some u)→b≠x:=fun b u q nm z=>by subst z;rw[q]at mu;exact nm mu
  refine⟨fun b u q n _ _=>k b u (hb b n) q,fun b u q n _ _=>⟨u.slots,k b u (hb b n) q⟩,fun b u q n _=>by rw[zaj (hx b n)];exact n,fun b u q _=>?_,
    fun b xs q=>by rw[zaj (hm b _ q fun z=>z)];exact q,fun b u xs q=>by rw[zaj (hm b _ q fun z=>z)];exact q,fun b ps q=>⟨#[],by rw[zaj (hm b _ q fun z=>z),q];simp⟩⟩
  by_cases hbe:b=e
  · subst hbe;exact heo
  · exact⟨u,k b u hbe q⟩
end
def trk (h:Heap) (H:Hp):List Addr:=(List.range h.objs.size).filter fun a=>(H a).isSome
def zdc (h:Heap) (H:Hp):Heap:=PySem.W.hideAll h (trk h H)
theorem zhN (h:Heap) (H:Hp):(zdc h H).objs.size=h.objs.size:=PySem.W.hideAll_size _ _
theorem zir {h:Heap} {H:Hp} {b:Addr} {o:Obj} (e:h.get? b=some o) (n:H b=none):(zdc h H).get? b=some o :=
  PySem.W.hideAll_get _ e fun hm=>by
    have q:(H b).isSome=true:=(List.mem_filter.mp hm).2
    rw[n]at q;simp at q
theorem ziS {h:Heap} {H:Hp} {b:Addr} {o:Obj} (e:(zdc h H).get? b=some o):h.get? b=some o∧H b=none:=by
  have e':h.get? b=some o:=PySem.W.of_hideAll (trk h H) e
  refine⟨e',?_⟩
  cases q:H b with
  | none=>rfl
  | some x =>
    have hm:b∈trk h H:=List.mem_filter.mpr ⟨List.mem_range.mpr (Heap.lt_size e'),by simp [q]⟩
    have z:(zdc h H).get? b=none:=PySem.W.hideAll_none (trk h H) hm
    rw[z]at e;cases e
def zi2 (g h:Heap) (L:Addr):List (Addr × Obj):=(List.range h.objs.size).filterMap fun a=>if a=L∨(g.get? a).isSome=true then none else(h.get? a).map fun o=>(a,o)
def zbt (g h:Heap) (L d:Addr):List (Addr × Obj):=(zi2 g h L).filter fun p=>decide (p.1≠d)
end L2
namespace L2
open PySem PySem.Spec PyProof.Rows
structure Mod (K:PySem.W.Frag) (mg:Str→Option Value) (base:Heap):Prop where
  kin:K.In base
  glob:base.Ns mainGlobals mg
  blt:∃ mb,base.Ns builtinsNs mb∧∀ x:Str,x≠"__name__"→mb x=bootBuiltins x
  nolimit:base.NoLimit
structure Cx where
  prog:Program
  w:World
  K:PySem.W.Frag
  mg:Str→Option Value
  base:Heap
  A:Around
  N:List Str
  s₀:Shared
  H₀:Hp
  env:Env
  outer:List Env
  stack:List Env
  ex:List Addr
  fn:Str→Bool
  calm:Bool
  pn:List (Addr × Obj)
  xe:Value→Shared→Prop
def frs (l:List Env):List Addr:=l.filterMap (·.frame)
abbrev Cx.fs (X:Cx):List Addr:=frs X.outer
def Vis (sc:Scope) (x:Str):Prop:=sc.names.lookup x=some .local∨sc.names.lookup x=some .cell∨sc.names.lookup x=some .free
def Loc (sc:Scope) (x:Str):Prop:=sc.names.lookup x=some .local∨sc.names.lookup x=some .cell
def Look (env:Env) (h:Heap) (m:Str→Option Value) (x:Str) (u:Value):Prop :=
  (env.kindOf x=some .local∧m x=some u)∨((env.kindOf x=some .cell∨env.kindOf x=some .free)∧∃ c,env.cells.lookup x=some c∧h.IsCell c (some u))
structure Cx.Ok (X:Cx):Prop where
  mod:Mod X.K X.mg X.base
  kind:X.env.scope.kind=.function
  glob:X.env.globals=mainGlobals
  blt:X.env.builtins=builtinsNs
  above:X.s₀.heap.objs.size≤X.env.locals
  inj:∀ x y c,X.env.cells.lookup x=some c→X.env.cells.lookup y=some c→x=y
  has:∀ x,(X.env.kindOf x=some .cell∨X.env.kindOf x=some .free)→∃ c,X.env.cells.lookup x=some c
  cab:∀ x c,X.fn x=true→X.env.cells.lookup x=some c→X.s₀.heap.objs.size≤c
  hd:X.calm=true→X.A.handled=none
  frames:X.A.frames=some X.stack
  stk:X.stack=X.outer∨(X.stack=X.env :: X.outer∧X.env.frame=some X.env.locals)
  exf:∀ b∈X.ex,b≠X.env.locals∧∀ x c,X.env.cells.lookup x=some c→c≠b
  bs:∀ b o,X.base.get? b=some o→X.s₀.heap.get? b=some o∧X.H₀ b=none
  bsz:X.base.objs.size≤X.s₀.heap.objs.size
  noex:∀ b o,X.base.get? b=some o→b∉X.ex
  exfs:∀ b∈X.ex,b∉X.fs
  funs:X.s₀.heap.FunFrames X.base X.outer
  frf:∀ b∈X.fs,X.H₀ b=none
structure Inv (X:Cx) (pins:List (Addr × Obj)) (σ:List (Option V)) (H:Hp) (s:Shared):Prop where
  ok:X.Ok
  os:s.os=X.s₀.os
  bare:AllBare s.gens
  base:Un X.fs X.ex X.H₀ H X.s₀.heap s.heap
  loc:∃ m,s.heap.Ns X.env.locals m∧∀(i:Nat) (x:Str) (v:V),X.N[i]?=some x→σ[i]?=some (some v)→Vis X.env.scope x→∃ u,zak v u∧Look X.env s.heap m x u
  cell:∀ x c,X.env.cells.lookup x=some c→∃ v,s.heap.IsCell c v
  free:H X.env.locals=none
  freeC:∀ x c,X.env.cells.lookup x=some c→H c=none
  pin:∀ p∈X.pn++pins,s.heap.get? p.1=some p.2∧H p.1=none∧p.1≠X.env.locals∧p.1∉X.fs∧∀ v,p.2.data≠.cell v
  hok:HOk X.prog X.w H s.heap
  len:σ.length=X.N.length
section
variable {X:Cx} {pins:List (Addr × Obj)} {σ:List (Option V)} {H H':Hp} {s:Shared} {h':Heap}
theorem Cx.Ok.nofr (ok:X.Ok) {b:Addr} {o:Obj} (e:X.base.get? b=some o):b∉X.fs:=fun hb=>by
  have:=(ok.funs.mem hb).1
  rw[e]at this;cases this
theorem Inv.bs (I:Inv X pins σ H s):∀ b o,X.base.get? b=some o→s.heap.get? b=some o∧H b=none:=fun b o e =>
  ⟨I.base.keep b o (I.ok.bs b o e).1 (I.ok.bs b o e).2 (I.ok.nofr e) (I.ok.noex b o e),I.base.free b o (I.ok.bs b o e).1 (I.ok.bs b o e).2 (I.ok.noex b o e)⟩
theorem Inv.bk (I:Inv X pins σ H s):∀ b o,X.base.get? b=some o→s.heap.get? b=some o:=fun b o e=>(I.bs b o e).1
theorem Inv.mod (I:Inv X pins σ H s):Mod X.K X.mg X.base:=I.ok.mod
theorem Inv.kIn (I:Inv X pins σ H s):X.K.In s.heap:=I.ok.mod.kin.keeps I.bk
theorem Inv.fr (I:Inv X pins σ H s):∃ m,Fr X.base X.env.locals s.heap m :=
  let ⟨m,hn,_⟩:=I.loc
  ⟨m,hn,I.bk,Nat.le_trans I.ok.bsz I.ok.above⟩
theorem Inv.lt (I:Inv X pins σ H s):X.env.locals < s.heap.objs.size:=let ⟨_,hn,_⟩:=I.loc;hn.lt
theorem Inv.sz (I:Inv X pins σ H s):X.s₀.heap.objs.size≤s.heap.objs.size:=Nat.le_trans I.ok.above (Nat.le_of_lt I.lt)
theorem Inv.nofs (I:Inv X pins σ H s) {a:Addr} (h:s.heap.objs.size≤a):a∉X.fs:=fun hb=>by
  obtain⟨_,o,ho,_⟩:=I.ok.funs.mem hb
  exact absurd (Nat.lt_of_lt_of_le (Heap.lt_size ho) (Nat.le_trans I.sz h)) (Nat.lt_irrefl _)
theorem Inv.cne (I:Inv X pins σ H s):∀ x c,X.env.cells.lookup x=some c→c≠X.env.locals:=fun x c e z=>by
  obtain⟨v,o,ho,hd⟩:=I.cell x c e
  obtain⟨m,⟨o',es,ep,ho',hd',_⟩,_⟩:=I.loc
  rw[z,ho']at ho;cases ho;rw[hd']at hd;cases hd
theorem Inv.funs (I:Inv X pins σ H s):s.heap.FunFrames X.base X.outer:=by
  have all:∀(l:List Env),(∀ b∈frs l,b∈X.fs)→X.s₀.heap.FunFrames X.base l→s.heap.FunFrames X.base l:=by
    intro l
    induction l with
    | nil=>intro _ _;trivial
    | cons env r ih =>
      intro hs hl
      obtain⟨hk,⟨L,o,hf,hn,ho,hd⟩,hr⟩:=hl
      have hL:L∈X.fs:=hs L (by unfold frs;rw[List.filterMap_cons,hf];exact List.mem_cons_self)
      obtain⟨sl,e⟩:=I.base.slot L o ho (I.ok.frf L hL) hL fun z=>I.ok.exfs L z hL
      exact⟨hk,⟨L,_,hf,hn,e,hd⟩,ih (fun b hb=>hs b (by unfold frs;rw[List.filterMap_cons,hf];exact List.mem_cons_of_mem _ hb)) hr⟩
  exact all X.outer (fun _ hb=>hb) I.ok.funs
theorem Inv.stack (I:Inv X pins σ H s):s.heap.FunFrames X.base X.stack:=by
  rcases I.ok.stk with e | ⟨e,hf⟩
  · rw[e];exact I.funs
  · rw[e]
    obtain⟨m,hn,_⟩:=I.loc
    refine .cons (by rw[I.ok.kind];decide) hf hn ?_ I.funs
    exact Heap.get?_none_of_le (Nat.le_trans I.ok.bsz I.ok.above)
theorem Inv.stkSub (I:Inv X pins σ H s):∀ b∈frs X.stack,b∈X.env.locals :: X.fs:=fun b hb=>by
  rcases I.ok.stk with e | ⟨e,hf⟩
  · rw[e]at hb;exact List.mem_cons_of_mem _ hb
  · rw[e]at hb
    unfold frs at hb
    rw[List.filterMap_cons,hf]at hb
    exact hb
theorem Inv.stkFree (I:Inv X pins σ H s):∀ b∈frs X.stack,H b=none:=fun b hb=>by
  rcases List.mem_cons.mp (I.stkSub b hb) with e | hb
  · rw[e];exact I.free
  · obtain⟨_,o,ho,_⟩:=I.ok.funs.mem hb
    exact I.base.free b o ho (I.ok.frf b hb) fun z=>I.ok.exfs b z hb
theorem Inv.step {g':Array GenState} {t':Nat} {d':Drawn} {ch:List Addr} (I:Inv X pins σ H s)
    (hch:∀ b∈ch,(b∈X.ex∨X.s₀.heap.objs.size≤b)∧b≠X.env.locals∧(∀ x c,X.env.cells.lookup x=some c→c≠b)∧∀ p∈X.pn++pins,p.1≠b)
    (keep:∀ b o,b≠X.env.locals→b∉X.fs→b∉ch→s.heap.get? b=some o→H b=none→h'.get? b=some o)
    (slot:∀ b o,b≠X.env.locals→b∈X.fs→b∉ch→s.heap.get? b=some o→H b=none→∃ sl,h'.get? b=some { o with slots:=sl }) (free:∀ b o,b∉ch→s.heap.get? b=some o→H b=none→H' b=none)
    (there:∀ b o,b∉ch→s.heap.get? b=some o→∃ o',h'.get? b=some o')
    (tups:∀ b xs,H b=some (.tup xs)→H' b=some (.tup xs)) (frzs:∀ b o u,H b=some (.frz o u)→H' b=some (.frz o u)) (tbls:∀ b ps,H b=some (.tbl ps)→∃ more,H' b=some (.tbl (ps++more)))
    (ns:∀ m,s.heap.Ns X.env.locals m→h'.Ns X.env.locals m) (hok:HOk X.prog X.w H' h') (hg:AllBare g') :
    Inv X pins σ H' { s with heap:=h',gens:=g',drawn:=d',toks:=t' }:=by
  have neL:∀ b o,X.s₀.heap.get? b=some o→b≠X.env.locals:=fun b o e=>Nat.ne_of_lt (Nat.lt_of_lt_of_le (Heap.lt_size e) I.ok.above)
  have neC:∀ b o,X.s₀.heap.get? b=some o→b∉X.ex→b∉ch:=fun b o e hx hb=>by
    rcases(hch b hb).1 with z | z
    · exact hx z
    · exact absurd (Nat.lt_of_lt_of_le (Heap.lt_size e) z) (Nat.lt_irrefl _)
  have cellK:∀ x c,X.env.cells.lookup x=some c→∀ v,s.heap.IsCell c v→h'.IsCell c v:=fun x c e v ⟨o,ho,hd⟩=>by
    have nch:c∉ch:=fun z=>(hch c z).2.2.1 x c e rfl
    by_cases hc:c∈X.fs
    · obtain⟨sl,q⟩:=slot c o (I.cne x c e) hc nch ho (I.freeC x c e)
      exact⟨_,q,hd⟩
    · exact⟨o,keep c o (I.cne x c e) hc nch ho (I.freeC x c e),hd⟩
  refine⟨I.ok,I.os,hg,⟨fun b o e n hb hx=>?_,fun b o e n hb hx=>?_,fun b o e n hx=>?_,fun b o e hx=>?_,fun b xs e=>tups b xs (I.base.tups b xs e),fun b o xs e=>frzs b o xs (I.base.frzs b o xs e),fun b ps e=>?_⟩,?_,fun x c e=>?_,?_,fun x c e=>?_,fun p hp=>?_,hok,I.len⟩
  · exact keep b o (neL b o e) hb (neC b o e hx) (I.base.keep b o e n hb hx) (I.base.free b o e n hx)
  · obtain⟨sl,e1⟩:=I.base.slot b o e n hb hx
    obtain⟨sl',e2⟩:=slot b _ (neL b o e) hb (neC b o e hx) e1 (I.base.free b o e n hx)
    exact⟨sl',e2⟩
  · obtain⟨o',e1⟩:=I.base.there b o e hx
    exact free b o' (neC b o e hx) e1 (I.base.free b o e n hx)
  · obtain⟨o',e1⟩:=I.base.there b o e hx
    exact there b o' (neC b o e hx) e1
  · obtain⟨m1,e1⟩:=I.base.tbls b ps e
    obtain⟨m2,e2⟩:=tbls b _ e1
    exact⟨m1++m2,by rw[e2,Array.append_assoc]⟩
  · obtain⟨m,hn,hl⟩:=I.loc
    refine⟨m,ns m hn,fun i x v e1 e2 e3=>?_⟩
    obtain⟨u,r,l⟩:=hl i x v e1 e2 e3
    refine⟨u,r,?_⟩
    rcases l with l | ⟨k,c,e,z⟩
    · exact .inl l
    · exact .inr ⟨k,c,e,cellK x c e _ z⟩
  · obtain⟨v,z⟩:=I.cell x c e
    exact⟨v,cellK x c e v z⟩
  · obtain⟨m,⟨o,_,_,ho,_⟩,_⟩:=I.loc
    exact free _ o (fun z=>(hch _ z).2.1 rfl) ho I.free
  · obtain⟨v,o,ho,hd⟩:=I.cell x c e
    exact free c o (fun z=>(hch c z).2.2.1 x c e rfl) ho (I.freeC x c e)
  · obtain⟨e,n,ne,nf,d⟩:=I.pin p hp
    have nch:p.1∉ch:=fun z=>(hch p.1 z).2.2.2 p hp rfl
    exact⟨keep p.1 p.2 ne nf nch e n,free p.1 p.2 nch e n,ne,nf,d⟩
theorem Inv.un {t':Nat} (I:Inv X pins σ H s) (u:Un X.fs [] H H' s.heap h') (hok:HOk X.prog X.w H' h'):Inv X pins σ H' { s with heap:=h',toks:=t' }:=by
  obtain⟨m,⟨o,es,ep,ho,r⟩,_⟩:=id I.loc
  obtain⟨sl,hL⟩:=u.any ho I.free (by simp)
  exact I.step (g':=s.gens) (d':=s.drawn) (ch:=[]) (fun _ z=>nomatch z) (fun b o _ hb _ e n=>u.keep b o e n hb (by simp)) (fun b o _ hb _ e n=>u.slot b o e n hb (by simp)) (fun b o _ e n=>u.free b o e n (by simp)) (fun b o _ e=>u.there b o e (by simp)) u.tups u.frzs u.tbls (fun m' hm=>by
    obtain⟨o',es',ep',ho',r'⟩:=hm
    rw[ho]at ho';cases ho'
    exact⟨_,es',ep',hL,r'⟩) hok I.bare
theorem Inv.call {g':Array GenState} {t':Nat} {d':Drawn} {ch:List Addr} (I:Inv X pins σ H s) (u:Un (frs X.stack) ch H H' s.heap h') (hok:HOk X.prog X.w H' h') (hg:AllBare g')
    (hch:∀ b∈ch,(b∈X.ex∨X.s₀.heap.objs.size≤b)∧b≠X.env.locals∧(∀ x c,X.env.cells.lookup x=some c→c≠b)∧∀ p∈X.pn++pins,p.1≠b) :
    Inv X pins σ H' { s with heap:=h',gens:=g',drawn:=d',toks:=t' }:=by
  obtain⟨m,⟨o,es,ep,ho,r⟩,_⟩:=id I.loc
  obtain⟨sl,hL⟩:=u.any ho I.free fun z=>(hch _ z).2.1 rfl
  exact I.step (ch:=ch) hch (fun b o hL hb hc e n=>u.keep b o e n (fun z=>(List.mem_cons.mp (I.stkSub b z)).elim hL hb) hc) (fun b o _ _ hc e n=>u.any e n hc) (fun b o hc e n=>u.free b o e n hc) (fun b o hc e=>u.there b o e hc) u.tups u.frzs u.tbls (fun m' hm=>by
    obtain⟨o',es',ep',ho',r'⟩:=hm
    rw[ho]at ho';cases ho'
    exact⟨_,es',ep',hL,r'⟩) hok hg
theorem Inv.turned {t':Nat} {it:Addr} (I:Inv X pins σ H s) (k:∀ b o,b≠it→s.heap.get? b=some o→h'.get? b=some o) (hn:H it=none) (hL:it≠X.env.locals)
    (h1:it∈X.ex∨X.s₀.heap.objs.size≤it) (h2:∀ x c,X.env.cells.lookup x=some c→c≠it) (h3:∀ p∈X.pn++pins,p.1≠it):Inv X pins σ H { s with heap:=h',toks:=t' }:=by
  have nit:∀ b u,H b=some u→b≠it:=fun b u e z=>by rw[z,hn]at e;cases e
  refine I.step (g':=s.gens) (d':=s.drawn) (ch:=[it]) (fun b hb=>?_) (fun b o _ _ hc e _=>k b o (fun z=>hc (by simp [z])) e) (fun b o _ _ hc e _=>⟨o.slots,k b o (fun z=>hc (by simp [z])) e⟩) (fun _ _ _ _ n=>n)
    (fun b o hc e=>⟨o,k b o (fun z=>hc (by simp [z])) e⟩) (fun _ _ e=>e) (fun _ _ _ e=>e) (fun b ps e=>⟨#[],by rw[e];simp⟩) (fun m hm=>?_) (fun b u e=>?_) I.bare
  · have e:b=it:=by simpa using hb
    subst e
    exact⟨h1,hL,h2,h3⟩
  · obtain⟨o,es,ep,ho,r⟩:=hm
    exact⟨o,es,ep,k _ o (Ne.symm hL) ho,r⟩
  · refine(I.hok b u e).stay (fun c v hc q=>k c v ?_ q) (fun _ q=>q) fun _ _ q=>q
    rcases hc with z | z
    · rw[z];exact nit b u e
    · exact nit c _ z
theorem Inv.tok (I:Inv X pins σ H s) (t:Nat):Inv X pins σ H { s with toks:=t }:=I.un (h':=s.heap) (t':=t) Un.refl I.hok
theorem Inv.kept {t':Nat} (I:Inv X pins σ H s) (k:∀ b u,s.heap.get? b=some u→h'.get? b=some u):Inv X pins σ H { s with heap:=h',toks:=t' }:=I.un (Un.kept k) (I.hok.kept k)
theorem Inv.laid {a:Addr} {o:HO} {t':Nat} (I:Inv X pins σ H s) (k:∀ b u,s.heap.get? b=some u→h'.get? b=some u) (hp:s.heap.objs.size≤a) (new:za3 X.prog X.w (upd H a o) h' a o) :
    Inv X pins σ (upd H a o) { s with heap:=h',toks:=t' }:=I.un (Un.laid k hp (I.hok.fresh hp)) (I.hok.laid k hp new)
theorem Inv.write {x e:Addr} {o:HO} {t':Nat} (I:Inv X pins σ H s) (mu:Mut (H x)) (he:e=x∨H e=some (.own x)) (k:∀ b u,b≠e→s.heap.get? b=some u→h'.get? b=some u) (heo:∃ u,h'.get? e=some u)
    (new:za3 X.prog X.w (upd H x o) h' x o):Inv X pins σ (upd H x o) { s with heap:=h',toks:=t' }:=I.un (Un.write mu he k heo) (I.hok.write mu he k heo new)
theorem Inv.pins_of {pins':List (Addr × Obj)} (I:Inv X pins σ H s) (h:∀ p∈pins',s.heap.get? p.1=some p.2∧H p.1=none∧p.1≠X.env.locals∧p.1∉X.fs∧∀ v,p.2.data≠.cell v):Inv X pins' σ H s :=
  ⟨I.ok,I.os,I.bare,I.base,I.loc,I.cell,I.free,I.freeC,fun p hp=>(List.mem_append.mp hp).elim (fun z=>I.pin p (List.mem_append_left _ z)) (h p),I.hok,I.len⟩
theorem zfP {N:List Str} (hN:N.Nodup) {i j:Nat} {x:Str} (a:N[i]?=some x) (b:N[j]?=some x):i=j:=by
  obtain⟨h1,e1⟩:=List.getElem?_eq_some_iff.mp a
  obtain⟨h2,e2⟩:=List.getElem?_eq_some_iff.mp b
  exact(List.getElem_inj hN).mp (e1.trans e2.symm)
theorem zeW {M:Model} {A:Around} {E:Value→Shared→Prop} {i:Nat} {x:Str} {v:V} {u:Value} {Q:Unit→Shared→Prop} (I:Inv X pins σ H s) (hN:X.N.Nodup) (hi:X.N[i]?=some x) (hx:Loc X.env.scope x) (r:zak v u)
    (h:∀ s',Inv X pins (σ.set i (some v)) H s'→(∃ a,Heap.SameBut a s.heap s'.heap∧(a=X.env.locals∨X.env.cells.lookup x=some a))→Q () s') (hf:X.fn x=true∨X.env.scope.names.lookup x=some .local:=by first | exact .inl rfl | exact .inr rfl | assumption):wpAny M A (storeName X.env x u) Q E s:=by
  obtain⟨m,hn,hl⟩:=id I.loc
  have hcls:(X.env.scope.kind == .class||(X.env.scope.kind == .module&&X.env.locals != X.env.globals))=false:=by rw[I.ok.kind];rfl
  have hiσ:i < σ.length:=by rw[I.len];exact(List.getElem?_eq_some_iff.mp hi).1
  have cne:=I.cne
  have tracked:∀ {a:Addr} {h':Heap},(∃ o,s.heap.get? a=some o∧H a=none)→Heap.SameBut a s.heap h'→HOk X.prog X.w H h':=fun {a h'} ha hs b ob e=>by
    obtain⟨_,_,hfree⟩:=ha
    refine(I.hok b ob e).stay (fun c w' hc q=>(hs.2 c ?_).trans q) (fun _ q=>q) fun _ _ q=>q
    rintro rfl
    rcases hc with rfl | hc
    · rw[hfree]at e;cases e
    · rw[hfree]at hc;cases hc
  rcases hx with hk | hk
  · refine wpAny_storeName_local hk hn (fun h' hn' hs=>?_) hcls
    obtain⟨oL,_,_,hoL,_⟩:=id hn
    refine h _ ⟨I.ok,I.os,I.bare,⟨fun b o e n hb hx=>?_,fun b o e n hb hx=>?_,I.base.free,fun b o e hx=>?_,I.base.tups,I.base.frzs,I.base.tbls⟩,⟨_,hn',fun j y v' e1 e2 e3=>?_⟩,fun y c e=>?_,I.free,I.freeC,fun p hp=>?_,tracked ⟨oL,hoL,I.free⟩ hs,by simpa using I.len⟩ ⟨_,hs,.inl rfl⟩
    · exact(hs.2 b (Nat.ne_of_lt (Nat.lt_of_lt_of_le (Heap.lt_size e) I.ok.above))).trans (I.base.keep b o e n hb hx)
    · obtain⟨sl,e1⟩:=I.base.slot b o e n hb hx
      exact⟨sl,(hs.2 b (Nat.ne_of_lt (Nat.lt_of_lt_of_le (Heap.lt_size e) I.ok.above))).trans e1⟩
    · obtain⟨o',e1⟩:=I.base.there b o e hx
      exact⟨o',(hs.2 b (Nat.ne_of_lt (Nat.lt_of_lt_of_le (Heap.lt_size e) I.ok.above))).trans e1⟩
    · by_cases hj:j=i
      · subst hj
        rw[hi]at e1;cases e1
        rw[List.getElem?_set_self hiσ]at e2
        cases e2
        exact⟨u,r,.inl ⟨hk,by simp⟩⟩
      · rw[List.getElem?_set_ne (Ne.symm hj)]at e2
        obtain⟨u',r',q⟩:=hl j y v' e1 e2 e3
        refine⟨u',r',?_⟩
        rcases q with ⟨k,e⟩ | ⟨k,c,e,z⟩
        · refine .inl ⟨k,?_⟩
          have:y≠x:=fun e=>hj (zfP hN e1 (e ▸ hi))
          simp [this,e]
        · exact .inr ⟨k,c,e,z.sameBut hs (cne y c e)⟩
    · obtain⟨w',z⟩:=I.cell y c e
      exact⟨w',z.sameBut hs (cne y c e)⟩
    · obtain⟨e,n,ne,nf,d⟩:=I.pin p hp
      exact⟨(hs.2 p.1 ne).trans e,n,ne,nf,d⟩
  · have hfn:X.fn x=true:=by
      rcases hf with z | z
      · exact z
      · rw[z]at hk;cases hk
    obtain⟨c,hc⟩:=I.ok.has x (.inl hk)
    obtain⟨w',z⟩:=I.cell x c hc
    refine wpAny_storeName_cell I.ok.kind hk hc z (fun h' hc' hs=>?_)
    obtain⟨oc,hoc,hocd⟩:=id z
    refine h { s with heap:=h' } ⟨I.ok,I.os,I.bare,⟨fun b o e n hb hx=>?_,fun b o e n hb hx=>?_,I.base.free,fun b o e hx=>?_,I.base.tups,I.base.frzs,I.base.tbls⟩,⟨m,hn.sameBut hs (Ne.symm (cne x c hc)),fun j y v' e1 e2 e3=>?_⟩,fun y c' e=>?_,I.free,I.freeC,fun p hp=>?_,tracked ⟨oc,hoc,I.freeC x c hc⟩ hs,by simpa using I.len⟩ ⟨c,hs,.inr hc⟩
    · exact(hs.2 b (Nat.ne_of_lt (Nat.lt_of_lt_of_le (Heap.lt_size e) (I.ok.cab x c hfn hc)))).trans (I.base.keep b o e n hb hx)
    · obtain⟨sl,e1⟩:=I.base.slot b o e n hb hx
      exact⟨sl,(hs.2 b (Nat.ne_of_lt (Nat.lt_of_lt_of_le (Heap.lt_size e) (I.ok.cab x c hfn hc)))).trans e1⟩
    · obtain⟨o',e1⟩:=I.base.there b o e hx
      exact⟨o',(hs.2 b (Nat.ne_of_lt (Nat.lt_of_lt_of_le (Heap.lt_size e) (I.ok.cab x c hfn hc)))).trans e1⟩
    · by_cases hj:j=i
      · subst hj
        rw[hi]at e1;cases e1
        rw[List.getElem?_set_self hiσ]at e2
        cases e2
        exact⟨u,r,.inr ⟨.inl hk,c,hc,hc'⟩⟩
      · rw[List.getElem?_set_ne (Ne.symm hj)]at e2
        obtain⟨u',r',q⟩:=hl j y v' e1 e2 e3
        refine⟨u',r',?_⟩
        rcases q with q | ⟨k,c',e,z'⟩
        · exact .inl q
        · refine .inr ⟨k,c',e,z'.sameBut hs ?_⟩
          rintro rfl
          exact hj (zfP hN e1 (I.ok.inj _ _ _ e hc ▸ hi))
    · by_cases hcc:c'=c
      · subst hcc;exact⟨_,hc'⟩
      · obtain⟨w2,z2⟩:=I.cell y c' e
        exact⟨w2,z2.sameBut hs hcc⟩
    · obtain⟨e,n,ne,nf,d⟩:=I.pin p hp
      refine⟨(hs.2 p.1 ?_).trans e,n,ne,nf,d⟩
      intro q
      rw[q,hoc]at e
      have q':oc=p.2:=Option.some.inj e
      exact d w' (by rw[←q'];exact hocd)
theorem zfy {M:Model} {A:Around} {E:Value→Shared→Prop} {i:Nat} {x:Str} {v:V} {u:Value} {Q:Unit→Shared→Prop} (I:Inv X pins σ H s) (hN:X.N.Nodup) (hi:X.N[i]?=some x) (hx:Loc X.env.scope x) (r:zak v u)
    (h:∀ s',Inv X pins (σ.set i (some v)) H s'→Q () s') (hf:X.fn x=true∨X.env.scope.names.lookup x=some .local:=by first | exact .inl rfl | exact .inr rfl | assumption):wpAny M A (storeName X.env x u) Q E s :=
  zeW I hN hi hx r (fun s' I' _=>h s' I') hf
theorem Inv.call' {s':Shared} {ch:List Addr} (I:Inv X pins σ H s) (ho:s'.os=s.os) (u:Un (frs X.stack) ch H H' s.heap s'.heap) (hok:HOk X.prog X.w H' s'.heap) (hg:AllBare s'.gens)
    (hch:∀ b∈ch,(b∈X.ex∨X.s₀.heap.objs.size≤b)∧b≠X.env.locals∧(∀ x c,X.env.cells.lookup x=some c→c≠b)∧∀ p∈X.pn++pins,p.1≠b):Inv X pins σ H' s':=by
  obtain⟨h',g',d',t',o'⟩:=s'
  have e:o'=s.os:=ho
  subst e
  exact I.call (g':=g') (t':=t') (d':=d') u hok hg hch
end
abbrev XK:=Value→Option Addr→Hp→Prop
abbrev St:=List (Option V)
abbrev VK:=V→Hp→Prop
abbrev TE:=St→Hp→VK→Prop
abbrev TT:=St→Hp→(Bool→Hp→Prop)→Prop
abbrev TA:=St→Hp→(List V→Hp→Prop)→Prop
structure zba where
  nx:St→Hp→Prop
  rt:VK
  bk:St→Hp→Prop:=fun _ _=>False
  ct:St→Hp→Prop:=fun _ _=>False
abbrev TS:=zba→St→Hp→Prop
def EP (X:Cx) (pins:List (Addr × Obj)) (σ:St) (Q:VK) (u:Value) (s':Shared):Prop:=∃ v H',Inv X pins σ H' s'∧zak v u∧Q v H'
def TP (X:Cx) (pins:List (Addr × Obj)) (σ:St) (Q:Bool→Hp→Prop) (b:Bool) (s':Shared):Prop:=∃ H',Inv X pins σ H' s'∧Q b H'
def AP (X:Cx) (pins:List (Addr × Obj)) (σ:St) (Q:List V→Hp→Prop) (us:List Value) (s':Shared):Prop:=∃ vs H',Inv X pins σ H' s'∧au vs us∧Q vs H'
def SP (X:Cx) (pins:List (Addr × Obj)) (D:zba) (f:Flow) (s':Shared):Prop :=
  match f with
  | .next=>∃ σ' H',Inv X pins σ' H' s'∧D.nx σ' H'
  | .brk=>∃ σ' H',Inv X pins σ' H' s'∧D.bk σ' H'
  | .cont=>∃ σ' H',Inv X pins σ' H' s'∧D.ct σ' H'
  | .ret u=>∃ v σ' H',Inv X pins σ' H' s'∧zak v u∧D.rt v H'
def PE (X:Cx) (e:Expr) (t:TE):Prop :=
  ∀(pins:List (Addr × Obj)) (s:Shared) (σ:St) (H:Hp) (Q:VK),Inv X pins σ H s→t σ H Q→wpAny (model X.prog X.w) X.A (eval e X.env) (EP X pins σ Q) X.xe s
def PT (X:Cx) (e:Expr) (t:TT):Prop :=
  ∀(pins:List (Addr × Obj)) (s:Shared) (σ:St) (H:Hp) (Q:Bool→Hp→Prop),Inv X pins σ H s→t σ H Q→wpAny (model X.prog X.w) X.A (isTrue e X.env (eval e X.env)) (TP X pins σ Q) X.xe s
def PW (X:Cx) (e:Expr) (t:TT):Prop :=
  ∀(whole:Sem Value) (pins:List (Addr × Obj)) (s:Shared) (σ:St) (H:Hp) (Q:Bool→Hp→Prop),Inv X pins σ H s→t σ H Q→wpAny (model X.prog X.w) X.A (isTrue e X.env whole) (TP X pins σ Q) X.xe s
theorem PW.pt {X:Cx} {e:Expr} {t:TT} (h:PW X e t):PT X e t:=h _
def PA (X:Cx) (es:List Expr) (t:TA):Prop :=
  ∀(pos:Pos) (pins:List (Addr × Obj)) (s:Shared) (σ:St) (H:Hp) (Q:List V→Hp→Prop),Inv X pins σ H s→t σ H Q→wpAny (model X.prog X.w) X.A (spliced (backTo pos (starEach es X.env))) (AP X pins σ Q) X.xe s
def PS (X:Cx) (st:Stmt) (t:TS):Prop :=
  ∀(pins:List (Addr × Obj)) (s:Shared) (σ:St) (H:Hp) (D:zba),Inv X pins σ H s→t D σ H→wpAny (model X.prog X.w) X.A (exec st X.env) (SP X pins D) X.xe s
def PSs (X:Cx) (st:List Stmt) (t:TS):Prop :=
  ∀(pins:List (Addr × Obj)) (s:Shared) (σ:St) (H:Hp) (D:zba),Inv X pins σ H s→t D σ H→wpAny (model X.prog X.w) X.A (execs st X.env) (SP X pins D) X.xe s
theorem thn {α:Type} {t:Sem α} {Q Q':α→Shared→Prop} {M:Model} {A:Around} {E:Value→Shared→Prop} {s:Shared} (h:wpAny M A t Q E s) (hQ:∀ a s,Q a s→Q' a s):wpAny M A t Q' E s:=wpAny_mono h hQ fun _ _ x=>x
end L2
namespace L2
open PySem PySem.Spec PyProof.Rows
section
variable {X:Cx}
theorem bin {a b:Expr} {ta tb:TE} (ha:PE X a ta) (hb:PE X b tb) {pins:List (Addr × Obj)} {s:Shared} {σ:St} {H:Hp} {R:V→V→Hp→Prop} (I:Inv X pins σ H s) (h:ta σ H fun x H1=>tb σ H1 fun y H2=>R x y H2)
    {α:Type} {Q:α→Shared→Prop} {f:Value→Value→Sem α}
    (hf:∀ v u s2 x y H2,Inv X pins σ H2 s2→zak x v→zak y u→R x y H2→wpAny (model X.prog X.w) X.A (f v u) Q X.xe s2) :
    wpAny (model X.prog X.w) X.A (eval a X.env) (fun v s₁=>wpAny (model X.prog X.w) X.A (eval b X.env) (fun u s₂=>wpAny (model X.prog X.w) X.A (f v u) Q X.xe s₂) X.xe s₁) X.xe s:=by
  refine thn (ha pins s σ H _ I h) fun v s1 ⟨x,H1,I1,r1,q1⟩=>?_
  refine thn (hb pins s1 σ H1 _ I1 q1) fun u s2 ⟨y,H2,I2,r2,q2⟩=>?_
  exact hf v u s2 x y H2 I2 r1 r2 q2
def zcR (i:Nat):TE:=fun σ H Q=>∃ v,σ[i]?=some (some v)∧Q v H
def tC (v:V):TE:=fun _ H Q=>Q v H
theorem pe_var {i:Nat} {x:Str} {pos:Pos} (hN:X.N[i]?=some x) (hv:Vis X.env.scope x) (hd:(x == ("__debug__":Str))=false:=by decide) (hcd:(x == ("__classdict__":Str))=false:=by decide):PE X (.Name x pos) (zcR i):=by
  intro pins s σ H Q I h
  obtain⟨v,e,h⟩:=h
  obtain⟨m,hn,hl⟩:=I.loc
  obtain⟨u,r,l⟩:=hl i x v hN e hv
  have fin:EP X pins σ Q u s:=⟨v,H,I,r,h⟩
  rcases l with ⟨hk,hm⟩ | ⟨hk,c,hc,hcell⟩
  · exact wpAny_Name (wpAny_loadName_local I.ok.kind hk hn hm fin) hd
  · rcases hk with hk | hk
    · exact wpAny_Name (wpAny_loadName_cell I.ok.kind hk hc hcell fin) hd
    · exact wpAny_Name (wpAny_loadName_free I.ok.kind hk hc hcell fin hcd) hd
theorem ad {i j pos}:PE X (.Constant (.int i) j pos) (tC (.int i)):=fun _ _ _ H _ I h=>wpAny_Constant_int ⟨.int i,H,I.tok _,⟨_,rfl⟩,h⟩
theorem zfg {b j pos}:PE X (.Constant (.bool b) j pos) (tC (.bl b)):=fun _ _ _ H _ I h=>Constant_bool ⟨.bl b,H,I,rfl,h⟩
theorem ak {x j pos}:PE X (.Constant (.str x) j pos) (tC (.str x)):=fun _ _ _ H _ I h=>Calls.Constant_str ⟨.str x,H,I.tok _,⟨_,rfl⟩,h⟩
def Gl (X:Cx) (x:Str):Prop:=X.env.kindOf x=some .globalImplicit
theorem zeK {E:Value→Shared→Prop} {pins:List (Addr × Obj)} {s:Shared} {σ:St} {H:Hp} {x:Str} {u:Value} {pos:Pos} {Q:Value→Shared→Prop} (I:Inv X pins σ H s) (hg:Gl X x) (hm:X.mg x=some u) (h:Q u s)
    (hd:(x == ("__debug__":Str))=false:=by decide):wpAny (model X.prog X.w) X.A (eval (.Name x pos) X.env) Q E s :=
  Calls.Name_function_global I.ok.kind hg (Calls.loadGlobal_global (by rw[I.ok.glob];exact I.mod.glob.keeps I.bk) hm h) hd
theorem zc0 {E:Value→Shared→Prop} {pins:List (Addr × Obj)} {s:Shared} {σ:St} {H:Hp} {x:Str} {u:Value} {pos:Pos} {Q:Value→Shared→Prop} (I:Inv X pins σ H s) (hg:Gl X x) (hm:X.mg x=none) (hv:bootBuiltins x=some u) (h:Q u s)
    (hn:x≠"__name__":=by decide) (hd:(x == ("__debug__":Str))=false:=by decide):wpAny (model X.prog X.w) X.A (eval (.Name x pos) X.env) Q E s:=by
  obtain⟨mb,h1,h2⟩:=I.mod.blt
  exact Calls.Name_function_global I.ok.kind hg (Calls.loadGlobal_builtin (by rw[I.ok.glob];exact I.mod.glob.keeps I.bk) hm (by rw[I.ok.blt];exact h1.keeps I.bk) ((h2 x hn).trans hv) h) hd
theorem zaO {x:Str} {v:V} {u:Value} {pos:Pos} (hg:Gl X x) (hm:X.mg x=some u) (r:zak v u) (hd:(x == ("__debug__":Str))=false:=by decide):PE X (.Name x pos) (tC v) :=
  fun _ _ _ H _ I h=>zeK I hg hm ⟨v,H,I,r,h⟩ hd
theorem zgm {x:Str} {v:V} {u:Value} {pos:Pos} (hg:Gl X x) (hm:X.mg x=none) (hv:bootBuiltins x=some u) (r:zak v u) (hn:x≠"__name__":=by decide) (hd:(x == ("__debug__":Str))=false:=by decide):PE X (.Name x pos) (tC v) :=
  fun _ _ _ H _ I h=>zc0 I hg hm hv ⟨v,H,I,r,h⟩ hn hd
variable {a b:Expr} {ta tb:TE} {pos:Pos}
def PC (X:Cx) (op:CmpOp) (a b:Expr) (t:TE):Prop :=
  ∀(pins:List (Addr × Obj)) (s:Shared) (σ:St) (H:Hp) (Q:VK),Inv X pins σ H s→t σ H Q →
    wpAny (model X.prog X.w) X.A (eval a X.env) (fun v s₁=>wpAny (model X.prog X.w) X.A (eval b X.env) (fun u s₂=>wpAny (model X.prog X.w) X.A (compareOp op v u) (EP X pins σ Q) X.xe s₂) X.xe s₁) X.xe s
def tB (t:TE):TT:=fun σ H Q=>t σ H fun x H1=>∃ c,x=.bl c∧Q c H1
theorem pt_cmp {op:CmpOp} {t:TE} (h:PC X op a b t) (h1:behindInMarks op b=false:=by first | exact nobehind _ (by decide) (by decide) | rfl):PT X (.Compare a [op] [b] pos) (tB t):=by
  intro pins s σ H Q I hw
  refine wpAny_isTrue_Compare1 (thn (h pins s σ H _ I hw) fun v s1 h1=>thn h1 fun u s2 h2=>thn h2 fun c s3 ⟨x,H1,I1,r1,q1⟩=>?_) h1
  obtain⟨d,rfl,q⟩:=q1
  cases r1
  exact wpAny_truthy_bool ⟨H1,I1,q⟩
theorem zaX {e:Expr} {t:TE} (h:PE X e t) (he:∀ whole,isTrue e X.env whole=(do let v ←whole;standAt e.pos;holding [v] (truthy v)):=by intro _;rfl):PT X e (tB t):=by
  intro pins s σ H Q I hw
  refine isTrue_plain (thn (h pins s σ H _ I hw) fun v s1 ⟨x,H1,I1,r1,q1⟩=>?_) (he _)
  obtain⟨d,rfl,q⟩:=q1
  cases r1
  exact wpAny_truthy_bool ⟨H1,I1,q⟩
variable {tA tB':TT} {zbt:List Expr}
def tAnd (t u:TT):TT:=fun σ H Q=>t σ H fun c H1=>if c=true then u σ H1 Q else Q false H1
def tOr (t u:TT):TT:=fun σ H Q=>t σ H fun c H1=>if c=true then Q true H1 else u σ H1 Q
def tNot (t:TT):TT:=fun σ H Q=>t σ H fun c H1=>Q (!c) H1
theorem zeH (ha:PT X a tA):PW X (.BoolOp .And [a] pos) tA:=by
  intro wh pins s σ H Q I h
  refine isTrue_and (thn (ha pins s σ H Q I h) fun c s1 e=>?_)
  cases c with
  | true=>exact isTrue_and_nil e
  | false=>exact e
theorem zei (ha:PT X a tA):PW X (.BoolOp .Or [a] pos) tA:=by
  intro wh pins s σ H Q I h
  refine isTrue_or (thn (ha pins s σ H Q I h) fun c s1 e=>?_)
  cases c with
  | false=>exact isTrue_or_nil e
  | true=>exact e
theorem zej (ha:PT X a tA) (hb:PW X (.BoolOp .And (b :: zbt) pos) tB'):PW X (.BoolOp .And (a :: b :: zbt) pos) (tAnd tA tB'):=by
  intro wh pins s σ H Q I h
  refine isTrue_and (thn (ha pins s σ H _ I h) fun c s1 ⟨H1,I1,q1⟩=>?_)
  cases c with
  | true=>exact hb wh pins s1 σ H1 Q I1 q1
  | false=>exact⟨H1,I1,q1⟩
theorem zeb (ha:PT X a tA) (hb:PW X (.BoolOp .Or (b :: zbt) pos) tB'):PW X (.BoolOp .Or (a :: b :: zbt) pos) (tOr tA tB'):=by
  intro wh pins s σ H Q I h
  refine isTrue_or (thn (ha pins s σ H _ I h) fun c s1 ⟨H1,I1,q1⟩=>?_)
  cases c with
  | true=>exact⟨H1,I1,q1⟩
  | false=>exact hb wh pins s1 σ H1 Q I1 q1
theorem zbw (ha:PT X a tA):PT X (.UnaryOp .Not a pos) (tNot tA):=by
  intro pins s σ H Q I h
  exact isTrue_not (ha pins s σ H (fun c H1=>Q (!c) H1) I h)
def tAndV (ta tb:TE):TE:=fun σ H Q=>ta σ H fun x H1=>∃ c,x=.bl c∧if c=true then tb σ H1 Q else Q (.bl false) H1
theorem zfp {op} {t:TE} (h:PE X a t):PE X (.BoolOp op [a] pos) t:=fun pins s σ H Q I hw=>BoolOp_one (h pins s σ H Q I hw)
theorem zel (ha:PE X a ta) (hb:PE X (.BoolOp .And (b :: zbt) pos) tb):PE X (.BoolOp .And (a :: b :: zbt) pos) (tAndV ta tb):=by
  intro pins s σ H Q I h
  refine BoolOp_and (thn (ha pins s σ H _ I h) fun v s1 ⟨x,H1,I1,r1,q1⟩=>?_)
  obtain⟨c,rfl,q1⟩:=q1
  cases r1
  refine wpAny_truthy_bool ?_
  cases c with
  | true=>exact hb pins s1 σ H1 Q I1 q1
  | false=>exact⟨.bl false,H1,I1,rfl,q1⟩
def tIf (t:TT) (ta tb:TE):TE:=fun σ H Q=>t σ H fun c H1=>if c=true then ta σ H1 Q else tb σ H1 Q
theorem zd3 {c:Expr} (hc:PT X c tA) (ha:PE X a ta) (hb:PE X b tb):PE X (.IfExp c a b pos) (tIf tA ta tb):=by
  intro pins s σ H Q I h
  refine wpAny_IfExp (thn (hc pins s σ H _ I h) fun d s1 ⟨H1,I1,q1⟩=>?_)
  cases d with
  | true=>exact ha pins s1 σ H1 Q I1 q1
  | false=>exact hb pins s1 σ H1 Q I1 q1
end
end L2
namespace L2
open PySem PySem.Spec PyProof.Rows
def SqL (K:PySem.W.Frag) (H:Hp) (a:Addr) (xs:List V):Prop :=
  Rd H a (.lst xs) ∨
    ∃(o:Obj) (its:Array Value) (n:Nat),K.lookup a=some o∧o.cls=.type "list"∧o.dict=none∧o.data=.seq its n∧its.size≤sizeLine∧au xs its.toList
def SqT (K:PySem.W.Frag) (H:Hp) (a:Addr) (xs:List V):Prop :=
  Rd H a (.tup xs) ∨
    ∃(o:Obj) (its:Array Value) (n:Nat),K.lookup a=some o∧o.cls=.type "tuple"∧o.data=.seq its n∧its.size≤sizeLine∧au xs its.toList
def absV:Value→Option V
  | .none=>some .non
  | .bool b=>some (.bl b)
  | .int i _=>some (.int i)
  | .str x _=>some (.str x)
  | .bytes b _=>some (.byt b)
  | .float b _=>some (.flt b)
  | .ref a=>some (.ref a)
  | .type n=>some (.ty n)
  | _=>none
theorem zak.abs {x:V} {u:Value} (r:zak x u):absV u=some x:=by
  cases x with
  | non=>cases r;rfl
  | bl _=>cases r;rfl
  | int _=>obtain⟨t,rfl⟩:=r;rfl
  | str _=>obtain⟨t,rfl⟩:=r;rfl
  | byt _=>obtain⟨t,rfl⟩:=r;rfl
  | flt _=>obtain⟨t,rfl⟩:=r;rfl
  | ref _=>cases r;rfl
  | ty _=>cases r;rfl
theorem zak.inj {x y:V} {u:Value} (r:zak x u) (q:zak y u):x=y:=Option.some.inj (r.abs.symm.trans q.abs)
theorem au.inj:∀ {xs ys:List V} {us:List Value},au xs us→au ys us→xs=ys
  | _,_,_,.nil,.nil=>rfl
  | _,_,_,.cons r t,.cons r' t'=>by rw[r.inj r',au.inj t t']
section
variable {X:Cx} {pins:List (Addr × Obj)} {σ:St} {H:Hp} {s:Shared} {a:Addr} {xs ys:List V}
theorem SqL.of {K:PySem.W.Frag} (h:H a=some (.lst xs)):SqL K H a xs:=.inl (.inl h)
theorem SqT.of {K:PySem.W.Frag} (h:H a=some (.tup xs)):SqT K H a xs:=.inl (.inl h)
theorem Inv.list (I:Inv X pins σ H s) (h:SqL X.K H a xs):∃ its:List Value,au xs its∧PlainL s.heap a its.toArray∧xs.length≤sizeLine:=by
  rcases h with h | ⟨o,its,n,hk,hc,hd,hs,hz,r⟩
  · obtain⟨z,its,n,r,e⟩:=h.ok I.hok
    exact⟨its,r,⟨_,n,e,rfl,rfl,rfl⟩,z⟩
  · refine⟨its.toList,r,⟨o,n,I.kIn a o hk,hc,hd,by simpa using hs⟩,?_⟩
    have e:=r.length
    simp only[Array.length_toList]at e
    omega
theorem Inv.tuple (I:Inv X pins σ H s) (h:SqT X.K H a xs):∃ its:List Value,au xs its∧IsTup s.heap a its.toArray∧xs.length≤sizeLine:=by
  rcases h with h | ⟨o,its,n,hk,hc,hs,hz,r⟩
  · obtain⟨z,its,r,p⟩:=h.ok I.hok
    exact⟨its,r,p,z⟩
  · refine⟨its.toList,r,⟨o,I.kIn a o hk,hc,n,by simpa using hs⟩,?_⟩
    have e:=r.length
    simp only[Array.length_toList]at e
    omega
theorem Inv.list_inj (I:Inv X pins σ H s) (h:SqL X.K H a xs) (h':SqL X.K H a ys):xs=ys:=by
  obtain⟨its,r,⟨o,n,e,_,_,d⟩,_⟩:=I.list h
  obtain⟨its',r',⟨o',n',e',_,_,d'⟩,_⟩:=I.list h'
  rw[e]at e';cases e'
  rw[d]at d'
  injection d' with d1 _
  have:its=its':=by simpa using congrArg Array.toList d1
  subst this
  exact r.inj r'
theorem Inv.tuple_inj (I:Inv X pins σ H s) (h:SqT X.K H a xs) (h':SqT X.K H a ys):xs=ys:=by
  obtain⟨its,r,⟨o,e,_,n,d⟩,_⟩:=I.tuple h
  obtain⟨its',r',⟨o',e',_,n',d'⟩,_⟩:=I.tuple h'
  rw[e]at e';cases e'
  rw[d]at d'
  injection d' with d1 _
  have:its=its':=by simpa using congrArg Array.toList d1
  subst this
  exact r.inj r'
end
abbrev Cx.wish (X:Cx) (E:Value→Shared→Prop):Cx:={ X with xe:=E }
abbrev Cx.nox (X:Cx):Cx:=X.wish fun _ _=>False
theorem Cx.Ok.wish {X:Cx} (ok:X.Ok) (E:Value→Shared→Prop):(X.wish E).Ok :=
  ⟨ok.mod,ok.kind,ok.glob,ok.blt,ok.above,ok.inj,ok.has,ok.cab,ok.hd,ok.frames,ok.stk,ok.exf,ok.bs,ok.bsz,ok.noex,ok.exfs,ok.funs,ok.frf⟩
theorem Cx.Ok.unwish {X:Cx} {E:Value→Shared→Prop} (ok:(X.wish E).Ok):X.Ok :=
  ⟨ok.mod,ok.kind,ok.glob,ok.blt,ok.above,ok.inj,ok.has,ok.cab,ok.hd,ok.frames,ok.stk,ok.exf,ok.bs,ok.bsz,ok.noex,ok.exfs,ok.funs,ok.frf⟩
section
variable {X:Cx} {pins:List (Addr × Obj)} {σ:St} {H:Hp} {s:Shared} {E:Value→Shared→Prop}
theorem Inv.wish (I:Inv X pins σ H s) (E:Value→Shared→Prop):Inv (X.wish E) pins σ H s:=⟨I.ok.wish E,I.os,I.bare,I.base,I.loc,I.cell,I.free,I.freeC,I.pin,I.hok,I.len⟩
theorem Inv.unwish (I:Inv (X.wish E) pins σ H s):Inv X pins σ H s:=⟨I.ok.unwish,I.os,I.bare,I.base,I.loc,I.cell,I.free,I.freeC,I.pin,I.hok,I.len⟩
theorem SP.unwish {D:zba} {f:Flow} {s':Shared} (h:SP (X.wish E) pins D f s'):SP X pins D f s':=by
  cases f with
  | next=>obtain⟨σ',H',I,q⟩:=h;exact⟨σ',H',I.unwish,q⟩
  | brk=>obtain⟨σ',H',I,q⟩:=h;exact⟨σ',H',I.unwish,q⟩
  | cont=>obtain⟨σ',H',I,q⟩:=h;exact⟨σ',H',I.unwish,q⟩
  | ret u=>obtain⟨v,σ',H',I,r,q⟩:=h;exact⟨v,σ',H',I.unwish,r,q⟩
theorem PSs.nox {st:List Stmt} {t:TS} (h:PSs X.nox st t):PSs X st t:=fun pins s σ H D I hw =>
  wpAny_mono (h pins s σ H D (I.wish _) hw) (fun _ _ q=>q.unwish) fun _ _ z=>False.elim z
end
section
variable {X:Cx} {st:Stmt} {zbt:List Stmt} {t u:TS} {e:Expr} {te:TE} {pos:Pos}
def tNext:TS:=fun D σ H=>D.nx σ H
def tSeq (t u:TS):TS:=fun D σ H=>t { D with nx:=u D } σ H
theorem zab:PSs X [] tNext:=fun _ _ σ H _ I h=>wpAny_execs_nil ⟨σ,H,I,h⟩
theorem ae (h1:PS X st t) (h2:PSs X zbt u):PSs X (st :: zbt) (tSeq t u):=by
  intro pins s σ H D I h
  refine wpAny_execs_cons (thn (h1 pins s σ H { D with nx:=u D } I h) fun f s1 q=>?_)
  cases f with
  | next =>
    obtain⟨σ',H',I',q⟩:=q
    exact h2 pins s1 σ' H' D I' q
  | ret v=>exact q
  | brk=>exact q
  | cont=>exact q
theorem ag (h1:PS X st t):PSs X [st] t:=by
  intro pins s σ H D I h
  refine wpAny_execs_cons (thn (h1 pins s σ H D I h) fun f s1 q=>?_)
  cases f with
  | next=>exact wpAny_execs_nil q
  | ret v=>exact q
  | brk=>exact q
  | cont=>exact q
theorem Inv.quiet {pins:List (Addr × Obj)} {σ:St} {H:Hp} {s:Shared} (I:Inv X pins σ H s):interactive X.env=false:=by simp [interactive,I.ok.kind]
def zd9 (te:TE):TS:=fun D σ H=>te σ H fun _ H1=>D.nx σ H1
theorem zaM (he:PE X e te) (hs:swapsWith e none pos.line X.env=pure false:=by rfl):PS X (.Expr e pos) (zd9 te):=by
  intro pins s σ H D I h
  exact wpAny_Expr_any (thn (he pins s σ H _ I h) fun v s1 ⟨x,H1,I1,r1,q1⟩=>⟨σ,H1,I1,q1⟩) I.quiet hs
def tRet (te:TE):TS:=fun D σ H=>te σ H D.rt
theorem ar (he:PE X e te):PS X (.Return (some e) pos) (tRet te):=by
  intro pins s σ H D I h
  exact wpAny_Return_some (thn (he pins s σ H _ I h) fun v s1 ⟨x,H1,I1,r1,q1⟩=>⟨x,σ,H1,I1,r1,q1⟩)
def tIfS (c:TT) (t u:TS):TS:=fun D σ H=>c σ H fun b H1=>if b=true then t D σ H1 else u D σ H1
theorem zai {c:Expr} {a b:List Stmt} {tc:TT} (hc:PT X c tc) (ha:PSs X a t) (hb:PSs X b u):PS X (.If c a b pos) (tIfS tc t u):=by
  intro pins s σ H D I h
  refine wpAny_If (thn (hc pins s σ H _ I h) fun d s1 ⟨H1,I1,q1⟩=>?_)
  cases d with
  | true=>exact ha pins s1 σ H1 D I1 q1
  | false=>exact hb pins s1 σ H1 D I1 q1
def tNever:TS:=fun _ _ _=>False
end
abbrev TG:=V→St→Hp→(St→Hp→Prop)→Prop
abbrev TGs:=List V→St→Hp→(St→Hp→Prop)→Prop
def PG (X:Cx) (target:Expr) (t:TG):Prop :=
  ∀(pins:List (Addr × Obj)) (s:Shared) (σ:St) (H:Hp) (v:V) (u:Value) (Q:St→Hp→Prop),Inv X pins σ H s→zak v u→t v σ H Q →
    wpAny (model X.prog X.w) X.A (assign target X.env u) (fun _ s'=>∃ σ' H',Inv X pins σ' H' s'∧Q σ' H') X.xe s
def PGs (X:Cx) (ts:List Expr) (t:TGs):Prop :=
  ∀(pins:List (Addr × Obj)) (s:Shared) (σ:St) (H:Hp) (vs:List V) (us:List Value) (Q:St→Hp→Prop),Inv X pins σ H s→au vs us→t vs σ H Q →
    wpAny (model X.prog X.w) X.A (assignInOrder ((assignEach ts X.env).map (·.2)) us) (fun _ s'=>∃ σ' H',Inv X pins σ' H' s'∧Q σ' H') X.xe s
section
variable {X:Cx} {pos:Pos}
def zcp (i:Nat):TG:=fun v σ H Q=>Q (σ.set i (some v)) H
theorem zaA {i:Nat} {x:Str} (hN:X.N.Nodup) (hi:X.N[i]?=some x) (hx:Loc X.env.scope x) (hf:X.fn x=true∨X.env.scope.names.lookup x=some .local:=by first | exact .inl rfl | exact .inr rfl | assumption):PG X (.Name x pos) (zcp i):=by
  intro pins s σ H v u Q I r h
  exact wpAny_assign_Name (zfy I hN hi hx r (fun s' I'=>⟨_,H,I',h⟩) hf)
def gNil:TGs:=fun vs σ H Q=>vs=[]∧Q σ H
def gCons (t:TG) (u:TGs):TGs:=fun vs σ H Q=>∃ v r,vs=v :: r∧t v σ H fun σ' H'=>u r σ' H' Q
theorem ziK:PGs X [] gNil:=by
  intro pins s σ H vs us Q I r h
  obtain⟨e,h⟩:=h
  subst e
  cases r
  exact assignInOrder_nil ⟨σ,H,I,h⟩
theorem zfK {e:Expr} {es:List Expr} {t:TG} {u:TGs} (h1:PG X e t) (h2:PGs X es u)
    (hs:(assignEach (e :: es) X.env).map (·.2)=assign e X.env :: (assignEach es X.env).map (·.2):=by rfl):PGs X (e :: es) (gCons t u):=by
  intro pins s σ H vs us Q I r h
  obtain⟨v,vr,e1,h⟩:=h
  subst e1
  cases r with
  | cons r rr =>
    rw[hs]
    refine assignInOrder_cons (thn (h1 pins s σ H _ _ _ I r h) fun _ s1 ⟨σ1,H1,I1,q1⟩=>?_)
    exact h2 pins s1 σ1 H1 _ _ Q I1 rr q1
def gTup (K:PySem.W.Frag) (n:Nat) (t:TGs):TG:=fun v σ H Q=>∃ a xs,v=.ref a∧SqT K H a xs∧xs.length=n∧t xs σ H Q
theorem pg_tup {es:List Expr} {k:Nat} {t:TGs} {n:Nat} (hc:X.calm=true) (h:PGs X es t)
    (hn:(assignEach es X.env).length=n:=by rfl) (hst:(assignEach es X.env).findIdx? (·.1)=none:=by rfl):PG X (.Tuple es k pos) (gTup X.K n t):=by
  intro pins s σ H v u Q I r hw
  obtain⟨a,xs,e1,hq,hl,hw⟩:=hw
  subst e1
  cases r
  obtain⟨its,rv,ht,hz⟩:=I.tuple hq
  refine assign_Tuple_tuple (I.ok.hd hc) ht (by simp [hn,←hl,rv.length]) hst fun h' hx=>?_
  have I1:Inv X pins σ H { s with heap:=h' }:=I.kept (t':=s.toks) fun b o e=>hx b o (Nat.ne_of_lt (Heap.lt_size e)) e
  exact h pins _ σ H xs _ Q I1 (by simpa using rv) hw
def tAsg (te:TE) (g:TG):TS:=fun D σ H=>te σ H fun x H1=>g x σ H1 D.nx
theorem zah {i:Nat} {x:Str} {e:Expr} {te:TE} {pos':Pos} (hN:X.N.Nodup) (hi:X.N[i]?=some x) (hx:Loc X.env.scope x) (he:PE X e te) (hs:swapsWith e (some (.Name x pos')) pos.line X.env=pure false:=by rfl) (hf:X.fn x=true∨X.env.scope.names.lookup x=some .local:=by first | exact .inl rfl | exact .inr rfl | assumption) :
    PS X (.Assign [.Name x pos'] e pos) (tAsg te (zcp i)):=by
  intro pins s σ H D I h
  refine wpAny_Assign_Name (thn (he pins s σ H _ I h) fun v s1 ⟨y,H1,I1,r1,q1⟩=>?_) hs
  exact zfy I1 hN hi hx r1 (fun s2 I2=>⟨_,H1,I2,q1⟩) hf
end
section
variable {X:Cx} {pos:Pos}
def tWhile (c:TT) (tb:TS):TS:=fun D σ H=>∃ W:Nat→St→Hp→Prop,(∃ m,W m σ H)∧∀ m σ H,W m σ H →
  c σ H fun b H1=>if b=true then ∃ N:St→Hp→Prop,(∀ σ' H',N σ' H'→∃ m',m' < m∧W m' σ' H')∧tb { D with nx:=N,ct:=N,bk:=D.nx } σ H1 else D.nx σ H1
theorem zfJ {c:Expr} {body:List Stmt} {tc:TT} {tb:TS} (hp:PassesOwn (model X.prog X.w) X.A X.env X.xe) (hc:PT X c tc) (hb:PSs X body tb):PS X (.While c body [] pos) (tWhile tc tb):=by
  intro pins s σ H D I h
  obtain⟨W,⟨m0,w0⟩,turn⟩:=h
  refine wpAny_While (codeAny_whileLoop (fun n s'=>∃ σ' H',Inv X pins σ' H' s'∧W n σ' H') ?_ m0 ⟨σ,H,I,w0⟩)
  rintro n s1 ⟨σ1,H1,I1,w1⟩
  refine wpAny_passesOwn hp (thn (hc pins s1 σ1 H1 _ I1 (turn n σ1 H1 w1)) fun b s2 ⟨H2,I2,q2⟩=>?_)
  cases b with
  | true =>
    obtain⟨N,hN,q2⟩:=q2
    rw[if_pos rfl]
    refine wpAny_passesOwn hp (thn (hb pins s2 σ1 H2 _ I2 q2) fun f s3 q3=>?_)
    cases f with
    | next =>
      obtain⟨σ3,H3,I3,n3⟩:=q3
      obtain⟨m',hm,w3⟩:=hN σ3 H3 n3
      exact⟨m',hm,σ3,H3,I3,w3⟩
    | cont =>
      obtain⟨σ3,H3,I3,n3⟩:=q3
      obtain⟨m',hm,w3⟩:=hN σ3 H3 n3
      exact⟨m',hm,σ3,H3,I3,w3⟩
    | brk=>exact q3
    | ret v=>exact q3
  | false =>
    rw[if_neg Bool.false_ne_true]
    exact wpAny_execs_nil ⟨σ1,H2,I2,q2⟩
end
structure It where
  go:Nat→Hp→Prop
  yld:Nat→Hp→V→Hp→Prop
  stop:Nat→Hp→Prop
def zbS (X:Cx) (pins:List (Addr × Obj)) (H:Hp) (b:Addr):Prop :=
  H b=none∧b≠X.env.locals∧b∉X.fs∧(b∈X.ex∨X.s₀.heap.objs.size≤b)∧(∀ x c,X.env.cells.lookup x=some c→c≠b)∧∀ p∈X.pn++pins,p.1≠b
theorem Inv.fpOk {X:Cx} {pins:List (Addr × Obj)} {σ:St} {H H':Hp} {s:Shared} {b:Addr} (I:Inv X pins σ H s) (hb:s.heap.objs.size≤b) (hn:H' b=none):zbS X pins H' b:=by
  refine⟨hn,Nat.ne_of_gt (Nat.lt_of_lt_of_le I.lt hb),I.nofs hb,.inr (Nat.le_trans I.sz hb),fun x c e z=>?_,fun p hp z=>?_⟩
  · obtain⟨v,q⟩:=I.cell x c e
    exact absurd (Nat.lt_of_lt_of_le q.lt (by rw[z];exact hb)) (Nat.lt_irrefl _)
  · exact absurd (Nat.lt_of_lt_of_le (Heap.lt_size (I.pin p hp).1) (by rw[z];exact hb)) (Nat.lt_irrefl _)
structure Turn (P:Program) (w:World) (K:PySem.W.Frag) (tg:Expr) (J:It) (fp:List Addr) (it:Addr) (tn:Nat→Heap→Prop):Prop where
  mem:it∈fp
  obj:∀ i h,tn i h→∀ b∈fp,∃ o,h.get? b=some o∧∀ v,o.data≠.cell v
  keep:∀ i h h',tn i h→(∀ b∈fp,∀ o,h.get? b=some o→h'.get? b=some o)→tn i h'
  item:∀(X:Cx),X.prog=P→X.w=w→X.K=K→X.calm=true→∀(i:Nat) (pins:List (Addr × Obj)) (s:Shared) (σ:St) (H:Hp) (E:Value→Shared→Prop),Inv X pins σ H s→(∀ b∈fp,zbS X pins H b)→tn i s.heap→J.go i H →
    wpAny (model P w) X.A (pyNext (.ref it)) (fun r s1=>∃ u,r=some u ∧
      wpAny (model P w) X.A (letOwnedTupleGo tg (.ref it) u) (fun _ s2=>∃ x H',Inv X pins σ H' s2∧zak x u∧J.yld i H x H'∧tn (i+1) s2.heap∧∀ b∈fp,H' b=none) E s1) E s
  done:∀(X:Cx),X.prog=P→X.w=w→X.K=K→X.calm=true→∀(i:Nat) (pins:List (Addr × Obj)) (s:Shared) (σ:St) (H:Hp) (E:Value→Shared→Prop),Inv X pins σ H s→(∀ b∈fp,zbS X pins H b)→tn i s.heap→J.stop i H →
    wpAny (model P w) X.A (pyNext (.ref it)) (fun r s1=>r=none∧Inv X pins σ H s1) E s
  self:∀(A:Around) (i:Nat) (s:Shared) (Q:Value→Shared→Prop) (E:Value→Shared→Prop),tn i s.heap→Q (.ref it) s→wpAny (model P w) A (pyIter (.ref it)) Q E s
abbrev TI:=St→Hp→(It→Hp→Prop)→Prop
def PIE (X:Cx) (pins:List (Addr × Obj)) (σ:St) (tg:Expr) (R:It→Hp→Prop) (itv:Value) (s2:Shared):Prop :=
  ∃(it:Addr) (fp:List Addr) (tn:Nat→Heap→Prop) (J:It) (H':Hp),itv=.ref it∧Inv X pins σ H' s2∧Turn X.prog X.w X.K tg J fp it tn∧tn 0 s2.heap∧(∀ b∈fp,zbS X pins H' b)∧R J H'
def PI (X:Cx) (tg iter:Expr) (wi:TI):Prop :=
  ∀(pins:List (Addr × Obj)) (s:Shared) (σ:St) (H:Hp) (R:It→Hp→Prop),Inv X pins σ H s→wi σ H R →
    wpAny (model X.prog X.w) X.A (eval iter X.env) (fun v s1=>wpAny (model X.prog X.w) X.A (pyIter v) (PIE X pins σ tg R) X.xe s1) X.xe s
theorem zed {M:Model} {A:Around} {E:Value→Shared→Prop} {s:Shared} {tg:Expr} {it:Addr} {u:Value} {o:Obj} {n:String} {vs:Array Value} {Q:Unit→Shared→Prop} (ho:s.heap.get? it=some o) (hc:o.cls=.type n) (hd:o.data=.fields vs)
    (hn:["enumerate","zip","dict_itemiterator","dict_reverseitemiterator","odict_iterator","itertools.zip_longest","itertools.pairwise"].contains n=false) (hQ:Q () s):wpAny M A (letOwnedTupleGo tg (.ref it) u) Q E s:=by
  unfold letOwnedTupleGo
  cases tg <;> first
    | exact wpAny_pure hQ
    | (cases u <;> first
        | exact wpAny_pure hQ
        | (refine wpAny_bind (wpAny_load ho ?_)
           rw[hc,hd]
           show wpAny M A (if(["enumerate","zip","dict_itemiterator","dict_reverseitemiterator","odict_iterator","itertools.zip_longest","itertools.pairwise"].contains n&&vs[0]? == some (rawInt _))=true then _ else _) Q E s
           rw[if_neg (by intro h;rw[hn,Bool.false_and]at h;cases h)]
           exact wpAny_pure hQ))
def Itl (K:PySem.W.Frag) (a:Addr):It :=
  ⟨fun i H=>∃ xs x,SqL K H a xs∧xs[i]?=some x,fun i H x H'=>H'=H∧∀ xs,SqL K H a xs→xs[i]?=some x,fun i H=>∃ xs,SqL K H a xs∧xs.length≤i⟩
def Itt (K:PySem.W.Frag) (a:Addr):It :=
  ⟨fun i H=>∃ xs x,SqT K H a xs∧xs[i]?=some x,fun i H x H'=>H'=H∧∀ xs,SqT K H a xs→xs[i]?=some x,fun i H=>∃ xs,SqT K H a xs∧xs.length≤i⟩
def Itr (lo:Int) (n:Nat):It:=⟨fun i _=>i < n,fun i H x H'=>H'=H∧x=.int (lo+i),fun i _=>n≤i⟩
theorem zhx {P:Program} {w:World} {K:PySem.W.Frag} {tg:Expr} (a it:Addr):Turn P w K tg (Itl K a) [it] it (fun i h=>h.IsListIter it a i) where
  mem:=by simp
  obj:=fun i h st b hb=>by
    have e:b=it:=by simpa using hb
    subst e
    obtain⟨o,e,c,d⟩:=st
    exact⟨o,e,fun v z=>by rw[d]at z;cases z⟩
  keep:=fun i h h' st k=>st.at fun o e=>k it (by simp) o e
  item:=by
    intro X hP hw hK hc i pins s σ H E I hf st hg
    subst hP hw hK
    obtain⟨xs,x,hq,hx⟩:=hg
    obtain⟨its,rv,p,hz⟩:=I.list hq
    obtain⟨u,hu,ru⟩:=rv.get hx
    obtain⟨f0,f1,f2,f3,f4,f5⟩:=hf it (by simp)
    refine wpAny_pyNext_list_item st p.isList (x:=u) (by simpa using hu) fun h' st' sb=>?_
    have I1:Inv X pins σ H { s with heap:=h' }:=I.turned (t':=s.toks) (fun b o hb e=>(sb.2 b hb).trans e) f0 f1 f3 f4 f5
    obtain⟨o,e,c,d⟩:=id st'
    exact⟨u,rfl,zed (s:={ s with heap:=h' }) e c d (by decide) ⟨x,H,I1,ru,⟨rfl,fun ys hy=>by rw[I.list_inj hy hq];exact hx⟩,st',fun b hb=>(hf b hb).1⟩⟩
  done:=by
    intro X hP hw hK hc i pins s σ H E I hf st hg
    subst hP hw hK
    obtain⟨xs,hq,hx⟩:=hg
    obtain⟨its,rv,p,hz⟩:=I.list hq
    obtain⟨f0,f1,f2,f3,f4,f5⟩:=hf it (by simp)
    have hl:=rv.length
    exact wpAny_pyNext_list_end (I.ok.hd hc) st p.isList (by simp;omega) fun h' eb=>⟨rfl,I.turned (t':=s.toks) (fun b o hb e=>eb b o hb e) f0 f1 f3 f4 f5⟩
  self:=fun _ _ _ _ _ st h=>wpAny_pyIter_listiter st h
theorem zgO {P:Program} {w:World} {K:PySem.W.Frag} {tg:Expr} (a it:Addr):Turn P w K tg (Itt K a) [it] it (fun i h=>h.IsTupleIter it a i) where
  mem:=by simp
  obj:=fun i h st b hb=>by
    have e:b=it:=by simpa using hb
    subst e
    obtain⟨o,e,c,d⟩:=st
    exact⟨o,e,fun v z=>by rw[d]at z;cases z⟩
  keep:=fun i h h' st k=>st.at fun o e=>k it (by simp) o e
  item:=by
    intro X hP hw hK hc i pins s σ H E I hf st hg
    subst hP hw hK
    obtain⟨xs,x,hq,hx⟩:=hg
    obtain⟨its,rv,p,hz⟩:=I.tuple hq
    obtain⟨u,hu,ru⟩:=rv.get hx
    obtain⟨f0,f1,f2,f3,f4,f5⟩:=hf it (by simp)
    refine wpAny_pyNext_tuple_item st (show s.heap.IsTuple a its.toArray from p) (x:=u) (by simpa using hu) fun h' st' sb=>?_
    have I1:Inv X pins σ H { s with heap:=h' }:=I.turned (t':=s.toks) (fun b o hb e=>(sb.2 b hb).trans e) f0 f1 f3 f4 f5
    obtain⟨o,e,c,d⟩:=id st'
    exact⟨u,rfl,zed (s:={ s with heap:=h' }) e c d (by decide) ⟨x,H,I1,ru,⟨rfl,fun ys hy=>by rw[I.tuple_inj hy hq];exact hx⟩,st',fun b hb=>(hf b hb).1⟩⟩
  done:=by
    intro X hP hw hK hc i pins s σ H E I hf st hg
    subst hP hw hK
    obtain⟨xs,hq,hx⟩:=hg
    obtain⟨its,rv,p,hz⟩:=I.tuple hq
    obtain⟨f0,f1,f2,f3,f4,f5⟩:=hf it (by simp)
    have hl:=rv.length
    exact wpAny_pyNext_tuple_end (I.ok.hd hc) st (show s.heap.IsTuple a its.toArray from p) (by simp;omega) fun h' eb=>⟨rfl,I.turned (t':=s.toks) (fun b o hb e=>eb b o hb e) f0 f1 f3 f4 f5⟩
  self:=fun _ _ _ _ _ st h=>wpAny_pyIter_tupleiter st h
theorem zgP {P:Program} {w:World} {K:PySem.W.Frag} {tg:Expr} (it:Addr) (lo:Int) (n:Nat):Turn P w K tg (Itr lo n) [it] it (fun i h=>IsRangeIter h it (lo+(i:Nat) * 1) ((n:Int) - (i:Nat)) 1) where
  mem:=by simp
  obj:=fun i h st b hb=>by
    have e:b=it:=by simpa using hb
    subst e
    exact⟨_,st,fun v z=>by
      have z':Data.fields _=Data.cell v:=z
      cases z'⟩
  keep:=fun i h h' st k=>k it (by simp) _ st
  item:=by
    intro X hP hw hK hc i pins s σ H E I hf st hg
    subst hP hw hK
    obtain⟨f0,f1,f2,f3,f4,f5⟩:=hf it (by simp)
    have W:=Walks.range (prog:=X.prog) (w:=X.w) (I.ok.hd hc) it lo 1 n
    refine W.item i s _ _ hg st fun v h' tk hv st' kk=>?_
    obtain⟨t,rfl⟩:=hv
    have I1:Inv X pins σ H { s with heap:=h',toks:=tk }:=I.turned (fun b o hb e=>kk b o (by simpa using hb) e) f0 f1 f3 f4 f5
    refine⟨_,rfl,zed (s:={ s with heap:=h',toks:=tk }) (n:="range_iterator") st' rfl rfl (by decide) ⟨.int (lo+i),H,I1,⟨t,?_⟩,⟨rfl,rfl⟩,st',fun b hb=>(hf b hb).1⟩⟩
    rw[Int.mul_one]
  done:=by
    intro X hP hw hK hc i pins s σ H E I hf st hg
    subst hP hw hK
    obtain⟨f0,f1,f2,f3,f4,f5⟩:=hf it (by simp)
    exact wpAny_pyNext_range_end (I.ok.hd hc) st (by have:n≤i:=hg;omega) fun h' eb=>⟨rfl,I.turned (t':=s.toks) (fun b o hb e=>eb b o hb e) f0 f1 f3 f4 f5⟩
  self:=fun _ _ _ _ _ st h=>wpAny_pyIter_rangeiter st h
end L2
namespace L2
open PySem PySem.Spec PyProof.Rows
section
variable {X:Cx} {tg:Expr}
def zec (K:PySem.W.Frag) (tl:TE):TI:=fun σ H R=>tl σ H fun x H1=>∃ a,x=.ref a∧(∃ xs,SqL K H1 a xs)∧R (Itl K a) H1
def iTup (K:PySem.W.Frag) (tl:TE):TI:=fun σ H R=>tl σ H fun x H1=>∃ a,x=.ref a∧(∃ xs,SqT K H1 a xs)∧R (Itt K a) H1
theorem za6 {l:Expr} {tl:TE} (hl:PE X l tl):PI X tg l (zec X.K tl):=by
  intro pins s σ H R I h
  refine thn (hl pins s σ H _ I h) fun v s1 ⟨x,H1,I1,r1,q1⟩=>?_
  obtain⟨a,e,⟨xs,hq⟩,q⟩:=q1
  subst e
  cases r1
  obtain⟨its,rv,p,hz⟩:=I1.list hq
  refine wpAny_pyIter_list p.isList ?_
  refine⟨s1.heap.objs.size,[s1.heap.objs.size],_,_,H1,rfl,I1.kept (t':=s1.toks) fun b o e=>Heap.get?_push_of_some _ e,zhx a _,⟨_,Heap.get?_push_size _ rfl,rfl,rfl⟩,fun b hb=>?_,q⟩
  have e:b=s1.heap.objs.size:=by simpa using hb
  subst e
  exact I1.fpOk (Nat.le_refl _) (I1.hok.fresh (Nat.le_refl _))
theorem zcA {l:Expr} {tl:TE} (hl:PE X l tl):PI X tg l (iTup X.K tl):=by
  intro pins s σ H R I h
  refine thn (hl pins s σ H _ I h) fun v s1 ⟨x,H1,I1,r1,q1⟩=>?_
  obtain⟨a,e,⟨xs,hq⟩,q⟩:=q1
  subst e
  cases r1
  obtain⟨its,rv,p,hz⟩:=I1.tuple hq
  refine wpAny_pyIter_tuple (show s1.heap.IsTuple a its.toArray from p) ?_
  refine⟨s1.heap.objs.size,[s1.heap.objs.size],_,_,H1,rfl,I1.kept (t':=s1.toks) fun b o e=>Heap.get?_push_of_some _ e,zgO a _,⟨_,Heap.get?_push_size _ rfl,rfl,rfl⟩,fun b hb=>?_,q⟩
  have e:b=s1.heap.objs.size:=by simpa using hb
  subst e
  exact I1.fpOk (Nat.le_refl _) (I1.hok.fresh (Nat.le_refl _))
theorem zh8 {pins:List (Addr × Obj)} {σ:St} {H:Hp} {s:Shared} {R:It→Hp→Prop} {E:Value→Shared→Prop} {lo hi:Int} {t u v:Tok} {tk:Nat} (I:Inv X pins σ H s) (h1:-(2 ^ 62)≤lo) (h2:lo < 2 ^ 62) (h3:-(2 ^ 62)≤hi) (h4:hi < 2 ^ 62)
    (q:R (Itr lo (hi - lo).toNat) H):wpAny (model X.prog X.w) X.A (pyIter (.ref s.heap.objs.size)) (PIE X pins σ tg R) E { s with heap:=s.heap.push { cls:=.type "range",data:=.fields #[.int lo t,.int hi u,.int 1 v] },toks:=tk }:=by
  refine wpAny_pyIter_range (IsRange.new ..) (small_one h1 h2 h3 h4) ?_
  have I1:Inv X pins σ H { s with heap:=s.heap.push { cls:=.type "range",data:=.fields #[.int lo t,.int hi u,.int 1 v] },toks:=tk }:=I.kept fun b o e=>Heap.get?_push_of_some _ e
  refine⟨(s.heap.push { cls:=.type "range",data:=.fields #[.int lo t,.int hi u,.int 1 v] }).objs.size,[(s.heap.push { cls:=.type "range",data:=.fields #[.int lo t,.int hi u,.int 1 v] }).objs.size],_,_,H,rfl,
    I1.kept (t':=tk) fun b o e=>Heap.get?_push_of_some _ e,zgP _ lo (hi - lo).toNat,?_,fun b hb=>?_,q⟩
  · have e1:lo+((0:Nat):Int) * 1=lo:=by simp
    have e2:(((hi - lo).toNat:Nat):Int) - ((0:Nat):Int)=Builtin.Range.rangeSize lo hi 1:=by rw[rangeSize_one];split <;> omega
    show IsRangeIter _ _ (lo+((0:Nat):Int) * 1) ((((hi - lo).toNat:Nat):Int) - ((0:Nat):Int)) 1
    rw[e1,e2]
    exact Heap.get?_push_size _ rfl
  · have e:b=(s.heap.push { cls:=.type "range",data:=.fields #[.int lo t,.int hi u,.int 1 v] }).objs.size:=by simpa using hb
    subst e
    exact I1.fpOk (Nat.le_refl _) (I1.hok.fresh (Nat.le_refl _))
def iRng1 (ta:TA):TI:=fun σ H R=>ta σ H fun vs H1=>∃ j:Int,vs=[.int j]∧-(2 ^ 62)≤j∧j < 2 ^ 62∧R (Itr 0 j.toNat) H1
theorem zbj {a:Expr} {ta:TA} {p pos:Pos} (hg:Gl X "range") (hm:X.mg "range"=none) (ha:PA X [a] ta) (hs:starEach [a] X.env=[(false,eval a X.env)]:=by rfl):PI X tg (.Call (.Name "range" p) [a] [] pos) (iRng1 ta):=by
  intro pins s σ H R I h
  refine Call_ (zc0 I hg hm boot_range (PyProof.Rows.callWith_type1 (thn (ha pos pins s σ H _ I h) fun us s1 ⟨vs,H1,I1,r1,q1⟩=>?_) hs rfl))
  obtain⟨j,e,q1,q2,q⟩:=q1
  subst e
  cases r1 with
  | cons r rr =>
    cases rr
    obtain⟨t,rfl⟩:=r
    exact call_range_1 (zh8 I1 (by omega) (by omega) q1 q2 (by simpa using q))
def tFor (wi:TI) (g:TG) (tb:TS):TS:=fun D σ H=>wi σ H fun J H1=>∃ W:Nat→Nat→St→Hp→Prop,(∃ m,W 0 m σ H1)∧∀ i m σ H,W i m σ H →
  (J.stop i H∧D.nx σ H)∨(J.go i H∧∃ N:St→Hp→Prop,(∀ σ' H',N σ' H'→∃ m',m' < m∧W (i+1) m' σ' H')∧∀ x H',J.yld i H x H'→g x σ H' fun σ2 H2=>tb { D with nx:=N,ct:=N,bk:=D.nx } σ2 H2)
def zek (fp:List Addr) (h:Heap):List (Addr × Obj):=fp.filterMap fun b=>(h.get? b).map fun o=>(b,o)
theorem zbH {fp:List Addr} {h:Heap} {b:Addr} {o:Obj} (hb:b∈fp) (e:h.get? b=some o):(b,o)∈zek fp h:=List.mem_filterMap.mpr ⟨b,hb,by rw[e];rfl⟩
theorem zhG {fp:List Addr} {h:Heap} {p:Addr × Obj} (hp:p∈zek fp h):p.1∈fp∧h.get? p.1=some p.2:=by
  obtain⟨b,hb,e⟩:=List.mem_filterMap.mp hp
  cases q:h.get? b with
  | none=>rw[q]at e;cases e
  | some o =>
    rw[q]at e
    have e':(b,o)=p:=Option.some.inj e
    subst e'
    exact⟨hb,q⟩
theorem Inv.pinned {pins:List (Addr × Obj)} {σ:St} {H:Hp} {s:Shared} {fp:List Addr} (I:Inv X pins σ H s) (hf:∀ b∈fp,zbS X pins H b) (ho:∀ b∈fp,∃ o,s.heap.get? b=some o∧∀ v,o.data≠.cell v):Inv X (pins++zek fp s.heap) σ H s :=
  I.pins_of fun p hp=>(List.mem_append.mp hp).elim (fun z=>I.pin p (List.mem_append_right _ z)) fun z=>by
    obtain⟨hb,e⟩:=zhG z
    obtain⟨f0,f1,f2,_⟩:=hf p.1 hb
    obtain⟨o,e',d⟩:=ho p.1 hb
    rw[e]at e';cases e'
    exact⟨e,f0,f1,f2,d⟩
theorem Inv.unpinned {pins pl:List (Addr × Obj)} {σ:St} {H:Hp} {s:Shared} (I:Inv X (pins++pl) σ H s):Inv X pins σ H s:=I.pins_of fun p hp=>I.pin p (List.mem_append_right _ (List.mem_append_left _ hp))
theorem zaY {iter:Expr} {body:List Stmt} {wi:TI} {g:TG} {tb:TS} {pos:Pos} (hp:PassesOwn (model X.prog X.w) X.A X.env X.xe) (hc:X.calm=true) (hi:PI X tg iter wi) (hg:PG X tg g) (hb:PSs X body tb)
    (hs:∀ x,foldedSetIterable iter X.env x=pure x:=by intro _;rfl):PS X (.For tg iter body [] pos) (tFor wi g tb):=by
  intro pins s σ H D I h
  refine wpAny_For (thn (hi pins s σ H _ I h) fun v s1 h1=>thn h1 fun itv s2 h2=>?_) hs
  obtain⟨it,fp,tn,J,H2,e,I2,T,st2,f2,W,⟨m0,w0⟩,turn⟩:=h2
  subst e
  have stat:∀ {H':Hp},(∀ b∈fp,H' b=none)→∀ b∈fp,zbS X pins H' b:=fun hn b hb=>⟨hn b hb,(f2 b hb).2⟩
  refine codeAny_forLoop_any (fun n s'=>∃ i σ' H',Inv X pins σ' H' s'∧tn i s'.heap∧(∀ b∈fp,H' b=none)∧W i n σ' H') ?_ m0 ⟨0,σ,H2,I2,st2,fun b hb=>(f2 b hb).1,w0⟩
  rintro n s3 ⟨i,σ3,H3,I3,st3,fr3,w3⟩
  rcases turn i n σ3 H3 w3 with ⟨stop,qn⟩ | ⟨go,N,hN,step⟩
  · refine wpAny_passesOwn hp (thn (T.done X rfl rfl rfl hc i pins s3 σ3 H3 X.xe I3 (stat fr3) st3 stop) fun r s4 ⟨hr,I4⟩=>?_)
    subst hr
    exact wpAny_execs_nil ⟨σ3,H3,I4,qn⟩
  · refine wpAny_passesOwn hp (thn (T.item X rfl rfl rfl hc i pins s3 σ3 H3 X.xe I3 (stat fr3) st3 go) fun r s4 ⟨u,hr,h4⟩=>?_)
    subst hr
    refine wpAny_passesOwn hp (thn h4 fun _ s5 ⟨x,H5,I5,r5,y5,st5,fr5⟩=>?_)
    have I5':=I5.pinned (stat fr5) (T.obj _ _ st5)
    refine wpAny_passesOwn hp (thn (hg _ s5 σ3 H5 x u _ I5' r5 (step x H5 y5)) fun _ s6 ⟨σ6,H6,I6,q6⟩=>?_)
    refine wpAny_passesOwn hp (thn (hb _ s6 σ6 H6 _ I6 q6) fun f s7 q7=>?_)
    have again:∀ {σ7:St} {H7:Hp},Inv X (pins++zek fp s5.heap) σ7 H7 s7→N σ7 H7→∃ m,m < n∧∃ i σ' H',Inv X pins σ' H' s7∧tn i s7.heap∧(∀ b∈fp,H' b=none)∧W i m σ' H':=fun {σ7 H7} I7 n7=>by
      obtain⟨m',hm,w7⟩:=hN σ7 H7 n7
      refine⟨m',hm,i+1,σ7,H7,I7.unpinned,T.keep _ _ _ st5 fun b hb o e=>(I7.pin (b,o) (List.mem_append_right _ (List.mem_append_right _ (zbH hb e)))).1,fun b hb=>?_,w7⟩
      obtain⟨o,e,d⟩:=T.obj _ _ st5 b hb
      exact(I7.pin (b,o) (List.mem_append_right _ (List.mem_append_right _ (zbH hb e)))).2.1
    cases f with
    | next=>obtain⟨σ7,H7,I7,n7⟩:=q7;exact again I7 n7
    | cont=>obtain⟨σ7,H7,I7,n7⟩:=q7;exact again I7 n7
    | brk=>obtain⟨σ7,H7,I7,q7⟩:=q7;exact⟨σ7,H7,I7.unpinned,q7⟩
    | ret v=>obtain⟨x7,σ7,H7,I7,r7,q7⟩:=q7;exact⟨x7,σ7,H7,I7.unpinned,r7,q7⟩
end
theorem zby {lo:Int} {n:Nat} {g:TG} {tb:TS} {D:zba} {σ:St} {H:Hp} (Pv:Nat→St→Hp→Prop) (h0:Pv 0 σ H)
    (hs:∀ i σ H,i < n→Pv i σ H→g (.int (lo+i)) σ H fun σ2 H2=>tb { D with nx:=Pv (i+1),ct:=Pv (i+1),bk:=D.nx } σ2 H2) (hd:∀ σ H,Pv n σ H→D.nx σ H) :
    ∃ W:Nat→Nat→St→Hp→Prop,(∃ m,W 0 m σ H)∧∀ i m σ H,W i m σ H →
      ((Itr lo n).stop i H∧D.nx σ H)∨((Itr lo n).go i H∧∃ N:St→Hp→Prop,(∀ σ' H',N σ' H'→∃ m',m' < m∧W (i+1) m' σ' H')∧∀ x H',(Itr lo n).yld i H x H'→g x σ H' fun σ2 H2=>tb { D with nx:=N,ct:=N,bk:=D.nx } σ2 H2):=by
  refine⟨fun i m σ H=>m=n - i∧i≤n∧Pv i σ H,⟨n,by simp,Nat.zero_le _,h0⟩,?_⟩
  rintro i m σ H ⟨rfl,hi,p⟩
  by_cases hlt:i < n
  · refine .inr ⟨hlt,Pv (i+1),fun σ' H' p'=>⟨n - (i+1),by omega,rfl,hlt,p'⟩,fun x H' y=>?_⟩
    obtain⟨e,y⟩:=y
    subst e y
    exact hs i σ _ hlt p
  · have e:i=n:=by omega
    subst e
    exact .inl ⟨Nat.le_refl _,hd σ H p⟩
end L2
namespace L2
open PySem PySem.Spec PyProof.Rows
abbrev R2:=V→V→Hp→VK→Prop
def OpR (X:Cx) (f:Value→Value→Sem Value) (r:R2):Prop :=
  ∀(pins:List (Addr × Obj)) (s:Shared) (σ:St) (H:Hp) (x y:V) (v u:Value) (Q:VK),Inv X pins σ H s→zak x v→zak y u→r x y H Q →
    wpAny (model X.prog X.w) X.A (f v u) (EP X pins σ Q) X.xe s
def UnR (X:Cx) (f:Value→Sem Value) (r:V→Hp→VK→Prop):Prop :=
  ∀(pins:List (Addr × Obj)) (s:Shared) (σ:St) (H:Hp) (x:V) (v:Value) (Q:VK),Inv X pins σ H s→zak x v→r x H Q →
    wpAny (model X.prog X.w) X.A (f v) (EP X pins σ Q) X.xe s
def zbs (X:Cx) (f:Value) (r:List V→Hp→VK→Prop):Prop :=
  ∀(pins:List (Addr × Obj)) (s:Shared) (σ:St) (H:Hp) (xs:List V) (us:List Value) (Q:VK),Inv X pins σ H s→au xs us→r xs H Q →
    wpAny (model X.prog X.w) X.A (call f us) (EP X pins σ Q) X.xe s
def tOp (r:R2) (ta tb:TE):TE:=fun σ H Q=>ta σ H fun x H1=>tb σ H1 fun y H2=>r x y H2 Q
def tUn (r:V→Hp→VK→Prop) (ta:TE):TE:=fun σ H Q=>ta σ H fun x H1=>r x H1 Q
def rI (C:Int→Int→Prop) (g:Int→Int→V):R2:=fun x y H Q=>∃ i j,x=.int i∧y=.int j∧C i j∧Q (g i j) H
def rI0 (g:Int→Int→V):R2:=fun x y H Q=>∃ i j,x=.int i∧y=.int j∧Q (g i j) H
def rU (g:Int→V):V→Hp→VK→Prop:=fun x H Q=>∃ i,x=.int i∧Q (g i) H
section
variable {X:Cx} {a b c:Expr} {ta tb tc:TE} {pos:Pos}
theorem binT (ha:PE X a ta) (hb:PE X b tb) {pins:List (Addr × Obj)} {s:Shared} {σ:St} {H:Hp} {R:V→V→Hp→Prop} (I:Inv X pins σ H s)
    (h:ta σ H fun x H1=>tb σ H1 fun y H2=>R x y H2) {Q:Value→Shared→Prop} {f:Value→Value→Sem Value}
    (hf:∀ v u s2 x y H2,Inv X pins σ H2 s2→zak x v→zak y u→R x y H2→wpAny (model X.prog X.w) X.A (f v u) Q X.xe s2) :
    wpAny (model X.prog X.w) X.A (eval a X.env) (fun v s₁=>wpAny (model X.prog X.w) X.A (eval b X.env) (fun u s₂=>wpAny (model X.prog X.w) X.A (f v u) Q X.xe s₂) X.xe s₁) X.xe s:=by
  refine thn (ha pins s σ H _ I h) fun v s1 ⟨x,H1,I1,r1,q1⟩=>?_
  refine thn (hb pins s1 σ H1 _ I1 q1) fun u s2 ⟨y,H2,I2,r2,q2⟩=>?_
  exact hf v u s2 x y H2 I2 r1 r2 q2
theorem am {op:Operator} {r:R2} (ho:OpR X (binaryOp op) r) (ha:PE X a ta) (hb:PE X b tb):PE X (.BinOp a op b pos) (tOp r ta tb):=by
  intro pins s σ H Q I h
  exact wpAny_BinOp (binT ha hb I h fun v u s2 x y H2 I2 rx ry q=>ho pins s2 σ H2 x y v u Q I2 rx ry q)
theorem zdH {op:UnaryOp} {r:V→Hp→VK→Prop} (ho:UnR X (unaryOp op) r) (ha:PE X a ta):PE X (.UnaryOp op a pos) (tUn r ta):=by
  intro pins s σ H Q I h
  exact UnaryOp_ (thn (ha pins s σ H _ I h) fun v s1 ⟨x,H1,I1,r1,q1⟩=>ho pins s1 σ H1 x v Q I1 r1 q1)
theorem opI {f:Value→Value→Sem Value} {C:Int→Int→Prop} {g:Int→Int→Int}
    (rule:∀(i j:Int) (t u:Tok) (s:Shared) (Q:Value→Shared→Prop) (E:Value→Shared→Prop),C i j→Q (.int (g i j) s.toks) { s with toks:=s.toks+1 }→wpAny (model X.prog X.w) X.A (f (.int i t) (.int j u)) Q E s) :
    OpR X f (rI C fun i j=>.int (g i j)):=by
  intro pins s σ H x y v u Q I rx ry h
  obtain⟨i,j,rfl,rfl,hc,q⟩:=h
  obtain⟨t,rfl⟩:=rx
  obtain⟨t',rfl⟩:=ry
  exact rule i j t t' s _ _ hc ⟨.int (g i j),H,I.tok _,⟨_,rfl⟩,q⟩
theorem opI0 {f:Value→Value→Sem Value} {g:Int→Int→Int}
    (rule:∀(i j:Int) (t u:Tok) (s:Shared) (Q:Value→Shared→Prop) (E:Value→Shared→Prop),Q (.int (g i j) s.toks) { s with toks:=s.toks+1 }→wpAny (model X.prog X.w) X.A (f (.int i t) (.int j u)) Q E s) :
    OpR X f (rI0 fun i j=>.int (g i j)):=by
  intro pins s σ H x y v u Q I rx ry h
  obtain⟨i,j,rfl,rfl,q⟩:=h
  obtain⟨t,rfl⟩:=rx
  obtain⟨t',rfl⟩:=ry
  exact rule i j t t' s _ _ ⟨.int (g i j),H,I.tok _,⟨_,rfl⟩,q⟩
theorem opB0 {f:Value→Value→Sem Value} {g:Int→Int→Bool}
    (rule:∀(i j:Int) (t u:Tok) (s:Shared) (Q:Value→Shared→Prop) (E:Value→Shared→Prop),Q (.bool (g i j)) s→wpAny (model X.prog X.w) X.A (f (.int i t) (.int j u)) Q E s) :
    OpR X f (rI0 fun i j=>.bl (g i j)):=by
  intro pins s σ H x y v u Q I rx ry h
  obtain⟨i,j,rfl,rfl,q⟩:=h
  obtain⟨t,rfl⟩:=rx
  obtain⟨t',rfl⟩:=ry
  exact rule i j t t' s _ _ ⟨.bl (g i j),H,I,rfl,q⟩
def CDiv (i j:Int):Prop:=0 < j∧j < 1073741824
def CMul (i j:Int):Prop:=(-(2 ^ 64) < i∧i < 2 ^ 64)∨(-(2 ^ 64) < j∧j < 2 ^ 64)
theorem CMul.ok {i j:Int} (h:CMul i j):IntMulOk i j:=by
  rcases h with ⟨h1,h2⟩ | ⟨h1,h2⟩
  · exact .of_left (intBits_le_64 h1 h2)
  · exact .of_right (intBits_le_64 h1 h2)
theorem zbO:OpR X (binaryOp .Add) (rI0 fun i j=>.int (i+j)):=opI0 fun _ _ _ _ _ _ _ q=>add_int q
theorem zds:OpR X (binaryOp .Sub) (rI0 fun i j=>.int (i - j)):=opI0 fun _ _ _ _ _ _ _ q=>sub_int q
theorem zem:OpR X (binaryOp .Mult) (rI CMul fun i j=>.int (i * j)):=opI fun _ _ _ _ _ _ _ hc q=>mul_int q hc.ok
theorem zaT:OpR X (binaryOp .FloorDiv) (rI CDiv fun i j=>.int (i / j)):=opI fun i j _ _ _ _ _ hc q=>by
  have h1:(0:Int) < j:=hc.1
  have h2:j < 1073741824:=hc.2
  exact floordiv_int (by omega) (by rw[Int.fdiv_eq_ediv_of_nonneg i (by omega)];exact q) (.inl (PyProof.noPylong_small (by omega)))
theorem zaq:OpR X (binaryOp .Mod) (rI (fun _ j=>0 < j) fun i j=>.int (i % j)):=opI fun i j _ _ _ _ _ hc q=>by
  have h1:(0:Int) < j:=hc
  exact mod_int' (by omega) (by rw[Int.fmod_eq_emod_of_nonneg i (by omega)];exact q)
theorem unI {f:Value→Sem Value} {g:Int→Int}
    (rule:∀(i:Int) (t:Tok) (s:Shared) (Q:Value→Shared→Prop) (E:Value→Shared→Prop),Q (.int (g i) s.toks) { s with toks:=s.toks+1 }→wpAny (model X.prog X.w) X.A (f (.int i t)) Q E s) :
    UnR X f (rU fun i=>.int (g i)):=by
  intro pins s σ H x v Q I rx h
  obtain⟨i,rfl,q⟩:=h
  obtain⟨t,rfl⟩:=rx
  exact rule i t s _ _ ⟨.int (g i),H,I.tok _,⟨_,rfl⟩,q⟩
theorem zcY:UnR X (unaryOp .USub) (rU fun i=>.int (-i)):=unI fun _ _ _ _ _ q=>neg_int q
end
def scal:V→V→Bool
  | .non,.non=>true | .non,.int _=>true | .int _,.non=>true | .non,.bl _=>true | .bl _,.non=>true | .non,.str _=>true | .str _,.non=>true
  | .int _,.int _=>true | .bl _,.bl _=>true | .str _,.str _=>true | .byt _,.byt _=>true
  | .int _,.str _=>true | .str _,.int _=>true | .bl _,.str _=>true | .str _,.bl _=>true
  | _,_=>false
def rEq:R2:=fun x y H Q=>scal x y=true∧Q (.bl (decide (x=y))) H
def rNe:R2:=fun x y H Q=>scal x y=true∧Q (.bl (!decide (x=y))) H
theorem zgy {i j:Int}:decide (V.int i=V.int j)=(i == j):=by
  rw[Bool.eq_iff_iff]
  simp
theorem zhq {i j:Bool}:decide (V.bl i=V.bl j)=(i == j):=by
  rw[Bool.eq_iff_iff]
  simp
theorem zgx {i j:Str}:decide (V.str i=V.str j)=(i == j):=by
  rw[Bool.eq_iff_iff]
  simp
theorem zgz {i j:Array UInt8}:decide (V.byt i=V.byt j)=(i.toList == j.toList):=by
  rw[Bool.eq_iff_iff]
  cases i
  cases j
  simp
section
variable {X:Cx} {a b c:Expr} {ta tb tc:TE} {pos:Pos}
theorem zar {pins:List (Addr × Obj)} {σ:St} {H:Hp} {s:Shared} {Q:VK} {k k':Bool} (I:Inv X pins σ H s) (q:Q (.bl k) H) (e:k=k'):EP X pins σ Q (.bool k') s:=by
  subst e
  exact⟨.bl k,H,I,rfl,q⟩
theorem zas:OpR X (compareOp .Eq) rEq:=by
  intro pins s σ H x y v u Q I rx ry h
  obtain⟨hs,q⟩:=h
  cases x with
  | non =>
    cases rx
    cases y with
    | non=>cases ry;exact PySem.EqNone.eq_none_none (zar I q (by simp))
    | bl j=>cases ry;exact PySem.EqNone.eq_none_bool (zar I q (by simp))
    | int j=>obtain⟨t',rfl⟩:=ry;exact PySem.EqNone.eq_none_int (zar I q (by simp))
    | str j=>obtain⟨t',rfl⟩:=ry;exact PySem.EqNone.eq_none_str (zar I q (by simp))
    | _=>exact absurd (show false=true from hs) Bool.false_ne_true
  | bl i =>
    cases rx
    cases y with
    | non=>cases ry;exact PySem.EqNone.eq_bool_none (zar I q (by simp))
    | bl j=>cases ry;exact eq_bool (zar I q zhq)
    | str j=>obtain⟨t',rfl⟩:=ry;exact PySem.EqMixed.eq_bool_str (zar I q (by simp))
    | _=>exact absurd (show false=true from hs) Bool.false_ne_true
  | int i =>
    obtain⟨t,rfl⟩:=rx
    cases y with
    | non=>cases ry;exact PySem.EqNone.eq_int_none (zar I q (by simp))
    | int j=>obtain⟨t',rfl⟩:=ry;exact eq_int (zar I q zgy)
    | str j=>obtain⟨t',rfl⟩:=ry;exact PySem.EqMixed.eq_int_str (zar I q (by simp))
    | _=>exact absurd (show false=true from hs) Bool.false_ne_true
  | str i =>
    obtain⟨t,rfl⟩:=rx
    cases y with
    | non=>cases ry;exact PySem.EqNone.eq_str_none (zar I q (by simp))
    | bl j=>cases ry;exact PySem.EqMixed.eq_str_bool (zar I q (by simp))
    | int j=>obtain⟨t',rfl⟩:=ry;exact PySem.EqMixed.eq_str_int (zar I q (by simp))
    | str j=>obtain⟨t',rfl⟩:=ry;exact eq_str (zar I q zgx)
    | _=>exact absurd (show false=true from hs) Bool.false_ne_true
  | byt i =>
    obtain⟨t,rfl⟩:=rx
    cases y with
    | byt j=>obtain⟨t',rfl⟩:=ry;exact PySem.W.eq_bytes (zar I q zgz)
    | _=>exact absurd (show false=true from hs) Bool.false_ne_true
  | _=>cases y <;> exact absurd (show false=true from hs) Bool.false_ne_true
theorem op_ne:OpR X (compareOp .NotEq) rNe:=by
  intro pins s σ H x y v u Q I rx ry h
  obtain⟨hs,q⟩:=h
  cases x with
  | non =>
    cases rx
    cases y with
    | non=>cases ry;exact PySem.EqNone.ne_none_none (zar I q (by simp))
    | bl j=>cases ry;exact PySem.EqNone.ne_none_bool (zar I q (by simp))
    | int j=>obtain⟨t',rfl⟩:=ry;exact PySem.EqNone.ne_none_int (zar I q (by simp))
    | str j=>obtain⟨t',rfl⟩:=ry;exact PySem.EqNone.ne_none_str (zar I q (by simp))
    | _=>exact absurd (show false=true from hs) Bool.false_ne_true
  | bl i =>
    cases rx
    cases y with
    | non=>cases ry;exact PySem.EqNone.ne_bool_none (zar I q (by simp))
    | bl j=>cases ry;exact ne_bool (zar I q (congrArg not zhq))
    | str j=>obtain⟨t',rfl⟩:=ry;exact PySem.EqMixed.ne_bool_str (zar I q (by simp))
    | _=>exact absurd (show false=true from hs) Bool.false_ne_true
  | int i =>
    obtain⟨t,rfl⟩:=rx
    cases y with
    | non=>cases ry;exact PySem.EqNone.ne_int_none (zar I q (by simp))
    | int j=>obtain⟨t',rfl⟩:=ry;exact ne_int (zar I q (congrArg not zgy))
    | str j=>obtain⟨t',rfl⟩:=ry;exact PySem.EqMixed.ne_int_str (zar I q (by simp))
    | _=>exact absurd (show false=true from hs) Bool.false_ne_true
  | str i =>
    obtain⟨t,rfl⟩:=rx
    cases y with
    | non=>cases ry;exact PySem.EqNone.ne_str_none (zar I q (by simp))
    | bl j=>cases ry;exact PySem.EqMixed.ne_str_bool (zar I q (by simp))
    | int j=>obtain⟨t',rfl⟩:=ry;exact PySem.EqMixed.ne_str_int (zar I q (by simp))
    | str j=>obtain⟨t',rfl⟩:=ry;exact ne_str (zar I q (congrArg not zgx))
    | _=>exact absurd (show false=true from hs) Bool.false_ne_true
  | byt i =>
    obtain⟨t,rfl⟩:=rx
    cases y with
    | byt j=>obtain⟨t',rfl⟩:=ry;exact PySem.W.ne_bytes (zar I q (congrArg not zgz))
    | _=>exact absurd (show false=true from hs) Bool.false_ne_true
  | _=>cases y <;> exact absurd (show false=true from hs) Bool.false_ne_true
theorem zgM:OpR X (compareOp .Lt) (rI0 fun i j=>.bl (decide (i < j))):=opB0 fun _ _ _ _ _ _ _ q=>lt_int q
theorem op_le:OpR X (compareOp .LtE) (rI0 fun i j=>.bl (decide (i≤j))):=opB0 fun _ _ _ _ _ _ _ q=>le_int q
theorem zcM:OpR X (compareOp .Gt) (rI0 fun i j=>.bl (decide (j < i))):=opB0 fun _ _ _ _ _ _ _ q=>gt_int q
theorem ze2:OpR X (compareOp .In) (fun x y H Q=>∃ i j,x=.str i∧y=.str j∧Q (.bl (!(Builtin.Str.occurrences j i 0 j.length 1).isEmpty)) H):=by
  intro pins s σ H x y v u Q I rx ry h
  obtain⟨i,j,rfl,rfl,q⟩:=h
  obtain⟨t,rfl⟩:=rx
  obtain⟨t',rfl⟩:=ry
  exact in_str (zar I q rfl)
theorem OpR.or {f:Value→Value→Sem Value} {r r':R2} (h:OpR X f r) (h':OpR X f r'):OpR X f (fun x y H Q=>r x y H Q∨r' x y H Q):=by
  intro pins s σ H x y v u Q I rx ry q
  rcases q with q | q
  · exact h pins s σ H x y v u Q I rx ry q
  · exact h' pins s σ H x y v u Q I rx ry q
theorem zag (b:Expr) {op:CmpOp} (h:op≠.In:=by decide) (h2:op≠.NotIn:=by decide):behindInMarks op b=false:=by
  have e1:(op == CmpOp.In)=false:=by cases op <;> first | rfl | exact absurd rfl h
  have e2:(op == CmpOp.NotIn)=false:=by cases op <;> first | rfl | exact absurd rfl h2
  cases b <;> simp [behindInMarks,e1,e2]
theorem zbX {op:CmpOp} {r:R2} (ho:OpR X (compareOp op) r) (ha:PE X a ta) (hb:PE X b tb) (hm:behindInMarks op b=false):PE X (.Compare a [op] [b] pos) (tOp r ta tb):=by
  intro pins s σ H Q I h
  exact wpAny_Compare1 (binT ha hb I h fun v u s2 x y H2 I2 rx ry q=>ho pins s2 σ H2 x y v u Q I2 rx ry q) hm
def tTest (t:TE):TT:=fun σ H Q=>t σ H fun x H'=>∃ k,x=.bl k∧Q k H'
theorem zaa {op:CmpOp} {r:R2} (ho:OpR X (compareOp op) r) (ha:PE X a ta) (hb:PE X b tb) (hm:behindInMarks op b=false):PT X (.Compare a [op] [b] pos) (tTest (tOp r ta tb)):=by
  intro pins s σ H Q I h
  refine wpAny_isTrue_Compare1 (thn (ha pins s σ H _ I h) fun v s1 ⟨x,H1,I1,r1,q1⟩=>thn (hb pins s1 σ H1 _ I1 q1) fun u s2 ⟨y,H2,I2,r2,q2⟩ =>
    thn (ho pins s2 σ H2 x y v u _ I2 r1 r2 q2) fun c s3 ⟨z,H3,I3,r3,k,e,q3⟩=>?_) hm
  subst e
  cases r3
  exact wpAny_truthy_bool ⟨H3,I3,q3⟩
theorem zdt:(sizeLine:Nat) < 2 ^ 63:=by rw[sizeLine_eq];decide
theorem zac:OpR X (binaryOp .Add) (fun x y H Q=>∃ i j,x=.str i∧y=.str j∧i.length+j.length≤sizeLine∧Q (.str (i++j)) H):=by
  intro pins s σ H x y v u Q I rx ry h
  obtain⟨i,j,rfl,rfl,hz,q⟩:=h
  obtain⟨t,rfl⟩:=rx
  obtain⟨t',rfl⟩:=ry
  exact add_str (fun t' tk=>⟨.str (i++j),H,I.tok _,⟨_,rfl⟩,q⟩) hz
theorem zdd {x:V} {us:List Value} (r:au [x] us):∃ u,us=[u]∧zak x u:=by
  cases r with
  | cons r1 r2=>cases r2;exact⟨_,rfl,r1⟩
theorem vals2 {x y:V} {us:List Value} (r:au [x,y] us):∃ u w',us=[u,w']∧zak x u∧zak y w':=by
  cases r with
  | cons r1 r2 =>
    cases r2 with
    | cons r3 r4=>cases r4;exact⟨_,_,rfl,r1,r3⟩
theorem zhR:zbs X (.type "int") (fun xs H Q=>(∃ i,xs=[.int i]∧Q (.int i) H)∨∃ k,xs=[.bl k]∧Q (.int (if k then 1 else 0)) H):=by
  intro pins s σ H xs us Q I r h
  rcases h with ⟨i,rfl,q⟩ | ⟨k,rfl,q⟩
  · obtain⟨u,rfl,t,rfl⟩:=zdd r
    exact call_int_int ⟨.int i,H,I,⟨_,rfl⟩,q⟩
  · obtain⟨u,rfl,r1⟩:=zdd r
    cases r1
    exact call_int_bool ⟨.int (if k then 1 else 0),H,I.tok _,⟨_,rfl⟩,q⟩
end
end L2
namespace L2
open PySem PySem.Spec PyProof.Rows
structure zdW (h:Heap) (x dx C:Addr) (mA:Str→Option Value):Prop where
  obj:h.get? x=some (PySem.W.instObj C dx)
  ns:h.Ns1 dx mA
  ne:dx≠x
theorem zhK {h:Heap} {dx:Addr} {mA:Str→Option Value} (n:h.Ns1 dx mA):∃ od,h.get? dx=some od∧∀ name,PySem.W.lookIn name od=some (mA name):=by
  obtain⟨o,es,ep,ho,hd,hk,_,hm⟩:=n
  refine⟨o,ho,fun name=>?_⟩
  have e:=hm name
  unfold nsFind findBy at e
  rw[←Array.find?_toList]at e
  unfold PySem.W.lookIn
  rw[hd]
  dsimp only
  split
  · rename_i y q
    rw[q]at e
    exact congrArg some e
  · rename_i q
    rw[q]at e
    have a:es.toList.any (·.refKey)=false:=by
      rw[List.any_eq_false]
      intro y hy
      obtain⟨z,t,hkey⟩:=hk y (Array.mem_toList_iff.mp hy)
      simp [DictEntry.refKey,hkey]
    have a':¬es.toList.any (·.refKey)=true:=by rw[a];exact Bool.false_ne_true
    rw[if_neg a']
    exact congrArg some e
theorem zdW.look {h:Heap} {x dx C:Addr} {mA:Str→Option Value} (I:zdW h x dx C mA):∃ od,PySem.W.InstAt h x (PySem.W.instObj C dx) C (some od)∧∀ name,PySem.W.lookIn name od=some (mA name) :=
  let ⟨od,ho,hl⟩:=zhK I.ns
  ⟨od,⟨I.obj,rfl,rfl,ho⟩,hl⟩
section
variable {prog:Program} {w:World} {A:Around} {E:Value→Shared→Prop} {s:Shared} {K:PySem.W.Frag} {x dx C f:Addr} {mA:Str→Option Value} {name:Str} {v:Value}
theorem ziV {expr:Bool} {Q:Value→Shared→Prop} (X:K.In s.heap) (I:zdW s.heap x dx C mA) (hg:PySem.W.plainGet K C name=true) (hh:PySem.W.hasDictIn K C=true)
    (ha:PySem.W.findIn K (.ref C) name=some none) (hv:mA name=some v) (hv':PySem.W.handedIn v=true) (h:Q v { s with toks:=s.toks+1 }) :
    wpAny (model prog w) A (getAttr (.ref x) name expr) Q E s:=by
  obtain⟨od,J,hl⟩:=I.look
  exact PySem.W.get_value X J (PySem.W.plainGet_of hg).1 (PySem.W.findObj_own hh ha rfl (by rw[hl,hv])) hv' h
theorem zis {pl:Sem Bool} {Q:Value × List Value→Shared→Prop} (X:K.In s.heap) (I:zdW s.heap x dx C mA) (hg:PySem.W.plainGet K C name=true)
    (hf:PySem.W.findIn K (.ref C) name=some (some (.ref f))) (ht:PySem.W.isFn K (.ref f)=true) (hv:mA name=none) (h:Q (.ref f,[.ref x]) s) :
    wpAny (model prog w) A (getMethod (.ref x) name pl) Q E s:=by
  obtain⟨od,J,hl⟩:=I.look
  exact PySem.W.method_fn X J (PySem.W.plainGet_of hg).1 (PySem.W.plainGet_of hg).2 hf (beq_iff_eq.mp ht) (by show(PySem.W.lookIn name od).map (·.isSome)=some false;rw[hl,hv];rfl) h
theorem ziC {ns:List Str} {Q:Unit→Shared→Prop} (X:K.In s.heap) (I:zdW s.heap x dx C mA)
    (hs:PySem.W.findIn K (.ref C) "__setattr__"=some (some (.builtin "object.__setattr__"))) (hp:PySem.W.plainOver K C=true) (ht:PySem.W.takerIn K C name=some none) (hh:PySem.W.hasDictIn K C=true)
    (hw:PySem.Within mA ns) (hsz:ns.length≤sizeLine)
    (h:∀ h',zdW h' x dx C (fun y=>if y=name then some v else mA y)→Heap.SameBut dx s.heap h'→Q () { s with heap:=h',toks:=s.toks+2 }) :
    wpAny (model prog w) A (setAttr (.ref x) name v) Q E s:=by
  obtain⟨od,J,hl⟩:=I.look
  refine PySem.W.set_plain X J hs (PySem.W.osa_open (s:={ s with toks:=s.toks+1 }) (r:=none) X J hp ht fun b=>?_)
  obtain⟨cd,hc,hd'⟩:=PySem.W.any_some hh
  have hx:s.heap.get? x=some ⟨.ref C,some dx,.plain,#[]⟩:=I.obj
  refine wpAny_bind (wpAny_pure (wpAny_bind (wpAny_bind (wpAny_loadPart hx (wpAny_bind (PySem.W.Looks.here (s:={ s with toks:=s.toks+1 }) (PySem.W.looks_clsIn X hc) ?_))))))
  rw[hd']
  refine wpAny_pure (a:=some dx) (wpAny_bind (wpAny_pure (wpAny_bind ?_)))
  refine wpAny_nsSet1 (s:={ s with toks:=s.toks+1 }) I.ns fun h' hn2 hs2=>?_
  obtain⟨oD,esD,epD,hoD,hdD,hcD⟩:=hn2.count (PySem.Within.cons name v hw)
  refine wpAny_bind (wpAny_lookBehind hoD (by rw[hdD];exact pastItsLine_dict (Nat.le_trans hcD (by rw[List.length_cons];omega))) ?_)
  exact wpAny_pure (h _ ⟨(hs2.2 _ (Ne.symm I.ne)).trans I.obj,hn2,I.ne⟩ hs2)
theorem zio {R:Result→Shared→Prop} {vs:List Value} {kw:List (Str × Value)} (X:K.In s.heap) (hm:PySem.W.makesIn K C=true)
    (hi:PySem.W.findIn K (.ref C) "__init__"=some (some (.ref f))) (hf:PySem.W.typeIn K (.ref f)=some (.type "function"))
    (h:codeAny (model prog w) (A.under (.builtin "type.__call__" ⟨.ref C :: vs,kw⟩)) (.call (.ref f) ⟨.ref (s.heap.objs.size+1) :: vs,kw⟩) (PySem.W.InitBack (s.heap.objs.size+1) R)
      { s with heap:=(s.heap.push PySem.W.emptyDict).push (PySem.W.instObj C s.heap.objs.size) }) :
    codeAny (model prog w) A (.call (.ref C) ⟨vs,kw⟩) R s:=by
  obtain⟨hh,g,d,t,os⟩:=s
  exact PySem.W.make_core (PySem.W.makes_of X hm) (PySem.W.looks_findIn X hi) (fun self=>PySem.W.bind_fn X self hf) (.inl rfl) h
end
def zaD (f:Str) (v:V):List (Str × V)→List (Str × V)
  | []=>[(f,v)]
  | (g,x) :: r=>if g=f then(g,v) :: r else(g,x) :: zaD f v r
theorem zbh (f g:Str) (v:V):∀ fs:List (Str × V),(zaD f v fs).lookup g=if g=f then some v else fs.lookup g
  | []=>by
    show List.lookup g [(f,v)]=_
    by_cases h:g=f
    · have hb:(g == f)=true:=beq_iff_eq.mpr h
      simp only[List.lookup,hb,if_pos h]
    · have hb:(g == f)=false:=beq_eq_false_iff_ne.mpr h
      simp only[List.lookup,hb,if_neg h]
  | (k,x) :: r=>by
    have ih:=zbh f g v r
    rw[show zaD f v ((k,x) :: r)=(if k=f then(k,v) :: r else(k,x) :: zaD f v r) from rfl]
    by_cases hk:k=f
    · rw[if_pos hk]
      by_cases h:g=k
      · have hb:(g == k)=true:=beq_iff_eq.mpr h
        simp only[List.lookup,hb,if_pos (h.trans hk)]
      · have hb:(g == k)=false:=beq_eq_false_iff_ne.mpr h
        simp only[List.lookup,hb,if_neg (fun e:g=f=>h (e.trans hk.symm))]
    · rw[if_neg hk]
      by_cases h:g=k
      · have hb:(g == k)=true:=beq_iff_eq.mpr h
        simp only[List.lookup,hb,if_neg (fun e:g=f=>hk (h.symm.trans e))]
      · have hb:(g == k)=false:=beq_eq_false_iff_ne.mpr h
        simp only[List.lookup,hb]
        exact ih
theorem zdE (f:Str) (v:V):∀ fs:List (Str × V),f∈(zaD f v fs).map (·.1)∧∀ g,g∈fs.map (·.1)→g∈(zaD f v fs).map (·.1)
  | []=>⟨by simp [zaD],fun g h=>by simp at h⟩
  | (k,x) :: r=>by
    obtain⟨i1,i2⟩:=zdE f v r
    rw[show zaD f v ((k,x) :: r)=(if k=f then(k,v) :: r else(k,x) :: zaD f v r) from rfl]
    by_cases hk:k=f
    · rw[if_pos hk]
      subst hk
      exact⟨by simp,fun g h=>by simpa using h⟩
    · rw[if_neg hk]
      refine⟨?_,fun g h=>?_⟩
      · rw[List.map_cons]
        exact List.mem_cons_of_mem _ i1
      · rw[List.map_cons]at h ⊢
        rcases List.mem_cons.mp h with e | e
        · exact List.mem_cons.mpr (.inl e)
        · exact List.mem_cons_of_mem _ (i2 g e)
theorem zdS (f:Str) (v:V):∀ fs:List (Str × V),(zaD f v fs).length≤fs.length+1
  | []=>by simp [zaD]
  | (k,x) :: r=>by
    have ih:=zdS f v r
    rw[show zaD f v ((k,x) :: r)=(if k=f then(k,v) :: r else(k,x) :: zaD f v r) from rfl]
    by_cases hk:k=f
    · rw[if_pos hk,List.length_cons,List.length_cons];omega
    · rw[if_neg hk,List.length_cons,List.length_cons];omega
theorem zcU.some_of {v:V} {o:Option Value} (r:zcU (some v) o):∃ u,o=some u∧zak v u:=by
  cases o with
  | none=>exact(show False from r).elim
  | some u=>exact⟨u,rfl,r⟩
theorem zcU.none_of {o:Option Value} (r:zcU none o):o=none:=by
  cases o with
  | none=>rfl
  | some u=>exact(show False from r).elim
theorem zhO {v:V} {u:Value} (r:zak v u):PySem.W.handedIn u=true:=by
  cases v with
  | non=>cases (show u=Value.none from r);rfl
  | bl b=>cases (show u=Value.bool b from r);rfl
  | int i=>obtain⟨t,e⟩:=(show ∃ t,u=Value.int i t from r);cases e;rfl
  | str x=>obtain⟨t,e⟩:=(show ∃ t,u=Value.str x t from r);cases e;rfl
  | byt b=>obtain⟨t,e⟩:=(show ∃ t,u=Value.bytes b t from r);cases e;rfl
  | flt b=>obtain⟨t,e⟩:=(show ∃ t,u=Value.float b t from r);cases e;rfl
  | ref a=>cases (show u=Value.ref a from r);rfl
  | ty n=>cases (show u=Value.type n from r);rfl
section
variable {P:Program} {w:World} {H H':Hp} {h h':Heap} {a C dx:Addr} {fs fs':List (Str × V)}
theorem zeL (hok:HOk P w H h) (e:H a=some (.ins C dx fs)):∃ mA,zdW h a dx C mA∧(∀ f,zcU (fs.lookup f) (mA f))∧PySem.Within mA (fs.map (·.1))∧fs.length≤1000∧H dx=some (.own a):=by
  obtain⟨d,z,ne,ob,mA,n,r,q⟩:=(show za3 P w H h a (.ins C dx fs) from hok a _ e)
  exact⟨mA,⟨ob,n,ne⟩,r,q,z,d⟩
end
structure Cls (K:PySem.W.Frag) (C:Addr):Prop where
  pg:PySem.W.plainGet K C Str.empty=true
  hd:PySem.W.hasDictIn K C=true
  po:PySem.W.plainOver K C=true
  sa:PySem.W.findIn K (.ref C) "__setattr__"=some (some (.builtin "object.__setattr__"))
theorem Cls.get {K:PySem.W.Frag} {C:Addr} (c:Cls K C) (f:Str):PySem.W.plainGet K C f=true:=c.pg
def zb5 (K:PySem.W.Frag) (C:Addr) (f:Str):Prop:=PySem.W.findIn K (.ref C) f=some none
theorem zb5.taker {K:PySem.W.Frag} {C:Addr} {f:Str} (n:zb5 K C f):PySem.W.takerIn K C f=some none:=by
  unfold PySem.W.takerIn
  rw[show PySem.W.findIn K (.ref C) f=some none from n]
  rfl
structure zbL (K:PySem.W.Frag) (C:Addr) (m:Str) (f:Addr):Prop where
  at_:PySem.W.findIn K (.ref C) m=some (some (.ref f))
  fn:PySem.W.isFn K (.ref f)=true
  kp:PySem.W.keepIn K (.ref f)=true
section
variable {X:Cx} {pins:List (Addr × Obj)} {σ:St} {H:Hp} {s:Shared} {a C dx:Addr} {fs:List (Str × V)} {f:Str} {v:V} {A:Around} {E:Value→Shared→Prop}
theorem zet {b:Bool} {Q:Value→Shared→Prop} (I:Inv X pins σ H s) (e:H a=some (.ins C dx fs)) (c:Cls X.K C) (n:zb5 X.K C f) (l:fs.lookup f=some v)
    (h:∀ u s',Inv X pins σ H s'→zak v u→Q u s'):wpAny (model X.prog X.w) A (getAttr (.ref a) f b) Q E s:=by
  obtain⟨mA,O,r,_,_,_⟩:=zeL I.hok e
  obtain⟨u,hu,ru⟩:=zcU.some_of (v:=v) (o:=mA f) (by rw[←l];exact r f)
  exact ziV I.kIn O (c.get f) c.hd n hu (zhO ru) (h u _ (I.tok _) ru)
theorem zdn {m:Str} {g:Addr} {pl:Sem Bool} {Q:Value × List Value→Shared→Prop} (I:Inv X pins σ H s) (e:H a=some (.ins C dx fs)) (c:Cls X.K C) (k:zbL X.K C m g) (l:fs.lookup m=none)
    (h:Q (.ref g,[.ref a]) s):wpAny (model X.prog X.w) A (getMethod (.ref a) m pl) Q E s:=by
  obtain⟨mA,O,r,_,_,_⟩:=zeL I.hok e
  have hn:mA m=none:=zcU.none_of (by rw[←l];exact r m)
  exact zis I.kIn O (c.get m) k.at_ k.fn hn h
theorem zep {y:V} {u:Value} {Q:Unit→Shared→Prop} (I:Inv X pins σ H s) (e:H a=some (.ins C dx fs)) (c:Cls X.K C) (n:zb5 X.K C f) (hl:fs.length < 1000) (ry:zak y u)
    (h:∀ s',Inv X pins σ (upd H a (.ins C dx (zaD f y fs))) s'→Q () s'):wpAny (model X.prog X.w) A (setAttr (.ref a) f u) Q E s:=by
  obtain⟨mA,O,r,wi,_,ho⟩:=zeL I.hok e
  have hz:(fs.map (·.1)).length≤sizeLine:=by rw[List.length_map,sizeLine_eq];omega
  refine ziC I.kIn O c.sa c.po n.taker c.hd wi hz fun h' O' sb=>h _ ?_
  have hd:∃ o,h'.get? dx=some o:=let ⟨o,_,_,e',_⟩:=O'.ns;⟨o,e'⟩
  refine I.write (x:=a) (e:=dx) (by rw[e];exact True.intro) (.inr ho) (fun b q hb z=>(sb.2 b hb).trans z) hd ?_
  refine⟨by rw[zaj O.ne];exact ho,?_,O.ne,O'.obj,_,O'.ns,fun g=>?_,fun g hg=>?_⟩
  · have:=zdS f y fs;omega
  · show zcU ((zaD f y fs).lookup g) (if g=f then some u else mA g)
    rw[zbh]
    by_cases q:g=f
    · rw[if_pos q,if_pos q];exact ry
    · rw[if_neg q,if_neg q];exact r g
  · by_cases q:g=f
    · rw[q];exact(zdE f y fs).1
    · refine(zdE f y fs).2 g (wi g fun z=>hg ?_)
      show(if g=f then some u else mA g)=none
      rw[if_neg q];exact z
theorem Inv.made (I:Inv X pins σ H s):Inv X pins σ (upd (upd H s.heap.objs.size (.own (s.heap.objs.size+1))) (s.heap.objs.size+1) (.ins C s.heap.objs.size []))
    { s with heap:=(s.heap.push PySem.W.emptyDict).push (PySem.W.instObj C s.heap.objs.size) }:=by
  have e1:(s.heap.push PySem.W.emptyDict).get? s.heap.objs.size=some PySem.W.emptyDict:=Heap.get?_push_size s.heap rfl
  have e2:((s.heap.push PySem.W.emptyDict).push (PySem.W.instObj C s.heap.objs.size)).get? (s.heap.objs.size+1)=some (PySem.W.instObj C s.heap.objs.size):=by
    have:=Heap.get?_push_size (s.heap.push PySem.W.emptyDict) (o:=PySem.W.instObj C s.heap.objs.size) rfl
    rwa [Heap.size_push]at this
  have e3:(s.heap.push PySem.W.emptyDict).Ns s.heap.objs.size (fun _=>none):=⟨PySem.W.emptyDict,#[],_,e1,rfl,(fun e he=>absurd he (by simp)),fun _=>rfl⟩
  have I1:=I.laid (a:=s.heap.objs.size) (o:=.own (s.heap.objs.size+1)) (h':=s.heap.push PySem.W.emptyDict) (t':=s.toks) (fun b u q=>Heap.get?_push_of_some _ q) (Nat.le_refl _) ⟨_,e1⟩
  refine I1.laid (a:=s.heap.objs.size+1) (o:=.ins C s.heap.objs.size []) (t':=s.toks) (fun b u q=>Heap.get?_push_of_some _ q) (Nat.le_of_eq (Heap.size_push _ _)) ?_
  have ne:s.heap.objs.size≠s.heap.objs.size+1:=Nat.ne_of_lt (Nat.lt_succ_self _)
  refine⟨by rw[zaj ne,af],Nat.zero_le _,ne,e2,fun _=>none,(Heap.Ns1.of_empty e3).at fun o q=>Heap.get?_push_of_some _ q,fun _=>True.intro,fun y hy=>absurd rfl hy⟩
theorem ziZ {prog:Program} {w:World} {env:Env} {e:Expr} {f:Str} {pos:Pos} {s:Shared} {Q:Value→Shared→Prop} (hb:attributeBase e f env (eval e env)=eval e env)
    (h:wpAny (model prog w) A (eval e env) (fun o s₁=>wpAny (model prog w) A (getAttr o f true) Q E s₁) E s):wpAny (model prog w) A (eval (.Attribute e f pos) env) Q E s :=
  Attribute_any_ h (by rw[arm_eval_Attribute,hb])
end
def tFld (K:PySem.W.Frag) (ta:TE) (f:Str):TE:=fun σ H Q=>ta σ H fun x H1=>∃ a C dx fs v,x=.ref a∧H1 a=some (.ins C dx fs)∧Cls K C∧zb5 K C f∧fs.lookup f=some v∧Q v H1
def sFld (K:PySem.W.Frag) (ta tv:TE) (f:Str):TS:=fun D σ H=>tv σ H fun y H1=>ta σ H1 fun x H2=>∃ a C dx fs,x=.ref a∧H2 a=some (.ins C dx fs)∧Cls K C∧zb5 K C f∧fs.length < 1000 ∧
  D.nx σ (upd H2 a (.ins C dx (zaD f y fs)))
def InOp (X:Cx) (op:Operator) (rd:V→V→Hp→VK→Prop):Prop :=
  ∀(pins:List (Addr × Obj)) (s:Shared) (σ:St) (H:Hp) (x y:V) (u v:Value) (Q:VK),Inv X pins σ H s→zak x u→zak y v→rd x y H Q→wpAny (model X.prog X.w) X.A (inplaceOp op u v) (EP X pins σ Q) X.xe s
def ziG (K:PySem.W.Frag) (ta tv:TE) (rd:V→V→Hp→VK→Prop) (f:Str):TS:=fun D σ H=>ta σ H fun x H1=>∃ a C dx fs v,x=.ref a∧H1 a=some (.ins C dx fs)∧Cls K C∧zb5 K C f∧fs.lookup f=some v ∧
  tv σ H1 fun y H2=>rd v y H2 fun z H3=>∃ dx' fs',H3 a=some (.ins C dx' fs')∧fs'.length < 1000∧D.nx σ (upd H3 a (.ins C dx' (zaD f z fs')))
section
variable {X:Cx} {o e value:Expr} {f:Str} {pos pos' tpos:Pos} {ta tv:TE}
theorem zbN (he:PE X e ta) (hb:attributeBase e f X.env (eval e X.env)=eval e X.env):PE X (.Attribute e f pos) (tFld X.K ta f):=by
  intro pins s σ H Q I h
  refine ziZ hb (thn (he pins s σ H _ I h) fun u s1 ⟨x,H1,I1,rx,a,C,dx,fs,v,ex,ea,c,n,l,q⟩=>?_)
  subst ex
  obtain rfl:u=Value.ref a:=rx
  exact zet I1 ea c n l fun u' s2 I2 ru=>⟨v,H1,I2,ru,q⟩
theorem zha (ha:PE X o ta) (hv:PE X value tv) (hs:swapsWith value (some (.Attribute o f pos')) pos.line X.env=pure false):PS X (.Assign [.Attribute o f pos'] value pos) (sFld X.K ta tv f):=by
  intro pins s σ H D I h
  refine plainObj_wpAny_Assign_Attribute (thn (hv pins s σ H _ I h) fun u s1 ⟨y,H1,I1,ry,q⟩=>thn (ha pins s1 σ H1 _ I1 q) fun ov s2 ⟨x,H2,I2,rx,a,C,dx,fs,ex,ea,c,n,l,q2⟩=>?_) hs
  subst ex
  obtain rfl:ov=Value.ref a:=rx
  exact zep I2 ea c n l ry fun s3 I3=>⟨σ,_,I3,q2⟩
theorem ze1 {op:Operator} {rd:V→V→Hp→VK→Prop} (ha:PE X o ta) (hv:PE X value tv) (hop:InOp X op rd):PS X (.AugAssign (.Attribute o f tpos) op value pos) (ziG X.K ta tv rd f):=by
  intro pins s σ H D I h
  refine wpAny_AugAssign_AttributeAny (thn (ha pins s σ H _ I h) fun ov s1 ⟨x,H1,I1,rx,a,C,dx,fs,v,ex,ea,c,n,l,q⟩=>?_)
  subst ex
  obtain rfl:ov=Value.ref a:=rx
  refine zet I1 ea c n l fun u s2 I2 ru=>thn (hv pins s2 σ H1 _ I2 q) fun w3 s3 ⟨y,H2,I3,ry,q3⟩=>thn (hop pins s3 σ H2 v y u w3 _ I3 ru ry q3) fun w4 s4 ⟨z,H3,I4,rz,dx',fs',ea',l',q4⟩=>?_
  exact zep I4 ea' c n l' rz fun s5 I5=>⟨σ,_,I5,q4⟩
def rAdd:V→V→Hp→VK→Prop:=fun x y H Q=>∃ i j,x=.int i∧y=.int j∧Q (.int (i+j)) H
theorem zhl:InOp X .Add rAdd:=by
  rintro pins s σ H x y u v Q I rx ry ⟨i,j,rfl,rfl,q⟩
  obtain⟨t,rfl⟩:=(show ∃ t,u=Value.int i t from rx)
  obtain⟨t',rfl⟩:=(show ∃ t',v=Value.int j t' from ry)
  exact PyProof.Rows.iadd_int ⟨.int (i+j),H,I.tok _,⟨_,rfl⟩,q⟩
theorem zi4 {pl:Sem Bool} {m:Str} {apos:Pos} {args:List Expr} {pins:List (Addr × Obj)} {s:Shared} {σ:St} {H:Hp} {Q:Value→Shared→Prop} {te:TE} (he:PE X e te) (I:Inv X pins σ H s)
    (h:te σ H fun x H1=>∃ a C dx fs g,x=.ref a∧H1 a=some (.ins C dx fs)∧Cls X.K C∧zbL X.K C m g∧fs.lookup m=none ∧
      ∀ s1,Inv X pins σ H1 s1→wpAny (model X.prog X.w) X.A (callWith pos (.ref g) [.ref a] (backTo pos (starEach args X.env)) (backToKw pos (keywordEach [] X.env))) Q X.xe s1)
    (ht:eval (.Call (.Attribute e m apos) args [] pos) X.env=(do
      let ov ←eval e X.env
      standAt apos.atName
      let (f,first) ←holding [ov] (getMethod ov m pl)
      callWith pos f first (backTo pos (starEach args X.env)) (backToKw pos (keywordEach [] X.env)))) :
    wpAny (model X.prog X.w) X.A (eval (.Call (.Attribute e m apos) args [] pos) X.env) Q X.xe s:=by
  refine PySem.W.methodCall_KW (pl:=pl) (thn (he pins s σ H _ I h) fun u s1 ⟨x,H1,I1,rx,a,C,dx,fs,g,ex,ea,c,k,l,q⟩=>?_) ht
  subst ex
  obtain rfl:u=Value.ref a:=rx
  exact zdn I1 ea c k l (q s1 I1)
end
section
variable {X:Cx} {pins:List (Addr × Obj)} {σ:St} {H:Hp} {s:Shared} {A:Around} {E:Value→Shared→Prop} {Q:Value→Shared→Prop} {c:Value} {b:Bool}
end
end L2
namespace L2
open PySem PySem.Spec PyProof.Rows
structure aw (k:Nat) (A:Around):Prop where
  hd:A.handled=none
  dp:A.depth+3 * k+5 < recursionLimit
  un:A.units+16 * k+200 < cLine
  gd:A.guards=some []
theorem aw.mono {j k:Nat} {A:Around} (r:aw k A) (h:j≤k):aw j A:=⟨r.hd,by have:=r.dp;omega,by have:=r.un;omega,r.gd⟩
theorem aw.deeper {k:Nat} {A:Around} (r:aw (k+1) A) (env:Env):aw k (A.deeper env) :=
  ⟨r.hd,by have:=r.dp;show A.depth+1+3 * k+5 < _;omega,by have:=r.un;show A.units+3+16 * k+200 < _;omega,r.gd⟩
theorem zg0 {A:Around} {C:Addr} {us:List Value} {kw:List (Str × Value)}:(A.under (.builtin "type.__call__" ⟨.ref C :: us,kw⟩)).depth=A.depth+1:=by
  first | rfl | simp [Around.under,Code.weight,Code.isCreation,Code.isGuard,Code.isCaller,Code.frames,Code.isFrame,guardIds]
theorem zgZ {A:Around} {C:Addr} {us:List Value} {kw:List (Str × Value)}:(A.under (.builtin "type.__call__" ⟨.ref C :: us,kw⟩)).units=A.units+1:=by
  first | rfl | simp [Around.under,Code.cUnits,Code.frames,Code.isFrame]
theorem zga {A:Around} {C:Addr} {us:List Value} {kw:List (Str × Value)} (h:A.guards=some []):(A.under (.builtin "type.__call__" ⟨.ref C :: us,kw⟩)).guards=some []:=by
  first | exact h | simp [Around.under,Code.guards,Code.isGuard,guardIds,pushGuards,h]
theorem aw.make {k:Nat} {A:Around} (r:aw (k+1) A) (C:Addr) (us:List Value) (kw:List (Str × Value)):aw k (A.under (.builtin "type.__call__" ⟨.ref C :: us,kw⟩)) :=
  ⟨r.hd,by have:=r.dp;rw[zg0];omega,by have:=r.un;rw[zgZ];omega,zga r.gd⟩
theorem aw.depth {k:Nat} {A:Around} (r:aw k A):A.depth < recursionLimit:=by have:=r.dp;omega
theorem aw.units {k:Nat} {A:Around} (r:aw k A):A.units+64 < cLine:=by have:=r.un;omega
def zcv:TA:=fun _ H Q=>Q [] H
def zci (ta:TE) (tr:TA):TA:=fun σ H Q=>ta σ H fun x H1=>tr σ H1 fun xs H2=>Q (x :: xs) H2
section
variable {X:Cx} {e:Expr} {es:List Expr} {te:TE} {t:TA} {pos:Pos}
theorem ac:PA X [] zcv:=fun _ _ _ _ H Q I h=>Calls.spliced_nil ⟨[],H,I,.nil,h⟩
theorem aa (ha:PE X e te) (hr:PA X es t) (hs:starEach (e :: es) X.env=(false,eval e X.env) :: starEach es X.env:=by rfl):PA X (e :: es) (zci te t):=by
  intro pos pins s σ H Q I h
  rw[hs]
  show wpAny _ _ (spliced ((false,eval e X.env) :: backTo pos (starEach es X.env))) _ _ s
  refine Calls.spliced_cons (thn (ha pins s σ H _ I h) fun u s1 ⟨x,H1,I1,r1,q1⟩=>?_)
  exact thn (hr pos pins s1 σ H1 _ I1 q1) fun us s2 ⟨xs,H2,I2,r2,q2⟩=>⟨x :: xs,H2,I2,.cons r1 r2,q2⟩
def tTup (t:TA):TE:=fun σ H Q=>t σ H fun xs H1=>xs.length≤sizeLine∧∀ p,H1 p=none→Q (.ref p) (upd H1 p (.tup xs))
def tLst (t:TA):TE:=fun σ H Q=>t σ H fun xs H1=>xs.length≤sizeLine∧∀ p,H1 p=none→Q (.ref p) (upd H1 p (.lst xs))
theorem zaf {x1} (h:PA X es t):PE X (.Tuple es x1 pos) (tTup t):=by
  intro pins s σ H Q I hq
  refine wpAny_Tuple_spliced (thn (h pos pins s σ H _ I hq) fun us s1 ⟨xs,H1,I1,r,z,q⟩=>⟨by rw[←r.length];exact z,?_⟩)
  have hf:H1 s1.heap.objs.size=none:=I1.hok.fresh (Nat.le_refl _)
  refine⟨.ref s1.heap.objs.size,upd H1 s1.heap.objs.size (.tup xs),I1.laid (t':=s1.toks) (fun b u e=>Heap.get?_push_of_some _ e) (Nat.le_refl _) ?_,rfl,q _ hf⟩
  exact⟨z,us,r,⟨_,Heap.get?_push_size _ rfl,rfl,_,rfl⟩⟩
theorem zaG (h:PA X es t):PE X (.List es pos) (tLst t):=by
  intro pins s σ H Q I hq
  refine wpAny_List_spliced (thn (h pos pins s σ H _ I hq) fun us s1 ⟨xs,H1,I1,r,z,q⟩=>⟨by rw[←r.length];exact z,?_⟩)
  have hf:H1 s1.heap.objs.size=none:=I1.hok.fresh (Nat.le_refl _)
  refine⟨.ref s1.heap.objs.size,upd H1 s1.heap.objs.size (.lst xs),I1.laid (t':=s1.toks) (fun b u e=>Heap.get?_push_of_some _ e) (Nat.le_refl _) ?_,rfl,q _ hf⟩
  exact⟨z,us,0,r,Heap.get?_push_size _ rfl⟩
end
abbrev Sp:=List V→Hp→VK→XK→Prop
abbrev CXT:=List Env→Hp→Shared→XK→Value→Shared→Prop
structure zdX (P:Program) (w:World) (K:PySem.W.Frag) (mg:Str→Option Value) (base:Heap) (A:Around) (outer:List Env) (s:Shared) (H:Hp):Prop where
  frames:A.frames=some outer
  mod:Mod K mg base
  bs:∀ b o,base.get? b=some o→s.heap.get? b=some o∧H b=none
  bsz:base.objs.size≤s.heap.objs.size
  funs:s.heap.FunFrames base outer
  frf:∀ b∈frs outer,H b=none
  hok:HOk P w H s.heap
  bare:AllBare s.gens
def CE (outer:List Env) (P:Program) (w:World) (H:Hp) (s:Shared) (Q:VK) (u:Value) (s':Shared):Prop :=
  ∃ v H',s'.os=s.os∧AllBare s'.gens∧Un (frs outer) [] H H' s.heap s'.heap∧HOk P w H' s'.heap∧zak v u∧Q v H'
def CR (CX:CXT) (outer:List Env) (P:Program) (w:World) (H:Hp) (s:Shared) (Q:VK) (E:XK) (r:Result) (s':Shared):Prop :=
  match r with
  | .ok (.ret u)=>CE outer P w H s Q u s'
  | .ok _=>False
  | .error e=>CX outer H s E e s'
structure FnOk (P:Program) (w:World) (K:PySem.W.Frag) (mg:Str→Option Value) (base:Heap) (CX:CXT) (k:Nat) (f:Addr) (fd:FuncData) (ps:List Str) (sp:Sp):Prop where
  len:∀ vs H Q E,sp vs H Q E→vs.length=ps.length
  run:∀(A:Around) (outer:List Env) (s:Shared) (H:Hp) (args:Args) (us:List Value) (vs:List V) (Q:VK) (E:XK),aw k A→zdX P w K mg base A outer s H→BindsTo s fd args (ps.zip us)→au vs us→sp vs H Q E →
    codeAny (model P w) A (.call (.ref f) args) (CR CX outer P w H s Q E) s
theorem zdX.make {P:Program} {w:World} {K:PySem.W.Frag} {mg:Str→Option Value} {base:Heap} {A:Around} {outer:List Env} {s:Shared} {H:Hp} (e:zdX P w K mg base A outer s H) (C:Addr) (us:List Value) (kw:List (Str × Value)) :
    zdX P w K mg base (A.under (.builtin "type.__call__" ⟨.ref C :: us,kw⟩)) outer s H:=⟨by first | exact e.frames | (simpa [Around.under,Code.envs,Code.isFrame,pushEnvs] using e.frames),e.mod,e.bs,e.bsz,e.funs,e.frf,e.hok,e.bare⟩
section
variable {X:Cx} {pins:List (Addr × Obj)} {σ:St} {H:Hp} {s s':Shared}
theorem Inv.env0 (I:Inv X pins σ H s):zdX X.prog X.w X.K X.mg X.base X.A X.stack s H :=
  ⟨I.ok.frames,I.ok.mod,I.bs,Nat.le_trans I.ok.bsz I.sz,I.stack,I.stkFree,I.hok,I.bare⟩
theorem Inv.after {Q:VK} {u:Value} (I:Inv X pins σ H s) (h:CE X.stack X.prog X.w H s Q u s'):EP X pins σ Q u s':=by
  obtain⟨v,H',os,bare,un,hok,r,q⟩:=h
  obtain⟨hh,g,d,t,os'⟩:=s'
  obtain rfl:os'=s.os:=os
  exact⟨v,H',I.call (h':=hh) (g':=g) (d':=d) (t':=t) (ch:=[]) un hok bare (fun b z=>absurd z (by simp)),r,q⟩
end
def zcn (sp:Sp) (dvs:List V) (E:XK) (t:TA):TE:=fun σ H Q=>t σ H fun vs H1=>sp (vs++dvs) H1 Q E
def tMeth (C:Addr) (m:Str) (sp:Sp) (dvs:List V) (E:XK) (ta:TE) (t:TA):TE:=fun σ H Q=>ta σ H fun x H1=>∃ a dx fs,x=.ref a∧H1 a=some (.ins C dx fs)∧fs.lookup m=none ∧
  t σ H1 fun vs H2=>sp (x :: (vs++dvs)) H2 Q E
def tMake (C:Addr) (sp:Sp) (dvs:List V) (E:XK) (t:TA):TE:=fun σ H Q=>t σ H fun vs H1=>∀ x dx,H1 x=none→H1 dx=none→dx≠x →
  sp (.ref x :: (vs++dvs)) (upd (upd H1 dx (.own x)) x (.ins C dx [])) (fun v H2=>v=.non∧Q (.ref x) H2) E
def aq (K:PySem.W.Frag) (fd:FuncData) (ps:List Str) (ds:List Value):Prop :=
  ∀(s:Shared) (us:List Value),K.In s.heap→(us++ds).length=ps.length→BindsTo s fd ⟨us,[]⟩ (ps.zip (us++ds))
theorem aq.all {K:PySem.W.Frag} {fd:FuncData} {ps:List Str} (h:∀ us:List Value,us.length=ps.length→bindArgs fd ⟨us,[]⟩=pure (ps.zip us)):aq K fd ps []:=fun s us _ hl=>by
  rw[List.append_nil]at hl ⊢
  exact .of_eq (h us hl)
def zb4 (CX:CXT) (X:Cx) (E:XK):Prop:=∀(pins:List (Addr × Obj)) (σ:St) (H:Hp) (s:Shared) (e:Value) (s':Shared),Inv X pins σ H s→CX X.stack H s E e s'→X.xe e s'
section
variable {X:Cx} {CX:CXT} {k:Nat} {f C:Addr} {fd:FuncData} {ps:List Str} {sp:Sp} {dvs:List V} {ds:List Value} {E:XK} {x m:Str} {p pos apos:Pos} {e o:Expr} {es:List Expr} {ta:TE} {t:TA}
theorem zfo {pins:List (Addr × Obj)} {σ:St} {H:Hp} {s:Shared} {Q:VK} {us:List Value} {vs:List V} (F:FnOk X.prog X.w X.K X.mg X.base CX k f fd ps sp) (hr:aw k X.A) (hb:aq X.K fd ps ds) (hd:au dvs ds) (hx:zb4 CX X E)
    (I:Inv X pins σ H s) (r:au vs us) (h:sp (vs++dvs) H Q E):wpAny (model X.prog X.w) X.A (call (.ref f) us) (EP X pins σ Q) X.xe s:=by
  have r2:au (vs++dvs) (us++ds):=r.append hd
  have hl:(us++ds).length=ps.length:=by rw[←r2.length];exact F.len _ _ _ _ h
  refine wpAny_call (codeAny_mono (F.run X.A X.stack s H ⟨us,[]⟩ (us++ds) (vs++dvs) Q E hr I.env0 (hb s us I.kIn hl) r2 h) fun r s' hq=>?_)
  cases r with
  | error e=>exact hx pins σ H s e s' I hq
  | ok fl =>
    cases fl with
    | ret u=>exact I.after hq
    | next=>exact False.elim hq
    | brk=>exact False.elim hq
    | cont=>exact False.elim hq
theorem ao (F:FnOk X.prog X.w X.K X.mg X.base CX k f fd ps sp) (hr:aw k X.A) (hg:Gl X x) (hm:X.mg x=some (.ref f)) (hk:PySem.W.keepIn X.K (.ref f)=true) (hb:aq X.K fd ps ds) (hd:au dvs ds) (hx:zb4 CX X E)
    (ha:PA X (e :: es) t) (hdb:(x == ("__debug__":Str))=false:=by decide) (he:starEach (e :: es) X.env=(false,eval e X.env) :: starEach es X.env:=by rfl) (hpl:(backTo pos (starEach es X.env)).any (·.1)=false:=by rfl) :
    PE X (.Call (.Name x p) (e :: es) [] pos) (zcn sp dvs E t):=by
  intro pins s σ H Q I h
  refine wpAny_Call_Name_kw (zeK I hg hm ?_ hdb)
  refine PySem.W.callWith_K (h₀:=X.base) I.ok.mod.kin hk (thn (ha pos pins s σ H _ I h) fun us s1 ⟨vs,H1,I1,r,q⟩=>⟨I1.kIn,?_⟩) he hpl
  exact zfo F hr hb hd hx I1 r q
theorem zaN {pl:Sem Bool} (he:PE X o ta) (c:Cls X.K C) (hm:zbL X.K C m f) (F:FnOk X.prog X.w X.K X.mg X.base CX k f fd ps sp) (hr:aw k X.A) (hb:aq X.K fd ps ds) (hd:au dvs ds) (hx:zb4 CX X E) (ha:PA X (e :: es) t)
    (hst:starEach (e :: es) X.env=(false,eval e X.env) :: starEach es X.env:=by rfl) (hpl:(backTo pos (starEach es X.env)).any (·.1)=false:=by rfl)
    (ht:eval (.Call (.Attribute o m apos) (e :: es) [] pos) X.env=(do
      let ov ←eval o X.env
      standAt apos.atName
      let (f,first) ←holding [ov] (getMethod ov m pl)
      callWith pos f first (backTo pos (starEach (e :: es) X.env)) (backToKw pos (keywordEach [] X.env))):=by rfl) :
    PE X (.Call (.Attribute o m apos) (e :: es) [] pos) (tMeth C m sp dvs E ta t):=by
  intro pins s σ H Q I h
  refine PySem.W.methodCall_KW (pl:=pl) (thn (he pins s σ H _ I h) fun u s1 ⟨x,H1,I1,rx,a,dx,fs,ex,ea,l,q⟩=>?_) ht
  subst ex
  obtain rfl:u=Value.ref a:=rx
  refine zdn I1 ea c hm l ?_
  refine PySem.W.callWith_K (first:=[.ref a]) (h₀:=X.base) I.ok.mod.kin hm.kp (thn (ha pos pins s1 σ H1 _ I1 q) fun us s2 ⟨vs,H2,I2,r,q2⟩=>⟨I2.kIn,?_⟩) hst hpl
  exact zfo (us:=.ref a :: us) (vs:=.ref a :: vs) F hr hb hd hx I2 (.cons rfl r) q2
theorem zdi {pl:Sem Bool} (he:PE X o ta) (c:Cls X.K C) (hm:zbL X.K C m f) (F:FnOk X.prog X.w X.K X.mg X.base CX k f fd ps sp) (hr:aw k X.A) (hb:aq X.K fd ps ds) (hd:au dvs ds) (hx:zb4 CX X E)
    (ht:eval (.Call (.Attribute o m apos) [] [] pos) X.env=(do
      let ov ←eval o X.env
      standAt apos.atName
      let (f,first) ←holding [ov] (getMethod ov m pl)
      callWith pos f first (backTo pos (starEach [] X.env)) (backToKw pos (keywordEach [] X.env))):=by rfl) :
    PE X (.Call (.Attribute o m apos) [] [] pos) (tMeth C m sp dvs E ta zcv):=by
  intro pins s σ H Q I h
  refine PySem.W.methodCall_KW (pl:=pl) (thn (he pins s σ H _ I h) fun u s1 ⟨x,H1,I1,rx,a,dx,fs,ex,ea,l,q⟩=>?_) ht
  subst ex
  obtain rfl:u=Value.ref a:=rx
  refine zdn I1 ea c hm l ?_
  exact PySem.W.callWith_K0 (first:=[.ref a]) I1.kIn hm.kp (zfo (us:=[.ref a]) (vs:=[.ref a]) F hr hb hd hx I1 (.cons rfl .nil) q)
structure Mk (K:PySem.W.Frag) (C f:Addr):Prop where
  makes:PySem.W.makesIn K C=true
  init:PySem.W.findIn K (.ref C) "__init__"=some (some (.ref f))
  fn:PySem.W.isFn K (.ref f)=true
  kp:PySem.W.keepIn K (.ref C)=true
theorem zh6 {pins:List (Addr × Obj)} {σ:St} {H:Hp} {s:Shared} {Q:VK} {us:List Value} {vs:List V} (M:Mk X.K C f) (F:FnOk X.prog X.w X.K X.mg X.base CX k f fd ps sp) (hr:aw (k+1) X.A) (hb:aq X.K fd ps ds) (hd:au dvs ds)
    (hx:zb4 CX X E) (I:Inv X pins σ H s) (r:au vs us)
    (h:∀ x dx,H x=none→H dx=none→dx≠x→sp (.ref x :: (vs++dvs)) (upd (upd H dx (.own x)) x (.ins C dx [])) (fun v H2=>v=.non∧Q (.ref x) H2) E) :
    wpAny (model X.prog X.w) X.A (call (.ref C) us) (EP X pins σ Q) X.xe s:=by
  have hq:=h (s.heap.objs.size+1) s.heap.objs.size (I.hok.fresh (Nat.le_succ _)) (I.hok.fresh (Nat.le_refl _)) (Nat.ne_of_lt (Nat.lt_succ_self _))
  have I2:=Inv.made (C:=C) I
  have r2:au (V.ref (s.heap.objs.size+1) :: (vs++dvs)) (Value.ref (s.heap.objs.size+1) :: (us++ds)):=.cons rfl (r.append hd)
  have hl:(Value.ref (s.heap.objs.size+1) :: us++ds).length=ps.length:=by
    have e:=r2.length
    rw[F.len _ _ _ _ hq]at e
    exact e.symm
  refine wpAny_call (zio (f:=f) I.kIn M.makes M.init (beq_iff_eq.mp M.fn) (codeAny_mono (F.run _ X.stack _ _ ⟨Value.ref (s.heap.objs.size+1) :: us,[]⟩ (Value.ref (s.heap.objs.size+1) :: (us++ds)) _ _ E (hr.make C us [])
    (I2.env0.make C us []) (hb _ (Value.ref (s.heap.objs.size+1) :: us) I2.kIn hl) r2 hq) fun r s' hq'=>?_))
  cases r with
  | error e=>exact hx pins σ _ _ e s' I2 hq'
  | ok fl =>
    cases fl with
    | ret u =>
      obtain⟨v,H',I3,rv,ev,q3⟩:=I2.after hq'
      subst ev
      exact⟨rv,⟨V.ref (s.heap.objs.size+1),H',I3,rfl,q3⟩⟩
    | next=>exact False.elim hq'
    | brk=>exact False.elim hq'
    | cont=>exact False.elim hq'
theorem ziM (M:Mk X.K C f) (F:FnOk X.prog X.w X.K X.mg X.base CX k f fd ps sp) (hr:aw (k+1) X.A) (hg:Gl X x) (hm:X.mg x=some (.ref C)) (hb:aq X.K fd ps ds) (hd:au dvs ds) (hx:zb4 CX X E)
    (ha:PA X (e :: es) t) (hdb:(x == ("__debug__":Str))=false:=by decide) (he:starEach (e :: es) X.env=(false,eval e X.env) :: starEach es X.env:=by rfl) (hpl:(backTo pos (starEach es X.env)).any (·.1)=false:=by rfl) :
    PE X (.Call (.Name x p) (e :: es) [] pos) (tMake C sp dvs E t):=by
  intro pins s σ H Q I h
  refine wpAny_Call_Name_kw (zeK I hg hm ?_ hdb)
  refine PySem.W.callWith_K (h₀:=X.base) I.ok.mod.kin M.kp (thn (ha pos pins s σ H _ I h) fun us s1 ⟨vs,H1,I1,r,q⟩=>⟨I1.kIn,?_⟩) he hpl
  exact zh6 M F hr hb hd hx I1 r q
end
def PK (X:Cx) (kws:List Keyword) (t:TA):Prop :=
  ∀(pos:Pos) (pins:List (Addr × Obj)) (s:Shared) (σ:St) (H:Hp) (Q:List V→Hp→Prop),Inv X pins σ H s→t σ H Q→wpAny (model X.prog X.w) X.A (evalAll ((backToKw pos (keywordEach kws X.env)).map (·.2))) (AP X pins σ Q) X.xe s
section
variable {X:Cx} {CX:CXT} {k:Nat} {f C:Addr} {fd:FuncData} {ps ks:List Str} {sp:Sp} {E:XK} {x m:Str} {p pos apos kpos:Pos} {e o:Expr} {es:List Expr} {kws:List Keyword} {te ta:TE} {t tk:TA} {nm:Option Str}
theorem zhb:PK X [] zcv:=fun _ _ _ _ H Q I h=>wpAny_evalAll_nil ⟨[],H,I,.nil,h⟩
theorem zgj (ha:PE X e te) (hr:PK X kws t):PK X (⟨nm,e,kpos⟩ :: kws) (zci te t):=by
  intro pos pins s σ H Q I h
  show wpAny _ _ (evalAll ((do let v ←eval e X.env;standAt pos;pure v) :: (backToKw pos (keywordEach kws X.env)).map (·.2))) _ _ s
  refine wpAny_evalAll_cons (wpAny_bind (thn (ha pins s σ H _ I h) fun u s1 ⟨x,H1,I1,r1,q1⟩=>wpAny_bind (wpAny_standAt (wpAny_pure ?_))))
  exact thn (hr pos pins s1 σ H1 _ I1 q1) fun us s2 ⟨xs,H2,I2,r2,q2⟩=>⟨x :: xs,H2,I2,.cons r1 r2,q2⟩
variable {g:List Value→List Value→List Value} {gV:List V→List V→List V}
end
structure zad (N P:List Str) (sc:Scope):Prop where
  kind:sc.kind=.function
  co:sc.isCoroutine=false
  gen:sc.isGenerator=false
  nd:N.Nodup
  pre:N.take P.length=P
  par:∀ x∈P,sc.names.lookup x=some .local∨sc.names.lookup x=some .cell
  nofree:∀ y∈sc.names,y.2≠.free
theorem ze9 {kindOf:Str→Option NameKind} {x:Str}:∀ {binds:List (Str × Value)} {m:Str→Option Value},(∀ v,(x,v)∉binds)→bindL kindOf binds m x=m x
  | [],_,_=>rfl
  | (n,v) :: r,m,h=>by
    unfold bindL
    rw[ze9 fun w hw=>h w (List.mem_cons_of_mem _ hw)]
    split
    · have:x≠n:=by rintro rfl;exact h v List.mem_cons_self
      simp [this]
    · rfl
theorem zfb {kindOf:Str→Option NameKind} {x:Str}:∀ {binds:List (Str × Value)} {m:Str→Option Value},(∀ v,(x,v)∉binds)→bindC kindOf binds m x=m x
  | [],_,_=>rfl
  | (n,v) :: r,m,h=>by
    unfold bindC
    rw[zfb fun w hw=>h w (List.mem_cons_of_mem _ hw)]
    split
    · rfl
    · have:x≠n:=by rintro rfl;exact h v List.mem_cons_self
      simp [this]
theorem zfa {kindOf:Str→Option NameKind} {x:Str} {v:Value}:∀ {P:List Str} {vs:List Value} {i:Nat} {m:Str→Option Value},P.Nodup→P[i]?=some x→vs[i]?=some v→kindOf x=some .local →
    bindL kindOf (P.zip vs) m x=some v
  | [],_,_,_,_,h,_,_=>by simp at h
  | _ :: _,[],_,_,_,_,h,_=>by simp at h
  | p :: P,w :: vs,0,m,nd,h1,h2,hk=>by
    simp at h1 h2;subst h1;subst h2
    show bindL kindOf ((p,w) :: P.zip vs) m p=_
    unfold bindL
    rw[ze9 fun v hv=>(List.nodup_cons.mp nd).1 (List.of_mem_zip hv).1,if_pos hk]
    simp
  | p :: P,w :: vs,i+1,m,nd,h1,h2,hk=>by
    show bindL kindOf ((p,w) :: P.zip vs) m x=_
    unfold bindL
    exact zfa (i:=i) (List.nodup_cons.mp nd).2 (by simpa using h1) (by simpa using h2) hk
theorem zfc {kindOf:Str→Option NameKind} {x:Str} {v:Value}:∀ {P:List Str} {vs:List Value} {i:Nat} {m:Str→Option Value},P.Nodup→P[i]?=some x→vs[i]?=some v→kindOf x≠some .local →
    bindC kindOf (P.zip vs) m x=some v
  | [],_,_,_,_,h,_,_=>by simp at h
  | _ :: _,[],_,_,_,_,h,_=>by simp at h
  | p :: P,w :: vs,0,m,nd,h1,h2,hk=>by
    simp at h1 h2;subst h1;subst h2
    show bindC kindOf ((p,w) :: P.zip vs) m p=_
    unfold bindC
    rw[zfb fun v hv=>(List.nodup_cons.mp nd).1 (List.of_mem_zip hv).1,if_neg hk]
    simp
  | p :: P,w :: vs,i+1,m,nd,h1,h2,hk=>by
    show bindC kindOf ((p,w) :: P.zip vs) m x=_
    unfold bindC
    exact zfc (i:=i) (List.nodup_cons.mp nd).2 (by simpa using h1) (by simpa using h2) hk
def zcK (N:List Str) (vs:List V):St:=vs.map some++List.replicate (N.length - vs.length) none
def zbv (CX:CXT) (P:Program) (w:World) (K:PySem.W.Frag) (mg:Str→Option Value) (base:Heap) (N:List Str) (qual:Str) (scope:Scope) (f:Addr) (cd:Value) (A:Around) (outer:List Env) (s:Shared) (H:Hp) (E:XK):Cx where
  prog:=P
  w:=w
  K:=K
  mg:=mg
  base:=base
  A:=A.deeper (envOfC qual scope s.heap.objs.size f cd)
  N:=N
  s₀:=s
  H₀:=H
  env:=envOfC qual scope s.heap.objs.size f cd
  outer:=outer
  stack:=envOfC qual scope s.heap.objs.size f cd :: outer
  ex:=[]
  calm:=true
  fn:=fun _=>true
  pn:=[]
  xe:=fun e s'=>wpAny (model P w) (A.deeper (envOfC qual scope s.heap.objs.size f cd)) (leaving (envOfC qual scope s.heap.objs.size f cd) e) (fun _ s''=>CX outer H s E e s'') (fun e' s''=>CX outer H s E e' s'') s'
theorem zfZ {sc:Scope} {n:Nat} {x:Str} (h:sc.names.lookup x=some .cell):∃ c,(cellsFrom n sc.names []).lookup x=some c:=by
  have q:=PySem.W.cellsFrom_some sc.names n [] (.inl h)
  exact Option.isSome_iff_exists.mp q
theorem zhM {CX:CXT} {P:Program} {w:World} {K:PySem.W.Frag} {mg:Str→Option Value} {base:Heap} {N ps:List Str} {qual:Str} {scope:Scope} {f:Addr} {cd:Value} {A:Around} {outer:List Env} {s s1:Shared} {H:Hp} {E:XK} {us:List Value} {vs:List V}
    (S:zad N ps scope) (hd:A.handled=none) (e0:zdX P w K mg base A outer s H) (hl:vs.length=ps.length) (r:au vs us)
    (x:InCallC s s.heap.objs.size (bindL (envOfC qual scope s.heap.objs.size f cd).kindOf (ps.zip us) fun _=>none) (cellsFrom (s.heap.objs.size+1) scope.names []) (bindC (envOfC qual scope s.heap.objs.size f cd).kindOf (ps.zip us) fun _=>none) s1) :
    Inv (zbv CX P w K mg base N qual scope f cd A outer s H E) [] (zcK N vs) H s1:=by
  have hpl:ps.length≤N.length:=by have:=congrArg List.length S.pre;rw[List.length_take]at this;omega
  obtain⟨h1,tk,rfl,hk⟩:=x.done
  have noA:∀ b:Addr,b∉(zbv CX P w K mg base N qual scope f cd A outer s H E).ex:=fun b z=>absurd (show b∈([]:List Addr) from z) (by simp)
  refine⟨⟨e0.mod,S.kind,rfl,rfl,Nat.le_refl _,fun y z c h1 h2=>?_,fun y hy=>?_,fun y c _ h=>?_,fun _=>hd,Around.frames_deeper e0.frames,.inr ⟨rfl,rfl⟩,fun b z=>absurd z (noA b),e0.bs,e0.bsz,fun b _ _=>noA b,fun b z=>absurd z (noA b),e0.funs,e0.frf⟩,
    rfl,e0.bare,Un.kept hk,⟨_,x.toInCall.ns,fun i y v h1 h2 h3=>?_⟩,fun y c h=>⟨_,x.cell y c h⟩,e0.hok.fresh (Nat.le_refl _),fun y c h=>?_,fun p hp=>absurd (show p∈([]:List (Addr × Obj)) from hp) (by simp),e0.hok.kept hk,?_⟩
  · exact name_of_addr x.apart (PySem.mem_of_lookup h1) (PySem.mem_of_lookup h2)
  · have hy:scope.names.lookup y=some .cell∨scope.names.lookup y=some .free:=hy
    rcases hy with hy | hy
    · exact zfZ hy
    · exact absurd rfl (S.nofree _ (PySem.mem_of_lookup hy))
  · exact Nat.le_of_lt (x.above y c (PySem.mem_of_lookup h))
  · have hi:i < vs.length:=by
      unfold zcK at h2
      by_cases hi:i < vs.length
      · exact hi
      · rw[List.getElem?_append_right (by simpa using hi)]at h2
        rw[List.getElem?_replicate]at h2
        split at h2 <;> cases h2
    have ha:vs[i]?=some v:=by
      unfold zcK at h2
      rw[List.getElem?_append_left (by simpa using hi),List.getElem?_map]at h2
      cases e:vs[i]? with
      | none=>rw[e]at h2;cases h2
      | some a=>rw[e]at h2;cases h2;rfl
    obtain⟨u,hu,rv⟩:=r.get ha
    have hp:ps[i]?=some y:=by
      rw[←S.pre,List.getElem?_take_of_lt (by omega)];exact h1
    have ndP:ps.Nodup:=by rw[←S.pre];exact S.nd.sublist (List.take_sublist _ _)
    refine⟨u,rv,?_⟩
    rcases S.par y (List.mem_of_getElem? hp) with k | k
    · exact .inl ⟨k,zfa ndP hp hu k⟩
    · obtain⟨c,e⟩:=zfZ (n:=s.heap.objs.size+1) k
      refine .inr ⟨.inl k,c,e,?_⟩
      have q:=x.cell y c e
      rw[zfc ndP hp hu (by show scope.names.lookup y≠_;rw[k];decide)]at q
      exact q
  · exact e0.hok.fresh (Nat.le_of_lt (x.above y c (PySem.mem_of_lookup h)))
  · unfold zcK
    show _=N.length
    rw[List.length_append,List.length_map,List.length_replicate]
    omega
theorem fn_of {CX:CXT} {P:Program} {w:World} {K:PySem.W.Frag} {mg:Str→Option Value} {base:Heap} {k:Nat} {f:Addr} {name qual:Str} {params:Arguments} {body:List Stmt} {scope:Scope} {dV kV doc pm cdv ct oc:Value} {an od:Option Addr}
    {osl:Array (Option Value)} {N ps:List Str} {sp:Sp} (lk:K.lookup f=some ⟨oc,od,.func (PySem.W.fnOf name qual params body scope dV kV doc pm an cdv ct),osl⟩) (hcd:PySem.W.codeIn K cdv qual=true) (S:zad N ps scope)
    (len:∀ vs H Q E,sp vs H Q E→vs.length=ps.length)
    (hbody:∀(A:Around) (outer:List Env) (s:Shared) (H:Hp) (vs:List V) (Q:VK) (E:XK),aw k (A.deeper (envOfC qual scope s.heap.objs.size f cdv))→sp vs H Q E →
      ∃ t,PSs (zbv CX P w K mg base N qual scope f cdv A outer s H E) body t∧t { nx:=fun _ H'=>Q .non H',rt:=Q } (zcK N vs) H) :
    FnOk P w K mg base CX (k+1) f (PySem.W.fnOf name qual params body scope dV kV doc pm an cdv ct) ps sp:=by
  refine⟨len,fun A outer s H args us vs Q E hr e0 hb r hsp=>?_⟩
  have hl:=len _ _ _ _ hsp
  have KX:K.In s.heap:=e0.mod.kin.keeps fun b o e=>(e0.bs b o e).1
  have lim:s.heap.NoLimit:=e0.mod.nolimit.keeps fun b o e=>(e0.bs b o e).1
  have hkind:∀ y∈ps.zip us,scope.names.lookup y.1=some .local∨(scope.names.lookup y.1=some .cell∧((cellsFrom (s.heap.objs.size+1) scope.names []).lookup y.1).isSome=true):=fun⟨n,v⟩ hy=>by
    rcases S.par n (List.of_mem_zip hy).1 with q | q
    · exact .inl q
    · exact .inr ⟨q,PySem.W.cellsFrom_some _ _ _ (.inl q)⟩
  refine codeAny_call_function hr.depth (KX _ _ lk) rfl S.co S.gen rfl (PySem.W.codeRec_of KX hcd) (hb _ _ _ _ ?_)
  refine wpAny_newFunctionEnv_cells S.kind hkind fun env he s1 x=>?_
  subst he
  refine⟨lim.keeps x.toInCall.keep,codeAny_func ?_⟩
  obtain⟨t,ht,hq⟩:=hbody A outer s H vs Q E (hr.deeper _) hsp
  have I:Inv (zbv CX P w K mg base N qual scope f cdv A outer s H E) [] (zcK N vs) H s1:=zhM S hr.hd e0 hl r x
  refine wpAny_mono (ht [] s1 (zcK N vs) H _ I hq) (fun fl s' hs=>?_) fun e s' hs=>hs
  have fin:∀ {σ':St} {H':Hp} {v:V} {u:Value},Inv (zbv CX P w K mg base N qual scope f cdv A outer s H E) [] σ' H' s'→zak v u→Q v H'→CE outer P w H s Q u s' :=
    fun {σ' H' v u} J rv q=>⟨v,H',J.os,J.bare,J.base,J.hok,rv,q⟩
  cases fl with
  | ret u =>
    obtain⟨v,σ',H',J,rv,q⟩:=hs
    exact fin J rv q
  | next =>
    obtain⟨σ',H',J,q⟩:=hs
    exact fin (v:=V.non) (u:=Value.none) J rfl q
  | brk =>
    obtain⟨_,_,_,q⟩:=hs
    exact False.elim q
  | cont =>
    obtain⟨_,_,_,q⟩:=hs
    exact False.elim q
end L2
namespace L2
open PySem PySem.Spec PyProof.Rows
section
variable {X:Cx} {x:Str} {p pos:Pos} {e:Expr} {es:List Expr} {t:TA} {id T:String} {r:List V→Hp→VK→Prop}
def tCB (r:List V→Hp→VK→Prop) (t:TA):TE:=fun σ H Q=>t σ H fun vs H1=>r vs H1 Q
theorem zaI (hc:zbs X (.builtin id) r) (hg:Gl X x) (hm:X.mg x=none) (hv:bootBuiltins x=some (.builtin id)) (ha:PA X (e :: es) t) (hn:x≠"__name__":=by decide) (hdb:(x == ("__debug__":Str))=false:=by decide)
    (he:starEach (e :: es) X.env=(false,eval e X.env) :: starEach es X.env:=by rfl) (hpl:(backTo pos (starEach es X.env)).any (·.1)=false:=by rfl):PE X (.Call (.Name x p) (e :: es) [] pos) (tCB r t):=by
  intro pins s σ H Q I h
  refine wpAny_Call_Name_kw (zc0 I hg hm hv ?_ hn hdb)
  exact PyProof.Rows.callWith_builtin1 (thn (ha pos pins s σ H _ I h) fun us s1 ⟨vs,H1,I1,r1,q1⟩=>hc pins s1 σ H1 vs us Q I1 r1 q1) he hpl
theorem zbx (hc:zbs X (.type T) r) (hg:Gl X x) (hm:X.mg x=none) (hv:bootBuiltins x=some (.type T)) (ha:PA X (e :: es) t) (hn:x≠"__name__":=by decide) (hdb:(x == ("__debug__":Str))=false:=by decide)
    (he:starEach (e :: es) X.env=(false,eval e X.env) :: starEach es X.env:=by rfl) (hpl:(backTo pos (starEach es X.env)).any (·.1)=false:=by rfl):PE X (.Call (.Name x p) (e :: es) [] pos) (tCB r t):=by
  intro pins s σ H Q I h
  refine wpAny_Call_Name_kw (zc0 I hg hm hv ?_ hn hdb)
  exact PyProof.Rows.callWith_type1 (thn (ha pos pins s σ H _ I h) fun us s1 ⟨vs,H1,I1,r1,q1⟩=>hc pins s1 σ H1 vs us Q I1 r1 q1) he hpl
end
end L2
namespace HT
open PySem PyProof.Rows
section
open PySem.SeqAt
open PySem.AutoSeq1 (wpAny_loadPart')
open PySem.MeetsSeq PySem.MeetsSeq2 PySem.MeetsSeq3
end
section
variable {prog:Program} {w:World} {A:Around} {E:Value→Shared→Prop} {s:Shared}
def sIx (n d:Nat):Option Int→Nat
  | none=>d
  | some v=>if v < 0 then(v+(n:Int)).toNat else min v.toNat n
theorem sIx_none (n d:Nat):sIx n d none=d:=rfl
theorem sIx_nat (n d k:Nat):sIx n d (some (k:Int))=min k n:=by
  show(if(k:Int) < 0 then((k:Int)+(n:Int)).toNat else min (k:Int).toNat n)=min k n
  rw[if_neg (by omega),Int.toNat_natCast]
theorem sIx_le (n d:Nat) (hd:d≤n) (o:Option Int):sIx n d o≤n:=by
  cases o with
  | none=>exact hd
  | some v =>
    show(if v < 0 then(v+(n:Int)).toNat else min v.toNat n)≤n
    by_cases hv:v < 0
    · rw[if_pos hv];omega
    · rw[if_neg hv];exact Nat.min_le_right _ _
theorem zgC (v:Int) (n d:Nat):(if v < 0 then max (v+(n:Int)) 0 else min v (n:Int))=((sIx n d (some v):Nat):Int):=by
  show(if v < 0 then max (v+(n:Int)) 0 else min v (n:Int))=(((if v < 0 then(v+(n:Int)).toNat else min v.toNat n):Nat):Int)
  by_cases hv:v < 0
  · simp only[if_pos hv];omega
  · simp only[if_neg hv];omega
theorem zg6 (lo hi:Option Int) (n:Nat):Builtin.Slice.sliceAdjust lo hi 1 (n:Int)=(((sIx n 0 lo:Nat):Int),((sIx n n hi:Nat):Int)):=by
  have h1:¬((1:Int) < 0):=by omega
  unfold Builtin.Slice.sliceAdjust
  simp only[h1,if_false]
  refine Prod.ext ?_ ?_
  · cases lo with
    | none=>rfl
    | some v=>exact zgC v n 0
  · cases hi with
    | none=>rfl
    | some v=>exact zgC v n n
theorem zgU (i j:Nat):Builtin.Slice.slicePlaces (i:Int) (j:Int) 1=j - i:=by
  unfold Builtin.Slice.slicePlaces
  have h1:(1:Int) > 0:=by omega
  simp only[h1,if_true,Int.ediv_one]
  split <;> omega
theorem zeo {v:Value} {o:Option Int} {Q:Option Int→Shared→Prop} (p:IsPart v o) (h:Q o s):wpAny (model prog w) A (Builtin.Slice.slicePartIndex v) Q E s:=by
  cases p with
  | none=>exact slicePart_none h
  | int i t=>exact slicePart_int h
theorem zd7 {sl:Addr} {vl vu:Value} {lo hi:Option Int} {n:Nat} {Q:Int × Int × Nat→Shared→Prop} (hs:s.heap.IsSliceOf sl vl vu .none) (pl:IsPart vl lo) (pu:IsPart vu hi)
    (h:Q (((sIx n 0 lo:Nat):Int),1,sIx n n hi - sIx n 0 lo) s):wpAny (model prog w) A (Builtin.Slice.sliceApplied (.ref sl) (pure (n:Int))) Q E s:=by
  obtain⟨os,hos,hcs,hds⟩:=id hs
  unfold Builtin.Slice.sliceApplied Builtin.Slice.sliceFields
  refine wpAny_bind (wpAny_bind (wpAny_field hos hds (x:=vl) rfl (wpAny_bind (wpAny_field hos hds (x:=vu) rfl (wpAny_bind (wpAny_field hos hds (x:=.none) rfl (wpAny_pure ?_)))))))
  refine wpAny_bind (slicePart_none ?_)
  show wpAny _ _ (if((1:Int) == 0)=true then _ else _) _ _ s
  rw[if_neg (by decide)]
  refine wpAny_bind (zeo pl (wpAny_bind (zeo pu (wpAny_bind (wpAny_pure ?_)))))
  show wpAny _ _ (match Builtin.Slice.sliceAdjust lo hi 1 (n:Int) with | (lo,hi)=>pure (lo,(1:Int),Builtin.Slice.slicePlaces lo hi 1)) _ _ s
  rw[zg6 lo hi n]
  show wpAny _ _ (pure (((sIx n 0 lo:Nat):Int),(1:Int),Builtin.Slice.slicePlaces ((sIx n 0 lo:Nat):Int) ((sIx n n hi:Nat):Int) 1)) _ _ s
  rw[zgU]
  exact wpAny_pure h
theorem zia (xs:Array Value) (i k:Nat):((List.range k).filterMap fun(m:Nat)=>xs[((i:Int)+(m:Int) * 1).toNat]?).toArray=((xs.toList.drop i).take k).toArray:=by
  have e:(fun(m:Nat)=>xs[((i:Int)+(m:Int) * 1).toNat]?)=fun m=>xs[i+m]?:=by
    funext m
    have:((i:Int)+(m:Int) * 1).toNat=i+m:=by omega
    rw[this]
  rw[e]
  have:=pick_run xs i k
  rw[List.filterMap_map]at this
  have e2:((fun x=>xs[x]?) ∘ fun x=>i+x)=fun m=>xs[i+m]?:=rfl
  rw[e2]at this
  rw[this]
theorem getItem_tuple_cut {t sl:Addr} {items:Array Value} {vl vu:Value} {lo hi:Option Int} {Q:Value→Shared→Prop} (ht:IsTup s.heap t items) (hs:s.heap.IsSliceOf sl vl vu .none) (pl:IsPart vl lo) (pu:IsPart vu hi)
    (hw:¬(sIx items.size 0 lo=0∧sIx items.size items.size hi=items.size))
    (h:Q (.ref s.heap.objs.size) { s with heap:=s.heap.push { cls:=.type "tuple",data:=.seq ((items.toList.drop (sIx items.size 0 lo)).take (sIx items.size items.size hi - sIx items.size 0 lo)).toArray } })
    (hsz:items.size≤sizeLine):wpAny (model prog w) A (getItem (.ref t) (.ref sl)) Q E s:=by
  have htake:sizeOk (.seq ((items.toList.drop (sIx items.size 0 lo)).take (sIx items.size items.size hi - sIx items.size 0 lo)).toArray):=by
    show((items.toList.drop (sIx items.size 0 lo)).take (sIx items.size items.size hi - sIx items.size 0 lo)).toArray.size≤sizeLine
    rw[List.size_toArray,List.length_take,List.length_drop,Array.length_toList]
    omega
  have hj:sIx items.size items.size hi≤items.size:=sIx_le _ _ (Nat.le_refl _) hi
  obtain⟨os,hos,hcs,hds⟩:=id hs
  have hTs:s.TypeIs (.ref sl) "slice":=⟨os,hos,hcs⟩
  unfold getItem
  try with_reducible refine wpAny_holding ?_
  first | refine wpAny_bind (wpAny_pure ?_) | skip
  refine wpAny_bind (wpAny_sequenceKey ht.typeIs (by decide) ?_)
  refine wpAny_bind (wpAny_callSpecial?_slot (name:=Str.ofString "__getitem__") ht.typeIs PyProof.Rows.slot_tuple_getitem
    (wpAny_call_entry PyProof.Rows.slot_tuple_getitem ht.typeIs entry_tuple_getitem ?_ (args_tuple_getitem _ _)))
  show wpAny _ _ (Builtin.Tuple.tupleItemsOf (.ref t) >>= _) _ _ s
  refine wpAny_bind (tupleItemsOf_ ht ?_)
  refine wpAny_bind (wpAny_typeOf hTs ?_)
  rw[if_pos (by decide)]
  refine wpAny_bind (zd7 hs pl pu ?_)
  have hno:¬((((sIx items.size 0 lo:Nat):Int) == 0&&(1:Int) == 1&&(sIx items.size items.size hi - sIx items.size 0 lo) == items.size)=true):=by
    intro q
    rw[Bool.and_eq_true,Bool.and_eq_true]at q
    have q1:((sIx items.size 0 lo:Nat):Int)=0:=eq_of_beq q.1.1
    have q2:sIx items.size items.size hi - sIx items.size 0 lo=items.size:=eq_of_beq q.2
    exact hw ⟨by omega,by omega⟩
  show wpAny _ _ (if(((sIx items.size 0 lo:Nat):Int) == 0&&(1:Int) == 1&&(sIx items.size items.size hi - sIx items.size 0 lo) == items.size)=true then _ else _) _ _ s
  rw[if_neg hno,zia]
  first
    | exact wpAny_bind (m:=Builtin.Tuple.tupleExact _) (wpAny_newObj_type (wpAny_pure ⟨_,rfl,wpAny_pure h⟩) htake)
    | exact wpAny_bind (m:=Builtin.Tuple.tupleExact _) (wpAny_newObj_type (wpAny_bind (wpAny_pure (wpAny_pure ⟨_,rfl,wpAny_pure h⟩))) htake)
    | exact wpAny_bind (wpAny_bind (m:=Builtin.Tuple.tupleExact _) (wpAny_newObj_type (wpAny_pure (wpAny_pure ⟨_,rfl,wpAny_pure h⟩)) htake))
    | exact wpAny_bind (wpAny_bind (m:=Builtin.Tuple.tupleExact _) (wpAny_newObj_type (wpAny_pure ⟨_,rfl,wpAny_pure h⟩) htake))
end
end HT
namespace L2
open PySem PySem.Spec PyProof.Rows
abbrev TO:=St→Hp→(Option Int→Hp→Prop)→Prop
def PO (X:Cx) (e:Option Expr) (t:TO):Prop :=
  ∀(pins:List (Addr × Obj)) (s:Shared) (σ:St) (H:Hp) (Q:Option Int→Hp→Prop),Inv X pins σ H s→t σ H Q →
    wpAny (model X.prog X.w) X.A (evalPart e X.env) (fun u s'=>∃ o H',Inv X pins σ H' s'∧IsPart u o∧Q o H') X.xe s
def zix:TO:=fun _ H Q=>Q none H
def tPart (t:TE):TO:=fun σ H Q=>t σ H fun x H1=>∃ i,x=.int i∧Q (some i) H1
section
variable {X:Cx} {e:Expr} {te:TE} {lo hi:Option Expr} {tl th:TO} {pos p2:Pos}
theorem zbF:PO X none zix:=by
  intro pins s σ H Q I h
  rw[evalPart_none]
  exact wpAny_pure ⟨none,H,I,.none,h⟩
theorem zbi (h:PE X e te):PO X (some e) (tPart te):=by
  intro pins s σ H Q I hw
  rw[evalPart_some]
  refine thn (h pins s σ H _ I hw) fun u s1 ⟨x,H1,I1,r1,q1⟩=>?_
  obtain⟨i,rfl,q⟩:=q1
  obtain⟨t,rfl⟩:=r1
  exact⟨some i,H1,I1,.int i t,q⟩
def SlR (X:Cx) (r:V→Option Int→Option Int→Hp→VK→Prop):Prop :=
  ∀(pins:List (Addr × Obj)) (s:Shared) (σ:St) (H:Hp) (x:V) (v vl vu:Value) (lo hi:Option Int) (sl:Addr) (Q:VK),Inv X pins σ H s→zak x v→s.heap.IsSliceOf sl vl vu .none→IsPart vl lo→IsPart vu hi→r x lo hi H Q →
    ∃ T id,typeLookup (.type T) "__getitem__"=pure (some (.builtin id))∧s.TypeIs v T∧wpAny (model X.prog X.w) X.A (getItem v (.ref sl)) (EP X pins σ Q) X.xe s
theorem SlR.or {r r':V→Option Int→Option Int→Hp→VK→Prop} (h:SlR X r) (h':SlR X r'):SlR X (fun x lo hi H Q=>r x lo hi H Q∨r' x lo hi H Q):=by
  intro pins s σ H x v vl vu lo hi sl Q I rx hs pl pu q
  rcases q with q | q
  · exact h pins s σ H x v vl vu lo hi sl Q I rx hs pl pu q
  · exact h' pins s σ H x v vl vu lo hi sl Q I rx hs pl pu q
def tSl (r:V→Option Int→Option Int→Hp→VK→Prop) (te:TE) (tl th:TO):TE:=fun σ H Q=>te σ H fun x H1=>tl σ H1 fun l H2=>th σ H2 fun u H3=>r x l u H3 Q
theorem zbg {r:V→Option Int→Option Int→Hp→VK→Prop} (hr:SlR X r) (he:PE X e te) (hl:PO X lo tl) (hu:PO X hi th):PE X (.Subscript e (.Slice lo hi none p2) pos) (tSl r te tl th):=by
  intro pins s σ H Q I h
  refine Subscript_ (thn (he pins s σ H _ I h) fun v s1 ⟨x,H1,I1,r1,q1⟩=>?_)
  refine wpAny_Slice (thn (hl pins s1 σ H1 _ I1 q1) fun vl s2 ⟨l,H2,I2,pl,q2⟩=>thn (hu pins s2 σ H2 _ I2 q2) fun vu s3 ⟨u,H3,I3,pu,q3⟩=>?_)
  rw[evalPart_none]
  refine wpAny_pure ?_
  have I4:Inv X pins σ H3 { s3 with heap:=s3.heap.push { cls:=.type "slice",data:=.fields #[vl,vu,.none] } }:=I3.kept (t':=s3.toks) fun b ob q=>Heap.get?_push_of_some _ q
  obtain⟨T,id,hT,ht,hg⟩:=hr pins { s3 with heap:=s3.heap.push { cls:=.type "slice",data:=.fields #[vl,vu,.none] } } σ H3 x v vl vu l u s3.heap.objs.size Q I4 r1 (Heap.IsSliceOf.new ..) pl pu q3
  show wpAny (model X.prog X.w) X.A (subscriptTail e (.Slice lo hi none p2) v (.ref s3.heap.objs.size)) (EP X pins σ Q) X.xe { s3 with heap:=s3.heap.push { cls:=.type "slice",data:=.fields #[vl,vu,.none] } }
  exact tail_any (ops:=[.ref s3.heap.objs.size,v]) ht hT hg (by with_unfolding_all rfl)
def zbK (xs:List V) (lo hi:Option Int):List V:=(xs.drop (HT.sIx xs.length 0 lo)).take (HT.sIx xs.length xs.length hi - HT.sIx xs.length 0 lo)
theorem zdT (xs:List V) (lo hi:Option Int):(zbK xs lo hi).length≤xs.length:=by
  unfold zbK
  rw[List.length_take,List.length_drop]
  omega
def rSlT (K:PySem.W.Frag):V→Option Int→Option Int→Hp→VK→Prop:=fun x lo hi H Q=>∃ a xs,x=.ref a∧SqT K H a xs ∧
  ¬(HT.sIx xs.length 0 lo=0∧HT.sIx xs.length xs.length hi=xs.length)∧∀ p,H p=none→Q (.ref p) (upd H p (.tup (zbK xs lo hi)))
theorem zfl:SlR X (rSlT X.K):=by
  intro pins s σ H x v vl vu lo hi sl Q I rx hs pl pu h
  obtain⟨a,xs,rfl,hx,hw,q⟩:=h
  cases rx
  obtain⟨its,r,ht,hz⟩:=I.tuple hx
  have hlen:its.toArray.size=xs.length:=by rw[List.size_toArray];exact r.length.symm
  refine⟨"tuple",_,PyProof.Rows.slot_tuple_getitem.lookup,ht.typeIs,?_⟩
  refine HT.getItem_tuple_cut ht hs pl pu (by rw[hlen];exact hw) ?_ (by rw[hlen];exact hz)
  rw[hlen]
  refine⟨.ref s.heap.objs.size,_,I.laid (t':=s.toks) (o:=.tup (zbK xs lo hi)) (fun b ob q=>Heap.get?_push_of_some _ q) (Nat.le_refl _) ?_,rfl,q _ (I.hok.fresh (Nat.le_refl _))⟩
  exact⟨Nat.le_trans (zdT xs lo hi) hz,_,(r.drop (HT.sIx xs.length 0 lo)).take (HT.sIx xs.length xs.length hi - HT.sIx xs.length 0 lo),IsTup.new _ _⟩
end
end L2
namespace L2
open PySem PySem.Spec PyProof.Rows
def ixN (n:Nat) (i:Int):Option Nat:=if 0≤i then(if i < n then some i.toNat else none) else if -(n:Int)≤i then some (i+n).toNat else none
def atI {α:Type} (xs:List α) (i:Int):Option α:=(ixN xs.length i).bind fun j=>xs[j]?
theorem ziU {n:Nat} {i:Int} {j:Nat} (h:ixN n i=some j):seqIndex? i n=some j∧j < n∧-(n:Int)≤i∧i < n:=by
  unfold ixN at h
  by_cases h0:0≤i
  · rw[if_pos h0]at h
    by_cases h1:i < n
    · rw[if_pos h1]at h
      have e:i.toNat=j:=Option.some.inj h
      exact⟨by rw[seqIndex_of h0 h1,e],by omega,by omega,h1⟩
    · rw[if_neg h1]at h;cases h
  · rw[if_neg h0]at h
    by_cases h1:-(n:Int)≤i
    · rw[if_pos h1]at h
      have e:(i+n).toNat=j:=Option.some.inj h
      exact⟨by rw[seqIndex_neg (by omega) h1,e],by omega,h1,by omega⟩
    · rw[if_neg h1]at h;cases h
theorem zc9 {α:Type} {xs:List α} {i:Int} {v:α} (h:atI xs i=some v):∃ j,seqIndex? i xs.length=some j∧xs[j]?=some v∧j < xs.length∧-(xs.length:Int)≤i∧i < xs.length:=by
  unfold atI at h
  cases e:ixN xs.length i with
  | none=>rw[e]at h;cases h
  | some j =>
    rw[e]at h
    obtain⟨h1,h2,h3,h4⟩:=ziU e
    exact⟨j,h1,h,h2,h3,h4⟩
theorem zat {α:Type} {xs:List α} {j:Nat} {v:α} (h:xs[j]?=some v):atI xs (j:Int)=some v:=by
  have hj:j < xs.length:=(List.getElem?_eq_some_iff.mp h).1
  have e:ixN xs.length (j:Int)=some j:=by
    unfold ixN
    rw[if_pos (by omega),if_pos (by omega)];simp
  unfold atI;rw[e];exact h
theorem zf0 {α:Type} (xs:List α) (v:α):atI (xs++[v]) (-1)=some v:=by
  have hl:(xs++[v]).length=xs.length+1:=by simp
  have e:ixN (xs++[v]).length (-1)=some xs.length:=by
    unfold ixN
    rw[hl,if_neg (by decide),if_pos (by omega)]
    congr 1
    omega
  unfold atI
  rw[e]
  show(xs++[v])[xs.length]?=some v
  simp
def zi3 (b:Expr):Prop:=∀ o i,subscripted b false o i=operate [o,i] (getItem o i)
def IxR (X:Cx) (r:R2):Prop :=
  ∀(value slice:Expr) (pins:List (Addr × Obj)) (s:Shared) (σ:St) (H:Hp) (x y:V) (v u:Value) (Q:VK),Inv X pins σ H s→zak x v→zak y u→r x y H Q →
    subscripted slice false v u=operate [v,u] (getItem v u)→wpAny (model X.prog X.w) X.A (subscriptTail value slice v u) (EP X pins σ Q) X.xe s
def MtR (X:Cx) (id:String) (r:V→List V→Hp→VK→Prop):Prop :=
  ∀(pins:List (Addr × Obj)) (s:Shared) (σ:St) (H:Hp) (x:V) (xs:List V) (v:Value) (us:List Value) (Q:VK),Inv X pins σ H s→zak x v→au xs us→r x xs H Q →
    wpAny (model X.prog X.w) X.A (call (.builtin id) (v :: us)) (EP X pins σ Q) X.xe s
section
variable {X:Cx} {a b:Expr} {ta tb:TE} {pos:Pos}
theorem IxR.or {r r':R2} (h:IxR X r) (h':IxR X r'):IxR X (fun x y H Q=>r x y H Q∨r' x y H Q):=by
  intro value slice pins s σ H x y v u Q I rx ry q hs
  rcases q with q | q
  · exact h value slice pins s σ H x y v u Q I rx ry q hs
  · exact h' value slice pins s σ H x y v u Q I rx ry q hs
theorem MtR.or {id:String} {r r':V→List V→Hp→VK→Prop} (h:MtR X id r) (h':MtR X id r'):MtR X id (fun x xs H Q=>r x xs H Q∨r' x xs H Q):=by
  intro pins s σ H x xs v us Q I rx rs q
  rcases q with q | q
  · exact h pins s σ H x xs v us Q I rx rs q
  · exact h' pins s σ H x xs v us Q I rx rs q
theorem av {r:R2} (hr:IxR X r) (ha:PE X a ta) (hb:PE X b tb) (hs:zi3 b):PE X (.Subscript a b pos) (tOp r ta tb):=by
  intro pins s σ H Q I h
  exact Subscript_ (binT ha hb I h fun v u s2 x y H2 I2 rx ry q=>hr a b pins s2 σ H2 x y v u Q I2 rx ry q (hs _ _))
def rIxL (K:PySem.W.Frag):R2:=fun x y H Q=>∃ p xs i v,x=.ref p∧y=.int i∧SqL K H p xs∧atI xs i=some v∧Q v H
def rIxT (K:PySem.W.Frag):R2:=fun x y H Q=>∃ p xs i v,x=.ref p∧y=.int i∧SqT K H p xs∧atI xs i=some v∧Q v H
def rIxS:R2:=fun x y H Q=>∃ z i c,x=.str z∧y=.int i∧z.length≤sizeLine∧atI z.cps.toList i=some c∧Q (.str ⟨#[c]⟩) H
theorem zap:IxR X (rIxL X.K):=by
  intro value slice pins s σ H x y v u Q I rx ry h hs
  obtain⟨p,xs,i,z,rfl,rfl,hq,he,q⟩:=h
  cases rx
  obtain⟨t,rfl⟩:=ry
  obtain⟨its,r,pl,hz⟩:=I.list hq
  obtain⟨j,h1,h2,h3,h4,h5⟩:=zc9 he
  obtain⟨w,ew,rw'⟩:=r.get h2
  have hl:=r.length
  have hn:=zdt
  have fin:EP X pins σ Q w s:=⟨z,H,I,rw',q⟩
  by_cases h0:0≤i
  · have hj:i.toNat=j:=by
      rw[seqIndex_of h0 h5]at h1
      exact Option.some.inj h1
    exact item_listR pl.isList h0 (by omega) (by rw[hj];simpa using ew) fin hs
  · have hj:(i+(its.toArray.size:Int)).toNat=j:=by
      rw[seqIndex_neg (by omega) h4]at h1
      rw[List.size_toArray,←hl]
      exact Option.some.inj h1
    exact subscriptTail_builtinR (x:=w) pl.isList.typeIs slot_list_getitem.lookup
      (wpAny_getItem_list_neg (Q:=fun r s'=>r=w∧EP X pins σ Q r s') pl.isList (by omega) (by rw[List.size_toArray] <;> omega) (by omega) (by rw[hj];simpa using ew) ⟨rfl,fin⟩) hs
theorem zan:IxR X (rIxT X.K):=by
  intro value slice pins s σ H x y v u Q I rx ry h hs
  obtain⟨p,xs,i,z,rfl,rfl,hq,he,q⟩:=h
  cases rx
  obtain⟨t,rfl⟩:=ry
  obtain⟨its,r,pl,hz⟩:=I.tuple hq
  obtain⟨j,h1,h2,h3,h4,h5⟩:=zc9 he
  obtain⟨w,ew,rw'⟩:=r.get h2
  have hl:=r.length
  have hn:=zdt
  have fin:EP X pins σ Q w s:=⟨z,H,I,rw',q⟩
  exact subscriptTail_builtinR (x:=w) pl.typeIs slot_tuple_getitem.lookup
    (getItem_tuple (j:=j) (Q:=fun r s'=>r=w∧EP X pins σ Q r s') pl (by omega) (by omega) (by rw[List.size_toArray,←hl];exact h1) (by simpa using ew) ⟨rfl,fin⟩) hs
theorem zhj:IxR X rIxS:=by
  intro value slice pins s σ H x y v u Q I rx ry h hs
  obtain⟨z,i,c,rfl,rfl,hz,he,q⟩:=h
  obtain⟨t,rfl⟩:=rx
  obtain⟨t',rfl⟩:=ry
  obtain⟨j,h1,h2,h3,h4,h5⟩:=zc9 he
  have hl:z.cps.toList.length=z.length:=by simp [Str.length]
  rw[hl]at h1 h4 h5
  have hn:=zdt
  exact tail_any (typeIs_str s z t) slot_str_getitem.lookup (getItem_str (c:=c) (by
    have e1:decide (i < -(2 ^ 63:Int))=false:=decide_eq_false (by omega)
    have e2:decide (i≥2 ^ 63)=false:=decide_eq_false (by omega)
    rw[e1,e2,Bool.or_false]) (by rw[h1];simpa using h2) ⟨.str ⟨#[c]⟩,H,I.tok _,⟨_,rfl⟩,q⟩) hs
theorem Inv.lst {pins:List (Addr × Obj)} {σ:St} {H:Hp} {s:Shared} {p:Addr} {xs:List V} (I:Inv X pins σ H s) (h:H p=some (.lst xs)) :
    ∃(its:List Value) (n:Nat),au xs its∧s.heap.get? p=some { cls:=.type "list",data:=.seq its.toArray n }∧xs.length≤sizeLine:=by
  obtain⟨z,its,n,r,e⟩:=I.hok p _ h
  exact⟨its,n,r,e,z⟩
theorem zf2 (lo hi:Option Int) (n:Nat):(sliceBounds lo hi none n).1=((HT.sIx n 0 lo:Nat):Int)∧(sliceBounds lo hi none n).2.1=((HT.sIx n n hi:Nat):Int)∧(sliceBounds lo hi none n).2.2=1:=by
  refine⟨?_,?_,rfl⟩
  · cases lo with
    | none=>simp [sliceBounds,HT.sIx]
    | some i =>
      simp only[sliceBounds,HT.sIx,Option.getD_none,show(1:Int) > 0 by decide,if_true]
      by_cases h:i < 0
      · simp only[h,if_true] <;> omega
      · simp only[h,if_false] <;> omega
  · cases hi with
    | none=>simp [sliceBounds,HT.sIx]
    | some i =>
      simp only[sliceBounds,HT.sIx,Option.getD_none,show(1:Int) > 0 by decide,if_true]
      by_cases h:i < 0
      · simp only[h,if_true] <;> omega
      · simp only[h,if_false] <;> omega
theorem zfd (its:List Value) (lo hi:Option Int):slicePick its.toArray lo hi none=((its.drop (HT.sIx its.length 0 lo)).take (HT.sIx its.length its.length hi - HT.sIx its.length 0 lo)).toArray:=by
  obtain⟨h1,h2,h3⟩:=zf2 lo hi its.toArray.size
  unfold slicePick
  rw[h1,h2,h3]
  simp only[sliceRange_one,pick_run,List.size_toArray] <;> rfl
def rSlL (K:PySem.W.Frag):V→Option Int→Option Int→Hp→VK→Prop:=fun x lo hi H Q=>∃ a xs,x=.ref a∧SqL K H a xs∧∀ p,H p=none→Q (.ref p) (upd H p (.lst (zbK xs lo hi)))
theorem zeD:SlR X (rSlL X.K):=by
  intro pins s σ H x v vl vu lo hi sl Q I rx hs pl pu h
  obtain⟨a,xs,rfl,hx,q⟩:=h
  cases rx
  obtain⟨its,r,ht,hz⟩:=I.list hx
  have hlen:=r.length
  refine⟨"list",_,slot_list_getitem.lookup,ht.isList.typeIs,?_⟩
  refine wpAny_getItem_list_slice ht.isList hs pl pu .none (by simp) ?_ (by rw[List.size_toArray] <;> omega)
  rw[zfd,←hlen]
  refine⟨.ref s.heap.objs.size,_,I.laid (t':=s.toks) (o:=.lst (zbK xs lo hi)) (fun b ob q=>Heap.get?_push_of_some _ q) (Nat.le_refl _) ?_,rfl,q _ (I.hok.fresh (Nat.le_refl _))⟩
  exact⟨Nat.le_trans (zdT xs lo hi) hz,_,0,(r.drop (HT.sIx xs.length 0 lo)).take (HT.sIx xs.length xs.length hi - HT.sIx xs.length 0 lo),Heap.get?_push_size _ rfl⟩
def zb2:V→Bool
  | .non=>true
  | .bl _=>true
  | .int _=>true
  | .str _=>true
  | _=>false
def eqV:V→V→Bool
  | .non,.non=>true
  | .bl a,.bl b=>a == b
  | .bl a,.int b=>(if a then 1 else 0) == b
  | .int a,.bl b=>a == (if b then 1 else 0)
  | .int a,.int b=>a == b
  | .str a,.str b=>a == b
  | _,_=>false
theorem zdv {A:Around} {s:Shared} {y x:V} {u v:Value} (ry:zak y u) (rx:zak x v) (fy:zb2 y=true) (fx:zb2 x=true):SeqAt.EqAt A s u v (eqV y x):=by
  cases y with
  | non =>
    cases ry
    cases x with
    | non=>cases rx;exact SeqAt.EqAt.same _
    | bl b=>cases rx;exact SeqAt.EqAt.none_bool b
    | int b=>obtain⟨t,rfl⟩:=rx;exact SeqAt.EqAt.none_int b t
    | str b=>obtain⟨t,rfl⟩:=rx;exact SeqAt.EqAt.none_str b t
    | _=>exact absurd (show false=true from fx) Bool.false_ne_true
  | bl a =>
    cases ry
    cases x with
    | non=>cases rx;exact SeqAt.EqAt.bool_none a
    | bl b=>cases rx;exact SeqAt.EqAt.bool_bool a b
    | int b=>obtain⟨t,rfl⟩:=rx;exact SeqAt.EqAt.bool_int a b t
    | str b=>obtain⟨t,rfl⟩:=rx;exact SeqAt.EqAt.bool_str a b t
    | _=>exact absurd (show false=true from fx) Bool.false_ne_true
  | int a =>
    obtain⟨t',rfl⟩:=ry
    cases x with
    | non=>cases rx;exact SeqAt.EqAt.int_none a t'
    | bl b=>cases rx;exact SeqAt.EqAt.int_bool a t' b
    | int b=>obtain⟨t,rfl⟩:=rx;exact SeqAt.EqAt.int_int a t' b t
    | str b=>obtain⟨t,rfl⟩:=rx;exact SeqAt.EqAt.int_str a t' b t
    | _=>exact absurd (show false=true from fx) Bool.false_ne_true
  | str a =>
    obtain⟨t',rfl⟩:=ry
    cases x with
    | non=>cases rx;exact SeqAt.EqAt.str_none a t'
    | bl b=>cases rx;exact SeqAt.EqAt.str_bool a t' b
    | int b=>obtain⟨t,rfl⟩:=rx;exact SeqAt.EqAt.str_int a t' b t
    | str b=>obtain⟨t,rfl⟩:=rx;exact SeqAt.EqAt.str_str a t' b t
    | _=>exact absurd (show false=true from fx) Bool.false_ne_true
  | _=>exact absurd (show false=true from fy) Bool.false_ne_true
def eqU (x:V) (u:Value):Bool:=match u with
  | .none=>eqV .non x
  | .bool b=>eqV (.bl b) x
  | .int i _=>eqV (.int i) x
  | .str z _=>eqV (.str z) x
  | _=>false
theorem zho {x y:V} {u:Value} (r:zak y u) (f:zb2 y=true):eqU x u=eqV y x:=by
  cases y with
  | non=>cases r;rfl
  | bl b=>cases r;rfl
  | int i=>obtain⟨t,rfl⟩:=r;rfl
  | str z=>obtain⟨t,rfl⟩:=r;rfl
  | _=>exact absurd (show false=true from f) Bool.false_ne_true
theorem zda {x:V}:∀ {xs:List V} {us:List Value},au xs us→xs.all zb2=true→us.any (eqU x)=xs.any fun y=>eqV y x
  | _,_,.nil,_=>rfl
  | y :: xs,u :: us,.cons r t,f=>by
    rw[List.all_cons,Bool.and_eq_true]at f
    rw[List.any_cons,List.any_cons,zho r f.1,zda t f.2]
theorem zcD {A:Around} {s:Shared} {x:V} {v:Value} (rx:zak x v) (fx:zb2 x=true):∀ {xs:List V} {us:List Value},au xs us→xs.all zb2=true→∀ u∈us,SeqAt.EqAt A s u v (eqU x u)
  | _,_,.nil,_=>fun u hu=>by cases hu
  | y :: xs,u :: us,.cons r t,f=>fun u' hu=>by
    rw[List.all_cons,Bool.and_eq_true]at f
    rcases List.mem_cons.mp hu with rfl | hu
    · rw[zho r f.1];exact zdv r rx f.1 fx
    · exact zcD rx fx t f.2 u' hu
def inV (x:V) (xs:List V):Bool:=xs.any fun y=>eqV y x
def rIn (K:PySem.W.Frag) (neg:Bool):R2:=fun x y H Q=>∃ p xs,y=.ref p∧(SqL K H p xs∨SqT K H p xs)∧zb2 x=true∧xs.all zb2=true∧Q (.bl (if neg then !inV x xs else inV x xs)) H
theorem zdD:OpR X (compareOp .In) (rIn X.K false):=by
  intro pins s σ H x y v u Q I rx ry h
  obtain⟨p,xs,rfl,hq,fx,fs,q⟩:=h
  cases ry
  rcases hq with hq | hq
  · obtain⟨its,r,pl,hz⟩:=I.list hq
    refine SeqAt.in_listAt (eqU x) pl.isList (fun w hw=>zcD rx fx r fs w (by simpa using hw)) ⟨.bl _,H,I,rfl,?_⟩
    rw[show its.toArray.any (eqU x)=its.any (eqU x) by simp,zda r fs]
    exact q
  · obtain⟨its,r,pl,hz⟩:=I.tuple hq
    refine SeqAt.in_tupleAt (eqU x) pl (fun w hw=>zcD rx fx r fs w (by simpa using hw)) ⟨.bl _,H,I,rfl,?_⟩
    rw[show its.toArray.any (eqU x)=its.any (eqU x) by simp,zda r fs]
    exact q
theorem zf4:OpR X (compareOp .NotIn) (rIn X.K true):=by
  intro pins s σ H x y v u Q I rx ry h
  obtain⟨p,xs,rfl,hq,fx,fs,q⟩:=h
  cases ry
  rcases hq with hq | hq
  · obtain⟨its,r,pl,hz⟩:=I.list hq
    refine SeqAt.notIn_listAt (eqU x) pl.isList (fun w hw=>zcD rx fx r fs w (by simpa using hw)) ⟨.bl _,H,I,rfl,?_⟩
    rw[show its.toArray.any (eqU x)=its.any (eqU x) by simp,zda r fs]
    exact q
  · obtain⟨its,r,pl,hz⟩:=I.tuple hq
    refine SeqAt.notIn_tupleAt (eqU x) pl (fun w hw=>zcD rx fx r fs w (by simpa using hw)) ⟨.bl _,H,I,rfl,?_⟩
    rw[show its.toArray.any (eqU x)=its.any (eqU x) by simp,zda r fs]
    exact q
theorem za0:zbs X (.builtin "len") (fun xs H Q=>∃ p ys,xs=[.ref p]∧(SqL X.K H p ys∨SqT X.K H p ys)∧Q (.int ys.length) H):=by
  intro pins s σ H xs us Q I r h
  obtain⟨p,ys,rfl,hq,q⟩:=h
  obtain⟨u,rfl,rx⟩:=zdd r
  cases rx
  have hn:=zdt
  rcases hq with hq | hq
  · obtain⟨its,r',pl,hz⟩:=I.list hq
    have hlen:=r'.length
    exact Calls.call_len_list pl.isList (by simp only[List.size_toArray] <;> omega) ⟨.int ys.length,H,I.tok _,⟨s.toks+1,by rw[List.size_toArray,hlen]⟩,q⟩
  · obtain⟨its,r',pl,hz⟩:=I.tuple hq
    have hlen:=r'.length
    exact len_tuple pl (by simp only[List.size_toArray] <;> omega) ⟨.int ys.length,H,I.tok _,⟨s.toks+1,by rw[List.size_toArray,hlen]⟩,q⟩
theorem zb6:zbs X (.builtin "len") (fun xs H Q=>∃ z,xs=[.str z]∧z.length≤sizeLine∧Q (.int z.length) H):=by
  intro pins s σ H xs us Q I r h
  obtain⟨z,rfl,hz,q⟩:=h
  obtain⟨u,rfl,t,rfl⟩:=zdd r
  have hn:=zdt
  exact len_str (by omega) ⟨.int z.length,H,I.tok _,⟨_,rfl⟩,q⟩
theorem zbs.or {f:Value} {r r':List V→Hp→VK→Prop} (h:zbs X f r) (h':zbs X f r'):zbs X f (fun xs H Q=>r xs H Q∨r' xs H Q):=by
  intro pins s σ H xs us Q I rs q
  rcases q with q | q
  · exact h pins s σ H xs us Q I rs q
  · exact h' pins s σ H xs us Q I rs q
theorem zcJ:zbs X (.type "list") (fun xs H Q=>∃ p ys,xs=[.ref p]∧(SqL X.K H p ys∨SqT X.K H p ys)∧∀ l,H l=none→Q (.ref l) (upd H l (.lst ys))):=by
  intro pins s σ H xs us Q I r h
  obtain⟨p,ys,rfl,hq,q⟩:=h
  obtain⟨u,rfl,rx⟩:=zdd r
  cases rx
  have fin:∀(its:List Value),au ys its→ys.length≤sizeLine→∀(h':Heap) (c':Nat),(∀ b o',s.heap.get? b=some o'→h'.get? b=some o') →
      h'.get? s.heap.objs.size=some { cls:=.type "list",dict:=none,data:=.seq its.toArray c',slots:=#[] }→EP X pins σ Q (.ref s.heap.objs.size) { s with heap:=h' }:=fun its r' hz h' c' kp e =>
    ⟨.ref s.heap.objs.size,_,I.laid (t':=s.toks) kp (Nat.le_refl _) (show za3 X.prog X.w _ h' _ (.lst ys) from⟨hz,its,c',r',e⟩),rfl,q _ (I.hok.fresh (Nat.le_refl _))⟩
  rcases hq with hq | hq
  · obtain⟨its,r',pl,hz⟩:=I.list hq
    have hlen:=r'.length
    obtain⟨o,ho,hc,n,hd⟩:=pl.isList
    exact call_list_seq p (.inl rfl) ho hc hd (fun h' c' kp e=>fin its r' hz h' c' kp e) (by simp only[List.size_toArray] <;> omega)
  · obtain⟨its,r',pl,hz⟩:=I.tuple hq
    have hlen:=r'.length
    obtain⟨o,ho,hc,n,hd⟩:=pl
    exact call_list_seq p (.inr rfl) ho hc hd (fun h' c' kp e=>fin its r' hz h' c' kp e) (by simp only[List.size_toArray] <;> omega)
theorem zcm:zbs X (.type "tuple") (fun xs H Q=>∃ p ys,xs=[.ref p]∧((SqL X.K H p ys∧∀ l,H l=none→Q (.ref l) (upd H l (.tup ys)))∨(SqT X.K H p ys∧Q (.ref p) H))):=by
  intro pins s σ H xs us Q I r h
  obtain⟨p,ys,rfl,h⟩:=h
  obtain⟨u,rfl,rx⟩:=zdd r
  cases rx
  rcases h with ⟨hq,q⟩ | ⟨hq,q⟩
  · obtain⟨its,r',pl,hz⟩:=I.list hq
    have hlen:=r'.length
    refine call_tuple_list pl.isList (fun h' kp=>?_) (by simp only[List.size_toArray] <;> omega)
    have I1:Inv X pins σ H { s with heap:=h' }:=I.kept (t':=s.toks) kp
    have I2:Inv X pins σ (upd H h'.objs.size (.tup ys)) { s with heap:=h'.push { cls:=.type "tuple",data:=.seq its.toArray } } :=
      I1.laid (t':=s.toks) (fun b o e=>Heap.get?_push_of_some _ e) (Nat.le_refl _) (show za3 X.prog X.w _ _ _ (.tup ys) from⟨hz,its,r',IsTup.new _ _⟩)
    exact⟨.ref h'.objs.size,_,I2,rfl,q _ (I1.hok.fresh (Nat.le_refl _))⟩
  · obtain⟨its,r',pl,hz⟩:=I.tuple hq
    exact call_tuple_same pl ⟨.ref p,H,I,rfl,q⟩
def tyV (K:PySem.W.Frag) (T:String) (x:V) (H:Hp):Prop:=match x with
  | .str _=>T="str"
  | .int _=>T="int"
  | .ref p=>(T="list"∧∃ xs,SqL K H p xs)∨(T="tuple"∧∃ o,K.lookup p=some o∧o.cls=.type "tuple"∧o.dict=none) ∨
      (T="dict"∧((∃ kvs,H p=some (.dK kvs))∨∃ kvs,H p=some (.dT kvs)))∨(T="set"∧∃ S n,H p=some (.set S n))
  | _=>False
theorem tyV_is {pins:List (Addr × Obj)} {σ:St} {H:Hp} {s:Shared} {T:String} {x:V} {v:Value} (I:Inv X pins σ H s) (r:zak x v) (ty:tyV X.K T x H) :
    s.TypeIs v T∧∀ a,v=.ref a→∃ ob,s.heap.get? a=some ob∧ob.dict=none:=by
  cases x with
  | str z =>
    obtain⟨t,rfl⟩:=r
    cases (show T="str" from ty)
    exact⟨typeIs_str s z t,fun _ e=>nomatch e⟩
  | int i =>
    obtain⟨t,rfl⟩:=r
    cases (show T="int" from ty)
    exact⟨typeIs_int s i t,fun _ e=>nomatch e⟩
  | ref p =>
    cases r
    rcases ty with ⟨rfl,xs,hq⟩ | ⟨rfl,o,hk,hc,hd⟩ | ⟨rfl,hk⟩ | ⟨rfl,S,n,hk⟩
    · obtain⟨its,_,pl,_⟩:=I.list hq
      refine⟨pl.isList.typeIs,fun a e=>?_⟩
      cases e
      obtain⟨o,n,e,c,hd,_⟩:=pl
      exact⟨o,e,hd⟩
    · refine⟨⟨o,I.kIn p o hk,hc⟩,fun a e=>?_⟩
      cases e
      exact⟨o,I.kIn _ o hk,hd⟩
    · have z:∃ o,s.heap.get? p=some o∧o.ExactDict:=by
        rcases hk with ⟨kvs,hk⟩ | ⟨kvs,hk⟩
        · obtain⟨_,_,_,_,o,_,_,e,ex,_⟩:=I.hok p _ hk
          exact⟨o,e,ex⟩
        · obtain⟨_,_,_,_,o,_,_,e,ex,_⟩:=I.hok p _ hk
          exact⟨o,e,ex⟩
      obtain⟨o,e,ex⟩:=z
      refine⟨⟨o,e,ex.1⟩,fun a e2=>?_⟩
      cases e2
      exact⟨o,e,ex.2.1⟩
    · obtain⟨o,_,_,_,e,ex,_⟩:=I.hok p _ hk
      refine⟨⟨o,e,ex.1⟩,fun a e2=>?_⟩
      cases e2
      exact⟨o,e,ex.2.1⟩
  | _=>exact False.elim ty
def tBM (K:PySem.W.Frag) (T:String) (r:V→List V→Hp→VK→Prop) (to:TE) (t:TA):TE:=fun σ H Q=>to σ H fun x H1=>tyV K T x H1∧t σ H1 fun xs H2=>r x xs H2 Q
variable {o e:Expr} {es:List Expr} {to:TE} {t:TA} {name:Str} {apos cpos:Pos} {T id:String} {r:V→List V→Hp→VK→Prop}
theorem zbl (pa:PlainAttrs T) (slot:Slot T name id) (hty:typeOf (.builtin id)=pure (.type "method_descriptor")) (hm:MtR X id r) (ho:PE X o to) (ha:PA X (e :: es) t)
    (hbase:attributeBase o name X.env (eval o X.env)=eval o X.env:=by rfl)
    (hfew:((backTo cpos (starEach (e :: es) X.env)).all (fun x=>!x.1)&&(backToKw cpos (keywordEach [] X.env)).all (fun x=>x.1.isSome)
      && decide ((e :: es).length+([]:List Keyword).length+(if([]:List Keyword).isEmpty then 0 else 1) < 30))=true:=by rfl)
    (hline:(apos.endLine == cpos.line)=true:=by rfl) (hs:starEach (e :: es) X.env=(false,eval e X.env) :: starEach es X.env:=by rfl) (hplain:(backTo cpos (starEach es X.env)).any (·.1)=false:=by rfl) :
    PE X (.Call (.Attribute o name apos) (e :: es) [] cpos) (tBM X.K T r to t):=by
  intro pins s σ H Q I h
  refine wpAny_Call_method_late hbase hfew hline rfl (thn (ho pins s σ H _ I h) fun v s1 ⟨x,H1,I1,r1,ty,q1⟩=>?_)
  obtain⟨h1,h2⟩:=tyV_is I1 r1 ty
  refine⟨T,id,pa,slot,hty,h1,h2,?_⟩
  have hA:=ha cpos pins s1 σ H1 _ I1 q1
  rw[hs]at hA ⊢
  refine Calls.callWith_builtin (by show(false||(backTo cpos (starEach es X.env)).any (·.1))=false;rw[hplain] <;> rfl) (Calls.evalArgs_plain ?_)
  exact thn hA fun us s2 ⟨vs,H2,I2,r2,q2⟩=>hm pins s2 σ H2 x vs v us Q I2 r1 r2 q2
end
end L2
namespace L2
open PySem PySem.Spec PyProof.Rows
def MtM (X:Cx) (id:String) (r:V→List V→Hp→VK→Prop):Prop :=
  ∀(pins:List (Addr × Obj)) (s:Shared) (σ:St) (H:Hp) (x:V) (xs:List V) (v:Value) (us:List Value) (Q:VK),Inv X pins σ H s→zak x v→au xs us→r x xs H Q →
    wpAny (model X.prog X.w) X.A (call (.builtin id) (v :: us)) (EP X pins σ Q) X.xe s
theorem au.one:∀ {x:V} {us:List Value},au [x] us→∃ u,us=[u]∧zak x u
  | _,_,.cons r .nil=>⟨_,rfl,r⟩
theorem au.two:∀ {x y:V} {us:List Value},au [x,y] us→∃ u v,us=[u,v]∧zak x u∧zak y v
  | _,_,_,.cons r (.cons q .nil)=>⟨_,_,rfl,r,q⟩
theorem au.zero:∀ {us:List Value},au [] us→us=[]
  | _,.nil=>rfl
theorem au.rep {xs:List V} {us:List Value} (h:au xs us):∀ k:Nat,au (List.replicate k xs).flatten (List.replicate k us).flatten
  | 0=>.nil
  | k+1=>by
    rw[List.replicate_succ,List.replicate_succ,List.flatten_cons,List.flatten_cons]
    exact au.append h (au.rep h k)
theorem ze6 (its:List Value):∀(k:Nat) (acc:List Value),
    List.foldl (fun x1 x2=>x1++x2) acc.toArray (List.replicate k its.toArray)=(acc++(List.replicate k its).flatten).toArray
  | 0,acc=>by simp
  | k+1,acc=>by
    have e:acc.toArray++its.toArray=(acc++its).toArray:=by simp
    have e2:(acc++its)++(List.replicate k its).flatten=acc++(List.replicate (k+1) its).flatten:=by
      rw[List.replicate_succ,List.flatten_cons,List.append_assoc]
    rw[←e2,←ze6 its k (acc++its),←e,List.replicate_succ,List.foldl_cons]
section
variable {X:Cx} {pins:List (Addr × Obj)} {σ:St} {H:Hp} {s:Shared} {l b:Addr} {xs ys zs:List V}
theorem Inv.lset {its its':List Value} {n:Nat} {f:Array Value→Array Value} {t':Nat} (I:Inv X pins σ H s) (hH:H l=some (.lst xs))
    (e:s.heap.get? l=some { cls:=.type "list",data:=.seq its.toArray n }) (hf:f its.toArray=its'.toArray) (hv:au ys its') (hz:ys.length≤sizeLine) :
    Inv X pins σ (upd H l (.lst ys)) { s with heap:=s.heap.update l (Obj.mapSeq f),toks:=t' }:=by
  have q:=PySem.IsL.update e f
  rw[hf]at q
  refine I.write (x:=l) (e:=l) (by rw[hH];exact trivial) (.inl rfl) (fun b' u hb hu=>(Heap.get?_update_other s.heap (Obj.mapSeq f) (Ne.symm hb)).trans hu) ⟨_,q⟩ ?_
  exact⟨hz,its',_,hv,q⟩
theorem Inv.lnew {its:List Value} {t':Nat} (I:Inv X pins σ H s) (hv:au ys its) (hz:ys.length≤sizeLine) :
    Inv X pins σ (upd H s.heap.objs.size (.lst ys)) { s with heap:=s.heap.push { cls:=.type "list",data:=.seq its.toArray },toks:=t' } :=
  I.laid (fun _ _ q=>Heap.get?_push_of_some _ q) (Nat.le_refl _) ⟨hz,its,0,hv,Heap.get?_push_size _ rfl⟩
theorem Inv.fresh (I:Inv X pins σ H s):H s.heap.objs.size=none:=I.hok.fresh (Nat.le_refl _)
theorem Inv.lstM (I:Inv X pins σ H s) (hH:H l=some (.lst xs)):xs.length≤sizeLine∧∃(its:List Value) (n:Nat),au xs its∧xs.length=its.length∧s.heap.get? l=some { cls:=.type "list",data:=.seq its.toArray n }:=by
  obtain⟨z,its,n,r,e⟩:=I.hok l _ hH
  exact⟨z,its,n,r,r.length,e⟩
theorem zfO {n:Nat} (h:n≤sizeLine):Builtin.List.listTooLong n=false:=by
  unfold Builtin.List.listTooLong
  exact decide_eq_false (by omega)
end
section
variable {X:Cx}
def ziI:V→List V→Hp→VK→Prop:=fun x vs H Q=>∃ l xs y,x=.ref l∧vs=[y]∧H l=some (.lst xs)∧xs.length < sizeLine∧Q .non (upd H l (.lst (xs++[y])))
theorem zbY:MtM X "list.append" ziI:=by
  intro pins s σ H x vs v us Q I rx rv h
  obtain⟨l,xs,y,rfl,rfl,hH,hz,q⟩:=h
  cases rx
  obtain⟨u,rfl,ru⟩:=rv.one
  obtain⟨z,its,n,r,hl,e⟩:=I.lstM hH
  refine call_meets F.slot_list_append ⟨_,e,rfl⟩ F.entry_list_append (F.args_list_append_2 _ _) (PySem.list_append l its.toArray n u (by rw[List.size_toArray];omega)) ⟨e,?_⟩
  refine⟨.non,_,I.lset (its':=its++[u]) hH e (by simp) (r.append (.cons ru .nil)) ?_,rfl,q⟩
  rw[List.length_append,List.length_singleton]
  omega
def ziH:V→List V→Hp→VK→Prop:=fun x vs H Q=>∃ l b xs zs,x=.ref l∧vs=[.ref b]∧H l=some (.lst xs)∧H b=some (.lst zs)∧xs.length+zs.length≤sizeLine∧Q .non (upd H l (.lst (xs++zs)))
theorem zhH:MtM X "list.extend" ziH:=by
  intro pins s σ H x vs v us Q I rx rv h
  obtain⟨l,b,xs,zs,rfl,rfl,hH,hB,hz,q⟩:=h
  cases rx
  obtain⟨u,rfl,ru⟩:=rv.one
  cases ru
  obtain⟨z,its,n,r,hl,e⟩:=I.lstM hH
  obtain⟨z2,its2,n2,r2,hl2,e2⟩:=I.lstM hB
  have hsz:its.toArray.size+its2.toArray.size≤sizeLine:=by rw[List.size_toArray,List.size_toArray];omega
  have hlong:¬(!its.toArray.isEmpty&&Builtin.List.listTooLong (its.toArray.size+its2.toArray.size))=true:=by
    rw[zfO hsz,Bool.and_false]
    exact Bool.false_ne_true
  refine call_meets F.slot_list_extend ⟨_,e,rfl⟩ F.entry_list_extend (F.args_list_extend_2 _ _)
    (AutoSeq1.list_extend_list_list_0 l its.toArray n b its2.toArray n2 hlong (by rw[List.size_toArray];omega) (by omega)) ⟨e,e2,?_⟩
  refine⟨.non,_,I.lset (its':=its++its2) hH e (by simp) (r.append r2) ?_,rfl,q⟩
  rw[List.length_append]
  omega
def rCat:R2:=fun x y H Q=>∃ l b xs zs,x=.ref l∧y=.ref b∧H l=some (.lst xs)∧H b=some (.lst zs)∧xs.length+zs.length≤sizeLine∧∀ p,H p=none→Q (.ref p) (upd H p (.lst (xs++zs)))
theorem zcZ:OpR X (binaryOp .Add) rCat:=by
  intro pins s σ H x y v u Q I rx ry h
  obtain⟨l,b,xs,zs,rfl,rfl,hH,hB,hz,q⟩:=h
  cases rx
  cases ry
  obtain⟨z,its,n,r,hl,e⟩:=I.lstM hH
  obtain⟨z2,its2,n2,r2,hl2,e2⟩:=I.lstM hB
  refine PySem.P.add_list e e2 ?_ (by rw[List.size_toArray,List.size_toArray];omega)
  have ea:its.toArray++its2.toArray=(its++its2).toArray:=by simp
  rw[ea]
  exact⟨.ref _,_,I.lnew (t':=s.toks) (r.append r2) (by rw[List.length_append];omega),rfl,q _ I.fresh⟩
def rRep:R2:=fun x y H Q=>∃ l k xs,x=.ref l∧y=.int k∧H l=some (.lst xs)∧-(2 ^ 63)≤k∧k < 2 ^ 63∧xs.length * k.toNat≤sizeLine ∧
  ∀ p,H p=none→Q (.ref p) (upd H p (.lst (List.replicate k.toNat xs).flatten))
theorem zgr {α:Type} (xs:List α) (k:Nat):(List.replicate k xs).flatten.length=k * xs.length:=by
  induction k with
  | zero=>simp
  | succ k ih=>rw[List.replicate_succ,List.flatten_cons,List.length_append,ih,Nat.succ_mul,Nat.add_comm]
theorem op_rep:OpR X (binaryOp .Mult) rRep:=by
  intro pins s σ H x y v u Q I rx ry h
  obtain⟨l,k,xs,rfl,rfl,hH,h1,h2,hz,q⟩:=h
  cases rx
  obtain⟨t,rfl⟩:=ry
  obtain⟨z,its,n,r,hl,e⟩:=I.lstM hH
  have hlen:its.toArray.size * k.toNat≤sizeLine:=by rw[List.size_toArray,←hl];exact hz
  have hcap:¬its.toArray.size * k.toNat > (2 ^ 63 - 1) / 8:=by
    have:(sizeLine:Nat)≤(2 ^ 63 - 1) / 8:=by decide
    omega
  have hfit:¬(!Builtin.List.listFitsIndex k)=true:=by
    rw[fitsIndex_both h1 h2]
    exact Bool.false_ne_true
  have hlong:¬Builtin.List.listTooLong (its.toArray.size * k.toNat)=true:=by
    rw[zfO hlen]
    exact Bool.false_ne_true
  have hnew:List.foldl (fun x1 x2=>x1++x2) #[] (List.replicate (if its.toArray.isEmpty=true then 0 else k.toNat) its.toArray)=(List.replicate k.toNat its).flatten.toArray:=by
    have f0:∀ m:Nat,List.foldl (fun x1 x2=>x1++x2) #[] (List.replicate m its.toArray)=(List.replicate m its).flatten.toArray:=fun m=>by
      have:=ze6 its m []
      rw[List.nil_append]at this
      exact this
    rw[f0]
    cases its with
    | nil=>simp
    | cons a r'=>rw[if_neg (by simp)]
  refine wpAny_binaryOp_repeat_ref (T:="list") (U:="int") (by decide) ⟨_,e,rfl⟩ (fun s'=>typeIs_int s' k t) noFill_list_mul F.fills_int_mul F.slot_int_rmul repeat_list F.slot_int_index.lookup
    (call_meets F.slot_int_rmul (typeIs_int s k t) F.entry_int_rmul (F.args_int_rmul_2 _ _) (int___rmul___int_list k t l its.toArray n)
      ⟨e,rfl,⟨_,e,rfl⟩,call_meets F.slot_list_mul ⟨_,e,rfl⟩ F.entry_list_mul (F.args_list_mul_2 _ _) (AutoListH.list___mul___list_int_3 l its.toArray n k t hfit hcap hlong) ⟨e,?_⟩⟩)
  rw[hnew]
  exact⟨.ref _,_,I.lnew (t':=s.toks) (r.rep k.toNat) (by rw[zgr,Nat.mul_comm];exact hz),rfl,q _ I.fresh⟩
end
section
variable {prog:Program} {w:World} {A:Around} {E:Value→Shared→Prop} {s:Shared}
end
section
variable {X:Cx}
end
end L2
namespace Att
open PySem PySem.W PySem.Calls PyProof.Rows
theorem zex {P:Params} {h:Heap}:∀(ns:List Int) (vs:List Value),WellAll P h vs (ns.map WData.int)→IntsAre vs ns:=by
  intro ns
  induction ns with
  | nil =>
    intro vs w
    rw[List.map_nil]at w
    cases w
    exact .nil
  | cons n ns ih =>
    intro vs w
    rw[List.map_cons]at w
    cases w with
    | cons a b =>
      cases a
      exact .cons _ _ (ih _ b)
theorem zhz {l:OpenLaw} {n:Nat} (hn:l.most=some n) {P:Params} {h:Heap} {args:List WData} {vals:List Value}
    (hpre:l.row.toRowW.claim.pre args=true) (hwl:WellAll P h vals args) :
    ∃ a vs ns,vals=[Value.ref a]∧args=[WData.list (ns.map WData.int)]∧h.get? a=some { cls:=.type "list",data:=.seq vs.toArray }∧IntsAre vs ns∧ns.length≤n:=by
  have hsh:WShape.hasAll [] args [.list .int]=true:=(pre_splitW hpre).1
  have hc:l.pre.holds [] { args:=args }=true:=(pre_splitW hpre).2
  obtain⟨d,r,rfl,h1,h2⟩:=hasAllW_cons hsh
  obtain rfl:=hasAllW_nil h2
  obtain⟨xs,rfl,h3⟩:=hasW_list h1
  obtain⟨ns,rfl⟩:=items_int h3
  have hlen:ns.length≤n:=by
    unfold OpenLaw.pre at hc
    have h4:(WTm.not (.lt (.lit (.int (n:Int))) (.len (.arg 0)))).holds [] { args:=[.list (ns.map .int)] }=true:=by
      have h4:=(holds_andW hc).1
      rw[hn]at h4
      exact h4
    have h5:=condW_of h4 (w_not (w_lt w_lit (w_len_list (w_arg rfl))))
    rw[List.length_map]at h5
    refine Nat.le_of_not_lt fun q=>?_
    have q':(n:Int) < ((ns.length:Nat):Int):=by omega
    first
      | (rw[decide_eq_true q']at h5;exact absurd h5 (by decide))
      | (simp at h5;omega)
  cases hwl with
  | cons w1 w2 =>
    cases w2
    cases w1 with
    | list ho hall=>exact⟨_,_,ns,rfl,rfl,ho,zex ns _ hall,hlen⟩
theorem zhA (l:OpenLaw) (args:List WData):l.row.toRowW.claim.post args (.bool true) args=true :=
  postW_of (r:=l.row.toRowW) (X:=(true == true))
    (show WShape.has [] (.bool true) .bool=true by first | rfl | decide | simp [WShape.has,WShape.arms,WShape.armsAll])
    (show(WTm.eq .res (.lit (.bool true))).value [] { args:=args,res:=some (.bool true),after:=args }=some (.bool (true == true)) from w_eq_bool (w_res rfl) w_lit) rfl
theorem attach_call {l:OpenLaw} {n:Nat} {q:Program} {loose:List Str} {XP:(Str→Option Value)→Heap→Prop} {YP:World→Heap→Prop} {d:DefRec}
    (hn:l.most=some n) (hdf:d.params.defaults=[])
    (call:∀(w:World) (s₀ s₁:Shared) (mg mb:Str→Option Value) (fa:Addr) (o:Obj) (pm cd doc:Value) (a:Addr) (vs:List Value) (ns:List Int),
      Ground q loose [] XP w s₀ mg mb s₁.heap→YP w s₁.heap →
      s₁.heap.get? fa=some o→o.data=.func (docDef d.name d.params d.body d.scope pm cd doc)→s₁.heap.CodeRec cd d.name→mg d.name=some (.ref fa) →
      s₁.heap.get? a=some { cls:=.type "list",data:=.seq vs.toArray }→IntsAre vs ns→ns.length≤n→s₁.gens=#[] →
      codeAny (model l.prog w) callerA (.call (.ref fa) ⟨[.ref a],[]⟩) (fun r s'=>r=.ok (.ret (.bool true))∧OldK s₁.heap s'.heap∧s'.os=s₁.os∧AllBare s'.gens) s₁) :
    WalkO q loose XP YP l.row.toRowW d [] (fun f vs=>PySem.call f vs):=by
  intro w s₀ s₁ mg mb G Y fa o pm cd doc dV kV ho hd hcd hD hmg hg args vals as hpre hlay hrd hwl hlo
  obtain rfl:dV=.none:=Dflts.none hD hdf
  obtain rfl:kV=.none:=Dflts.noKw hD
  obtain⟨a,vs,ns,rfl,rfl,hobj,hints,hlen⟩:=zhz hn hpre hwl
  refine enter_call (codeAny_mono (call w s₀ s₁ mg mb fa o pm cd doc a vs ns G Y ho (fd_plain hd) hcd hmg hobj hints hlen hg) fun r s' hq=>?_)
  obtain⟨rfl,h2,h3,h4⟩:=hq
  exact⟨.inl ⟨.bool true,.bool true,[],rfl,fun _=>rfl,.bool true,zhA l _,fun _=>⟨List.Pairwise.nil,fun _ hm=>(nomatch hm)⟩⟩,h2,h3,h4⟩
section
variable {prog:Program} {w:World} {A:Around} {E:Value→Shared→Prop} {s:Shared} {K:Frag}
def ledger (h:Heap) (L d:Addr):List (Addr × Obj):=(List.range h.objs.size).filterMap fun a=>if a=L∨a=d then none else(h.get? a).map fun o=>(a,o)
end
end Att
namespace L2
open PySem PySem.Spec PyProof.Rows
theorem zeV:∀ {vs:List Value} {ns:List Int},IntsAre vs ns→au (ns.map V.int) vs
  | _,_,.nil=>.nil
  | _,_,.cons n t h=>.cons ⟨t,rfl⟩ (zeV h)
def Only (H:Hp):Prop:=∀ b,H b=none∨∃ o xs,H b=some (.frz o (.lst xs))
theorem ziq {P:Program} {w:World} {K:PySem.W.Frag} {mg mb:Str→Option Value} {CX:CXT} {k:Nat} {fa a:Addr} {fd:FuncData} {x:Str} {sp:Sp} {s₁:Shared} {vs:List Value} {ns:List Int}
    (KX:K.In s₁.heap) (hns:s₁.heap.Ns mainGlobals mg) (hb:s₁.heap.Ns builtinsNs mb) (hbb:∀ x:Str,x≠"__name__"→mb x=bootBuiltins x) (hlim:s₁.heap.NoLimit) (hg:s₁.gens=#[])
    (ha:s₁.heap.get? a=some { cls:=.type "list",data:=.seq vs.toArray }) (hi:IntsAre vs ns) (hl:ns.length≤sizeLine) (hr:aw k callerA)
    (F:∀ base:Heap,K.In base→base.Ns mainGlobals mg→FnOk P w K mg base CX k fa fd [x] sp) (hbind:∀(s:Shared) (u:Value),BindsTo s fd ⟨[u],[]⟩ [(x,u)])
    (hsp:∀ H:Hp,Only H→SqL K H a (ns.map V.int)→sp [.ref a] H (fun v _=>v=.bl true) fun _ _ _=>False)
    (hCX:∀ H e s',CX [] H s₁ (fun _ _ _=>False) e s'→False) :
    codeAny (model P w) callerA (.call (.ref fa) ⟨[.ref a],[]⟩) (fun r s'=>r=.ok (.ret (.bool true))∧OldK s₁.heap s'.heap∧s'.os=s₁.os∧AllBare s'.gens) s₁:=by
  have rv:=zeV hi
  have lenV:=hi.length
  have core:∀ H:Hp,Only H→SqL K H a (ns.map V.int)→HOk P w H s₁.heap→(∀ b,H b≠none→b=a)→(H a≠none→K.lookup a=none) →
      codeAny (model P w) callerA (.call (.ref fa) ⟨[.ref a],[]⟩) (fun r s'=>r=.ok (.ret (.bool true))∧OldK s₁.heap s'.heap∧s'.os=s₁.os∧AllBare s'.gens) s₁:=by
    intro H hO hS hok hA hK
    have base_of:∀ {b:Addr} {o:Obj},s₁.heap.get? b=some o→H b=none→(zdc s₁.heap H).get? b=some o:=fun e n=>zir e n
    have noA:∀ {b:Addr} {o:Obj} {es:Array DictEntry} {ep:Nat},s₁.heap.get? b=some o→o.data=.dict es ep→H b=none:=fun {b o es ep} e d=>by
      cases q:H b with
      | none=>rfl
      | some u =>
        have e':b=a:=hA b (by rw[q];simp)
        subst e'
        rw[ha]at e;cases e
        have d':Data.seq vs.toArray _=Data.dict es ep:=d
        cases d'
    have nsK:∀ {b:Addr} {m:Str→Option Value},s₁.heap.Ns b m→(zdc s₁.heap H).Ns b m:=fun {b m} ⟨o,es,ep,e,d,r⟩=>⟨o,es,ep,base_of e (noA e d),d,r⟩
    have hKb:K.In (zdc s₁.heap H):=fun b o e=>base_of (KX b o e) (by
      cases q:H b with
      | none=>rfl
      | some u =>
        have e':b=a:=hA b (by rw[q];simp)
        subst e'
        rw[hK (by rw[q];simp)]at e;cases e)
    have hM:Mod K mg (zdc s₁.heap H):=⟨hKb,nsK hns,⟨mb,nsK hb,hbb⟩,let ⟨mc,h1,h2⟩:=hlim;⟨mc,nsK h1,h2⟩⟩
    have e0:zdX P w K mg (zdc s₁.heap H) callerA [] s₁ H:=⟨rfl,hM,fun b o e=>ziS e,Nat.le_of_eq (zhN _ _),trivial,fun b hb=>absurd (show b∈([]:List Addr) from hb) (by simp),hok,.of_eq hg⟩
    refine codeAny_mono ((F _ hKb (nsK hns)).run callerA [] s₁ H ⟨[.ref a],[]⟩ [.ref a] [.ref a] _ _ hr e0 (hbind s₁ (.ref a)) (.cons rfl .nil) (hsp H hO hS)) fun r s' h=>?_
    cases r with
    | error e=>exact(hCX H e s' h).elim
    | ok fl =>
      cases fl with
      | next=>exact False.elim h
      | brk=>exact False.elim h
      | cont=>exact False.elim h
      | ret u =>
        obtain⟨v,H',os,bare,un,hok',r',q⟩:=h
        have q':v=.bl true:=q
        subst q'
        obtain rfl:u=Value.bool true:=r'
        refine⟨rfl,OldK.of_keep fun b o e=>?_,os,bare⟩
        cases q:H b with
        | none=>exact un.keep b o e q (by intro z;exact absurd (show b∈([]:List Addr) from z) (by simp)) (by simp)
        | some u =>
          rcases hO b with z | ⟨ob,xs,z⟩
          · rw[q]at z;cases z
          · have z2:=un.frzs b ob _ z
            obtain⟨e1,_⟩:=hok b _ z
            obtain⟨e2,_⟩:=hok' b _ z2
            rw[e]at e1;cases e1
            exact e2
  cases hk:K.lookup a with
  | some o =>
    have e:=KX a o hk
    rw[ha]at e
    cases e
    refine core (fun _=>none) (fun _=>.inl rfl) (.inr ⟨_,vs.toArray,_,hk,rfl,rfl,rfl,by rw[List.size_toArray,lenV];exact hl,by simpa using rv⟩) (fun b u z=>by have z':(none:Option HO)=some u:=z;cases z') (fun b z=>absurd rfl z) fun z=>absurd rfl z
  | none =>
    refine core (fun b=>if b=a then some (.frz { cls:=.type "list",data:=.seq vs.toArray } (.lst (ns.map V.int))) else none) (fun b=>?_) (.inl (.inr ⟨{ cls:=.type "list",data:=.seq vs.toArray },if_pos rfl⟩)) (fun b u z=>?_) (fun b z=>?_) fun _=>hk
    · by_cases hb:b=a
      · exact .inr ⟨_,_,if_pos hb⟩
      · exact .inl (if_neg hb)
    · by_cases hb:b=a
      · have z':=(if_pos hb).symm.trans z
        cases z'
        subst hb
        exact⟨ha,by rw[List.length_map];exact hl,vs,_,rv,ha⟩
      · have z':=(if_neg hb).symm.trans z
        cases z'
    · by_cases hb:b=a
      · exact hb
      · exact absurd (if_neg hb) z
end L2
namespace L2
open PySem PySem.Spec PyProof.Rows
abbrev KOf {K:PySem.W.Frag} {h:Heap} (_:K.In h):PySem.W.Frag:=K
theorem walk_of {l:PySem.W.OpenLaw} {n k:Nat} {q:Program} {loose:List Str} {XP:(Str→Option Value)→Heap→Prop} {YP:World→Heap→Prop} {d:DefRec} {K:Params→PySem.W.Frag} {CX:World→CXT} {sp:World→Sp} {x:Str}
    (hn:l.most=some n) (hn2:n≤sizeLine) (hdf:d.params.defaults=[]) (hr:aw k callerA)
    (hY:∀(w:World) (h:Heap),YP w h→(K w.params).In h)
    (F:∀(w:World) (mg:Str→Option Value) (fa:Addr) (h:Heap),(K w.params).In h→h.Ns mainGlobals mg→mg d.name=some (.ref fa) →
      ∃ fd:FuncData,(∀(s:Shared) (u:Value),BindsTo s fd ⟨[u],[]⟩ [(x,u)]) ∧
        ∀ base:Heap,(K w.params).In base→base.Ns mainGlobals mg→FnOk l.prog w (K w.params) mg base (CX w) k fa fd [x] (sp w))
    (hsp:∀(w:World) (H:Hp) (a:Addr) (ns:List Int),ns.length≤n→Only H→SqL (K w.params) H a (ns.map V.int)→sp w [.ref a] H (fun v _=>v=.bl true) fun _ _ _=>False)
    (hCX:∀(w:World) (H:Hp) (s:Shared) (e:Value) (s':Shared),CX w [] H s (fun _ _ _=>False) e s'→False) :
    PySem.W.WalkO q loose XP YP l.row.toRowW d [] (fun f vs=>PySem.call f vs):=by
  refine Att.attach_call hn hdf fun w s₀ s₁ mg mb fa o pm cd doc a vs ns G Y ho hd hcd hmg hobj hints hlen hg=>?_
  have KX:=hY w _ Y
  obtain⟨fd,hb,hF⟩:=F w mg fa _ KX G.T.g hmg
  exact ziq KX G.T.g G.T.b G.T.builtins G.T.nolimit hg hobj hints (Nat.le_trans hlen hn2) hr hF hb (fun H hO hS=>hsp w H a ns hlen hO hS) fun H e s'=>hCX w H s₁ e s'
end L2
namespace L2
open PySem PySem.Spec PyProof.Rows
def zct (s:Stmt) (j:Nat):Stmt:=match s with
  | .ClassDef _ _ _ body _ _ _ _ _ _ _=>body.getD j (.Pass ⟨0,0,0,0⟩)
  | _=>.Pass ⟨0,0,0,0⟩
def zbG (s:Stmt):Arguments:=match s with
  | .FunctionDef _ a _ _ _ _ _ _ _ _=>a
  | _=>{ posonlyargs:=[],args:=[],vararg:=none,kwonlyargs:=[],kw_defaults:=[],kwarg:=none,defaults:=[] }
def zax (s:Stmt):List Stmt:=match s with
  | .FunctionDef _ _ b _ _ _ _ _ _ _=>b
  | _=>[]
def aj (s:Stmt):Scope:=match s with
  | .FunctionDef _ _ _ _ _ _ sc _ _ _=>sc
  | _=>{ kind:=.function,names:=[],isGenerator:=false,isCoroutine:=false }
abbrev CX0:CXT:=fun _ _ _ _ _ _=>False
abbrev E0:XK:=fun _ _ _=>False
theorem ap {X:Cx}:zb4 CX0 X E0:=fun _ _ _ _ _ _ _ h=>h.elim
structure Fun (K:PySem.W.Frag) (x qual:Str) (st:Stmt) (f:Addr) (fd:FuncData):Prop where
  ex:∃(oc:Value) (od:Option Addr) (kV doc pm:Value) (an:Option Addr) (cdv ct:Value) (osl:Array (Option Value)),
    fd=PySem.W.fnOf x qual (zbG st) (zax st) (aj st) .none kV doc pm an cdv ct∧K.lookup f=some ⟨oc,od,.func fd,osl⟩∧PySem.W.codeIn K cdv qual=true
  kp:PySem.W.keepIn K (.ref f)=true
section
variable {P:Program} {w:World} {K:PySem.W.Frag} {mg:Str→Option Value} {base:Heap}
theorem Fun.ok {x qual:Str} {st:Stmt} {f:Addr} {fd:FuncData} {N ps:List Str} {k:Nat} {sp:Sp} (F:Fun K x qual st f fd) (S:zad N ps (aj st)) (len:∀ vs H Q E,sp vs H Q E→vs.length=ps.length)
    (hbody:∀(cdv:Value) (A:Around) (outer:List Env) (s:Shared) (H:Hp) (vs:List V) (Q:VK) (E:XK),aw k (A.deeper (envOfC qual (aj st) s.heap.objs.size f cdv))→sp vs H Q E →
      ∃ t,PSs (zbv CX0 P w K mg base N qual (aj st) f cdv A outer s H E).nox (zax st) t∧t { nx:=fun _ H'=>Q .non H',rt:=Q } (zcK N vs) H):FnOk P w K mg base CX0 (k+1) f fd ps sp:=by
  obtain⟨oc,od,kV,doc,pm,an,cdv,ct,osl,rfl,lk,hcd⟩:=F.ex
  refine fn_of lk hcd S len fun A outer s H vs Q E hr hsp=>?_
  obtain⟨t,h,q⟩:=hbody cdv A outer s H vs Q E hr hsp
  exact⟨t,h.nox,q⟩
theorem Fun.binds {x qual:Str} {st:Stmt} {f:Addr} {fd:FuncData} {ps:List Str} (F:Fun K x qual st f fd)
    (h:∀(kV doc pm:Value) (an:Option Addr) (cdv ct:Value) (us:List Value),us.length=ps.length→bindArgs (PySem.W.fnOf x qual (zbG st) (zax st) (aj st) .none kV doc pm an cdv ct) ⟨us,[]⟩=pure (ps.zip us)):aq K fd ps []:=by
  obtain⟨oc,od,kV,doc,pm,an,cdv,ct,osl,rfl,lk,hcd⟩:=F.ex
  exact .all (h kV doc pm an cdv ct)
theorem zhn {x qual:Str} {st:Stmt} {f:Addr} {oc:Value} {od an:Option Addr} {osl:Array (Option Value)} {kV doc pm cdv ct:Value} (l:K.lookup f=some ⟨oc,od,.func (PySem.W.fnOf x qual (zbG st) (zax st) (aj st) .none kV doc pm an cdv ct),osl⟩)
    (c:PySem.W.codeIn K cdv qual=true) (k:PySem.W.keepIn K (.ref f)=true):Fun K x qual st f (PySem.W.fnOf x qual (zbG st) (zax st) (aj st) .none kV doc pm an cdv ct):=⟨⟨oc,od,kV,doc,pm,an,cdv,ct,osl,rfl,l,c⟩,k⟩
end
theorem zcj {n:Nat} (h:n≤1000):n < sizeLine:=Nat.lt_of_le_of_lt h (by decide)
section
variable {X:Cx}
theorem pv (i:Nat) {x:Str} {pos:Pos} (hN:X.N[i]?=some x:=by rfl) (hv:Vis X.env.scope x:=by first | exact Or.inl rfl | exact Or.inr (Or.inl rfl) | exact Or.inr (Or.inr rfl)) (hd:(x == ("__debug__":Str))=false:=by decide)
    (hcd:(x == ("__classdict__":Str))=false:=by decide):PE X (.Name x pos) (zcR i):=pe_var hN hv hd hcd
end
theorem zaS {A B:Prop} (h:B):if false=true then A else B:=by
  rw[if_neg Bool.false_ne_true]
  exact h
theorem zbJ {A B:Prop} (h:A):if true=true then A else B:=by
  rw[if_pos rfl]
  exact h
theorem zal {c A B:Prop} [Decidable c] (h1:c→A) (h2:¬c→B):if c then A else B:=by
  by_cases h:c
  · rw[if_pos h]
    exact h1 h
  · rw[if_neg h]
    exact h2 h
def ai (H H':Hp):Prop:=∀ b o,H b=some o→H' b=some o
theorem ai.refl (H:Hp):ai H H:=fun _ _ h=>h
theorem ai.trans {H H1 H2:Hp} (a:ai H H1) (b:ai H1 H2):ai H H2:=fun c o h=>b c o (a c o h)
theorem ai.free {H H':Hp} (e:ai H H') {l:Addr} (h:H' l=Option.none):H l=Option.none:=by
  cases q:H l with
  | none=>rfl
  | some o =>
    rw[e l o q]at h
    cases h
theorem ai.seq {K:PySem.W.Frag} {H H':Hp} {a:Addr} {xs:List V} (e:ai H H') (h:SqL K H a xs):SqL K H' a xs:=by
  rcases h with (h | ⟨o,h⟩) | h
  · exact .inl (.inl (e _ _ h))
  · exact .inl (.inr ⟨o,e _ _ h⟩)
  · exact .inr h
end L2
theorem lS0:0≤PySem.sizeLine:=by decide
theorem lS1:1≤PySem.sizeLine:=by decide
theorem lS2:2≤PySem.sizeLine:=by decide
theorem lS3:3≤PySem.sizeLine:=by decide
theorem lS4:4≤PySem.sizeLine:=by decide
namespace L2
open PySem PySem.Spec PyProof.Rows
section
variable {X:Cx} {e l:Expr} {te tl:TE} {pos:Pos} {tg:Expr}
def rSlS:V→Option Int→Option Int→Hp→VK→Prop:=fun x lo hi H Q=>∃ z,x=.str z∧z.length≤sizeLine∧Q (.str (Txt.slice z lo hi)) H
theorem zgn {v:Value} {o:Option Int} (p:IsPart v o):∃ q:Option (Int × Tok),v=partValue q∧q.map (·.1)=o:=by
 cases p with
 | none=>exact⟨none,rfl,rfl⟩
 | int i t=>exact⟨some (i,t),rfl,rfl⟩
theorem zeg:SlR X rSlS:=by
 intro pins s σ H x v vl vu lo hi sl Q I rx hs pl pu h
 obtain⟨z,rfl,hz,q⟩:=h
 obtain⟨t,rfl⟩:=rx
 obtain⟨ql,rfl,rfl⟩:=zgn pl
 obtain⟨qu,rfl,rfl⟩:=zgn pu
 obtain⟨o,ho,hc,hd⟩:=hs
 refine⟨"str",_,F.slot_str_getitem.lookup,typeIs_str _ _ _,?_⟩
 refine wpAny_getItem_str_slice (l:=ql) (u:=qu) (st:=none) ⟨o,ho,hc,hd⟩ rfl ?_
 exact post_val_or_str ⟨Nat.le_trans (Txt.slice_le z _ _) hz,fun t' k=>⟨.str (Txt.slice z (ql.map (·.1)) (qu.map (·.1))),H,I.tok _,⟨_,rfl⟩,q⟩⟩
def Its (z:Str):It:=⟨fun i _=>i < z.length,fun i H x H'=>H'=H∧∃ c,z.cps[i]?=some c∧x=.str ⟨#[c]⟩,fun i _=>z.length≤i⟩
theorem zfx {P:Program} {w:World} {K:W.Frag} {ty:String} (hty:ty="str_ascii_iterator"∨ty="str_iterator") (it:Addr) (z:Str) (t:Tok):Turn P w K tg (Its z) [it] it (fun i h=>h.IsStrIter it ty z t i) where
 mem:=by simp
 obj:=fun i h st b hb=>by
  have e:b=it:=by simpa using hb
  subst e
  obtain⟨o,e,c,d⟩:=st
  exact⟨o,e,fun v z=>by rw[d]at z;cases z⟩
 keep:=fun i h h' st k=>by
  obtain⟨o,e,r⟩:=st
  exact⟨o,k it (by simp) o e,r⟩
 item:=by
  intro X hP hw hK hc i pins s σ H E I hf st hg
  subst hP hw hK
  have hi:i < z.cps.size:=hg
  have hx:z.cps[i]?=some z.cps[i]:=by simp [hi]
  obtain⟨f0,f1,f2,f3,f4,f5⟩:=hf it (by simp)
  rcases hty with rfl | rfl
  ·refine wpAny_pyNext_ascii_item st hx fun h' st' sb=>?_
   have I1:Inv X pins σ H { s with heap:=h',toks:=s.toks+1 }:=I.turned (t':=s.toks+1) (fun b o hb e=>(sb.2 b hb).trans e) f0 f1 f3 f4 f5
   obtain⟨o,e,c,d⟩:=id st'
   exact⟨_,rfl,zed (s:={ s with heap:=h',toks:=s.toks+1 }) e c d (by decide) ⟨.str ⟨#[z.cps[i]]⟩,H,I1,⟨_,rfl⟩,⟨rfl,_,hx,rfl⟩,st',fun b hb=>(hf b hb).1⟩⟩
  ·refine wpAny_pyNext_wide_item st hx fun h' st' sb=>?_
   have I1:Inv X pins σ H { s with heap:=h',toks:=s.toks+1 }:=I.turned (t':=s.toks+1) (fun b o hb e=>(sb.2 b hb).trans e) f0 f1 f3 f4 f5
   obtain⟨o,e,c,d⟩:=id st'
   exact⟨_,rfl,zed (s:={ s with heap:=h',toks:=s.toks+1 }) e c d (by decide) ⟨.str ⟨#[z.cps[i]]⟩,H,I1,⟨_,rfl⟩,⟨rfl,_,hx,rfl⟩,st',fun b hb=>(hf b hb).1⟩⟩
 done:=by
  intro X hP hw hK hc i pins s σ H E I hf st hg
  subst hP hw hK
  have hi:z.cps.size≤i:=hg
  have hx:z.cps[i]?=none:=by simp [hi]
  obtain⟨f0,f1,f2,f3,f4,f5⟩:=hf it (by simp)
  rcases hty with rfl | rfl
  ·exact wpAny_pyNext_ascii_end (I.ok.hd hc) st hx fun h' eb=>⟨rfl,I.turned (t':=s.toks) (fun b o hb e=>eb b o hb e) f0 f1 f3 f4 f5⟩
  ·exact wpAny_pyNext_wide_end (I.ok.hd hc) st hx fun h' eb=>⟨rfl,I.turned (t':=s.toks) (fun b o hb e=>eb b o hb e) f0 f1 f3 f4 f5⟩
 self:=fun _ _ _ _ _ st h=>by
  rcases hty with rfl | rfl
  ·exact wpAny_pyIter_striter_ascii st h
  ·exact wpAny_pyIter_striter_wide st h
def iStr (tl:TE):TI:=fun σ H R=>tl σ H fun x H1=>∃ z,x=.str z∧R (Its z) H1
theorem zhc (hl:PE X l tl):PI X tg l (iStr tl):=by
 intro pins s σ H R I h
 refine thn (hl pins s σ H _ I h) fun v s1 ⟨x,H1,I1,r1,q1⟩=>?_
 obtain⟨z,e,q⟩:=q1
 subst e
 obtain⟨t,rfl⟩:=r1
 have fp:∀ b∈[s1.heap.objs.size],zbS X pins H1 b:=fun b hb=>by
  have e:b=s1.heap.objs.size:=by simpa using hb
  subst e
  exact I1.fpOk (Nat.le_refl _) (I1.hok.fresh (Nat.le_refl _))
 cases ha:z.cps.all (· < 128) with
 | true =>
  refine wpAny_pyIter_ascii ha ?_
  exact⟨s1.heap.objs.size,[s1.heap.objs.size],_,_,H1,rfl,I1.kept (t':=s1.toks) fun b o e=>Heap.get?_push_of_some _ e,zfx (.inl rfl) _ z t,⟨_,Heap.get?_push_size _ rfl,rfl,rfl⟩,fp,q⟩
 | false =>
  refine wpAny_pyIter_wide ha ?_
  exact⟨s1.heap.objs.size,[s1.heap.objs.size],_,_,H1,rfl,I1.kept (t':=s1.toks) fun b o e=>Heap.get?_push_of_some _ e,zfx (.inr rfl) _ z t,⟨_,Heap.get?_push_size _ rfl,rfl,rfl⟩,fp,q⟩
theorem zeT (hc:X.calm=true):zbs X (.builtin "all") (fun xs H Q=>∃(p:Addr) (bs:List Bool),xs=[.ref p]∧SqL X.K H p (bs.map V.bl)∧Q (.bl (bs.all id)) H):=by
 intro pins s σ H xs us Q I r h
 obtain⟨p,bs,rfl,hq,q⟩:=h
 obtain⟨u,rfl,rx⟩:=zdd r
 cases rx
 obtain⟨its,rv,pl,hz⟩:=I.list hq
 have hl:=rv.length
 rw[List.length_map]at hl
 have hp:p < s.heap.objs.size:=by
  obtain⟨o,ho,_⟩:=pl.isList
  exact Heap.lt_size ho
 have hne:p≠s.heap.objs.size:=Nat.ne_of_lt hp
 refine call_all_walk (wpAny_pyIter_list pl.isList ?_)
 refine⟨s.heap.objs.size,[s.heap.objs.size,p],[s.heap.objs.size],its.toArray.size,_,_,fun i=>bs.getD i true,rfl,Walks.list (show X.A.in1.handled=none from I.ok.hd hc) _ p hne its.toArray,⟨⟨_,Heap.get?_push_size _ rfl,rfl,rfl⟩,pl.isList.push _⟩,?_,fun h' tk hk=>?_⟩
 ·intro i v s' Q' E' hv hQ
  have hv':its[i]?=some v:=by simpa using hv
  have hi:i < its.length:=(List.getElem?_eq_some_iff.mp hv').1
  have hb:bs[i]?=some (bs.getD i true):=by
   rw[List.getD_eq_getElem?_getD,List.getElem?_eq_getElem (by omega)]
   rfl
  obtain⟨w',e1,e2⟩:=rv.get (i:=i) (x:=.bl (bs.getD i true)) (by rw[List.getElem?_map,hb];rfl)
  rw[hv']at e1
  cases e1
  cases (show v=Value.bool _ from e2)
  exact wpAny_truthy_bool hQ
 ·have e:(List.range its.toArray.size).all (fun i=>bs.getD i true)=bs.all id:=by
   rw[Bool.eq_iff_iff,List.all_eq_true,List.all_eq_true]
   constructor
   ·intro h x hx
    obtain⟨i,hi,rfl⟩:=List.mem_iff_getElem.mp hx
    have:=h i (List.mem_range.mpr (by simp only[List.size_toArray];omega))
    rw[List.getD_eq_getElem?_getD,List.getElem?_eq_getElem hi]at this
    exact this
   ·intro h i hi
    have hi':i < bs.length:=by have:=List.mem_range.mp hi;simp only[List.size_toArray]at this;omega
    rw[List.getD_eq_getElem?_getD,List.getElem?_eq_getElem hi']
    exact h _ (List.getElem_mem hi')
  refine⟨.bl (bs.all id),H,I.kept (t':=tk) fun b o eb=>hk b o ?_ (Heap.get?_push_of_some _ eb),congrArg Value.bool e,q⟩
  intro hm
  have:b=s.heap.objs.size:=by simpa using hm
  exact absurd (Heap.lt_size eb) (by rw[this];exact Nat.lt_irrefl _)
end
structure Clo (X:Cx) (scope:Scope) (cl:List (Str × Addr)):Prop where
 eq:closureFor scope X.env=pure cl
 sub:∀ y c,cl.lookup y=some c→X.env.cells.lookup y=some c
 has:∀ y,((relabel scope X.env).names.lookup y=some .cell∨(relabel scope X.env).names.lookup y=some .free)→∃ c,cl.lookup y=some c
theorem za2 {X:Cx} {scope:Scope} (hfree:∀ x∈scope.names,x.2≠.free) (hcell:∀ x∈scope.names,x.2≠.cell):Clo X scope []:=by
 refine⟨closureFor_none hfree,fun y c h=>by simp at h,fun y h=>?_⟩
 have e:(relabel scope X.env).names=scope.names:=by
  unfold relabel
  refine map_eq_self (fun x hx=>?_)
  obtain⟨n,k⟩:=x
  have:(k == NameKind.free)=false:=by simpa using hfree _ hx
  simp [this]
 rw[e]at h
 rcases h with h | h
 ·exact absurd rfl (hcell _ (PySem.mem_of_lookup h))
 ·exact absurd rfl (hfree _ (PySem.mem_of_lookup h))
def zaK (X:Cx) (N':List Str) (scope:Scope) (cl:List (Str × Addr)) (fp:List Addr) (s₃:Shared) (H₃:Hp):Cx where
 prog:=X.prog
 w:=X.w
 K:=X.K
 mg:=X.mg
 base:=X.base
 A:=X.A
 N:=N'
 s₀:=s₃
 H₀:=H₃
 env:=compEnvC scope cl s₃.heap.objs.size X.env
 outer:=X.stack
 stack:=X.stack
 ex:=fp
 calm:=X.calm
 fn:=fun _=>false
 pn:=[]
 xe:=fun _ _=>False
def fvs (σ:St) (ix:List Nat):St:=ix.map fun i=>(σ[i]?).join
def tLC (wi:TI) (ix:List Nat) (te:TE):TE:=fun σ H Q=>wi σ H fun J H1=>∀ D,H1 D=none →
 ∃ W:Nat→Nat→List V→Hp→Prop,(∃ m,W 0 m [] (upd H1 D (.lst []))) ∧
  ∀ i m ys H',W i m ys H'→H' D=some (.lst ys) ∧
   ((J.stop i H'∧Q (.ref D) H')∨(J.go i H'∧∀ x H'',J.yld i H' x H''→te (some x :: fvs σ ix) H'' fun y H3 =>
    H3 D=some (.lst ys)∧ys.length < sizeLine∧∃ m',m' < m∧W (i+1) m' (ys++[y]) (upd H3 D (.lst (ys++[y])))))
theorem zdU {prog:Program} {w:World} {A:Around} {R:Result→Shared→Prop} {s:Shared} {elt target iter:Expr} {scope:Scope} {pos:Pos} {it acc:Value} {env:Env} (I:Nat→Shared→Prop)
  (turn:∀ n s,I n s→wpAny (model prog w) A (pyNext it) (fun r s₁=>match r with
   | none=>R (.ok .next) s₁
   | some v=>wpAny (model prog w) A (letOwnedTupleGo target it v) (fun _ s₁'=>wpAny (model prog w) A (assign target env v) (fun _ s₂=>wpAny (model prog w) A (eval elt env) (fun x s₃ =>
     wpAny (model prog w) A (call (.builtin "list.append") [acc,x]) (fun _ s₄=>∃ m,m < n∧I m s₄) (notedBy (model prog w) A env fun e s'=>R (.error e) s') s₃)
     (notedBy (model prog w) A env fun e s'=>R (.error e) s') s₂) (notedBy (model prog w) A env fun e s'=>R (.error e) s') s₁') (notedBy (model prog w) A env fun e s'=>R (.error e) s') s₁) (notedBy (model prog w) A env fun e s'=>R (.error e) s') s)
  (n:Nat) (h:I n s) :
  codeAny (model prog w) A (.compLoop (.ListComp elt [⟨target,iter,[],0⟩] scope pos) 0 it acc env) R s:=by
 refine codeAny_loop rfl I (fun n s hI=>?_) n h
 show wpAny _ _ ((compTurn (.ListComp elt [⟨target,iter,[],0⟩] scope pos) 0 it acc env).onRaise (fun x=>do noteFrame x env;theTreesLotGoes x)) _ _ s
 refine wpAny_noted ?_
 rw[compTurn_list1]
 refine wpAny_bind (wpAny_standAt (wpAny_bind (wpAny_mono (turn n s hI) (fun r s₁ h₁=>?_) fun _ _ h'=>h')))
 cases r with
 | none=>exact wpAny_pure h₁
 | some v =>
  refine wpAny_bind (wpAny_mono h₁ (fun _ s₁' h₁'=>?_) fun _ _ h'=>h')
  exact wpAny_bind (wpAny_mono h₁' (fun _ s₂ h₂=>wpAny_bind (wpAny_bind (wpAny_mono h₂ (fun x s₃ h₃=>wpAny_bind (wpAny_mono h₃
   (fun _ s₄ h₄=>wpAny_pure (wpAny_pure ⟨rfl,h₄⟩)) fun _ _ h'=>h')) fun _ _ h'=>h'))) fun _ _ h'=>h')
section
variable {X:Cx} {N':List Str} {scope:Scope} {cl:List (Str × Addr)} {fp:List Addr} {pins:List (Addr × Obj)} {σ:St} {H:Hp} {s:Shared}
theorem zc7 (I:Inv X pins σ H s) (C:Clo X scope cl) (hkind:scope.kind=.function) (hf:∀ b∈fp,zbS X pins H b) (hlt:∀ b∈fp,b < s.heap.objs.size):(zaK X N' scope cl fp s H).Ok where
 mod:=I.ok.mod
 kind:=hkind
 glob:=I.ok.glob
 blt:=I.ok.blt
 above:=Nat.le_refl _
 inj:=fun x y c h1 h2=>I.ok.inj x y c (C.sub x c h1) (C.sub y c h2)
 has:=fun x h=>C.has x h
 cab:=fun x c h=>by cases (show false=true from h)
 hd:=I.ok.hd
 frames:=I.ok.frames
 stk:=.inl rfl
 exf:=fun b hb=>⟨Nat.ne_of_lt (hlt b hb),fun x c h=>(hf b hb).2.2.2.2.1 x c (C.sub x c h)⟩
 bs:=fun b o h=>I.bs b o h
 bsz:=Nat.le_trans I.ok.bsz I.sz
 noex:=fun b o h hb=>by
  rcases(hf b hb).2.2.2.1 with z | z
  ·exact I.ok.noex b o h z
  ·exact absurd (Nat.lt_of_lt_of_le (Heap.lt_size h) (Nat.le_trans I.ok.bsz z)) (Nat.lt_irrefl _)
 exfs:=fun b hb hs=>by
  rcases List.mem_cons.mp (I.stkSub b hs) with z | z
  ·exact(hf b hb).2.1 z
  ·exact(hf b hb).2.2.1 z
 funs:=I.stack
 frf:=I.stkFree
theorem zev {ix:List Nat} {h₁:Heap} {t':Nat} {m:Str→Option Value} (I:Inv X pins σ H s) (C:Clo X scope cl) (hkind:scope.kind=.function) (hf:∀ b∈fp,zbS X pins H b) (hlt:∀ b∈fp,b < s.heap.objs.size)
  (hlen:N'.length=ix.length+1) (hix:∀(j i:Nat),ix[j]?=some i→∃ y,X.N[i]?=some y∧N'[j+1]?=some y∧(X.env.kindOf y=some .cell∨X.env.kindOf y=some .free)∧((relabel scope X.env).names.lookup y=some .cell∨(relabel scope X.env).names.lookup y=some .free))
  (hn:h₁.Ns s.heap.objs.size m) (hk:∀ b o,s.heap.get? b=some o→h₁.get? b=some o):Inv (zaK X N' scope cl fp s H) [] (none :: fvs σ ix) H { s with heap:=h₁,toks:=t' }:=by
 have cellK:∀ x c,cl.lookup x=some c→∃ v,h₁.IsCell c v:=fun x c h=>by
  obtain⟨v,o,ho,hd⟩:=I.cell x c (C.sub x c h)
  exact⟨v,o,hk c o ho,hd⟩
 refine⟨zc7 I C hkind hf hlt,rfl,I.bare,Un.kept hk,⟨m,hn,fun i y v h1 h2 h3=>?_⟩,cellK,I.hok.fresh (Nat.le_refl _),fun x c h=>I.freeC x c (C.sub x c h),fun p hp=>absurd (show p∈([]:List (Addr × Obj)) from hp) (by simp),I.hok.kept hk,?_⟩
 ·cases i with
  | zero=>cases (show some (none:Option V)=some (some v) from h2)
  | succ j =>
   have h2':(fvs σ ix)[j]?=some (some v):=h2
   unfold fvs at h2'
   rw[List.getElem?_map]at h2'
   cases e:ix[j]? with
   | none=>rw[e]at h2';cases h2'
   | some i =>
    rw[e]at h2'
    have h4:(σ[i]?).join=some v:=Option.some.inj h2'
    have h5:σ[i]?=some (some v):=by
     cases e':σ[i]? with
     | none=>rw[e']at h4;cases h4
     | some q =>
      rw[e']at h4
      have h6:q=some v:=h4
      rw[h6]
    obtain⟨y',n1,n2,k1,k2⟩:=hix j i e
    have ey:y'=y:=Option.some.inj (n2.symm.trans h1)
    subst ey
    obtain⟨m0,hn0,hl0⟩:=I.loc
    have hv0:Vis X.env.scope y':=k1.elim (fun z=>.inr (.inl z)) fun z=>.inr (.inr z)
    obtain⟨u,ru,l⟩:=hl0 i y' v n1 h5 hv0
    refine⟨u,ru,.inr ⟨k2,?_⟩⟩
    rcases l with ⟨k,_⟩ | ⟨_,c,ec,o,ho,hd⟩
    ·rcases k1 with z | z
     ·rw[z]at k;cases k
     ·rw[z]at k;cases k
    ·obtain⟨c',ec'⟩:=C.has y' k2
     have:c'=c:=Option.some.inj ((C.sub _ _ ec').symm.trans ec)
     subst this
     exact⟨c',ec',o,hk c' o ho,hd⟩
 ·show(none :: fvs σ ix:St).length=N'.length
  rw[hlen]
  simp [fvs]
theorem zfY {σ':St} {H':Hp} {s':Shared} {h':Heap} (I:Inv X pins σ H s) (J:Inv (zaK X N' scope cl fp s H) [] σ' H' s') (hf:∀ b∈fp,zbS X pins H b) (hs:Heap.SameBut s.heap.objs.size s'.heap h'):Inv X pins σ H' { s' with heap:=h' }:=by
 have ne:∀ b o,s.heap.get? b=some o→b≠s.heap.objs.size:=fun b o e=>Nat.ne_of_lt (Heap.lt_size e)
 have eq:∀ b,b≠s.heap.objs.size→h'.get? b=s'.heap.get? b:=fun b hb=>hs.2 b hb
 have B:=J.base
 have u:Un (frs X.stack) fp H H' s.heap h' :=
  ⟨fun b o e n h1 h2=>(eq b (ne b o e)).trans (B.keep b o e n h1 h2),fun b o e n h1 h2=>by
   obtain⟨sl,q⟩:=B.slot b o e n h1 h2
   exact⟨sl,(eq b (ne b o e)).trans q⟩,fun b o e n h1=>B.free b o e n h1,fun b o e h1=>by
   obtain⟨o',q⟩:=B.there b o e h1
   exact⟨o',(eq b (ne b o e)).trans q⟩,B.tups,B.frzs,B.tbls⟩
 have hfree:H' s.heap.objs.size=none:=J.free
 have hok:HOk X.prog X.w H' h':=fun b ob e=>by
  refine(J.hok b ob e).stay (fun c w' hc q=>(eq c ?_).trans q) (fun _ q=>q) fun _ _ q=>q
  rintro rfl
  rcases hc with z | z
  ·rw[←z,hfree]at e;cases e
  ·rw[hfree]at z;cases z
 exact I.call' (s':={ s' with heap:=h' }) (ch:=fp) J.os u hok J.bare fun b hb=>⟨(hf b hb).2.2.2.1,(hf b hb).2.1,(hf b hb).2.2.2.2.1,(hf b hb).2.2.2.2.2⟩
end
section
variable {X:Cx} {N':List Str} {scope:Scope} {elt iter:Expr} {x:Str} {px pos:Pos} {wi:TI} {te:TE} {ix:List Nat}
theorem zcL (hc:X.calm=true) (hkind:scope.kind=.function) (hcell:∀ y∈scope.names,y.2≠.cell) (hnames:∀ y∈scope.names,y.2=.local→scope.names.lookup y.1=some .local) (hx:scope.names.lookup x=some .local)
  (hclo:X.Ok→∃ cl,Clo X scope cl) (hN:N'.Nodup) (hN0:N'[0]?=some x) (hlen:N'.length=ix.length+1)
  (hix:∀(j i:Nat),ix[j]?=some i→∃ y,X.N[i]?=some y∧N'[j+1]?=some y∧(X.env.kindOf y=some .cell∨X.env.kindOf y=some .free)∧((relabel scope X.env).names.lookup y=some .cell∨(relabel scope X.env).names.lookup y=some .free))
  (hi:PI X (.Name x px) iter wi) (he:∀ cl fp s₃ H₃,PE (zaK X N' scope cl fp s₃ H₃) elt te) (hs:∀ v,foldedSetIterable iter X.env v=pure v:=by intro _;rfl) :
  PE X (.ListComp elt [⟨.Name x px,iter,[],0⟩] scope pos) (tLC wi ix te):=by
 intro pins s σ H Q I h
 obtain⟨cl,C⟩:=hclo I.ok
 rw[eval_ListComp]
 refine wpAny_comprehension_free (use:=none) rfl hs C.eq hkind hnames (thn (hi pins s σ H _ I h) fun v s1 h1=>thn h1 fun itv s2 h2=>?_)
 obtain⟨it,fp,tn,J,H2,e,I2,T,st2,f2,q2⟩:=h2
 subst e
 have hD:H2 s2.heap.objs.size=none:=I2.fresh
 obtain⟨W,⟨m0,w0⟩,turn⟩:=q2 s2.heap.objs.size hD
 refine wpAny_newObj_type (wpAny_newFunctionEnv hcell (by intro y hy;simp at hy) (fun h₁ hns₁ hsb₁=>?_) hkind)
 dsimp only at hns₁ hsb₁ ⊢
 have I3:Inv X pins σ (upd H2 s2.heap.objs.size (.lst [])) { s2 with heap:=s2.heap.push { cls:=.type "list",data:=.seq ([]:List Value).toArray },toks:=s2.toks }:=I2.lnew .nil (Nat.zero_le _)
 generalize hs3:({ s2 with heap:=s2.heap.push { cls:=.type "list",data:=.seq ([]:List Value).toArray },toks:=s2.toks }:Shared)=s3 at I3
 have e3:s3.heap=s2.heap.push { cls:=.type "list",data:=.seq ([]:List Value).toArray }:=by rw[←hs3]
 generalize hDD:s2.heap.objs.size=D at *
 generalize hH3:upd H2 D (.lst [])=H3 at *
 have lt2:∀ b∈fp,b < s2.heap.objs.size:=fun b hb=>by
  obtain⟨o,ho,_⟩:=T.obj 0 _ st2 b hb
  exact Heap.lt_size ho
 have neD:∀ b∈fp,b≠D:=fun b hb=>by rw[←hDD];exact Nat.ne_of_lt (lt2 b hb)
 have f3:∀ b∈fp,zbS X pins H3 b:=fun b hb=>⟨by rw[←hH3,zaj (neD b hb)];exact(f2 b hb).1,(f2 b hb).2⟩
 have sz3:s3.heap.objs.size=D+1:=by rw[e3,Heap.size_push,hDD]
 have lt3:∀ b∈fp,b < s3.heap.objs.size:=fun b hb=>by have q:=lt2 b hb;rw[sz3];rw[hDD]at q;exact Nat.lt_succ_of_lt q
 have old:∀ b o,s3.heap.get? b=some o→h₁.get? b=some o:=fun b o eb=>by
  have hb:b < D+1:=by rw[←sz3];exact Heap.lt_size eb
  refine hsb₁.extBut b o ?_ (Heap.get?_push_of_some _ (by rw[←e3];exact eb))
  rw[Heap.size_push,hDD]
  exact Nat.ne_of_lt hb
 have szC:(s2.heap.push { cls:=.type "list",data:=.seq ([]:List Value).toArray }).objs.size=s3.heap.objs.size:=by rw[e3]
 have os3:s3.os=s2.os:=by rw[←hs3]
 rw[szC]at hns₁ hsb₁
 have I4:Inv (zaK X N' scope cl fp s3 H3) [] (none :: fvs σ ix) H3 { s3 with heap:=h₁,toks:=s2.toks+([]:List (Str × Value)).length }:=zev I3 C hkind f3 lt3 hlen hix hns₁ old
 have st4:tn 0 h₁:=T.keep 0 _ _ st2 fun b hb o eb=>old b o (by rw[e3];exact Heap.get?_push_of_some _ eb)
 have stat:∀ {H':Hp},(∀ b∈fp,H' b=none)→∀ b∈fp,zbS (zaK X N' scope cl fp s3 H3) [] H' b:=fun hn b hb =>
  ⟨hn b hb,Nat.ne_of_lt (lt3 b hb),fun hs'=>(zc7 (N':=N') I3 C hkind f3 lt3).exfs b hb hs',.inl hb,fun y c hy=>((zc7 (N':=N') I3 C hkind f3 lt3).exf b hb).2 y c hy,fun p hp=>absurd (show p∈([]:List (Addr × Obj)) from hp) (by simp)⟩
 have loop:∀ s4:Shared,s4={ s3 with heap:=h₁,toks:=s2.toks+([]:List (Str × Value)).length } →
   codeAny (model X.prog X.w) X.A (.compLoop (.ListComp elt [⟨.Name x px,iter,[],0⟩] scope pos) 0 (.ref it) (.ref D) (compEnvC scope cl s3.heap.objs.size X.env))
    (compPost (model X.prog X.w) X.A X.xe none (EP X pins σ Q) (.ref D) s3.heap.objs.size) s4:=by
  rintro s4 rfl
  refine zdU (fun n s'=>∃ i σ0 H' ys,Inv (zaK X N' scope cl fp s3 H3) [] (σ0 :: fvs σ ix) H' s'∧tn i s'.heap∧(∀ b∈fp,H' b=none)∧W i n ys H') ?_ m0 ⟨0,none,H3,[],I4,st4,fun b hb=>(f3 b hb).1,w0⟩
  rintro n s5 ⟨i,σ0,H5,ys,I5,st5,fr5,w5⟩
  obtain⟨hD5,alt⟩:=turn i n ys H5 w5
  rcases alt with ⟨stop,q⟩ | ⟨go,step⟩
  ·refine thn (T.done (zaK X N' scope cl fp s3 H3) rfl rfl rfl hc i [] s5 _ H5 _ I5 (stat fr5) st5 stop) fun r s6 ⟨hr,I6⟩=>?_
   subst hr
   obtain⟨m,hn,_⟩:=I6.loc
   exact⟨m,hn,fun h' hsb=>⟨.ref D,H5,zfY I3 I6 f3 hsb,rfl,q⟩⟩
  ·refine thn (T.item (zaK X N' scope cl fp s3 H3) rfl rfl rfl hc i [] s5 _ H5 _ I5 (stat fr5) st5 go) fun r s6 ⟨u,hr,h6⟩=>?_
   subst hr
   refine thn h6 fun _ s7 ⟨y7,H7,I7,r7,yl7,st7,fr7⟩=>?_
   have I7':=I7.pinned (stat fr7) (T.obj _ _ st7)
   have G:PG (zaK X N' scope cl fp s3 H3) (.Name x px) (zcp 0):=zaA hN hN0 (.inl (lookup_relabel_local hx)) (.inr (lookup_relabel_local hx))
   refine wpAny_mono (G _ s7 _ H7 y7 u (fun σ' H'=>σ'=some y7 :: fvs σ ix∧H'=H7) I7' r7 ⟨rfl,rfl⟩) (fun _ s8 h8=>?_) fun _ _ f=>False.elim f
   obtain⟨σ8,H8,I8,rfl,rfl⟩:=h8
   refine wpAny_mono (he cl fp s3 H3 _ s8 _ H8 _ I8 (step y7 H8 yl7)) (fun yv s9 h9=>?_) fun _ _ f=>False.elim f
   obtain⟨y9,H9,I9,r9,hD9,hl9,m',hm',w9⟩:=h9
   refine wpAny_mono (zbY (X:=zaK X N' scope cl fp s3 H3) _ s9 _ H9 (.ref D) [y9] (.ref D) [yv] (fun _ H'=>H'=upd H9 D (.lst (ys++[y9]))) I9 rfl (.cons r9 .nil) ⟨D,ys,y9,rfl,rfl,hD9,hl9,rfl⟩) (fun _ s10 h10=>?_) fun _ _ f=>False.elim f
   obtain⟨_,H10,I10,_,rfl⟩:=h10
   refine⟨m',hm',i+1,some y7,_,ys++[y9],I10.unpinned,T.keep _ _ _ st7 fun b hb o eb=>(I10.pin (b,o) (List.mem_append_right _ (List.mem_append_right _ (zbH hb eb)))).1,fun b hb=>?_,w9⟩
   obtain⟨o,eb,d⟩:=T.obj _ _ st7 b hb
   exact(I10.pin (b,o) (List.mem_append_right _ (List.mem_append_right _ (zbH hb eb)))).2.1
 subst hs3
 have fin:=codeAny_compStart_list (loop _ rfl) (T.self X.A 0 _ _ _ st4 (loop _ rfl))
 exact fin
end
end L2
namespace L2
open PySem PySem.Spec PyProof.Rows
section
variable {X:Cx} {e l:Expr} {es:List Expr} {te tl:TE} {pos:Pos} {tg:Expr}
end
theorem zd6 {env:Env}:∀(l:List (Str × NameKind)) (acc:List (Str × Addr)),(∀ y∈l,y.2=.free→∃ c,env.cells.lookup y.1=some c) →
  ∃ cl,(forIn l acc (fun(y:Str × NameKind) cs=>if(y.2 == NameKind.free)=true then do let c ←cellOf env y.1;pure (ForInStep.yield ((y.1,c) :: cs)) else pure (ForInStep.yield cs)):Sem (List (Str × Addr)))=pure cl ∧
   (∀ y c,cl.lookup y=some c→acc.lookup y=some c∨env.cells.lookup y=some c)∧∀ y,((y,NameKind.free)∈l∨∃ c,acc.lookup y=some c)→∃ c,cl.lookup y=some c
 | [],acc,_=>⟨acc,rfl,fun _ _ h=>.inl h,fun y h=>h.elim (fun z=>by cases z) fun z=>z⟩
 | (n,k) :: r,acc,hf=>by
  by_cases hk:k=.free
  ·subst hk
   obtain⟨c,hc⟩:=hf (n,.free) List.mem_cons_self rfl
   obtain⟨cl,e1,e2,e3⟩:=zd6 r ((n,c) :: acc) fun y hy=>hf y (List.mem_cons_of_mem _ hy)
   refine⟨cl,?_,fun y d h=>?_,fun y h=>?_⟩
   ·rw[List.forIn_cons]
    have ec:cellOf env n=pure c:=by unfold cellOf;rw[show env.cells.lookup n=some c from hc]
    have eb:(NameKind.free == NameKind.free)=true:=rfl
    simp only[eb,if_true,ec,pure_bind]
    exact e1
   ·rcases e2 y d h with z | z
    ·by_cases hy:y=n
     ·subst hy
      rw[List.lookup_cons,beq_self_eq_true]at z
      cases z
      exact .inr hc
     ·rw[List.lookup_cons,beq_eq_false_iff_ne.mpr hy]at z
      exact .inl z
    ·exact .inr z
   ·refine e3 y ?_
    by_cases hy:y=n
    ·subst hy
     exact .inr ⟨c,by rw[List.lookup_cons,beq_self_eq_true]⟩
    ·rcases h with z | ⟨d,z⟩
     ·rcases List.mem_cons.mp z with z | z
      ·exact absurd (congrArg Prod.fst z) hy
      ·exact .inl z
     ·exact .inr ⟨d,by rw[List.lookup_cons,beq_eq_false_iff_ne.mpr hy];exact z⟩
  ·obtain⟨cl,e1,e2,e3⟩:=zd6 r acc fun y hy=>hf y (List.mem_cons_of_mem _ hy)
   refine⟨cl,?_,e2,fun y h=>e3 y ?_⟩
   ·rw[List.forIn_cons]
    have hb:(k == NameKind.free)=false:=by simpa using hk
    simp only[hb,Bool.false_eq_true,if_false,pure_bind]
    exact e1
   ·rcases h with z | z
    ·rcases List.mem_cons.mp z with z | z
     ·exact absurd (congrArg Prod.snd z).symm hk
     ·exact .inl z
    ·exact .inr z
theorem zhr {X:Cx} {scope sc:Scope} (ok:X.Ok) (hsc:X.env.scope=sc) (hcell:∀ x∈scope.names,x.2≠.cell)
  (hf:∀ y∈scope.names,y.2=.free→sc.names.lookup y.1=some .cell∨sc.names.lookup y.1=some .free):∃ cl,Clo X scope cl:=by
 obtain⟨cl,e1,e2,e3⟩:=zd6 (env:=X.env) scope.names [] fun y hy h=>ok.has y.1 (by
  show X.env.scope.names.lookup y.1=_∨X.env.scope.names.lookup y.1=_
  rw[hsc]
  exact hf y hy h)
 refine⟨cl,?_,fun y c h=>(e2 y c h).elim (fun z=>by cases z) fun z=>z,fun y h=>e3 y (.inl ?_)⟩
 ·unfold closureFor
  have e0:(forIn scope.names ([]:List (Str × Addr)) (fun(x:Str × NameKind) cs=>match x with
    | (name,kind)=>if(kind == NameKind.free)=true then do let c ←cellOf X.env name;pure (ForInStep.yield ((name,c) :: cs)) else pure (ForInStep.yield cs)):Sem (List (Str × Addr)))=pure cl:=e1
  show(forIn scope.names ([]:List (Str × Addr)) _ >>= fun z=>pure z)=pure cl
  rw[bind_pure]
  exact e0
 ·have m:∃ k,(k=.cell∨k=.free)∧(y,k)∈(relabel scope X.env).names:=by
   rcases h with h | h
   ·exact⟨_,.inl rfl,PySem.mem_of_lookup h⟩
   ·exact⟨_,.inr rfl,PySem.mem_of_lookup h⟩
  obtain⟨k,hk,hm⟩:=m
  unfold relabel at hm
  obtain⟨⟨n0,k0⟩,h0,ez⟩:=List.mem_map.mp hm
  by_cases hc:(k0 == NameKind.free&&X.env.scope.kind == .function&&X.env.kindOf n0 == some .cell)=true
  ·dsimp only at ez
   rw[if_pos hc]at ez
   have en:n0=y:=congrArg Prod.fst ez
   have ef:k0=.free:=by
    rw[Bool.and_eq_true,Bool.and_eq_true]at hc
    simpa using hc.1.1
   rw[en,ef]at h0
   exact h0
  ·dsimp only at ez
   rw[if_neg hc]at ez
   have en:n0=y:=congrArg Prod.fst ez
   have ek:k0=k:=congrArg Prod.snd ez
   rw[en,ek]at h0
   rcases hk with z | z
   ·exact absurd z (hcell _ h0)
   ·rw[z]at h0
    exact h0
section
variable {X:Cx} {N':List Str} {scope:Scope} {elt iter c:Expr} {x:Str} {px pos:Pos} {wi:TI} {tc:TT} {te:TE} {ix:List Nat}
end
end L2
namespace L2
open PySem PySem.Spec PyProof.Rows
theorem Inv.skip {X:Cx} {pins:List (Addr × Obj)} {σ:St} {H:Hp} {s:Shared} {h':Heap} {C:Addr} (I:Inv X pins σ H s) (hs:Heap.SameBut C s.heap h') (hC:X.s₀.heap.objs.size≤C) (hl:C≠X.env.locals) (hcl:∀ x c,X.env.cells.lookup x=some c→c≠C) (hp:∀ p∈X.pn++pins,p.1≠C) (hf:H C=none) :
  Inv X pins σ H { s with heap:=h' }:=by
 have eq:∀ b,b≠C→h'.get? b=s.heap.get? b:=fun b hb=>hs.2 b hb
 have nm:∀ {b:Addr},b∉[C]→b≠C:=fun h z=>h (by rw[z];exact List.mem_cons_self)
 have u:Un (frs X.stack) [C] H H s.heap h':=⟨fun b o e _ _ h2=>(eq b (nm h2)).trans e,fun b o e _ _ h2=>⟨o.slots,(eq b (nm h2)).trans e⟩,fun b o e n _=>n,fun b o e h1=>⟨o,(eq b (nm h1)).trans e⟩,fun _ _ q=>q,fun _ _ _ q=>q,fun _ ps q=>⟨#[],by rw[q];simp⟩⟩
 have hok:HOk X.prog X.w H h':=fun b ob e=>by
  refine(I.hok b ob e).stay (fun c w' hq q=>(eq c ?_).trans q) (fun _ q=>q) fun _ _ q=>q
  rintro rfl
  rcases hq with z | z
  ·rw[←z,hf]at e;cases e
  ·rw[hf]at z;cases z
 refine I.call' (s':={ s with heap:=h' }) (ch:=[C]) rfl u hok I.bare fun b hb=>?_
 have e:b=C:=List.mem_singleton.mp hb
 subst e
 exact⟨.inr hC,hl,hcl,hp⟩
section
variable {X:Cx} {N':List Str} {scope:Scope} {elt iter:Expr} {x:Str} {px pos:Pos} {wi:TI} {te:TE} {ix:List Nat}
theorem zcc {i:Nat} {y0:Str} {py spos:Pos} (hNy:X.N.Nodup) (hiy:X.N[i]?=some y0) (hy:Loc X.env.scope y0) (hc:X.calm=true) (hkind:scope.kind=.function) (hcell:∀ y∈scope.names,y.2≠.cell) (hnames:∀ y∈scope.names,y.2=.local→scope.names.lookup y.1=some .local) (hx:scope.names.lookup x=some .local)
  (hclo:X.Ok→∃ cl,Clo X scope cl) (hN:N'.Nodup) (hN0:N'[0]?=some x) (hlen:N'.length=ix.length+1)
  (hix:∀(j i:Nat),ix[j]?=some i→∃ y,X.N[i]?=some y∧N'[j+1]?=some y∧(X.env.kindOf y=some .cell∨X.env.kindOf y=some .free)∧((relabel scope X.env).names.lookup y=some .cell∨(relabel scope X.env).names.lookup y=some .free))
  (hi:PI X (.Name x px) iter wi) (he:∀ cl fp s₃ H₃,PE (zaK X N' scope cl fp s₃ H₃) elt te) (hsw:swapsWith (.ListComp elt [⟨.Name x px,iter,[],0⟩] scope pos) (some (.Name y0 py)) spos.line X.env=pure true:=by rfl)
  (hf:X.fn y0=true∨X.env.scope.names.lookup y0=some .local:=by first | exact .inl rfl | exact .inr rfl | assumption) (hs:∀ v,foldedSetIterable iter X.env v=pure v:=by intro _;rfl) :
  PS X (.Assign [.Name y0 py] (.ListComp elt [⟨.Name x px,iter,[],0⟩] scope pos) spos) (tAsg (tLC wi ix te) (zcp i)):=by
 intro pins s σ H Dn I h
 obtain⟨cl,C⟩:=hclo I.ok
 rw[exec_Assign_Name_used _ _ _ _ hsw]
 refine wpAny_bind (wpAny_standAt (wpAny_bind ?_))
 rw[arm_evalThenUse_ListComp]
 refine wpAny_bind (wpAny_mono (wpAny_comprehension_free (use:=some (assign (.Name y0 py) X.env)) (Q:=fun _ s'=>∃ σ' H',Inv X pins σ' H' s'∧Dn.nx σ' H') rfl hs C.eq hkind hnames (thn (hi pins s σ H _ I h) fun v s1 h1=>thn h1 fun itv s2 h2=>?_)) (fun _ s' h'=>wpAny_pure (wpAny_pure h')) fun _ _ z=>z)
 obtain⟨it,fp,tn,J,H2,e,I2,T,st2,f2,q2⟩:=h2
 subst e
 have hD:H2 s2.heap.objs.size=none:=I2.fresh
 obtain⟨W,⟨m0,w0⟩,turn⟩:=q2 s2.heap.objs.size hD
 refine wpAny_newObj_type (wpAny_newFunctionEnv hcell (by intro y hy;simp at hy) (fun h₁ hns₁ hsb₁=>?_) hkind)
 dsimp only at hns₁ hsb₁ ⊢
 have I3:Inv X pins σ (upd H2 s2.heap.objs.size (.lst [])) { s2 with heap:=s2.heap.push { cls:=.type "list",data:=.seq ([]:List Value).toArray },toks:=s2.toks }:=I2.lnew .nil (Nat.zero_le _)
 generalize hs3:({ s2 with heap:=s2.heap.push { cls:=.type "list",data:=.seq ([]:List Value).toArray },toks:=s2.toks }:Shared)=s3 at I3
 have e3:s3.heap=s2.heap.push { cls:=.type "list",data:=.seq ([]:List Value).toArray }:=by rw[←hs3]
 generalize hDD:s2.heap.objs.size=D at *
 generalize hH3:upd H2 D (.lst [])=H3 at *
 have lt2:∀ b∈fp,b < s2.heap.objs.size:=fun b hb=>by
  obtain⟨o,ho,_⟩:=T.obj 0 _ st2 b hb
  exact Heap.lt_size ho
 have neD:∀ b∈fp,b≠D:=fun b hb=>by rw[←hDD];exact Nat.ne_of_lt (lt2 b hb)
 have f3:∀ b∈fp,zbS X pins H3 b:=fun b hb=>⟨by rw[←hH3,zaj (neD b hb)];exact(f2 b hb).1,(f2 b hb).2⟩
 have sz3:s3.heap.objs.size=D+1:=by rw[e3,Heap.size_push,hDD]
 have lt3:∀ b∈fp,b < s3.heap.objs.size:=fun b hb=>by have q:=lt2 b hb;rw[sz3];rw[hDD]at q;exact Nat.lt_succ_of_lt q
 have old:∀ b o,s3.heap.get? b=some o→h₁.get? b=some o:=fun b o eb=>by
  have hb:b < D+1:=by rw[←sz3];exact Heap.lt_size eb
  refine hsb₁.extBut b o ?_ (Heap.get?_push_of_some _ (by rw[←e3];exact eb))
  rw[Heap.size_push,hDD]
  exact Nat.ne_of_lt hb
 have szC:(s2.heap.push { cls:=.type "list",data:=.seq ([]:List Value).toArray }).objs.size=s3.heap.objs.size:=by rw[e3]
 have os3:s3.os=s2.os:=by rw[←hs3]
 rw[szC]at hns₁ hsb₁
 have I4:Inv (zaK X N' scope cl fp s3 H3) [] (none :: fvs σ ix) H3 { s3 with heap:=h₁,toks:=s2.toks+([]:List (Str × Value)).length }:=zev I3 C hkind f3 lt3 hlen hix hns₁ old
 have st4:tn 0 h₁:=T.keep 0 _ _ st2 fun b hb o eb=>old b o (by rw[e3];exact Heap.get?_push_of_some _ eb)
 have stat:∀ {H':Hp},(∀ b∈fp,H' b=none)→∀ b∈fp,zbS (zaK X N' scope cl fp s3 H3) [] H' b:=fun hn b hb =>
  ⟨hn b hb,Nat.ne_of_lt (lt3 b hb),fun hs'=>(zc7 (N':=N') I3 C hkind f3 lt3).exfs b hb hs',.inl hb,fun y c hy=>((zc7 (N':=N') I3 C hkind f3 lt3).exf b hb).2 y c hy,fun p hp=>absurd (show p∈([]:List (Addr × Obj)) from hp) (by simp)⟩
 have loop:∀ s4:Shared,s4={ s3 with heap:=h₁,toks:=s2.toks+([]:List (Str × Value)).length } →
   codeAny (model X.prog X.w) X.A (.compLoop (.ListComp elt [⟨.Name x px,iter,[],0⟩] scope pos) 0 (.ref it) (.ref D) (compEnvC scope cl s3.heap.objs.size X.env))
    (compPost (model X.prog X.w) X.A X.xe (some (assign (.Name y0 py) X.env)) (fun _ s'=>∃ σ' H',Inv X pins σ' H' s'∧Dn.nx σ' H') (.ref D) s3.heap.objs.size) s4:=by
  rintro s4 rfl
  refine zdU (fun n s'=>∃ i σ0 H' ys,Inv (zaK X N' scope cl fp s3 H3) [] (σ0 :: fvs σ ix) H' s'∧tn i s'.heap∧(∀ b∈fp,H' b=none)∧W i n ys H') ?_ m0 ⟨0,none,H3,[],I4,st4,fun b hb=>(f3 b hb).1,w0⟩
  rintro n s5 ⟨i,σ0,H5,ys,I5,st5,fr5,w5⟩
  obtain⟨hD5,alt⟩:=turn i n ys H5 w5
  rcases alt with ⟨stop,q⟩ | ⟨go,step⟩
  ·refine thn (T.done (zaK X N' scope cl fp s3 H3) rfl rfl rfl hc i [] s5 _ H5 _ I5 (stat fr5) st5 stop) fun r s6 ⟨hr,I6⟩=>?_
   subst hr
   obtain⟨m,hn,_⟩:=I6.loc
   have Io:Inv X pins σ H5 s6:=zfY (h':=s6.heap) I3 I6 f3 ⟨rfl,fun _ _=>rfl⟩
   refine wpAny_assign_Name (zeW (v:=.ref D) Io hNy hiy hy rfl (fun s7 I7 ⟨a,sb,ha⟩=>?_) hf)
   have ltC:∀ x c,X.env.cells.lookup x=some c→c < s3.heap.objs.size:=fun x c e=>by
    obtain⟨v,hv⟩:=I3.cell x c e
    exact hv.lt
   have hCa:s3.heap.objs.size≠a:=by
    rintro rfl
    rcases ha with z | z
    ·exact absurd I3.lt (by rw[←z];exact Nat.lt_irrefl _)
    ·exact absurd (ltC _ _ z) (Nat.lt_irrefl _)
   refine⟨m,hn.sameBut sb hCa,fun h' hsb=>⟨_,H5,?_,q⟩⟩
   exact I7.skip hsb I3.sz (Nat.ne_of_gt I3.lt) (fun x c e=>Nat.ne_of_lt (ltC x c e)) (fun p hp=>Nat.ne_of_lt (Heap.lt_size (I3.pin p hp).1)) I6.free
  ·refine thn (T.item (zaK X N' scope cl fp s3 H3) rfl rfl rfl hc i [] s5 _ H5 _ I5 (stat fr5) st5 go) fun r s6 ⟨u,hr,h6⟩=>?_
   subst hr
   refine thn h6 fun _ s7 ⟨y7,H7,I7,r7,yl7,st7,fr7⟩=>?_
   have I7':=I7.pinned (stat fr7) (T.obj _ _ st7)
   have G:PG (zaK X N' scope cl fp s3 H3) (.Name x px) (zcp 0):=zaA hN hN0 (.inl (lookup_relabel_local hx)) (.inr (lookup_relabel_local hx))
   refine wpAny_mono (G _ s7 _ H7 y7 u (fun σ' H'=>σ'=some y7 :: fvs σ ix∧H'=H7) I7' r7 ⟨rfl,rfl⟩) (fun _ s8 h8=>?_) fun _ _ f=>False.elim f
   obtain⟨σ8,H8,I8,rfl,rfl⟩:=h8
   refine wpAny_mono (he cl fp s3 H3 _ s8 _ H8 _ I8 (step y7 H8 yl7)) (fun yv s9 h9=>?_) fun _ _ f=>False.elim f
   obtain⟨y9,H9,I9,r9,hD9,hl9,m',hm',w9⟩:=h9
   refine wpAny_mono (zbY (X:=zaK X N' scope cl fp s3 H3) _ s9 _ H9 (.ref D) [y9] (.ref D) [yv] (fun _ H'=>H'=upd H9 D (.lst (ys++[y9]))) I9 rfl (.cons r9 .nil) ⟨D,ys,y9,rfl,rfl,hD9,hl9,rfl⟩) (fun _ s10 h10=>?_) fun _ _ f=>False.elim f
   obtain⟨_,H10,I10,_,rfl⟩:=h10
   refine⟨m',hm',i+1,some y7,_,ys++[y9],I10.unpinned,T.keep _ _ _ st7 fun b hb o eb=>(I10.pin (b,o) (List.mem_append_right _ (List.mem_append_right _ (zbH hb eb)))).1,fun b hb=>?_,w9⟩
   obtain⟨o,eb,d⟩:=T.obj _ _ st7 b hb
   exact(I10.pin (b,o) (List.mem_append_right _ (List.mem_append_right _ (zbH hb eb)))).2.1
 subst hs3
 have fin:=codeAny_compStart_list (loop _ rfl) (T.self X.A 0 _ _ _ st4 (loop _ rfl))
 exact fin
end
section
variable {X:Cx} {N':List Str} {scope:Scope} {elt iter c:Expr} {x:Str} {px pos:Pos} {wi:TI} {tc:TT} {te:TE} {ix:List Nat}
end
end L2
namespace L2
open PySem PySem.Spec PyProof.Rows
inductive Dt where
 | non | bl (b:Bool) | int (i:Int) | str (x:Str) | tup (xs:List Dt) | lst (xs:List Dt)
mutual
def peq:Dt→Dt→Bool
 | .non,.non=>true
 | .bl a,.bl b=>a == b
 | .bl a,.int b=>(if a then 1 else 0) == b
 | .int a,.bl b=>a == (if b then 1 else 0)
 | .int a,.int b=>a == b
 | .str a,.str b=>a == b
 | .tup xs,.tup ys=>za7 xs ys
 | .lst xs,.lst ys=>za7 xs ys
 | _,_=>false
def za7:List Dt→List Dt→Bool
 | [],[]=>true
 | x :: xs,y :: ys=>peq x y&&za7 xs ys
 | _,_=>false
end
mutual
def dep:Dt→Nat
 | .tup xs=>zaz xs+1
 | .lst xs=>zaz xs+1
 | _=>0
def zaz:List Dt→Nat
 | []=>0
 | x :: xs=>max (dep x) (zaz xs)
end
mutual
def nob:Dt→Bool
 | .bl _=>false
 | .tup xs=>nobs xs
 | .lst xs=>nobs xs
 | _=>true
def nobs:List Dt→Bool
 | []=>true
 | x :: xs=>nob x&&nobs xs
end
mutual
theorem zcd:∀ d:Dt,peq d d=true
 | .non=>rfl
 | .bl _=>by simp [peq]
 | .int _=>by simp [peq]
 | .str _=>by simp [peq]
 | .tup xs=>by simp only[peq];exact zdC xs
 | .lst xs=>by simp only[peq];exact zdC xs
theorem zdC:∀ d:List Dt,za7 d d=true
 | []=>by simp [za7]
 | x :: xs=>by simp only[za7,zcd x,zdC xs,Bool.and_self]
end
mutual
theorem peq_eq:∀ d e:Dt,nob d=true→nob e=true→peq d e=true→d=e
 | .non,e,_,_,h=>by cases e <;> first | rfl | (simp [peq]at h)
 | .bl _,e,h,_,_=>by simp [nob]at h
 | .int _,e,_,h2,h=>by cases e <;> first | (simp [nob]at h2;done) | (simp [peq]at h;done) | (simp [peq]at h;rw[h])
 | .str _,e,_,h2,h=>by cases e <;> first | (simp [peq]at h;done) | (simp [peq]at h;rw[h])
 | .tup xs,e,h1,h2,h=>by
  cases e with
  | tup ys=>simp only[peq]at h;simp only[nob]at h1 h2;rw[zeI xs ys h1 h2 h]
  | _=>simp [peq]at h
 | .lst xs,e,h1,h2,h=>by
  cases e with
  | lst ys=>simp only[peq]at h;simp only[nob]at h1 h2;rw[zeI xs ys h1 h2 h]
  | _=>simp [peq]at h
theorem zeI:∀ d e:List Dt,nobs d=true→nobs e=true→za7 d e=true→d=e
 | [],e,_,_,h=>by cases e <;> first | rfl | (simp [za7]at h)
 | x :: xs,e,h1,h2,h=>by
  cases e with
  | nil=>simp [za7]at h
  | cons y ys =>
   simp only[za7,Bool.and_eq_true]at h
   simp only[nobs,Bool.and_eq_true]at h1 h2
   rw[peq_eq x y h1.1 h2.1 h.1,zeI xs ys h1.2 h2.2 h.2]
end
mutual
def Has (K:W.Frag) (H:Hp):Dt→V→Prop
 | .non,v=>v=.non
 | .bl b,v=>v=.bl b
 | .int i,v=>v=.int i
 | .str x,v=>v=.str x
 | .tup ds,v=>∃ a xs,v=.ref a∧SqT K H a xs∧HasL K H ds xs
 | .lst ds,v=>∃ a xs,v=.ref a∧SqL K H a xs∧HasL K H ds xs
def HasL (K:W.Frag) (H:Hp):List Dt→List V→Prop
 | [],vs=>vs=[]
 | d :: ds,vs=>∃ v r,vs=v :: r∧Has K H d v∧HasL K H ds r
end
theorem HasL.length {K:W.Frag} {H:Hp}:∀ {ds:List Dt} {vs:List V},HasL K H ds vs→ds.length=vs.length
 | [],vs,h=>by simp only[HasL]at h;rw[h];rfl
 | d :: ds,vs,h=>by
  simp only[HasL]at h
  obtain⟨v,r,rfl,_,h2⟩:=h
  rw[List.length_cons,List.length_cons,HasL.length h2]
theorem HasL.get {K:W.Frag} {H:Hp}:∀ {ds:List Dt} {vs:List V} {i:Nat} {v:V},HasL K H ds vs→vs[i]?=some v→∃ d,ds[i]?=some d∧Has K H d v
 | [],vs,i,v,h,e=>by simp only[HasL]at h;rw[h]at e;simp at e
 | d :: ds,vs,i,v,h,e=>by
  simp only[HasL]at h
  obtain⟨v0,r,rfl,h1,h2⟩:=h
  cases i with
  | zero=>simp at e;subst e;exact⟨d,rfl,h1⟩
  | succ i =>
   obtain⟨d',e1,e2⟩:=HasL.get (i:=i) h2 (by simpa using e)
   exact⟨d',by simpa using e1,e2⟩
theorem HasL.append {K:W.Frag} {H:Hp}:∀ {ds es:List Dt} {vs ws:List V},HasL K H ds vs→HasL K H es ws→HasL K H (ds++es) (vs++ws)
 | [],es,vs,ws,h,h'=>by simp only[HasL]at h;rw[h];exact h'
 | d :: ds,es,vs,ws,h,h'=>by
  simp only[HasL]at h
  obtain⟨v,r,rfl,h1,h2⟩:=h
  show HasL K H (d :: (ds++es)) (v :: (r++ws))
  simp only[HasL]
  exact⟨v,r++ws,rfl,h1,HasL.append h2 h'⟩
theorem HasL.one {K:W.Frag} {H:Hp} {d:Dt} {v:V} (h:Has K H d v):HasL K H [d] [v]:=by
 simp only[HasL]
 exact⟨v,[],rfl,h,rfl⟩
mutual
def nol:Dt→Bool
 | .lst _=>false
 | .tup xs=>zb8 xs
 | _=>true
def zb8:List Dt→Bool
 | []=>true
 | x :: xs=>nol x&&zb8 xs
end
def zaR (H H':Hp):Prop:=∀ b xs,Rd H b (.tup xs)→Rd H' b (.tup xs)
theorem zaR.sq {K:W.Frag} {H H':Hp} {a:Addr} {xs:List V} (k:zaR H H') (h:SqT K H a xs):SqT K H' a xs:=h.elim (fun z=>.inl (k a xs z)) .inr
theorem zaR.trans {H H1 H2:Hp} (a:zaR H H1) (b:zaR H1 H2):zaR H H2:=fun c xs h=>b c xs (a c xs h)
theorem zaR.of_same {H H':Hp} (e:ai H H'):zaR H H':=fun b xs h=>by
 rcases h with h | ⟨o,h⟩
 ·exact .inl (e _ _ h)
 ·exact .inr ⟨o,e _ _ h⟩
theorem zaR.lst {H:Hp} {l:Addr} {xs ys:List V} (h:H l=some (.lst xs)):zaR H (upd H l (.lst ys)):=fun b zs q=>by
 rcases q with q | ⟨o,q⟩
 ·exact .inl (by rw[zaj (ne_of q h (fun z=>by cases z))];exact q)
 ·exact .inr ⟨o,by rw[zaj (ne_of q h (fun z=>by cases z))];exact q⟩
mutual
theorem Has.keep {K:W.Frag} {H H':Hp} (k:zaR H H'):∀ {d:Dt} {v:V},nol d=true→Has K H d v→Has K H' d v
 | .non,v,_,h=>by simp only[Has]at h ⊢;exact h
 | .bl _,v,_,h=>by simp only[Has]at h ⊢;exact h
 | .int _,v,_,h=>by simp only[Has]at h ⊢;exact h
 | .str _,v,_,h=>by simp only[Has]at h ⊢;exact h
 | .tup ds,v,n,h=>by
  simp only[Has]at h ⊢
  simp only[nol]at n
  obtain⟨a,xs,e,h1,h2⟩:=h
  exact⟨a,xs,e,k.sq h1,HasL.keep k n h2⟩
 | .lst _,v,n,h=>by simp [nol]at n
theorem HasL.keep {K:W.Frag} {H H':Hp} (k:zaR H H'):∀ {ds:List Dt} {vs:List V},zb8 ds=true→HasL K H ds vs→HasL K H' ds vs
 | [],vs,_,h=>by simp only[HasL]at h ⊢;exact h
 | d :: ds,vs,n,h=>by
  simp only[HasL]at h ⊢
  simp only[zb8,Bool.and_eq_true]at n
  obtain⟨v,r,e,h1,h2⟩:=h
  exact⟨v,r,e,Has.keep k n.1 h1,HasL.keep k n.2 h2⟩
end
section
variable {X:Cx} {pins:List (Addr × Obj)} {σ:St} {H:Hp} {s:Shared}
theorem zfz (I:Inv X pins σ H s) {a:Addr} {xs ys:List V} (h:SqL X.K H a xs) (h':SqT X.K H a ys):False:=by
 obtain⟨its,_,p,_⟩:=I.list h
 obtain⟨jts,_,q,_⟩:=I.tuple h'
 obtain⟨o,e,c,_⟩:=p.isList
 obtain⟨o',e',c',_⟩:=q
 rw[e]at e'
 cases e'
 rw[c]at c'
 exact absurd (Value.type.inj c') (by decide)
mutual
theorem Has.inj (I:Inv X pins σ H s):∀(d e:Dt) (v:V),Has X.K H d v→Has X.K H e v→d=e
 | .non,e,v,h,h'=>by
  simp only[Has]at h
  subst h
  cases e <;> simp only[Has]at h' <;> first | rfl | (cases h';done) | (obtain⟨_,_,z,_⟩:=h';cases z)
 | .bl b,e,v,h,h'=>by
  simp only[Has]at h
  subst h
  cases e <;> simp only[Has]at h' <;> first | (cases h';done) | (cases h';rfl) | (obtain⟨_,_,z,_⟩:=h';cases z)
 | .int b,e,v,h,h'=>by
  simp only[Has]at h
  subst h
  cases e <;> simp only[Has]at h' <;> first | (cases h';done) | (cases h';rfl) | (obtain⟨_,_,z,_⟩:=h';cases z)
 | .str b,e,v,h,h'=>by
  simp only[Has]at h
  subst h
  cases e <;> simp only[Has]at h' <;> first | (cases h';done) | (cases h';rfl) | (obtain⟨_,_,z,_⟩:=h';cases z)
 | .tup ds,e,v,h,h'=>by
  simp only[Has]at h
  obtain⟨a,xs,rfl,h1,h2⟩:=h
  cases e with
  | tup es =>
   simp only[Has]at h'
   obtain⟨a',ys,z,h3,h4⟩:=h'
   cases z
   rw[I.tuple_inj h3 h1]at h4
   rw[HasL.inj I ds es xs h2 h4]
  | lst es =>
   simp only[Has]at h'
   obtain⟨a',ys,z,h3,h4⟩:=h'
   cases z
   exact(zfz I h3 h1).elim
  | _=>simp only[Has]at h';cases h'
 | .lst ds,e,v,h,h'=>by
  simp only[Has]at h
  obtain⟨a,xs,rfl,h1,h2⟩:=h
  cases e with
  | lst es =>
   simp only[Has]at h'
   obtain⟨a',ys,z,h3,h4⟩:=h'
   cases z
   rw[I.list_inj h3 h1]at h4
   rw[HasL.inj I ds es xs h2 h4]
  | tup es =>
   simp only[Has]at h'
   obtain⟨a',ys,z,h3,h4⟩:=h'
   cases z
   exact(zfz I h1 h3).elim
  | _=>simp only[Has]at h';cases h'
theorem HasL.inj (I:Inv X pins σ H s):∀(ds es:List Dt) (vs:List V),HasL X.K H ds vs→HasL X.K H es vs→ds=es
 | [],es,vs,h,h'=>by
  simp only[HasL]at h
  subst h
  cases es with
  | nil=>rfl
  | cons e es=>simp only[HasL]at h';obtain⟨_,_,z,_⟩:=h';cases z
 | d :: ds,es,vs,h,h'=>by
  simp only[HasL]at h
  obtain⟨v,r,rfl,h1,h2⟩:=h
  cases es with
  | nil=>simp only[HasL]at h';cases h'
  | cons e es =>
   simp only[HasL]at h'
   obtain⟨v',r',z,h3,h4⟩:=h'
   cases z
   rw[Has.inj I d e v h1 h3,HasL.inj I ds es r h2 h4]
end
def zbD (ds es:List Dt) (j:Nat):Bool:=match ds[j]?,es[j]? with
 | some d,some e=>peq d e
 | _,_=>true
theorem zg4 (d e:Dt) (ds es:List Dt):zbD (d :: ds) (e :: es) 0=peq d e:=rfl
theorem zdO:∀(ds es:List Dt),((List.range (min ds.length es.length)).all (zbD ds es)&&ds.length == es.length)=za7 ds es
 | [],[]=>by simp [za7]
 | [],e :: es=>by simp [za7]
 | d :: ds,[]=>by simp [za7]
 | d :: ds,e :: es=>by
  have ih:=zdO ds es
  have e1:min (d :: ds).length (e :: es).length=min ds.length es.length+1:=by simp only[List.length_cons];omega
  rw[e1,List.range_succ_eq_map,List.all_cons,zg4,List.all_map]
  have e2:(zbD (d :: ds) (e :: es) ∘ Nat.succ)=zbD ds es:=by funext j;rfl
  rw[e2,List.length_cons,List.length_cons]
  simp only[za7]
  rw[←ih,Bool.and_assoc]
  congr 2
  simp
theorem ziv {ds es:List Dt} (h:ds.length=es.length):(List.range ds.length).all (zbD ds es)=za7 ds es:=by
 rw[←zdO,←h,Nat.min_self]
 simp
theorem zid {ds es:List Dt} (h:ds.length≠es.length):za7 ds es=false:=by
 rw[←zdO]
 have:(ds.length == es.length)=false:=by simpa using h
 rw[this,Bool.and_false]
theorem zbq (I:Inv X pins σ H s) {a:Addr} {xs:List V} {ds:List Dt} (h:SqT X.K H a xs) (g:HasL X.K H ds xs):∃ its:List Value,au xs its∧s.heap.IsTuple a its.toArray∧its.toArray.size=ds.length:=by
 obtain⟨its,r,p,_⟩:=I.tuple h
 exact⟨its,r,p,by rw[List.size_toArray,←r.length,←g.length]⟩
theorem zbr (I:Inv X pins σ H s) {a:Addr} {xs:List V} {ds:List Dt} (h:SqL X.K H a xs) (g:HasL X.K H ds xs):∃ its:List Value,au xs its∧s.heap.IsList a its.toArray∧its.toArray.size=ds.length:=by
 obtain⟨its,r,p,_⟩:=I.list h
 exact⟨its,r,p.isList,by rw[List.size_toArray,←r.length,←g.length]⟩
def zgK (s:Shared) (A:Around) (ds es:List Dt) (xs ys:List V):Prop :=
 ∀(us zs:List Value),au xs us→au ys zs→∀(j:Nat) (u z:Value),us[j]?=some u→zs[j]?=some z→SeqAt.EqAt A.in1 s u z (zbD ds es j)
theorem rcTT (I:Inv X pins σ H s) {A:Around} {a b:Addr} {xs ys:List V} {ds es:List Dt} (h1:SqT X.K H a xs) (g1:HasL X.K H ds xs) (h2:SqT X.K H b ys) (g2:HasL X.K H es ys) (hu:A.units < cLine)
  (he:zgK s A ds es xs ys):SeqAt.RcAt A s (.ref a) (.ref b) (za7 ds es)∧SeqAt.RcNeAt A s (.ref a) (.ref b) (!za7 ds es):=by
 obtain⟨its,r1,p1,z1⟩:=zbq I h1 g1
 obtain⟨jts,r2,p2,z2⟩:=zbq I h2 g2
 have q:∀ j (k1:j < its.toArray.size) (k2:j < jts.toArray.size),SeqAt.EqAt A.in1 s its.toArray[j] jts.toArray[j] (zbD ds es j):=fun j k1 k2=>he its jts r1 r2 j _ _ (by simp at k1 ⊢) (by simp at k2 ⊢)
 have t1:=SeqAt.RcAt.tuples (e:=zbD ds es) p1 p2 hu q
 have t2:=SeqAt.RcNeAt.tuples (e:=zbD ds es) p1 p2 hu q
 rw[z1,z2,zdO]at t1 t2
 exact⟨t1,t2⟩
theorem rcLL (I:Inv X pins σ H s) {A:Around} {a b:Addr} {xs ys:List V} {ds es:List Dt} (h1:SqL X.K H a xs) (g1:HasL X.K H ds xs) (h2:SqL X.K H b ys) (g2:HasL X.K H es ys) (hu:A.units < cLine)
  (he:zgK s A ds es xs ys):SeqAt.RcAt A s (.ref a) (.ref b) (za7 ds es)∧SeqAt.RcNeAt A s (.ref a) (.ref b) (!za7 ds es):=by
 obtain⟨its,r1,p1,z1⟩:=zbr I h1 g1
 obtain⟨jts,r2,p2,z2⟩:=zbr I h2 g2
 by_cases hl:ds.length=es.length
 ·have q:∀ j (k1:j < its.toArray.size) (k2:j < jts.toArray.size),SeqAt.EqAt A.in1 s its.toArray[j] jts.toArray[j] (zbD ds es j):=fun j k1 k2=>he its jts r1 r2 j _ _ (by simp at k1 ⊢) (by simp at k2 ⊢)
  have t1:=SeqAt.RcAt.lists (e:=zbD ds es) p1 p2 (by rw[z1,z2,hl]) hu q
  have t2:=SeqAt.RcNeAt.lists (e:=zbD ds es) p1 p2 (by rw[z1,z2,hl]) hu q
  rw[z1,ziv hl]at t1 t2
  exact⟨t1,t2⟩
 ·have hne:(its.toArray.size != jts.toArray.size)=true:=by rw[z1,z2];simpa using hl
  rw[zid hl]
  exact⟨SeqAt.RcAt.lists_lengths p1 p2 hne hu,SeqAt.RcNeAt.lists_lengths p1 p2 hne hu⟩
theorem zb9 {A:Around} {d:Dt} (h:A.units+dep d < cLine):A.units < cLine:=Nat.lt_of_le_of_lt (Nat.le_add_right _ _) h
mutual
theorem zhp (I:Inv X pins σ H s):∀(d e:Dt) (v w:V) (u z:Value) (A:Around),Has X.K H d v→Has X.K H e w→zak v u→zak w z→A.units+dep d < cLine→SeqAt.EqAt A s u z (peq d e)
 | .non,e,v,w,u,z,A,h,h',r,r',hu=>by
  have hu':=zb9 hu
  simp only[Has]at h
  subst h
  cases e with
  | tup es =>
   simp only[Has]at h'
   obtain⟨b,ys,rfl,h3,h4⟩:=h'
   obtain⟨_,_,p,_⟩:=zbq I h3 h4
   cases (show z=Value.ref b from r')
   cases (show u=Value.none from r)
   exact SeqAt.EqAt.none_tuple p hu'
  | lst es =>
   simp only[Has]at h'
   obtain⟨b,ys,rfl,h3,h4⟩:=h'
   obtain⟨_,_,p,_⟩:=zbr I h3 h4
   cases (show z=Value.ref b from r')
   cases (show u=Value.none from r)
   exact SeqAt.EqAt.none_list p hu'
  | _=>simp only[Has]at h';subst h';exact zdv r r' rfl rfl
 | .bl k,e,v,w,u,z,A,h,h',r,r',hu=>by
  have hu':=zb9 hu
  simp only[Has]at h
  subst h
  cases e with
  | tup es =>
   simp only[Has]at h'
   obtain⟨b,ys,rfl,h3,h4⟩:=h'
   obtain⟨_,_,p,_⟩:=zbq I h3 h4
   cases (show z=Value.ref b from r')
   cases (show u=Value.bool k from r)
   exact SeqAt.EqAt.bool_tuple k p hu'
  | lst es =>
   simp only[Has]at h'
   obtain⟨b,ys,rfl,h3,h4⟩:=h'
   obtain⟨_,_,p,_⟩:=zbr I h3 h4
   cases (show z=Value.ref b from r')
   cases (show u=Value.bool k from r)
   exact SeqAt.EqAt.bool_list k p hu'
  | _=>simp only[Has]at h';subst h';exact zdv r r' rfl rfl
 | .int k,e,v,w,u,z,A,h,h',r,r',hu=>by
  have hu':=zb9 hu
  simp only[Has]at h
  subst h
  cases e with
  | tup es =>
   simp only[Has]at h'
   obtain⟨b,ys,rfl,h3,h4⟩:=h'
   obtain⟨_,_,p,_⟩:=zbq I h3 h4
   cases (show z=Value.ref b from r')
   obtain⟨t,rfl⟩:=r
   exact SeqAt.EqAt.int_tuple k t p hu'
  | lst es =>
   simp only[Has]at h'
   obtain⟨b,ys,rfl,h3,h4⟩:=h'
   obtain⟨_,_,p,_⟩:=zbr I h3 h4
   cases (show z=Value.ref b from r')
   obtain⟨t,rfl⟩:=r
   exact SeqAt.EqAt.int_list k t p hu'
  | _=>simp only[Has]at h';subst h';exact zdv r r' rfl rfl
 | .str k,e,v,w,u,z,A,h,h',r,r',hu=>by
  have hu':=zb9 hu
  simp only[Has]at h
  subst h
  cases e with
  | tup es =>
   simp only[Has]at h'
   obtain⟨b,ys,rfl,h3,h4⟩:=h'
   obtain⟨_,_,p,_⟩:=zbq I h3 h4
   cases (show z=Value.ref b from r')
   obtain⟨t,rfl⟩:=r
   exact SeqAt.EqAt.str_tuple k t p hu'
  | lst es =>
   simp only[Has]at h'
   obtain⟨b,ys,rfl,h3,h4⟩:=h'
   obtain⟨_,_,p,_⟩:=zbr I h3 h4
   cases (show z=Value.ref b from r')
   obtain⟨t,rfl⟩:=r
   exact SeqAt.EqAt.str_list k t p hu'
  | _=>simp only[Has]at h';subst h';exact zdv r r' rfl rfl
 | .tup ds,e,v,w,u,z,A,h,h',r,r',hu=>by
  have hu':=zb9 hu
  have hd:=h
  simp only[Has]at h
  obtain⟨a,xs,rfl,h1,h2⟩:=h
  cases (show u=Value.ref a from r)
  obtain⟨_,_,p,_⟩:=zbq I h1 h2
  have hi:A.in1.units+zaz ds < cLine:=by simp only[dep]at hu;rw[Around.in1_units];omega
  cases e with
  | tup es =>
   have he:=h'
   simp only[Has]at h'
   obtain⟨b,ys,rfl,h3,h4⟩:=h'
   cases (show z=Value.ref b from r')
   by_cases hab:a=b
   ·subst hab
    rw[Has.inj I _ _ _ hd he,zcd]
    exact SeqAt.EqAt.same _
   ·have q:=(rcTT I h1 h2 h3 h4 hu' fun us zs ru rz j u z e1 e2=>zdw I ds es xs ys us zs A.in1 h2 h4 ru rz hi j u z e1 e2).1
    simp only[peq]
    exact SeqAt.EqAt.of_refs hab q
  | lst es =>
   simp only[Has]at h'
   obtain⟨b,ys,rfl,h3,h4⟩:=h'
   cases (show z=Value.ref b from r')
   obtain⟨_,_,p',_⟩:=zbr I h3 h4
   exact SeqAt.EqAt.tuple_list p p' hu'
  | non=>simp only[Has]at h';subst h';cases (show z=Value.none from r');exact SeqAt.EqAt.tuple_none p hu'
  | bl k=>simp only[Has]at h';subst h';cases (show z=Value.bool k from r');exact SeqAt.EqAt.tuple_bool k p hu'
  | int k=>simp only[Has]at h';subst h';obtain⟨t,rfl⟩:=r';exact SeqAt.EqAt.tuple_int k t p hu'
  | str k=>simp only[Has]at h';subst h';obtain⟨t,rfl⟩:=r';exact SeqAt.EqAt.tuple_str k t p hu'
 | .lst ds,e,v,w,u,z,A,h,h',r,r',hu=>by
  have hu':=zb9 hu
  have hd:=h
  simp only[Has]at h
  obtain⟨a,xs,rfl,h1,h2⟩:=h
  cases (show u=Value.ref a from r)
  obtain⟨_,_,p,_⟩:=zbr I h1 h2
  have hi:A.in1.units+zaz ds < cLine:=by simp only[dep]at hu;rw[Around.in1_units];omega
  cases e with
  | lst es =>
   have he:=h'
   simp only[Has]at h'
   obtain⟨b,ys,rfl,h3,h4⟩:=h'
   cases (show z=Value.ref b from r')
   by_cases hab:a=b
   ·subst hab
    rw[Has.inj I _ _ _ hd he,zcd]
    exact SeqAt.EqAt.same _
   ·have q:=(rcLL I h1 h2 h3 h4 hu' fun us zs ru rz j u z e1 e2=>zdw I ds es xs ys us zs A.in1 h2 h4 ru rz hi j u z e1 e2).1
    simp only[peq]
    exact SeqAt.EqAt.of_refs hab q
  | tup es =>
   simp only[Has]at h'
   obtain⟨b,ys,rfl,h3,h4⟩:=h'
   cases (show z=Value.ref b from r')
   obtain⟨_,_,p',_⟩:=zbq I h3 h4
   exact SeqAt.EqAt.list_tuple p p' hu'
  | non=>simp only[Has]at h';subst h';cases (show z=Value.none from r');exact SeqAt.EqAt.list_none p hu'
  | bl k=>simp only[Has]at h';subst h';cases (show z=Value.bool k from r');exact SeqAt.EqAt.list_bool k p hu'
  | int k=>simp only[Has]at h';subst h';obtain⟨t,rfl⟩:=r';exact SeqAt.EqAt.list_int k t p hu'
  | str k=>simp only[Has]at h';subst h';obtain⟨t,rfl⟩:=r';exact SeqAt.EqAt.list_str k t p hu'
theorem zdw (I:Inv X pins σ H s):∀(ds es:List Dt) (vs ws:List V) (us zs:List Value) (A:Around),HasL X.K H ds vs→HasL X.K H es ws→au vs us→au ws zs→A.units+zaz ds < cLine →
  ∀(j:Nat) (u z:Value),us[j]?=some u→zs[j]?=some z→SeqAt.EqAt A s u z (zbD ds es j)
 | [],es,vs,ws,us,zs,A,h,h',r,r',hu,j,u,z,e1,e2=>by
  simp only[HasL]at h
  subst h
  cases r
  simp at e1
 | d :: ds,es,vs,ws,us,zs,A,h,h',r,r',hu,j,u,z,e1,e2=>by
  simp only[HasL]at h
  obtain⟨v,rs,rfl,h1,h2⟩:=h
  cases r with
  | cons r1 r2 =>
   cases es with
   | nil =>
    simp only[HasL]at h'
    subst h'
    cases r'
    simp at e2
   | cons e es =>
    simp only[HasL]at h'
    obtain⟨w,rt,rfl,h3,h4⟩:=h'
    simp only[zaz]at hu
    cases r' with
    | cons r3 r4 =>
     cases j with
     | zero =>
      simp at e1 e2
      subst e1 e2
      exact zhp I d e v w _ _ A h1 h3 r1 r3 (by omega)
     | succ j=>exact zdw I ds es rs rt _ _ A h2 h4 r2 r4 (by omega) j u z (by simpa using e1) (by simpa using e2)
end
end
end L2
namespace L2
open PySem PySem.Spec PyProof.Rows
section
variable {X:Cx} {pins:List (Addr × Obj)} {σ:St} {H:Hp} {s:Shared}
theorem rc_D (I:Inv X pins σ H s) (A:Around) (d e:Dt) (v w:V) (u z:Value) (h:Has X.K H d v) (h':Has X.K H e w) (r:zak v u) (r':zak w z) (hu:A.units+dep d < cLine) :
  SeqAt.RcAt A s u z (peq d e)∧SeqAt.RcNeAt A s u z (!peq d e):=by
 have hu':=zb9 hu
 cases d with
 | non =>
  simp only[Has]at h
  subst h
  cases (show u=Value.none from r)
  cases e with
  | non =>
   simp only[Has]at h'
   subst h'
   cases (show z=Value.none from r')
   exact⟨SeqAt.RcAt.none_none,SeqAt.RcNeAt.none_none⟩
  | bl k2 =>
   simp only[Has]at h'
   subst h'
   cases (show z=Value.bool k2 from r')
   exact⟨SeqAt.RcAt.none_bool k2,SeqAt.RcNeAt.none_bool k2⟩
  | int k2 =>
   simp only[Has]at h'
   subst h'
   obtain⟨t2,rfl⟩:=r'
   exact⟨SeqAt.RcAt.none_int k2 t2,SeqAt.RcNeAt.none_int k2 t2⟩
  | str k2 =>
   simp only[Has]at h'
   subst h'
   obtain⟨t2,rfl⟩:=r'
   exact⟨SeqAt.RcAt.none_str k2 t2,SeqAt.RcNeAt.none_str k2 t2⟩
  | tup es =>
   simp only[Has]at h'
   obtain⟨b,ys,rfl,h3,h4⟩:=h'
   obtain⟨_,_,p,_⟩:=zbq I h3 h4
   cases (show z=Value.ref b from r')
   exact⟨SeqAt.RcAt.none_tuple p hu',SeqAt.RcNeAt.none_tuple p hu'⟩
  | lst es =>
   simp only[Has]at h'
   obtain⟨b,ys,rfl,h3,h4⟩:=h'
   obtain⟨_,_,p,_⟩:=zbr I h3 h4
   cases (show z=Value.ref b from r')
   exact⟨SeqAt.RcAt.none_list p hu',SeqAt.RcNeAt.none_list p hu'⟩
 | bl k1 =>
  simp only[Has]at h
  subst h
  cases (show u=Value.bool k1 from r)
  cases e with
  | non =>
   simp only[Has]at h'
   subst h'
   cases (show z=Value.none from r')
   exact⟨SeqAt.RcAt.bool_none k1,SeqAt.RcNeAt.bool_none k1⟩
  | bl k2 =>
   simp only[Has]at h'
   subst h'
   cases (show z=Value.bool k2 from r')
   exact⟨SeqAt.RcAt.bool_bool k1 k2,SeqAt.RcNeAt.bool_bool k1 k2⟩
  | int k2 =>
   simp only[Has]at h'
   subst h'
   obtain⟨t2,rfl⟩:=r'
   exact⟨SeqAt.RcAt.bool_int k1 k2 t2,SeqAt.RcNeAt.bool_int k1 k2 t2⟩
  | str k2 =>
   simp only[Has]at h'
   subst h'
   obtain⟨t2,rfl⟩:=r'
   exact⟨SeqAt.RcAt.bool_str k1 k2 t2,SeqAt.RcNeAt.bool_str k1 k2 t2⟩
  | tup es =>
   simp only[Has]at h'
   obtain⟨b,ys,rfl,h3,h4⟩:=h'
   obtain⟨_,_,p,_⟩:=zbq I h3 h4
   cases (show z=Value.ref b from r')
   exact⟨SeqAt.RcAt.bool_tuple k1 p hu',SeqAt.RcNeAt.bool_tuple k1 p hu'⟩
  | lst es =>
   simp only[Has]at h'
   obtain⟨b,ys,rfl,h3,h4⟩:=h'
   obtain⟨_,_,p,_⟩:=zbr I h3 h4
   cases (show z=Value.ref b from r')
   exact⟨SeqAt.RcAt.bool_list k1 p hu',SeqAt.RcNeAt.bool_list k1 p hu'⟩
 | int k1 =>
  simp only[Has]at h
  subst h
  obtain⟨t1,rfl⟩:=r
  cases e with
  | non =>
   simp only[Has]at h'
   subst h'
   cases (show z=Value.none from r')
   exact⟨SeqAt.RcAt.int_none k1 t1,SeqAt.RcNeAt.int_none k1 t1⟩
  | bl k2 =>
   simp only[Has]at h'
   subst h'
   cases (show z=Value.bool k2 from r')
   exact⟨SeqAt.RcAt.int_bool k1 t1 k2,SeqAt.RcNeAt.int_bool k1 t1 k2⟩
  | int k2 =>
   simp only[Has]at h'
   subst h'
   obtain⟨t2,rfl⟩:=r'
   exact⟨SeqAt.RcAt.int_int k1 t1 k2 t2,SeqAt.RcNeAt.int_int k1 t1 k2 t2⟩
  | str k2 =>
   simp only[Has]at h'
   subst h'
   obtain⟨t2,rfl⟩:=r'
   exact⟨SeqAt.RcAt.int_str k1 t1 k2 t2,SeqAt.RcNeAt.int_str k1 t1 k2 t2⟩
  | tup es =>
   simp only[Has]at h'
   obtain⟨b,ys,rfl,h3,h4⟩:=h'
   obtain⟨_,_,p,_⟩:=zbq I h3 h4
   cases (show z=Value.ref b from r')
   exact⟨SeqAt.RcAt.int_tuple k1 t1 p hu',SeqAt.RcNeAt.int_tuple k1 t1 p hu'⟩
  | lst es =>
   simp only[Has]at h'
   obtain⟨b,ys,rfl,h3,h4⟩:=h'
   obtain⟨_,_,p,_⟩:=zbr I h3 h4
   cases (show z=Value.ref b from r')
   exact⟨SeqAt.RcAt.int_list k1 t1 p hu',SeqAt.RcNeAt.int_list k1 t1 p hu'⟩
 | str k1 =>
  simp only[Has]at h
  subst h
  obtain⟨t1,rfl⟩:=r
  cases e with
  | non =>
   simp only[Has]at h'
   subst h'
   cases (show z=Value.none from r')
   exact⟨SeqAt.RcAt.str_none k1 t1,SeqAt.RcNeAt.str_none k1 t1⟩
  | bl k2 =>
   simp only[Has]at h'
   subst h'
   cases (show z=Value.bool k2 from r')
   exact⟨SeqAt.RcAt.str_bool k1 t1 k2,SeqAt.RcNeAt.str_bool k1 t1 k2⟩
  | int k2 =>
   simp only[Has]at h'
   subst h'
   obtain⟨t2,rfl⟩:=r'
   exact⟨SeqAt.RcAt.str_int k1 t1 k2 t2,SeqAt.RcNeAt.str_int k1 t1 k2 t2⟩
  | str k2 =>
   simp only[Has]at h'
   subst h'
   obtain⟨t2,rfl⟩:=r'
   exact⟨SeqAt.RcAt.str_str k1 t1 k2 t2,SeqAt.RcNeAt.str_str k1 t1 k2 t2⟩
  | tup es =>
   simp only[Has]at h'
   obtain⟨b,ys,rfl,h3,h4⟩:=h'
   obtain⟨_,_,p,_⟩:=zbq I h3 h4
   cases (show z=Value.ref b from r')
   exact⟨SeqAt.RcAt.str_tuple k1 t1 p hu',SeqAt.RcNeAt.str_tuple k1 t1 p hu'⟩
  | lst es =>
   simp only[Has]at h'
   obtain⟨b,ys,rfl,h3,h4⟩:=h'
   obtain⟨_,_,p,_⟩:=zbr I h3 h4
   cases (show z=Value.ref b from r')
   exact⟨SeqAt.RcAt.str_list k1 t1 p hu',SeqAt.RcNeAt.str_list k1 t1 p hu'⟩
 | tup ds =>
  simp only[Has]at h
  obtain⟨a,xs,rfl,h1,h2⟩:=h
  cases (show u=Value.ref a from r)
  obtain⟨_,_,p,_⟩:=zbq I h1 h2
  have hi:A.in1.units+zaz ds < cLine:=by simp only[dep]at hu;rw[Around.in1_units];omega
  cases e with
  | non =>
   simp only[Has]at h'
   subst h'
   cases (show z=Value.none from r')
   exact⟨SeqAt.RcAt.tuple_none p hu',SeqAt.RcNeAt.tuple_none p hu'⟩
  | bl k2 =>
   simp only[Has]at h'
   subst h'
   cases (show z=Value.bool k2 from r')
   exact⟨SeqAt.RcAt.tuple_bool k2 p hu',SeqAt.RcNeAt.tuple_bool k2 p hu'⟩
  | int k2 =>
   simp only[Has]at h'
   subst h'
   obtain⟨t2,rfl⟩:=r'
   exact⟨SeqAt.RcAt.tuple_int k2 t2 p hu',SeqAt.RcNeAt.tuple_int k2 t2 p hu'⟩
  | str k2 =>
   simp only[Has]at h'
   subst h'
   obtain⟨t2,rfl⟩:=r'
   exact⟨SeqAt.RcAt.tuple_str k2 t2 p hu',SeqAt.RcNeAt.tuple_str k2 t2 p hu'⟩
  | tup es =>
   simp only[Has]at h'
   obtain⟨b,ys,rfl,h3,h4⟩:=h'
   cases (show z=Value.ref b from r')
   simp only[peq]
   exact rcTT I h1 h2 h3 h4 hu' fun us zs ru rz j u z e1 e2=>zdw I ds es xs ys us zs A.in1 h2 h4 ru rz hi j u z e1 e2
  | lst es =>
   simp only[Has]at h'
   obtain⟨b,ys,rfl,h3,h4⟩:=h'
   cases (show z=Value.ref b from r')
   obtain⟨_,_,p',_⟩:=zbr I h3 h4
   exact⟨SeqAt.RcAt.tuple_list p p' hu',SeqAt.RcNeAt.tuple_list p p' hu'⟩
 | lst ds =>
  simp only[Has]at h
  obtain⟨a,xs,rfl,h1,h2⟩:=h
  cases (show u=Value.ref a from r)
  obtain⟨_,_,p,_⟩:=zbr I h1 h2
  have hi:A.in1.units+zaz ds < cLine:=by simp only[dep]at hu;rw[Around.in1_units];omega
  cases e with
  | non =>
   simp only[Has]at h'
   subst h'
   cases (show z=Value.none from r')
   exact⟨SeqAt.RcAt.list_none p hu',SeqAt.RcNeAt.list_none p hu'⟩
  | bl k2 =>
   simp only[Has]at h'
   subst h'
   cases (show z=Value.bool k2 from r')
   exact⟨SeqAt.RcAt.list_bool k2 p hu',SeqAt.RcNeAt.list_bool k2 p hu'⟩
  | int k2 =>
   simp only[Has]at h'
   subst h'
   obtain⟨t2,rfl⟩:=r'
   exact⟨SeqAt.RcAt.list_int k2 t2 p hu',SeqAt.RcNeAt.list_int k2 t2 p hu'⟩
  | str k2 =>
   simp only[Has]at h'
   subst h'
   obtain⟨t2,rfl⟩:=r'
   exact⟨SeqAt.RcAt.list_str k2 t2 p hu',SeqAt.RcNeAt.list_str k2 t2 p hu'⟩
  | tup es =>
   simp only[Has]at h'
   obtain⟨b,ys,rfl,h3,h4⟩:=h'
   cases (show z=Value.ref b from r')
   obtain⟨_,_,p',_⟩:=zbq I h3 h4
   exact⟨SeqAt.RcAt.list_tuple p p' hu',SeqAt.RcNeAt.list_tuple p p' hu'⟩
  | lst es =>
   simp only[Has]at h'
   obtain⟨b,ys,rfl,h3,h4⟩:=h'
   cases (show z=Value.ref b from r')
   simp only[peq]
   exact rcLL I h1 h2 h3 h4 hu' fun us zs ru rz j u z e1 e2=>zdw I ds es xs ys us zs A.in1 h2 h4 ru rz hi j u z e1 e2
def rEqD (K:W.Frag):R2:=fun x y H Q=>∃ d e,Has K H d x∧Has K H e y∧dep d≤60∧Q (.bl (peq d e)) H
def rNeD (K:W.Frag):R2:=fun x y H Q=>∃ d e,Has K H d x∧Has K H e y∧dep d≤60∧Q (.bl (!peq d e)) H
theorem zfq (hu:X.A.units+64 < cLine):OpR X (compareOp .Eq) (rEqD X.K):=by
 intro pins s σ H x y v u Q I rx ry h
 obtain⟨d,e,h1,h2,hd,q⟩:=h
 exact(rc_D I X.A d e x y v u h1 h2 rx ry (by omega)).1 _ _ _ _ ⟨.bl _,H,I,rfl,q⟩
theorem zhd (hu:X.A.units+64 < cLine):OpR X (compareOp .NotEq) (rNeD X.K):=by
 intro pins s σ H x y v u Q I rx ry h
 obtain⟨d,e,h1,h2,hd,q⟩:=h
 exact(rc_D I X.A d e x y v u h1 h2 rx ry (by omega)).2 _ _ _ _ ⟨.bl _,H,I,rfl,q⟩
open Classical in
noncomputable def hitD (K:W.Frag) (H:Hp) (d:Dt) (u:Value):Bool:=decide (∃(v:V) (d':Dt),zak v u∧Has K H d' v∧peq d' d=true)
open Classical in
theorem zgs (I:Inv X pins σ H s) {d d':Dt} {v:V} {u:Value} (r:zak v u) (h:Has X.K H d' v):hitD X.K H d u=peq d' d:=by
 unfold hitD
 cases e:peq d' d with
 | true=>exact decide_eq_true ⟨v,d',r,h,e⟩
 | false =>
  refine decide_eq_false fun⟨v',d2,r',h',e'⟩=>?_
  rw[r'.inj r]at h'
  rw[Has.inj I _ _ _ h' h,e]at e'
  cases e'
theorem zcE (I:Inv X pins σ H s) {d:Dt}:∀ {ds:List Dt} {vs:List V} {us:List Value},HasL X.K H ds vs→au vs us→us.any (hitD X.K H d)=ds.any fun d'=>peq d' d
 | [],vs,us,h,r=>by
  simp only[HasL]at h
  subst h
  cases r
  rfl
 | d' :: ds,vs,us,h,r=>by
  simp only[HasL]at h
  obtain⟨v,rs,rfl,h1,h2⟩:=h
  cases r with
  | cons r1 r2=>rw[List.any_cons,List.any_cons,zgs I r1 h1,zcE I h2 r2]
theorem zcC (I:Inv X pins σ H s) {A:Around} {d:Dt} {x:V} {ux:Value} (hx:Has X.K H d x) (rx:zak x ux):∀ {ds:List Dt} {vs:List V} {us:List Value},HasL X.K H ds vs→au vs us→A.units+zaz ds < cLine→∀ u∈us,SeqAt.EqAt A s u ux (hitD X.K H d u)
 | [],vs,us,h,r,hu,u,hm=>by
  simp only[HasL]at h
  subst h
  cases r
  cases hm
 | d' :: ds,vs,us,h,r,hu,u,hm=>by
  simp only[HasL]at h
  obtain⟨v,rs,rfl,h1,h2⟩:=h
  simp only[zaz]at hu
  cases r with
  | cons r1 r2 =>
   rcases List.mem_cons.mp hm with rfl | hm
   ·rw[zgs I r1 h1]
    exact zhp I d' d v x _ _ A h1 hx r1 rx (by omega)
   ·exact zcC I hx rx h2 r2 (by omega) u hm
def rInD (K:W.Frag) (neg:Bool):R2:=fun x y H Q=>∃ p xs ds d,y=.ref p∧(SqL K H p xs∨SqT K H p xs)∧HasL K H ds xs∧Has K H d x∧zaz ds≤60∧Q (.bl (if neg then !(ds.any fun d'=>peq d' d) else ds.any fun d'=>peq d' d)) H
theorem op_inD (hu:X.A.units+64 < cLine):OpR X (compareOp .In) (rInD X.K false):=by
 intro pins s σ H x y v u Q I rx ry h
 obtain⟨p,xs,ds,d,rfl,hq,hs,hx,hd,q⟩:=h
 cases ry
 have hin:X.A.in1.units+zaz ds < cLine:=by rw[Around.in1_units];omega
 rcases hq with hq | hq
 ·obtain⟨its,r,pl,hz⟩:=I.list hq
  refine SeqAt.in_listAt (hitD X.K H d) pl.isList (fun w hw=>zcC I hx rx hs r hin w (by simpa using hw)) ⟨.bl _,H,I,rfl,?_⟩
  rw[show its.toArray.any (hitD X.K H d)=its.any (hitD X.K H d) by simp,zcE I hs r]
  exact q
 ·obtain⟨its,r,pl,hz⟩:=I.tuple hq
  refine SeqAt.in_tupleAt (hitD X.K H d) pl (fun w hw=>zcC I hx rx hs r hin w (by simpa using hw)) ⟨.bl _,H,I,rfl,?_⟩
  rw[show its.toArray.any (hitD X.K H d)=its.any (hitD X.K H d) by simp,zcE I hs r]
  exact q
theorem zhB (hu:X.A.units+64 < cLine):OpR X (compareOp .NotIn) (rInD X.K true):=by
 intro pins s σ H x y v u Q I rx ry h
 obtain⟨p,xs,ds,d,rfl,hq,hs,hx,hd,q⟩:=h
 cases ry
 have hin:X.A.in1.units+zaz ds < cLine:=by rw[Around.in1_units];omega
 rcases hq with hq | hq
 ·obtain⟨its,r,pl,hz⟩:=I.list hq
  refine SeqAt.notIn_listAt (hitD X.K H d) pl.isList (fun w hw=>zcC I hx rx hs r hin w (by simpa using hw)) ⟨.bl _,H,I,rfl,?_⟩
  rw[show its.toArray.any (hitD X.K H d)=its.any (hitD X.K H d) by simp,zcE I hs r]
  exact q
 ·obtain⟨its,r,pl,hz⟩:=I.tuple hq
  refine SeqAt.notIn_tupleAt (hitD X.K H d) pl (fun w hw=>zcC I hx rx hs r hin w (by simpa using hw)) ⟨.bl _,H,I,rfl,?_⟩
  rw[show its.toArray.any (hitD X.K H d)=its.any (hitD X.K H d) by simp,zcE I hs r]
  exact q
end
end L2
namespace L2
open PySem PySem.Spec PyProof.Rows
structure FB (P:Program) (w:World) (K:W.Frag) (mg:Str→Option Value) (base:Heap) (CX:CXT) (k:Nat) (x:Str) (f:Addr) (fd:FuncData) (ps:List Str) (sp:Sp):Prop where
 ok:FnOk P w K mg base CX k f fd ps sp
 b:aq K fd ps []
 kp:W.keepIn K (.ref f)=true
 m:mg x=some (.ref f)
theorem bsz (n:Nat) (h:n≤1000):n≤sizeLine:=Nat.le_of_lt (zcj h)
theorem zcr {k:Nat} {A:Around} (hr:aw k A):A.units+64 < cLine:=hr.units
theorem zaF {α:Type} {xs:List α} {i:Nat} {x:α} (h:xs[i]?=some x):xs.take (i+1)=xs.take i++[x]:=by
 rw[List.take_add_one,h]
 rfl
theorem ah {H:Hp} {p:Addr} (h:H p=none) (o:HO):ai H (upd H p o):=fun b u q=>by rw[zaj (zaC q h)];exact q
theorem ai.upd {H0 H:Hp} {l:Addr} {o:HO} (s:ai H0 H) (h:H0 l=none):ai H0 (upd H l o):=fun b u q=>by rw[zaj (zaC q h)];exact s b u q
theorem ai.kt {H H':Hp} (s:ai H H'):zaR H H':=zaR.of_same s
theorem ai.tup {K:W.Frag} {H H':Hp} {a:Addr} {xs:List V} (s:ai H H') (h:SqT K H a xs):SqT K H' a xs:=s.kt.sq h
structure Wk (J:It) (n:Nat) (Ok:Hp→Prop):Prop where
 stop:∀ i H,Ok H→n≤i→J.stop i H
 go:∀ i H,Ok H→i < n→J.go i H
theorem zhT {lo:Int} {n:Nat}:Wk (Itr lo n) n (fun _=>True):=⟨fun _ _ _ h=>h,fun _ _ _ h=>h⟩
theorem za5 {K:W.Frag} {a:Addr} {xs:List V}:Wk (Itl K a) xs.length (fun H=>SqL K H a xs):=⟨fun _ _ h hi=>⟨xs,h,hi⟩,fun i _ h hi=>⟨xs,xs[i],h,by simp [hi]⟩⟩
theorem zcx {K:W.Frag} {a:Addr} {xs:List V}:Wk (Itt K a) xs.length (fun H=>SqT K H a xs):=⟨fun _ _ h hi=>⟨xs,h,hi⟩,fun i _ h hi=>⟨xs,xs[i],h,by simp [hi]⟩⟩
def LcW (n:Nat) (D:Addr) (Pv:Nat→List V→Hp→Prop) (i m:Nat) (ys:List V) (H:Hp):Prop:=m=n - i∧i≤n∧ys.length≤i∧H D=some (.lst ys)∧Pv i ys H
def zhv (n:Nat) (D:Addr) (Pv:Nat→List V→Hp→Prop) (i:Nat) (ys:List V):VK:=fun y H3=>H3 D=some (.lst ys)∧ys.length < sizeLine∧∃ m',m' < n - i∧LcW n D Pv (i+1) m' (ys++[y]) (upd H3 D (.lst (ys++[y])))
theorem zbc {n:Nat} {D:Addr} {Pv:Nat→List V→Hp→Prop} {i:Nat} {ys:List V} {y:V} {H3:Hp} (hn:n≤sizeLine) (hi:i < n) (hl:ys.length≤i) (hD:H3 D=some (.lst ys)) (p:Pv (i+1) (ys++[y]) (upd H3 D (.lst (ys++[y])))):zhv n D Pv i ys y H3 :=
 ⟨hD,by omega,n - (i+1),by omega,rfl,hi,by rw[List.length_append,List.length_singleton];omega,af,p⟩
theorem zbR {J:It} {n:Nat} {Ok:Hp→Prop} {te:TE} {fv:St} {H1:Hp} {D:Addr} {R:Hp→Prop} (W:Wk J n Ok) (Pv:Nat→List V→Hp→Prop) (hok:∀ i ys H,Pv i ys H→Ok H) (h0:Pv 0 [] (upd H1 D (.lst [])))
  (hs:∀ i ys H' x H'',i < n→ys.length≤i→H' D=some (.lst ys)→Pv i ys H'→J.yld i H' x H''→te (some x :: fv) H'' (zhv n D Pv i ys)) (hd:∀ ys H',H' D=some (.lst ys)→Pv n ys H'→R H') :
  ∃ W:Nat→Nat→List V→Hp→Prop,(∃ m,W 0 m [] (upd H1 D (.lst [])))∧∀ i m ys H',W i m ys H'→H' D=some (.lst ys) ∧
   ((J.stop i H'∧R H')∨(J.go i H'∧∀ x H'',J.yld i H' x H''→te (some x :: fv) H'' fun y H3=>H3 D=some (.lst ys)∧ys.length < sizeLine∧∃ m',m' < m∧W (i+1) m' (ys++[y]) (upd H3 D (.lst (ys++[y]))))):=by
 refine⟨LcW n D Pv,⟨n,rfl,Nat.zero_le _,Nat.zero_le _,af,h0⟩,?_⟩
 rintro i m ys H' ⟨rfl,hi,hl,hD,p⟩
 refine⟨hD,?_⟩
 by_cases hlt:i < n
 ·exact .inr ⟨W.go i H' (hok _ _ _ p) hlt,fun x H'' y=>hs i ys H' x H'' hlt hl hD p y⟩
 ·have e:i=n:=by omega
  subst e
  exact .inl ⟨W.stop i H' (hok _ _ _ p) (Nat.le_refl _),hd ys H' hD p⟩
theorem zbP {J:It} {n:Nat} {Ok:Hp→Prop} {g:TG} {tb:TS} {D:zba} {σ:St} {H:Hp} (W:Wk J n Ok) (Pv:Nat→St→Hp→Prop) (hok:∀ i σ H,Pv i σ H→Ok H) (h0:Pv 0 σ H)
  (hs:∀ i σ H x H',i < n→Pv i σ H→J.yld i H x H'→g x σ H' fun σ2 H2=>tb { D with nx:=Pv (i+1),ct:=Pv (i+1),bk:=D.nx } σ2 H2) (hd:∀ σ H,Pv n σ H→D.nx σ H) :
  ∃ W:Nat→Nat→St→Hp→Prop,(∃ m,W 0 m σ H)∧∀ i m σ H,W i m σ H →
   (J.stop i H∧D.nx σ H)∨(J.go i H∧∃ N:St→Hp→Prop,(∀ σ' H',N σ' H'→∃ m',m' < m∧W (i+1) m' σ' H')∧∀ x H',J.yld i H x H'→g x σ H' fun σ2 H2=>tb { D with nx:=N,ct:=N,bk:=D.nx } σ2 H2):=by
 refine⟨fun i m σ H=>m=n - i∧i≤n∧Pv i σ H,⟨n,by simp,Nat.zero_le _,h0⟩,?_⟩
 rintro i m σ H ⟨rfl,hi,p⟩
 by_cases hlt:i < n
 ·exact .inr ⟨W.go i H (hok _ _ _ p) hlt,Pv (i+1),fun σ' H' p'=>⟨n - (i+1),by omega,rfl,hlt,p'⟩,fun x H' y=>hs i σ H x H' hlt p y⟩
 ·have e:i=n:=by omega
  subst e
  exact .inl ⟨W.stop i H (hok _ _ _ p) (Nat.le_refl _),hd σ H p⟩
theorem Has.int {K:W.Frag} {H:Hp} {i:Int}:Has K H (.int i) (.int i):=by simp only[Has]
theorem Has.str' {K:W.Frag} {H:Hp} {x:Str}:Has K H (.str x) (.str x):=by simp only[Has]
theorem HasL.nil {K:W.Frag} {H:Hp}:HasL K H [] []:=by simp only[HasL]
theorem HasL.cons {K:W.Frag} {H:Hp} {d:Dt} {ds:List Dt} {v:V} {vs:List V} (h:Has K H d v) (r:HasL K H ds vs):HasL K H (d :: ds) (v :: vs):=by
 simp only[HasL]
 exact⟨v,vs,rfl,h,r⟩
theorem Has.tup' {K:W.Frag} {H:Hp} {ds:List Dt} {a:Addr} {xs:List V} (h:SqT K H a xs) (r:HasL K H ds xs):Has K H (.tup ds) (.ref a):=by
 simp only[Has]
 exact⟨a,xs,rfl,h,r⟩
theorem Has.lst' {K:W.Frag} {H:Hp} {ds:List Dt} {a:Addr} {xs:List V} (h:SqL K H a xs) (r:HasL K H ds xs):Has K H (.lst ds) (.ref a):=by
 simp only[Has]
 exact⟨a,xs,rfl,h,r⟩
end L2
namespace PySem
open Sem (wp)
namespace F
end F
section
variable {prog:Program} {w:World} {K:Type} [DecidableEq K] {knd:KeyKind prog w K} {A:Around}
end
end PySem
namespace L2
open PySem PySem.Spec PyProof.Rows
section
variable {κ:Type} [DecidableEq κ]
def valV (kvs:List (κ × V)) (k:κ):Option V:=(kvs.find? fun kv=>decide (kv.1=k)).map (·.2)
def putK (kvs:List (κ × V)) (k:κ) (v:V):List (κ × V) :=
 if(kvs.any fun kv=>decide (kv.1=k))=true then kvs.map (fun kv=>if kv.1=k then(kv.1,v) else kv) else kvs++[(k,v)]
theorem KV.any {kvs:List (κ × V)} {vs:List (κ × Value)} (r:KV kvs vs) (k:κ):(kvs.any fun kv=>decide (kv.1=k))=vs.any fun kv=>decide (kv.1=k):=by
 unfold KV at r
 induction r with
 | nil=>rfl
 | cons h t ih=>rw[List.any_cons,List.any_cons,ih,h.1]
theorem KV.length {kvs:List (κ × V)} {vs:List (κ × Value)} (r:KV kvs vs):kvs.length=vs.length:=Paired.length r
end
section
variable {P:Program} {w:World} {H:Hp} {h:Heap} {a:Addr}
end
def DGet (H:Hp) (a:Addr) (y:V) (r:Option V):Prop :=
 (∃ kvs k,Rd H a (.dK kvs)∧y=kV k∧r=valV kvs k)∨∃ kvs k b,Rd H a (.dT kvs)∧y=.ref b∧H b=some (.tup (k.map kV))∧r=valV kvs k
def DPut (H:Hp) (a:Addr) (y v:V) (H':Hp):Prop :=
 (∃ kvs k,H a=some (.dK kvs)∧y=kV k∧kvs.length < sizeLine∧H'=upd H a (.dK (putK kvs k v))) ∨
 ∃ kvs k b,H a=some (.dT kvs)∧y=.ref b∧H b=some (.tup (k.map kV))∧kvs.length < sizeLine∧H'=upd H a (.dT (putK kvs k v))
theorem DGet.k {H:Hp} {a:Addr} {kvs:List (Key × V)} {k:Key} (e:H a=some (.dK kvs)):DGet H a (kV k) (valV kvs k):=.inl ⟨kvs,k,.inl e,rfl,rfl⟩
theorem DGet.t {H:Hp} {a b:Addr} {kvs:List (List Key × V)} {k:List Key} (e:H a=some (.dT kvs)) (eb:H b=some (.tup (k.map kV))):DGet H a (.ref b) (valV kvs k):=.inr ⟨kvs,k,b,.inl e,rfl,eb,rfl⟩
theorem DPut.k {H:Hp} {a:Addr} {kvs:List (Key × V)} {k:Key} {v:V} (e:H a=some (.dK kvs)) (hl:kvs.length < sizeLine):DPut H a (kV k) v (upd H a (.dK (putK kvs k v))):=.inl ⟨kvs,k,e,rfl,hl,rfl⟩
theorem DPut.t {H:Hp} {a b:Addr} {kvs:List (List Key × V)} {k:List Key} {v:V} (e:H a=some (.dT kvs)) (eb:H b=some (.tup (k.map kV))) (hl:kvs.length < sizeLine) :
  DPut H a (.ref b) v (upd H a (.dT (putK kvs k v))):=.inr ⟨kvs,k,b,e,rfl,eb,hl,rfl⟩
section
variable {X:Cx} {pins:List (Addr × Obj)} {σ:St} {H:Hp} {s:Shared} {a:Addr} {y v:V} {u r:Value} {o:Option V} {A:Around} {E:Value→Shared→Prop}
end
section
variable {X:Cx} {pins:List (Addr × Obj)} {σ:St} {H:Hp} {s:Shared} {a:Addr} {kvs:List (Key × V)} {k:Key} {u:Value} {A:Around} {E:Value→Shared→Prop}
end
section
variable {X:Cx} {o i e value:Expr} {pos pos' tpos:Pos} {td ty tv:TE}
end
section
variable {X:Cx} {pos:Pos}
end
section
variable {X:Cx} {pins:List (Addr × Obj)} {σ:St} {H:Hp} {s:Shared} {a:Addr} {y d:V} {u r:Value} {o:Option V} {A:Around} {E:Value→Shared→Prop}
end
section
variable {X:Cx} {o e f:Expr} {apos cpos:Pos} {td ty tx:TE}
end
section
variable {X:Cx} {pins:List (Addr × Obj)} {σ:St} {H:Hp} {s:Shared} {a:Addr} {kvs:List (Key × V)} {A:Around} {E:Value→Shared→Prop}
end
section
variable {X:Cx} {pins:List (Addr × Obj)} {σ:St} {H:Hp} {s:Shared} {a:Addr} {y:V} {u:Value} {A:Around} {E:Value→Shared→Prop}
end
end L2
namespace L2
open PySem PySem.Spec PyProof.Rows
section
variable {X:Cx}
end
section
variable {κ:Type} [DecidableEq κ]
end
end L2
namespace L2
open PySem PySem.Spec PyProof.Rows
section
variable {X:Cx}
end
end L2
namespace L2
open PySem PySem.Spec PyProof.Rows
def SqInt (K:W.Frag) (H:Hp) (q:Addr) (ps:List Int):Prop:=SqL K H q (ps.map V.int)∨SqT K H q (ps.map V.int)
def once:List Int→List Int→List Int
 | acc,[]=>acc
 | acc,p :: ps=>once (if p∈acc then acc else acc++[p]) ps
def nf (row held:List Int):List Int:=once [] (row.filter fun p=>decide (-p∉held))
end L2
namespace L2
open PySem PySem.Spec PyProof.Rows
theorem ziY (val:Nat→Int):∀ k,argBest (fun i j=>decide (val i < val j)) k≤k∧∀ i,i≤k→val (argBest (fun i j=>decide (val i < val j)) k)≤val i
 | 0=>⟨Nat.le_refl _,fun i hi=>by
   have e:i=0:=by omega
   subst e
   exact Int.le_refl _⟩
 | k+1=>by
  obtain⟨h1,h2⟩:=ziY val k
  unfold argBest
  by_cases e:val (k+1) < val (argBest (fun i j=>decide (val i < val j)) k)
  ·rw[if_pos (decide_eq_true e)]
   refine⟨Nat.le_refl _,fun i hi=>?_⟩
   by_cases hk:i=k+1
   ·rw[hk]
    exact Int.le_refl _
   ·have:=h2 i (by omega)
    omega
  ·rw[if_neg (fun z=>e (of_decide_eq_true z))]
   refine⟨by omega,fun i hi=>?_⟩
   by_cases hk:i=k+1
   ·rw[hk]
    omega
   ·exact h2 i (by omega)
theorem zgF (val:Nat→Int):∀ k,argBest (fun i j=>decide (val i > val j)) k≤k∧∀ i,i≤k→val i≤val (argBest (fun i j=>decide (val i > val j)) k)
 | 0=>⟨Nat.le_refl _,fun i hi=>by
   have e:i=0:=by omega
   subst e
   exact Int.le_refl _⟩
 | k+1=>by
  obtain⟨h1,h2⟩:=zgF val k
  unfold argBest
  by_cases e:val (k+1) > val (argBest (fun i j=>decide (val i > val j)) k)
  ·rw[if_pos (decide_eq_true e)]
   refine⟨Nat.le_refl _,fun i hi=>?_⟩
   by_cases hk:i=k+1
   ·rw[hk]
    exact Int.le_refl _
   ·have:=h2 i (by omega)
    omega
  ·rw[if_neg (fun z=>e (of_decide_eq_true z))]
   refine⟨by omega,fun i hi=>?_⟩
   by_cases hk:i=k+1
   ·rw[hk]
    omega
   ·exact h2 i (by omega)
theorem zit {ns:List Int} {i:Nat} (h:i < ns.length):ns.getD i 0∈ns:=by
 rw[List.getD_eq_getElem?_getD,List.getElem?_eq_getElem h]
 exact List.getElem_mem h
theorem zim {ns:List Int} {n:Int} (h:n∈ns):∃ i,i < ns.length∧ns.getD i 0=n:=by
 obtain⟨i,hi,e⟩:=List.mem_iff_getElem.mp h
 exact⟨i,hi,by rw[List.getD_eq_getElem?_getD,List.getElem?_eq_getElem hi];exact e⟩
section
variable {X:Cx}
theorem zez {ns:List Int} {its:List Value} (rv:au (ns.map V.int) its):∀(i:Nat) (v:Value),its.toArray[i]?=some v→∃ t,v=.int (ns.getD i 0) t:=fun i v hv=>by
 have hv':its[i]?=some v:=by simpa using hv
 have hi:i < its.length:=(List.getElem?_eq_some_iff.mp hv').1
 have hl:=rv.length
 rw[List.length_map]at hl
 have hb:ns[i]?=some (ns.getD i 0):=by
  rw[List.getD_eq_getElem?_getD,List.getElem?_eq_getElem (by omega)]
  rfl
 obtain⟨w',e1,e2⟩:=rv.get (i:=i) (x:=.int (ns.getD i 0)) (by rw[List.getElem?_map,hb];rfl)
 rw[hv']at e1
 cases e1
 exact e2
end
end L2
namespace L2
open PySem PySem.Spec PyProof.Rows
section
variable {X:Cx} {N':List Str} {scope:Scope} {cl:List (Str × Addr)} {fp:List Addr} {pins:List (Addr × Obj)} {σ:St} {H:Hp} {s:Shared}
end
section
variable {X:Cx} {N':List Str} {scope:Scope} {elt iter tg:Expr} {L:Nat} {pos:Pos} {wi:TI} {g:TG} {te:TE} {ix:List Nat}
end
section
variable {X:Cx} {N':List Str} {scope:Scope} {elt iter c tg:Expr} {L:Nat} {pos:Pos} {wi:TI} {g:TG} {tc:TT} {te:TE} {ix:List Nat}
end
end L2
namespace L2
open PySem PySem.Spec PyProof.Rows
theorem Inv.turnedLaid {X:Cx} {pins:List (Addr × Obj)} {σ:St} {H:Hp} {s:Shared} {h':Heap} {fp:List Addr} {a:Addr} {o:HO} {t':Nat} (I:Inv X pins σ H s) (hf:∀ b∈fp,zbS X pins H b) (k:∀ b u,b∉fp→s.heap.get? b=some u→h'.get? b=some u) (hp:s.heap.objs.size≤a) (new:za3 X.prog X.w (upd H a o) h' a o) :
  Inv X pins σ (upd H a o) { s with heap:=h',toks:=t' }:=by
 have hn:=I.hok.fresh hp
 have nfp:∀ b u,H b=some u→b∉fp:=fun b u e z=>by rw[(hf b z).1]at e;cases e
 have un:Un (frs X.stack) fp H (upd H a o) s.heap h':=⟨fun b u q _ _ hx=>k b u hx q,fun b u q _ _ hx=>⟨u.slots,k b u hx q⟩,fun b u q n _=>by rw[zaj (Nat.ne_of_lt (Nat.lt_of_lt_of_le (Heap.lt_size q) hp))];exact n,
  fun b u q hx=>⟨u,k b u hx q⟩,fun b xs q=>by rw[zaj (zaC q hn)];exact q,fun b u xs q=>by rw[zaj (zaC q hn)];exact q,fun b ps q=>⟨#[],by rw[zaj (zaC q hn),q];simp⟩⟩
 have hok:HOk X.prog X.w (upd H a o) h':=fun b u e=>by
  by_cases hb:b=a
  ·subst hb;rw[af]at e;cases e;exact new
  ·rw[zaj hb]at e
   refine(I.hok b u e).stay (fun c v hc q=>k c v ?_ q) (fun c q=>by rw[zaj (zaC q hn)];exact q) fun c xs q=>by rw[zaj (zaC q hn)];exact q
   rcases hc with z | z
   ·rw[z];exact nfp b u e
   ·exact nfp c _ z
 exact I.call (g':=s.gens) (d':=s.drawn) (ch:=fp) un hok I.bare fun b hb=>⟨(hf b hb).2.2.2.1,(hf b hb).2.1,(hf b hb).2.2.2.2.1,(hf b hb).2.2.2.2.2⟩
section
variable {X:Cx}
theorem zf5:zbs X (.builtin "isinstance") (fun xs H Q=>∃ p ys n b,xs=[.ref p,.ty n]∧SqT X.K H p ys∧W.kitOne X.K (.type "tuple") (.type n)=some b∧Q (.bl b) H):=by
 intro pins s σ H xs us Q I r h
 obtain⟨p,ys,n,b,rfl,hq,hk,q⟩:=h
 obtain⟨u,w',rfl,rx,ry⟩:=vals2 r
 cases (show w'=Value.type n from ry)
 cases rx
 obtain⟨its,rv,⟨o,h1,h2,_⟩,hz⟩:=I.tuple hq
 exact W.kia_one W.kitx_tuple I.kIn ⟨o,h1,h2⟩ hk (fun z=>nomatch z) fun tk=>⟨.bl b,H,I.tok _,rfl,q⟩
theorem zf6:zbs X (.builtin "isinstance") (fun xs H Q=>∃ p ys n b,xs=[.ref p,.ty n]∧SqL X.K H p ys∧W.kitOne X.K (.type "list") (.type n)=some b∧Q (.bl b) H):=by
 intro pins s σ H xs us Q I r h
 obtain⟨p,ys,n,b,rfl,hq,hk,q⟩:=h
 obtain⟨u,w',rfl,rx,ry⟩:=vals2 r
 cases (show w'=Value.type n from ry)
 cases rx
 obtain⟨its,rv,pp,hz⟩:=I.list hq
 obtain⟨o,h1,h2,_⟩:=pp.isList
 exact W.kia_one W.kitx_list I.kIn ⟨o,h1,h2⟩ hk (fun z=>nomatch z) fun tk=>⟨.bl b,H,I.tok _,rfl,q⟩
end
end L2
namespace L2
open PySem PySem.Spec PyProof.Rows
theorem ze5 (sep x:Str):Builtin.Str.glued sep [x]=x:=rfl
theorem zg3 (sep y:Str) {xs:List Str} (h:xs≠[]):Builtin.Str.glued sep (xs++[y])=Builtin.Str.glued sep xs++sep++y:=by
 cases xs with
 | nil=>exact absurd rfl h
 | cons x xs =>
  show(⟨(xs++[y]).foldl (fun acc p=>acc++sep.cps++p.cps) x.cps⟩:Str)=⟨(xs.foldl (fun acc p=>acc++sep.cps++p.cps) x.cps++sep.cps)++y.cps⟩
  rw[List.foldl_append]
  rfl
def zbu (xs:List Str):Nat:=(xs.map Str.length).sum
theorem zfV (sep:Str):∀(xs:List Str) (a:Array Nat),(xs.foldl (fun acc p=>acc++sep.cps++p.cps) a).size≤a.size+zbu xs+xs.length * sep.length
 | [],a=>by simp [zbu]
 | x :: xs,a=>by
  rw[List.foldl_cons]
  refine Nat.le_trans (zfV sep xs _) ?_
  rw[Array.size_append,Array.size_append]
  simp only[zbu,List.map_cons,List.sum_cons,List.length_cons,Nat.add_mul,Nat.one_mul]
  show a.size+sep.length+x.length+_+_≤_
  omega
theorem zbk (sep:Str):∀ xs:List Str,(Builtin.Str.glued sep xs).length≤zbu xs+xs.length * sep.length
 | []=>Nat.zero_le _
 | x :: xs=>by
  refine Nat.le_trans (zfV sep xs x.cps) ?_
  simp only[zbu,List.map_cons,List.sum_cons,List.length_cons,Nat.add_mul,Nat.one_mul]
  show x.length+_+_≤_
  omega
section
variable {X:Cx}
theorem zgc:∀ {xs:List Str} {us:List Value},au (xs.map V.str) us→∃ l:List (Str × Tok),us=strValues l∧l.map (·.1)=xs
 | [],us,r=>by
  have e:us=[]:=au.zero r
  exact⟨[],by rw[e];rfl,rfl⟩
 | x :: xs,us,r=>by
  cases r with
  | cons r1 rr =>
   obtain⟨l,e1,e2⟩:=zgc rr
   obtain⟨t,e3⟩:=r1
   refine⟨(x,t) :: l,?_,by rw[List.map_cons,e2]⟩
   rw[e3,e1]
   rfl
theorem ze7 (k:Nat):∀(xs:List Str) (a:Nat),xs.foldl (fun n x=>n+x.length+k) a=a+zbu xs+xs.length * k
 | [],a=>by simp [zbu]
 | x :: xs,a=>by
  rw[List.foldl_cons,ze7 k xs]
  simp only[zbu,List.map_cons,List.sum_cons,List.length_cons,Nat.add_mul,Nat.one_mul]
  omega
def rJoin (K:W.Frag):V→List V→Hp→VK→Prop:=fun x vs H Q=>∃ sep p xs,x=.str sep∧vs=[.ref p]∧SqL K H p (xs.map V.str)∧zbu xs+xs.length * sep.length≤sizeLine∧Q (.str (Builtin.Str.glued sep xs)) H
theorem zca:MtR X "str.join" (rJoin X.K):=by
 intro pins s σ H x vs v us Q I rx rv h
 obtain⟨sep,p,xs,rfl,rfl,hq,hz,q⟩:=h
 obtain⟨t,rfl⟩:=rx
 obtain⟨u,rfl,ru⟩:=rv.one
 cases ru
 obtain⟨its,r,pl,hz2⟩:=I.list hq
 obtain⟨l,rfl,e2⟩:=zgc r
 have hl:Builtin.Str.tooLong ((l.map (·.1)).toArray.foldl (·+·.length+sep.length) 0)=false:=by
  rw[e2]
  unfold Builtin.Str.tooLong
  rw[List.foldl_toArray,ze7]
  exact decide_eq_false (by omega)
 refine call_meets F.slot_str_join (typeIs_str s sep t) F.entry_str_join (F.args_str_join_2 _ _) (meets_str_join_list sep t p l hl) ⟨pl.isList,?_⟩
 match l,e2 with
 | [],e2 =>
  subst e2
  exact⟨Nat.le_trans (zbk _ _) hz,.str (Builtin.Str.glued sep []),H,I.tok _,⟨_,rfl⟩,q⟩
 | [a],e2 =>
  subst e2
  exact⟨.str a.1,H,I,⟨_,rfl⟩,q⟩
 | a :: b :: c,e2 =>
  subst e2
  exact⟨Nat.le_trans (zbk _ _) hz,.str _,H,I.tok _,⟨_,rfl⟩,q⟩
end
end L2
namespace L2
open PySem PySem.Spec PyProof.Rows
section
variable {X:Cx} {tg:Expr}
end
end L2
namespace L2
open PySem PySem.Spec PyProof.Rows
set_option maxRecDepth 100000
section
variable {prog:Program} {w:World} {A:Around} {E:Value→Shared→Prop} {s:Shared} {J:Addr} {fp wr:List Addr} {G:Array GenState→Array GenState→Prop} {n:Nat} {P:Nat→Value→Prop} {St:Nat→Shared→Prop}
end
end L2
namespace L2
open PySem PySem.Spec PyProof.Rows
set_option maxRecDepth 100000
theorem zhS (a v:Value):argsOk "max" ⟨[a],[(Str.ofString "default",v)]⟩:=by unfold argsOk;kernel_rfl
section
variable {prog:Program} {w:World} {A:Around} {R:Result→Shared→Prop} {J:Addr} {fp wr:List Addr} {n:Nat} {P:Nat→Value→Prop} {St:Nat→Heap→Prop} {kw:List (Str × Value)}
theorem zcQ:(toString "max"++toString ".loop":String)="max.loop":=by decide
theorem zhJ (W:Walks prog w A.in1 J fp wr n P St) (bt:Nat→Nat→Bool) (cmp:CmpOf prog w A.in1 .Gt P bt) (B:Addr) (out:B∉fp) :
  ∀(k j:Nat) (s:Shared) (vb:Value) (c:Nat),n - (j+1)=k→j+1≤n→St (j+1) s.heap→P (argBest bt j) vb →
  s.heap.get? B=some { cls:=.type "list",dict:=none,data:=.seq #[vb,vb] c,slots:=#[] } →
  (∀ v h' tk,P (argBest bt (n - 1)) v→(∀ b o,b∉wr→b≠B→s.heap.get? b=some o→h'.get? b=some o)→R (.ok (.ret v)) { s with heap:=h',toks:=tk }) →
  codeAny (model prog w) A (.builtin "max.loop" ⟨[.ref J,.none,.ref B],kw⟩) R s:=by
 have outw:B∉wr:=fun z=>out (W.sub _ z)
 intro k
 induction k with
 | zero =>
  intro j s vb c ek ej st pb best fin
  have en:j+1=n:=by omega
  refine codeAny_builtin PySem.F.entry_max_loop ?_
  rw[Around.under_plainId PySem.F.plain_max_loop _]
  show wpAny _ A.in1 (seqItems? (.ref B) >>= _) _ _ s
  refine wpAny_bind (wpAny_seqItems best rfl ?_)
  show wpAny _ A.in1 (tryCatch (pyNext (.ref J)) _ >>= _) _ _ s
  refine wpAny_bind (wpAny_tryCatch (W.done s _ _ (en ▸ st) fun h' tk kept=>?_))
  have best':=kept B _ outw best
  show wpAny _ A.in1 (updateSeq B (fun _=>#[]) >>= _) _ _ _
  refine wpAny_bind (wpAny_updateSeq best' rfl (wpAny_bind (wpAny_letGo (wpAny_pure ?_))))
  exact fin vb _ tk (by rw[←en];exact pb) fun b o bw bB e=>(Heap.get?_update_other _ _ (Ne.symm bB)).trans (kept b o bw e)
 | succ k ih =>
  intro j s vb c ek ej st pb best fin
  have lt:j+1 < n:=by omega
  refine codeAny_builtin PySem.F.entry_max_loop ?_
  rw[Around.under_plainId PySem.F.plain_max_loop _]
  show wpAny _ A.in1 (seqItems? (.ref B) >>= _) _ _ s
  refine wpAny_bind (wpAny_seqItems best rfl ?_)
  show wpAny _ A.in1 (tryCatch (pyNext (.ref J)) _ >>= _) _ _ s
  refine wpAny_bind (wpAny_tryCatch (W.item (j+1) s _ _ lt st fun v h' tk pv st' kept=>?_))
  have best':=kept B _ outw best
  show wpAny _ A.in1 (tryCatch (holding [v,v] (richCompare .Gt v vb >>= _)) _ >>= _) _ _ _
  refine wpAny_bind (wpAny_tryCatch (wpAny_holding (wpAny_bind (cmp (j+1) (argBest bt j) v vb _ _ _ pv pb ?_))))
  refine wpAny_bind (wpAny_holding (wpAny_truthy_bool (wpAny_bind (wpAny_letGo (wpAny_pure ?_)))))
  cases eb:bt (j+1) (argBest bt j) with
  | true =>
   simp only[if_true]
   refine wpAny_bind (wpAny_updateSeq best' rfl (wpAny_bind (wpAny_letGo ?_)))
   rw[zcQ]
   refine wpAny_pure ⟨plainId_quiet PySem.F.plain_max_loop _,ih (j+1) _ v _ (by omega) lt (W.frame _ _ _ st' fun b bf o e=>(Heap.get?_update_other _ _ (fun z:B=b=>out (by rw[z];exact bf))).trans e) (by simp only[argBest,eb,if_true];exact pv) (Heap.get?_update_self _ best' rfl) fun v' h'' tk'' pv' kept'=>?_⟩
   exact fin v' h'' tk'' pv' fun b o bw bB e=>kept' b o bw bB ((Heap.get?_update_other _ _ (Ne.symm bB)).trans (kept b o bw e))
  | false =>
   simp only[Bool.false_eq_true,if_false]
   refine wpAny_bind (wpAny_letGo ?_)
   rw[zcQ]
   refine wpAny_pure ⟨plainId_quiet PySem.F.plain_max_loop _,ih (j+1) _ vb c (by omega) lt st' (by simp only[argBest,eb,Bool.false_eq_true,if_false];exact pb) best' fun v' h'' tk'' pv' kept'=>?_⟩
   exact fin v' h'' tk'' pv' fun b o bw bB e=>kept' b o bw bB (kept b o bw e)
theorem zgY (W:Walks prog w A.in1 J fp wr n P St) (bt:Nat→Nat→Bool) (cmp:CmpOf prog w A.in1 .Gt P bt) (B:Addr) (out:B∉fp) (some':0 < n) {s:Shared} {c:Nat} (st:St 0 s.heap)
  (best:s.heap.get? B=some { cls:=.type "list",dict:=none,data:=.seq #[] c,slots:=#[] })
  (fin:∀ v h' tk,P (argBest bt (n - 1)) v→(∀ b o,b∉wr→b≠B→s.heap.get? b=some o→h'.get? b=some o)→R (.ok (.ret v)) { s with heap:=h',toks:=tk }) :
  codeAny (model prog w) A (.builtin "max.loop" ⟨[.ref J,.none,.ref B],kw⟩) R s:=by
 have outw:B∉wr:=fun z=>out (W.sub _ z)
 refine codeAny_builtin PySem.F.entry_max_loop ?_
 rw[Around.under_plainId PySem.F.plain_max_loop _]
 show wpAny _ A.in1 (seqItems? (.ref B) >>= _) _ _ s
 refine wpAny_bind (wpAny_seqItems best rfl ?_)
 show wpAny _ A.in1 (tryCatch (pyNext (.ref J)) _ >>= _) _ _ s
 refine wpAny_bind (wpAny_tryCatch (W.item 0 s _ _ some' st fun v h' tk pv st' kept=>?_))
 have best':=kept B _ outw best
 show wpAny _ A.in1 (updateSeq B (fun _=>#[v,v]) >>= _) _ _ _
 refine wpAny_bind (wpAny_updateSeq best' rfl ?_)
 rw[zcQ]
 refine wpAny_pure ⟨plainId_quiet PySem.F.plain_max_loop _,zhJ W bt cmp B out _ 0 _ v _ rfl some' (W.frame _ _ _ st' fun b bf o e=>(Heap.get?_update_other _ _ (fun z:B=b=>out (by rw[z];exact bf))).trans e) pv (Heap.get?_update_self _ best' rfl) fun v' h'' tk'' pv' kept'=>?_⟩
 exact fin v' h'' tk'' pv' fun b o bw bB e=>kept' b o bw bB ((Heap.get?_update_other _ _ (Ne.symm bB)).trans (kept b o bw e))
theorem zhI (W:Walks prog w A.in1 J fp wr 0 P St) (B:Addr) (out:B∉fp) {s:Shared} {c:Nat} {nm:Str} {d:Value} (st:St 0 s.heap)
  (best:s.heap.get? B=some { cls:=.type "list",dict:=none,data:=.seq #[] c,slots:=#[] })
  (fin:∀ h' tk,(∀ b o,b∉wr→b≠B→s.heap.get? b=some o→h'.get? b=some o)→R (.ok (.ret d)) { s with heap:=h',toks:=tk }) :
  codeAny (model prog w) A (.builtin "max.loop" ⟨[.ref J,.none,.ref B],[(nm,d)]⟩) R s:=by
 refine codeAny_builtin PySem.F.entry_max_loop ?_
 rw[Around.under_plainId PySem.F.plain_max_loop _]
 show wpAny _ A.in1 (seqItems? (.ref B) >>= _) _ _ s
 refine wpAny_bind (wpAny_seqItems best rfl ?_)
 show wpAny _ A.in1 (tryCatch (pyNext (.ref J)) _ >>= _) _ _ s
 refine wpAny_bind (wpAny_tryCatch (W.done s _ _ st fun h' tk kept=>?_))
 refine wpAny_bind (wpAny_rule (wpAny_pure ?_))
 exact fin h' tk fun b o bw _ e=>kept b o bw e
end
section
variable {prog:Program} {w:World} {A:Around} {E:Value→Shared→Prop} {s:Shared}
theorem ze8 {x d:Value} {Q:Value→Shared→Prop}
  (h:wpAny (model prog w) A.in1 (pyIter x) (fun it s₂=>∃ J fp wr n P St bt,it=.ref J∧Walks prog w A.in1 J fp wr n P St∧St 0 s₂.heap∧(∀ b∈fp,b < s₂.heap.objs.size)∧CmpOf prog w A.in1 .Gt P bt ∧
   (n=0→∀ h' tk,(∀ b o,b∉wr→s₂.heap.get? b=some o→h'.get? b=some o)→Q d { s₂ with heap:=h',toks:=tk }) ∧
   (0 < n→∀ v h' tk,P (argBest bt (n - 1)) v→(∀ b o,b∉wr→s₂.heap.get? b=some o→h'.get? b=some o)→Q v { s₂ with heap:=h',toks:=tk })) E s) :
  wpAny (model prog w) A (call (.builtin "max") [x] [(Str.ofString "default",d)]) Q E s:=by
 refine PyProof.Rows.kmk_tree PySem.F.kind_max PySem.F.plain_max PySem.F.entry_max (zhS _ _) ?_
 show wpAny _ A.in1 (Builtin.Builtins.bindParams "max" ["key","default"] 0 ⟨[],[(Str.ofString "default",d)]⟩ >>= _) _ _ s
 refine wpAny_bind (wpAny_of_eq (show Builtin.Builtins.bindParams "max" ["key","default"] 0 ⟨[],[(Str.ofString "default",d)]⟩=pure [none,some d] from rfl) (wpAny_bind (wpAny_pure ?_)))
 refine wpAny_bind (wpAny_mono h (fun it s₂ h₂=>?_) fun _ _ e=>e)
 obtain⟨J,fp,wr,n,P,St,bt,rfl,W,st,low,cmp,q0,q1⟩:=h₂
 refine wpAny_bind (wpAny_newObj_type ?_)
 have out:s₂.heap.objs.size∉fp:=fun z=>Nat.lt_irrefl _ (low _ z)
 rw[zcQ]
 have st':=W.frame _ _ (s₂.heap.push { cls:=.type "list",data:=.seq ([]:List Value).toArray }) st fun b _ o e=>Heap.get?_push_of_some _ e
 rcases Nat.eq_zero_or_pos n with z | z
 ·subst z
  exact wpAny_pure ⟨plainId_quiet PySem.F.plain_max_loop _,zhI W s₂.heap.objs.size out st' (Heap.get?_push_size _ rfl) fun h' tk kept=>q0 rfl h' tk fun b o bw e=>kept b o bw (Nat.ne_of_lt (Heap.lt_size e)) (Heap.get?_push_of_some _ e)⟩
 ·exact wpAny_pure ⟨plainId_quiet PySem.F.plain_max_loop _,zgY W bt cmp s₂.heap.objs.size out z st' (Heap.get?_push_size _ rfl) fun v h' tk pv kept=>q1 z v h' tk pv fun b o bw e=>kept b o bw (Nat.ne_of_lt (Heap.lt_size e)) (Heap.get?_push_of_some _ e)⟩
end
section
variable {X:Cx}
def tMaxd (K:W.Frag) (ta tk:TA):TE:=fun σ H Q=>ta σ H fun vs H1=>tk σ H1 fun zs H2=>∃(p:Addr) (ns:List Int) (dv:Int),vs=[.ref p]∧zs=[.int dv]∧SqInt K H2 p ns∧(ns=[]→Q (.int dv) H2)∧∀ m∈ns,(∀ n∈ns,n≤m)→Q (.int m) H2
theorem zgl {e d:Expr} {ta tk:TA} {p pos kp:Pos} (hc:X.calm=true) (hg:Gl X "max") (hm:X.mg "max"=none) (ha:PA X [e] ta) (hk:PK X [⟨some "default",d,kp⟩] tk)
  (he:starEach [e] X.env=(false,eval e X.env) :: []:=by rfl) (hpl:(backTo pos (starEach [e] X.env)).any (·.1)=false:=by rfl) (hkn:(backToKw pos (keywordEach [⟨some "default",d,kp⟩] X.env)).any (·.1.isNone)=false:=by rfl)
  (hall:(backToKw pos (keywordEach [⟨some "default",d,kp⟩] X.env)).all (·.1.isSome)=true:=by rfl) (hks:(backToKw pos (keywordEach [⟨some "default",d,kp⟩] X.env)).filterMap (·.1)=[Str.ofString "default"]:=by rfl) :
  PE X (.Call (.Name "max" p) [e] [⟨some "default",d,kp⟩] pos) (tMaxd X.K ta tk):=by
 intro pins s σ H Q I h
 refine wpAny_Call_Name_kw (zc0 I hg hm PyProof.Rows.Boot.max ?_)
 refine PyProof.Rows.callWith_builtin_kwB hpl hkn ?_
 have hA:=ha pos pins s σ H _ I h
 rw[he]at hA ⊢
 refine evalArgs_kw hall (thn hA fun us s1 ⟨vs,H1,I1,r1,q1⟩=>thn (hk pos pins s1 σ H1 _ I1 q1) fun ws s2 ⟨zs,H2,I2,r2,pp,ns,dv,ev,ez,hq,q0,q⟩=>?_)
 subst ev ez
 obtain⟨u,rfl,ru⟩:=r1.one
 cases ru
 obtain⟨v,rfl,t,rfl⟩:=r2.one
 rw[hks]
 show wpAny _ _ (call (.builtin "max") [Value.ref pp] [(Str.ofString "default",Value.int dv t)]) _ _ s2
 have keep:∀ {it:Addr} {obj:Obj} {h':Heap},(∀ b o,b∉[s2.heap.objs.size]→(s2.heap.push obj).get? b=some o→h'.get? b=some o)→∀ b o,s2.heap.get? b=some o→h'.get? b=some o:=fun {it obj h'} hk b o e=>hk b o (fun z=>by
  have:b=s2.heap.objs.size:=by simpa using z
  exact absurd (Heap.lt_size e) (by rw[this];exact Nat.lt_irrefl _)) (Heap.get?_push_of_some _ e)
 have low:∀ {obj:Obj},pp < s2.heap.objs.size→∀ b∈[s2.heap.objs.size,pp],b < (s2.heap.push obj).objs.size:=fun {obj} lp b hb=>by
  rw[Heap.size_push]
  simp only[List.mem_cons,List.not_mem_nil,or_false]at hb
  rcases hb with rfl | rfl
  ·exact Nat.lt_succ_self _
  ·exact Nat.lt_succ_of_lt lp
 have fin0:∀ {h':Heap} {tk:Nat},ns=[]→(∀ b o,s2.heap.get? b=some o→h'.get? b=some o)→EP X pins σ Q (.int dv t) { s2 with heap:=h',toks:=tk }:=fun {h' tk} en hk=>⟨.int dv,H2,I2.kept (t':=tk) hk,⟨t,rfl⟩,q0 en⟩
 have fin:∀ {its:List Value} {v:Value} {h':Heap} {tk:Nat},au (ns.map V.int) its→0 < its.toArray.size→its.toArray[argBest (fun i j=>decide (ns.getD i 0 > ns.getD j 0)) (its.toArray.size - 1)]?=some v→(∀ b o,s2.heap.get? b=some o→h'.get? b=some o)→EP X pins σ Q v { s2 with heap:=h',toks:=tk }:=fun {its v h' tk} rv z0 hP hk=>by
  obtain⟨t,rfl⟩:=zez rv _ _ hP
  have hl:=rv.length
  rw[List.length_map]at hl
  have n0:0 < ns.length:=by simp only[List.size_toArray]at z0;omega
  have es:its.toArray.size - 1=ns.length - 1:=by simp only[List.size_toArray];omega
  rw[es]
  obtain⟨b1,b2⟩:=zgF (fun i=>ns.getD i 0) (ns.length - 1)
  exact⟨.int _,H2,I2.kept (t':=tk) hk,⟨t,rfl⟩,q _ (zit (by omega)) fun n hn=>by
   obtain⟨i,hi,e⟩:=zim hn
   rw[←e]
   exact b2 i (by omega)⟩
 rcases hq with hq | hq
 ·obtain⟨its,rv,pl,hz⟩:=I2.list hq
  have hl:=rv.length
  rw[List.length_map]at hl
  have lp:pp < s2.heap.objs.size:=by
   obtain⟨o,ho,_⟩:=pl.isList
   exact Heap.lt_size ho
  refine ze8 (wpAny_pyIter_list pl.isList ?_)
  exact⟨s2.heap.objs.size,[s2.heap.objs.size,pp],[s2.heap.objs.size],its.toArray.size,_,_,fun i j=>decide (ns.getD i 0 > ns.getD j 0),rfl,Walks.list (show X.A.in1.handled=none from I2.ok.hd hc) _ pp (Nat.ne_of_lt lp) its.toArray,⟨⟨_,Heap.get?_push_size _ rfl,rfl,rfl⟩,pl.isList.push _⟩,low lp,CmpOf.ints_gt (fun i=>ns.getD i 0) (zez rv),
   fun z h' tk hk=>fin0 (List.length_eq_zero_iff.mp (by simp only[List.size_toArray]at z;omega)) (keep (it:=pp) hk),fun z v h' tk hP hk=>fin rv z hP (keep (it:=pp) hk)⟩
 ·obtain⟨its,rv,pl,hz⟩:=I2.tuple hq
  have hl:=rv.length
  rw[List.length_map]at hl
  have pt:s2.heap.IsTuple pp its.toArray:=pl
  have lp:pp < s2.heap.objs.size:=by
   obtain⟨o,ho,_⟩:=id pt
   exact Heap.lt_size ho
  refine ze8 (wpAny_pyIter_tuple pt ?_)
  exact⟨s2.heap.objs.size,[s2.heap.objs.size,pp],[s2.heap.objs.size],its.toArray.size,_,_,fun i j=>decide (ns.getD i 0 > ns.getD j 0),rfl,Walks.tuple (show X.A.in1.handled=none from I2.ok.hd hc) _ pp (Nat.ne_of_lt lp) its.toArray,⟨⟨_,Heap.get?_push_size _ rfl,rfl,rfl⟩,pt.push _⟩,low lp,CmpOf.ints_gt (fun i=>ns.getD i 0) (zez rv),
   fun z h' tk hk=>fin0 (List.length_eq_zero_iff.mp (by simp only[List.size_toArray]at z;omega)) (keep (it:=pp) hk),fun z v h' tk hP hk=>fin rv z hP (keep (it:=pp) hk)⟩
end
end L2
namespace HT
open PySem PyProof.Rows
section
variable {prog:Program} {w:World} {A:Around} {E:Value→Shared→Prop} {s:Shared}
end
end HT
namespace L2
open PySem PySem.Spec PyProof.Rows
section
variable {X:Cx}
end
end L2
namespace L2
open PySem PySem.Spec PyProof.Rows
section
variable {X:Cx} {tg:Expr}
end
end L2
namespace L2
open PySem PySem.Spec PyProof.Rows
set_option maxRecDepth 100000
section
variable {X:Cx}
end
end L2
namespace L2
open PySem PySem.Spec PyProof.Rows
set_option maxRecDepth 100000
section
variable {X:Cx}
end
end L2
namespace L2
open PySem PySem.Spec PyProof.Rows
section
variable {P:Program} {w:World}
abbrev Sgn:=Str × List Key
def zfv (P:Program) (w:World) (h:Heap) (k:Sgn) (a:Addr):Prop :=
 ∃(o:Obj) (t:Tok) (q:Addr) (n:Nat),h.get? a=some o∧o.cls=.type "tuple"∧o.data=.seq #[.str k.1 t,.ref q] n∧IsTupleKey (zeJ P w) h k.2 q
theorem zfv.inj {h:Heap} {a:Addr} {x y:Sgn} (hx:zfv P w h x a) (hy:zfv P w h y a):x=y:=by
 obtain⟨o,t,q,n,ho,_,hd,hi⟩:=hx
 obtain⟨o',t',q',n',ho',_,hd',hi'⟩:=hy
 cases ho.symm.trans ho'
 have e:=hd.symm.trans hd'
 injection e with e _
 have e2:[Value.str x.1 t,.ref q]=[Value.str y.1 t',.ref q']:=congrArg Array.toList e
 injection e2 with e3 e4
 injection e3 with e5 _
 injection e4 with e6 _
 injection e6 with e7
 subst e7
 exact Prod.ext e5 (hi.inj hi')
variable {A:Around} {E:Value→Shared→Prop} {s:Shared}
end
section
variable {prog:Program} {w:World} {K:Type} [DecidableEq K] {knd:HeapKind prog w K} {A:Around} {E:Value→Shared→Prop} {s:Shared}
end
end L2
namespace L2
open PySem PySem.Spec PyProof.Rows
section
variable {X:Cx}
end
end L2
namespace HT
open PySem PySem.Spec PyProof.Rows
section
variable {prog:Program} {w:World} {A:Around} {E:Value→Shared→Prop} {s:Shared}
end
end HT
namespace L2
open PySem PySem.Spec PyProof.Rows
section
variable {X:Cx} {e st:Expr} {te ts:TE} {pos p2:Pos}
end
end L2
namespace L2
open PySem PySem.Spec PyProof.Rows
section
variable {prog:Program} {w:World} {A:Around} {E:Value→Shared→Prop} {s:Shared}
theorem zgW {it t:Addr} {i:Nat} {items} {x:Value} {Q:Value→Shared→Prop} (hit:s.heap.IsTupleIter it t i) (ht:s.heap.IsTuple t items) (hx:items[i]?=some x)
  (hQ:∀ h',h'.IsTupleIter it t (i+1)→Heap.SameBut it s.heap h'→Q x { s with heap:=h' }):wpAny (model prog w) A (Builtin.SmallTypes.nextOf (.ref it)) Q E s:=by
 obtain⟨o,ho,hc,hd⟩:=id hit
 obtain⟨ol,hol,_,nl,hdl⟩:=ht
 unfold Builtin.SmallTypes.nextOf
 refine wpAny_bind (wpAny_callSpecial?_slot (name:=Str.ofString "__next__") hit.typeIs F.slot_tuple_iterator_next (wpAny_call_entry F.slot_tuple_iterator_next hit.typeIs F.entry_tuple_iterator_next ?_ (F.args_tuple_iterator_next_1 _)))
 show wpAny _ _ (field (.ref it) 0 >>= _) _ _ s
 refine wpAny_bind (wpAny_field ho hd (x:=.ref t) rfl ?_)
 show wpAny _ _ (if(Value.ref t == Value.none)=true then _ else _) _ _ s
 rw[if_neg (show ¬((Value.ref t == Value.none)=true) from Bool.false_ne_true)]
 show wpAny _ _ (field (.ref it) 1 >>= _) _ _ s
 refine wpAny_bind (wpAny_field ho hd (x:=.int i 0) rfl ?_)
 show wpAny _ _ (seqItems? (.ref t) >>= _) _ _ s
 refine wpAny_bind (wpAny_seqItems hol hdl ?_)
 simp only[Int.toNat_natCast,hx]
 refine wpAny_bind (wpAny_setField ho hd (by simp) (wpAny_pure ⟨x,rfl,wpAny_pure (hQ _ ?_ (Heap.SameBut.update ..))⟩))
 exact⟨_,Heap.get?_update_self _ ho (Obj.isFreed_of_fields (Obj.data_mapFields hd _)),(Obj.cls_mapFields ..).trans hc,by
  rw[Obj.data_mapFields hd];simp [rawInt]⟩
theorem zdb {it t:Addr} {i:Nat} {items} {Q:Value→Shared→Prop} (hh:A.handled=none) (hit:s.heap.IsTupleIter it t i) (ht:s.heap.IsTuple t items) (hx:items[i]?=none)
  (hE:∀ h' e,Heap.ExtBut it s.heap h'→(∃ o,h'.get? e=some o∧o.cls=.type "StopIteration")→E (.ref e) { s with heap:=h' }):wpAny (model prog w) A (Builtin.SmallTypes.nextOf (.ref it)) Q E s:=by
 obtain⟨o,ho,hc,hd⟩:=id hit
 obtain⟨ol,hol,_,nl,hdl⟩:=ht
 unfold Builtin.SmallTypes.nextOf
 refine wpAny_bind (wpAny_callSpecial?_slot (name:=Str.ofString "__next__") hit.typeIs F.slot_tuple_iterator_next (wpAny_call_entry F.slot_tuple_iterator_next hit.typeIs F.entry_tuple_iterator_next ?_ (F.args_tuple_iterator_next_1 _)))
 show wpAny _ _ (field (.ref it) 0 >>= _) _ _ s
 refine wpAny_bind (wpAny_field ho hd (x:=.ref t) rfl ?_)
 show wpAny _ _ (if(Value.ref t == Value.none)=true then _ else _) _ _ s
 rw[if_neg (show ¬((Value.ref t == Value.none)=true) from Bool.false_ne_true)]
 show wpAny _ _ (field (.ref it) 1 >>= _) _ _ s
 refine wpAny_bind (wpAny_field ho hd (x:=.int i 0) rfl ?_)
 show wpAny _ _ (seqItems? (.ref t) >>= _) _ _ s
 refine wpAny_bind (wpAny_seqItems hol hdl ?_)
 simp only[Int.toNat_natCast,hx]
 refine wpAny_bind (wpAny_rule (wpAny_bind (wpAny_setField ho hd (by simp) ?_)))
 show wpAny _ _ (newExc (.type "StopIteration") [] >>= _) _ _ _
 refine wpAny_bind ?_
 simp only[newExc,newTuple]
 refine wpAny_bind (wpAny_newObj_type ?_ (by size_fits))
 refine wpAny_bind (m:=firstArgMember _ _) (wpAny_of_eq (a:=Value.none) (by first | rfl | (simp only[firstArgMember];rfl)) ?_)
 refine wpAny_newObj_type ?_ (by size_fits)
 simp only[raiseNew]
 refine wpAny_bind (wpAny_handled ?_)
 first | rw[show A.in1.handled=none from hh] | rw[hh]
 refine wpAny_bind (wpAny_pure (wpAny_throw ?_))
 exact hE _ _ (((Heap.SameBut.update ..).extBut.push _).push _) ⟨_,Heap.get?_push_size _ rfl,rfl⟩
def TuI (h:Heap) (it t:Addr) (i:Nat) (xs:Array Value):Prop:=h.IsTupleIter it t i∧h.IsTuple t xs
theorem TuI.ext {h h':Heap} {it t b:Addr} {i:Nat} {xs:Array Value} (x:TuI h it t i xs) (hs:Heap.ExtBut b h h') (h1:it≠b) (h2:t≠b):TuI h' it t i xs:=⟨x.1.extBut hs h1,x.2.extBut hs h2⟩
end
section
variable {prog:Program} {w:World} {A:Around} {E:Value→Shared→Prop} {s:Shared}
end
end L2
namespace L2
open PySem PySem.Spec PyProof.Rows
section
variable {X:Cx}
end
end L2
namespace L2
open PySem PySem.Spec PyProof.Rows
section
variable {X:Cx}
end
end L2
namespace L2
open PySem PySem.Spec PyProof.Rows
section
variable {prog:Program} {w:World} {A:Around} {E:Value→Shared→Prop} {s:Shared}
end
end L2
namespace L2
open PySem PySem.Spec PyProof.Rows
end L2
namespace L2
open PySem PySem.Spec PyProof.Rows
section
variable {prog:Program} {w:World} {A:Around} {E:Value→Shared→Prop} {s:Shared}
end
end L2
namespace L2
open PySem PySem.Spec PyProof.Rows
section
variable {X:Cx}
end
end L2
namespace L2
open PySem PySem.Spec PyProof.Rows
section
variable {P:Program} {w:World} {H H':Hp} {h h' B:Heap} {a:Addr} {o:HO}
theorem za3.there (x:za3 P w H h a o):∃ ob,h.get? a=some ob:=by
 cases o with
 | lst xs=>obtain⟨_,_,_,_,q⟩:=x;exact⟨_,q⟩
 | tup xs=>obtain⟨_,_,_,ob,q,_⟩:=x;exact⟨_,q⟩
 | dK kvs=>obtain⟨_,_,_,_,o,_,_,q,_⟩:=x;exact⟨_,q⟩
 | dT kvs=>obtain⟨_,_,_,_,o,_,_,q,_⟩:=x;exact⟨_,q⟩
 | set S n=>obtain⟨o,_,_,_,q,_⟩:=x;exact⟨_,q⟩
 | ins C dx fs=>obtain⟨_,_,_,q,_⟩:=x;exact⟨_,q⟩
 | own y=>exact x
 | xd fs=>obtain⟨_,⟨_,_,_,q,_⟩,_⟩:=x;exact⟨_,q⟩
 | rng lo hi=>obtain⟨_,_,_,q⟩:=x;exact⟨_,q⟩
 | frz ob u=>exact⟨_,x.1⟩
 | tbl ps=>exact⟨_,(show h.get? a=some _ from x)⟩
 | met f y=>exact⟨_,(show h.get? a=some _ from x)⟩
 | ext φ=>exact x.2.1
def Trk (H:Hp) (h B:Heap):Prop:=∀ b ob,H b≠none→h.get? b=some ob→B.get? b=some ob
def Old (fs:List Addr) (H:Hp) (h B:Heap):Prop:=∀ b ob,h.get? b=some ob→b∉fs→∃ ob',B.get? b=some ob'∧(H b=none→ob'=ob)
end
def CX1 (P:Program) (w:World):CXT:=fun outer H s E e s'=>∃(ea C:Addr) (H':Hp) (B:Heap) (a0:Value),e=.ref ea∧s'.os=s.os∧AllBare s'.gens∧Un (frs outer) [] H H' s.heap s'.heap∧HOk P w H' s'.heap ∧
 Heap.FlyingW B outer ea (.ref C) a0 s'.heap∧Trk H' s'.heap B∧Old (frs outer) H s.heap B∧E (.ref C) none H'
structure Xe1 (X:Cx) (E:XK):Prop where
 xe:X.xe=fun e s'=>wpAny (model X.prog X.w) X.A (leaving X.env e) (fun _ s''=>CX1 X.prog X.w X.outer X.H₀ X.s₀ E e s'') (fun e' s''=>CX1 X.prog X.w X.outer X.H₀ X.s₀ E e' s'') s'
 stk:X.stack=X.env :: X.outer
 fr:X.env.frame=some X.env.locals
 ex:X.ex=[]
section
variable {X:Cx} {E:XK} {pins:List (Addr × Obj)} {σ:St} {H H':Hp} {s s':Shared} {B:Heap} {ea C:Addr} {a0:Value}
variable {e0:Expr} {zbt:List Expr} {t:TA} {x:Str} {np cpos pos:Pos} {Bn newId initId:String} {bm:List Value}
end
end L2
namespace L2
open PySem PySem.Spec PyProof.Rows
abbrev Cx.tryc (X:Cx) (pins:List (Addr × Obj)) (E1:Value→Shared→Prop):Cx:={ X with pn:=X.pn++pins,xe:=E1 }
section
variable {X:Cx} {pins:List (Addr × Obj)} {σ:St} {H H':Hp} {s s':Shared} {B:Heap} {ea C:Addr} {a0:Value} {D:zba} {f:Flow} {E1:Value→Shared→Prop}
theorem Inv.tryc (I:Inv X pins σ H s) (E1:Value→Shared→Prop):Inv (X.tryc pins E1) [] σ H s :=
 ⟨⟨I.ok.mod,I.ok.kind,I.ok.glob,I.ok.blt,I.ok.above,I.ok.inj,I.ok.has,I.ok.cab,I.ok.hd,I.ok.frames,I.ok.stk,I.ok.exf,I.ok.bs,I.ok.bsz,I.ok.noex,I.ok.exfs,I.ok.funs,I.ok.frf⟩,I.os,I.bare,I.base,I.loc,I.cell,I.free,I.freeC,
  fun p hp=>I.pin p (by simpa using hp),I.hok,I.len⟩
theorem Inv.untryc {pins1:List (Addr × Obj)} (ok:X.Ok) (I:Inv (X.tryc pins E1) pins1 σ H s):Inv X pins σ H s :=
 ⟨ok,I.os,I.bare,I.base,I.loc,I.cell,I.free,I.freeC,fun p hp=>I.pin p (List.mem_append_left _ hp),I.hok,I.len⟩
theorem SP.untryc {pins1:List (Addr × Obj)} (ok:X.Ok) (h:SP (X.tryc pins E1) pins1 D f s):SP X pins D f s:=by
 cases f with
 | next=>obtain⟨a,b,I,q⟩:=h;exact⟨a,b,I.untryc ok,q⟩
 | brk=>obtain⟨a,b,I,q⟩:=h;exact⟨a,b,I.untryc ok,q⟩
 | cont=>obtain⟨a,b,I,q⟩:=h;exact⟨a,b,I.untryc ok,q⟩
 | ret u=>obtain⟨v,a,b,I,r,q⟩:=h;exact⟨v,a,b,I.untryc ok,r,q⟩
structure Came (X:Cx) (pins:List (Addr × Obj)) (σ:St) (H:Hp) (s:Shared) (H':Hp) (B:Heap) (s':Shared):Prop where
 I:Inv X pins σ H s
 os:s'.os=s.os
 bare:AllBare s'.gens
 u:Un (frs X.stack) [] H H' s.heap s'.heap
 ok:HOk X.prog X.w H' s'.heap
 trk:Trk H' s'.heap B
 old:Old (frs X.stack) H s.heap B
def PH (X:Cx) (hs:List ExceptHandler) (th:Addr→TS):Prop :=
 ∀(pins:List (Addr × Obj)) (σ:St) (H:Hp) (s:Shared) (H':Hp) (B:Heap) (s':Shared) (D:zba) (ea C:Addr) (a0:Value) (h':Heap),Came X pins σ H s H' B s'→Heap.FlyingW B X.stack ea (.ref C) a0 h'→s'.heap.UpToSlots h'→th C D σ H' →
  wpAny (model X.prog X.w) X.A (handleBy (.ref ea) X.env hs) (SP X pins D) X.xe { s' with heap:=h' }
theorem zic {hs:List ExceptHandler}:PH X hs (fun _=>tNever):=fun _ _ _ _ _ _ _ _ _ _ _ _ _ _ _ z=>z.elim
def tTry (n:Nat) (tb:XK→TS) (th:Addr→TS):TS:=fun D σ H=>tb (fun c _ H'=>∃ C,c=.ref C∧∀ σ1:St,σ1.length=n→th C D σ1 H') D σ H
theorem ps_try {body:List Stmt} {h0:ExceptHandler} {hs:List ExceptHandler} {pos:Pos} {tb:XK→TS} {th:Addr→TS} (hst:X.stack=X.env :: X.outer) (hfr:X.env.frame=some X.env.locals)
  (hb:∀(pins:List (Addr × Obj)) (E1:Value→Shared→Prop) (Eb:XK),zb4 (CX1 X.prog X.w) (X.tryc pins E1) Eb→PSs (X.tryc pins E1) body (tb Eb)) (hh:PH X (h0 :: hs) th) :
  PS X (.Try body (h0 :: hs) [] [] pos) (tTry X.N.length tb th):=by
 intro pins s σ H D I h
 refine wpAny_Try_except ?_
 have hp:zb4 (CX1 X.prog X.w) (X.tryc pins (fun e s1=>wpAny (model X.prog X.w) X.A (noteFrame e X.env) (fun _ s2=>wpAny (model X.prog X.w) X.A (setFlight e none) (fun _ s3=>wpAny (model X.prog X.w) X.A (handleBy e X.env (h0 :: hs)) (SP X pins D) X.xe s3) X.xe s2) X.xe s1))
   (fun c _ H'=>∃ C,c=.ref C∧∀ σ1:St,σ1.length=X.N.length→th C D σ1 H'):=by
  intro pins1 σ1 H1 s1 e s' I1 hcx
  obtain⟨ea,C,H',B,a0,rfl,os,bare,u,ok,fl,trk,old,C',ec,hE⟩:=hcx
  cases ec
  have c:Came X pins σ1 H1 s1 H' B s':=⟨I1.untryc I.ok,os,bare,u,ok,trk,old⟩
  have fl':Heap.FlyingW B (X.env :: X.outer) ea (.ref C) a0 s'.heap:=by
   have z:=fl
   rw[show(X.tryc pins _).stack=X.env :: X.outer from hst]at z
   exact z
  have hfs:X.A.frames=some (X.env :: X.outer):=by rw[I.ok.frames,hst]
  refine wpAny_looks_onW hfs hfr fl' fun h2 fl2 sm2=>?_
  refine wpAny_landsW fl2 fun h3 fl3 sm3=>?_
  rw[←hst]at fl3
  exact hh pins σ1 H1 s1 H' B s' D ea C a0 h3 c fl3 (sm2.trans sm3) (hE σ1 I1.len)
 refine wpAny_mono (hb pins _ _ hp [] s σ H D (I.tryc _) h) (fun f s1 q=>?_) fun e s1 q=>q
 have q':SP X pins D f s1:=q.untryc I.ok
 cases f with
 | next=>exact wpAny_execs_nil q'
 | brk=>exact q'
 | cont=>exact q'
 | ret u=>exact q'
end
end L2
namespace L2
open PySem PySem.Spec PyProof.Rows
section
variable {X:Cx} {pins:List (Addr × Obj)} {σ:St} {H H':Hp} {s s':Shared} {B:Heap} {ea C:Addr} {a0:Value} {D:zba} {f:Flow}
end
end L2
namespace L2
open PySem
abbrev zcS:Str:="abcdefghijklmnopqrstuvwxyz"
theorem ziw:zcS.cps.toList.length=26:=by decide +kernel
theorem zhu {α:Type} {xs:List α} {i:Int} (h0:0≤i) (h1:i < (xs.length:Int)):∃ c,atI xs i=some c:=by
 have hk:i.toNat < xs.length:=by omega
 have e:i=((i.toNat:Nat):Int):=by omega
 have q:atI xs ((i.toNat:Nat):Int)=some xs[i.toNat]:=zat (List.getElem?_eq_getElem hk)
 rw[←e]at q
 exact⟨_,q⟩
theorem zf1 (a b:Str):(a++b).length=a.length+b.length:=by
 show(a.cps++b.cps).size=a.cps.size+b.cps.size
 exact Array.size_append
theorem zgA {w:Str} {lo hi:Option Int} {n:Nat} (h:w.length≤n):(Txt.slice w lo hi).length≤n:=Nat.le_trans (Txt.slice_le w lo hi) h
theorem zdj (c:Nat):(⟨#[c]⟩:Str).length=1:=rfl
theorem szS {n:Nat} (h:n≤1000):n≤sizeLine:=Nat.le_of_lt (zcj h)
end L2
namespace L2
open PySem PySem.Spec PyProof.Rows
section
variable {M:Model} {A:Around} {E:Value→Shared→Prop} {s:Shared}
end
section
variable {X:Cx} {E:XK} {pins:List (Addr × Obj)} {σ:St} {H H':Hp} {s s':Shared} {B:Heap} {ea C:Addr} {a0:Value}
theorem Xe1.frs (hx:Xe1 X E):L2.frs X.stack=X.env.locals :: X.fs:=by
 rw[hx.stk]
 unfold L2.frs
 rw[List.filterMap_cons,hx.fr]
 rfl
end
section
variable {X:Cx} {N':List Str} {scope:Scope} {elt iter:Expr} {x:Str} {px pos:Pos} {wi:TI} {te:TE} {ix:List Nat} {E:XK}
end
end L2
namespace L2
open PySem PySem.Spec PyProof.Rows
section
variable {X:Cx}
theorem zeU:∀ l:List (Str × Tok),au (l.map fun a=>V.str a.1) (strValues l)
 | []=>.nil
 | a :: l=>.cons ⟨_,rfl⟩ (zeU l)
theorem zhy (x y:Str):(Builtin.Str.partsBetween x (Builtin.Str.occurrences x y 0 x.length (x.length+1)) y.length).length≤x.length+2:=by
 have:=StrLaws.occ_length_le x y 0 x.length (x.length+1)
 simp only[Builtin.Str.partsBetween,List.length_map,List.length_zip,List.length_cons,List.length_append,List.length_nil]
 omega
def rSplit:V→List V→Hp→VK→Prop:=fun x vs H Q=>∃ z y,x=.str z∧vs=[.str y]∧(y.length == 0)=false∧z.length≤1000000∧∀ p,H p=none→Q (.ref p) (upd H p (.lst ((Txt.split z y).map V.str)))
theorem zil:MtR X "str.split" rSplit:=by
 intro pins s σ H x vs v us Q I rx rv h
 obtain⟨z,y,rfl,rfl,hy,hz,q⟩:=h
 obtain⟨t,rfl⟩:=rx
 obtain⟨u,rfl,ru⟩:=rv.one
 obtain⟨tu,rfl⟩:=ru
 have hsz:z.length≤sizeLine:=Nat.le_trans hz (by rw[sizeLine_eq];decide)
 have hn:(Builtin.Str.partsBetween z (Builtin.Str.occurrences z y 0 z.length (z.length+1)) y.length).length≤sizeLine:=Nat.le_trans (zhy z y) (by rw[sizeLine_eq];omega)
 have one:∀ e:Txt.split z y=[z],wants (EP X pins σ Q) X.xe (.ok (.ret (.ref s.heap.objs.size))) { s with heap:=s.heap.push { cls:=.type "list",data:=.seq [Value.str z t].toArray } }:=fun e=>by
  have I1:=I.lnew (ys:=[.str z]) (its:=[Value.str z t]) (t':=s.toks) (.cons ⟨_,rfl⟩ .nil) (by show 1≤sizeLine;decide)
  refine⟨.ref s.heap.objs.size,_,I1,rfl,?_⟩
  have:=q _ I.fresh
  rw[e]at this
  exact this
 cases h1:(decide (z.length < y.length)||decide (Builtin.Str.strKind z < Builtin.Str.strKind y))
 ·cases hf:(Builtin.Str.occurrences z y 0 z.length (z.length+1)).isEmpty
  ·refine call_meets F.slot_str_split (typeIs_str s z t) F.entry_str_split (F.args_str_split_2 _ _) (meets_str_split_sep z y t tu h1 hy hf hsz hn) ?_
   have e:Txt.split z y=Builtin.Str.partsBetween z (Builtin.Str.occurrences z y 0 z.length (z.length+1)) y.length:=(if_neg (ne_true_of_eq_false h1)).trans (if_neg (ne_true_of_eq_false hf))
   rw[strsFrom_eq]
   have ev:((numbered s.toks (Builtin.Str.partsBetween z (Builtin.Str.occurrences z y 0 z.length (z.length+1)) y.length)).map fun a=>V.str a.1)=(Txt.split z y).map V.str:=by
    rw[e]
    conv=>rhs;rw[←numbered_texts s.toks (Builtin.Str.partsBetween z (Builtin.Str.occurrences z y 0 z.length (z.length+1)) y.length)]
    rw[List.map_map]
    rfl
   have I1:=I.lnew (ys:=(Txt.split z y).map V.str) (its:=strValues (numbered s.toks (Builtin.Str.partsBetween z (Builtin.Str.occurrences z y 0 z.length (z.length+1)) y.length))) (t':=s.toks+(Builtin.Str.partsBetween z (Builtin.Str.occurrences z y 0 z.length (z.length+1)) y.length).length) (by rw[←ev];exact zeU _) (by rw[List.length_map,e];exact hn)
   exact⟨.ref s.heap.objs.size,_,I1,rfl,q _ I.fresh⟩
  ·exact call_meets F.slot_str_split (typeIs_str s z t) F.entry_str_split (F.args_str_split_2 _ _) (meets_str_split_not_found z y t tu h1 hy hf) (one ((if_neg (ne_true_of_eq_false h1)).trans (if_pos hf)))
 ·exact call_meets F.slot_str_split (typeIs_str s z t) F.entry_str_split (F.args_str_split_2 _ _) (meets_str_split_cannot_occur z y t tu h1) (one (if_pos h1))
def rEnds:V→List V→Hp→VK→Prop:=fun x vs H Q=>∃ z y,x=.str z∧vs=[.str y]∧Q (.bl (Txt.endswith z y)) H
theorem ziT:MtR X "str.endswith" rEnds:=by
 intro pins s σ H x vs v us Q I rx rv h
 obtain⟨z,y,rfl,rfl,q⟩:=h
 obtain⟨t,rfl⟩:=rx
 obtain⟨u,rfl,ru⟩:=rv.one
 obtain⟨tu,rfl⟩:=ru
 exact call_gives F.slot_str_endswith (typeIs_str _ _ _) F.entry_str_endswith (F.args_str_endswith_2 _ _) (gives_str_endswith z y t tu) ⟨.bl _,H,I,rfl,q⟩
end
end L2
namespace L2
open PySem PySem.Spec PyProof.Rows PySem.Builtin.Str
theorem ziy (s sub:Str) (i:Nat):subAt s sub i=((s.cps.toList.drop i).take sub.length == sub.cps.toList):=by
 have e:(s.cps.extract i (i+sub.length)).toList=(s.cps.toList.drop i).take sub.length:=by simp
 unfold subAt
 rw[Bool.eq_iff_iff,beq_iff_eq,beq_iff_eq,←e]
 exact⟨fun h=>congrArg Array.toList h,fun h=>Array.ext' h⟩
def zcw (z y:Str) (i:Nat):Bool:=(z.cps.toList.drop i).take y.length == y.cps.toList
theorem ziA {z y:Str} {i:Nat} (h:i≤z.length):(decide (i+y.length≤z.length)&&subAt z y i)=zcw z y i:=by
 rw[ziy]
 unfold zcw
 by_cases c:((z.cps.toList.drop i).take y.length == y.cps.toList)=true
 ·rw[c,Bool.and_true]
  have e:=congrArg List.length (eq_of_beq c)
  rw[List.length_take,List.length_drop]at e
  have e1:z.cps.toList.length=z.length:=by simp [Str.length]
  have e2:y.cps.toList.length=y.length:=by simp [Str.length]
  rw[e1,e2]at e
  exact decide_eq_true (by omega)
 ·rw[Bool.eq_false_iff.mpr c,Bool.and_false]
section
variable {X:Cx}
def zh9:V→List V→Hp→VK→Prop:=fun x vs H Q=>∃(z y:Str) (i:Nat),x=.str z∧vs=[.str y,.int i]∧i≤z.length∧Q (.bl (zcw z y i)) H
theorem zgX:MtR X "str.startswith" zh9:=by
 intro pins s σ H x vs v us Q I rx rv h
 obtain⟨z,y,i,rfl,rfl,hi,q⟩:=h
 obtain⟨t,rfl⟩:=rx
 obtain⟨u,u2,rfl,ru,ru2⟩:=rv.two
 obtain⟨tu,rfl⟩:=ru
 obtain⟨tv,rfl⟩:=ru2
 refine call_gives F.slot_str_startswith (typeIs_str _ _ _) F.entry_str_startswith (F.args_str_startswith_3 _ _ _) (gives_str_startswith_from z y i t tu tv) ⟨.bl _,H,I,rfl,?_⟩
 have e:fromIndex z.length (i:Int)=i:=by
  unfold fromIndex
  rw[if_neg (by omega)]
  omega
 rw[e,ziA hi]
 exact q
end
end L2
namespace L2
open PySem PySem.Spec PyProof.Rows
theorem zf7 {h:Heap} {a it:Addr} {i:Nat} {its:Array Value} (x:h.IsTuple a its) (y:h.IsTupleIter it a i):a≠it:=fun e=>by
 subst e
 obtain⟨o,ho,hc,_⟩:=x
 obtain⟨o',ho',hc',_⟩:=y
 rw[ho]at ho'
 have e:=Option.some.inj ho'
 subst e
 rw[hc]at hc'
 exact absurd hc' (by decide)
theorem drawsT {prog:Program} {w:World} {A:Around} (hh:A.handled=none) (it a:Addr) (its:Array Value) :
  Draws prog w A it [it,a] its.size (fun i v=>its[i]?=some v) (fun i h=>h.IsTupleIter it a i∧h.IsTuple a its) where
 live:=fun _ _ st=>by
  obtain⟨⟨o,ho,_⟩,_⟩:=st
  exact⟨o,ho⟩
 frame:=fun _ _ _ st hk=>⟨st.1.at fun o e=>hk it (by simp) o e,st.2.at fun o e=>hk a (by simp) o e⟩
 item:=fun i s Q E hi st hQ=>by
  have ne:=zf7 st.2 st.1
  refine zgW st.1 st.2 (x:=its[i]) (by simp [hi]) fun h' hit' hs'=>?_
  exact hQ _ h' s.toks (by simp [hi]) ⟨hit',st.2.extBut hs'.extBut ne⟩ hs'
 done:=fun s Q E st hE=>zdb hh st.1 st.2 (by simp) hE
abbrev enT1 (h:Heap) (l:Addr):Heap:=h.push { cls:=.type "tuple_iterator",data:=.fields #[.ref l,.int 0 0] }
abbrev enT2 (h:Heap) (l:Addr):Heap:=(enT1 h l).push { cls:=.type "enumerate",data:=.fields #[.none,.bool false,.ref h.objs.size,rawInt 0,.none,.none] }
theorem zf9 (l:Addr) (items:Array Value) :
  Meets (Builtin.«enumerate.__new__» ⟨[.type "enumerate",.ref l],[]⟩) (fun _ R s=>s.heap.IsTuple l items∧R (.ok (.ret (.ref (enT1 s.heap l).objs.size))) { s with heap:=enT2 s.heap l }) :=
 .of_wp fun prog w A R s h=>by
  obtain⟨hp,g,d,tk,os⟩:=s;obtain⟨hl,h⟩:=h
  have hsub:=sub_enumerate
  have hL:Heap.IsTuple (Shared.heap ⟨hp,g,d,tk,os⟩) l items:=hl
  obtain⟨o,ho,hc,n,hd⟩:=id hL
  wp_walk using AutoSeq1.wpAny_loadPart' ho
  refine wpAny_stack_any fun st=>wpAny_pure ?_
  split
  ·rename_i c _ _ _ _ _
   cases (c == Value.type "enumerate")
   ·wp_walk using AutoSeq1.wpAny_loadPart' ho,wpAny_pyIter_tuple hL
    exact⟨_,rfl,h⟩
   ·wp_walk using AutoSeq1.wpAny_loadPart' ho,wpAny_pyIter_tuple hL
    exact⟨_,rfl,h⟩
  ·wp_walk using AutoSeq1.wpAny_loadPart' ho,wpAny_pyIter_tuple hL
   exact⟨_,rfl,h⟩
section
variable {prog:Program} {w:World} {A:Around} {E:Value→Shared→Prop} {s:Shared}
theorem zg5 {l:Addr} {items:Array Value} {Q:Value→Shared→Prop} (hL:s.heap.IsTuple l items)
  (h:∀ h',IsEnum h' (s.heap.objs.size+1) s.heap.objs.size 0 .none→h'.IsTupleIter s.heap.objs.size l 0→(∀ b o,s.heap.get? b=some o→h'.get? b=some o)→Q (.ref (s.heap.objs.size+1)) { s with heap:=h' }) :
  wpAny (model prog w) A (call (.type "enumerate") [.ref l]) Q E s:=by
 refine callType_new F.called_enumerate (by decide) (F.typeCall_enumerate_1 _) (F.newCall_enumerate_1 _) (fun obj=>F.args_object_init_2 obj _) F.entry_enumerate_new (zf9 l items) ⟨hL,?_⟩
 have z1:(enT1 s.heap l).objs.size=s.heap.objs.size+1:=Heap.size_push ..
 have g2:(enT2 s.heap l).get? (enT1 s.heap l).objs.size=some _:=Heap.get?_push_size _ rfl
 have g1:(enT2 s.heap l).get? s.heap.objs.size=some _:=Heap.get?_push_of_some _ (Heap.get?_push_size _ rfl)
 rw[z1]at g2
 show _∧_
 rw[z1]
 exact⟨⟨_,g2,rfl⟩,h _ g2 ⟨_,g1,rfl,rfl⟩ fun b o e=>Heap.get?_push_of_some _ (Heap.get?_push_of_some _ e)⟩
end
def IteT (K:W.Frag) (a:Addr):It :=
 ⟨fun i H=>∃ xs x,SqT K H a xs∧xs[i]?=some x,fun i H x H'=>∃ p y,x=.ref p∧H p=none∧H'=upd H p (.tup [.int i,y])∧∀ xs,SqT K H a xs→xs[i]?=some y,fun i H=>∃ xs,SqT K H a xs∧xs.length≤i⟩
theorem zhU {K:W.Frag} {a:Addr} {xs:List V}:Wk (IteT K a) xs.length (fun H=>SqT K H a xs):=⟨fun _ _ h hi=>⟨xs,h,hi⟩,fun i _ h hi=>⟨xs,xs[i],h,by simp [hi]⟩⟩
theorem zgQ {P:Program} {w:World} {K:W.Frag} {elts:List Expr} {x1:Nat} {pos:Pos} (a e it:Addr) (hei:e≠it):Turn P w K (.Tuple elts x1 pos) (IteT K a) [e,it] e (fun i h=>(∃ old,IsEnum h e it ((i:Nat):Int) old)∧h.IsTupleIter it a i) where
 mem:=by simp
 obj:=fun i h st b hb=>by
  obtain⟨⟨old,he⟩,o,ho,hc,hd⟩:=st
  rcases List.mem_cons.mp hb with rfl | hb
  ·exact⟨_,he,fun v z=>by
    have z':Data.fields _=Data.cell v:=z
    cases z'⟩
  ·have e':=List.mem_singleton.mp hb
   subst e'
   exact⟨o,ho,fun v z=>by rw[hd]at z;cases z⟩
 keep:=fun i h h' st k=>⟨by
  obtain⟨old,he⟩:=st.1
  exact⟨old,k e (by simp) _ he⟩,st.2.at fun o q=>k it (by simp) o q⟩
 item:=by
  intro X hP hw hK hc i pins s σ H E I hf st hg
  subst hP hw hK
  obtain⟨xs,x,hq,hx⟩:=hg
  obtain⟨its,rv,p,hz⟩:=I.tuple hq
  obtain⟨u,hu,ru⟩:=rv.get hx
  obtain⟨⟨old,he⟩,hit⟩:=st
  obtain⟨oi,hoi,hci,hdi⟩:=id hit
  have pT:s.heap.IsTuple a its.toArray:=p
  have hu':its.toArray[i]?=some u:=by simpa using hu
  have nae:a≠e:=fun z=>by
   subst z
   obtain⟨o,ho,hc',_⟩:=pT
   have he':s.heap.get? a=some _:=he
   rw[ho]at he'
   have z:=Option.some.inj he'
   subst z
   exact absurd (show Value.type "enumerate"=Value.type "tuple" from hc') (by decide)
  refine wpAny_pyNext_enum_itemD (drawsT (A:=X.A.in1) (show X.A.in1.handled=none from I.ok.hd hc) it a its.toArray) he ⟨hit,pT⟩ (by obtain⟨q,_⟩:=Array.getElem?_eq_some_iff.mp hu';exact q) hei (by simp;exact⟨hei,Ne.symm nae⟩) fun x' h' tk px ho st' hT hsz hk=>?_
  have ex:x'=u:=by
   have px':its.toArray[i]?=some x':=px
   rw[hu']at px'
   exact(Option.some.inj px').symm
  subst ex
  refine⟨_,rfl,wpAny_letOwnedTupleGo_enum ho fun h2 he2 hs2=>?_⟩
  replace hs2:Heap.SameBut e h' h2:=hs2
  have heH:e < s.heap.objs.size:=Heap.lt_size he
  have hiH:it < s.heap.objs.size:=Heap.lt_size hoi
  have hT2:h2.get? s.heap.objs.size=some { cls:=.type "tuple",data:=.seq #[.int i tk,x'] }:=(hs2.2 _ (Nat.ne_of_gt heH)).trans hT
  have kk:∀ b o,b∉[e,it]→s.heap.get? b=some o→h2.get? b=some o:=fun b o hb q=>by
   have hbe:b≠e:=fun z=>hb (by simp [z])
   have hbi:b≠it:=fun z=>hb (by simp [z])
   exact(hs2.2 b hbe).trans (hk b o hbe hbi q)
  have new:za3 X.prog X.w (upd H s.heap.objs.size (.tup [.int i,x])) h2 s.heap.objs.size (.tup [.int i,x]):=by
   refine⟨?_,[.int i tk,x'],.cons ⟨_,rfl⟩ (.cons ru .nil),_,hT2,?_⟩
   ·exact Nat.le_of_lt (zcj (show 2≤1000 by decide))
   ·first | exact⟨rfl,rfl,_,rfl⟩ | exact⟨rfl,_,rfl⟩ | exact⟨rfl,rfl⟩
  refine⟨.ref s.heap.objs.size,_,I.turnedLaid (t':=tk+1) hf kk (Nat.le_refl _) new,rfl,⟨_,x,rfl,I.fresh,rfl,fun ys hy=>by rw[I.tuple_inj hy hq];exact hx⟩,⟨⟨x',by simpa using he2⟩,?_⟩,?_⟩
  ·exact st'.1.at fun o q=>(hs2.2 it (Ne.symm hei)).trans q
  ·intro b hb
   have hlt':b < s.heap.objs.size:=by
    rcases List.mem_cons.mp hb with rfl | hb
    ·exact heH
    ·rw[List.mem_singleton.mp hb];exact hiH
   rw[zaj (Nat.ne_of_lt hlt')]
   exact(hf b hb).1
 done:=by
  intro X hP hw hK hc i pins s σ H E I hf st hg
  subst hP hw hK
  obtain⟨xs,hq,hx⟩:=hg
  obtain⟨its,rv,p,hz⟩:=I.tuple hq
  obtain⟨⟨old,he⟩,hit⟩:=st
  obtain⟨f0,f1,f2,f3,f4,f5⟩:=hf it (by simp)
  have pT:s.heap.IsTuple a its.toArray:=p
  have hl:=rv.length
  have hT:s.TypeIs (.ref e) "enumerate":=⟨_,he,rfl⟩
  unfold pyNext
  refine wpAny_bind (wpAny_attempt (wpAny_callSpecial?_slot (name:=Str.ofString "__next__") hT F.slot_enumerate_next (wpAny_call_entry F.slot_enumerate_next hT F.entry_enumerate_next ?_ (F.args_enumerate_next_1 _))))
  show wpAny _ _ (field (.ref e) 2 >>= _) _ _ _
  refine wpAny_bind (wpAny_field he rfl (x:=.ref it) rfl ?_)
  refine wpAny_bind (zdb (I.ok.hd hc) hit pT (by simp;omega) fun h' x eb hx'=>?_)
  obtain⟨o,ho,hc'⟩:=hx'
  refine wpAny_bind (wpAny_isInstance (T:="StopIteration") (b:=true) ⟨o,ho,hc'⟩ isSubtype_stop ?_)
  exact wpAny_pure ⟨rfl,I.turned (t':=s.toks) (fun b o hb q=>eb b o hb q) f0 f1 f3 f4 f5⟩
 self:=fun _ _ _ _ _ st h=>by
  obtain⟨⟨old,he⟩,_⟩:=st
  exact wpAny_pyIter_enum he h
section
variable {X:Cx}
def iEnumT (K:W.Frag) (ta:TA):TI:=fun σ H R=>ta σ H fun vs H1=>∃ a,vs=[.ref a]∧(∃ xs,SqT K H1 a xs)∧R (IteT K a) H1
theorem zib {elts:List Expr} {x1:Nat} {pt:Pos} {a:Expr} {ta:TA} {p pos:Pos} (hg:Gl X "enumerate") (hm:X.mg "enumerate"=none) (ha:PA X [a] ta) (hs:starEach [a] X.env=[(false,eval a X.env)]:=by rfl):PI X (.Tuple elts x1 pt) (.Call (.Name "enumerate" p) [a] [] pos) (iEnumT X.K ta):=by
 intro pins s σ H R I h
 refine Call_ (zc0 I hg hm boot_enumerate (PyProof.Rows.callWith_type1 (thn (ha pos pins s σ H _ I h) fun us s1 ⟨vs,H1,I1,r1,q1⟩=>?_) hs rfl))
 obtain⟨a,e,⟨xs,hq⟩,q⟩:=q1
 subst e
 obtain⟨u,rfl,ru⟩:=r1.one
 cases ru
 obtain⟨its,rv,p,hz⟩:=I1.tuple hq
 refine zg5 (show s1.heap.IsTuple a its.toArray from p) fun h' he hit kk=>?_
 refine wpAny_pyIter_enum he ?_
 have I2:Inv X pins σ H1 { s1 with heap:=h' }:=I1.kept (t':=s1.toks) kk
 refine⟨_,[s1.heap.objs.size+1,s1.heap.objs.size],_,IteT X.K a,H1,rfl,I2,zgQ a (s1.heap.objs.size+1) s1.heap.objs.size (Nat.succ_ne_self _),⟨⟨_,he⟩,hit⟩,fun b hb=>?_,q⟩
 have hle:s1.heap.objs.size≤b:=by
  rcases List.mem_cons.mp hb with rfl | hb
  ·omega
  ·rw[List.mem_singleton.mp hb];exact Nat.le_refl _
 exact I1.fpOk hle (I1.hok.fresh hle)
end
end L2
namespace L2
open PySem
section
variable {K:W.Frag} {h:Heap} {mg:Str→Option Value} {C f:Addr} {fd:FuncData} {n x q:Str} {st:Stmt} {oc kV doc pm cdv ct:Value} {od an:Option Addr} {osl:Array (Option Value)}
structure FT (K:W.Frag) (n x:Str) (st:Stmt) (f:Addr) (fd:FuncData):Prop where
 a:W.nsIn K mainGlobals n=some (some (.ref f))
 F:Fun K x x st f fd
 k:W.keepIn K (.ref f)=true
theorem FT.m (z:FT K n x st f fd) (X:K.In h) (G:h.Ns mainGlobals mg):mg n=some (.ref f):=W.mg_of X G z.a
theorem ft_in (a:W.nsIn K mainGlobals n=some (some (.ref f))) (l:K.lookup f=some ⟨oc,od,.func (W.fnOf x x (zbG st) (zax st) (aj st) .none kV doc pm an cdv ct),osl⟩) (c:W.codeIn K cdv x=true) (k:W.keepIn K (.ref f)=true):FT K n x st f (W.fnOf x x (zbG st) (zax st) (aj st) .none kV doc pm an cdv ct):=⟨a,zhn l c k,k⟩
structure FM (K:W.Frag) (C:Addr) (x q:Str) (st:Stmt) (f:Addr) (fd:FuncData):Prop where
 a:W.findIn K (.ref C) x=some (some (.ref f))
 i:W.isFn K (.ref f)=true
 F:Fun K x q st f fd
 k:W.keepIn K (.ref f)=true
theorem FM.M (z:FM K C x q st f fd):zbL K C x f:=⟨z.a,z.i,z.k⟩
theorem fm_in (a:W.findIn K (.ref C) x=some (some (.ref f))) (i:W.isFn K (.ref f)=true) (l:K.lookup f=some ⟨oc,od,.func (W.fnOf x q (zbG st) (zax st) (aj st) .none kV doc pm an cdv ct),osl⟩) (c:W.codeIn K cdv q=true) (k:W.keepIn K (.ref f)=true):FM K C x q st f (W.fnOf x q (zbG st) (zax st) (aj st) .none kV doc pm an cdv ct):=⟨a,i,zhn l c k,k⟩
abbrev Bd (x q:Str) (st:Stmt) (ps:List Str) (us:List Value):Prop:=∀(kV doc pm:Value) (an:Option Addr) (cdv ct:Value),bindArgs (W.fnOf x q (zbG st) (zax st) (aj st) .none kV doc pm an cdv ct) ⟨us,[]⟩=pure (ps.zip us)
theorem Fun.b1 {p:Str} (F:Fun K x q st f fd) (h:∀ a,Bd x q st [p] [a]):aq K fd [p] []:=F.binds fun kV doc pm an cdv ct us hl=>match us,hl with | [_],_=>h _ kV doc pm an cdv ct
theorem Fun.b2 {p p2:Str} (F:Fun K x q st f fd) (h:∀ a b,Bd x q st [p,p2] [a,b]):aq K fd [p,p2] []:=F.binds fun kV doc pm an cdv ct us hl=>match us,hl with | [_,_],_=>h _ _ kV doc pm an cdv ct
theorem Fun.b3 {p p2 p3:Str} (F:Fun K x q st f fd) (h:∀ a b c,Bd x q st [p,p2,p3] [a,b,c]):aq K fd [p,p2,p3] []:=F.binds fun kV doc pm an cdv ct us hl=>match us,hl with | [_,_,_],_=>h _ _ _ kV doc pm an cdv ct
theorem Fun.b4 {p p2 p3 p4:Str} (F:Fun K x q st f fd) (h:∀ a b c d,Bd x q st [p,p2,p3,p4] [a,b,c,d]):aq K fd [p,p2,p3,p4] []:=F.binds fun kV doc pm an cdv ct us hl=>match us,hl with | [_,_,_,_],_=>h _ _ _ _ kV doc pm an cdv ct
theorem Fun.top {p:Str} (F:Fun K x q st f fd) (h:∀ a,Bd x q st [p] [a]):∀(s:Shared) (v:Value),BindsTo s fd ⟨[v],[]⟩ [(p,v)]:=fun s v=>by
 obtain⟨oc,od,kV,doc,pm,an,cdv,ct,osl,rfl,lk,hcd⟩:=F.ex
 exact .of_eq (h v kV doc pm an cdv ct)
end
end L2
namespace F72
open PySem L2
def top (i:Nat):Stmt:=PySem.Challenge.pw_yesorno_k72_whole_understood.main.body.getD i (.Pass ⟨0,0,0,0⟩)
abbrev s_inner_trees:Stmt:=top 7
abbrev s_inner_formulas:Stmt:=top 8
abbrev s_shown_tree:Stmt:=top 9
abbrev s_shown_formula:Stmt:=top 10
abbrev s_shown:Stmt:=top 11
abbrev s__law_cell_at:Stmt:=top 43
abbrev s__law_mixed:Stmt:=top 44
abbrev s__law_word:Stmt:=top 45
abbrev s__law_names:Stmt:=top 46
abbrev s__law_tree:Stmt:=top 47
abbrev s__law_grown:Stmt:=top 48
abbrev s__law_formulas:Stmt:=top 49
abbrev s__law_tree_text:Stmt:=top 50
abbrev s__law_formula_text:Stmt:=top 51
abbrev s__law_text:Stmt:=top 52
def bareV:List V:=[.str "always",.str "never"]
def ofsV:List V:=[.str "not",.str "and",.str "or",.str "then",.str "as"]
theorem bare_flat:bareV.all zb2=true:=by decide +kernel
theorem zik:ofsV.all zb2=true:=by decide +kernel
structure Txt (K:W.Frag) (mg:Str→Option Value) (aB aO:Addr):Prop where
 len:mg "len"=none
 list:mg "list"=none
 tuple:mg "tuple"=none
 range:mg "range"=none
 int:mg "int"=none
 isi:mg "isinstance"=none
 str:mg "str"=none
 bare:mg "BARE"=some (.ref aB)
 ofs:mg "OF_FORMULAS"=some (.ref aO)
 tB:∀ H,SqT K H aB bareV
 tO:∀ H,SqT K H aO ofsV
theorem sz (n:Nat) (h:n≤1000):n≤sizeLine:=Nat.le_of_lt (zcj h)
theorem szM {n:Nat} (h:n≤16000000):n≤sizeLine:=Nat.le_trans h (by rw[sizeLine_eq];decide)
theorem app_len (a b:Str):(a++b).length=a.length+b.length:=by
 show(a.cps++b.cps).size=a.cps.size+b.cps.size
 exact Array.size_append
inductive Tr where
 | node (n:Str) (ts:List Tr)
def zdV (n:Str) (ss:List Str):Str:=if ss.isEmpty=true then n else n++"("++Builtin.Str.glued ", " ss++")"
mutual
def dTr:Tr→Dt
 | .node n ts=>.tup [.str n,.tup (ax ts)]
def ax:List Tr→List Dt
 | []=>[]
 | t :: ts=>dTr t :: ax ts
end
mutual
def txt:Tr→Str
 | .node n ts=>zdV n (zaB ts)
def zaB:List Tr→List Str
 | []=>[]
 | t :: ts=>txt t :: zaB ts
end
mutual
def wt:Tr→Nat
 | .node n ts=>n.length+2+wts ts
def wts:List Tr→Nat
 | []=>0
 | t :: ts=>wt t+2+wts ts
end
mutual
def dp:Tr→Nat
 | .node _ ts=>1+dps ts
def dps:List Tr→Nat
 | []=>0
 | t :: ts=>max (dp t) (dps ts)
end
theorem dTrs_map:∀ ts:List Tr,ax ts=ts.map dTr
 | []=>rfl
 | t :: ts=>by simp only[ax,List.map_cons,dTrs_map ts]
theorem zdY:∀ ts:List Tr,zaB ts=ts.map txt
 | []=>rfl
 | t :: ts=>by simp only[zaB,List.map_cons,zdY ts]
theorem dps_le {n:Nat}:∀ {ts:List Tr},dps ts≤n→∀ t∈ts,dp t≤n
 | t :: ts,h,u,hu=>by
  simp only[dps]at h
  rcases List.mem_cons.mp hu with rfl | hu
  ·omega
  ·exact dps_le (ts:=ts) (by omega) u hu
theorem le_dps {n:Nat}:∀ {ts:List Tr},(∀ t∈ts,dp t≤n)→dps ts≤n
 | [],_=>Nat.zero_le _
 | t :: ts,h=>by
  simp only[dps]
  have h1:=h t (by simp)
  have h2:=le_dps (ts:=ts) fun u hu=>h u (List.mem_cons_of_mem _ hu)
  omega
theorem zdr:∀ {ts:List Tr} {t:Tr},t∈ts→wt t≤wts ts
 | u :: ts,t,h=>by
  simp only[wts]
  rcases List.mem_cons.mp h with rfl | h
  ·omega
  ·have:=zdr (ts:=ts) h
   omega
theorem ze4 (x:Str) (xs:List Str):zbu (x :: xs)=x.length+zbu xs:=by
 simp [zbu]
theorem zhV (n:Str) (ss:List Str):(zdV n ss).length≤n.length+2+(zbu ss+ss.length * 2):=by
 unfold zdV
 split
 ·omega
 ·have:=zbk ", " ss
  have h2:((", ":Str)).length=2:=by decide +kernel
  have h1:(("(":Str)).length=1:=by decide +kernel
  have h3:((")":Str)).length=1:=by decide +kernel
  rw[h2]at this
  rw[app_len,app_len,app_len,h1,h3]
  omega
mutual
theorem zc2:∀ t:Tr,(txt t).length≤wt t
 | .node n ts=>by
  simp only[txt,wt]
  have:=zhV n (zaB ts)
  have:=zbT ts
  omega
theorem zbT:∀ ts:List Tr,zbu (zaB ts)+(zaB ts).length * 2≤wts ts
 | []=>by simp [zaB,wts,zbu]
 | t :: ts=>by
  simp only[zaB,wts,List.length_cons]
  rw[ze4]
  have:=zc2 t
  have:=zbT ts
  omega
end
mutual
theorem nol_dTr:∀ t:Tr,nol (dTr t)=true
 | .node n ts=>by simp only[dTr,nol,zb8,nols_dTrs ts,Bool.and_self]
theorem nols_dTrs:∀ ts:List Tr,zb8 (ax ts)=true
 | []=>rfl
 | t :: ts=>by simp only[ax,zb8,nol_dTr t,nols_dTrs ts,Bool.and_self]
end
mutual
theorem dep_dTr:∀ t:Tr,dep (dTr t)≤2 * dp t
 | .node n ts=>by
  have:=deps_dTrs ts
  simp only[dTr,dp,dep,zaz]
  omega
theorem deps_dTrs:∀ ts:List Tr,zaz (ax ts)≤2 * dps ts
 | []=>by simp [ax,zaz]
 | t :: ts=>by
  have:=dep_dTr t
  have:=deps_dTrs ts
  simp only[ax,dps,zaz]
  omega
end
inductive Fm where
 | plain (z:Str)
 | bare (z:Str)
 | same (a b:Tr)
 | unlike (ts:List Tr)
 | not (f:Fm)
 | bin (k:Str) (f g:Fm)
def dFm:Fm→Dt
 | .plain z=>.tup [.str "plain",.str z]
 | .bare z=>.tup [.str z]
 | .same a b=>.tup [.str "same",dTr a,dTr b]
 | .unlike ts=>.tup [.str "unlike",.tup (ax ts)]
 | .not f=>.tup [.str "not",dFm f]
 | .bin k f g=>.tup [.str k,dFm f,dFm g]
def zay:Fm→Str
 | .plain z=>z
 | .bare z=>z
 | .same a b=>txt a++" = "++txt b
 | .unlike ts=>"unlike("++Builtin.Str.glued ", " (zaB ts)++")"
 | .not f=>"not "++zay f
 | .bin k f g=>"("++zay f++" "++k++" "++zay g++")"
def fwt:Fm→Nat
 | .plain z=>z.length
 | .bare z=>z.length
 | .same a b=>wt a+3+wt b
 | .unlike ts=>8+wts ts
 | .not f=>4+fwt f
 | .bin k f g=>4+k.length+fwt f+fwt g
def fdp:Fm→Nat
 | .not f=>1+fdp f
 | .bin _ f g=>1+max (fdp f) (fdp g)
 | _=>1
def FOk:Fm→Prop
 | .plain _=>True
 | .bare z=>z="always"∨z="never"
 | .same a b=>dp a≤19∧dp b≤19
 | .unlike ts=>∀ t∈ts,dp t≤19
 | .not f=>FOk f
 | .bin k f g=>(k="and"∨k="or"∨k="then"∨k="as")∧FOk f∧FOk g
theorem fdp_pos (f:Fm):1≤fdp f:=by cases f <;> simp only[fdp] <;> omega
theorem nol_dFm:∀ f:Fm,nol (dFm f)=true
 | .plain z=>rfl
 | .bare z=>rfl
 | .same a b=>by simp only[dFm,nol,zb8,nol_dTr,Bool.and_self]
 | .unlike ts=>by simp only[dFm,nol,zb8,nols_dTrs,Bool.and_self]
 | .not f=>by simp only[dFm,nol,zb8,nol_dFm f,Bool.and_self]
 | .bin k f g=>by simp only[dFm,nol,zb8,nol_dFm f,nol_dFm g,Bool.and_self]
theorem zdN:∀ f:Fm,FOk f→dep (dFm f)≤fdp f+40
 | .plain z,_=>by simp only[dFm,dep,zaz,fdp];omega
 | .bare z,_=>by simp only[dFm,dep,zaz,fdp];omega
 | .same a b,h=>by
  have:=dep_dTr a
  have:=dep_dTr b
  simp only[FOk]at h
  simp only[dFm,dep,zaz,fdp]
  omega
 | .unlike ts,h=>by
  have:=deps_dTrs ts
  simp only[FOk]at h
  have:=le_dps h
  simp only[dFm,dep,zaz,fdp]
  omega
 | .not f,h=>by
  have:=zdN f h
  simp only[dFm,dep,zaz,fdp]
  omega
 | .bin k f g,h=>by
  have:=zdN f h.2.1
  have:=zdN g h.2.2
  simp only[dFm,dep,zaz,fdp]
  omega
theorem ftxt_len:∀ f:Fm,(zay f).length≤fwt f
 | .plain z=>Nat.le_refl _
 | .bare z=>Nat.le_refl _
 | .same a b=>by
  have:=zc2 a
  have:=zc2 b
  have h:((" = ":Str)).length=3:=by decide +kernel
  simp only[zay,fwt]
  rw[app_len,app_len,h]
  omega
 | .unlike ts=>by
  have:=zbT ts
  have g:=zbk ", " (zaB ts)
  have h2:((", ":Str)).length=2:=by decide +kernel
  have h1:(("unlike(":Str)).length=7:=by decide +kernel
  have h3:((")":Str)).length=1:=by decide +kernel
  rw[h2]at g
  simp only[zay,fwt]
  rw[app_len,app_len,h1,h3]
  omega
 | .not f=>by
  have:=ftxt_len f
  have h:(("not ":Str)).length=4:=by decide +kernel
  simp only[zay,fwt]
  rw[app_len,h]
  omega
 | .bin k f g=>by
  have:=ftxt_len f
  have:=ftxt_len g
  have h1:(("(":Str)).length=1:=by decide +kernel
  have h2:((" ":Str)).length=1:=by decide +kernel
  have h3:((")":Str)).length=1:=by decide +kernel
  simp only[zay,fwt]
  simp only[app_len,h1,h2,h3]
  omega
mutual
def wz (zs:List Str):Tr→Nat
 | .node n ts=>n.length+2+wzs zs ts+(if n∈zs∧ts.length≤3 then 0 else 1000000)
def wzs (zs:List Str):List Tr→Nat
 | []=>0
 | t :: ts=>wz zs t+2+wzs zs ts
end
theorem zey {zs:List Str} {n:Nat}:∀ {ts:List Tr},(∀ t∈ts,wz zs t≤n)→wzs zs ts≤(n+2) * ts.length
 | [],_=>by simp [wzs]
 | t :: ts,h=>by
  simp only[wzs,List.length_cons,Nat.mul_add]
  have h1:=h t (by simp)
  have h2:=zey (zs:=zs) (ts:=ts) fun u hu=>h u (List.mem_cons_of_mem _ hu)
  omega
def fwz (zs:List Str):Fm→Nat
 | .plain z=>z.length+(if z∈zs then 0 else 1000000)
 | .bare z=>z.length+1000
 | .same a b=>wz zs a+3+wz zs b
 | .unlike ts=>1008+wzs zs ts+(if 2≤ts.length∧ts.length≤5 then 0 else 1000000)
 | .not f=>4+fwz zs f
 | .bin k f g=>1004+k.length+fwz zs f+fwz zs g
section
variable {K:W.Frag} {H:Hp}
theorem tr_at {n:Str} {ts:List Tr} {v:V} (h:Has K H (dTr (.node n ts)) v):∃ p q xs,v=.ref p∧SqT K H p [.str n,.ref q]∧SqT K H q xs∧HasL K H (ax ts) xs:=by
 simp only[dTr,Has,HasL]at h
 obtain⟨p,ys,rfl,hp,v1,r1,rfl,rfl,v2,r2,rfl,⟨q,xs,rfl,hq,hx⟩,rfl⟩:=h
 exact⟨p,q,xs,rfl,hp,hq,hx⟩
theorem of_tr {n:Str} {ts:List Tr} {p q:Addr} {xs:List V} (hp:SqT K H p [.str n,.ref q]) (hq:SqT K H q xs) (hx:HasL K H (ax ts) xs):Has K H (dTr (.node n ts)) (.ref p):=by
 simp only[dTr]
 exact Has.tup' hp (.cons Has.str' (.cons (Has.tup' hq hx) .nil))
theorem zaL {ts:List Tr} {xs:List V} {i:Nat} {x:V} (h:HasL K H (ax ts) xs) (e:xs[i]?=some x):∃ t,ts[i]?=some t∧Has K H (dTr t) x:=by
 rw[dTrs_map]at h
 obtain⟨d,e1,e2⟩:=h.get e
 rw[List.getElem?_map]at e1
 cases q:ts[i]? with
 | none=>rw[q]at e1;cases e1
 | some t =>
  rw[q]at e1
  cases e1
  exact⟨t,rfl,e2⟩
theorem fms_get {fs:List Fm} {xs:List V} {i:Nat} {x:V} (h:HasL K H (fs.map dFm) xs) (e:xs[i]?=some x):∃ t,fs[i]?=some t∧Has K H (dFm t) x:=by
 obtain⟨d,e1,e2⟩:=h.get e
 rw[List.getElem?_map]at e1
 cases q:fs[i]? with
 | none=>rw[q]at e1;cases e1
 | some t =>
  rw[q]at e1
  cases e1
  exact⟨t,rfl,e2⟩
theorem zae:∀ fs:List Fm,zb8 (fs.map dFm)=true
 | []=>rfl
 | f :: fs=>by simp only[List.map_cons,zb8,nol_dFm,zae fs,Bool.and_self]
end
theorem FnOk.no {P:Program} {w:World} {K:W.Frag} {mg:Str→Option Value} {base:Heap} {CX:CXT} {k:Nat} {f:Addr} {fd:FuncData} {ps:List Str} {sp:Sp} (h:∀ vs H Q E,¬sp vs H Q E):FnOk P w K mg base CX k f fd ps sp :=
 ⟨fun vs H Q E q=>absurd q (h _ _ _ _),fun A outer s H args us vs Q E _ _ _ _ hs=>absurd hs (h _ _ _ _)⟩
end F72
namespace F72
open PySem L2
section
variable {P:Program} {w:World} {K:W.Frag} {mg:Str→Option Value} {base:Heap} {aB aO:Addr} {f:Addr} {fd:FuncData}
def zc3 (K:W.Frag) (n:Nat):Sp:=fun vs H Q _=>∃(t:Tr) (v:V),vs=[v]∧Has K H (dTr t) v∧dp t≤n∧wt t≤1000000∧∀ H',ai H H'→Q (.str (txt t)) H'
theorem zfB {vs:List V} {H:Hp} {Q:VK} {E:XK}:¬zc3 K 0 vs H Q E:=fun⟨t,v,_,_,h,_⟩=>by
 cases t
 simp only[dp]at h
 omega
theorem zfw {nm:Str} {ts:List Tr} (h:ts≠[]):txt (.node nm ts)=nm++"("++Builtin.Str.glued ", " (zaB ts)++")":=by
 cases ts with
 | nil=>exact absurd rfl h
 | cons t ts=>rfl
theorem zdI {ts:List Tr} {i:Nat} {t:Tr} (h:ts[i]?=some t):(zaB ts)[i]?=some (txt t):=by rw[zdY,List.getElem?_map,h];rfl
theorem za4 (ts:List Tr):(zaB ts).length=ts.length:=by rw[zdY,List.length_map]
theorem dTrs_length (ts:List Tr):(ax ts).length=ts.length:=by rw[dTrs_map,List.length_map]
theorem c1:(("(":Str)).length=1:=by decide +kernel
theorem c2:((")":Str)).length=1:=by decide +kernel
theorem c3:((", ":Str)).length=2:=by decide +kernel
theorem zfe:zad ["tree"] ["tree"] (aj s_shown_tree):=⟨rfl,rfl,rfl,by decide +kernel,rfl,by decide +kernel,by decide +kernel⟩
theorem ok_stree (F:Fun K "shown_tree" "shown_tree" s_shown_tree f fd) (T:Txt K mg aB aO) (b:aq K fd ["tree"] []) (kp:W.keepIn K (.ref f)=true) (m:mg "shown_tree"=some (.ref f)):∀ n,FnOk P w K mg base CX0 n f fd ["tree"] (zc3 K n)
 | 0=>FnOk.no fun _ _ _ _=>zfB
 | n+1=>by
  have IH:=ok_stree F T b kp m n
  refine F.ok zfe (fun vs H Q E h=>?_) (fun cdv A outer s H vs Q E hr h=>?_)
  ·obtain⟨t,v,rfl,_⟩:=h
   rfl
  obtain⟨⟨nm,ts⟩,v,rfl,ht,hd,hw,q⟩:=h
  refine⟨_,(ae (zai (zaa zas (zaI za0 rfl T.len PySem.boot_len (aa (av zan (pv 0) ad (fun _ _=>rfl)) ac)) ad (zag _))
    (ag (ar (av zan (pv 0) ad (fun _ _=>rfl))))
    zab)
   (ag (ar (am zac (am zac (am zac (av zan (pv 0) ad (fun _ _=>rfl)) ak) (zbl PySem.F.plainAttrs_str PySem.F.slot_str_join PySem.F.type_str_join zca ak (aa (zcL (N':=["part"]) (ix:=[]) rfl rfl (by decide +kernel) (by decide +kernel) rfl (fun _=>⟨[],za2 (by decide +kernel) (by decide +kernel)⟩) (by decide +kernel) rfl rfl (fun j i h=>by simp at h) (zcA (av zan (pv 0) ad (fun _ _=>rfl))) (fun _ _ _ _=>(ao IH hr rfl m kp b .nil ap (aa (pv 0) ac)))) ac))) ak)))),?_⟩
  obtain⟨p,r,xs,rfl,hp,hq,hx⟩:=tr_at ht
  have xl:xs.length=ts.length:=by rw[←hx.length,dTrs_length]
  simp only[dp]at hd
  simp only[wt]at hw
  have tl:=zbT ts
  have tl2:=za4 ts
  have gl:=zbk ", " (zaB ts)
  rw[c3]at gl
  refine⟨_,rfl,p,_,_,_,rfl,rfl,hp,rfl,r,_,rfl,.inr hq,rfl,_,rfl,zal (fun c=>?_) (fun c=>?_)⟩
  ·have c':((xs.length:Nat):Int)=0:=by
    have:=of_decide_eq_true c
    injection this
   have e:ts=[]:=List.length_eq_zero_iff.mp (by omega)
   subst e
   exact⟨_,rfl,p,_,_,_,rfl,rfl,hp,rfl,q H (ai.refl H)⟩
  have hne:ts≠[]:=fun e=>c (by
   subst e
   have:xs=[]:=List.length_eq_zero_iff.mp xl
   subst this
   decide)
  refine⟨_,rfl,p,_,_,_,rfl,rfl,hp,rfl,_,_,rfl,rfl,szM (by rw[c1];omega),rfl,_,rfl,p,_,_,_,rfl,rfl,hp,rfl,r,rfl,⟨_,hq⟩,fun D hD=>zbR zcx (fun i us H'=>ai H H'∧us=((zaB ts).take i).map V.str) (fun i us H' ⟨s4,_⟩=>s4.tup hq) ⟨ah hD _,rfl⟩ ?_ ?_⟩
  ·rintro i us H8 x H4 hi hly hDs ⟨s4,rfl⟩ ⟨rfl,hx'⟩
   obtain⟨u,hu,hux⟩:=zaL (hx.keep s4.kt (nols_dTrs _)) (hx' _ (s4.tup hq))
   have um:=List.mem_of_getElem? hu
   have:=zdr um
   refine⟨_,rfl,u,_,rfl,hux,dps_le (by omega) u um,by omega,fun H5 s5=>zbc (szM (by omega)) hi hly (s5 _ _ hDs) ⟨(s4.trans s5).upd hD,?_⟩⟩
   rw[zaF (zdI hu),List.map_append]
   rfl
  rintro us H4 hDs ⟨s4,rfl⟩
  rw[List.take_of_length_le (by rw[za4,xl];exact Nat.le_refl _)]at hDs
  refine⟨", ",D,zaB ts,rfl,rfl,SqL.of hDs,szM (by rw[c3];omega),_,_,rfl,rfl,szM (by rw[app_len,c1];omega),_,_,rfl,rfl,szM (by rw[app_len,app_len,c1,c2];omega),?_⟩
  rw[←zfw hne]
  exact q H4 s4
theorem zdR:zad ["_law_tree_here"] ["_law_tree_here"] (aj s__law_tree_text):=⟨rfl,rfl,rfl,by decide +kernel,rfl,by decide +kernel,by decide +kernel⟩
theorem ok_ltree (F:Fun K "_law_tree_text" "_law_tree_text" s__law_tree_text f fd) (T:Txt K mg aB aO) (b:aq K fd ["_law_tree_here"] []) (kp:W.keepIn K (.ref f)=true) (m:mg "_law_tree_text"=some (.ref f)):∀ n,n≤20→FnOk P w K mg base CX0 n f fd ["_law_tree_here"] (zc3 K n)
 | 0,_=>FnOk.no fun _ _ _ _=>zfB
 | n+1,hn=>by
  have IH:=ok_ltree F T b kp m n (by omega)
  refine F.ok zdR (fun vs H Q E h=>?_) (fun cdv A outer s H vs Q E hr h=>?_)
  ·obtain⟨t,v,rfl,_⟩:=h
   rfl
  obtain⟨⟨nm,ts⟩,v,rfl,ht,hd,hw,q⟩:=h
  have hu:=zcr hr
  refine⟨_,(ae (zai (zaa (zfq hu) (av zan (pv 0) ad (fun _ _=>rfl)) (zaf ac) rfl)
    (ag (ar (av zan (pv 0) ad (fun _ _=>rfl))))
    zab)
   (ag (ar (am zac (am zac (am zac (av zan (pv 0) ad (fun _ _=>rfl)) ak) (zbl PySem.F.plainAttrs_str PySem.F.slot_str_join PySem.F.type_str_join zca ak (aa (zcL (N':=["_law_inner"]) (ix:=[]) rfl rfl (by decide +kernel) (by decide +kernel) rfl (fun _=>⟨[],za2 (by decide +kernel) (by decide +kernel)⟩) (by decide +kernel) rfl rfl (fun j i h=>by simp at h) (zcA (av zan (pv 0) ad (fun _ _=>rfl))) (fun _ _ _ _=>(ao IH hr rfl m kp b .nil ap (aa (pv 0) ac)))) ac))) ak)))),?_⟩
  obtain⟨p,r,xs,rfl,hp,hq,hx⟩:=tr_at ht
  have xl:xs.length=ts.length:=by rw[←hx.length,dTrs_length]
  simp only[dp]at hd
  simp only[wt]at hw
  have tl:=zbT ts
  have tl2:=za4 ts
  have gl:=zbk ", " (zaB ts)
  rw[c3]at gl
  have dd:=deps_dTrs ts
  refine⟨_,rfl,p,_,_,_,rfl,rfl,hp,rfl,lS0,fun l hl=>?_⟩
  have s1:ai H (upd H l (.tup [])):=ah hl _
  have n1:=af (H:=H) (a:=l) (o:=.tup [])
  generalize upd H l (.tup [])=H1 at s1 n1
  have hp1:=s1.tup hp
  have hq1:=s1.tup hq
  have hx1:=hx.keep s1.kt (nols_dTrs _)
  refine⟨.tup (ax ts),.tup [],Has.tup' hq1 hx1,Has.tup' (SqT.of n1) HasL.nil,(by simp only[dep];omega),_,rfl,?_⟩
  by_cases hne:ts=[]
  ·subst hne
   exact zbJ ⟨_,rfl,p,_,_,_,rfl,rfl,hp1,rfl,q H1 s1⟩
  have e0:peq (.tup (ax ts)) (.tup [])=false:=by
   cases ts with
   | nil=>exact absurd rfl hne
   | cons t ts=>rfl
  rw[e0]
  refine zaS ⟨_,rfl,p,_,_,_,rfl,rfl,hp1,rfl,_,_,rfl,rfl,szM (by rw[c1];omega),rfl,_,rfl,p,_,_,_,rfl,rfl,hp1,rfl,r,rfl,⟨_,hq1⟩,fun D hD=>zbR zcx (fun i us H'=>ai H1 H'∧us=((zaB ts).take i).map V.str) (fun i us H' ⟨s4,_⟩=>s4.tup hq1) ⟨ah hD _,rfl⟩ ?_ ?_⟩
  ·rintro i us H8 x H4 hi hly hDs ⟨s4,rfl⟩ ⟨rfl,hx'⟩
   obtain⟨u,hu',hux⟩:=zaL (hx1.keep s4.kt (nols_dTrs _)) (hx' _ (s4.tup hq1))
   have um:=List.mem_of_getElem? hu'
   have:=zdr um
   refine⟨_,rfl,u,_,rfl,hux,dps_le (by omega) u um,by omega,fun H5 s5=>zbc (szM (by omega)) hi hly (s5 _ _ hDs) ⟨(s4.trans s5).upd hD,?_⟩⟩
   rw[zaF (zdI hu'),List.map_append]
   rfl
  rintro us H4 hDs ⟨s4,rfl⟩
  rw[List.take_of_length_le (by rw[za4,xl];exact Nat.le_refl _)]at hDs
  refine⟨", ",D,zaB ts,rfl,rfl,SqL.of hDs,szM (by rw[c3];omega),_,_,rfl,rfl,szM (by rw[app_len,c1];omega),_,_,rfl,rfl,szM (by rw[app_len,app_len,c1,c2];omega),?_⟩
  rw[←zfw hne]
  exact q H4 (s1.trans s4)
end
end F72
namespace F72
open PySem L2
def hdF:Fm→Str
 | .plain _=>"plain"
 | .bare z=>z
 | .same _ _=>"same"
 | .unlike _=>"unlike"
 | .not _=>"not"
 | .bin k _ _=>k
def tlF:Fm→List Dt
 | .plain z=>[.str z]
 | .bare _=>[]
 | .same a b=>[dTr a,dTr b]
 | .unlike ts=>[.tup (ax ts)]
 | .not f=>[dFm f]
 | .bin _ f g=>[dFm f,dFm g]
def zao:Fm→List Tr
 | .same a b=>[a,b]
 | .unlike ts=>ts
 | _=>[]
def zam:Fm→List Fm
 | .not f=>[f]
 | .bin _ f g=>[f,g]
 | _=>[]
theorem dFm_eq (f:Fm):dFm f=.tup (.str (hdF f) :: tlF f):=by cases f <;> rfl
theorem zeN {f:Fm} (h:FOk f) (e:hdF f="always"∨hdF f="never"):∃ z,f=.bare z:=by
 cases f with
 | bare z=>exact⟨z,rfl⟩
 | bin k f g =>
  rcases h.1 with rfl | rfl | rfl | rfl <;> exact absurd e (by simp only[hdF];decide +kernel)
 | _=>exact absurd e (by simp only[hdF];decide +kernel)
theorem hd_plain {f:Fm} (h:FOk f) (e:hdF f="plain"):∃ z,f=.plain z:=by
 cases f with
 | plain z=>exact⟨z,rfl⟩
 | bare z=>rcases h with rfl | rfl <;> exact absurd e (by simp only[hdF];decide +kernel)
 | bin k f g =>
  rcases h.1 with rfl | rfl | rfl | rfl <;> exact absurd e (by simp only[hdF];decide +kernel)
 | _=>exact absurd e (by simp only[hdF];decide +kernel)
theorem zeM {f:Fm} (h:FOk f) (e:hdF f="same"):∃ a b,f=.same a b:=by
 cases f with
 | same a b=>exact⟨a,b,rfl⟩
 | bare z=>rcases h with rfl | rfl <;> exact absurd e (by simp only[hdF];decide +kernel)
 | bin k f g =>
  rcases h.1 with rfl | rfl | rfl | rfl <;> exact absurd e (by simp only[hdF];decide +kernel)
 | _=>exact absurd e (by simp only[hdF];decide +kernel)
theorem hd_unlike {f:Fm} (h:FOk f) (e:hdF f="unlike"):∃ ts,f=.unlike ts:=by
 cases f with
 | unlike ts=>exact⟨ts,rfl⟩
 | bare z=>rcases h with rfl | rfl <;> exact absurd e (by simp only[hdF];decide +kernel)
 | bin k f g =>
  rcases h.1 with rfl | rfl | rfl | rfl <;> exact absurd e (by simp only[hdF];decide +kernel)
 | _=>exact absurd e (by simp only[hdF];decide +kernel)
theorem zhm {f:Fm} (h:FOk f) (e:hdF f="not"):∃ g,f=.not g:=by
 cases f with
 | not g=>exact⟨g,rfl⟩
 | bare z=>rcases h with rfl | rfl <;> exact absurd e (by simp only[hdF];decide +kernel)
 | bin k f g =>
  rcases h.1 with rfl | rfl | rfl | rfl <;> exact absurd e (by simp only[hdF];decide +kernel)
 | _=>exact absurd e (by simp only[hdF];decide +kernel)
theorem zfU {z:Str} {ws:List Str}:inV (.str z) (ws.map V.str)=true↔z∈ws:=by
 unfold inV
 rw[List.any_eq_true]
 constructor
 ·rintro ⟨y,hy,e⟩
  obtain⟨w,hw,rfl⟩:=List.mem_map.mp hy
  have:w=z:=eq_of_beq e
  rw[←this]
  exact hw
 ·intro h
  exact⟨.str z,List.mem_map.mpr ⟨z,h,rfl⟩,beq_self_eq_true z⟩
theorem in_bare {z:Str}:inV (.str z) bareV=true↔z="always"∨z="never":=by
 rw[show bareV=(["always","never"]:List Str).map V.str from rfl,zfU]
 simp
theorem zhk {z:Str}:inV (.str z) ofsV=true↔z="not"∨z="and"∨z="or"∨z="then"∨z="as":=by
 rw[show ofsV=(["not","and","or","then","as"]:List Str).map V.str from rfl,zfU]
 simp
section
variable {P:Program} {w:World} {K:W.Frag} {mg:Str→Option Value} {base:Heap} {aB aO:Addr} {f:Addr} {fd:FuncData}
theorem fm_at {H:Hp} {g:Fm} {v:V} (h:Has K H (dFm g) v):∃ p xs,v=.ref p∧SqT K H p (.str (hdF g) :: xs)∧HasL K H (tlF g) xs:=by
 rw[dFm_eq]at h
 simp only[Has,HasL]at h
 obtain⟨p,ys,rfl,hp,v1,xs,rfl,rfl,hx⟩:=h
 exact⟨p,xs,rfl,hp,hx⟩
def zaP (K:W.Frag):Sp:=fun vs H Q _=>∃(g:Fm) (v:V),vs=[v]∧Has K H (dFm g) v∧FOk g∧∀(H':Hp) (l:Addr) (xs:List V),ai H H'→H l=none→H' l=some (.lst xs)→HasL K H' (ax (zao g)) xs→Q (.ref l) H'
def zbb (K:W.Frag):Sp:=fun vs H Q _=>∃(g:Fm) (v:V),vs=[v]∧Has K H (dFm g) v∧FOk g∧∀(H':Hp) (l:Addr) (xs:List V),ai H H'→H l=none→H' l=some (.lst xs)→HasL K H' ((zam g).map dFm) xs→Q (.ref l) H'
theorem zeS:zad ["formula"] ["formula"] (aj s_inner_trees):=⟨rfl,rfl,rfl,by decide +kernel,rfl,by decide +kernel,by decide +kernel⟩
theorem cut2 (a b c:V):zbK [a,b,c] (some 1) none=[b,c]:=rfl
theorem ok_itrees (F:Fun K "inner_trees" "inner_trees" s_inner_trees f fd) (T:Txt K mg aB aO):FnOk P w K mg base CX0 1 f fd ["formula"] (zaP K):=by
 refine F.ok zeS (fun vs H Q E h=>?_) (fun cdv A outer s H vs Q E hr h=>?_)
 ·obtain⟨g,v,rfl,_⟩:=h
  rfl
 obtain⟨g,v,rfl,hg,ok,q⟩:=h
 refine⟨_,(ae (zai (zaa zas (av zan (pv 0) ad (fun _ _=>rfl)) ak (zag _))
   (ag (ar (zbx zcJ rfl T.list PyProof.Rows.Boot.list (aa (zbg zfl (pv 0) (zbi ad) zbF) ac))))
   zab)
  (ag (ar (zd3 (zaa zas (av zan (pv 0) ad (fun _ _=>rfl)) ak (zag _)) (zbx zcJ rfl T.list PyProof.Rows.Boot.list (aa (av zan (pv 0) ad (fun _ _=>rfl)) ac)) (zaG ac))))),?_⟩
 obtain⟨p,xs,rfl,hp,hx⟩:=fm_at hg
 have a0:atI (V.str (hdF g) :: xs) 0=some (.str (hdF g)):=zat (j:=0) rfl
 refine⟨_,rfl,p,_,_,_,rfl,rfl,hp,a0,rfl,_,rfl,zal (fun c=>?_) (fun c=>?_)⟩
 ·have e:hdF g="same":=by
   have:=of_decide_eq_true c
   injection this
  obtain⟨a,b,rfl⟩:=zeM ok e
  simp only[tlF,HasL]at hx
  obtain⟨va,r1,rfl,ha,vb,r2,rfl,hb,rfl⟩:=hx
  refine⟨_,rfl,_,rfl,p,_,rfl,hp,(fun h=>absurd h.1 (show ¬(1:Nat)=0 by decide)),fun p1 hp1=>?_⟩
  rw[cut2]
  have s1:ai H (upd H p1 (.tup [va,vb])):=ah hp1 _
  have n1:=af (H:=H) (a:=p1) (o:=.tup [va,vb])
  generalize upd H p1 (.tup [va,vb])=H1 at s1 n1
  refine⟨p1,_,rfl,.inr (SqT.of n1),fun l hl=>?_⟩
  have s2:ai H1 (upd H1 l (.lst [va,vb])):=ah hl _
  exact q _ l _ (s1.trans s2) (s1.free hl) af (.cons (ha.keep (s1.trans s2).kt (nol_dTr _)) (.cons (hb.keep (s1.trans s2).kt (nol_dTr _)) .nil))
 have c':hdF g≠"same":=fun e=>c (by rw[e];decide +kernel)
 refine⟨_,rfl,p,_,_,_,rfl,rfl,hp,a0,rfl,_,rfl,zal (fun d=>?_) (fun d=>?_)⟩
 ·have e:hdF g="unlike":=by
   have:=of_decide_eq_true d
   injection this
  obtain⟨ts,rfl⟩:=hd_unlike ok e
  simp only[tlF,HasL,Has]at hx
  obtain⟨va,r1,rfl,⟨r,ys,rfl,hr1,hy⟩,rfl⟩:=hx
  refine⟨_,rfl,p,_,_,_,rfl,rfl,hp,rfl,r,_,rfl,.inr hr1,fun l hl=>?_⟩
  have s2:ai H (upd H l (.lst ys)):=ah hl _
  exact q _ l _ s2 hl af (hy.keep s2.kt (nols_dTrs _))
 ·have d':hdF g≠"unlike":=fun e=>d (by rw[e];decide +kernel)
  refine⟨lS0,fun l hl=>?_⟩
  have e:zao g=[]:=by
   cases g with
   | same a b=>exact absurd rfl c'
   | unlike ts=>exact absurd rfl d'
   | _=>rfl
  exact q _ l [] (ah hl _) hl af (by rw[e];exact HasL.nil)
theorem zdQ:zad ["formula"] ["formula"] (aj s_inner_formulas):=⟨rfl,rfl,rfl,by decide +kernel,rfl,by decide +kernel,by decide +kernel⟩
theorem ok_ifms (F:Fun K "inner_formulas" "inner_formulas" s_inner_formulas f fd) (T:Txt K mg aB aO):FnOk P w K mg base CX0 1 f fd ["formula"] (zbb K):=by
 refine F.ok zdQ (fun vs H Q E h=>?_) (fun cdv A outer s H vs Q E hr h=>?_)
 ·obtain⟨g,v,rfl,_⟩:=h
  rfl
 obtain⟨g,v,rfl,hg,ok,q⟩:=h
 refine⟨_,(ag (ar (zd3 (zaa zdD (av zan (pv 0) ad (fun _ _=>rfl)) (zaO (v:=.ref aO) rfl T.ofs rfl) rfl) (zbx zcJ rfl T.list PyProof.Rows.Boot.list (aa (zbg zfl (pv 0) (zbi ad) zbF) ac)) (zaG ac)))),?_⟩
 obtain⟨p,xs,rfl,hp,hx⟩:=fm_at hg
 have a0:atI (V.str (hdF g) :: xs) 0=some (.str (hdF g)):=zat (j:=0) rfl
 refine⟨_,rfl,p,_,_,_,rfl,rfl,hp,a0,aO,ofsV,rfl,.inr (T.tO H),rfl,zik,_,rfl,zal (fun c=>?_) (fun c=>?_)⟩
 ·have e:=zhk.mp c
  have key:∃ ys:List V,xs=ys∧HasL K H ((zam g).map dFm) ys∧zbK (.str (hdF g) :: ys) (some 1) none=ys∧HT.sIx (V.str (hdF g) :: ys).length 0 (some 1)≠0:=by
   cases g with
   | not g =>
    have hx':=hx
    simp only[tlF,HasL]at hx'
    obtain⟨va,r1,rfl,ha,rfl⟩:=hx'
    exact⟨_,rfl,hx,rfl,show ¬(1:Nat)=0 by decide⟩
   | bin k f g =>
    have hx':=hx
    simp only[tlF,HasL]at hx'
    obtain⟨va,r1,rfl,ha,vb,r2,rfl,hb,rfl⟩:=hx'
    exact⟨_,rfl,hx,rfl,show ¬(1:Nat)=0 by decide⟩
   | bare z=>rcases ok with rfl | rfl <;> exact absurd e (by simp only[hdF];decide +kernel)
   | _=>exact absurd e (by simp only[hdF];decide +kernel)
  obtain⟨ys,rfl,hy,ec,en⟩:=key
  refine⟨_,rfl,_,rfl,p,_,rfl,hp,(fun h=>absurd h.1 en),fun p1 hp1=>?_⟩
  rw[ec]
  have s1:ai H (upd H p1 (.tup xs)):=ah hp1 _
  have n1:=af (H:=H) (a:=p1) (o:=.tup xs)
  generalize upd H p1 (.tup xs)=H1 at s1 n1
  refine⟨p1,_,rfl,.inr (SqT.of n1),fun l hl=>?_⟩
  have s2:ai H1 (upd H1 l (.lst xs)):=ah hl _
  exact q _ l _ (s1.trans s2) (s1.free hl) af (hy.keep (s1.trans s2).kt (zae _))
 ·have c':=fun e=>c (zhk.mpr e)
  refine⟨lS0,fun l hl=>?_⟩
  have e:zam g=[]:=by
   cases g with
   | not g=>exact absurd (.inl rfl) c'
   | bin k f g=>exact absurd (.inr ok.1) c'
   | _=>rfl
  exact q _ l [] (ah hl _) hl af (by rw[e];exact HasL.nil)
end
end F72
namespace F72
open PySem L2
section
variable {P:Program} {w:World} {K:W.Frag} {mg:Str→Option Value} {base:Heap} {aB aO:Addr} {f fT fI fJ:Addr} {fd dT' dI dJ:FuncData}
def zea (K:W.Frag) (n:Nat):Sp:=fun vs H Q _=>∃(g:Fm) (v:V),vs=[v]∧Has K H (dFm g) v∧fdp g≤n∧FOk g∧fwt g≤900000∧∀ H',ai H H'→Q (.str (zay g)) H'
theorem zg7 {vs:List V} {H:Hp} {Q:VK} {E:XK}:¬zea K 0 vs H Q E:=fun⟨g,v,_,_,h,_⟩=>by
 have:=fdp_pos g
 omega
theorem trs_ok {g:Fm} (h:FOk g):∀ t∈zao g,dp t≤19:=by
 cases g with
 | same a b =>
  intro t ht
  simp only[zao,List.mem_cons,List.not_mem_nil,or_false]at ht
  rcases ht with rfl | rfl
  ·exact h.1
  ·exact h.2
 | unlike ts=>exact h
 | _=>intro t ht;simp [zao]at ht
theorem trs_wt (g:Fm):wts (zao g)≤fwt g+10:=by
 cases g with
 | same a b=>simp only[zao,wts,fwt];omega
 | unlike ts=>simp only[zao,fwt];omega
 | _=>simp [zao,wts]
theorem fms_ok {g:Fm} (h:FOk g) {n:Nat} (hd:fdp g≤n+1) (hw:fwt g≤900000):∀ t∈zam g,FOk t∧fdp t≤n∧fwt t≤900000:=by
 cases g with
 | not g =>
  intro t ht
  simp only[zam,List.mem_cons,List.not_mem_nil,or_false]at ht
  subst ht
  simp only[fdp]at hd
  simp only[fwt]at hw
  exact⟨h,by omega,by omega⟩
 | bin k f g =>
  intro t ht
  simp only[zam,List.mem_cons,List.not_mem_nil,or_false]at ht
  simp only[fdp]at hd
  simp only[fwt]at hw
  rcases ht with rfl | rfl
  ·exact⟨h.2.1,by omega,by omega⟩
  ·exact⟨h.2.2,by omega,by omega⟩
 | _=>intro t ht;simp [zam]at ht
theorem zhP (sep x y:Str):Builtin.Str.glued sep [x,y]=x++sep++y:=by
 rw[show [x,y]=[x]++[y] from rfl,zg3 sep y (by simp),ze5]
theorem l3:((" = ":Str)).length=3:=by decide +kernel
theorem l4:(("not ":Str)).length=4:=by decide +kernel
theorem l7:(("unlike(":Str)).length=7:=by decide +kernel
theorem l1:((" ":Str)).length=1:=by decide +kernel
theorem zbm:zad ["formula","kind","trees","within"] ["formula"] (aj s_shown_formula):=⟨rfl,rfl,rfl,by decide +kernel,rfl,by decide +kernel,by decide +kernel⟩
set_option maxHeartbeats 1000000 in
theorem ok_sfm (F:Fun K "shown_formula" "shown_formula" s_shown_formula f fd) (T:Txt K mg aB aO) (b:aq K fd ["formula"] []) (kp:W.keepIn K (.ref f)=true) (m:mg "shown_formula"=some (.ref f))
  (BT:FB P w K mg base CX0 19 "shown_tree" fT dT' ["tree"] (zc3 K 19)) (BI:FB P w K mg base CX0 1 "inner_trees" fI dI ["formula"] (zaP K)) (BJ:FB P w K mg base CX0 1 "inner_formulas" fJ dJ ["formula"] (zbb K)):∀ n,FnOk P w K mg base CX0 (n+19) f fd ["formula"] (zea K n)
 | 0=>FnOk.no fun _ _ _ _=>zg7
 | n+1=>by
  have IH:=ok_sfm F T b kp m BT BI BJ n
  refine F.ok (k:=n+19) zbm (fun vs H Q E h=>?_) (fun cdv A outer s H vs Q E hr h=>?_)
  ·obtain⟨t,v,rfl,_⟩:=h
   rfl
  obtain⟨g,v,rfl,hg,hd,ok,hw,q⟩:=h
  have hr1:aw 1 _:=hr.mono (by omega)
  have hr3:aw 19 _:=hr.mono (by omega)
  refine⟨_,(ae (zah (i:=1) zbm.nd rfl (Or.inl rfl) (av zan (pv 0) ad (fun _ _=>rfl)))
   (ae (zai (zaa zdD (pv 1) (zaO (v:=.ref aB) rfl T.bare rfl) rfl)
    (ag (ar (pv 1)))
    zab)
   (ae (zai (zaa zas (pv 1) ak (zag _))
    (ag (ar (av zan (pv 0) ad (fun _ _=>rfl))))
    zab)
   (ae (zcc (i:=2) (N':=["tree"]) (ix:=[]) zbm.nd rfl (Or.inl rfl) rfl rfl (by decide +kernel) (by decide +kernel) rfl (fun _=>⟨[],za2 (by decide +kernel) (by decide +kernel)⟩) (by decide +kernel) rfl rfl (fun j i h=>by simp at h) (za6 (ao BI.ok hr1 rfl BI.m BI.kp BI.b .nil ap (aa (pv 0) ac))) (fun _ _ _ _=>(ao BT.ok hr3 rfl BT.m BT.kp BT.b .nil ap (aa (pv 0) ac))))
   (ae (zai (zaa zas (pv 1) ak (zag _))
    (ag (ar (zbl PySem.F.plainAttrs_str PySem.F.slot_str_join PySem.F.type_str_join zca ak (aa (pv 2) ac))))
    zab)
   (ae (zai (zaa zas (pv 1) ak (zag _))
    (ag (ar (am zac (am zac ak (zbl PySem.F.plainAttrs_str PySem.F.slot_str_join PySem.F.type_str_join zca ak (aa (pv 2) ac))) ak)))
    zab)
   (ae (zcc (i:=3) (N':=["inner"]) (ix:=[]) zbm.nd rfl (Or.inl rfl) rfl rfl (by decide +kernel) (by decide +kernel) rfl (fun _=>⟨[],za2 (by decide +kernel) (by decide +kernel)⟩) (by decide +kernel) rfl rfl (fun j i h=>by simp at h) (za6 (ao BJ.ok hr1 rfl BJ.m BJ.kp BJ.b .nil ap (aa (pv 0) ac))) (fun _ _ _ _=>(ao IH hr rfl m kp b .nil ap (aa (pv 0) ac))))
   (ae (zai (zaa zas (pv 1) ak (zag _))
    (ag (ar (am zac ak (av zap (pv 3) ad (fun _ _=>rfl)))))
    zab)
   (ag (ar (am zac (am zac (am zac (am zac (am zac (am zac ak (av zap (pv 3) ad (fun _ _=>rfl))) ak) (pv 1)) ak) (av zap (pv 3) ad (fun _ _=>rfl))) ak))))))))))),?_⟩
  obtain⟨p,xs,rfl,hp,hx⟩:=fm_at hg
  have a0:atI (V.str (hdF g) :: xs) 0=some (.str (hdF g)):=zat (j:=0) rfl
  have fl:=ftxt_len g
  refine⟨_,rfl,p,_,_,_,rfl,rfl,hp,a0,_,rfl,aB,bareV,rfl,.inr (T.tB H),rfl,bare_flat,_,rfl,zal (fun c=>?_) (fun c=>?_)⟩
  ·obtain⟨z,rfl⟩:=zeN ok (in_bare.mp c)
   exact⟨_,rfl,q H (ai.refl H)⟩
  have nb:=fun e=>c (in_bare.mpr e)
  refine⟨_,rfl,rfl,_,rfl,zal (fun c=>?_) (fun c=>?_)⟩
  ·obtain⟨z,rfl⟩:=hd_plain ok (by have:=of_decide_eq_true c;injection this)
   simp only[tlF,HasL,Has]at hx
   obtain⟨va,r1,rfl,rfl,rfl⟩:=hx
   exact⟨_,rfl,p,_,_,_,rfl,rfl,hp,rfl,q H (ai.refl H)⟩
  have np:hdF g≠"plain":=fun e=>c (by rw[e];decide +kernel)
  have tw:=trs_wt g
  have tok:=trs_ok ok
  have tl:=zbT (zao g)
  refine⟨_,rfl,g,_,rfl,hg,ok,fun H1 l ys s1 hl hl1 hy=>⟨l,rfl,⟨_,SqL.of hl1⟩,fun D hD=>zbR za5 (fun i us H'=>ai H1 H'∧us=((zaB (zao g)).take i).map V.str) (fun i us H' ⟨s4,_⟩=>SqL.of (s4 _ _ hl1)) ⟨ah hD _,rfl⟩ ?_ ?_⟩⟩
  ·rintro i us H8 x H4 hi hly hDs ⟨s4,rfl⟩ ⟨rfl,hx'⟩
   obtain⟨u,hu',hux⟩:=zaL (hy.keep s4.kt (nols_dTrs _)) (hx' _ (SqL.of (s4 _ _ hl1)))
   have um:=List.mem_of_getElem? hu'
   have:=zdr um
   have yl:ys.length=(zao g).length:=by rw[←hy.length,dTrs_length]
   have tl':=za4 (zao g)
   refine⟨_,rfl,u,_,rfl,hux,tok u um,by omega,fun H5 s5=>zbc (szM (by omega)) hi hly (s5 _ _ hDs) ⟨(s4.trans s5).upd hD,?_⟩⟩
   rw[zaF (zdI hu'),List.map_append]
   rfl
  rintro us H4 hDs ⟨s4,rfl⟩
  have yl:ys.length=(zao g).length:=by rw[←hy.length,dTrs_length]
  rw[List.take_of_length_le (by rw[za4,yl];exact Nat.le_refl _)]at hDs
  have s14:=s1.trans s4
  refine⟨_,rfl,rfl,_,rfl,zal (fun c=>?_) (fun c=>?_)⟩
  ·obtain⟨ta,tb,rfl⟩:=zeM ok (by have:=of_decide_eq_true c;injection this)
   have e:Builtin.Str.glued " = " (zaB (zao (.same ta tb)))=zay (.same ta tb):=zhP _ _ _
   refine⟨rfl,_,rfl," = ",D,_,rfl,rfl,SqL.of hDs,szM (by rw[l3];omega),?_⟩
   rw[e]
   exact q H4 s14
  have ns:hdF g≠"same":=fun e=>c (by rw[e];decide +kernel)
  refine⟨_,rfl,rfl,_,rfl,zal (fun c=>?_) (fun c=>?_)⟩
  ·obtain⟨ts,rfl⟩:=hd_unlike ok (by have:=of_decide_eq_true c;injection this)
   have gl:=zbk ", " (zaB (zao (.unlike ts)))
   rw[c3]at gl
   exact⟨rfl,_,rfl,", ",D,_,rfl,rfl,SqL.of hDs,szM (by rw[c3];omega),_,_,rfl,rfl,szM (by rw[l7];omega),_,_,rfl,rfl,szM (by rw[app_len,l7,c2];omega),q H4 s14⟩
  have nu:hdF g≠"unlike":=fun e=>c (by rw[e];decide +kernel)
  have hg4:=hg.keep s14.kt (nol_dFm _)
  have fok:=fms_ok ok hd hw
  have fl2:(zam g).length≤2:=by cases g <;> simp [zam]
  refine⟨_,rfl,g,_,rfl,hg4,ok,fun H5 l2 zs s5 hl2 hl5 hz=>⟨l2,rfl,⟨_,SqL.of hl5⟩,fun D2 hD2=>zbR za5 (fun i us H'=>ai H5 H'∧us=(((zam g).map zay).take i).map V.str) (fun i us H' ⟨s6,_⟩=>SqL.of (s6 _ _ hl5)) ⟨ah hD2 _,rfl⟩ ?_ ?_⟩⟩
  ·rintro i us H8 x H6 hi hly hDs6 ⟨s6,rfl⟩ ⟨rfl,hx'⟩
   obtain⟨u,hu',hux⟩:=fms_get (hz.keep s6.kt (zae _)) (hx' _ (SqL.of (s6 _ _ hl5)))
   have um:=List.mem_of_getElem? hu'
   obtain⟨o1,o2,o3⟩:=fok u um
   have zl:zs.length=(zam g).length:=by rw[←hz.length,List.length_map]
   have hu2:((zam g).map zay)[i]?=some (zay u):=by rw[List.getElem?_map,hu'];rfl
   refine⟨_,rfl,u,_,rfl,hux,o2,o1,o3,fun H7 s7=>zbc (szM (by omega)) hi hly (s7 _ _ hDs6) ⟨(s6.trans s7).upd hD2,?_⟩⟩
   rw[zaF hu2,List.map_append]
   rfl
  rintro us H6 hDs6 ⟨s6,rfl⟩
  have zl:zs.length=(zam g).length:=by rw[←hz.length,List.length_map]
  rw[List.take_of_length_le (by rw[List.length_map,zl];exact Nat.le_refl _)]at hDs6
  have s16:=(s14.trans s5).trans s6
  refine⟨_,rfl,rfl,_,rfl,zal (fun c=>?_) (fun c=>?_)⟩
  ·obtain⟨g',rfl⟩:=zhm ok (by have:=of_decide_eq_true c;injection this)
   have fl':=ftxt_len g'
   simp only[fwt]at hw
   exact⟨_,rfl,D2,_,_,_,rfl,rfl,SqL.of hDs6,rfl,_,_,rfl,rfl,szM (by rw[l4];omega),q H6 s16⟩
  have nn:hdF g≠"not":=fun e=>c (by rw[e];decide +kernel)
  cases g with
  | plain z=>exact absurd rfl np
  | bare z=>exact absurd ok nb
  | same a b=>exact absurd rfl ns
  | unlike ts=>exact absurd rfl nu
  | not g=>exact absurd rfl nn
  | bin k g1 g2 =>
   have e1:=ftxt_len g1
   have e2:=ftxt_len g2
   simp only[fwt]at hw
   exact⟨_,rfl,D2,_,_,_,rfl,rfl,SqL.of hDs6,rfl,_,_,rfl,rfl,szM (by rw[c1];omega),_,_,rfl,rfl,szM (by simp only[app_len,c1,l1];omega),_,rfl,_,_,rfl,rfl,szM (by simp only[app_len,c1,l1,hdF];omega),_,_,rfl,rfl,szM (by simp only[app_len,c1,l1,hdF];omega),_,rfl,D2,_,_,_,rfl,rfl,SqL.of hDs6,rfl,_,_,rfl,rfl,szM (by simp only[app_len,c1,l1,hdF];omega),_,_,rfl,rfl,szM (by simp only[app_len,c1,l1,c2,hdF];omega),q H6 s16⟩
theorem zb7:zad ["_law_formula","_law_kind"] ["_law_formula"] (aj s__law_formula_text):=⟨rfl,rfl,rfl,by decide +kernel,rfl,by decide +kernel,by decide +kernel⟩
set_option maxHeartbeats 1000000 in
theorem ok_lfm (F:Fun K "_law_formula_text" "_law_formula_text" s__law_formula_text f fd) (T:Txt K mg aB aO) (b:aq K fd ["_law_formula"] []) (kp:W.keepIn K (.ref f)=true) (m:mg "_law_formula_text"=some (.ref f))
  (BT:FB P w K mg base CX0 19 "_law_tree_text" fT dT' ["_law_tree_here"] (zc3 K 19)):∀ n,FnOk P w K mg base CX0 (n+19) f fd ["_law_formula"] (zea K n)
 | 0=>FnOk.no fun _ _ _ _=>zg7
 | n+1=>by
  have IH:=ok_lfm F T b kp m BT n
  refine F.ok (k:=n+19) zb7 (fun vs H Q E h=>?_) (fun cdv A outer s H vs Q E hr h=>?_)
  ·obtain⟨t,v,rfl,_⟩:=h
   rfl
  obtain⟨g,v,rfl,hg,hd,ok,hw,q⟩:=h
  have hr3:aw 19 _:=hr.mono (by omega)
  refine⟨_,(ae (zah (i:=1) zb7.nd rfl (Or.inl rfl) (av zan (pv 0) ad (fun _ _=>rfl)))
   (ae (zai (zaa zas (pv 1) ak (zag _))
    (ag (ar (av zan (pv 0) ad (fun _ _=>rfl))))
    zab)
   (ae (zai (zaa zas (pv 1) ak (zag _))
    (ag (ar (am zac (am zac (ao BT.ok hr3 rfl BT.m BT.kp BT.b .nil ap (aa (av zan (pv 0) ad (fun _ _=>rfl)) ac)) ak) (ao BT.ok hr3 rfl BT.m BT.kp BT.b .nil ap (aa (av zan (pv 0) ad (fun _ _=>rfl)) ac)))))
    zab)
   (ae (zai (zaa zas (pv 1) ak (zag _))
    (ag (ar (am zac ak (ao IH hr rfl m kp b .nil ap (aa (av zan (pv 0) ad (fun _ _=>rfl)) ac)))))
    zab)
   (ae (zai (zaa zas (pv 1) ak (zag _))
    (ag (ar (am zac (am zac ak (zbl PySem.F.plainAttrs_str PySem.F.slot_str_join PySem.F.type_str_join zca ak (aa (zcL (N':=["_law_tree_here"]) (ix:=[]) rfl rfl (by decide +kernel) (by decide +kernel) rfl (fun _=>⟨[],za2 (by decide +kernel) (by decide +kernel)⟩) (by decide +kernel) rfl rfl (fun j i h=>by simp at h) (zcA (av zan (pv 0) ad (fun _ _=>rfl))) (fun _ _ _ _=>(ao BT.ok hr3 rfl BT.m BT.kp BT.b .nil ap (aa (pv 0) ac)))) ac))) ak)))
    zab)
   (ae (zai (PW.pt (zeb (zaa zas (pv 1) ak (zag _)) (zei (zaa zas (pv 1) ak (zag _)))))
    (ag (ar (pv 1)))
    zab)
   (ag (ar (am zac (am zac (am zac (am zac (am zac (am zac ak (ao IH hr rfl m kp b .nil ap (aa (av zan (pv 0) ad (fun _ _=>rfl)) ac))) ak) (pv 1)) ak) (ao IH hr rfl m kp b .nil ap (aa (av zan (pv 0) ad (fun _ _=>rfl)) ac))) ak))))))))),?_⟩
  obtain⟨p,xs,rfl,hp,hx⟩:=fm_at hg
  have a0:atI (V.str (hdF g) :: xs) 0=some (.str (hdF g)):=zat (j:=0) rfl
  refine⟨_,rfl,p,_,_,_,rfl,rfl,hp,a0,_,rfl,rfl,_,rfl,zal (fun c=>?_) (fun c=>?_)⟩
  ·obtain⟨z,rfl⟩:=hd_plain ok (by have:=of_decide_eq_true c;injection this)
   simp only[tlF,HasL,Has]at hx
   obtain⟨va,r1,rfl,rfl,rfl⟩:=hx
   exact⟨_,rfl,p,_,_,_,rfl,rfl,hp,rfl,q H (ai.refl H)⟩
  have np:hdF g≠"plain":=fun e=>c (by rw[e];decide +kernel)
  refine⟨_,rfl,rfl,_,rfl,zal (fun c=>?_) (fun c=>?_)⟩
  ·obtain⟨ta,tb,rfl⟩:=zeM ok (by have:=of_decide_eq_true c;injection this)
   simp only[tlF,HasL]at hx
   obtain⟨va,r1,rfl,ha,vb,r2,rfl,hb,rfl⟩:=hx
   simp only[fwt]at hw
   have e1:=zc2 ta
   have e2:=zc2 tb
   refine⟨_,rfl,p,_,_,_,rfl,rfl,hp,rfl,ta,_,rfl,ha,ok.1,by omega,fun H1 s1=>⟨_,_,rfl,rfl,szM (by rw[l3];omega),_,rfl,p,_,_,_,rfl,rfl,s1.tup hp,rfl,tb,_,rfl,hb.keep s1.kt (nol_dTr _),ok.2,by omega,fun H2 s2=>⟨_,_,rfl,rfl,szM (by rw[app_len,l3];omega),q H2 (s1.trans s2)⟩⟩⟩
  have ns:hdF g≠"same":=fun e=>c (by rw[e];decide +kernel)
  refine⟨_,rfl,rfl,_,rfl,zal (fun c=>?_) (fun c=>?_)⟩
  ·obtain⟨g',rfl⟩:=zhm ok (by have:=of_decide_eq_true c;injection this)
   simp only[tlF,HasL]at hx
   obtain⟨va,r1,rfl,ha,rfl⟩:=hx
   simp only[fwt]at hw
   simp only[fdp]at hd
   have fl':=ftxt_len g'
   exact⟨_,rfl,p,_,_,_,rfl,rfl,hp,rfl,g',_,rfl,ha,by omega,ok,by omega,fun H1 s1=>⟨_,_,rfl,rfl,szM (by rw[l4];omega),q H1 s1⟩⟩
  have nn:hdF g≠"not":=fun e=>c (by rw[e];decide +kernel)
  refine⟨_,rfl,rfl,_,rfl,zal (fun c=>?_) (fun c=>?_)⟩
  ·obtain⟨ts,rfl⟩:=hd_unlike ok (by have:=of_decide_eq_true c;injection this)
   simp only[tlF,HasL,Has]at hx
   obtain⟨va,r1,rfl,⟨r,ys,rfl,hr1,hy⟩,rfl⟩:=hx
   simp only[fwt]at hw
   have tl:=zbT ts
   have gl:=zbk ", " (zaB ts)
   rw[c3]at gl
   have yl:ys.length=ts.length:=by rw[←hy.length,dTrs_length]
   have tl':=za4 ts
   refine⟨rfl,_,rfl,p,_,_,_,rfl,rfl,hp,rfl,r,rfl,⟨_,hr1⟩,fun D hD=>zbR zcx (fun i us H'=>ai H H'∧us=((zaB ts).take i).map V.str) (fun i us H' ⟨s4,_⟩=>s4.tup hr1) ⟨ah hD _,rfl⟩ ?_ ?_⟩
   ·rintro i us H8 x H4 hi hly hDs ⟨s4,rfl⟩ ⟨rfl,hx'⟩
    obtain⟨u,hu',hux⟩:=zaL (hy.keep s4.kt (nols_dTrs _)) (hx' _ (s4.tup hr1))
    have um:=List.mem_of_getElem? hu'
    have:=zdr um
    refine⟨_,rfl,u,_,rfl,hux,ok u um,by omega,fun H5 s5=>zbc (szM (by omega)) hi hly (s5 _ _ hDs) ⟨(s4.trans s5).upd hD,?_⟩⟩
    rw[zaF (zdI hu'),List.map_append]
    rfl
   rintro us H4 hDs ⟨s4,rfl⟩
   rw[List.take_of_length_le (by rw[za4,yl];exact Nat.le_refl _)]at hDs
   exact⟨", ",D,zaB ts,rfl,rfl,SqL.of hDs,szM (by rw[c3];omega),_,_,rfl,rfl,szM (by rw[l7];omega),_,_,rfl,rfl,szM (by rw[app_len,l7,c2];omega),q H4 s4⟩
  have nu:hdF g≠"unlike":=fun e=>c (by rw[e];decide +kernel)
  refine⟨_,rfl,rfl,_,rfl,zal (fun c=>?_) (fun c=>?_)⟩
  ·obtain⟨z,rfl⟩:=zeN ok (.inl (by have:=of_decide_eq_true c;injection this))
   exact zbJ ⟨_,rfl,q H (ai.refl H)⟩
  have na:hdF g≠"always":=fun e=>c (by rw[e];decide +kernel)
  refine⟨_,rfl,rfl,_,rfl,zal (fun c=>?_) (fun c=>?_)⟩
  ·obtain⟨z,rfl⟩:=zeN ok (.inr (by have:=of_decide_eq_true c;injection this))
   exact⟨_,rfl,q H (ai.refl H)⟩
  have nv:hdF g≠"never":=fun e=>c (by rw[e];decide +kernel)
  cases g with
  | plain z=>exact absurd rfl np
  | bare z=>exact absurd ok (fun h=>h.elim na nv)
  | same a b=>exact absurd rfl ns
  | unlike ts=>exact absurd rfl nu
  | not g=>exact absurd rfl nn
  | bin k g1 g2 =>
   have e1:=ftxt_len g1
   have e2:=ftxt_len g2
   simp only[fwt]at hw
   simp only[fdp]at hd
   simp only[tlF,HasL]at hx
   obtain⟨va,r1,rfl,ha,vb,r2,rfl,hb,rfl⟩:=hx
   exact⟨_,rfl,p,_,_,_,rfl,rfl,hp,rfl,g1,_,rfl,ha,by omega,ok.2.1,by omega,fun H1 s1=>⟨_,_,rfl,rfl,szM (by rw[c1];omega),_,_,rfl,rfl,szM (by simp only[app_len,c1,l1];omega),_,rfl,_,_,rfl,rfl,szM (by simp only[app_len,c1,l1,hdF];omega),_,_,rfl,rfl,szM (by simp only[app_len,c1,l1,hdF];omega),_,rfl,p,_,_,_,rfl,rfl,s1.tup hp,rfl,g2,_,rfl,hb.keep s1.kt (nol_dFm _),by omega,ok.2.2,by omega,fun H2 s2=>⟨_,_,rfl,rfl,szM (by simp only[app_len,c1,l1,hdF];omega),_,_,rfl,rfl,szM (by simp only[app_len,c1,l1,c2,hdF];omega),q H2 (s1.trans s2)⟩⟩⟩
end
end F72
namespace F72
open PySem L2
def zbZ (fs:List Fm):Str:=Builtin.Str.glued "" (fs.map fun g=>zay g++"\n")
def zbd (fs:List Fm):Nat:=(fs.map fun g=>fwt g+1).sum
theorem nl1:(("\n":Str)).length=1:=by decide +kernel
theorem e0:(("":Str)).length=0:=by decide +kernel
theorem zd4:∀ fs:List Fm,zbu (fs.map fun g=>zay g++"\n")≤zbd fs
 | []=>by simp [zbu]
 | g :: fs=>by
  have:=zd4 fs
  have:=ftxt_len g
  have h:zbd (g :: fs)=fwt g+1+zbd fs:=by simp [zbd]
  rw[List.map_cons,ze4,app_len,nl1,h]
  omega
theorem zd5:∀ {fs:List Fm} {g:Fm},g∈fs→fwt g≤zbd fs
 | a :: fs,g,h=>by
  have e:zbd (a :: fs)=fwt a+1+zbd fs:=by simp [zbd]
  rcases List.mem_cons.mp h with rfl | h
  ·omega
  ·have:=zd5 h
   omega
def fsz (zs:List Str) (fs:List Fm):Nat:=(fs.map fun g=>fwz zs g+1).sum
theorem fsz_mem {zs:List Str}:∀ {fs:List Fm} {g:Fm},g∈fs→fwz zs g≤fsz zs fs
 | a :: fs,g,h=>by
  have e:fsz zs (a :: fs)=fwz zs a+1+fsz zs fs:=by simp [fsz]
  rcases List.mem_cons.mp h with rfl | h
  ·omega
  ·have:=fsz_mem (zs:=zs) h
   omega
theorem zeO {zs:List Str} (a b:List Fm):fsz zs (a++b)=fsz zs a+fsz zs b:=by simp [fsz]
theorem zgu {zs:List Str} (g:Fm):fsz zs [g]=fwz zs g+1:=by simp [fsz]
def zcN:List Nat:=[98,120,102,122]
structure GdZ (z:Str):Prop where
 l1:1≤z.length
 l8:z.length≤8
 ab:∀ c∈z.cps.toList,c∈zcS.cps.toList
 mr:∃ c∈z.cps.toList,c∈zcN
theorem zc5 (a b:Str):(a++b).cps.toList=a.cps.toList++b.cps.toList:=by
 show(a.cps++b.cps).toList=_
 exact Array.toList_append
theorem zc4 (a:Str):a.cps.toList.length=a.length:=by simp [Str.length]
theorem zh0 {x:Str} {j:Int} (h0:0≤j):(Txt.slice x none (some j)).cps.toList=x.cps.toList.take j.toNat:=by
 by_cases h:j≤x.cps.toList.length
 ·have e:=eq_of_beq (PyProof.Rows.slice_closes_to (x:=x) ⟨h0,h⟩)
  rw[e]
  simp
 ·have e:Txt.slice x none (some j)=x:=by
   have hn:(x.length:Int)≤j:=by rw[zc4]at h;omega
   have hz:(Builtin.Str.strSliceIndices none (some j) 1 x.length).length=x.length:=by
    unfold Builtin.Str.strSliceIndices
    simp only[show(1:Int) > 0 by decide,if_true]
    have e1:¬j < 0:=by omega
    simp only[e1,if_false]
    have e2:max 0 (min j (x.length:Int))=((x.length:Nat):Int):=by omega
    rw[e2]
    have e3:sliceRange 0 ((x.length:Nat):Int) 1=(List.range (x.length - 0)).map (0+·):=sliceRange_one 0 x.length
    rw[e3]
    simp
   unfold Txt.slice
   rw[if_pos (by rw[hz];simp)]
  rw[e,List.take_of_length_le (by omega)]
theorem zgT {x:Str} {j:Int} (h0:0≤j):(Txt.slice x (some j) none).cps.toList=x.cps.toList.drop j.toNat:=by
 by_cases h:j≤x.length
 ·rw[PyProof.Rows.slice_from_eq h0 h rfl]
  show(x.cps.toList.drop j.toNat).take ((x.length:Int) - j).toNat=_
  rw[List.take_of_length_le]
  rw[List.length_drop,zc4]
  omega
 ·rw[PyProof.Rows.slice_beyond (by omega),List.drop_eq_nil_of_le (by rw[zc4];omega)]
  rfl
theorem zi0 {α:Type} {xs:List α} {i:Int} {c:α} (h:atI xs i=some c):c∈xs:=by
 obtain⟨j,_,h2,_⟩:=zc9 h
 exact List.mem_of_getElem? h2
theorem gd_of {y:Str} {at_:Int} {c:Nat} (h0:0≤at_) (hy:y.length≤7) (ha:∀ c∈y.cps.toList,c∈zcS.cps.toList) (hc:c∈zcN) (hca:c∈zcS.cps.toList):GdZ (Txt.slice y none (some at_)++⟨#[c]⟩++Txt.slice y (some at_) none):=by
 have e:(Txt.slice y none (some at_)++⟨#[c]⟩++Txt.slice y (some at_) none).cps.toList=y.cps.toList.take at_.toNat++[c]++y.cps.toList.drop at_.toNat:=by
  rw[zc5,zc5,zh0 h0,zgT h0]
 have hl:(Txt.slice y none (some at_)++⟨#[c]⟩++Txt.slice y (some at_) none).length=y.length+1:=by
  rw[←zc4,e,List.length_append,List.length_append,List.length_take,List.length_drop,zc4]
  simp only[List.length_singleton]
  omega
 refine⟨by omega,by omega,fun d hd=>?_,c,by rw[e];simp,hc⟩
 rw[e]at hd
 rcases List.mem_append.mp hd with hd | hd
 ·rcases List.mem_append.mp hd with hd | hd
  ·exact ha d (List.mem_of_mem_take hd)
  ·rw[List.mem_singleton.mp hd]
   exact hca
 ·exact ha d (List.mem_of_mem_drop hd)
section
variable {P:Program} {w:World} {K:W.Frag} {mg:Str→Option Value} {base:Heap} {aB aO:Addr} {f fF fM fW:Addr} {fd dF dM dW:FuncData}
def zcz (K:W.Frag):Sp:=fun vs H Q _=>∃(fs:List Fm) (l:Addr) (xs:List V),vs=[.ref l]∧SqL K H l xs∧HasL K H (fs.map dFm) xs∧(∀ g∈fs,FOk g∧fdp g≤20)∧zbd fs≤100000∧fs.length≤100∧∀ H',ai H H'→Q (.str (zbZ fs)) H'
theorem zh3:zad ["formulas"] ["formulas"] (aj s_shown):=⟨rfl,rfl,rfl,by decide +kernel,rfl,by decide +kernel,by decide +kernel⟩
theorem ok_shown (F:Fun K "shown" "shown" s_shown f fd) (BF:FB P w K mg base CX0 39 "shown_formula" fF dF ["formula"] (zea K 20)):FnOk P w K mg base CX0 40 f fd ["formulas"] (zcz K):=by
 refine F.ok zh3 (fun vs H Q E h=>?_) (fun cdv A outer s H vs Q E hr h=>?_)
 ·obtain⟨fs,l,xs,rfl,_⟩:=h
  rfl
 obtain⟨fs,l,xs,rfl,hl,hx,ok,hw,hn,q⟩:=h
 refine⟨_,(ag (ar (zbl PySem.F.plainAttrs_str PySem.F.slot_str_join PySem.F.type_str_join zca ak (aa (zcL (N':=["formula"]) (ix:=[]) rfl rfl (by decide +kernel) (by decide +kernel) rfl (fun _=>⟨[],za2 (by decide +kernel) (by decide +kernel)⟩) (by decide +kernel) rfl rfl (fun j i h=>by simp at h) (za6 (pv 0)) (fun _ _ _ _=>(am zac (ao BF.ok hr rfl BF.m BF.kp BF.b .nil ap (aa (pv 0) ac)) ak))) ac)))),?_⟩
 have xl:xs.length=fs.length:=by rw[←hx.length,List.length_map]
 have la:=zd4 fs
 refine⟨rfl,_,rfl,l,rfl,⟨_,hl⟩,fun D hD=>zbR za5 (fun i us H'=>ai H H'∧us=((fs.map fun g=>zay g++"\n").take i).map V.str) (fun i us H' ⟨s4,_⟩=>s4.seq hl) ⟨ah hD _,rfl⟩ ?_ ?_⟩
 ·rintro i us H8 x H4 hi hly hDs ⟨s4,rfl⟩ ⟨rfl,hx'⟩
  obtain⟨u,hu',hux⟩:=fms_get (hx.keep s4.kt (zae _)) (hx' _ (s4.seq hl))
  have um:=List.mem_of_getElem? hu'
  obtain⟨o1,o2⟩:=ok u um
  have uw:=zd5 um
  have ul:=ftxt_len u
  have hu2:(fs.map fun g=>zay g++"\n")[i]?=some (zay u++"\n"):=by rw[List.getElem?_map,hu'];rfl
  refine⟨_,rfl,u,_,rfl,hux,o2,o1,by omega,fun H5 s5=>⟨_,_,rfl,rfl,szM (by rw[nl1];omega),zbc (szM (by omega)) hi hly (s5 _ _ hDs) ⟨(s4.trans s5).upd hD,?_⟩⟩⟩
  rw[zaF hu2,List.map_append]
  rfl
 rintro us H4 hDs ⟨s4,rfl⟩
 rw[List.take_of_length_le (by rw[List.length_map,xl];exact Nat.le_refl _)]at hDs
 exact⟨"",D,_,rfl,rfl,SqL.of hDs,szM (by rw[e0];omega),q H4 s4⟩
theorem zf3:zad ["_law_formulas_here"] ["_law_formulas_here"] (aj s__law_text):=⟨rfl,rfl,rfl,by decide +kernel,rfl,by decide +kernel,by decide +kernel⟩
theorem ok_ltext (F:Fun K "_law_text" "_law_text" s__law_text f fd) (BF:FB P w K mg base CX0 39 "_law_formula_text" fF dF ["_law_formula"] (zea K 20)):FnOk P w K mg base CX0 40 f fd ["_law_formulas_here"] (zcz K):=by
 refine F.ok zf3 (fun vs H Q E h=>?_) (fun cdv A outer s H vs Q E hr h=>?_)
 ·obtain⟨fs,l,xs,rfl,_⟩:=h
  rfl
 obtain⟨fs,l,xs,rfl,hl,hx,ok,hw,hn,q⟩:=h
 refine⟨_,(ag (ar (zbl PySem.F.plainAttrs_str PySem.F.slot_str_join PySem.F.type_str_join zca ak (aa (zcL (N':=["_law_formula"]) (ix:=[]) rfl rfl (by decide +kernel) (by decide +kernel) rfl (fun _=>⟨[],za2 (by decide +kernel) (by decide +kernel)⟩) (by decide +kernel) rfl rfl (fun j i h=>by simp at h) (za6 (pv 0)) (fun _ _ _ _=>(am zac (ao BF.ok hr rfl BF.m BF.kp BF.b .nil ap (aa (pv 0) ac)) ak))) ac)))),?_⟩
 have xl:xs.length=fs.length:=by rw[←hx.length,List.length_map]
 have la:=zd4 fs
 refine⟨rfl,_,rfl,l,rfl,⟨_,hl⟩,fun D hD=>zbR za5 (fun i us H'=>ai H H'∧us=((fs.map fun g=>zay g++"\n").take i).map V.str) (fun i us H' ⟨s4,_⟩=>s4.seq hl) ⟨ah hD _,rfl⟩ ?_ ?_⟩
 ·rintro i us H8 x H4 hi hly hDs ⟨s4,rfl⟩ ⟨rfl,hx'⟩
  obtain⟨u,hu',hux⟩:=fms_get (hx.keep s4.kt (zae _)) (hx' _ (s4.seq hl))
  have um:=List.mem_of_getElem? hu'
  obtain⟨o1,o2⟩:=ok u um
  have uw:=zd5 um
  have ul:=ftxt_len u
  have hu2:(fs.map fun g=>zay g++"\n")[i]?=some (zay u++"\n"):=by rw[List.getElem?_map,hu'];rfl
  refine⟨_,rfl,u,_,rfl,hux,o2,o1,by omega,fun H5 s5=>⟨_,_,rfl,rfl,szM (by rw[nl1];omega),zbc (szM (by omega)) hi hly (s5 _ _ hDs) ⟨(s4.trans s5).upd hD,?_⟩⟩⟩
  rw[zaF hu2,List.map_append]
  rfl
 rintro us H4 hDs ⟨s4,rfl⟩
 rw[List.take_of_length_le (by rw[List.length_map,xl];exact Nat.le_refl _)]at hDs
 exact⟨"",D,_,rfl,rfl,SqL.of hDs,szM (by rw[e0];omega),q H4 s4⟩
theorem zbp (a:Int) {b:Int} (h:0 < b):0≤a % b∧a % b < b:=⟨Int.emod_nonneg _ (by omega),Int.emod_lt_of_pos _ h⟩
def zdK (K:W.Frag):Sp:=fun vs H Q _=>∃(a:Addr) (ns:List Int) (k:Int),vs=[.ref a,.int k]∧SqL K H a (ns.map V.int)∧0≤k∧∀ i:Int,Q (.int i) H
theorem zew:zad ["_law_script","_law_k"] ["_law_script","_law_k"] (aj s__law_cell_at):=⟨rfl,rfl,rfl,by decide +kernel,rfl,by decide +kernel,by decide +kernel⟩
theorem ok_cell (F:Fun K "_law_cell_at" "_law_cell_at" s__law_cell_at f fd) (T:Txt K mg aB aO):FnOk P w K mg base CX0 1 f fd ["_law_script","_law_k"] (zdK K):=by
 refine F.ok zew (fun vs H Q E h=>?_) (fun cdv A outer s H vs Q E hr h=>?_)
 ·obtain⟨a,ns,k,rfl,_⟩:=h
  rfl
 obtain⟨a,ns,k,rfl,hS,k0,q⟩:=h
 refine⟨_,(ae (zai (zaa zgM (pv 1) (zaI za0 rfl T.len PySem.boot_len (aa (pv 0) ac)) (zag _))
   (ag (ar (av zap (pv 0) (pv 1) (fun _ _=>rfl))))
   zab)
  (ag (ar ad))),?_⟩
 refine⟨_,rfl,_,rfl,a,_,rfl,.inl hS,_,_,rfl,rfl,_,rfl,zal (fun c=>?_) (fun c=>?_)⟩
 ·have hc:k < ((ns.map V.int).length:Nat):=of_decide_eq_true c
  obtain⟨x,hx⟩:=zhu (xs:=ns.map V.int) k0 hc
  obtain⟨j,_,hj,_⟩:=zc9 hx
  rw[List.getElem?_map]at hj
  cases e:ns[j]? with
  | none=>rw[e]at hj;cases hj
  | some n =>
   rw[e]at hj
   cases hj
   exact⟨_,rfl,_,rfl,a,_,_,_,rfl,rfl,hS,hx,q n⟩
 ·exact q 0
def zbe:Sp:=fun vs H Q _=>∃ c k:Int,vs=[.int c,.int k]∧∀ i:Int,Q (.int i) H
theorem zdo:zad ["_law_cell","_law_k","_law_mix"] ["_law_cell","_law_k"] (aj s__law_mixed):=⟨rfl,rfl,rfl,by decide +kernel,rfl,by decide +kernel,by decide +kernel⟩
theorem ok_mixed (F:Fun K "_law_mixed" "_law_mixed" s__law_mixed f fd):FnOk P w K mg base CX0 1 f fd ["_law_cell","_law_k"] zbe:=by
 refine F.ok zdo (fun vs H Q E h=>?_) (fun cdv A outer s H vs Q E hr h=>?_)
 ·obtain⟨c,k,rfl,_⟩:=h
  rfl
 obtain⟨c,k,rfl,q⟩:=h
 refine⟨_,(ae (zah (i:=2) zdo.nd rfl (Or.inl rfl) (am zaq (am zem (am zbO (am zbO (pv 0) (am zem ad (pv 1))) ad) ad) ad))
  (ag (ar (am zaq (am zbO (am zem (pv 2) (pv 2)) (am zem ad (pv 2))) ad)))),?_⟩
 have b:=zbp ((c+7919 * k+11) * 48271) (show(0:Int) < 2147483647 by decide)
 exact⟨_,rfl,_,rfl,_,_,rfl,rfl,.inl ⟨by decide,by decide⟩,_,_,rfl,rfl,_,_,rfl,rfl,_,_,rfl,rfl,.inr ⟨by decide,by decide⟩,_,_,rfl,rfl,(by show(0:Int) < 2147483647;decide),_,rfl,_,rfl,_,_,rfl,rfl,.inl ⟨by omega,by omega⟩,_,rfl,_,_,rfl,rfl,.inl ⟨by decide,by decide⟩,_,_,rfl,rfl,_,_,rfl,rfl,(by show(0:Int) < 2147483399;decide),q _⟩
def zge:Sp:=fun vs H Q _=>∃ c n:Int,vs=[.int c,.int n]∧0≤n∧n≤8∧∀(z:Str),(z.length:Int)=n→(∀ c∈z.cps.toList,c∈zcS.cps.toList)→Q (.str z) H
theorem zbz:zad ["_law_cell","_law_size","_law_letters","_law_word_here","_law_k"] ["_law_cell","_law_size"] (aj s__law_word):=⟨rfl,rfl,rfl,by decide +kernel,rfl,by decide +kernel,by decide +kernel⟩
theorem ok_word (F:Fun K "_law_word" "_law_word" s__law_word f fd) (T:Txt K mg aB aO) (BM:FB P w K mg base CX0 1 "_law_mixed" fM dM ["_law_cell","_law_k"] zbe):FnOk P w K mg base CX0 2 f fd ["_law_cell","_law_size"] zge:=by
 refine F.ok zbz (fun vs H Q E h=>?_) (fun cdv A outer s H vs Q E hr h=>?_)
 ·obtain⟨c,n,rfl,_⟩:=h
  rfl
 obtain⟨c,n,rfl,h0,h8,q⟩:=h
 refine⟨_,(ae (zah (i:=2) zbz.nd rfl (Or.inl rfl) ak)
  (ae (zah (i:=3) zbz.nd rfl (Or.inl rfl) ak)
  (ae (zaY PassesOwn.never rfl (zbj rfl T.range (aa (pv 1) ac)) (zaA (i:=4) zbz.nd rfl (Or.inl rfl))
   (ag (zah (i:=3) zbz.nd rfl (Or.inl rfl) (am zac (pv 3) (av zhj (pv 2) (am zaq (am zaT (ao BM.ok hr rfl BM.m BM.kp BM.b .nil ap (aa (pv 0) (aa (pv 4) ac))) ad) ad) (fun _ _=>rfl))))))
  (ag (ar (pv 3)))))),?_⟩
 refine⟨_,rfl,n,rfl,by omega,by omega,zby (lo:=0) (n:=n.toNat) (fun i σ H'=>H'=H∧∃(y:Str) (k:Option V),σ=[some (.int c),some (.int n),some (.str zcS),some (.str y),k]∧y.length=i∧∀ c∈y.cps.toList,c∈zcS.cps.toList)
  ⟨rfl,"",none,rfl,by decide +kernel,by decide +kernel⟩ ?_ ?_⟩
 ·rintro i σ H' hi ⟨rfl,y,k,rfl,hy,hya⟩
  refine⟨_,rfl,_,rfl,_,rfl,_,rfl,c,_,rfl,fun mx=>?_⟩
  have m:=zbp (mx / 31) (show(0:Int) < 26 by decide)
  obtain⟨ch,hch⟩:=zhu (xs:=zcS.cps.toList) m.1 (by rw[ziw];exact m.2)
  refine⟨_,_,rfl,rfl,⟨by decide,by decide⟩,_,_,rfl,rfl,(by show(0:Int) < 26;decide),zcS,_,ch,rfl,rfl,szS (by decide +kernel),hch,y,_,rfl,rfl,szS (by rw[zdj];omega),rfl,_,_,rfl,?_,fun d hd=>?_⟩
  ·rw[zf1,zdj,hy]
  ·rw[zc5]at hd
   rcases List.mem_append.mp hd with hd | hd
   ·exact hya d hd
   ·rw[List.mem_singleton.mp hd]
    exact zi0 hch
 ·rintro σ H' ⟨rfl,y,k,rfl,hy,hya⟩
  exact⟨_,rfl,q y (by omega) hya⟩
def D3 (zs:List Str):Prop:=∃ z0 z1 z2 z3:Str,zs=[z0,z1,z2,z3]∧z0≠z1∧z0≠z2∧z1≠z2
def nmF (a b:Str) (c:Nat):Str:=a++⟨#[c]⟩++b
theorem zgq (a b:Str) (c:Nat):(nmF a b c).cps.toList=a.cps.toList++c :: b.cps.toList:=by
 unfold nmF
 rw[zc5,zc5,List.append_assoc]
 rfl
theorem zfr {a b:Str} {c d:Nat} (h:c≠d):nmF a b c≠nmF a b d:=fun e=>by
 have e':=congrArg (fun z:Str=>z.cps.toList) e
 simp only[zgq]at e'
 have:=List.append_cancel_left e'
 injection this with h1 _
 exact h h1
theorem nmF_x {a b z:Str} {c:Nat} (h:c∉z.cps.toList):nmF a b c≠z:=fun e=>h (by rw[←e,zgq];simp)
def bx:List Nat:=[98,120,102,122]
theorem bx_eq:("bxfz":Str).cps.toList=bx:=by decide +kernel
def zdZ:Sp:=fun vs H Q _=>∃ c:Int,vs=[.int c]∧∀(H':Hp) (l:Addr) (zs:List Str),ai H H'→H l=none→H' l=some (.lst (zs.map V.str))→zs.length=4→(∀ z∈zs,GdZ z)→D3 zs→Q (.ref l) H'
theorem zbo:zad ["_law_cell","_law_base","_law_at","_law_names_here"] ["_law_cell"] (aj s__law_names):=⟨rfl,rfl,rfl,by decide +kernel,rfl,by decide +kernel,by decide +kernel⟩
theorem zgd {zs:List Str} {i:Nat} (h:i < zs.length):∃ z∈zs,atI (zs.map V.str) (i:Int)=some (.str z) :=
 ⟨zs[i],List.getElem_mem h,zat (by rw[List.getElem?_map,List.getElem?_eq_getElem h];rfl)⟩
set_option maxHeartbeats 1000000 in
theorem ok_names (F:Fun K "_law_names" "_law_names" s__law_names f fd) (BW:FB P w K mg base CX0 2 "_law_word" fW dW ["_law_cell","_law_size"] zge):FnOk P w K mg base CX0 3 f fd ["_law_cell"] zdZ:=by
 refine F.ok zbo (fun vs H Q E h=>?_) (fun cdv A outer s H vs Q E hr h=>?_)
 ·obtain⟨c,rfl,_⟩:=h
  rfl
 obtain⟨c,rfl,q⟩:=h
 refine⟨_,(ae (zah (i:=1) zbo.nd rfl (Or.inr rfl) (ao BW.ok hr rfl BW.m BW.kp BW.b .nil ap (aa (pv 0) (aa (am zaq (pv 0) ad) ac))))
  (ae (zah (i:=2) zbo.nd rfl (Or.inr rfl) (am zaq (am zaT (pv 0) ad) ad))
  (ae (zcc (i:=3) (N':=["_law_letter","_law_base","_law_at"]) (ix:=[1,2]) zbo.nd rfl (Or.inl rfl) rfl rfl (by decide +kernel) (by decide +kernel) rfl (fun ok=>zhr (sc:=aj s__law_names) ok rfl (by decide +kernel) (by decide +kernel)) (by decide +kernel) rfl rfl (fun j i h=>match j,h with | 0,h=>by cases h;exact⟨_,rfl,rfl,.inl rfl,.inl rfl⟩ | 1,h=>by cases h;exact⟨_,rfl,rfl,.inl rfl,.inl rfl⟩ | n+2,h=>by simp at h) (zhc ak) (fun _ _ _ _=>(am zac (am zac (zbg zeg (pv 1) zbF (zbi (pv 2))) (pv 0)) (zbg zeg (pv 1) (zbi (pv 2)) zbF))))
  (ae (zai (zaa zas (am zaq (am zaT (pv 0) ad) ad) ad (zag _))
   (ag (zah (i:=3) zbo.nd rfl (Or.inl rfl) (zaG (aa ak (aa (av zap (pv 3) ad (fun _ _=>rfl)) (aa ak (aa (av zap (pv 3) ad (fun _ _=>rfl)) ac)))))))
   zab)
  (ag (ar (pv 3))))))),?_⟩
 have b7:=zbp c (show(0:Int) < 7 by decide)
 have b8:=zbp (c / 8) (show(0:Int) < 8 by decide)
 refine⟨_,rfl,_,rfl,_,_,rfl,rfl,(by show(0:Int) < 7;decide),c,c % 7,rfl,by omega,by omega,fun y hyl hya=>?_⟩
 have hy:y.length≤8:=by omega
 refine⟨_,rfl,_,_,rfl,rfl,⟨by decide,by decide⟩,_,_,rfl,rfl,(by show(0:Int) < 8;decide),?_⟩
 have k1:(Txt.slice y none (some (c / 8 % 8))).length≤8:=zgA hy
 have k2:(Txt.slice y (some (c / 8 % 8)) none).length≤8:=zgA hy
 have e4:(("bxfz":Str)).length=4:=by decide +kernel
 refine⟨_,rfl,fun D hD=>⟨fun i m ys H'=>m=4 - i∧i≤4∧(∃ zs:List Str,zs.length=i∧(∀ z∈zs,GdZ z)∧ys=zs.map V.str∧zs=(bx.take i).map (nmF (Txt.slice y none (some (c / 8 % 8))) (Txt.slice y (some (c / 8 % 8)) none)))∧H'=upd H D (.lst ys),⟨4,rfl,Nat.zero_le _,⟨[],rfl,(fun z hz=>nomatch hz),rfl,rfl⟩,rfl⟩,?_⟩⟩
 rintro i m ys H' ⟨rfl,hi,⟨zs,hzl,hzg,rfl,hzm⟩,rfl⟩
 refine⟨af,?_⟩
 by_cases hlt:i < 4
 ·refine .inr ⟨(show i < (("bxfz":Str)).length by rw[e4];exact hlt),fun x H'' y'=>?_⟩
  obtain⟨rfl,ch,hch,rfl⟩:=y'
  refine⟨_,rfl,_,rfl,_,rfl,y,rfl,szS (by omega),_,rfl,_,_,rfl,rfl,szS (by rw[zdj];omega),?_⟩
  refine⟨_,rfl,_,rfl,_,rfl,y,rfl,szS (by omega),_,_,rfl,rfl,szS (by rw[zf1,zdj];omega),af,?_,4 - (i+1),by omega,rfl,hlt,⟨zs++[Txt.slice y none (some (c / 8 % 8))++⟨#[ch]⟩++Txt.slice y (some (c / 8 % 8)) none],?_,?_,?_,?_⟩,zgb⟩
  ·rw[List.length_map,hzl]
   exact Nat.lt_of_lt_of_le hlt (by decide)
  ·rw[List.length_append,hzl];rfl
  ·intro z hz
   rcases List.mem_append.mp hz with hz | hz
   ·exact hzg z hz
   ·rw[List.mem_singleton.mp hz]
    have cm:ch∈("bxfz":Str).cps.toList:=List.mem_of_getElem? (i:=i) (by rw[Array.getElem?_toList];exact hch)
    have two:∀ c∈("bxfz":Str).cps.toList,c∈zcN∧c∈zcS.cps.toList:=by decide +kernel
    exact gd_of b8.1 (by omega) hya (two ch cm).1 (two ch cm).2
  ·rw[List.map_append];rfl
  ·have hb:bx[i]?=some ch:=by rw[←bx_eq,Array.getElem?_toList];exact hch
   rw[zaF hb,List.map_append,←hzm]
   rfl
 ·have hi4:i=4:=by omega
  subst hi4
  refine .inl ⟨(show(("bxfz":Str)).length≤4 by rw[e4];exact Nat.le_refl _),?_⟩
  have s1:ai H (upd H D (.lst (zs.map V.str))):=ah hD _
  have n1:=af (H:=H) (a:=D) (o:=.lst (zs.map V.str))
  generalize upd H D (.lst (zs.map V.str))=H1 at s1 n1
  generalize Txt.slice y none (some (c / 8 % 8))=ya at hzm
  generalize Txt.slice y (some (c / 8 % 8)) none=yb at hzm
  have hz4:zs=[nmF ya yb 98,nmF ya yb 120,nmF ya yb 102,nmF ya yb 122]:=hzm
  refine⟨_,rfl,_,_,rfl,rfl,⟨by decide,by decide⟩,_,_,rfl,rfl,(by show(0:Int) < 3;decide),rfl,_,rfl,zal (fun _=>?_) (fun _=>?_)⟩
  ·have a1:atI (zs.map V.str) 1=some (.str (nmF ya yb 120)):=by rw[hz4];exact zat (j:=1) rfl
   have m1:nmF ya yb 120∈zs:=by rw[hz4];simp
   obtain⟨z3,m3,a3⟩:=zgd (zs:=zs) (i:=3) (by omega)
   refine⟨_,rfl,D,_,_,_,rfl,rfl,SqL.of n1,a1,_,rfl,D,_,_,_,rfl,rfl,SqL.of n1,a3,lS4,fun l hl=>⟨_,rfl,?_⟩⟩
   refine q _ l ["za",nmF ya yb 120,"zc",z3] (s1.trans (ah hl _)) (s1.free hl) af rfl (fun z hz=>?_) ⟨_,_,_,_,rfl,(nmF_x (by decide +kernel)).symm,by decide +kernel,nmF_x (by decide +kernel)⟩
   simp only[List.mem_cons,List.not_mem_nil,or_false]at hz
   rcases hz with rfl | rfl | rfl | rfl
   ·exact⟨by decide +kernel,by decide +kernel,by decide +kernel,by decide +kernel⟩
   ·exact hzg _ m1
   ·exact⟨by decide +kernel,by decide +kernel,by decide +kernel,by decide +kernel⟩
   ·exact hzg _ m3
  ·exact⟨_,rfl,q _ D zs s1 hD n1 hzl hzg ⟨_,_,_,_,hz4,zfr (by decide),zfr (by decide),zfr (by decide)⟩⟩
end
end F72
namespace F72
open PySem L2
def W:Nat→Nat
 | 0=>22
 | d+1=>22+3 * (W d+2)
theorem zhQ (xs:List V):zbK xs none (some 1)=xs.take 1:=by
 cases xs with
 | nil=>rfl
 | cons a t =>
  have:HT.sIx (a :: t).length (a :: t).length (some 1)=1:=by
   simp [HT.sIx]
  unfold zbK
  rw[this]
  simp [HT.sIx]
theorem HasL.rep {K:W.Frag} {H:Hp} {ds:List Dt} {vs:List V} (h:HasL K H ds vs):∀ n:Nat,HasL K H (List.replicate n ds).flatten (List.replicate n vs).flatten
 | 0=>HasL.nil
 | n+1=>by
  rw[List.replicate_succ,List.replicate_succ,List.flatten_cons,List.flatten_cons]
  exact h.append (HasL.rep h n)
theorem HasL.take {K:W.Frag} {H:Hp}:∀ {ds:List Dt} {vs:List V} (n:Nat),HasL K H ds vs→HasL K H (ds.take n) (vs.take n)
 | _,_,0,_=>HasL.nil
 | [],vs,n+1,h=>by
  simp only[HasL]at h
  subst h
  exact HasL.nil
 | d :: ds,vs,n+1,h=>by
  simp only[HasL]at h
  obtain⟨v,r,rfl,h1,h2⟩:=h
  exact .cons h1 (HasL.take n h2)
theorem zh7 (n:Nat) (ts:List Tr):(List.replicate n (ax ts)).flatten=ax (List.replicate n ts).flatten:=by
 induction n with
 | zero=>rfl
 | succ n ih=>rw[List.replicate_succ,List.replicate_succ,List.flatten_cons,List.flatten_cons,ih,dTrs_map,dTrs_map,dTrs_map,List.map_append]
theorem take_dTrs (n:Nat) (ts:List Tr):(ax ts).take n=ax (ts.take n):=by rw[dTrs_map,dTrs_map,List.map_take]
section
variable {P:Program} {w:World} {K:W.Frag} {mg:Str→Option Value} {base:Heap} {aB aO:Addr} {f fM:Addr} {fd dM:FuncData}
def zaV (H:Hp) (nl:Addr) (zs:List Str):Prop:=H nl=some (.lst (zs.map V.str))∧zs.length=4∧∀ z∈zs,z.length≤20
theorem zaV.same {H H':Hp} {nl:Addr} {zs:List Str} (h:zaV H nl zs) (s:ai H H'):zaV H' nl zs:=⟨s _ _ h.1,h.2⟩
theorem zaV.get {H:Hp} {nl:Addr} {zs:List Str} (h:zaV H nl zs) (c:Int):∃ z,atI (zs.map V.str) (c % 4)=some (.str z)∧z.length≤20∧z∈zs:=by
 have b:=zbp c (show(0:Int) < 4 by decide)
 have e:c % 4=(((c % 4).toNat:Nat):Int):=by omega
 obtain⟨z,hz,ha⟩:=zgd (zs:=zs) (i:=(c % 4).toNat) (by rw[h.2.1];omega)
 rw[←e]at ha
 exact⟨z,ha,h.2.2 z hz,hz⟩
def zcy (K:W.Frag) (n:Nat):Sp:=fun vs H Q _=>∃(c:Int) (nl:Addr) (zs:List Str) (d:Nat),vs=[.int c,.ref nl,.int (d:Int)]∧zaV H nl zs∧d < n∧∀(H':Hp) (p:Addr) (t:Tr),ai H H'→Has K H' (dTr t) (.ref p)→dp t≤d+1→wz zs t≤W d→Q (.ref p) H'
theorem zbA:zad ["_law_cell","_law_names_here","_law_deep_here","_law_many","_law_inner"] ["_law_cell","_law_names_here","_law_deep_here"] (aj s__law_tree):=⟨rfl,rfl,rfl,by decide +kernel,rfl,by decide +kernel,by decide +kernel⟩
theorem tree4 (T:Txt K mg aB aO) {cdv:Value} {A:Around} {outer:List Env} {s:Shared} {H0:Hp} {E:XK} :
  ∃ t,PSs (zbv CX0 P w K mg base ["_law_cell","_law_names_here","_law_deep_here","_law_many","_law_inner"] "_law_tree" (aj s__law_tree) f cdv A outer s H0 E).nox ((zax s__law_tree).drop 4) t ∧
   ∀(Dn:zba) (H:Hp) (c:Int) (nl:Addr) (zs:List Str) (v2 v3:Option V) (l:Addr) (xs:List V) (ts:List Tr) (d:Nat),zaV H nl zs→H l=some (.lst xs)→HasL K H (ax ts) xs→dps ts≤d→ts.length≤3→22+wzs zs ts≤W d →
    (∀(H':Hp) (p:Addr) (t:Tr),ai H H'→Has K H' (dTr t) (.ref p)→dp t≤d+1→wz zs t≤W d→Dn.rt (.ref p) H') →
    t Dn [some (.int c),some (.ref nl),v2,v3,some (.ref l)] H:=by
 refine⟨_,(ag (ar (zaf (aa (av zap (pv 1) (am zaq (pv 0) ad) (fun _ _=>rfl)) (aa (zbx zcm rfl T.tuple PyProof.Rows.Boot.tuple (aa (pv 4) ac)) ac))))),?_⟩
 intro Dn H c nl zs v2 v3 l xs ts d hN hl hx hd t3 hw q
 obtain⟨z,hz,z20,zin⟩:=hN.get c
 refine⟨_,rfl,_,rfl,_,_,rfl,rfl,(by show(0:Int) < 4;decide),nl,_,_,_,rfl,rfl,SqL.of hN.1,hz,_,rfl,l,_,rfl,.inl ⟨SqL.of hl,fun l2 hl2=>⟨lS2,fun p hp=>?_⟩⟩⟩
 have s1:ai H (upd H l2 (.tup xs)):=ah hl2 _
 have s2:ai (upd H l2 (.tup xs)) (upd (upd H l2 (.tup xs)) p (.tup [.str z,.ref l2])):=ah hp _
 have s12:=s1.trans s2
 refine q _ p (.node z ts) s12 (of_tr (SqT.of af) (SqT.of (s2 _ _ af)) (hx.keep s12.kt (nols_dTrs _))) ?_ ?_
 ·simp only[dp]
  omega
 ·simp only[wz]
  rw[if_pos ⟨zin,t3⟩]
  omega
theorem fin_w {zs:List Str} {ts:List Tr} {d:Nat} (h3:ts.length≤3) (h0:d=0→ts=[]) (hw:∀ t∈ts,wz zs t≤W (d - 1)):22+wzs zs ts≤W d:=by
 cases d with
 | zero=>rw[h0 rfl];simp [wzs,W]
 | succ d =>
  have h:=zey hw
  rw[Nat.add_sub_cancel]at h
  have h2:=Nat.mul_le_mul_left (W d+2) h3
  simp only[W]
  omega
set_option maxHeartbeats 1000000 in
theorem tree2 {n:Nat} (T:Txt K mg aB aO) (IH:FnOk P w K mg base CX0 (n+1) f fd ["_law_cell","_law_names_here","_law_deep_here"] (zcy K n)) (b:aq K fd ["_law_cell","_law_names_here","_law_deep_here"] []) (kp:W.keepIn K (.ref f)=true) (m:mg "_law_tree"=some (.ref f))
  (BM:FB P w K mg base CX0 1 "_law_mixed" fM dM ["_law_cell","_law_k"] zbe) {cdv:Value} {A:Around} {outer:List Env} {s:Shared} {H0:Hp} {E:XK} (hr:aw (n+1) (A.deeper (PyProof.Rows.envOfC "_law_tree" (aj s__law_tree) s.heap.objs.size f cdv))) :
  ∃ t,PSs (zbv CX0 P w K mg base ["_law_cell","_law_names_here","_law_deep_here","_law_many","_law_inner"] "_law_tree" (aj s__law_tree) f cdv A outer s H0 E).nox ((zax s__law_tree).drop 2) t ∧
   ∀(Dn:zba) (H:Hp) (c:Int) (nl:Addr) (zs:List Str) (d mn:Nat),zaV H nl zs→d < n+1→mn≤3→(mn=0∨1≤d) →
    (∀(H':Hp) (p:Addr) (t:Tr),ai H H'→Has K H' (dTr t) (.ref p)→dp t≤d+1→wz zs t≤W d→Dn.rt (.ref p) H') →
    t Dn [some (.int c),some (.ref nl),some (.int (d:Int)),some (.int (mn:Int)),none] H:=by
 have hr1:aw 1 _:=hr.mono (by omega)
 obtain⟨t4,h4,q4⟩:=tree4 (f:=f) (P:=P) (w:=w) (base:=base) (cdv:=cdv) (A:=A) (s:=s) (outer:=outer) (H0:=H0) (E:=E) T
 refine⟨_,(ae (zcc (i:=4) (N':=["_law_k","_law_names_here","_law_cell","_law_deep_here"]) (ix:=[1,0,2]) zbA.nd rfl (Or.inl rfl) rfl rfl (by decide +kernel) (by decide +kernel) rfl (fun ok=>zhr (sc:=aj s__law_tree) ok rfl (by decide +kernel) (by decide +kernel)) (by decide +kernel) rfl rfl (fun j i h=>match j,h with | 0,h=>by cases h;exact⟨_,rfl,rfl,.inl rfl,.inl rfl⟩ | 1,h=>by cases h;exact⟨_,rfl,rfl,.inl rfl,.inl rfl⟩ | 2,h=>by cases h;exact⟨_,rfl,rfl,.inl rfl,.inl rfl⟩ | n+3,h=>by simp at h) (zbj rfl T.range (aa (pv 3) ac)) (fun _ _ _ _=>(ao IH hr rfl m kp b .nil ap (aa (ao BM.ok hr1 rfl BM.m BM.kp BM.b .nil ap (aa (pv 2) (aa (am zbO ad (pv 0)) ac))) (aa (pv 1) (aa (am zds (pv 3) ad) ac))))))
   (ae (zai (zaa zas (am zaq (am zaT (pv 0) ad) ad) ad (zag _))
    (ag (zah (i:=4) zbA.nd rfl (Or.inl rfl) (am op_rep (zbg zeD (pv 4) zbF (zbi ad)) (pv 3))))
    zab) h4)),?_⟩
 intro Dn H c nl zs d mn hN hd m3 md q
 refine⟨_,rfl,_,rfl,by omega,by omega,fun D hD=>zbR zhT (fun i us H'=>ai H H'∧∃ ts:List Tr,HasL K H' (ax ts) us∧ts.length=i∧∀ t∈ts,dp t≤d∧wz zs t≤W (d - 1)) (fun _ _ _ _=>trivial) ⟨ah hD _,[],HasL.nil,rfl,fun t ht=>nomatch ht⟩ ?_ ?_⟩
 ·rintro i us H8 x H4 hi hly hDs ⟨s4,ts,hts,tl,tok⟩ ⟨rfl,rfl⟩
  have hi':i < mn:=by
   have:i < ((mn:Int)).toNat:=hi
   omega
  obtain⟨d',rfl⟩:∃ d',d=d'+1:=⟨d - 1,by omega⟩
  have ed:(((d'+1:Nat):Int) - 1)=(d':Int):=by omega
  refine⟨_,rfl,_,rfl,_,_,rfl,rfl,c,_,rfl,fun mx=>⟨_,rfl,_,rfl,_,_,rfl,rfl,mx,nl,zs,d',congrArg (fun z=>[V.int mx,V.ref nl,V.int z]) ed,hN.same s4,by omega,fun H5 p t s5 ht h1 h2=>?_⟩⟩
  have hDs5:=s5 _ _ hDs
  have kt:=zaR.lst (ys:=us++[.ref p]) hDs5
  refine zbc (szM (by show((mn:Int)).toNat≤16000000;omega)) hi hly hDs5 ⟨(s4.trans s5).upd hD,ts++[t],?_,by rw[List.length_append,tl];rfl,fun u hu=>?_⟩
  ·rw[dTrs_map,List.map_append,←dTrs_map]
   exact HasL.append (hts.keep (s5.kt.trans kt) (nols_dTrs _)) (HasL.one (ht.keep kt (nol_dTr _)))
  ·rcases List.mem_append.mp hu with hu | hu
   ·exact tok u hu
   ·rw[List.mem_singleton.mp hu]
    exact⟨h1,h2⟩
 rintro us H4 hDs ⟨s4,ts,hts,tl,tok⟩
 have tl':ts.length=mn:=by
  have:ts.length=((mn:Int)).toNat:=tl
  omega
 have h0:d=0→ts=[]:=fun e=>List.length_eq_zero_iff.mp (by omega)
 refine⟨_,rfl,_,_,rfl,rfl,⟨by decide,by decide⟩,_,_,rfl,rfl,(by show(0:Int) < 4;decide),rfl,_,rfl,zal (fun _=>?_) (fun _=>?_)⟩
 ·refine⟨_,rfl,_,rfl,D,_,rfl,SqL.of hDs,fun p hp=>?_⟩
  rw[zhQ]
  have s5:ai H4 (upd H4 p (.lst (us.take 1))):=ah hp _
  have n5:=af (H:=H4) (a:=p) (o:=.lst (us.take 1))
  generalize upd H4 p (.lst (us.take 1))=H5 at s5 n5
  have ul:(us.take 1).length≤1:=by rw[List.length_take];omega
  refine⟨_,rfl,p,_,_,rfl,rfl,n5,by omega,by omega,szM ?_,fun p2 hp2=>?_⟩
  ·have:=Nat.mul_le_mul ul (show((mn:Int)).toNat≤3 by omega)
   omega
  rw[show((mn:Int)).toNat=mn by omega]
  have s6:ai H5 (upd H5 p2 (.lst (List.replicate mn (us.take 1)).flatten)):=ah hp2 _
  have s46:=s5.trans s6
  have mem:∀ t∈(List.replicate mn (ts.take 1)).flatten,t∈ts:=fun t ht=>by
   obtain⟨l,hl,hlt⟩:=List.mem_flatten.mp ht
   rw[(List.mem_replicate.mp hl).2]at hlt
   exact List.mem_of_mem_take hlt
  have len:(List.replicate mn (ts.take 1)).flatten.length≤3:=by
   rw[zgr]
   have:(ts.take 1).length≤1:=by rw[List.length_take];omega
   have:=Nat.mul_le_mul m3 this
   omega
  refine q4 Dn _ c nl zs _ _ p2 _ (List.replicate mn (ts.take 1)).flatten d (hN.same (s4.trans s46)) af ?_ (le_dps fun t ht=>(tok t (mem t ht)).1) len (fin_w len (fun e=>?_) fun t ht=>(tok t (mem t ht)).2) fun H' p' t s7=>q H' p' t ((s4.trans s46).trans s7)
  ·rw[←zh7,←take_dTrs]
   exact HasL.rep (HasL.take 1 (hts.keep s46.kt (nols_dTrs _))) mn
  ·rw[h0 e]
   refine List.eq_nil_iff_forall_not_mem.mpr fun t ht=>?_
   obtain⟨l,hl,hlt⟩:=List.mem_flatten.mp ht
   rw[(List.mem_replicate.mp hl).2]at hlt
   simp at hlt
 ·exact q4 Dn H4 c nl zs _ _ D us ts d (hN.same s4) hDs hts (le_dps fun t ht=>(tok t ht).1) (by omega) (fin_w (by omega) h0 fun t ht=>(tok t ht).2) fun H' p' t s7=>q H' p' t (s4.trans s7)
set_option maxHeartbeats 1000000 in
theorem ok_ltr (F:Fun K "_law_tree" "_law_tree" s__law_tree f fd) (T:Txt K mg aB aO) (b:aq K fd ["_law_cell","_law_names_here","_law_deep_here"] []) (kp:W.keepIn K (.ref f)=true) (m:mg "_law_tree"=some (.ref f))
  (BM:FB P w K mg base CX0 1 "_law_mixed" fM dM ["_law_cell","_law_k"] zbe):∀ n,FnOk P w K mg base CX0 (n+1) f fd ["_law_cell","_law_names_here","_law_deep_here"] (zcy K n)
 | 0=>FnOk.no fun _ _ _ _ ⟨_,_,_,_,_,_,h,_⟩=>absurd h (Nat.not_lt_zero _)
 | n+1=>by
  have IH:=ok_ltr F T b kp m BM n
  refine F.ok (k:=n+1) zbA (fun vs H Q E h=>?_) (fun cdv A outer s H vs Q E hr h=>?_)
  ·obtain⟨c,nl,zs,d,rfl,_⟩:=h
   rfl
  obtain⟨c,nl,zs,d,rfl,hN,hd,q⟩:=h
  obtain⟨t2,h2,q2⟩:=tree2 (outer:=outer) (H0:=H) (E:=E) T IH b kp m BM hr
  refine⟨_,(ae (zah (i:=3) zbA.nd rfl (Or.inl rfl) (av zap (zaG (aa ad (aa ad (aa ad (aa ad (aa ad ac)))))) (am zaq (am zaT (pv 0) ad) ad) (fun _ _=>rfl)))
   (ae (zai (zaa zas (pv 2) ad (zag _))
    (ag (zah (i:=3) zbA.nd rfl (Or.inl rfl) ad))
    zab) h2)),?_⟩
  have b5:=zbp (c / 4) (show(0:Int) < 5 by decide)
  obtain⟨mn,hm,m3⟩:∃ mn:Nat,atI [V.int 0,.int 0,.int 1,.int 2,.int 3] (c / 4 % 5)=some (.int (mn:Int))∧mn≤3:=by
   have:c / 4 % 5=0∨c / 4 % 5=1∨c / 4 % 5=2∨c / 4 % 5=3∨c / 4 % 5=4:=by omega
   rcases this with e | e | e | e | e <;> rw[e]
   ·exact⟨0,rfl,by decide⟩
   ·exact⟨0,rfl,by decide⟩
   ·exact⟨1,rfl,by decide⟩
   ·exact⟨2,rfl,by decide⟩
   ·exact⟨3,rfl,by decide⟩
  refine⟨(by show 5≤sizeLine;decide),fun l0 hl0=>?_⟩
  have s1:ai H (upd H l0 (.lst [V.int 0,.int 0,.int 1,.int 2,.int 3])):=ah hl0 _
  have n1:=af (H:=H) (a:=l0) (o:=.lst [V.int 0,.int 0,.int 1,.int 2,.int 3])
  generalize upd H l0 (.lst [V.int 0,.int 0,.int 1,.int 2,.int 3])=H1 at s1 n1
  have fin:∀(H':Hp) (p:Addr) (t:Tr),ai H1 H'→Has K H' (dTr t) (.ref p)→dp t≤d+1→wz zs t≤W d→Q (.ref p) H':=fun H' p t s2=>q H' p t (s1.trans s2)
  refine⟨_,rfl,_,_,rfl,rfl,⟨by decide,by decide⟩,_,_,rfl,rfl,(by show(0:Int) < 5;decide),l0,_,_,_,rfl,rfl,SqL.of n1,hm,_,rfl,rfl,_,rfl,zal (fun e=>?_) (fun e=>?_)⟩
  ·exact q2 _ H1 c nl zs d 0 (hN.same s1) hd (by decide) (.inl rfl) fin
  ·have d1:1≤d:=Nat.pos_of_ne_zero fun z=>e (by rw[z];decide)
   exact q2 _ H1 c nl zs d mn (hN.same s1) hd m3 (.inr d1) fin
end
end F72
namespace F72
open PySem L2
theorem cut_m1 (ini:List V) (z:V):zbK (ini++[z]) none (some (-1))=ini:=by
 unfold zbK
 have e:HT.sIx (ini++[z]).length (ini++[z]).length (some (-1))=ini.length:=by
  show(if(-1:Int) < 0 then((-1:Int)+((ini++[z]).length:Int)).toNat else min (-1:Int).toNat (ini++[z]).length)=ini.length
  rw[if_pos (by decide),List.length_append]
  simp only[List.length_singleton]
  omega
 rw[e,HT.sIx_none,List.drop_zero,Nat.sub_zero,List.take_left]
theorem cut_m2 (ini:List V) (y z:V):zbK (ini++[y,z]) none (some (-2))=ini:=by
 unfold zbK
 have e:HT.sIx (ini++[y,z]).length (ini++[y,z]).length (some (-2))=ini.length:=by
  show(if(-2:Int) < 0 then((-2:Int)+((ini++[y,z]).length:Int)).toNat else min (-2:Int).toNat (ini++[y,z]).length)=ini.length
  rw[if_pos (by decide),List.length_append]
  simp only[List.length_cons,List.length_nil]
  omega
 rw[e,HT.sIx_none,List.drop_zero,Nat.sub_zero,List.take_left]
theorem at_m1 (ini:List V) (y z:V):atI (ini++[y,z]) (-1)=some z:=by
 rw[show ini++[y,z]=(ini++[y])++[z] by simp]
 exact zf0 _ _
theorem at_m2 (ini:List V) (y z:V):atI (ini++[y,z]) (-2)=some y:=by
 have hl:(ini++[y,z]).length=ini.length+2:=by simp
 have e:ixN (ini++[y,z]).length (-2)=some ini.length:=by
  unfold ixN
  rw[hl,if_neg (by decide),if_pos (by omega)]
  congr 1
  omega
 unfold atI
 rw[e]
 show(ini++[y,z])[ini.length]?=some y
 simp
theorem HasL.split {K:W.Frag} {H:Hp}:∀ {a b:List Dt} {vs:List V},HasL K H (a++b) vs→∃ us ws,vs=us++ws∧HasL K H a us∧HasL K H b ws
 | [],b,vs,h=>⟨[],vs,rfl,HasL.nil,h⟩
 | d :: a,b,vs,h=>by
  have h':HasL K H (d :: (a++b)) vs:=h
  simp only[HasL]at h'
  obtain⟨v,r,rfl,h1,h2⟩:=h'
  obtain⟨us,ws,rfl,g1,g2⟩:=HasL.split (a:=a) h2
  exact⟨v :: us,ws,rfl,.cons h1 g1,g2⟩
theorem HasL.two {K:W.Frag} {H:Hp} {d e:Dt} {ws:List V} (h:HasL K H [d,e] ws):∃ x y,ws=[x,y]∧Has K H d x∧Has K H e y:=by
 simp only[HasL]at h
 obtain⟨x,r,rfl,h1,y,r2,rfl,h2,rfl⟩:=h
 exact⟨x,y,rfl,h1,h2⟩
theorem HasL.uno {K:W.Frag} {H:Hp} {d:Dt} {ws:List V} (h:HasL K H [d] ws):∃ x,ws=[x]∧Has K H d x:=by
 simp only[HasL]at h
 obtain⟨x,r,rfl,h1,rfl⟩:=h
 exact⟨x,rfl,h1⟩
theorem zeC {α:Type} {xs:List α} (h:1≤xs.length):∃ ini x,xs=ini++[x]:=by
 refine⟨xs.dropLast,xs.getLast (by intro e;rw[e]at h;simp at h),?_⟩
 rw[List.dropLast_concat_getLast]
theorem zhZ {α:Type} {xs:List α} (h:2≤xs.length):∃ ini x y,xs=ini++[x,y]:=by
 obtain⟨a,y,rfl⟩:=zeC (xs:=xs) (by omega)
 obtain⟨b,x,rfl⟩:=zeC (xs:=a) (by rw[List.length_append]at h;simp only[List.length_singleton]at h;omega)
 exact⟨b,x,y,by simp⟩
section
variable {P:Program} {w:World} {K:W.Frag} {mg:Str→Option Value} {base:Heap} {aB aO:Addr} {f fM fT:Addr} {fd dM dT':FuncData}
def Dst (ts:List Tr):Prop:=∀(i:Nat) (t:Tr),ts[i]?=some t→((ax ts).take i).any (fun e=>peq e (dTr t))=false
theorem Dst.one (t:Tr):Dst [t]:=fun i u h=>by
 cases i with
 | zero=>rfl
 | succ i=>simp at h
theorem Dst.snoc {ts:List Tr} {t:Tr} (h:Dst ts) (n:(ax ts).any (fun e=>peq e (dTr t))=false):Dst (ts++[t]):=fun i u hu=>by
 rw[dTrs_map,List.map_append,←dTrs_map]
 by_cases c:i < ts.length
 ·rw[List.getElem?_append_left c]at hu
  rw[List.take_append_of_le_length (by rw[dTrs_length];omega)]
  exact h i u hu
 ·rw[List.getElem?_append_right (by omega)]at hu
  have e:i - ts.length=0:=by
   cases hc:i - ts.length with
   | zero=>rfl
   | succ k=>rw[hc]at hu;simp at hu
  rw[e]at hu
  have e2:t=u:=Option.some.inj hu
  subst e2
  have e3:i=(ax ts).length:=by rw[dTrs_length];omega
  rw[e3,List.take_left']
  ·exact n
  ·rfl
def FO3:Fm→Prop
 | .plain _=>True
 | .bare z=>z="always"∨z="never"
 | .same a b=>dp a≤3∧dp b≤3
 | .unlike ts=>(∀ t∈ts,dp t≤3)∧Dst ts
 | .not f=>FO3 f
 | .bin k f g=>(k="and"∨k="or"∨k="then"∨k="as")∧FO3 f∧FO3 g
theorem FO3.ok:∀ {g:Fm},FO3 g→FOk g
 | .plain _,_=>trivial
 | .bare _,h=>h
 | .same a b,h=>⟨Nat.le_trans h.1 (by decide),Nat.le_trans h.2 (by decide)⟩
 | .unlike ts,h=>fun t ht=>Nat.le_trans (h.1 t ht) (by decide)
 | .not f,h=>FO3.ok (g:=f) h
 | .bin k f g,h=>⟨h.1,FO3.ok h.2.1,FO3.ok h.2.2⟩
structure Pile (zs:List Str) (fs:List Fm) (i:Nat):Prop where
 ok:∀ g∈fs,FO3 g∧fdp g≤i
 sm:fsz zs fs≤4000 * i
 le:fs.length≤i
theorem Pile.put {zs:List Str} {fs fs0:List Fm} {i:Nat} {g:Fm} (h:Pile zs fs i) (hm:∀ u∈fs0,u∈fs) (hl:fs0.length≤fs.length) (hg:FO3 g) (hd:fdp g≤i+1) (hw:fsz zs fs0+fwz zs g+1≤4000 * (i+1)):Pile zs (fs0++[g]) (i+1):=by
 refine⟨fun u hu=>?_,?_,?_⟩
 ·rcases List.mem_append.mp hu with hu | hu
  ·have:=h.ok u (hm u hu)
   exact⟨this.1,by omega⟩
  ·rw[List.mem_singleton.mp hu]
   exact⟨hg,hd⟩
 ·rw[zeO,zgu]
  omega
 ·have:=h.le
  rw[List.length_append,List.length_singleton]
  omega
def zfD (K:W.Frag):Sp:=fun vs H Q _=>∃(pl nl:Addr) (c:Int) (xs:List V) (fs:List Fm) (zs:List Str) (i:Nat),vs=[.ref pl,.int c,.ref nl]∧H pl=some (.lst xs)∧HasL K H (fs.map dFm) xs∧zaV H nl zs∧Pile zs fs i∧i≤17 ∧
 ∀(H':Hp) (l:Addr) (ys:List V) (gs:List Fm),ai H H'→H' l=some (.lst ys)→HasL K H' (gs.map dFm) ys→Pile zs gs (i+1)→Q (.ref l) H'
abbrev NG:List Str:=["_law_pile","_law_cell","_law_names_here","_law_kind","_law_more","_law_one","_law_other","_law_trees","_law_k","_law_tree_here"]
theorem zaQ:zad NG ["_law_pile","_law_cell","_law_names_here"] (aj s__law_grown):=⟨rfl,rfl,rfl,by decide +kernel,rfl,by decide +kernel,by decide +kernel⟩
theorem zcs {H:Hp} {us:List V} {x:V} {l:Addr} {fs0:List Fm} {g:Fm} (hu:HasL K H (fs0.map dFm) us) (hx:Has K H (dFm g) x) (hl:H l=none):HasL K (upd H l (.lst (us++[x]))) ((fs0++[g]).map dFm) (us++[x]):=by
 have s:ai H (upd H l (.lst (us++[x]))):=ah hl _
 rw[List.map_append]
 exact HasL.append (hu.keep s.kt (zae _)) (HasL.one (hx.keep s.kt (nol_dFm _)))
theorem grown9 (T:Txt K mg aB aO) {cdv:Value} {A:Around} {outer:List Env} {s:Shared} {H0:Hp} {E:XK} :
  ∃ t,PSs (zbv CX0 P w K mg base NG "_law_grown" (aj s__law_grown) f cdv A outer s H0 E).nox ((zax s__law_grown).drop 9) t ∧
   ∀(Dn:zba) (H:Hp) (pl nl:Addr) (mo:Int) (xs:List V) (fs:List Fm) (zs:List Str) (i:Nat) (v1 v3 v5 v6 v7 v8 v9:Option V),H pl=some (.lst xs)→HasL K H (fs.map dFm) xs→zaV H nl zs→Pile zs fs i→i≤17 →
    (∀(H':Hp) (l:Addr) (ys:List V) (gs:List Fm),ai H H'→H' l=some (.lst ys)→HasL K H' (gs.map dFm) ys→Pile zs gs (i+1)→Dn.rt (.ref l) H') →
    t Dn [some (.ref pl),v1,some (.ref nl),v3,some (.int mo),v5,v6,v7,v8,v9] H:=by
 refine⟨_,(ag (ar (am zcZ (pv 0) (zaG (aa (zaf (aa ak (aa (av zap (pv 2) (am zaq (pv 4) ad) (fun _ _=>rfl)) ac))) ac))))),?_⟩
 intro Dn H pl nl mo xs fs zs i v1 v3 v5 v6 v7 v8 v9 hpl hx hN hP hi q
 obtain⟨z,hz,z20,zin⟩:=hN.get mo
 have xl:xs.length=fs.length:=by rw[←hx.length,List.length_map]
 have:=hP.le
 refine⟨_,rfl,_,rfl,_,rfl,_,_,rfl,rfl,(by show(0:Int) < 4;decide),nl,_,_,_,rfl,rfl,SqL.of hN.1,hz,lS2,fun p hp=>⟨lS1,fun b hb=>?_⟩⟩
 have s1:ai H (upd H p (.tup [.str "plain",.str z])):=ah hp _
 have n1:=af (H:=H) (a:=p) (o:=.tup [.str "plain",.str z])
 generalize upd H p (.tup [.str "plain",.str z])=H1 at s1 n1 hb ⊢
 have s2:ai H1 (upd H1 b (.lst [.ref p])):=ah hb _
 have n2:=af (H:=H1) (a:=b) (o:=.lst [.ref p])
 generalize upd H1 b (.lst [.ref p])=H2 at s2 n2
 have s12:=s1.trans s2
 refine⟨pl,b,_,_,rfl,rfl,s12 _ _ hpl,n2,szM (by rw[List.length_singleton];omega),fun l hl=>?_⟩
 refine q _ l _ (fs++[.plain z]) (s12.trans (ah hl _)) af (zcs (hx.keep s12.kt (zae _)) (Has.tup' (SqT.of (s2 _ _ n1)) (.cons Has.str' (.cons Has.str' .nil))) hl) (hP.put (g:=.plain z) (fun _ h=>h) (Nat.le_refl _) trivial (by simp only[fdp];omega) ?_)
 have:=hP.sm
 simp only[fwz]
 rw[if_pos zin]
 omega
end
end F72
namespace F72
open PySem L2
section
variable {P:Program} {w:World} {K:W.Frag} {mg:Str→Option Value} {base:Heap} {aB aO:Addr} {f fM fT:Addr} {fd dM dT':FuncData}
def zcT (zs:List Str) (K:W.Frag) (H:Hp) (o:Addr) (t:Tr):Prop:=Has K H (dTr t) (.ref o)∧dp t≤3∧wz zs t≤310
theorem zcT.same {zs:List Str} {H H':Hp} {o:Addr} {t:Tr} (h:zcT zs K H o t) (s:ai H H'):zcT zs K H' o t:=⟨h.1.keep s.kt (nol_dTr _),h.2⟩
theorem W1:W 1≤310:=by decide
theorem W2:W 2≤310:=by decide
theorem W0:W 0≤310:=by decide
set_option maxHeartbeats 1000000 in
theorem grown8 (T:Txt K mg aB aO) (BT:FB P w K mg base CX0 4 "_law_tree" fT dT' ["_law_cell","_law_names_here","_law_deep_here"] (zcy K 3)) (BM:FB P w K mg base CX0 1 "_law_mixed" fM dM ["_law_cell","_law_k"] zbe)
  {cdv:Value} {A:Around} {outer:List Env} {s:Shared} {H0:Hp} {E:XK} (hr:aw 4 (A.deeper (PyProof.Rows.envOfC "_law_grown" (aj s__law_grown) s.heap.objs.size f cdv))) :
  ∃ t,PSs (zbv CX0 P w K mg base NG "_law_grown" (aj s__law_grown) f cdv A outer s H0 E).nox ((zax s__law_grown).drop 8) t ∧
   ∀(Dn:zba) (H:Hp) (pl nl o:Addr) (ki mo:Int) (xs:List V) (fs:List Fm) (zs:List Str) (t1:Tr) (i:Nat) (v1 v6:Option V),H pl=some (.lst xs)→HasL K H (fs.map dFm) xs→zaV H nl zs→Pile zs fs i→i≤17→zcT zs K H o t1 →
    (∀(H':Hp) (l:Addr) (ys:List V) (gs:List Fm),ai H H'→H' l=some (.lst ys)→HasL K H' (gs.map dFm) ys→Pile zs gs (i+1)→Dn.rt (.ref l) H') →
    t Dn [some (.ref pl),v1,some (.ref nl),some (.int ki),some (.int mo),some (.ref o),v6,none,none,none] H:=by
 have hu:=zcr hr
 have hr1:aw 1 _:=hr.mono (by decide)
 obtain⟨t9,h9,q9⟩:=grown9 (f:=f) (P:=P) (w:=w) (base:=base) (cdv:=cdv) (A:=A) (s:=s) (outer:=outer) (H0:=H0) (E:=E) T
 refine⟨_,(ae (zai (zaa zas (pv 3) ad (zag _))
   (ae (zah (i:=7) zaQ.nd rfl (Or.inl rfl) (zaG (aa (pv 5) ac)))
    (ae (zaY PassesOwn.never rfl (zbj rfl T.range (aa (am zbO ad (am zaq (am zaT (pv 4) ad) ad)) ac)) (zaA (i:=8) zaQ.nd rfl (Or.inl rfl))
     (ae (zah (i:=9) zaQ.nd rfl (Or.inl rfl) (ao BT.ok hr rfl BT.m BT.kp BT.b .nil ap (aa (ao BM.ok hr1 rfl BM.m BM.kp BM.b .nil ap (aa (pv 4) (aa (am zbO ad (pv 8)) ac))) (aa (pv 2) (aa ad ac)))))
      (ag (zai (zaa (zhB hu) (pv 9) (pv 7) rfl)
       (ag (zaM (zbl PySem.F.plainAttrs_list PySem.F.slot_list_append PySem.F.type_list_append zbY (pv 7) (aa (pv 9) ac))))
       zab))))
    (ag (zai (zaa zcM (zaI za0 rfl T.len PySem.boot_len (aa (pv 7) ac)) ad (zag _))
     (ag (ar (am zcZ (pv 0) (zaG (aa (zaf (aa ak (aa (zbx zcm rfl T.tuple PyProof.Rows.Boot.tuple (aa (pv 7) ac)) ac))) ac)))))
     zab))))
   zab) h9),?_⟩
 intro Dn H pl nl o ki mo xs fs zs t1 i v1 v6 hpl hx hN hP hi ho q
 refine⟨_,rfl,rfl,_,rfl,zal (fun _=>?_) (fun _=>q9 Dn H pl nl mo xs fs zs i _ _ _ _ _ _ _ hpl hx hN hP hi q)⟩
 refine⟨_,rfl,lS1,fun tl htl=>?_⟩
 have s1:ai H (upd H tl (.lst [.ref o])):=ah htl _
 have n1:=af (H:=H) (a:=tl) (o:=.lst [.ref o])
 generalize upd H tl (.lst [.ref o])=H1 at s1 n1
 have b4:=zbp (mo / 9) (show(0:Int) < 4 by decide)
 have ho1:=ho.same s1
 refine⟨_,rfl,_,_,rfl,rfl,⟨by decide,by decide⟩,_,_,rfl,rfl,(by show(0:Int) < 4;decide),_,_,rfl,rfl,_,rfl,(by show -(2 ^ 62)≤1+mo / 9 % 4;omega),(by show 1+mo / 9 % 4 < 2 ^ 62;omega),zby (lo:=0) (n:=(1+mo / 9 % 4).toNat) (fun j σ H'=>ai H H'∧∃(us:List V) (ts:List Tr) (v8 v9:Option V),σ=[some (.ref pl),v1,some (.ref nl),some (.int ki),some (.int mo),some (.ref o),v6,some (.ref tl),v8,v9]∧H' tl=some (.lst us)∧HasL K H' (ax ts) us∧Dst ts∧ts.length≤j+1∧∀ t∈ts,dp t≤3∧wz zs t≤310)
  ⟨s1,[.ref o],[t1],none,none,rfl,n1,HasL.one ho1.1,Dst.one _,Nat.le_refl _,fun t ht=>by rw[List.mem_singleton.mp ht];exact ho.2⟩ ?_ ?_⟩
 ·rintro j σ H2 hj ⟨s2,us,ts,v8,v9,rfl,hl2,hts,dst,tl2,tok⟩
  refine⟨_,rfl,_,rfl,_,_,rfl,rfl,mo,_,rfl,fun mx=>⟨_,rfl,mx,nl,zs,1,rfl,hN.same s2,by decide,fun H3 p t s3 ht h1 h2=>?_⟩⟩
  have hts3:=hts.keep s3.kt (nols_dTrs _)
  have hl3:=s3 _ _ hl2
  have dd:=deps_dTrs ts
  have dm:=le_dps fun t ht=>(tok t ht).1
  have ul:us.length=ts.length:=by rw[←hts.length,dTrs_length]
  have w1:=W1
  refine⟨_,rfl,_,rfl,tl,us,ax ts,dTr t,rfl,.inl (SqL.of hl3),hts3,ht,by omega,_,rfl,zal (fun nin=>?_) (fun _=>?_)⟩
  ·have kt:=zaR.lst (ys:=us++[.ref p]) hl3
   refine⟨_,rfl,.inl ⟨rfl,_,SqL.of hl3⟩,_,rfl,tl,_,_,rfl,rfl,hl3,zcj (by omega),(s2.trans s3).upd htl,us++[.ref p],ts++[t],_,_,rfl,af,?_,dst.snoc (by simpa using nin),by rw[List.length_append,List.length_singleton];omega,fun u hu'=>?_⟩
   ·rw[dTrs_map,List.map_append,←dTrs_map]
    exact HasL.append (hts3.keep kt (nols_dTrs _)) (HasL.one (ht.keep kt (nol_dTr _)))
   ·rcases List.mem_append.mp hu' with hu' | hu'
    ·exact tok u hu'
    ·rw[List.mem_singleton.mp hu']
     exact⟨by omega,by omega⟩
  ·exact⟨s2.trans s3,us,ts,_,_,rfl,hl3,hts3,dst,by omega,tok⟩
 rintro σ H2 ⟨s2,us,ts,v8,v9,rfl,hl2,hts,dst,tl2,tok⟩
 have xl:xs.length=fs.length:=by rw[←hx.length,List.length_map]
 have hle:=hP.le
 refine⟨_,rfl,tl,_,rfl,.inl (SqL.of hl2),_,_,rfl,rfl,_,rfl,zal (fun c2=>?_) (fun _=>?_)⟩
 ·refine⟨_,rfl,_,rfl,tl,_,rfl,.inl ⟨SqL.of hl2,fun tp htp=>⟨lS2,fun p hp=>⟨lS1,fun b hb=>?_⟩⟩⟩⟩
  have s3:ai H2 (upd H2 tp (.tup us)):=ah htp _
  have n3:=af (H:=H2) (a:=tp) (o:=.tup us)
  generalize upd H2 tp (.tup us)=H3 at s3 n3 hp hb ⊢
  have s4:ai H3 (upd H3 p (.tup [.str "unlike",.ref tp])):=ah hp _
  have n4:=af (H:=H3) (a:=p) (o:=.tup [.str "unlike",.ref tp])
  generalize upd H3 p (.tup [.str "unlike",.ref tp])=H4 at s4 n4 hb ⊢
  have s5:ai H4 (upd H4 b (.lst [.ref p])):=ah hb _
  have n5:=af (H:=H4) (a:=b) (o:=.lst [.ref p])
  generalize upd H4 b (.lst [.ref p])=H5 at s5 n5
  have s25:=(s3.trans s4).trans s5
  have s05:=s2.trans s25
  refine⟨pl,b,_,_,rfl,rfl,s05 _ _ hpl,n5,szM (by rw[List.length_singleton];omega),fun l hl=>?_⟩
  have hg:Has K H5 (dFm (.unlike ts)) (.ref p):=Has.tup' (SqT.of (s5 _ _ n4)) (.cons Has.str' (.cons (Has.tup' (SqT.of (s5 _ _ (s4 _ _ n3))) (hts.keep s25.kt (nols_dTrs _))) .nil))
  refine q _ l _ (fs++[.unlike ts]) (s05.trans (ah hl _)) af (zcs (hx.keep s05.kt (zae _)) hg hl) (hP.put (g:=.unlike ts) (fun _ h=>h) (Nat.le_refl _) ⟨fun t ht=>(tok t ht).1,dst⟩ (by simp only[fdp];omega) ?_)
  have h1:=zey fun t ht=>(tok t ht).2
  have h5:ts.length≤5:=by omega
  have h2:=Nat.mul_le_mul_left (310+2) h5
  have:=hP.sm
  have l2:(1:Int) < ((us.length:Nat):Int):=of_decide_eq_true c2
  have ul2:us.length=ts.length:=by rw[←hts.length,dTrs_length]
  simp only[fwz]
  rw[if_pos ⟨by omega,h5⟩]
  omega
 ·exact q9 Dn H2 pl nl mo xs fs zs i _ _ _ _ _ _ _ (s2 _ _ hpl) (hx.keep s2.kt (zae _)) (hN.same s2) hP hi fun H' l ys gs s3=>q H' l ys gs (s2.trans s3)
theorem zbI (c:Int):∃ k:Str,atI [V.str "and",.str "or",.str "then",.str "as"] (c % 4)=some (.str k)∧(k="and"∨k="or"∨k="then"∨k="as")∧k.length≤4:=by
 have b:=zbp c (show(0:Int) < 4 by decide)
 have:c % 4=0∨c % 4=1∨c % 4=2∨c % 4=3:=by omega
 rcases this with e | e | e | e <;> rw[e]
 ·exact⟨"and",rfl,.inl rfl,by decide +kernel⟩
 ·exact⟨"or",rfl,.inr (.inl rfl),by decide +kernel⟩
 ·exact⟨"then",rfl,.inr (.inr (.inl rfl)),by decide +kernel⟩
 ·exact⟨"as",rfl,.inr (.inr (.inr rfl)),by decide +kernel⟩
set_option maxHeartbeats 1000000 in
theorem grown7 (T:Txt K mg aB aO) (BT:FB P w K mg base CX0 4 "_law_tree" fT dT' ["_law_cell","_law_names_here","_law_deep_here"] (zcy K 3)) (BM:FB P w K mg base CX0 1 "_law_mixed" fM dM ["_law_cell","_law_k"] zbe)
  {cdv:Value} {A:Around} {outer:List Env} {s:Shared} {H0:Hp} {E:XK} (hr:aw 4 (A.deeper (PyProof.Rows.envOfC "_law_grown" (aj s__law_grown) s.heap.objs.size f cdv))) :
  ∃ t,PSs (zbv CX0 P w K mg base NG "_law_grown" (aj s__law_grown) f cdv A outer s H0 E).nox ((zax s__law_grown).drop 7) t ∧
   ∀(Dn:zba) (H:Hp) (pl nl o:Addr) (ki mo:Int) (xs:List V) (fs:List Fm) (zs:List Str) (t1:Tr) (i:Nat) (v1 v6:Option V),H pl=some (.lst xs)→HasL K H (fs.map dFm) xs→zaV H nl zs→Pile zs fs i→i≤17→zcT zs K H o t1 →
    (∀(H':Hp) (l:Addr) (ys:List V) (gs:List Fm),ai H H'→H' l=some (.lst ys)→HasL K H' (gs.map dFm) ys→Pile zs gs (i+1)→Dn.rt (.ref l) H') →
    t Dn [some (.ref pl),v1,some (.ref nl),some (.int ki),some (.int mo),some (.ref o),v6,none,none,none] H:=by
 obtain⟨t8,h8,q8⟩:=grown8 (f:=f) (outer:=outer) (H0:=H0) (E:=E) T BT BM hr
 refine⟨_,(ae (zai (PW.pt (zej (zaa zcM (pv 3) ad (zag _)) (zej (zaa zgM (pv 3) ad (zag _)) (zeH (zaa zcM (zaI za0 rfl T.len PySem.boot_len (aa (pv 0) ac)) ad (zag _))))))
   (ag (ar (am zcZ (zbg zeD (pv 0) zbF (zbi (zdH zcY ad))) (zaG (aa (zaf (aa (av zap (zaG (aa ak (aa ak (aa ak (aa ak ac))))) (am zaq (pv 4) ad) (fun _ _=>rfl)) (aa (av zap (pv 0) (zdH zcY ad) (fun _ _=>rfl)) (aa (av zap (pv 0) (zdH zcY ad) (fun _ _=>rfl)) ac)))) ac)))))
   zab) h8),?_⟩
 intro Dn H pl nl o ki mo xs fs zs t1 i v1 v6 hpl hx hN hP hi ho q
 have go:=q8 Dn H pl nl o ki mo xs fs zs t1 i v1 v6 hpl hx hN hP hi ho q
 have xl:xs.length=fs.length:=by rw[←hx.length,List.length_map]
 refine⟨_,rfl,_,_,rfl,rfl,_,rfl,zal (fun _=>⟨_,rfl,_,_,rfl,rfl,_,rfl,zal (fun _=>⟨_,rfl,pl,_,rfl,.inl (SqL.of hpl),_,_,rfl,rfl,_,rfl,zal (fun c=>?_) (fun _=>go)⟩) (fun _=>zaS go)⟩) (fun _=>zaS go)⟩
 have c':(1:Int) < ((xs.length:Nat):Int):=of_decide_eq_true c
 obtain⟨ini,g1,g2,rfl⟩:=zhZ (xs:=fs) (by omega)
 rw[List.map_append]at hx
 obtain⟨us,ws,rfl,hus,hws⟩:=HasL.split hx
 obtain⟨x1,x2,rfl,hx1,hx2⟩:=HasL.two hws
 have hle:=hP.le
 have hsm:=hP.sm
 rw[zeO]at hsm
 have h12:fsz zs [g1,g2]=fwz zs g1+1+(fwz zs g2+1):=by simp [fsz]
 rw[h12]at hsm
 obtain⟨k,hk,kk,k4⟩:=zbI mo
 have o1:=hP.ok g1 (by simp)
 have o2:=hP.ok g2 (by simp)
 refine⟨_,rfl,_,rfl,_,rfl,pl,_,rfl,SqL.of hpl,fun p hp=>?_⟩
 rw[cut_m2]
 have s1:ai H (upd H p (.lst us)):=ah hp _
 have n1:=af (H:=H) (a:=p) (o:=.lst us)
 generalize upd H p (.lst us)=H1 at s1 n1
 refine⟨lS4,fun kl hkl=>?_⟩
 have s2:ai H1 (upd H1 kl (.lst [V.str "and",.str "or",.str "then",.str "as"])):=ah hkl _
 have n2:=af (H:=H1) (a:=kl) (o:=.lst [V.str "and",.str "or",.str "then",.str "as"])
 generalize upd H1 kl (.lst [V.str "and",.str "or",.str "then",.str "as"])=H2 at s2 n2
 have s02:=s1.trans s2
 have hpl2:=s02 _ _ hpl
 refine⟨_,rfl,_,_,rfl,rfl,(by show(0:Int) < 4;decide),kl,_,_,_,rfl,rfl,SqL.of n2,hk,_,rfl,_,rfl,pl,_,_,_,rfl,rfl,SqL.of hpl2,at_m2 us x1 x2,_,rfl,_,rfl,pl,_,_,_,rfl,rfl,SqL.of hpl2,at_m1 us x1 x2,lS3,fun r hr'=>⟨lS1,fun b hb=>?_⟩⟩
 have s3:ai H2 (upd H2 r (.tup [.str k,x1,x2])):=ah hr' _
 have n3:=af (H:=H2) (a:=r) (o:=.tup [.str k,x1,x2])
 generalize upd H2 r (.tup [.str k,x1,x2])=H3 at s3 n3 hb ⊢
 have s4:ai H3 (upd H3 b (.lst [.ref r])):=ah hb _
 have n4:=af (H:=H3) (a:=b) (o:=.lst [.ref r])
 generalize upd H3 b (.lst [.ref r])=H4 at s4 n4
 have s04:=(s02.trans s3).trans s4
 have n14:=((s2.trans s3).trans s4) _ _ n1
 have ul:us.length≤100:=by
  rw[List.length_append]at xl
  simp only[List.length_cons,List.length_nil,List.length_append]at xl hle
  omega
 refine⟨p,b,_,_,rfl,rfl,n14,n4,szM (by rw[List.length_singleton];omega),fun l hl=>?_⟩
 have hg:Has K H4 (dFm (.bin k g1 g2)) (.ref r):=Has.tup' (SqT.of (s4 _ _ n3)) (.cons Has.str' (.cons (hx1.keep s04.kt (nol_dFm _)) (.cons (hx2.keep s04.kt (nol_dFm _)) .nil)))
 refine q _ l _ (ini++[.bin k g1 g2]) (s04.trans (ah hl _)) af (zcs (hus.keep s04.kt (zae _)) hg hl) (hP.put (g:=.bin k g1 g2) (fun u hu=>List.mem_append_left _ hu) (by rw[List.length_append];omega) ⟨kk,o1.1,o2.1⟩ (by simp only[fdp];omega) ?_)
 simp only[fwz]
 omega
end
end F72
namespace F72
open PySem L2
section
variable {P:Program} {w:World} {K:W.Frag} {mg:Str→Option Value} {base:Heap} {aB aO:Addr} {f fM fT fC fG:Addr} {fd dM dT' dC dG:FuncData}
theorem zfX {i:Nat}:∀ {fs:List Fm},(∀ g∈fs,FO3 g∧fdp g≤i)→zaz (fs.map dFm)≤i+40
 | [],_=>by simp [zaz]
 | g :: fs,h=>by
  have h1:=h g (by simp)
  have h2:=zdN g h1.1.ok
  have h3:=zfX (fs:=fs) fun u hu=>h u (List.mem_cons_of_mem _ hu)
  simp only[List.map_cons,zaz]
  omega
set_option maxHeartbeats 1000000 in
theorem grown6 (T:Txt K mg aB aO) (BT:FB P w K mg base CX0 4 "_law_tree" fT dT' ["_law_cell","_law_names_here","_law_deep_here"] (zcy K 3)) (BM:FB P w K mg base CX0 1 "_law_mixed" fM dM ["_law_cell","_law_k"] zbe)
  {cdv:Value} {A:Around} {outer:List Env} {s:Shared} {H0:Hp} {E:XK} (hr:aw 4 (A.deeper (PyProof.Rows.envOfC "_law_grown" (aj s__law_grown) s.heap.objs.size f cdv))) :
  ∃ t,PSs (zbv CX0 P w K mg base NG "_law_grown" (aj s__law_grown) f cdv A outer s H0 E).nox ((zax s__law_grown).drop 6) t ∧
   ∀(Dn:zba) (H:Hp) (pl nl o:Addr) (ki mo:Int) (xs:List V) (fs:List Fm) (zs:List Str) (t1:Tr) (i:Nat) (v1 v6:Option V),H pl=some (.lst xs)→HasL K H (fs.map dFm) xs→zaV H nl zs→Pile zs fs i→i≤17→zcT zs K H o t1 →
    (∀(H':Hp) (l:Addr) (ys:List V) (gs:List Fm),ai H H'→H' l=some (.lst ys)→HasL K H' (gs.map dFm) ys→Pile zs gs (i+1)→Dn.rt (.ref l) H') →
    t Dn [some (.ref pl),v1,some (.ref nl),some (.int ki),some (.int mo),some (.ref o),v6,none,none,none] H:=by
 have hu:=zcr hr
 obtain⟨t7,h7,q7⟩:=grown7 (f:=f) (outer:=outer) (H0:=H0) (E:=E) T BT BM hr
 refine⟨_,(ae (zai (PW.pt (zej (zaa zas (pv 3) ad (zag _)) (zeH (zaa (zhd hu) (pv 0) (zaG ac) rfl))))
   (ag (ar (am zcZ (zbg zeD (pv 0) zbF (zbi (zdH zcY ad))) (zaG (aa (zaf (aa ak (aa (av zap (pv 0) (zdH zcY ad) (fun _ _=>rfl)) ac))) ac)))))
   zab) h7),?_⟩
 intro Dn H pl nl o ki mo xs fs zs t1 i v1 v6 hpl hx hN hP hi ho q
 have xl:xs.length=fs.length:=by rw[←hx.length,List.length_map]
 refine⟨_,rfl,rfl,_,rfl,zal (fun _=>?_) (fun _=>zaS (q7 Dn H pl nl o ki mo xs fs zs t1 i v1 v6 hpl hx hN hP hi ho q))⟩
 refine⟨_,rfl,lS0,fun e he=>?_⟩
 have s1:ai H (upd H e (.lst [])):=ah he _
 have n1:=af (H:=H) (a:=e) (o:=.lst [])
 generalize upd H e (.lst [])=H1 at s1 n1
 have hpl1:=s1 _ _ hpl
 have hx1:=hx.keep s1.kt (zae _)
 have dd:=zfX hP.ok
 refine⟨.lst (fs.map dFm),.lst [],Has.lst' (SqL.of hpl1) hx1,Has.lst' (SqL.of n1) HasL.nil,(by simp only[dep];omega),_,rfl,?_⟩
 have q1:∀(H':Hp) (l:Addr) (ys:List V) (gs:List Fm),ai H1 H'→H' l=some (.lst ys)→HasL K H' (gs.map dFm) ys→Pile zs gs (i+1)→Dn.rt (.ref l) H':=fun H' l ys gs s2=>q H' l ys gs (s1.trans s2)
 by_cases hne:fs=[]
 ·subst hne
  exact zaS (q7 Dn H1 pl nl o ki mo xs [] zs t1 i v1 v6 hpl1 hx1 (hN.same s1) hP hi (ho.same s1) q1)
 have e0:peq (.lst (fs.map dFm)) (.lst [])=false:=by
  cases fs with
  | nil=>exact absurd rfl hne
  | cons t ts=>rfl
 rw[e0]
 refine zbJ ?_
 obtain⟨ini,g1,rfl⟩:=zeC (xs:=fs) (Nat.pos_of_ne_zero fun z=>hne (List.length_eq_zero_iff.mp z))
 rw[List.map_append]at hx1
 obtain⟨us,ws,rfl,hus,hws⟩:=HasL.split hx1
 obtain⟨x1,rfl,hx1'⟩:=HasL.uno hws
 have hle:=hP.le
 have hsm:=hP.sm
 rw[zeO,zgu]at hsm
 have o1:=hP.ok g1 (by simp)
 refine⟨_,rfl,_,rfl,_,rfl,pl,_,rfl,SqL.of hpl1,fun p hp=>?_⟩
 rw[cut_m1]
 have s2:ai H1 (upd H1 p (.lst us)):=ah hp _
 have n2:=af (H:=H1) (a:=p) (o:=.lst us)
 generalize upd H1 p (.lst us)=H2 at s2 n2
 have hpl2:=s2 _ _ hpl1
 refine⟨_,rfl,_,rfl,pl,_,_,_,rfl,rfl,SqL.of hpl2,zf0 us x1,lS2,fun r hr'=>⟨lS1,fun b hb=>?_⟩⟩
 have s3:ai H2 (upd H2 r (.tup [.str "not",x1])):=ah hr' _
 have n3:=af (H:=H2) (a:=r) (o:=.tup [.str "not",x1])
 generalize upd H2 r (.tup [.str "not",x1])=H3 at s3 n3 hb ⊢
 have s4:ai H3 (upd H3 b (.lst [.ref r])):=ah hb _
 have n4:=af (H:=H3) (a:=b) (o:=.lst [.ref r])
 generalize upd H3 b (.lst [.ref r])=H4 at s4 n4
 have s14:=(s2.trans s3).trans s4
 have n24:=(s3.trans s4) _ _ n2
 have ul:us.length≤100:=by
  simp only[List.length_cons,List.length_nil,List.length_append]at xl hle
  omega
 refine⟨p,b,_,_,rfl,rfl,n24,n4,szM (by rw[List.length_singleton];omega),fun l hl=>?_⟩
 have hg:Has K H4 (dFm (.not g1)) (.ref r):=Has.tup' (SqT.of (s4 _ _ n3)) (.cons Has.str' (.cons (hx1'.keep s14.kt (nol_dFm _)) .nil))
 refine q1 _ l _ (ini++[.not g1]) (s14.trans (ah hl _)) af (zcs (hus.keep s14.kt (zae _)) hg hl) (hP.put (g:=.not g1) (fun u hu=>List.mem_append_left _ hu) (by rw[List.length_append];omega) o1.1 (by simp only[fdp];omega) ?_)
 simp only[fwz]
 omega
set_option maxHeartbeats 1000000 in
theorem grown4 (T:Txt K mg aB aO) (BT:FB P w K mg base CX0 4 "_law_tree" fT dT' ["_law_cell","_law_names_here","_law_deep_here"] (zcy K 3)) (BM:FB P w K mg base CX0 1 "_law_mixed" fM dM ["_law_cell","_law_k"] zbe)
  {cdv:Value} {A:Around} {outer:List Env} {s:Shared} {H0:Hp} {E:XK} (hr:aw 4 (A.deeper (PyProof.Rows.envOfC "_law_grown" (aj s__law_grown) s.heap.objs.size f cdv))) :
  ∃ t,PSs (zbv CX0 P w K mg base NG "_law_grown" (aj s__law_grown) f cdv A outer s H0 E).nox ((zax s__law_grown).drop 4) t ∧
   ∀(Dn:zba) (H:Hp) (pl nl o o2:Addr) (ki mo:Int) (xs:List V) (fs:List Fm) (zs:List Str) (t1 t2:Tr) (i:Nat) (v1:Option V),H pl=some (.lst xs)→HasL K H (fs.map dFm) xs→zaV H nl zs→Pile zs fs i→i≤17→zcT zs K H o t1→zcT zs K H o2 t2 →
    (∀(H':Hp) (l:Addr) (ys:List V) (gs:List Fm),ai H H'→H' l=some (.lst ys)→HasL K H' (gs.map dFm) ys→Pile zs gs (i+1)→Dn.rt (.ref l) H') →
    t Dn [some (.ref pl),v1,some (.ref nl),some (.int ki),some (.int mo),some (.ref o),some (.ref o2),none,none,none] H:=by
 have hu:=zcr hr
 obtain⟨t6,h6,q6⟩:=grown6 (f:=f) (outer:=outer) (H0:=H0) (E:=E) T BT BM hr
 refine⟨_,(ae (zai (PW.pt (zeb (zaa zas (pv 3) ad (zag _)) (zei (zaa zas (pv 3) ad (zag _)))))
   (ag (ar (am zcZ (pv 0) (zaG (aa (zaf (aa ak (aa (pv 5) (aa (av zap (zaG (aa (pv 6) (aa (pv 5) ac))) (zbx zhR rfl T.int PyProof.Rows.Boot.int (aa (zbX zas (am zaq (am zaT (pv 4) ad) ad) ad (zag _)) ac)) (fun _ _=>rfl)) ac)))) ac)))))
   zab)
  (ae (zai (zaa zas (pv 3) ad (zag _))
   (ag (ar (am zcZ (pv 0) (zaG (aa (zaf (aa (av zap (zaG (aa ak (aa ak ac))) (am zaq (pv 4) ad) (fun _ _=>rfl)) ac)) ac)))))
   zab) h6)),?_⟩
 intro Dn H pl nl o o2 ki mo xs fs zs t1 t2 i v1 hpl hx hN hP hi ho ho2 q
 have xl:xs.length=fs.length:=by rw[←hx.length,List.length_map]
 have hle:=hP.le
 have hsm:=hP.sm
 have same:∀ kk:Bool,∃(x:Addr) (t:Tr),atI [V.ref o2,.ref o] (if kk then 1 else 0)=some (.ref x)∧zcT zs K H x t:=fun kk=>by
  cases kk
  ·exact⟨o2,t2,rfl,ho2⟩
  ·exact⟨o,t1,rfl,ho⟩
 have ret:∀(H':Hp) (r b l x:Addr) (t:Tr),ai H H'→zcT zs K H x t→H' r=none→(upd H' r (.tup [.str "same",.ref o,.ref x])) b=none→(upd (upd H' r (.tup [.str "same",.ref o,.ref x])) b (.lst [.ref r])) l=none →
   Dn.rt (.ref l) (upd (upd (upd H' r (.tup [.str "same",.ref o,.ref x])) b (.lst [.ref r])) l (.lst (xs++[.ref r]))):=fun H' r b l x t s' hxt hr' hb hl=>by
  have s3:ai H' (upd H' r (.tup [.str "same",.ref o,.ref x])):=ah hr' _
  have n3:=af (H:=H') (a:=r) (o:=.tup [.str "same",.ref o,.ref x])
  generalize upd H' r (.tup [.str "same",.ref o,.ref x])=H3 at s3 n3 hb hl ⊢
  have s4:ai H3 (upd H3 b (.lst [.ref r])):=ah hb _
  generalize upd H3 b (.lst [.ref r])=H4 at s4 hl ⊢
  have s04:=(s'.trans s3).trans s4
  have hg:Has K H4 (dFm (.same t1 t)) (.ref r):=Has.tup' (SqT.of (s4 _ _ n3)) (.cons Has.str' (.cons (ho.same s04).1 (.cons (hxt.same s04).1 .nil)))
  refine q _ l _ (fs++[.same t1 t]) (s04.trans (ah hl _)) af (zcs (hx.keep s04.kt (zae _)) hg hl) (hP.put (g:=.same t1 t) (fun _ h=>h) (Nat.le_refl _) ⟨ho.2.1,hxt.2.1⟩ (by simp only[fdp];omega) ?_)
  have h1:=ho.2.2
  have h2:=hxt.2.2
  simp only[fwz]
  omega
 have next:=q6 Dn H pl nl o ki mo xs fs zs t1 i v1 (some (.ref o2)) hpl hx hN hP hi ho q
 refine⟨_,rfl,rfl,_,rfl,zal (fun _=>zbJ ?_) (fun _=>⟨_,rfl,rfl,_,rfl,zal (fun _=>?_) (fun _=>?_)⟩)⟩
 ·refine⟨_,rfl,_,rfl,_,rfl,_,rfl,lS2,fun e he=>?_⟩
  have s1:ai H (upd H e (.lst [.ref o2,.ref o])):=ah he _
  have n1:=af (H:=H) (a:=e) (o:=.lst [.ref o2,.ref o])
  generalize upd H e (.lst [.ref o2,.ref o])=H1 at s1 n1
  refine⟨_,rfl,_,_,rfl,rfl,⟨by decide,by decide⟩,_,_,rfl,rfl,(by show(0:Int) < 6;decide),rfl,.inr ⟨_,rfl,?_⟩⟩
  obtain⟨x,t,hxa,hxt⟩:=same (decide (V.int (mo / 9 % 6)=V.int 0))
  exact⟨e,_,_,_,rfl,rfl,SqL.of n1,hxa,lS3,fun r hr'=>⟨lS1,fun b hb=>⟨pl,b,_,_,rfl,rfl,(ah hb _) _ _ ((ah hr' _) _ _ (s1 _ _ hpl)),af,szM (by rw[List.length_singleton];omega),fun l hl=>ret H1 r b l x t s1 hxt hr' hb hl⟩⟩⟩
 ·refine⟨_,rfl,_,rfl,_,rfl,_,rfl,lS2,fun e he=>?_⟩
  have s1:ai H (upd H e (.lst [.ref o2,.ref o])):=ah he _
  have n1:=af (H:=H) (a:=e) (o:=.lst [.ref o2,.ref o])
  generalize upd H e (.lst [.ref o2,.ref o])=H1 at s1 n1
  refine⟨_,rfl,_,_,rfl,rfl,⟨by decide,by decide⟩,_,_,rfl,rfl,(by show(0:Int) < 6;decide),rfl,.inr ⟨_,rfl,?_⟩⟩
  obtain⟨x,t,hxa,hxt⟩:=same (decide (V.int (mo / 9 % 6)=V.int 0))
  exact⟨e,_,_,_,rfl,rfl,SqL.of n1,hxa,lS3,fun r hr'=>⟨lS1,fun b hb=>⟨pl,b,_,_,rfl,rfl,(ah hb _) _ _ ((ah hr' _) _ _ (s1 _ _ hpl)),af,szM (by rw[List.length_singleton];omega),fun l hl=>ret H1 r b l x t s1 hxt hr' hb hl⟩⟩⟩
 ·refine⟨_,rfl,rfl,_,rfl,zal (fun _=>?_) (fun _=>next)⟩
  refine⟨_,rfl,lS2,fun e he=>?_⟩
  have s1:ai H (upd H e (.lst [.str "always",.str "never"])):=ah he _
  have n1:=af (H:=H) (a:=e) (o:=.lst [.str "always",.str "never"])
  generalize upd H e (.lst [.str "always",.str "never"])=H1 at s1 n1
  obtain⟨z,hz,zok,z6⟩:∃ z:Str,atI [V.str "always",.str "never"] (mo % 2)=some (.str z)∧(z="always"∨z="never")∧z.length≤6:=by
   have b:=zbp mo (show(0:Int) < 2 by decide)
   have:mo % 2=0∨mo % 2=1:=by omega
   rcases this with e | e <;> rw[e]
   ·exact⟨"always",rfl,.inl rfl,by decide +kernel⟩
   ·exact⟨"never",rfl,.inr rfl,by decide +kernel⟩
  refine⟨_,rfl,_,_,rfl,rfl,(by show(0:Int) < 2;decide),e,_,_,_,rfl,rfl,SqL.of n1,hz,lS1,fun r hr'=>⟨lS1,fun b hb=>?_⟩⟩
  have s3:ai H1 (upd H1 r (.tup [.str z])):=ah hr' _
  have n3:=af (H:=H1) (a:=r) (o:=.tup [.str z])
  generalize upd H1 r (.tup [.str z])=H3 at s3 n3 hb ⊢
  have s4:ai H3 (upd H3 b (.lst [.ref r])):=ah hb _
  have n4:=af (H:=H3) (a:=b) (o:=.lst [.ref r])
  generalize upd H3 b (.lst [.ref r])=H4 at s4 n4
  have s04:=(s1.trans s3).trans s4
  refine⟨pl,b,_,_,rfl,rfl,s04 _ _ hpl,n4,szM (by rw[List.length_singleton];omega),fun l hl=>?_⟩
  have hg:Has K H4 (dFm (.bare z)) (.ref r):=Has.tup' (SqT.of (s4 _ _ n3)) (.cons Has.str' .nil)
  refine q _ l _ (fs++[.bare z]) (s04.trans (ah hl _)) af (zcs (hx.keep s04.kt (zae _)) hg hl) (hP.put (g:=.bare z) (fun _ h=>h) (Nat.le_refl _) zok (by simp only[fdp];omega) ?_)
  simp only[fwz]
  omega
set_option maxHeartbeats 1000000 in
theorem ok_grown (F:Fun K "_law_grown" "_law_grown" s__law_grown f fd) (T:Txt K mg aB aO) (BT:FB P w K mg base CX0 4 "_law_tree" fT dT' ["_law_cell","_law_names_here","_law_deep_here"] (zcy K 3)) (BM:FB P w K mg base CX0 1 "_law_mixed" fM dM ["_law_cell","_law_k"] zbe) :
  FnOk P w K mg base CX0 5 f fd ["_law_pile","_law_cell","_law_names_here"] (zfD K):=by
 refine F.ok zaQ (fun vs H Q E h=>?_) (fun cdv A outer s H vs Q E hr h=>?_)
 ·obtain⟨pl,nl,c,xs,fs,zs,i,rfl,_⟩:=h
  rfl
 obtain⟨pl,nl,c,xs,fs,zs,i,rfl,hpl,hx,hN,hP,hi,q⟩:=h
 have hr1:aw 1 _:=hr.mono (by decide)
 obtain⟨t4,h4,q4⟩:=grown4 (f:=f) (outer:=outer) (H0:=H) (E:=E) T BT BM hr
 refine⟨_,(ae (zah (i:=3) zaQ.nd rfl (Or.inl rfl) (am zaq (pv 1) ad))
  (ae (zah (i:=4) zaQ.nd rfl (Or.inl rfl) (am zaT (pv 1) ad))
  (ae (zah (i:=5) zaQ.nd rfl (Or.inl rfl) (ao BT.ok hr rfl BT.m BT.kp BT.b .nil ap (aa (ao BM.ok hr1 rfl BM.m BM.kp BM.b .nil ap (aa (pv 4) (aa ad ac))) (aa (pv 2) (aa (am zaq (pv 4) ad) ac)))))
  (ae (zah (i:=6) zaQ.nd rfl (Or.inl rfl) (ao BT.ok hr rfl BT.m BT.kp BT.b .nil ap (aa (ao BM.ok hr1 rfl BM.m BM.kp BM.b .nil ap (aa (pv 4) (aa ad ac))) (aa (pv 2) (aa (am zaq (am zaT (pv 4) ad) ad) ac))))) h4)))),?_⟩
 have b1:=zbp (c / 13) (show(0:Int) < 3 by decide)
 have b2:=zbp (c / 13 / 3) (show(0:Int) < 3 by decide)
 have e1:c / 13 % 3=(((c / 13 % 3).toNat:Nat):Int):=by omega
 have e2:c / 13 / 3 % 3=(((c / 13 / 3 % 3).toNat:Nat):Int):=by omega
 have wl:∀ d:Nat,d < 3→W d≤310:=fun d hd=>by
  have:d=0∨d=1∨d=2:=by omega
  rcases this with rfl | rfl | rfl
  ·exact W0
  ·exact W1
  ·exact W2
 refine⟨_,rfl,_,_,rfl,rfl,(by show(0:Int) < 13;decide),_,rfl,_,_,rfl,rfl,⟨by decide,by decide⟩,_,rfl,_,_,rfl,fun m1=>⟨_,rfl,_,rfl,_,_,rfl,rfl,(by show(0:Int) < 3;decide),m1,nl,zs,(c / 13 % 3).toNat,?_,hN,by omega,fun H1 o t1 s1 ht1 d1 w1=>?_⟩⟩
 ·rw[←e1]
  rfl
 refine⟨_,rfl,_,_,rfl,fun m2=>⟨_,rfl,_,rfl,_,_,rfl,rfl,⟨by decide,by decide⟩,_,_,rfl,rfl,(by show(0:Int) < 3;decide),m2,nl,zs,(c / 13 / 3 % 3).toNat,?_,hN.same s1,by omega,fun H2 o2 t2 s2 ht2 d2 w2=>?_⟩⟩
 ·rw[←e2]
  rfl
 have l1:=wl _ (show(c / 13 % 3).toNat < 3 by omega)
 have l2:=wl _ (show(c / 13 / 3 % 3).toNat < 3 by omega)
 have s12:=s1.trans s2
 exact q4 _ H2 pl nl o o2 _ _ xs fs zs t1 t2 i _ (s12 _ _ hpl) (hx.keep s12.kt (zae _)) (hN.same s12) hP hi ⟨ht1.keep s2.kt (nol_dTr _),by omega,by omega⟩ ⟨ht2,by omega,by omega⟩ fun H' l ys gs s3=>q H' l ys gs (s12.trans s3)
def zcV (K:W.Frag):Sp:=fun vs H Q _=>∃(a nl:Addr) (ns:List Int) (zs:List Str) (b m:Int),vs=[.ref a,.int b,.ref nl,.int m]∧SqL K H a (ns.map V.int)∧0≤b∧zaV H nl zs∧0≤m∧m≤16 ∧
 ∀(H':Hp) (l:Addr) (ys:List V) (gs:List Fm),ai H H'→H' l=some (.lst ys)→HasL K H' (gs.map dFm) ys→Pile zs gs m.toNat→Q (.ref l) H'
theorem zbn:zad ["_law_script","_law_begin","_law_names_here","_law_many","_law_pile","_law_k"] ["_law_script","_law_begin","_law_names_here","_law_many"] (aj s__law_formulas):=⟨rfl,rfl,rfl,by decide +kernel,rfl,by decide +kernel,by decide +kernel⟩
set_option maxHeartbeats 1000000 in
theorem ok_formulas (F:Fun K "_law_formulas" "_law_formulas" s__law_formulas f fd) (T:Txt K mg aB aO) (BG:FB P w K mg base CX0 5 "_law_grown" fG dG ["_law_pile","_law_cell","_law_names_here"] (zfD K)) (BM:FB P w K mg base CX0 1 "_law_mixed" fM dM ["_law_cell","_law_k"] zbe)
  (BC:FB P w K mg base CX0 1 "_law_cell_at" fC dC ["_law_script","_law_k"] (zdK K)):FnOk P w K mg base CX0 6 f fd ["_law_script","_law_begin","_law_names_here","_law_many"] (zcV K):=by
 refine F.ok zbn (fun vs H Q E h=>?_) (fun cdv A outer s H vs Q E hr h=>?_)
 ·obtain⟨a,nl,ns,zs,b,m,rfl,_⟩:=h
  rfl
 obtain⟨a,nl,ns,zs,b,m,rfl,hS,b0,hN,m0,m16,q⟩:=h
 have hr1:aw 1 _:=hr.mono (by decide)
 refine⟨_,(ae (zah (i:=4) zbn.nd rfl (Or.inl rfl) (zaG ac))
  (ae (zaY PassesOwn.never rfl (zbj rfl T.range (aa (pv 3) ac)) (zaA (i:=5) zbn.nd rfl (Or.inl rfl))
   (ag (zah (i:=4) zbn.nd rfl (Or.inl rfl) (ao BG.ok hr rfl BG.m BG.kp BG.b .nil ap (aa (pv 4) (aa (am zaT (ao BM.ok hr1 rfl BM.m BM.kp BM.b .nil ap (aa (ao BC.ok hr1 rfl BC.m BC.kp BC.b .nil ap (aa (pv 0) (aa (am zbO (pv 1) (pv 5)) ac))) (aa (pv 5) ac))) ad) (aa (pv 2) ac)))))))
  (ag (ar (pv 4))))),?_⟩
 refine⟨lS0,fun l hl=>?_⟩
 have s1:ai H (upd H l (.lst [])):=ah hl _
 have n1:=af (H:=H) (a:=l) (o:=.lst [])
 generalize upd H l (.lst [])=H1 at s1 n1
 refine⟨_,rfl,m,rfl,by omega,by omega,zby (lo:=0) (n:=m.toNat) (fun i σ H'=>ai H H'∧∃(l:Addr) (ys:List V) (gs:List Fm) (v5:Option V),σ=[some (.ref a),some (.int b),some (.ref nl),some (.int m),some (.ref l),v5]∧H' l=some (.lst ys)∧HasL K H' (gs.map dFm) ys∧Pile zs gs i)
  ⟨s1,l,[],[],none,rfl,n1,HasL.nil,(fun g hg=>nomatch hg),by simp [fsz],Nat.le_refl _⟩ ?_ ?_⟩
 ·rintro i σ H2 hi ⟨s2,l2,ys,gs,v5,rfl,hl2,hy,hP⟩
  refine⟨_,rfl,_,rfl,_,rfl,_,rfl,_,_,rfl,rfl,a,ns,_,rfl,s2.seq hS,by omega,fun c=>⟨_,rfl,_,_,rfl,fun mx=>⟨_,_,rfl,rfl,⟨by decide,by decide⟩,_,rfl,l2,nl,_,ys,gs,zs,i,rfl,hl2,hy,hN.same s2,hP,by omega,fun H3 l3 zs3 gs3 s3 hl3 hy3 hP3=>?_⟩⟩⟩
  exact⟨s2.trans s3,l3,zs3,gs3,_,rfl,hl3,hy3,hP3⟩
 ·rintro σ H2 ⟨s2,l2,ys,gs,v5,rfl,hl2,hy,hP⟩
  exact⟨_,rfl,q H2 l2 ys gs s2 hl2 hy hP⟩
end
end F72
namespace K72
open PySem L2
open F72 (Tr Fm dTr ax dFm FOk fdp)
def top (i:Nat):Stmt:=F72.top i
abbrev zdA:Stmt:=top 17
abbrev zdB:Stmt:=top 18
abbrev zdm:Stmt:=top 19
abbrev zbM:Stmt:=zct (top 22) 0
abbrev zbW:Stmt:=zct (top 22) 1
abbrev zch:Stmt:=zct (top 22) 2
abbrev zbC:Stmt:=zct (top 22) 3
abbrev za1:Stmt:=zct (top 22) 4
abbrev za9:Stmt:=zct (top 22) 5
abbrev zcW:Stmt:=top 23
abbrev zcg:Stmt:=top 29
abbrev zcq:Stmt:=top 30
abbrev zcl:Stmt:=top 31
abbrev zcf:Stmt:=top 32
abbrev zcG:Stmt:=top 33
abbrev zeG:Stmt:=top 34
abbrev zdl:Stmt:=top 35
abbrev zcH:Stmt:=top 36
abbrev zcI:Stmt:=top 37
abbrev zd2:Stmt:=top 38
abbrev zbV:Stmt:=top 39
abbrev zcX:Stmt:=top 40
abbrev zcF:Stmt:=top 41
theorem zaH {X:Cx} {ss:List Stmt}:PSs X ss (fun _ _ _=>False):=fun _ _ _ _ _ _ h=>h.elim
abbrev abc:Str:="abcdefghijklmnopqrstuvwxyz"
def isL (c:Str):Bool:=!(Builtin.Str.occurrences abc c 0 abc.length 1).isEmpty
theorem zgH:∀ c∈abc.cps.toList,isL ⟨#[c]⟩=true:=by decide +kernel
def ends:List Nat:=[40,41,44,32]
theorem ziu:∀ c∈ends,isL ⟨#[c]⟩=false:=by decide +kernel
def cp (s:Str):List Nat:=s.cps.toList
theorem zau (s:Str):(cp s).length=s.length:=by simp [cp,Str.length]
theorem za8 (a b:Str):cp (a++b)=cp a++cp b:=by
 show(a.cps++b.cps).toList=_
 exact Array.toList_append
theorem zc1 {a b:Str} (h:cp a=cp b):a=b:=by
 cases a;cases b
 unfold cp at h
 congr
 exact Array.ext' h
def cfl (s:Str) (i:Nat):List (Str × V):=zaD "place" (.int i) (zaD "text" (.str s) [])
theorem zer (f:Str) (u v:V):∀ fs:List (Str × V),zaD f v (zaD f u fs)=zaD f v fs
 | []=>by simp only[zaD,if_pos]
 | (g,x) :: r=>by
  by_cases c:g=f
  ·simp only[zaD,if_pos c]
  ·simp only[zaD,if_neg c,zer f u v r]
theorem zdh (f:Str) (v:V):∀ fs:List (Str × V),(zaD f v fs).length≤fs.length+1
 | []=>Nat.le_refl _
 | (g,x) :: r=>by
  by_cases c:g=f
  ·simp only[zaD,if_pos c,List.length_cons];omega
  ·have:=zdh f v r
   simp only[zaD,if_neg c,List.length_cons];omega
theorem zaZ (s:Str) (i:Nat):(cfl s i).lookup ("place":Str)=some (.int i):=by
 unfold cfl
 rw[zbh,if_pos rfl]
theorem zce (s:Str) (i:Nat):(cfl s i).lookup ("text":Str)=some (.str s):=by
 unfold cfl
 rw[zbh,if_neg (by decide +kernel),zbh,if_pos rfl]
theorem zdy (s:Str) (i:Nat) {m:Str} (h1:¬m="place") (h2:¬m="text"):(cfl s i).lookup m=none:=by
 unfold cfl
 rw[zbh,if_neg h1,zbh,if_neg h2]
 rfl
theorem zgD (s:Str) (i j:Nat):zaD "place" (.int j) (cfl s i)=cfl s j:=zer _ _ _ _
theorem zgE (s:Str) (i:Nat):(cfl s i).length < 1000:=by
 have h1:=zdh "place" (.int i) (zaD "text" (.str s) [])
 have h2:=zdh "text" (.str s) []
 show(zaD _ _ _).length < 1000
 have h4:([]:List (Str × V)).length=0:=rfl
 omega
theorem zes (s:Str) (i:Nat):(cfl s i).lookup ("is_over":Str)=none:=zdy _ _ (by decide +kernel) (by decide +kernel)
theorem zaw (s:Str) (i:Nat):(cfl s i).lookup ("takes":Str)=none:=zdy _ _ (by decide +kernel) (by decide +kernel)
theorem zdF (s:Str) (i:Nat):(cfl s i).lookup ("take_word":Str)=none:=zdy _ _ (by decide +kernel) (by decide +kernel)
theorem zbB (s:Str) (i:Nat):(cfl s i).lookup ("take_tree":Str)=none:=zdy _ _ (by decide +kernel) (by decide +kernel)
theorem zdp (s:Str) (i:Nat):(cfl s i).lookup ("take_trees":Str)=none:=zdy _ _ (by decide +kernel) (by decide +kernel)
def zav (CU:Addr) (H:Hp) (c:Addr) (s:Str) (i:Nat):Prop:=(∃ dx,H c=some (.ins CU dx (cfl s i)))∧i≤s.length∧s.length≤1000000
def FrC (H H':Hp) (c:Addr):Prop:=∀ b o,H b=some o→b≠c→H' b=some o
theorem FrC.of_same {H H':Hp} {c:Addr} (s:ai H H'):FrC H H' c:=fun b o e _=>s b o e
theorem FrC.trans {H H1 H2:Hp} {c:Addr} (a:FrC H H1 c) (b:FrC H1 H2 c):FrC H H2 c:=fun x o e n=>b x o (a x o e n) n
theorem zav.kt {CU:Addr} {H H':Hp} {c:Addr} {s:Str} {i:Nat} (h:zav CU H c s i) (f:FrC H H' c):zaR H H':=fun b ys q=>by
 obtain⟨⟨dx,hc⟩,_⟩:=h
 rcases q with q | ⟨o,q⟩
 ·exact .inl (f _ _ q (fun z=>by rw[z,hc]at q;cases q))
 ·exact .inr ⟨o,f _ _ q (fun z=>by rw[z,hc]at q;cases q)⟩
theorem zav.same {CU:Addr} {H H':Hp} {c:Addr} {s:Str} {i:Nat} (h:zav CU H c s i) (m:ai H H'):zav CU H' c s i:=by
 obtain⟨⟨dx,hc⟩,r⟩:=h
 exact⟨⟨dx,m _ _ hc⟩,r⟩
theorem zav.ne {CU:Addr} {H:Hp} {c b:Addr} {s:Str} {i:Nat} (h:zav CU H c s i) (e:H b=none):b≠c:=fun z=>by
 obtain⟨⟨dx,hc⟩,_⟩:=h
 rw[z,hc]at e
 cases e
theorem zav.putL {CU:Addr} {H:Hp} {c z:Addr} {s:Str} {i:Nat} {zs us:List V} (h:zav CU H c s i) (hz:H z=some (.lst zs)):zav CU (upd H z (.lst us)) c s i:=by
 obtain⟨⟨dx,hc⟩,r⟩:=h
 refine⟨⟨dx,?_⟩,r⟩
 rw[zaj (fun e=>by rw[e,hz]at hc;cases hc)]
 exact hc
structure TxC (K:W.Frag) (mg:Str→Option Value) (CU:Addr):Prop where
 cl:Cls K CU
 nP:zb5 K CU "place"
 nT:zb5 K CU "text"
 small:∃ t,mg "SMALL_LETTERS"=some (.str abc t)
 len:mg "len"=none
 tuple:mg "tuple"=none
section
variable {P:Program} {w:World} {K:W.Frag} {mg:Str→Option Value} {base:Heap} {CU:Addr} {f fO fK fW fT fS:Addr} {fd dO dK' dW dT' dS:FuncData}
def zfF (CU:Addr):Sp:=fun vs H Q _=>∃(c dx:Addr) (s:Str),vs=[.ref c,.str s]∧H c=some (.ins CU dx [])∧s.length≤1000000∧∀ H',zav CU H' c s 0→FrC H H' c→Q .non H'
theorem zh4:zad ["self","text"] ["self","text"] (aj zbM):=⟨rfl,rfl,rfl,by decide +kernel,rfl,by decide +kernel,by decide +kernel⟩
theorem zij (F:Fun K "__init__" "Cursor.__init__" zbM f fd) (Z:TxC K mg CU):FnOk P w K mg base CX0 1 f fd ["self","text"] (zfF CU):=by
 refine F.ok zh4 (fun vs H Q E h=>?_) (fun cdv A outer s H vs Q E hr h=>?_)
 ·obtain⟨c,dx,s,rfl,_⟩:=h
  rfl
 obtain⟨c,dx,s,rfl,hc,hl,q⟩:=h
 refine⟨_,(ae (zha (pv 0) (pv 1) rfl) (ag (zha (pv 0) ad rfl))),?_⟩
 refine⟨_,rfl,_,rfl,c,CU,dx,[],rfl,hc,Z.cl,Z.nT,(by show 0 < 1000;decide),?_⟩
 refine⟨_,rfl,c,CU,dx,_,rfl,af,Z.cl,Z.nP,(by have:=zdh "text" (.str s) [];have h0:([]:List (Str × V)).length=0:=rfl;omega),?_⟩
 exact q _ ⟨⟨dx,af⟩,Nat.zero_le _,hl⟩ fun b o e n=>by rw[zaj n,zaj n];exact e
def zeA (CU:Addr):Sp:=fun vs H Q _=>∃(c:Addr) (s:Str) (i:Nat),vs=[.ref c]∧zav CU H c s i∧Q (.bl (decide (i=s.length))) H
theorem ziE:zad ["self"] ["self"] (aj zbW):=⟨rfl,rfl,rfl,by decide +kernel,rfl,by decide +kernel,by decide +kernel⟩
theorem ziN (F:Fun K "is_over" "Cursor.is_over" zbW f fd) (Z:TxC K mg CU):FnOk P w K mg base CX0 1 f fd ["self"] (zeA CU):=by
 refine F.ok ziE (fun vs H Q E h=>?_) (fun cdv A outer s H vs Q E hr h=>?_)
 ·obtain⟨c,s,i,rfl,_⟩:=h
  rfl
 obtain⟨c,s,i,rfl,C,q⟩:=h
 refine⟨_,(ag (ar (zbX zas (zbN (pv 0) rfl) (zaI zb6 rfl Z.len PySem.boot_len (aa (zbN (pv 0) rfl) ac)) (zag _)))),?_⟩
 obtain⟨⟨dx,hc⟩,hi,hl⟩:=id C
 refine⟨_,rfl,c,CU,dx,_,_,rfl,hc,Z.cl,Z.nP,zaZ _ _,_,rfl,c,CU,dx,_,_,rfl,hc,Z.cl,Z.nT,zce _ _,s,rfl,F72.szM (by omega),rfl,?_⟩
 have e:decide (V.int (i:Int)=V.int ((s.length:Nat):Int))=decide (i=s.length):=by
  rw[Bool.eq_iff_iff,decide_eq_true_iff,decide_eq_true_iff]
  exact⟨fun h=>by injection h with h;omega,fun h=>by rw[h]⟩
 show Q (.bl (decide (V.int (i:Int)=V.int ((s.length:Nat):Int)))) H
 rw[e]
 exact q
def zfC (CU:Addr):Sp:=fun vs H Q _=>∃(c:Addr) (s y:Str) (i:Nat),vs=[.ref c,.str y]∧zav CU H c s i∧y.length≤1000∧(zcw s y i=true→∀ H',zav CU H' c s (i+y.length)→FrC H H' c→Q (.bl true) H')∧(zcw s y i=false→Q (.bl false) H)
theorem zh2:zad ["self","signs"] ["self","signs"] (aj zch):=⟨rfl,rfl,rfl,by decide +kernel,rfl,by decide +kernel,by decide +kernel⟩
theorem ziz {s y:Str} {i:Nat} (h:zcw s y i=true) (hi:i≤s.length):i+y.length≤s.length:=by
 have e:=congrArg List.length (eq_of_beq h)
 rw[List.length_take,List.length_drop]at e
 have e1:=zau s
 have e2:=zau y
 unfold cp at e1 e2
 rw[e1,e2]at e
 omega
theorem zif (F:Fun K "takes" "Cursor.takes" zch f fd) (Z:TxC K mg CU):FnOk P w K mg base CX0 1 f fd ["self","signs"] (zfC CU):=by
 refine F.ok zh2 (fun vs H Q E h=>?_) (fun cdv A outer s H vs Q E hr h=>?_)
 ·obtain⟨c,s,y,i,rfl,_⟩:=h
  rfl
 obtain⟨c,s,y,i,rfl,C,y1,q1,q2⟩:=h
 refine⟨_,(ae (zai (zbw (zaX (zbl PySem.F.plainAttrs_str PySem.F.slot_str_startswith PySem.F.type_str_startswith zgX (zbN (pv 0) rfl) (aa (pv 1) (aa (zbN (pv 0) rfl) ac)))))
   (ag (ar zfg))
   zab)
  (ae (ze1 (pv 0) (zaI zb6 rfl Z.len PySem.boot_len (aa (pv 1) ac)) zhl)
  (ag (ar zfg)))),?_⟩
 obtain⟨⟨dx,hc⟩,hi,hl⟩:=id C
 refine⟨_,rfl,c,CU,dx,_,_,rfl,hc,Z.cl,Z.nT,zce _ _,rfl,_,rfl,_,rfl,c,CU,dx,_,_,rfl,hc,Z.cl,Z.nP,zaZ _ _,s,y,i,rfl,rfl,hi,_,rfl,?_⟩
 cases e:zcw s y i with
 | false=>exact zbJ (q2 e)
 | true =>
  have le:=ziz e hi
  refine zaS ⟨_,rfl,c,CU,dx,_,_,rfl,hc,Z.cl,Z.nP,zaZ _ _,_,rfl,y,rfl,F72.szM (by omega),_,_,rfl,rfl,dx,_,hc,zgE _ _,?_⟩
  have ep:zaD "place" (.int ((i:Int)+(y.length:Nat))) (cfl s i)=cfl s (i+y.length):=zgD s i (i+y.length)
  rw[ep]
  exact q1 e _ ⟨⟨dx,af⟩,le,hl⟩ fun b o e n=>by rw[zaj n];exact e
end
end K72
namespace K72
open PySem L2
open F72 (Tr Fm dTr ax dFm FOk fdp)
def Wd (n:Str):Prop:=cp n≠[]∧(∀ c∈cp n,c∈cp abc)∧n.length≤20
def Eow (r:List Nat):Prop:=∀ c t,r=c :: t→c∈ends
theorem Eow.nil:Eow []:=fun _ _ h=>by cases h
theorem Eow.cons {c:Nat} {t:List Nat} (h:c∈ends):Eow (c :: t):=fun _ _ e=>by cases e;exact h
theorem zb3 {s y:Str} {i:Nat} {r:List Nat} (h:(cp s).drop i=cp y++r):zcw s y i=true:=by
 unfold zcw
 have e:s.cps.toList.drop i=cp y++r:=h
 rw[e,←zau y,List.take_left']
 ·exact beq_self_eq_true _
 ·rfl
theorem zb0 {s y:Str} {i:Nat} {r:List Nat} (h:(cp s).drop i=r) (n:∀ t,r≠cp y++t):zcw s y i=false:=by
 cases e:zcw s y i with
 | false=>rfl
 | true =>
  exfalso
  have e1:=eq_of_beq e
  have e2:s.cps.toList.drop i=r:=h
  rw[e2]at e1
  exact n (r.drop y.length) (by
   have:=List.take_append_drop y.length r
   rw[e1]at this
   exact this.symm)
theorem zaJ {s:Str} {i:Nat} {a r:List Nat} (h:(cp s).drop i=a++r):(cp s).drop (i+a.length)=r:=by
 rw[←List.drop_drop,h,List.drop_left']
 rfl
theorem zen {s n:Str} {i:Nat} {r:List Nat} (h:(cp s).drop i=cp n++r) (hi:i≤s.length):Txt.slice s (some (i:Int)) (some ((i+n.length:Nat):Int))=n:=by
 have l:i+n.length≤(cp s).length:=by
  have e:=congrArg List.length h
  rw[List.length_drop,List.length_append,zau n]at e
  have:=zau s
  by_cases c:n.length=0
  ·omega
  ·omega
 have e:=eq_of_beq (PyProof.Rows.slice_closes (x:=s) (i:=(i:Int)) (j:=((i+n.length:Nat):Int)) ⟨by omega,by omega,by show((i+n.length:Nat):Int)≤((cp s).length:Nat);omega⟩)
 rw[e]
 refine zc1 ?_
 show((s.cps.toList.drop (i:Int).toNat).take (((i+n.length:Nat):Int) - (i:Int)).toNat).toArray.toList=cp n
 rw[List.toList_toArray,show((i:Int)).toNat=i by omega,show(((i+n.length:Nat):Int) - (i:Int)).toNat=n.length by omega]
 have e2:s.cps.toList.drop i=cp n++r:=h
 rw[e2,←zau n,List.take_left']
 rfl
section
variable {P:Program} {w:World} {K:W.Frag} {mg:Str→Option Value} {base:Heap} {CU:Addr} {f fO fK fW fT fS:Addr} {fd dO dK' dW dT' dS:FuncData}
def zfE (CU:Addr):Sp:=fun vs H Q _=>∃(c:Addr) (s n:Str) (i:Nat) (r:List Nat),vs=[.ref c]∧zav CU H c s i∧(cp s).drop i=cp n++r∧Wd n∧Eow r∧∀ H',zav CU H' c s (i+n.length)→FrC H H' c→Q (.str n) H'
theorem zgh:zad ["self","begin"] ["self"] (aj zbC):=⟨rfl,rfl,rfl,by decide +kernel,rfl,by decide +kernel,by decide +kernel⟩
theorem zii (F:Fun K "take_word" "Cursor.take_word" zbC f fd) (Z:TxC K mg CU) (oO:FnOk P w K mg base CX0 1 fO dO ["self"] (zeA CU)) (bO:aq K dO ["self"] []) (mO:zbL K CU "is_over" fO):FnOk P w K mg base CX0 2 f fd ["self"] (zfE CU):=by
 refine F.ok zgh (fun vs H Q E h=>?_) (fun cdv A outer s H vs Q E hr h=>?_)
 ·obtain⟨c,s,n,i,r,rfl,_⟩:=h
  rfl
 obtain⟨c,s,n,i,r,rfl,C,hd,hw,he,q⟩:=h
 obtain⟨t1,e1⟩:=Z.small
 refine⟨_,(ae (zah (i:=1) zgh.nd rfl (Or.inl rfl) (zbN (pv 0) rfl))
  (ae (zfJ PassesOwn.never (PW.pt (zej (zbw (zaX (zdi (pv 0) Z.cl mO oO hr bO .nil ap))) (zeH (zaa ze2 (av zhj (zbN (pv 0) rfl) (zbN (pv 0) rfl) (fun _ _=>rfl)) (zaO (v:=.str abc) rfl e1 ⟨_,rfl⟩) rfl))))
   (ag (ze1 (pv 0) ad zhl)))
  (ae (zai (zaa zas (zbN (pv 0) rfl) (pv 1) (zag _))
   zaH
   zab)
  (ag (ar (zbg zeg (zbN (pv 0) rfl) (zbi (pv 1)) (zbi (zbN (pv 0) rfl)))))))),?_⟩
 obtain⟨⟨dx,hc⟩,hi,hl⟩:=id C
 have nl:=zau n
 have sl:=zau s
 have len:i+n.length+r.length=s.length:=by
  have e:=congrArg List.length hd
  rw[List.length_drop,List.length_append,nl,sl]at e
  omega
 refine⟨_,rfl,c,CU,dx,_,_,rfl,hc,Z.cl,Z.nP,zaZ _ _,fun m σ H'=>∃ j,m+j=n.length∧σ=[some (.ref c),some (.int (i:Nat))]∧zav CU H' c s (i+j)∧FrC H H' c,⟨n.length,0,rfl,rfl,C,FrC.of_same (ai.refl _)⟩,?_⟩
 rintro m σ H2 ⟨j,mj,rfl,C2,f2⟩
 obtain⟨⟨dx2,hc2⟩,hi2,_⟩:=id C2
 have dj:(cp s).drop (i+j)=(cp n).drop j++r:=by
  rw[←List.drop_drop,hd,List.drop_append_of_le_length (by rw[nl];omega)]
 have stop:m=0→(cp s).drop (i+j)=r:=fun e=>by rw[dj,List.drop_of_length_le (by rw[nl];omega),List.nil_append]
 have fin:m=0→∀ {tt:TS},True:=fun _ _=>trivial
 refine⟨_,rfl,c,dx2,_,rfl,hc2,zes _ _,c,s,i+j,rfl,C2,_,rfl,?_⟩
 have last:m=0→j=n.length:=fun e=>by omega
 by_cases m0:m=0
 ·have ej:=last m0
  subst ej
  have n1:1≤n.length:=by
   rcases Nat.eq_zero_or_pos n.length with z | z
   ·exact absurd (List.length_eq_zero_iff.mp (by rw[nl];exact z)) hw.1
   ·exact z
  have tail:∀ {D:zba},D.rt=Q→True:=fun _=>trivial
  by_cases ov:i+n.length=s.length
  ·rw[show decide (i+n.length=s.length)=true from decide_eq_true ov]
   refine zaS (zaS ?_)
   refine⟨_,rfl,c,CU,dx2,_,_,rfl,hc2,Z.cl,Z.nP,zaZ _ _,_,rfl,rfl,_,rfl,zal (fun cc=>?_) (fun _=>?_)⟩
   ·have:=of_decide_eq_true cc
    injection this with this
    omega
   ·refine⟨_,rfl,c,CU,dx2,_,_,rfl,hc2,Z.cl,Z.nT,zce _ _,_,rfl,_,rfl,_,rfl,c,CU,dx2,_,_,rfl,hc2,Z.cl,Z.nP,zaZ _ _,_,rfl,s,rfl,F72.szM (by omega),?_⟩
    rw[zen hd hi]
    exact q H2 C2 f2
  ·rw[show decide (i+n.length=s.length)=false from decide_eq_false ov]
   have dr:=stop m0
   obtain⟨ch,rt,er⟩:∃ ch rt,r=ch :: rt:=by
    cases r with
    | nil=>simp at len;omega
    | cons a b=>exact⟨a,b,rfl⟩
   have chat:atI s.cps.toList ((i+n.length:Nat):Int)=some ch:=zat (by
    have e:(cp s)[i+n.length]?=((cp s).drop (i+n.length))[0]?:=by rw[List.getElem?_drop];rfl
    show(cp s)[i+n.length]?=some ch
    rw[e,dr,er]
    rfl)
   have nb:=ziu ch (he ch rt er)
   refine zbJ ⟨_,rfl,c,CU,dx2,_,_,rfl,hc2,Z.cl,Z.nT,zce _ _,_,rfl,c,CU,dx2,_,_,rfl,hc2,Z.cl,Z.nP,zaZ _ _,s,_,ch,rfl,rfl,F72.szM (by omega),chat,_,_,rfl,rfl,_,rfl,zal (fun cc=>?_) (fun _=>?_)⟩
   ·have cc':isL ⟨#[ch]⟩=true:=cc
    rw[nb]at cc'
    cases cc'
   refine⟨_,rfl,c,CU,dx2,_,_,rfl,hc2,Z.cl,Z.nP,zaZ _ _,_,rfl,rfl,_,rfl,zal (fun cc=>?_) (fun _=>?_)⟩
   ·have:=of_decide_eq_true cc
    injection this with this
    omega
   ·refine⟨_,rfl,c,CU,dx2,_,_,rfl,hc2,Z.cl,Z.nT,zce _ _,_,rfl,_,rfl,_,rfl,c,CU,dx2,_,_,rfl,hc2,Z.cl,Z.nP,zaZ _ _,_,rfl,s,rfl,F72.szM (by omega),?_⟩
    rw[zen hd hi]
    exact q H2 C2 f2
 ·have jl:j < n.length:=by omega
  obtain⟨ch,hch⟩:∃ ch,(cp n)[j]?=some ch:=⟨_,List.getElem?_eq_getElem (by rw[nl];exact jl)⟩
  have yes:=zgH ch (hw.2.1 ch (List.mem_of_getElem? hch))
  have chat:atI s.cps.toList ((i+j:Nat):Int)=some ch:=zat (by
   have e:(cp s)[i+j]?=((cp s).drop (i+j))[0]?:=by rw[List.getElem?_drop];rfl
   show(cp s)[i+j]?=some ch
   rw[e,dj,List.getElem?_append_left (by rw[List.length_drop,nl];omega),List.getElem?_drop]
   exact hch)
  rw[show decide (i+j=s.length)=false from decide_eq_false (by omega)]
  refine zbJ ⟨_,rfl,c,CU,dx2,_,_,rfl,hc2,Z.cl,Z.nT,zce _ _,_,rfl,c,CU,dx2,_,_,rfl,hc2,Z.cl,Z.nP,zaZ _ _,s,_,ch,rfl,rfl,F72.szM (by omega),chat,_,_,rfl,rfl,_,rfl,zal (fun _=>?_) (fun cc=>absurd (show isL ⟨#[ch]⟩=true from yes) cc)⟩
  refine⟨fun σ' H'=>∃ m',m' < m∧∃ j,m'+j=n.length∧σ'=[some (.ref c),some (.int (i:Nat))]∧zav CU H' c s (i+j)∧FrC H H' c,fun _ _ h=>h,?_⟩
  refine⟨_,rfl,c,CU,dx2,_,_,rfl,hc2,Z.cl,Z.nP,zaZ _ _,_,_,rfl,rfl,dx2,_,hc2,zgE _ _,?_⟩
  have ep:zaD "place" (.int (((i+j:Nat):Int)+1)) (cfl s (i+j))=cfl s (i+j+1):=zgD s (i+j) (i+j+1)
  rw[ep]
  exact⟨m - 1,by omega,j+1,by omega,rfl,⟨⟨dx2,af⟩,by omega,hl⟩,fun b o e n=>by rw[zaj n];exact f2 _ _ e n⟩
end
end K72
namespace K72
open PySem L2
open F72 (Tr Fm dTr ax dFm FOk fdp dp dps)
mutual
def cT:Tr→List Nat
 | .node n ts=>cp n++cB ts
def cB:List Tr→List Nat
 | []=>[]
 | t :: ts=>40 :: (cT t++cR ts)
def cR:List Tr→List Nat
 | []=>[41]
 | t :: ts=>44 :: 32 :: (cT t++cR ts)
end
mutual
def LT:Tr→Prop
 | .node n ts=>Wd n∧LTs ts∧ts.length≤1000
def LTs:List Tr→Prop
 | []=>True
 | t :: ts=>LT t∧LTs ts
end
theorem zdP:∀ {ts:List Tr},LTs ts→∀ t∈ts,LT t
 | t :: ts,h,u,hu=>by
  simp only[LTs]at h
  rcases List.mem_cons.mp hu with rfl | hu
  ·exact h.1
  ·exact zdP h.2 u hu
def Eot (r:List Nat):Prop:=∀ c t,r=c :: t→c∈ends∧c≠40
theorem Eot.eow {r:List Nat} (h:Eot r):Eow r:=fun c t e=>(h c t e).1
theorem Eot.cR (ts:List Tr) (r:List Nat):Eot (cR ts++r):=fun c t e=>by
 cases ts with
 | nil=>simp only[K72.cR,List.singleton_append]at e;cases e;decide
 | cons u us=>simp only[K72.cR,List.cons_append]at e;cases e;decide
theorem zdq:cp "("=[40]:=by decide +kernel
theorem c_cl:cp ")"=[41]:=by decide +kernel
theorem c_co:cp ", "=[44,32]:=by decide +kernel
section
variable {P:Program} {w:World} {K:W.Frag} {mg:Str→Option Value} {base:Heap} {CU:Addr} {f fO fK fW fT fS:Addr} {fd dO dK' dW dT' dS:FuncData}
def zcb (K:W.Frag) (CU:Addr) (b:Nat):Sp:=fun vs H Q _=>∃(c:Addr) (s:Str) (i:Nat) (t:Tr) (r:List Nat),vs=[.ref c,.int (b:Nat)]∧zav CU H c s i∧(cp s).drop i=cT t++r∧LT t∧dp t≤b+1∧Eot r ∧
 ∀(H':Hp) (v:V),zav CU H' c s (i+(cT t).length)→FrC H H' c→Has K H' (dTr t) v→Q v H'
def zcP (K:W.Frag) (CU:Addr) (b:Nat):Sp:=fun vs H Q _=>∃(c:Addr) (s:Str) (i:Nat) (t:Tr) (ts:List Tr) (r:List Nat),vs=[.ref c,.int (b:Nat)]∧zav CU H c s i∧(cp s).drop i=cT t++(cR ts++r)∧LTs (t :: ts)∧(∀ u∈t :: ts,dp u≤b+1)∧(t :: ts).length≤1000 ∧
 ∀(H':Hp) (p:Addr) (xs:List V),zav CU H' c s (i+(cT t++cR ts).length)→FrC H H' c→H' p=some (.tup xs)→HasL K H' (ax (t :: ts)) xs→Q (.ref p) H'
structure OwC (P:Program) (w:World) (K:W.Frag) (mg:Str→Option Value) (base:Heap) (CU fK fW:Addr) (dK' dW:FuncData):Prop where
 T:FnOk P w K mg base CX0 1 fK dK' ["self","signs"] (zfC CU)
 bT:aq K dK' ["self","signs"] []
 mT:zbL K CU "takes" fK
 W:FnOk P w K mg base CX0 2 fW dW ["self"] (zfE CU)
 bW:aq K dW ["self"] []
 mW:zbL K CU "take_word" fW
theorem ze0:zad ["self","brackets","trees"] ["self","brackets"] (aj za9):=⟨rfl,rfl,rfl,by decide +kernel,rfl,by decide +kernel,by decide +kernel⟩
theorem ze3 {b k:Nat} (F:Fun K "take_trees" "Cursor.take_trees" za9 f fd) (Z:TxC K mg CU) (O:OwC P w K mg base CU fK fW dK' dW) (hk:1≤k) (oT:FnOk P w K mg base CX0 k fT dT' ["self","brackets"] (zcb K CU b)) (bT:aq K dT' ["self","brackets"] []) (mT:zbL K CU "take_tree" fT):FnOk P w K mg base CX0 (k+1) f fd ["self","brackets"] (zcP K CU b):=by
 refine F.ok ze0 (fun vs H Q E h=>?_) (fun cdv A outer s H vs Q E hr h=>?_)
 ·obtain⟨c,s,i,t,ts,r,rfl,_⟩:=h
  rfl
 obtain⟨c,s,i,t,ts,r,rfl,C,hd,hw,hb,l9,q⟩:=h
 have hr1:aw 1 _:=hr.mono hk
 refine⟨_,(ae (zah (i:=2) ze0.nd rfl (Or.inl rfl) (zaG (aa (zaN (pv 0) Z.cl mT oT hr bT .nil ap (aa (pv 1) ac)) ac)))
  (ae (zfJ PassesOwn.never (zaX (zaN (pv 0) Z.cl O.mT O.T hr1 O.bT .nil ap (aa ak ac)))
   (ag (zaM (zbl PySem.F.plainAttrs_list PySem.F.slot_list_append PySem.F.type_list_append zbY (pv 2) (aa (zaN (pv 0) Z.cl mT oT hr bT .nil ap (aa (pv 1) ac)) ac)))))
  (ae (zai (zbw (zaX (zaN (pv 0) Z.cl O.mT O.T hr1 O.bT .nil ap (aa ak ac))))
   zaH
   zab)
  (ag (ar (zbx zcm rfl Z.tuple PyProof.Rows.Boot.tuple (aa (pv 2) ac))))))),?_⟩
 obtain⟨⟨dx,hc⟩,_⟩:=id C
 simp only[LTs]at hw
 have lts:=zdP hw.2
 refine⟨_,rfl,c,dx,_,rfl,hc,zbB _ _,_,rfl,c,s,i,t,cR ts++r,rfl,C,hd,hw.1,hb t (by simp),Eot.cR _ _,fun H1 v C1 f1 h1=>⟨lS1,fun l hl=>?_⟩⟩
 have s2:=ah hl (.lst [v])
 have n2:=af (H:=H1) (a:=l) (o:=.lst [v])
 generalize upd H1 l (.lst [v])=H2 at s2 n2
 have C2:=C1.same s2
 have nlc:=C1.ne hl
 have hl0:H l=none:=by
  cases e:H l with
  | none=>rfl
  | some o=>rw[f1 _ _ e nlc]at hl;cases hl
 refine⟨fun m σ H'=>∃(j:Nat) (us:List V) (i':Nat),m+j=ts.length∧σ=[some (.ref c),some (.int (b:Nat)),some (.ref l)]∧H' l=some (.lst us)∧HasL K H' (ax (t :: ts.take j)) us∧zav CU H' c s i'∧(cp s).drop i'=cR (ts.drop j)++r∧i'+(cR (ts.drop j)).length=i+(cT t++cR ts).length∧FrC H H' c,
  ⟨ts.length,0,[v],i+(cT t).length,rfl,rfl,n2,HasL.one (h1.keep s2.kt (F72.nol_dTr _)),C2,zaJ hd,by rw[List.drop_zero,List.length_append];omega,f1.trans (FrC.of_same s2)⟩,?_⟩
 rintro m σ H3 ⟨j,us,i',mj,rfl,hl3,hx3,C3,d3,e3,f3⟩
 obtain⟨⟨dx3,hc3⟩,_⟩:=id C3
 have ul:us.length=j+1:=by
  rw[←hx3.length,F72.dTrs_length,List.length_cons,List.length_take]
  omega
 simp only[List.length_cons]at l9
 by_cases jl:j < ts.length
 ·obtain⟨u,hu⟩:∃ u,ts[j]?=some u:=⟨_,List.getElem?_eq_getElem jl⟩
  have um:=List.mem_of_getElem? hu
  have ed:ts.drop j=u :: ts.drop (j+1):=by
   obtain⟨hi,e⟩:=List.getElem?_eq_some_iff.mp hu
   rw[List.drop_eq_getElem_cons hi,e]
  rw[ed]at d3 e3
  simp only[cR]at d3 e3
  have d3':(cp s).drop i'=cp ", "++(cT u++(cR (ts.drop (j+1))++r)):=by
   rw[d3,c_co]
   simp
  refine⟨_,rfl,c,dx3,_,rfl,hc3,zaw _ _,c,s,", ",i',rfl,C3,by decide +kernel,fun _ H4 C4 f4=>?_,fun e=>by rw[zb3 d3']at e;cases e⟩
  have c2:((", ":Str)).length=2:=by decide +kernel
  rw[c2]at C4
  have d4:(cp s).drop (i'+2)=cT u++(cR (ts.drop (j+1))++r):=by
   have:=zaJ d3'
   rw[c_co]at this
   exact this
  refine⟨_,rfl,zbJ ?_⟩
  have hl4:=f4 _ _ hl3 nlc
  refine⟨fun σ' H'=>∃ m',m' < m∧∃(j:Nat) (us:List V) (i':Nat),m'+j=ts.length∧σ'=[some (.ref c),some (.int (b:Nat)),some (.ref l)]∧H' l=some (.lst us)∧HasL K H' (ax (t :: ts.take j)) us∧zav CU H' c s i'∧(cp s).drop i'=cR (ts.drop j)++r∧i'+(cR (ts.drop j)).length=i+(cT t++cR ts).length∧FrC H H' c,fun _ _ h=>h,?_⟩
  obtain⟨⟨dx4,hc4⟩,_⟩:=id C4
  refine⟨_,rfl,.inl ⟨rfl,_,SqL.of hl4⟩,_,rfl,c,dx4,_,rfl,hc4,zbB _ _,_,rfl,c,s,i'+2,u,_,rfl,C4,d4,lts u um,hb u (List.mem_cons_of_mem _ um),Eot.cR _ _,fun H5 x C5 f5 h5=>?_⟩
  have hl5:=f5 _ _ hl4 nlc
  have kt:zaR H5 (upd H5 l (.lst (us++[x]))):=zaR.lst hl5
  refine⟨l,us,x,rfl,rfl,hl5,Nat.lt_of_lt_of_le (show us.length < 16000000 by omega) (F72.szM (Nat.le_refl _)),m - 1,by omega,j+1,us++[x],_,by omega,rfl,af,?_,C5.putL hl5,zaJ d4,?_,fun b' o e n=>?_⟩
  ·have et:ax (t :: ts.take (j+1))=ax (t :: ts.take j)++[dTr u]:=by
    rw[zaF hu,F72.dTrs_map,F72.dTrs_map]
    simp
   rw[et]
   exact((hx3.keep (C3.kt (f4.trans f5)) (F72.nols_dTrs _)).keep kt (F72.nols_dTrs _)).append (HasL.one (h5.keep kt (F72.nol_dTr _)))
  ·simp only[List.length_cons,List.length_append]at e3 ⊢
   omega
  ·rw[zaj (fun z=>by rw[z,hl0]at e;cases e)]
   exact f5 _ _ (f4 _ _ (f3 _ _ e n) n) n
 ·have ej:j=ts.length:=by omega
  subst ej
  rw[List.drop_length]at d3 e3
  simp only[cR]at d3 e3
  rw[List.take_length]at hx3
  refine⟨_,rfl,c,dx3,_,rfl,hc3,zaw _ _,c,s,", ",i',rfl,C3,by decide +kernel,fun e=>?_,fun _=>?_⟩
  ·rw[zb0 d3 (fun t' h=>by rw[c_co]at h;simp at h)]at e
   cases e
  refine⟨_,rfl,zaS ?_⟩
  refine⟨_,rfl,c,dx3,_,rfl,hc3,zaw _ _,c,s,")",i',rfl,C3,by decide +kernel,fun _ H4 C4 f4=>?_,fun e=>by rw[zb3 (r:=r) (by rw[d3,c_cl])]at e;cases e⟩
  have c1:((")":Str)).length=1:=by decide +kernel
  rw[c1]at C4
  have hl4:=f4 _ _ hl3 nlc
  refine⟨_,rfl,zaS ⟨_,rfl,l,_,rfl,.inl ⟨SqL.of hl4,fun p hp=>?_⟩⟩⟩
  have s5:=ah hp (.tup us)
  refine q _ p us ?_ ((f3.trans f4).trans (FrC.of_same s5)) af ((hx3.keep (C3.kt f4) (F72.nols_dTrs _)).keep s5.kt (F72.nols_dTrs _))
  rw[←e3]
  exact C4.same s5
end
end K72
namespace K72
open PySem L2
open F72 (Tr Fm dTr ax dFm FOk fdp dp dps)
section
variable {P:Program} {w:World} {K:W.Frag} {mg:Str→Option Value} {base:Heap} {CU:Addr} {f fO fK fW fT fS:Addr} {fd dO dK' dW dT' dS:FuncData}
theorem zdg:zad ["self","brackets","word"] ["self","brackets"] (aj za1):=⟨rfl,rfl,rfl,by decide +kernel,rfl,by decide +kernel,by decide +kernel⟩
theorem ctree0 (F:Fun K "take_tree" "Cursor.take_tree" za1 f fd) (Z:TxC K mg CU) (O:OwC P w K mg base CU fK fW dK' dW) (bS:aq K dS ["self","brackets"] []) (mS:zbL K CU "take_trees" fS):FnOk P w K mg base CX0 4 f fd ["self","brackets"] (zcb K CU 0):=by
 refine F.ok zdg (fun vs H Q E h=>?_) (fun cdv A outer s H vs Q E hr h=>?_)
 ·obtain⟨c,s,i,t,r,rfl,_⟩:=h
  rfl
 obtain⟨c,s,i,t,r,rfl,C,hd,hw,hb,he,q⟩:=h
 have hr1:aw 1 _:=hr.mono (by decide)
 have hr2:aw 2 _:=hr.mono (by decide)
 refine⟨_,(ae (zah (i:=2) zdg.nd rfl (Or.inl rfl) (zdi (pv 0) Z.cl O.mW O.W hr2 O.bW .nil ap))
  (ae (zai (zbw (zaX (zaN (pv 0) Z.cl O.mT O.T hr1 O.bT .nil ap (aa ak ac))))
   (ag (ar (zaf (aa (pv 2) (aa (zaf ac) ac)))))
   zab)
  zaH)),?_⟩
 obtain⟨⟨dx,hc⟩,_⟩:=id C
 cases t with
 | node n ts =>
 simp only[LT]at hw
 simp only[cT]at hd q
 rw[List.append_assoc]at hd
 have z2:2≤sizeLine:=by decide
 have z0:0≤sizeLine:=Nat.zero_le _
 have ew:Eow (cB ts++r):=by
  cases ts with
  | nil=>exact he.eow
  | cons u us=>exact Eow.cons (by decide)
 refine⟨_,rfl,c,dx,_,rfl,hc,zdF _ _,c,s,n,i,_,rfl,C,hd,hw.1,ew,fun H1 C1 f1=>?_⟩
 have d1:=zaJ hd
 rw[zau]at d1
 obtain⟨⟨dx1,hc1⟩,_⟩:=id C1
 have c1:(("(":Str)).length=1:=by decide +kernel
 cases ts with
 | nil =>
  simp only[cB,List.nil_append,List.append_nil]at d1 q
  rw[zau]at q
  refine⟨_,rfl,c,dx1,_,rfl,hc1,zaw _ _,c,s,"(",_,rfl,C1,by decide +kernel,fun e=>?_,fun _=>?_⟩
  ·rw[zb0 d1 (fun t' h=>by rw[zdq]at h;exact(he _ _ h).2 rfl)]at e
   cases e
  refine⟨_,rfl,zbJ ⟨_,rfl,z0,fun e he'=>⟨z2,fun p hp=>?_⟩⟩⟩
  have s2:=ah he' (.tup [])
  have n2:=af (H:=H1) (a:=e) (o:=.tup [])
  generalize upd H1 e (.tup [])=H2 at s2 n2 hp ⊢
  have s3:=ah hp (.tup [V.str n,V.ref e])
  have n3:=af (H:=H2) (a:=p) (o:=.tup [V.str n,V.ref e])
  exact q _ _ (C1.same (s2.trans s3)) (f1.trans (FrC.of_same (s2.trans s3))) (F72.of_tr (SqT.of n3) (SqT.of (s3 _ _ n2)) (by simp only[ax];exact HasL.nil))
 | cons u us =>
  exfalso
  simp only[dp,dps]at hb
  cases u
  simp only[dp]at hb
  omega
theorem ctree {b k:Nat} (F:Fun K "take_tree" "Cursor.take_tree" za1 f fd) (Z:TxC K mg CU) (O:OwC P w K mg base CU fK fW dK' dW) (hk:2≤k) (bS:aq K dS ["self","brackets"] []) (mS:zbL K CU "take_trees" fS) {b':Nat} (hb':b=b'+1) (oS:FnOk P w K mg base CX0 k fS dS ["self","brackets"] (zcP K CU b')):FnOk P w K mg base CX0 (k+1) f fd ["self","brackets"] (zcb K CU b):=by
 refine F.ok zdg (fun vs H Q E h=>?_) (fun cdv A outer s H vs Q E hr h=>?_)
 ·obtain⟨c,s,i,t,r,rfl,_⟩:=h
  rfl
 obtain⟨c,s,i,t,r,rfl,C,hd,hw,hb,he,q⟩:=h
 have hr1:aw 1 _:=hr.mono (by omega)
 have hr2:aw 2 _:=hr.mono hk
 refine⟨_,(ae (zah (i:=2) zdg.nd rfl (Or.inl rfl) (zdi (pv 0) Z.cl O.mW O.W hr2 O.bW .nil ap))
  (ae (zai (zbw (zaX (zaN (pv 0) Z.cl O.mT O.T hr1 O.bT .nil ap (aa ak ac))))
   (ag (ar (zaf (aa (pv 2) (aa (zaf ac) ac)))))
   zab)
  (ae (zai (zaa zas (pv 1) ad (zag _))
   zaH
   zab)
  (ag (ar (zaf (aa (pv 2) (aa (zaN (pv 0) Z.cl mS oS hr bS .nil ap (aa (am zds (pv 1) ad) ac)) ac)))))))),?_⟩
 obtain⟨⟨dx,hc⟩,_⟩:=id C
 cases t with
 | node n ts =>
 simp only[LT]at hw
 simp only[cT]at hd q
 rw[List.append_assoc]at hd
 have z2:2≤sizeLine:=by decide
 have z0:0≤sizeLine:=Nat.zero_le _
 have ew:Eow (cB ts++r):=by
  cases ts with
  | nil=>exact he.eow
  | cons u us=>exact Eow.cons (by decide)
 refine⟨_,rfl,c,dx,_,rfl,hc,zdF _ _,c,s,n,i,_,rfl,C,hd,hw.1,ew,fun H1 C1 f1=>?_⟩
 have d1:=zaJ hd
 rw[zau]at d1
 obtain⟨⟨dx1,hc1⟩,_⟩:=id C1
 have c1:(("(":Str)).length=1:=by decide +kernel
 cases ts with
 | nil =>
  simp only[cB,List.nil_append,List.append_nil]at d1 q
  rw[zau]at q
  refine⟨_,rfl,c,dx1,_,rfl,hc1,zaw _ _,c,s,"(",_,rfl,C1,by decide +kernel,fun e=>?_,fun _=>?_⟩
  ·rw[zb0 d1 (fun t' h=>by rw[zdq]at h;exact(he _ _ h).2 rfl)]at e
   cases e
  refine⟨_,rfl,zbJ ⟨_,rfl,z0,fun e he'=>⟨z2,fun p hp=>?_⟩⟩⟩
  have s2:=ah he' (.tup [])
  have n2:=af (H:=H1) (a:=e) (o:=.tup [])
  generalize upd H1 e (.tup [])=H2 at s2 n2 hp ⊢
  have s3:=ah hp (.tup [V.str n,V.ref e])
  have n3:=af (H:=H2) (a:=p) (o:=.tup [V.str n,V.ref e])
  exact q _ _ (C1.same (s2.trans s3)) (f1.trans (FrC.of_same (s2.trans s3))) (F72.of_tr (SqT.of n3) (SqT.of (s3 _ _ n2)) (by simp only[ax];exact HasL.nil))
 | cons u us =>
  simp only[cB]at d1 q
  have hb2:∀ x∈u :: us,dp x≤b:=by
   simp only[dp]at hb
   exact F72.dps_le (by omega)
  subst hb'
  have d1':(cp s).drop (i+n.length)=cp "("++(cT u++(cR us++r)):=by
   rw[d1,zdq]
   simp
  refine⟨_,rfl,c,dx1,_,rfl,hc1,zaw _ _,c,s,"(",_,rfl,C1,by decide +kernel,fun _ H2 C2 f2=>?_,fun e=>by rw[zb3 d1']at e;cases e⟩
  rw[c1]at C2
  have d2:(cp s).drop (i+n.length+1)=cT u++(cR us++r):=by
   have:=zaJ d1'
   rw[zdq]at this
   exact this
  obtain⟨⟨dx2,hc2⟩,_⟩:=id C2
  refine⟨_,rfl,zaS ⟨_,rfl,rfl,_,rfl,zal (fun cc=>?_) (fun _=>?_)⟩⟩
  ·have:=of_decide_eq_true cc
   injection this with this
   omega
  have eb:(((b'+1:Nat):Int) - 1)=(b':Nat):=by omega
  have len:(u :: us).length≤1000:=hw.2.2
  refine⟨_,rfl,_,rfl,c,dx2,_,rfl,hc2,zdp _ _,_,rfl,_,_,rfl,rfl,c,s,_,u,us,r,by rw[←eb];rfl,C2,d2,hw.2.1,fun x hx=>by have:=hb2 x hx;omega,len,fun H3 p xs C3 f3 hp hx=>⟨z2,fun p2 hp2=>?_⟩⟩
  have s4:=ah hp2 (.tup [V.str n,V.ref p])
  have n4:=af (H:=H3) (a:=p2) (o:=.tup [V.str n,V.ref p])
  refine q _ _ ?_ (((f1.trans f2).trans f3).trans (FrC.of_same s4)) (F72.of_tr (SqT.of n4) (SqT.of (s4 _ _ hp)) (hx.keep s4.kt (F72.nols_dTrs _)))
  have e:i+n.length+1+(cT u++cR us).length=i+(cp n++40 :: (cT u++cR us)).length:=by
   simp only[List.length_append,List.length_cons,zau]
   omega
  rw[e]at C3
  exact C3.same s4
theorem zfL (F:Fun K "take_tree" "Cursor.take_tree" za1 f fd) (FS:Fun K "take_trees" "Cursor.take_trees" za9 fS dS) (Z:TxC K mg CU) (O:OwC P w K mg base CU fK fW dK' dW) (bF:aq K fd ["self","brackets"] []) (mF:zbL K CU "take_tree" f) (bS:aq K dS ["self","brackets"] []) (mS:zbL K CU "take_trees" fS) :
  ∀ b,FnOk P w K mg base CX0 (2 * b+4) f fd ["self","brackets"] (zcb K CU b)
 | 0=>ctree0 F Z O bS mS
 | b+1=>ctree (b:=b+1) (k:=2 * b+5) F Z O (by omega) bS mS (b':=b) rfl (ze3 FS Z O (by omega) (zfL F FS Z O bF mF bS mS b) bF mF)
end
end K72
namespace K72
open PySem L2
open F72 (Tr Fm dTr ax dFm FOk fdp dp dps)
theorem zfW:∀ c∈ends,c∉cp abc:=by decide +kernel
theorem zde:∀ {a b r r':List Nat},(∀ c∈a,c∈cp abc)→(∀ c∈b,c∈cp abc)→Eow r→Eow r'→a++r=b++r'→a=b∧r=r'
 | [],[],r,r',_,_,_,_,h=>⟨rfl,h⟩
 | [],x :: b,r,r',_,hb,e,_,h=>by
  rw[List.nil_append,List.cons_append]at h
  exact absurd (hb x (by simp)) (zfW x (e _ _ h))
 | x :: a,[],r,r',ha,_,_,e',h=>by
  rw[List.nil_append,List.cons_append]at h
  exact absurd (ha x (by simp)) (zfW x (e' _ _ h.symm))
 | x :: a,y :: b,r,r',ha,hb,e,e',h=>by
  rw[List.cons_append,List.cons_append]at h
  injection h with h1 h2
  obtain⟨h3,h4⟩:=zde (fun c hc=>ha c (List.mem_cons_of_mem _ hc)) (fun c hc=>hb c (List.mem_cons_of_mem _ hc)) e e' h2
  exact⟨by rw[h1,h3],h4⟩
def zff:Tr→Str
 | .node n _=>n
def cF:Fm→List Nat
 | .plain z=>cp z
 | .bare z=>cp z
 | .same a b=>cT a++(cp " = "++cT b)
 | .unlike []=>[]
 | .unlike (t :: ts)=>cp "unlike("++(cT t++cR ts)
 | .not f=>cp "not "++cF f
 | .bin k f g=>40 :: (cF f++(cp (" "++k++" ")++(cF g++[41])))
def Wf (n:Str):Prop:=Wd n∧n≠"not"∧n≠"unlike"∧n≠"always"∧n≠"never"
def LF:Fm→Prop
 | .plain z=>Wf z
 | .bare z=>z="always"∨z="never"
 | .same a b=>LT a∧LT b∧Wf (zff a)∧dp a≤21∧dp b≤21
 | .unlike ts=>∃ t us,ts=t :: us∧LTs ts∧(∀ u∈ts,dp u≤21)∧ts.length≤1000
 | .not f=>LF f
 | .bin k f g=>(k="and"∨k="or"∨k="then"∨k="as")∧LF f∧LF g
def Eof (r:List Nat):Prop:=Eot r∧∀ t,r≠cp " = "++t
theorem Eof.nil:Eof []:=by
 refine⟨fun _ _ h=>(by cases h),fun t h=>?_⟩
 rw[show cp " = "=[32,61,32] by decide +kernel]at h
 cases h
theorem Eof.close (r:List Nat):Eof (41 :: r):=⟨fun _ _ h=>by cases h;decide,fun t h=>by
 rw[show cp " = "=[32,61,32] by decide +kernel]at h
 cases h⟩
def betw:List Str:=["and","or","then","as"]
theorem zfu:∀ k∈betw,(∀ c∈cp k,c∈cp abc)∧k.length≤4∧cp k≠[]:=by decide +kernel
theorem zfi (k:Str):cp (" "++k++" ")=32 :: (cp k++[32]):=by
 rw[za8,za8,show cp " "=[32] by decide +kernel]
 simp
theorem Eof.betw {k:Str} (hk:k∈betw) (r:List Nat):Eof (cp (" "++k++" ")++r):=by
 obtain⟨h1,_,h3⟩:=zfu k hk
 refine⟨fun c t e=>?_,fun t e=>?_⟩
 ·rw[zfi,List.cons_append]at e
  cases e
  decide
 ·rw[zfi,show cp " = "=[32,61,32] by decide +kernel]at e
  cases hc:cp k with
  | nil=>exact h3 hc
  | cons x xs =>
   rw[hc]at e h1
   simp only[List.cons_append]at e
   injection e with _ e
   injection e with e _
   have:=h1 x (by simp)
   rw[e]at this
   exact absurd this (by decide +kernel)
section
variable {P:Program} {w:World} {K:W.Frag} {mg:Str→Option Value} {base:Heap} {CU aW aB:Addr} {f fO fK fW fT fS:Addr} {fd dO dK' dW dT' dS:FuncData}
def zeB (CU:Addr):Sp:=fun vs H Q _=>∃(c:Addr) (s k:Str) (i:Nat) (r:List Nat),vs=[.ref c]∧zav CU H c s i∧(cp s).drop i=cp (" "++k++" ")++r∧k∈betw∧∀ H',zav CU H' c s (i+(cp (" "++k++" ")).length)→FrC H H' c→Q (.str k) H'
structure TxW (K:W.Frag) (mg:Str→Option Value) (aW aB:Addr):Prop where
 bt:mg "BETWEEN"=some (.ref aW)
 tw:∀ H,SqT K H aW (betw.map V.str)
 br:mg "BARE"=some (.ref aB)
 tb:∀ H,SqT K H aB F72.bareV
 mb:∃ t,mg "MOST_BRACKETS"=some (.int 20 t)
 dpst:∃ t,mg "DEEPEST"=some (.int 20 t)
 lu:∃ t,mg "LEAST_UNLIKE"=some (.int 2 t)
 mu:∃ t,mg "MOST_UNLIKE"=some (.int 5 t)
 mtp:∃ t,mg "MOST_TERM_PARTS"=some (.int 3 t)
 len:mg "len"=none
theorem zgi:zad ["cursor","word"] ["cursor"] (aj zcg):=⟨rfl,rfl,rfl,by decide +kernel,rfl,by decide +kernel,by decide +kernel⟩
theorem ziQ (F:Fun K "take_between" "take_between" zcg f fd) (Z:TxC K mg CU) (TW:TxW K mg aW aB) (O:OwC P w K mg base CU fK fW dK' dW):FnOk P w K mg base CX0 2 f fd ["cursor"] (zeB CU):=by
 refine F.ok zgi (fun vs H Q E h=>?_) (fun cdv A outer s H vs Q E hr h=>?_)
 ·obtain⟨c,s,k,i,r,rfl,_⟩:=h
  rfl
 obtain⟨c,s,k,i,r,rfl,C,hd,hk,q⟩:=h
 refine⟨_,(ae (zaY PassesOwn.never rfl (zcA (zaO (v:=.ref aW) rfl TW.bt rfl)) (zaA (i:=1) zgi.nd rfl (Or.inl rfl))
   (ag (zai (zaX (zaN (pv 0) Z.cl O.mT O.T hr O.bT .nil ap (aa (am zac (am zac ak (pv 1)) ak) ac)))
    (ag (ar (pv 1)))
    zab)))
  zaH),?_⟩
 obtain⟨⟨dx,hc⟩,_⟩:=id C
 obtain⟨k1,k2,k3⟩:=zfu k hk
 refine⟨aW,rfl,⟨_,TW.tw H⟩,zbP zcx (fun i' σ H'=>∃ v:Option V,σ=[some (.ref c),v]∧H'=H∧k∉betw.take i') (fun i' σ H' _=>TW.tw H') ⟨none,rfl,rfl,by simp⟩ ?_ ?_⟩
 ·rintro j σ H2 x H3 hj ⟨v,rfl,rfl,nk⟩ ⟨rfl,hy⟩
  have hx:=hy _ (TW.tw _)
  rw[List.getElem?_map]at hx
  obtain⟨z,hz,rfl⟩:=Option.map_eq_some_iff.mp hx
  have zm:=List.mem_of_getElem? hz
  obtain⟨z1,z2,z3⟩:=zfu z zm
  have l1:((" ":Str)).length=1:=by decide +kernel
  refine⟨_,rfl,c,dx,_,rfl,hc,zaw _ _,_,rfl,_,_,rfl,rfl,F72.szM (by rw[l1];omega),_,_,rfl,rfl,F72.szM (by rw[F72.app_len,l1];omega),c,s,_,i,rfl,C,by rw[F72.app_len,F72.app_len,l1];omega,fun e H4 C4 f4=>?_,fun e=>?_⟩
  ·have ez:z=k:=by
    refine Classical.byContradiction fun ne=>?_
    rw[zb0 hd (fun t' h=>?_)]at e
    ·cases e
    ·rw[zfi,zfi]at h
     simp only[List.cons_append,List.append_assoc]at h
     injection h with _ h
     obtain⟨h1,_⟩:=zde k1 z1 (Eow.cons (by decide)) (Eow.cons (by decide)) h
     exact ne (zc1 h1.symm)
   subst ez
   rw[←zau]at C4
   exact⟨_,rfl,zbJ ⟨_,rfl,q H4 C4 f4⟩⟩
  ·have nz:z≠k:=fun ez=>by
    subst ez
    rw[zb3 hd]at e
    cases e
   refine⟨_,rfl,zaS ⟨_,rfl,rfl,?_⟩⟩
   rw[zaF hz]
   intro h
   rcases List.mem_append.mp h with h | h
   ·exact nk h
   ·exact nz (List.mem_singleton.mp h).symm
 ·rintro σ H2 ⟨v,rfl,rfl,nk⟩
  exact absurd hk (by rw[List.length_map,List.take_length]at nk;exact nk)
def zeX (K:W.Frag) (CU:Addr):Sp:=fun vs H Q _=>∃(c:Addr) (s:Str) (i:Nat) (g:Fm) (r:List Nat),vs=[.ref c]∧zav CU H c s i∧(cp s).drop i=cF g++r∧LF g∧((∃ z,g=.plain z)∨(∃ z,g=.bare z)∨∃ a b,g=.same a b)∧Eof r ∧
 ∀(H':Hp) (v:V),zav CU H' c s (i+(cF g).length)→FrC H H' c→Has K H' (dFm g) v→Q v H'
theorem zeZ:zad ["cursor","tree"] ["cursor"] (aj zcl):=⟨rfl,rfl,rfl,by decide +kernel,rfl,by decide +kernel,by decide +kernel⟩
theorem zgG {z:Str} (h:z="always"∨z="never"):Wd z:=by
 rcases h with rfl | rfl
 ·exact⟨by decide +kernel,by decide +kernel,by decide +kernel⟩
 ·exact⟨by decide +kernel,by decide +kernel,by decide +kernel⟩
theorem zhC (F:Fun K "take_simple" "take_simple" zcl f fd) (Z:TxC K mg CU) (TW:TxW K mg aW aB) (O:OwC P w K mg base CU fK fW dK' dW) (oT:FnOk P w K mg base CX0 44 fT dT' ["self","brackets"] (zcb K CU 20)) (bT:aq K dT' ["self","brackets"] []) (mT:zbL K CU "take_tree" fT):FnOk P w K mg base CX0 45 f fd ["cursor"] (zeX K CU):=by
 refine F.ok zeZ (fun vs H Q E h=>?_) (fun cdv A outer s H vs Q E hr h=>?_)
 ·obtain⟨c,s,i,g,r,rfl,_⟩:=h
  rfl
 obtain⟨c,s,i,g,r,rfl,C,hd,hg,alt,he,q⟩:=h
 have hr1:aw 1 _:=hr.mono (by decide)
 obtain⟨t1,e1⟩:=TW.mb
 refine⟨_,(ae (zah (i:=1) zeZ.nd rfl (Or.inl rfl) (zaN (pv 0) Z.cl mT oT hr bT .nil ap (aa (zaO (v:=.int 20) rfl e1 ⟨_,rfl⟩) ac)))
  (ae (zai (zaX (zaN (pv 0) Z.cl O.mT O.T hr1 O.bT .nil ap (aa ak ac)))
   (ag (ar (zaf (aa ak (aa (pv 1) (aa (zaN (pv 0) Z.cl mT oT hr bT .nil ap (aa (zaO (v:=.int 20) rfl e1 ⟨_,rfl⟩) ac)) ac))))))
   zab)
  (ae (zai (zaa zcM (zaI za0 rfl TW.len PySem.boot_len (aa (av zan (pv 1) ad (fun _ _=>rfl)) ac)) ad (zag _))
   zaH
   zab)
  (ag (ar (zd3 (zaa zdD (av zan (pv 1) ad (fun _ _=>rfl)) (zaO (v:=.ref aB) rfl TW.br rfl) rfl) (zaf (aa (av zan (pv 1) ad (fun _ _=>rfl)) ac)) (zaf (aa ak (aa (av zan (pv 1) ad (fun _ _=>rfl)) ac))))))))),?_⟩
 obtain⟨⟨dx,hc⟩,_⟩:=id C
 have eq3:(cp " = ").length=3:=by decide +kernel
 have eq3':((" = ":Str)).length=3:=by decide +kernel
 have alt2:(∃ z,cF g=cp z∧Wd z∧∀(H':Hp) (p:Addr),(inV (.str z) F72.bareV=true→H' p=some (.tup [.str z])→Has K H' (dFm g) (.ref p))∧(inV (.str z) F72.bareV=false→H' p=some (.tup [.str "plain",.str z])→Has K H' (dFm g) (.ref p)))∨∃ a b,g=.same a b:=by
  rcases alt with ⟨z,rfl⟩ | ⟨z,rfl⟩ | h
  ·simp only[LF]at hg
   refine .inl ⟨z,rfl,hg.1,fun H' p=>⟨fun eb _=>?_,fun _ hp=>Has.tup' (SqT.of hp) (.cons Has.str' (.cons Has.str' .nil))⟩⟩
   rcases F72.in_bare.mp eb with h | h
   ·exact absurd h hg.2.2.2.1
   ·exact absurd h hg.2.2.2.2
  ·simp only[LF]at hg
   refine .inl ⟨z,rfl,zgG hg,fun H' p=>⟨fun _ hp=>Has.tup' (SqT.of hp) (.cons Has.str' .nil),fun eb _=>?_⟩⟩
   rw[F72.in_bare.mpr hg]at eb
   cases eb
  ·exact .inr h
 rcases alt2 with ⟨z,ez,wz,go⟩ | ⟨a,b,rfl⟩
 ·rw[ez]at hd
  refine⟨_,rfl,c,dx,_,rfl,hc,zbB _ _,c,s,i,.node z [],r,rfl,C,?_,?_,by simp only[dp,dps];omega,he.1,fun H1 v C1 f1 h1=>?_⟩
  ·simp only[cT,cB,List.append_nil]
   exact hd
  ·simp only[LT,LTs]
   exact⟨wz,trivial,by decide⟩
  simp only[cT,cB,List.append_nil]at C1
  have d1:=zaJ hd
  obtain⟨⟨dx1,hc1⟩,_⟩:=id C1
  obtain⟨pt,pq,xs,rfl,hpt,hpq,hxs⟩:=F72.tr_at h1
  simp only[ax]at hxs
  have exs:xs=[]:=List.length_eq_zero_iff.mp (by rw[←hxs.length];rfl)
  subst exs
  have at0:atI [V.str z,V.ref pq] 0=some (.str z):=zat (j:=0) rfl
  have at1:atI [V.str z,V.ref pq] 1=some (.ref pq):=zat (j:=1) rfl
  refine⟨_,rfl,c,dx1,_,rfl,hc1,zaw _ _,c,s," = ",_,rfl,C1,by decide +kernel,fun e=>?_,fun _=>?_⟩
  ·rw[zb0 d1 he.2]at e
   cases e
  refine⟨_,rfl,zaS ⟨_,rfl,pt,_,_,_,rfl,rfl,hpt,at1,pq,_,rfl,.inr hpq,_,_,rfl,rfl,_,rfl,zal (fun cc=>?_) (fun _=>?_)⟩⟩
  ·have cc':(0:Int) < (([]:List V).length:Nat):=of_decide_eq_true cc
   simp at cc'
  refine⟨_,rfl,pt,_,_,_,rfl,rfl,hpt,at0,aB,F72.bareV,rfl,.inr (TW.tb H1),rfl,F72.bare_flat,_,rfl,zal (fun cc=>?_) (fun cc=>?_)⟩
  ·refine⟨_,rfl,pt,_,_,_,rfl,rfl,hpt,at0,lS1,fun p hp=>?_⟩
   have s2:=ah hp (.tup [V.str z])
   exact q _ _ (by rw[ez];exact C1.same s2) (f1.trans (FrC.of_same s2)) ((go _ p).1 cc af)
  ·refine⟨_,rfl,pt,_,_,_,rfl,rfl,hpt,at0,lS2,fun p hp=>?_⟩
   have s2:=ah hp (.tup [V.str "plain",V.str z])
   exact q _ _ (by rw[ez];exact C1.same s2) (f1.trans (FrC.of_same s2)) ((go _ p).2 (Bool.eq_false_iff.mpr cc) af)
 ·simp only[LF]at hg
  obtain⟨la,lb,_,da,db⟩:=hg
  simp only[cF]at hd q
  rw[List.append_assoc,List.append_assoc]at hd
  have et:Eot (cp " = "++(cT b++r)):=fun c' t e=>by
   rw[show cp " = "=[32,61,32] by decide +kernel]at e
   cases e
   decide
  refine⟨_,rfl,c,dx,_,rfl,hc,zbB _ _,c,s,i,a,_,rfl,C,hd,la,by omega,et,fun H1 v C1 f1 h1=>?_⟩
  have d1:=zaJ hd
  obtain⟨⟨dx1,hc1⟩,_⟩:=id C1
  refine⟨_,rfl,c,dx1,_,rfl,hc1,zaw _ _,c,s," = ",_,rfl,C1,by decide +kernel,fun _ H2 C2 f2=>?_,fun e=>by rw[zb3 d1]at e;cases e⟩
  have d2:=zaJ d1
  rw[eq3']at C2
  rw[eq3]at d2
  obtain⟨⟨dx2,hc2⟩,_⟩:=id C2
  refine⟨_,rfl,zbJ ⟨_,rfl,_,rfl,c,dx2,_,rfl,hc2,zbB _ _,c,s,_,b,r,rfl,C2,d2,lb,by omega,he.1,fun H3 v3 C3 f3 h3=>⟨lS3,fun p hp=>?_⟩⟩⟩
  have s4:=ah hp (.tup [V.str "same",v,v3])
  have n4:=af (H:=H3) (a:=p) (o:=.tup [V.str "same",v,v3])
  refine q _ _ ?_ (((f1.trans f2).trans f3).trans (FrC.of_same s4)) (Has.tup' (SqT.of n4) (.cons Has.str' (.cons (((h1.keep (C1.kt (f2.trans f3)) (F72.nol_dTr _))).keep s4.kt (F72.nol_dTr _)) (.cons (h3.keep s4.kt (F72.nol_dTr _)) .nil))))
  have e:i+(cT a).length+3+(cT b).length=i+(cT a++(cp " = "++cT b)).length:=by
   simp only[List.length_append,eq3]
   omega
  rw[e]at C3
  exact C3.same s4
end
end K72
namespace K72
open PySem L2
open F72 (Tr Fm dTr ax dFm FOk fdp dp dps)
theorem c_not:cp "not "=cp "not"++[32]:=by decide +kernel
theorem c_unl:cp "unlike("=cp "unlike"++[40]:=by decide +kernel
theorem w_not:∀ c∈cp "not",c∈cp abc:=by decide +kernel
theorem w_unl:∀ c∈cp "unlike",c∈cp abc:=by decide +kernel
theorem zf8 {g:Fm} {r:List Nat} (hg:LF g) (alt:(∃ z,g=.plain z)∨(∃ z,g=.bare z)∨∃ a b,g=.same a b) (he:Eof r):∃(n:Str) (u:List Nat),cF g++r=cp n++u∧Wd n∧n≠"not"∧n≠"unlike"∧Eow u:=by
 rcases alt with ⟨z,rfl⟩ | ⟨z,rfl⟩ | ⟨a,b,rfl⟩
 ·exact⟨z,r,rfl,hg.1,hg.2.1,hg.2.2.1,he.1.eow⟩
 ·simp only[LF]at hg
  refine⟨z,r,rfl,zgG hg,?_,?_,he.1.eow⟩ <;> rcases hg with rfl | rfl <;> decide +kernel
 ·simp only[LF]at hg
  obtain⟨la,_,wf,_⟩:=hg
  cases a with
  | node n ts =>
  simp only[zff]at wf
  refine⟨n,cB ts++(cp " = "++cT b++r),by simp only[cF,cT,List.append_assoc],wf.1,wf.2.1,wf.2.2.1,?_⟩
  cases ts with
  | nil =>
   rw[show cp " = "=[32,61,32] by decide +kernel]
   exact Eow.cons (by decide)
  | cons u us=>exact Eow.cons (by decide)
theorem zhh {n:Str} {u:List Nat} (w:Wd n) (h:n≠"not") (e:Eow u) (t:List Nat):cp n++u≠cp "not "++t:=fun h'=>by
 rw[c_not,List.append_assoc]at h'
 exact h (zc1 (zde w.2.1 w_not e (Eow.cons (by decide)) h').1)
theorem no_unl {n:Str} {u:List Nat} (w:Wd n) (h:n≠"unlike") (e:Eow u) (t:List Nat):cp n++u≠cp "unlike("++t:=fun h'=>by
 rw[c_unl,List.append_assoc]at h'
 exact h (zc1 (zde w.2.1 w_unl e (Eow.cons (by decide)) h').1)
theorem no_op {n:Str} {u:List Nat} (w:Wd n) (t:List Nat):cp n++u≠cp "("++t:=fun h'=>by
 rw[zdq]at h'
 cases hc:cp n with
 | nil=>exact w.1 hc
 | cons x xs =>
  rw[hc]at h'
  simp only[List.cons_append,List.nil_append]at h'
  injection h' with h1 _
  have:=w.2.1 x (by rw[hc];simp)
  rw[h1]at this
  exact absurd this (by decide +kernel)
section
variable {P:Program} {w:World} {K:W.Frag} {mg:Str→Option Value} {base:Heap} {CU aW aB:Addr} {f fO fK fW fT fS fB fM fD:Addr} {fd dO dK' dW dT' dS dB dM dD:FuncData}
def zdf (K:W.Frag) (CU:Addr) (l:Nat):Sp:=fun vs H Q _=>∃(c:Addr) (s:Str) (i:Nat) (g:Fm) (r:List Nat),vs=[.ref c,.int (l:Nat)]∧zav CU H c s i∧(cp s).drop i=cF g++r∧LF g∧fdp g≤l∧Eof r ∧
 ∀(H':Hp) (v:V),zav CU H' c s (i+(cF g).length)→FrC H H' c→Has K H' (dFm g) v→Q v H'
def ziB (K:W.Frag) (CU:Addr) (l:Nat):Sp:=fun vs H Q _=>∃(c:Addr) (s:Str) (i:Nat) (k:Str) (g h:Fm) (r:List Nat),vs=[.ref c,.int (l:Nat)]∧zav CU H c s i∧(cp s).drop i=cF g++(cp (" "++k++" ")++(cF h++(41 :: r)))∧k∈betw∧LF g∧LF h∧fdp g≤l∧fdp h≤l ∧
 ∀(H':Hp) (v:V),zav CU H' c s (i+(cF g++(cp (" "++k++" ")++(cF h++[41]))).length)→FrC H H' c→Has K H' (dFm (.bin k g h)) v→Q v H'
theorem zeh:zad ["cursor","left","one","word","other"] ["cursor","left"] (aj zcq):=⟨rfl,rfl,rfl,by decide +kernel,rfl,by decide +kernel,by decide +kernel⟩
theorem ziP {l k:Nat} (F:Fun K "take_two" "take_two" zcq f fd) (Z:TxC K mg CU) (O:OwC P w K mg base CU fK fW dK' dW) (BB:FB P w K mg base CX0 2 "take_between" fB dB ["cursor"] (zeB CU)) (hk:2≤k) (BF:FB P w K mg base CX0 k "take_formula" fT dT' ["cursor","left"] (zdf K CU l)):FnOk P w K mg base CX0 (k+1) f fd ["cursor","left"] (ziB K CU l):=by
 refine F.ok zeh (fun vs H Q E h=>?_) (fun cdv A outer s H vs Q E hr h=>?_)
 ·obtain⟨c,s,i,k,g,h,r,rfl,_⟩:=h
  rfl
 obtain⟨c,s,i,kk,g,h,r,rfl,C,hd,hkk,lg,lh,dg,dh,q⟩:=h
 have hr1:aw 1 _:=hr.mono (by omega)
 have hr2:aw 2 _:=hr.mono hk
 refine⟨_,(ae (zah (i:=2) zeh.nd rfl (Or.inl rfl) (ao BF.ok hr rfl BF.m BF.kp BF.b .nil ap (aa (pv 0) (aa (pv 1) ac))))
  (ae (zah (i:=3) zeh.nd rfl (Or.inl rfl) (ao BB.ok hr2 rfl BB.m BB.kp BB.b .nil ap (aa (pv 0) ac)))
  (ae (zah (i:=4) zeh.nd rfl (Or.inl rfl) (ao BF.ok hr rfl BF.m BF.kp BF.b .nil ap (aa (pv 0) (aa (pv 1) ac))))
  (ae (zai (zbw (zaX (zaN (pv 0) Z.cl O.mT O.T hr1 O.bT .nil ap (aa ak ac))))
   zaH
   zab)
  (ag (ar (zaf (aa (pv 3) (aa (pv 2) (aa (pv 4) ac)))))))))),?_⟩
 refine⟨_,rfl,_,rfl,c,s,i,g,_,rfl,C,hd,lg,dg,Eof.betw hkk _,fun H1 v1 C1 f1 h1=>?_⟩
 have d1:=zaJ hd
 refine⟨_,rfl,c,s,kk,_,_,rfl,C1,d1,hkk,fun H2 C2 f2=>?_⟩
 have d2:=zaJ d1
 refine⟨_,rfl,_,rfl,c,s,_,h,_,rfl,C2,d2,lh,dh,Eof.close r,fun H3 v3 C3 f3 h3=>?_⟩
 have d3:=zaJ d2
 obtain⟨⟨dx3,hc3⟩,_⟩:=id C3
 refine⟨_,rfl,c,dx3,_,rfl,hc3,zaw _ _,c,s,")",_,rfl,C3,by decide +kernel,fun _ H4 C4 f4=>?_,(fun e=>by rw[zb3 (r:=r) (by rw[d3,c_cl];rfl)]at e;cases e)⟩
 refine⟨_,rfl,zaS ⟨_,rfl,_,rfl,_,rfl,lS3,fun p hp=>?_⟩⟩
 have s5:=ah hp (.tup [V.str kk,v1,v3])
 have n5:=af (H:=H4) (a:=p) (o:=.tup [V.str kk,v1,v3])
 have kt1:=(C1.kt (f2.trans (f3.trans f4)))
 refine q _ _ ?_ (((f1.trans f2).trans (f3.trans f4)).trans (FrC.of_same s5)) (Has.tup' (SqT.of n5) (.cons Has.str' (.cons ((h1.keep kt1 (F72.nol_dFm _)).keep s5.kt (F72.nol_dFm _)) (.cons ((h3.keep (C3.kt f4) (F72.nol_dFm _)).keep s5.kt (F72.nol_dFm _)) .nil))))
 have c1:((")":Str)).length=1:=by decide +kernel
 have e:i+(cF g).length+(cp (" "++kk++" ")).length+(cF h).length+((")":Str)).length=i+(cF g++(cp (" "++kk++" ")++(cF h++[41]))).length:=by
  rw[c1]
  simp only[List.length_append,List.length_singleton]
  omega
 rw[e]at C4
 exact C4.same s5
theorem ziF:zad ["cursor","left"] ["cursor","left"] (aj zcf):=⟨rfl,rfl,rfl,by decide +kernel,rfl,by decide +kernel,by decide +kernel⟩
theorem ziX {k:Str} (h:k="and"∨k="or"∨k="then"∨k="as"):k∈betw:=by
 unfold betw
 simp only[List.mem_cons,List.not_mem_nil,or_false]
 exact h
theorem zfM (F:Fun K "take_formula" "take_formula" zcf f fd) (F2:Fun K "take_two" "take_two" zcq fD dD) (Z:TxC K mg CU) (TW:TxW K mg aW aB) (O:OwC P w K mg base CU fK fW dK' dW) (BB:FB P w K mg base CX0 2 "take_between" fB dB ["cursor"] (zeB CU)) (BM:FB P w K mg base CX0 45 "take_simple" fM dM ["cursor"] (zeX K CU)) (oS:FnOk P w K mg base CX0 45 fS dS ["self","brackets"] (zcP K CU 20)) (bS:aq K dS ["self","brackets"] []) (mS:zbL K CU "take_trees" fS)
  (bF:aq K fd ["cursor","left"] []) (kF:W.keepIn K (.ref f)=true) (mF:mg "take_formula"=some (.ref f)) (b2:aq K dD ["cursor","left"] []) (k2:W.keepIn K (.ref fD)=true) (m2:mg "take_two"=some (.ref fD)) :
  ∀ l,FnOk P w K mg base CX0 (2 * l+46) f fd ["cursor","left"] (zdf K CU l)
 | 0=>F72.FnOk.no fun _ _ _ _ ⟨_,_,_,g,_,_,_,_,_,h,_⟩=>by
  have:=F72.fdp_pos g
  omega
 | l+1=>by
  have IH:=zfM F F2 Z TW O BB BM oS bS mS bF kF mF b2 k2 m2 l
  have o2:=ziP F2 Z O BB (by omega) ⟨IH,bF,kF,mF⟩
  refine F.ok (k:=2 * l+47) ziF (fun vs H Q E h=>?_) (fun cdv A outer s H vs Q E hr h=>?_)
  ·obtain⟨c,s,i,g,r,rfl,_⟩:=h
   rfl
  obtain⟨c,s,i,g,r,rfl,C,hd,hg,hl,he,q⟩:=h
  have hr1:aw 1 _:=hr.mono (by omega)
  have hr45:aw 45 _:=hr.mono (by omega)
  have hrI:aw (2 * l+46) _:=hr.mono (by omega)
  obtain⟨t1,e1⟩:=TW.mb
  refine⟨_,(ae (zai (zaa zas (pv 1) ad (zag _))
    zaH
    zab)
   (ae (zai (zaX (zaN (pv 0) Z.cl O.mT O.T hr1 O.bT .nil ap (aa ak ac)))
    (ag (ar (zaf (aa ak (aa (ao IH hrI rfl mF kF bF .nil ap (aa (pv 0) (aa (am zds (pv 1) ad) ac))) ac)))))
    zab)
   (ae (zai (zaX (zaN (pv 0) Z.cl O.mT O.T hr1 O.bT .nil ap (aa ak ac)))
    (ag (ar (zaf (aa ak (aa (zaN (pv 0) Z.cl mS oS hr45 bS .nil ap (aa (zaO (v:=.int 20) rfl e1 ⟨_,rfl⟩) ac)) ac)))))
    zab)
   (ae (zai (zaX (zaN (pv 0) Z.cl O.mT O.T hr1 O.bT .nil ap (aa ak ac)))
    (ag (ar (ao o2 hr rfl m2 k2 b2 .nil ap (aa (pv 0) (aa (am zds (pv 1) ad) ac)))))
    zab)
   (ag (ar (ao BM.ok hr45 rfl BM.m BM.kp BM.b .nil ap (aa (pv 0) ac)))))))),?_⟩
  obtain⟨⟨dx,hc⟩,_⟩:=id C
  have el:(((l+1:Nat):Int) - 1)=(l:Nat):=by omega
  refine⟨_,rfl,rfl,_,rfl,zal (fun cc=>?_) (fun _=>?_)⟩
  ·have:=of_decide_eq_true cc
   injection this with this
   omega
  have simple:((∃ z,g=.plain z)∨(∃ z,g=.bare z)∨∃ a b,g=.same a b)∨(∃ ts,g=.unlike ts)∨(∃ g',g=.not g')∨∃ k a b,g=.bin k a b:=by
   cases g with
   | plain z=>exact .inl (.inl ⟨z,rfl⟩)
   | bare z=>exact .inl (.inr (.inl ⟨z,rfl⟩))
   | same a b=>exact .inl (.inr (.inr ⟨a,b,rfl⟩))
   | unlike ts=>exact .inr (.inl ⟨ts,rfl⟩)
   | not g=>exact .inr (.inr (.inl ⟨g,rfl⟩))
   | bin k a b=>exact .inr (.inr (.inr ⟨k,a,b,rfl⟩))
  rcases simple with alt | ⟨ts,rfl⟩ | ⟨g',rfl⟩ | ⟨kk,a,b,rfl⟩
  ·obtain⟨n,u,en,wn,n1,n2,eu⟩:=zf8 hg alt he
   have hd':(cp s).drop i=cp n++u:=by rw[hd,en]
   refine⟨_,rfl,c,dx,_,rfl,hc,zaw _ _,c,s,"not ",i,rfl,C,by decide +kernel,(fun e=>by rw[zb0 hd' (zhh wn n1 eu)]at e;cases e),fun _=>⟨_,rfl,zaS ?_⟩⟩
   refine⟨_,rfl,c,dx,_,rfl,hc,zaw _ _,c,s,"unlike(",i,rfl,C,by decide +kernel,(fun e=>by rw[zb0 hd' (no_unl wn n2 eu)]at e;cases e),fun _=>⟨_,rfl,zaS ?_⟩⟩
   refine⟨_,rfl,c,dx,_,rfl,hc,zaw _ _,c,s,"(",i,rfl,C,by decide +kernel,(fun e=>by rw[zb0 hd' (no_op wn)]at e;cases e),fun _=>⟨_,rfl,zaS ?_⟩⟩
   exact⟨_,rfl,c,s,i,g,r,rfl,C,hd,hg,alt,he,q⟩
  ·simp only[LF]at hg
   obtain⟨t,us,rfl,lts,hb,l9⟩:=hg
   simp only[cF]at hd q
   rw[List.append_assoc,List.append_assoc]at hd
   have hn:(cp s).drop i=cp "unlike"++(40 :: (cT t++(cR us++r))):=by
    rw[hd,c_unl]
    simp
   refine⟨_,rfl,c,dx,_,rfl,hc,zaw _ _,c,s,"not ",i,rfl,C,by decide +kernel,(fun e=>by rw[zb0 hn (zhh ⟨by decide +kernel,w_unl,by decide +kernel⟩ (by decide +kernel) (Eow.cons (by decide)))]at e;cases e),fun _=>⟨_,rfl,zaS ?_⟩⟩
   refine⟨_,rfl,c,dx,_,rfl,hc,zaw _ _,c,s,"unlike(",i,rfl,C,by decide +kernel,fun _ H1 C1 f1=>?_,(fun e=>by rw[zb3 hd]at e;cases e)⟩
   have d1:=zaJ hd
   rw[zau]at d1
   obtain⟨⟨dx1,hc1⟩,_⟩:=id C1
   refine⟨_,rfl,zbJ ⟨_,rfl,c,dx1,_,rfl,hc1,zdp _ _,c,s,_,t,us,r,rfl,C1,d1,lts,hb,l9,fun H2 p xs C2 f2 hp hx=>⟨lS2,fun p2 hp2=>?_⟩⟩⟩
   have s3:=ah hp2 (.tup [V.str "unlike",V.ref p])
   have n3:=af (H:=H2) (a:=p2) (o:=.tup [V.str "unlike",V.ref p])
   refine q _ _ ?_ ((f1.trans f2).trans (FrC.of_same s3)) (Has.tup' (SqT.of n3) (.cons Has.str' (.cons (Has.tup' (SqT.of (s3 _ _ hp)) (hx.keep s3.kt (F72.nols_dTrs _))) .nil)))
   have e:i+(("unlike(":Str)).length+(cT t++cR us).length=i+(cp "unlike("++(cT t++cR us)).length:=by
    rw[List.length_append (as:=cp "unlike("),zau]
    omega
   rw[e]at C2
   exact C2.same s3
  ·simp only[cF]at hd q
   simp only[fdp]at hl
   rw[List.append_assoc]at hd
   refine⟨_,rfl,c,dx,_,rfl,hc,zaw _ _,c,s,"not ",i,rfl,C,by decide +kernel,fun _ H1 C1 f1=>?_,(fun e=>by rw[zb3 hd]at e;cases e)⟩
   have d1:=zaJ hd
   rw[zau]at d1
   refine⟨_,rfl,zbJ ⟨_,rfl,_,rfl,_,_,rfl,rfl,c,s,_,g',r,by rw[←el];rfl,C1,d1,hg,by omega,he,fun H2 v C2 f2 h2=>⟨lS2,fun p hp=>?_⟩⟩⟩
   have s3:=ah hp (.tup [V.str "not",v])
   have n3:=af (H:=H2) (a:=p) (o:=.tup [V.str "not",v])
   refine q _ _ ?_ ((f1.trans f2).trans (FrC.of_same s3)) (Has.tup' (SqT.of n3) (.cons Has.str' (.cons (h2.keep s3.kt (F72.nol_dFm _)) .nil)))
   have e:i+(("not ":Str)).length+(cF g').length=i+(cp "not "++cF g').length:=by
    rw[List.length_append,zau]
    omega
   rw[e]at C2
   exact C2.same s3
  ·simp only[LF]at hg
   obtain⟨kk1,lf1,lf2⟩:=hg
   simp only[cF]at hd q
   simp only[fdp]at hl
   have hn:∀(y:Str) (x:Nat) (z:List Nat),cp y=x :: z→x≠40→∀ t,40 :: (cF a++(cp (" "++kk++" ")++(cF b++[41])))++r≠cp y++t:=fun y x z ey nx t h=>by
    rw[ey,List.cons_append,List.cons_append]at h
    injection h with h1 _
    exact nx h1.symm
   refine⟨_,rfl,c,dx,_,rfl,hc,zaw _ _,c,s,"not ",i,rfl,C,by decide +kernel,(fun e=>by rw[zb0 hd (hn "not " 110 [111,116,32] (by decide +kernel) (by decide))]at e;cases e),fun _=>⟨_,rfl,zaS ?_⟩⟩
   refine⟨_,rfl,c,dx,_,rfl,hc,zaw _ _,c,s,"unlike(",i,rfl,C,by decide +kernel,(fun e=>by rw[zb0 hd (hn "unlike(" 117 [110,108,105,107,101,40] (by decide +kernel) (by decide))]at e;cases e),fun _=>⟨_,rfl,zaS ?_⟩⟩
   have hd':(cp s).drop i=cp "("++(cF a++(cp (" "++kk++" ")++(cF b++(41 :: r)))):=by
    rw[hd,zdq]
    simp
   refine⟨_,rfl,c,dx,_,rfl,hc,zaw _ _,c,s,"(",i,rfl,C,by decide +kernel,fun _ H1 C1 f1=>?_,(fun e=>by rw[zb3 hd']at e;cases e)⟩
   have d1:=zaJ hd'
   rw[zau]at d1
   refine⟨_,rfl,zbJ ⟨_,rfl,_,rfl,_,_,rfl,rfl,c,s,_,kk,a,b,r,by rw[←el];rfl,C1,d1,ziX kk1,lf1,lf2,by omega,by omega,fun H2 v C2 f2 h2=>q _ _ ?_ (f1.trans f2) h2⟩⟩
   have c1:(("(":Str)).length=1:=by decide +kernel
   have e:i+(("(":Str)).length+(cF a++(cp (" "++kk++" ")++(cF b++[41]))).length=i+(40 :: (cF a++(cp (" "++kk++" ")++(cF b++[41])))).length:=by
    rw[c1,List.length_cons]
    omega
   rw[e]at C2
   exact C2
end
end K72
namespace K72
open PySem L2
open F72 (Tr Fm dTr ax dFm FOk fdp dp dps zao zam nol_dFm nols_dTrs zae zaL fms_get tr_at szM dTrs_length zaP zbb)
def mx:List Nat→Nat
 | []=>0
 | x :: xs=>max x (mx xs)
theorem zfh:∀ {xs:List Nat} {x:Nat},x∈xs→x≤mx xs
 | y :: ys,x,h=>by
  simp only[mx]
  rcases List.mem_cons.mp h with rfl | h
  ·omega
  ·have:=zfh h
   omega
theorem zhi:∀ {xs:List Nat},xs≠[]→mx xs∈xs
 | [],h=>absurd rfl h
 | [x],_=>by simp [mx]
 | x :: y :: ys,_=>by
  have:=zhi (xs:=y :: ys) (by simp)
  by_cases c:x≤mx (y :: ys)
  ·have e:mx (x :: y :: ys)=mx (y :: ys):=by
    show max x (mx (y :: ys))=_
    omega
   rw[e]
   exact List.mem_cons_of_mem _ this
  ·have e:mx (x :: y :: ys)=x:=by
    show max x (mx (y :: ys))=_
    omega
   rw[e]
   exact List.mem_cons_self
theorem zfs (xs ys:List Nat):mx (xs++ys)=max (mx xs) (mx ys):=by
 induction xs with
 | nil=>simp [mx]
 | cons x xs ih =>
  simp only[List.cons_append,mx,ih]
  omega
def dn (xs:List Nat):List Int:=xs.map fun n=>((n:Nat):Int)
theorem mx_is {xs:List Nat} {m:Int} (h:m∈dn xs) (a:∀ n∈dn xs,n≤m):m=mx xs:=by
 obtain⟨k,hk,rfl⟩:=List.mem_map.mp h
 have h1:=zfh hk
 have ne:xs≠[]:=fun e=>by subst e;cases hk
 have h2:=a _ (List.mem_map.mpr ⟨_,zhi ne,rfl⟩)
 omega
theorem zft:∀ ts:List Tr,dps ts=mx (ts.map dp)
 | []=>by simp only[dps,List.map_nil,mx]
 | t :: ts=>by simp only[dps,List.map_cons,mx,zft ts]
def fdd:Fm→Nat
 | .plain _=>1
 | .bare _=>1
 | .same a b=>1+max (dp a) (dp b)
 | .unlike ts=>1+dps ts
 | .not f=>1+fdd f
 | .bin _ f g=>1+max (fdd f) (fdd g)
theorem zdu (g:Fm):fdd g=1+mx ((zao g).map dp++(zam g).map fdd):=by
 rw[zfs]
 cases g <;> simp only[fdd,zao,zam,List.map_nil,List.map_cons,mx,zft] <;> omega
theorem zcu:∀ g:Fm,fdp g≤fdd g
 | .plain _=>by simp [fdp,fdd]
 | .bare _=>by simp [fdp,fdd]
 | .same a b=>by simp only[fdp,fdd];omega
 | .unlike ts=>by simp only[fdp,fdd];omega
 | .not f=>by
  have:=zcu f
  simp only[fdp,fdd];omega
 | .bin _ f g=>by
  have h1:=zcu f
  have h2:=zcu g
  simp only[fdp,fdd];omega
theorem LF_trs {g:Fm} (h:LF g):LTs (zao g)∧(zao g).length≤1000:=by
 cases g with
 | same a b =>
  simp only[LF]at h
  simp only[zao,LTs,and_true]
  exact⟨⟨h.1,h.2.1⟩,by simp⟩
 | unlike ts =>
  simp only[LF]at h
  obtain⟨t,us,rfl,h1,_,h3⟩:=h
  exact⟨h1,h3⟩
 | _=>exact⟨trivial,Nat.zero_le _⟩
theorem LF_fms {g:Fm} (h:LF g):(∀ u∈zam g,LF u)∧(zam g).length≤2:=by
 cases g with
 | not f =>
  refine⟨fun u hu=>?_,by simp [zam]⟩
  simp only[zam,List.mem_singleton]at hu
  subst hu
  exact h
 | bin k f g =>
  simp only[LF]at h
  refine⟨fun u hu=>?_,by simp [zam]⟩
  simp only[zam,List.mem_cons,List.not_mem_nil,or_false]at hu
  rcases hu with rfl | rfl
  ·exact h.2.1
  ·exact h.2.2
 | _=>exact⟨fun u hu=>by simp [zam]at hu,by simp [zam]⟩
theorem zcB:∀ {g:Fm},LF g→fdd g≤20→FOk g
 | .plain _,_,_=>trivial
 | .bare _,h,_=>h
 | .same a b,_,h=>by
  simp only[fdd]at h
  exact⟨by omega,by omega⟩
 | .unlike ts,_,h=>by
  simp only[fdd]at h
  exact F72.dps_le (by omega)
 | .not f,h,d=>zcB (g:=f) h (by simp only[fdd]at d;omega)
 | .bin k f g,h,d=>by
  simp only[LF]at h
  simp only[fdd]at d
  exact⟨h.1,zcB h.2.1 (by omega),zcB h.2.2 (by omega)⟩
section
variable {P:Program} {w:World} {K:W.Frag} {mg:Str→Option Value} {base:Heap} {f fT fI fJ:Addr} {fd dT' dI dJ:FuncData}
def zgf (K:W.Frag) (n:Nat):Sp:=fun vs H Q _=>∃(t:Tr) (v:V),vs=[v]∧Has K H (dTr t) v∧LT t∧dp t≤n∧∀ H',ai H H'→Q (.int (dp t:Nat)) H'
theorem ziD:zad ["tree"] ["tree"] (aj zcG):=⟨rfl,rfl,rfl,by decide +kernel,rfl,by decide +kernel,by decide +kernel⟩
theorem zgo (F:Fun K "tree_depth" "tree_depth" zcG f fd) (TM:mg "max"=none) (b:aq K fd ["tree"] []) (kp:W.keepIn K (.ref f)=true) (m:mg "tree_depth"=some (.ref f)):∀ n,FnOk P w K mg base CX0 n f fd ["tree"] (zgf K n)
 | 0=>F72.FnOk.no fun _ _ _ _ ⟨t,v,_,_,_,h,_⟩=>by
  cases t
  simp only[dp]at h
  omega
 | n+1=>by
  have IH:=zgo F TM b kp m n
  refine F.ok ziD (fun vs H Q E h=>?_) (fun cdv A outer s H vs Q E hr h=>?_)
  ·obtain⟨t,v,rfl,_⟩:=h
   rfl
  obtain⟨⟨nm,ts⟩,v,rfl,ht,hl,hd,q⟩:=h
  refine⟨_,(ag (ar (am zbO ad (zgl rfl rfl TM (aa (zcL (N':=["part"]) (ix:=[]) rfl rfl (by decide +kernel) (by decide +kernel) rfl (fun _=>⟨[],za2 (by decide +kernel) (by decide +kernel)⟩) (by decide +kernel) rfl rfl (fun j i h=>by simp at h) (zcA (av zan (pv 0) ad (fun _ _=>rfl))) (fun _ _ _ _=>(ao IH hr rfl m kp b .nil ap (aa (pv 0) ac)))) ac) (zgj ad zhb))))),?_⟩
  obtain⟨p,r,xs,rfl,hp,hq,hx⟩:=tr_at ht
  have xl:xs.length=ts.length:=by rw[←hx.length,dTrs_length]
  simp only[dp]at hd q
  simp only[LT]at hl
  obtain⟨_,lts,l9⟩:=hl
  refine⟨_,rfl,p,_,_,_,rfl,rfl,hp,rfl,r,rfl,⟨_,hq⟩,fun D hD=>zbR zcx (fun i us H'=>ai H H'∧us=((dn (ts.map dp)).take i).map V.int) (fun i us H' ⟨s4,_⟩=>s4.tup hq) ⟨ah hD _,rfl⟩ ?_ ?_⟩
  ·rintro i us H8 x H4 hi hly hDs ⟨s4,rfl⟩ ⟨rfl,hx'⟩
   obtain⟨u,hu,hux⟩:=zaL (hx.keep s4.kt (nols_dTrs _)) (hx' _ (s4.tup hq))
   have um:=List.mem_of_getElem? hu
   have hu2:(dn (ts.map dp))[i]?=some ((dp u:Nat):Int):=by
    unfold dn
    rw[List.map_map,List.getElem?_map,hu]
    rfl
   refine⟨_,rfl,u,_,rfl,hux,zdP lts u um,F72.dps_le (by omega) u um,fun H5 s5=>zbc (szM (by omega)) hi hly (s5 _ _ hDs) ⟨(s4.trans s5).upd hD,?_⟩⟩
   rw[zaF hu2,List.map_append]
   rfl
  rintro us H4 hDs ⟨s4,rfl⟩
  have dl:(dn (ts.map dp)).length=ts.length:=by simp [dn]
  rw[List.take_of_length_le (by rw[dl,xl];exact Nat.le_refl _)]at hDs
  refine⟨D,dn (ts.map dp),0,rfl,rfl,.inl (SqL.of hDs),fun e=>?_,fun m hm hmax=>?_⟩
  ·have e':ts=[]:=by
    have:=congrArg List.length e
    rw[dl]at this
    exact List.length_eq_zero_iff.mp this
   subst e'
   exact⟨_,_,rfl,rfl,q H4 s4⟩
  ·have e:=mx_is hm hmax
   rw[←zft]at e
   subst e
   refine⟨_,_,rfl,rfl,?_⟩
   have e:(1+((dps ts:Nat):Int))=((1+dps ts:Nat):Int):=by omega
   show Q (.int (1+((dps ts:Nat):Int))) H4
   rw[e]
   exact q H4 s4
def zfk (K:W.Frag) (n:Nat):Sp:=fun vs H Q _=>∃(g:Fm) (v:V),vs=[v]∧Has K H (dFm g) v∧LF g∧fdd g≤n∧fdd g≤20∧∀ H',ai H H'→Q (.int (fdd g:Nat)) H'
theorem zg9:zad ["formula","within"] ["formula"] (aj zeG):=⟨rfl,rfl,rfl,by decide +kernel,rfl,by decide +kernel,by decide +kernel⟩
theorem ziW (g:Fm):1≤fdd g:=by rw[zdu];omega
theorem zhf (F:Fun K "depth" "depth" zeG f fd) (TM:mg "max"=none) (b:aq K fd ["formula"] []) (kp:W.keepIn K (.ref f)=true) (m:mg "depth"=some (.ref f))
  (BT:FB P w K mg base CX0 19 "tree_depth" fT dT' ["tree"] (zgf K 19)) (BI:FB P w K mg base CX0 1 "inner_trees" fI dI ["formula"] (zaP K)) (BJ:FB P w K mg base CX0 1 "inner_formulas" fJ dJ ["formula"] (zbb K)):∀ n,FnOk P w K mg base CX0 (n+19) f fd ["formula"] (zfk K n)
 | 0=>F72.FnOk.no fun _ _ _ _ ⟨g,v,_,_,_,h,_⟩=>by
  have:=ziW g
  omega
 | n+1=>by
  have IH:=zhf F TM b kp m BT BI BJ n
  refine F.ok (k:=n+19) zg9 (fun vs H Q E h=>?_) (fun cdv A outer s H vs Q E hr h=>?_)
  ·obtain⟨t,v,rfl,_⟩:=h
   rfl
  obtain⟨g,v,rfl,hg,lf,hd,h20,q⟩:=h
  have hr1:aw 1 _:=hr.mono (by omega)
  have hr3:aw 19 _:=hr.mono (by omega)
  refine⟨_,(ae (zcc (i:=1) (N':=["tree"]) (ix:=[]) zg9.nd rfl (Or.inl rfl) rfl rfl (by decide +kernel) (by decide +kernel) rfl (fun _=>⟨[],za2 (by decide +kernel) (by decide +kernel)⟩) (by decide +kernel) rfl rfl (fun j i h=>by simp at h) (za6 (ao BI.ok hr1 rfl BI.m BI.kp BI.b .nil ap (aa (pv 0) ac))) (fun _ _ _ _=>(ao BT.ok hr3 rfl BT.m BT.kp BT.b .nil ap (aa (pv 0) ac))))
   (ae (zaM (zbl PySem.F.plainAttrs_list PySem.F.slot_list_extend PySem.F.type_list_extend zhH (pv 1) (aa (zcL (N':=["inner"]) (ix:=[]) rfl rfl (by decide +kernel) (by decide +kernel) rfl (fun _=>⟨[],za2 (by decide +kernel) (by decide +kernel)⟩) (by decide +kernel) rfl rfl (fun j i h=>by simp at h) (za6 (ao BJ.ok hr1 rfl BJ.m BJ.kp BJ.b .nil ap (aa (pv 0) ac))) (fun _ _ _ _=>(ao IH hr rfl m kp b .nil ap (aa (pv 0) ac)))) ac)))
   (ag (ar (am zbO ad (zgl rfl rfl TM (aa (pv 1) ac) (zgj ad zhb))))))),?_⟩
  have ok:=zcB lf h20
  obtain⟨lt,ll⟩:=LF_trs lf
  obtain⟨lm,l2⟩:=LF_fms lf
  have tb:∀ u∈zao g,dp u≤19:=fun u hu=>by
   have h1:=zdu g
   rw[zfs]at h1
   have:=zfh (List.mem_map.mpr ⟨u,hu,rfl⟩:dp u∈(zao g).map dp)
   omega
  have fb:∀ u∈zam g,fdd u≤n∧fdd u≤20:=fun u hu=>by
   have h1:=zdu g
   rw[zfs]at h1
   have:=zfh (List.mem_map.mpr ⟨u,hu,rfl⟩:fdd u∈(zam g).map fdd)
   omega
  refine⟨_,rfl,g,_,rfl,hg,ok,fun H1 l ys s1 hl hl1 hy=>⟨l,rfl,⟨_,SqL.of hl1⟩,fun D hD=>zbR za5 (fun i us H'=>ai H1 H'∧us=((dn ((zao g).map dp)).take i).map V.int) (fun i us H' ⟨s4,_⟩=>SqL.of (s4 _ _ hl1)) ⟨ah hD _,rfl⟩ ?_ ?_⟩⟩
  ·rintro i us H8 x H4 hi hly hDs ⟨s4,rfl⟩ ⟨rfl,hx'⟩
   obtain⟨u,hu,hux⟩:=zaL (hy.keep s4.kt (nols_dTrs _)) (hx' _ (SqL.of (s4 _ _ hl1)))
   have um:=List.mem_of_getElem? hu
   have yl:ys.length=(zao g).length:=by rw[←hy.length,dTrs_length]
   have hu2:(dn ((zao g).map dp))[i]?=some ((dp u:Nat):Int):=by
    unfold dn
    rw[List.map_map,List.getElem?_map,hu]
    rfl
   refine⟨_,rfl,u,_,rfl,hux,zdP lt u um,tb u um,fun H5 s5=>zbc (szM (by omega)) hi hly (s5 _ _ hDs) ⟨(s4.trans s5).upd hD,?_⟩⟩
   rw[zaF hu2,List.map_append]
   rfl
  rintro us H4 hDs ⟨s4,rfl⟩
  have yl:ys.length=(zao g).length:=by rw[←hy.length,dTrs_length]
  have dl:(dn ((zao g).map dp)).length=(zao g).length:=by simp [dn]
  rw[List.take_of_length_le (by rw[dl,yl];exact Nat.le_refl _)]at hDs
  have s14:=s1.trans s4
  have hg4:=hg.keep s14.kt (nol_dFm _)
  refine⟨_,rfl,.inl ⟨rfl,_,SqL.of hDs⟩,_,rfl,g,_,rfl,hg4,ok,fun H5 l2' zs s5 hl2 hl5 hz=>⟨l2',rfl,⟨_,SqL.of hl5⟩,fun D2 hD2=>zbR za5 (fun i us H'=>ai H5 H'∧us=((dn ((zam g).map fdd)).take i).map V.int) (fun i us H' ⟨s6,_⟩=>SqL.of (s6 _ _ hl5)) ⟨ah hD2 _,rfl⟩ ?_ ?_⟩⟩
  ·rintro i us H8 x H6 hi hly hDs6 ⟨s6,rfl⟩ ⟨rfl,hx'⟩
   obtain⟨u,hu,hux⟩:=fms_get (hz.keep s6.kt (zae _)) (hx' _ (SqL.of (s6 _ _ hl5)))
   have um:=List.mem_of_getElem? hu
   have zl:zs.length=(zam g).length:=by rw[←hz.length,List.length_map]
   have hu2:(dn ((zam g).map fdd))[i]?=some ((fdd u:Nat):Int):=by
    unfold dn
    rw[List.map_map,List.getElem?_map,hu]
    rfl
   refine⟨_,rfl,u,_,rfl,hux,lm u um,(fb u um).1,(fb u um).2,fun H7 s7=>zbc (szM (by omega)) hi hly (s7 _ _ hDs6) ⟨(s6.trans s7).upd hD2,?_⟩⟩
   rw[zaF hu2,List.map_append]
   rfl
  rintro us H6 hDs6 ⟨s6,rfl⟩
  have zl:zs.length=(zam g).length:=by rw[←hz.length,List.length_map]
  have dl2:(dn ((zam g).map fdd)).length=(zam g).length:=by simp [dn]
  rw[List.take_of_length_le (by rw[dl2,zl];exact Nat.le_refl _)]at hDs6
  have hD6:H6 D=some (.lst ((dn ((zao g).map dp)).map V.int)):=(s5.trans s6) _ _ hDs
  have nD:H D=none:=s1.free hD
  refine⟨D,D2,_,_,rfl,rfl,hD6,hDs6,szM (by simp only[List.length_map,dl,dl2];omega),?_⟩
  have ea:(dn ((zao g).map dp)).map V.int++(dn ((zam g).map fdd)).map V.int=(dn ((zao g).map dp++(zam g).map fdd)).map V.int:=by
   unfold dn
   rw[List.map_append,List.map_append]
  rw[ea]
  have sF:ai H (upd H6 D (.lst ((dn ((zao g).map dp++(zam g).map fdd)).map V.int))):=((s14.trans s5).trans s6).upd nD
  refine⟨_,rfl,D,dn ((zao g).map dp++(zam g).map fdd),0,rfl,rfl,.inl (SqL.of af),fun e=>?_,fun m hm hmax=>?_⟩
  ·have e':((zao g).map dp++(zam g).map fdd)=[]:=by
    have:=congrArg List.length e
    unfold dn at this
    rw[List.length_map]at this
    exact List.length_eq_zero_iff.mp this
   have e1:=zdu g
   rw[e']at e1
   refine⟨_,_,rfl,rfl,?_⟩
   have e:((1:Int)+0)=((fdd g:Nat):Int):=by rw[e1];rfl
   show Q (.int ((1:Int)+0)) _
   rw[e]
   exact q _ sF
  ·have e:=mx_is hm hmax
   subst e
   refine⟨_,_,rfl,rfl,?_⟩
   have e:(1+((mx ((zao g).map dp++(zam g).map fdd):Nat):Int))=((fdd g:Nat):Int):=by rw[zdu g];omega
   show Q (.int (1+((mx ((zao g).map dp++(zam g).map fdd):Nat):Int))) _
   rw[e]
   exact q _ sF
end
end K72
namespace K72
open PySem L2
open F72 (Tr Fm dTr ax dFm FOk fdp dp dps zao zam nol_dFm nols_dTrs zae zaL fms_get tr_at szM dTrs_length zaP zbb Dst hdF tlF fm_at)
mutual
def RT:Tr→Prop
 | .node _ ts=>RTs ts∧ts.length≤3
def RTs:List Tr→Prop
 | []=>True
 | t :: ts=>RT t∧RTs ts
end
theorem zeQ:∀ {ts:List Tr},RTs ts→∀ t∈ts,RT t
 | t :: ts,h,u,hu=>by
  simp only[RTs]at h
  rcases List.mem_cons.mp hu with rfl | hu
  ·exact h.1
  ·exact zeQ h.2 u hu
def RF:Fm→Prop
 | .plain _=>True
 | .bare _=>True
 | .same a b=>RT a∧RT b
 | .unlike ts=>2≤ts.length∧ts.length≤5∧RTs ts∧Dst ts
 | .not f=>RF f
 | .bin _ f g=>RF f∧RF g
theorem RF_trs {g:Fm} (h:RF g):∀ t∈zao g,RT t:=by
 cases g with
 | same a b =>
  intro t ht
  simp only[RF]at h
  simp only[zao,List.mem_cons,List.not_mem_nil,or_false]at ht
  rcases ht with rfl | rfl
  ·exact h.1
  ·exact h.2
 | unlike ts =>
  simp only[RF]at h
  exact zeQ h.2.2.1
 | _=>intro t ht;simp [zao]at ht
theorem RF_fms {g:Fm} (h:RF g):∀ u∈zam g,RF u:=by
 cases g with
 | not f =>
  intro u hu
  simp only[zam,List.mem_singleton]at hu
  subst hu
  exact h
 | bin k f g =>
  intro u hu
  simp only[RF]at h
  simp only[zam,List.mem_cons,List.not_mem_nil,or_false]at hu
  rcases hu with rfl | rfl
  ·exact h.1
  ·exact h.2
 | _=>intro u hu;simp [zam]at hu
section
variable {P:Program} {w:World} {K:W.Frag} {mg:Str→Option Value} {base:Heap} {aW aB:Addr} {f fT fI fJ fU:Addr} {fd dT' dI dJ dU:FuncData}
def zd0 (K:W.Frag) (n:Nat):Sp:=fun vs H Q _=>∃(t:Tr) (v:V),vs=[v]∧Has K H (dTr t) v∧RT t∧dp t≤n∧∀ H',ai H H'→Q .non H'
theorem zfI:zad ["tree","part"] ["tree"] (aj zdl):=⟨rfl,rfl,rfl,by decide +kernel,rfl,by decide +kernel,by decide +kernel⟩
theorem zfN (F:Fun K "ask_tree" "ask_tree" zdl f fd) (TW:TxW K mg aW aB) (b:aq K fd ["tree"] []) (kp:W.keepIn K (.ref f)=true) (m:mg "ask_tree"=some (.ref f)):∀ n,FnOk P w K mg base CX0 n f fd ["tree"] (zd0 K n)
 | 0=>F72.FnOk.no fun _ _ _ _ ⟨t,v,_,_,_,h,_⟩=>by
  cases t
  simp only[dp]at h
  omega
 | n+1=>by
  have IH:=zfN F TW b kp m n
  refine F.ok zfI (fun vs H Q E h=>?_) (fun cdv A outer s H vs Q E hr h=>?_)
  ·obtain⟨t,v,rfl,_⟩:=h
   rfl
  obtain⟨⟨nm,ts⟩,v,rfl,ht,rt,hd,q⟩:=h
  obtain⟨t1,e1⟩:=TW.mtp
  refine⟨_,(ae (zai (zaa zcM (zaI za0 rfl TW.len PySem.boot_len (aa (av zan (pv 0) ad (fun _ _=>rfl)) ac)) (zaO (v:=.int 3) rfl e1 ⟨_,rfl⟩) (zag _))
    zaH
    zab)
   (ag (zaY PassesOwn.never rfl (zcA (av zan (pv 0) ad (fun _ _=>rfl))) (zaA (i:=1) zfI.nd rfl (Or.inl rfl))
    (ag (zaM (ao IH hr rfl m kp b .nil ap (aa (pv 1) ac))))))),?_⟩
  obtain⟨p,r,xs,rfl,hp,hq,hx⟩:=tr_at ht
  have xl:xs.length=ts.length:=by rw[←hx.length,dTrs_length]
  simp only[dp]at hd
  simp only[RT]at rt
  obtain⟨rts,r3⟩:=rt
  refine⟨_,rfl,p,_,_,_,rfl,rfl,hp,rfl,r,_,rfl,.inr hq,_,_,rfl,rfl,_,rfl,zal (fun c=>?_) (fun _=>?_)⟩
  ·have:(3:Int) < ((xs.length:Nat):Int):=of_decide_eq_true c
   omega
  refine⟨_,rfl,p,_,_,_,rfl,rfl,hp,rfl,r,rfl,⟨_,hq⟩,zbP zcx (fun i σ H'=>∃ v:Option V,σ=[some (.ref p),v]∧ai H H') (fun i σ H' ⟨_,_,s1⟩=>s1.tup hq) ⟨none,rfl,ai.refl H⟩ ?_ ?_⟩
  ·rintro i σ H2 x H3 hi ⟨v,rfl,s2⟩ ⟨rfl,hy⟩
   obtain⟨u,hu,hux⟩:=zaL (hx.keep s2.kt (nols_dTrs _)) (hy _ (s2.tup hq))
   have um:=List.mem_of_getElem? hu
   exact⟨_,rfl,u,_,rfl,hux,zeQ rts u um,F72.dps_le (by omega) u um,fun H5 s5=>⟨_,rfl,s2.trans s5⟩⟩
  ·rintro σ H2 ⟨v,rfl,s2⟩
   exact q H2 s2
def zgg (K:W.Frag):Sp:=fun vs H Q _=>∃(ts:List Tr) (a:Addr) (xs:List V),vs=[.ref a]∧SqT K H a xs∧HasL K H (ax ts) xs∧2≤ts.length∧ts.length≤5∧Dst ts∧(∀ t∈ts,dp t≤19)∧∀ H',ai H H'→Q .non H'
theorem zeE:zad ["trees","place","tree"] ["trees"] (aj zcH):=⟨rfl,rfl,rfl,by decide +kernel,rfl,by decide +kernel,by decide +kernel⟩
theorem cut_n (xs:List V) (m:Nat):zbK xs none (some (m:Int))=xs.take m:=by
 unfold zbK
 rw[HT.sIx_none,HT.sIx_nat,List.drop_zero,Nat.sub_zero]
 rw[List.take_eq_take_iff]
 omega
theorem HasL.tk {K:W.Frag} {H:Hp} {ds:List Dt} {vs:List V} (n:Nat) (h:HasL K H ds vs):HasL K H (ds.take n) (vs.take n):=F72.HasL.take n h
theorem ziR (F:Fun K "ask_unlike" "ask_unlike" zcH f fd) (TW:TxW K mg aW aB) (TE:mg "enumerate"=none):FnOk P w K mg base CX0 1 f fd ["trees"] (zgg K):=by
 refine F.ok zeE (fun vs H Q E h=>?_) (fun cdv A outer s H vs Q E hr h=>?_)
 ·obtain⟨t,v,_,rfl,_⟩:=h
  rfl
 obtain⟨ts,a,xs,rfl,hS,hx,l2,l5,dst,d19,q⟩:=h
 obtain⟨t1,e1⟩:=TW.lu
 obtain⟨t2,e2⟩:=TW.mu
 have hu:=zcr hr
 refine⟨_,(ae (zai (PW.pt (zeb (zaa zgM (zaI za0 rfl TW.len PySem.boot_len (aa (pv 0) ac)) (zaO (v:=.int 2) rfl e1 ⟨_,rfl⟩) (zag _)) (zei (zaa zcM (zaI za0 rfl TW.len PySem.boot_len (aa (pv 0) ac)) (zaO (v:=.int 5) rfl e2 ⟨_,rfl⟩) (zag _)))))
   zaH
   zab)
  (ag (zaY PassesOwn.never rfl (zib rfl TE (aa (pv 0) ac)) (pg_tup rfl (zfK (zaA (i:=1) zeE.nd rfl (Or.inl rfl)) (zfK (zaA (i:=2) zeE.nd rfl (Or.inl rfl)) ziK)))
   (ag (zai (zaa (op_inD hu) (pv 2) (zbg zfl (pv 0) zbF (zbi (pv 1))) rfl)
    zaH
    zab))))),?_⟩
 have xl:xs.length=ts.length:=by rw[←hx.length,dTrs_length]
 refine⟨_,rfl,a,_,rfl,.inr hS,_,_,rfl,rfl,_,rfl,zal (fun c=>?_) (fun _=>?_)⟩
 ·have:((xs.length:Nat):Int) < 2:=of_decide_eq_true c
  omega
 refine⟨_,rfl,a,_,rfl,.inr hS,_,_,rfl,rfl,_,rfl,zal (fun c=>?_) (fun _=>?_)⟩
 ·have:(5:Int) < ((xs.length:Nat):Int):=of_decide_eq_true c
  omega
 refine⟨_,rfl,a,rfl,⟨_,hS⟩,zbP zhU (fun i σ H'=>∃ v1 v2:Option V,σ=[some (.ref a),v1,v2]∧ai H H') (fun i σ H' ⟨_,_,_,s1⟩=>s1.tup hS) ⟨none,none,rfl,ai.refl H⟩ ?_ ?_⟩
 ·rintro i σ H2 x H3 hi ⟨v1,v2,rfl,s2⟩ ⟨p,y,rfl,hp,rfl,hy⟩
  have s3:ai H2 (upd H2 p (.tup [.int i,y])):=ah hp _
  have n3:=af (H:=H2) (a:=p) (o:=.tup [.int i,y])
  generalize upd H2 p (.tup [.int i,y])=H3 at s3 n3
  have s13:=s2.trans s3
  obtain⟨u,hu',hux⟩:=zaL (hx.keep s13.kt (nols_dTrs _)) (hy _ (s2.tup hS))
  have lt:i < xs.length:=hi
  refine⟨p,_,rfl,SqT.of n3,rfl,_,_,rfl,_,_,rfl,rfl,?_⟩
  refine⟨_,rfl,_,rfl,_,rfl,_,rfl,a,_,rfl,s13.tup hS,(fun h=>by
   have h2:=h.2
   rw[HT.sIx_nat]at h2
   omega),fun p4 hp4=>?_⟩
  rw[cut_n]
  have s4:ai H3 (upd H3 p4 (.tup (xs.take i))):=ah hp4 _
  have n4:=af (H:=H3) (a:=p4) (o:=.tup (xs.take i))
  generalize upd H3 p4 (.tup (xs.take i))=H4 at s4 n4
  have s14:=s13.trans s4
  have dd:=F72.deps_dTrs (ts.take i)
  have dm:=F72.le_dps (ts:=ts.take i) (n:=19) fun t ht=>d19 t (List.mem_of_mem_take ht)
  rw[←F72.take_dTrs]at dd
  refine⟨p4,_,(ax ts).take i,dTr u,rfl,.inr (SqT.of n4),HasL.tk i (hx.keep s14.kt (nols_dTrs _)),hux.keep s4.kt (F72.nol_dTr _),by omega,_,rfl,?_⟩
  rw[dst i u hu']
  exact zaS ⟨_,_,rfl,s14⟩
 ·rintro σ H2 ⟨v1,v2,rfl,s2⟩
  exact q H2 s2
def zdL (K:W.Frag) (n:Nat):Sp:=fun vs H Q _=>∃(g:Fm) (v:V),vs=[v]∧Has K H (dFm g) v∧FOk g∧RF g∧fdp g≤n∧∀ H',ai H H'→Q .non H'
theorem zeF:zad ["formula","tree","inner"] ["formula"] (aj zcI):=⟨rfl,rfl,rfl,by decide +kernel,rfl,by decide +kernel,by decide +kernel⟩
theorem zgI {g:Fm} (h:FOk g):∀ t∈zao g,dp t≤19:=by
 cases g with
 | same a b =>
  intro t ht
  simp only[zao,List.mem_cons,List.not_mem_nil,or_false]at ht
  rcases ht with rfl | rfl
  ·exact h.1
  ·exact h.2
 | unlike ts=>exact h
 | _=>intro t ht;simp [zao]at ht
theorem zgJ {g:Fm} (h:FOk g):∀ u∈zam g,FOk u∧fdp u+1≤fdp g:=by
 cases g with
 | not f =>
  intro u hu
  simp only[zam,List.mem_singleton]at hu
  subst hu
  exact⟨h,by simp only[fdp];omega⟩
 | bin k f g =>
  intro u hu
  simp only[zam,List.mem_cons,List.not_mem_nil,or_false]at hu
  rcases hu with rfl | rfl
  ·exact⟨h.2.1,by simp only[fdp];omega⟩
  ·exact⟨h.2.2,by simp only[fdp];omega⟩
 | _=>intro u hu;simp [zam]at hu
theorem zgp (F:Fun K "ask_counts" "ask_counts" zcI f fd) (b:aq K fd ["formula"] []) (kp:W.keepIn K (.ref f)=true) (m:mg "ask_counts"=some (.ref f))
  (BT:FB P w K mg base CX0 19 "ask_tree" fT dT' ["tree"] (zd0 K 19)) (BU:FB P w K mg base CX0 1 "ask_unlike" fU dU ["trees"] (zgg K)) (BI:FB P w K mg base CX0 1 "inner_trees" fI dI ["formula"] (zaP K)) (BJ:FB P w K mg base CX0 1 "inner_formulas" fJ dJ ["formula"] (zbb K)):∀ n,FnOk P w K mg base CX0 (n+19) f fd ["formula"] (zdL K n)
 | 0=>F72.FnOk.no fun _ _ _ _ ⟨g,v,_,_,_,_,h,_⟩=>by
  have:=F72.fdp_pos g
  omega
 | n+1=>by
  have IH:=zgp F b kp m BT BU BI BJ n
  refine F.ok (k:=n+19) zeF (fun vs H Q E h=>?_) (fun cdv A outer s H vs Q E hr h=>?_)
  ·obtain⟨t,v,rfl,_⟩:=h
   rfl
  obtain⟨g,v,rfl,hg,ok,rf,hd,q⟩:=h
  have hr1:aw 1 _:=hr.mono (by omega)
  have hr3:aw 19 _:=hr.mono (by omega)
  refine⟨_,(ae (zai (zaa zas (av zan (pv 0) ad (fun _ _=>rfl)) ak (zag _))
    (ag (zaM (ao BU.ok hr1 rfl BU.m BU.kp BU.b .nil ap (aa (av zan (pv 0) ad (fun _ _=>rfl)) ac))))
    zab)
   (ae (zaY PassesOwn.never rfl (za6 (ao BI.ok hr1 rfl BI.m BI.kp BI.b .nil ap (aa (pv 0) ac))) (zaA (i:=1) zeF.nd rfl (Or.inl rfl))
    (ag (zaM (ao BT.ok hr3 rfl BT.m BT.kp BT.b .nil ap (aa (pv 1) ac)))))
   (ag (zaY PassesOwn.never rfl (za6 (ao BJ.ok hr1 rfl BJ.m BJ.kp BJ.b .nil ap (aa (pv 0) ac))) (zaA (i:=2) zeF.nd rfl (Or.inl rfl))
    (ag (zaM (ao IH hr rfl m kp b .nil ap (aa (pv 2) ac)))))))),?_⟩
  obtain⟨p,xs,rfl,hp,hx⟩:=fm_at hg
  have a0:atI (V.str (hdF g) :: xs) 0=some (.str (hdF g)):=zat (j:=0) rfl
  refine⟨_,rfl,p,_,_,_,rfl,rfl,hp,a0,rfl,_,rfl,?_⟩
  have zbt:∀ H0,ai H H0→tSeq (tFor (zec K (zcn (zaP K) [] E0 (zci (zcR 0) zcv))) (zcp 1) (zd9 (zcn (zd0 K 19) [] E0 (zci (zcR 1) zcv)))) (tFor (zec K (zcn (zbb K) [] E0 (zci (zcR 0) zcv))) (zcp 2) (zd9 (zcn (zdL K n) [] E0 (zci (zcR 2) zcv)))) { nx:=fun _ H'=>Q .non H',rt:=Q } [some (.ref p),none,none] H0:=fun H0 s0=>by
   have hg0:=hg.keep s0.kt (nol_dFm _)
   refine⟨_,rfl,g,_,rfl,hg0,ok,fun H1 l ys s1 hl hl1 hy=>⟨l,rfl,⟨_,SqL.of hl1⟩,zbP za5 (fun i σ H'=>∃ v:Option V,σ=[some (.ref p),v,none]∧ai H1 H') (fun i σ H' ⟨_,_,s2⟩=>SqL.of (s2 _ _ hl1)) ⟨none,rfl,ai.refl H1⟩ ?_ ?_⟩⟩
   ·rintro i σ H2 x H3 hi ⟨v,rfl,s2⟩ ⟨rfl,hz⟩
    obtain⟨u,hu,hux⟩:=zaL (hy.keep s2.kt (nols_dTrs _)) (hz _ (SqL.of (s2 _ _ hl1)))
    have um:=List.mem_of_getElem? hu
    exact⟨_,rfl,u,_,rfl,hux,RF_trs rf u um,zgI ok u um,fun H5 s5=>⟨_,rfl,s2.trans s5⟩⟩
   ·rintro σ H2 ⟨v,rfl,s2⟩
    have s02:=(s0.trans s1).trans s2
    have hg2:=hg.keep s02.kt (nol_dFm _)
    refine⟨_,rfl,g,_,rfl,hg2,ok,fun H3 l2 zs s3 hl2 hl3 hz=>⟨l2,rfl,⟨_,SqL.of hl3⟩,zbP za5 (fun i σ H'=>∃ v2:Option V,σ=[some (.ref p),v,v2]∧ai H3 H') (fun i σ H' ⟨_,_,s4⟩=>SqL.of (s4 _ _ hl3)) ⟨none,rfl,ai.refl H3⟩ ?_ ?_⟩⟩
    ·rintro i σ H4 x H5 hi ⟨v2,rfl,s4⟩ ⟨rfl,hz'⟩
     obtain⟨u,hu,hux⟩:=fms_get (hz.keep s4.kt (zae _)) (hz' _ (SqL.of (s4 _ _ hl3)))
     have um:=List.mem_of_getElem? hu
     obtain⟨o1,o2⟩:=zgJ ok u um
     exact⟨_,rfl,u,_,rfl,hux,o1,RF_fms rf u um,by omega,fun H6 s6=>⟨_,rfl,s4.trans s6⟩⟩
    ·rintro σ H4 ⟨v2,rfl,s4⟩
     exact q H4 ((s02.trans s3).trans s4)
  refine zal (fun c=>?_) (fun c=>?_)
  ·obtain⟨ts,rfl⟩:=F72.hd_unlike ok (by have:=of_decide_eq_true c;injection this)
   simp only[tlF,HasL,Has]at hx
   obtain⟨va,r1,rfl,⟨r,ys,rfl,hr',hy⟩,rfl⟩:=hx
   have rf':=rf
   simp only[RF]at rf'
   exact⟨_,rfl,p,_,_,_,rfl,rfl,hp,rfl,ts,r,ys,rfl,hr',hy,rf'.1,rf'.2.1,rf'.2.2.2,ok,fun H0 s0=>zbt H0 s0⟩
  ·exact zbt H (ai.refl H)
end
end K72
namespace K72
open PySem L2
open F72 (Tr Fm dTr ax dFm FOk fdp dp dps zao zam nol_dFm nols_dTrs zae zaL fms_get tr_at szM dTrs_length zaP zbb hdF tlF fm_at sz)
def zck (z:Str):List Bool:=z.cps.toList.map fun c=>isL ⟨#[c]⟩
def zcO:List V:=[.str "or",.str "and",.str "not",.str "never",.str "always",.str "then",.str "as",.str "unlike"]
def zd8 (z:Str):Bool:=decide ((0:Int) < (z.length:Int))&&(zck z).all id
def zco (z:Str):Bool:=zd8 z&&(decide ((z.length:Int)≤8)&&!inV (.str z) zcO)
theorem zg2:zcO.all zb2=true:=by decide +kernel
theorem zfR (z:Str):(zck z).length=z.length:=by simp [zck,Str.length]
theorem zhW {z:Str} {i ch:Nat} (hch:z.cps[i]?=some ch):(zck z).take (i+1)=(zck z).take i++[isL ⟨#[ch]⟩]:=by
 have hb:(zck z)[i]?=some (isL ⟨#[ch]⟩):=by
  unfold zck
  rw[List.getElem?_map,Array.getElem?_toList,hch]
  rfl
 rw[List.take_add_one,hb]
 rfl
theorem zh5 {H:Hp} {p:Addr} (h:H p=none) (o:HO):ai H (upd H p o):=fun b u q=>by rw[zaj (zaC q h)];exact q
def zfG:Sp:=fun vs H Q _=>∃ z:Str,vs=[.str z]∧z.length≤1000∧∀ H',ai H H'→Q (.bl (zd8 z)) H'
def zfH:Sp:=fun vs H Q _=>∃ z:Str,vs=[.str z]∧z.length≤1000∧∀ H',ai H H'→Q (.bl (zco z)) H'
structure TxN (K:W.Frag) (mg:Str→Option Value) (aK:Addr):Prop where
 small:∃ t,mg "SMALL_LETTERS"=some (.str abc t)
 longest:∃ t,mg "LONGEST_NAME"=some (.int 8 t)
 kept:mg "KEPT_WORDS"=some (.ref aK)
 tup:∀ H,SqT K H aK zcO
 len:mg "len"=none
 all:mg "all"=none
section
variable {P:Program} {w:World} {K:W.Frag} {mg:Str→Option Value} {base:Heap} {aK:Addr} {f fT fI fJ fN:Addr} {fd dT' dI dJ dN:FuncData}
theorem scIW:zad ["text"] ["text"] (aj zdA):=⟨rfl,rfl,rfl,by decide +kernel,rfl,by decide +kernel,by decide +kernel⟩
theorem zhD (F:Fun K "is_word" "is_word" zdA f fd) (T:TxN K mg aK):FnOk P w K mg base CX0 1 f fd ["text"] zfG:=by
 obtain⟨t1,e1⟩:=T.small
 refine F.ok scIW (fun vs H Q E h=>?_) (fun cdv A outer s H vs Q E hr h=>?_)
 ·obtain⟨z,rfl,_⟩:=h
  rfl
 obtain⟨z,rfl,hz,q⟩:=h
 refine⟨_,ag (ar (zel (zbX zcM (zaI zb6 rfl T.len PySem.boot_len (aa (pv 0) ac)) ad (zag _))
  (zfp (zaI (zeT rfl) rfl T.all PyProof.Rows.Boot.all (aa
   (zcL (N':=["letter"]) (ix:=[]) rfl rfl (by decide +kernel) (by decide +kernel) rfl (fun _=>⟨[],za2 (by decide +kernel) (by decide +kernel)⟩) (by decide +kernel) rfl rfl (fun j i h=>by simp at h)
    (zhc (pv 0)) (fun cl fp s₃ H₃=>zbX ze2 (pv 0) (zaO (v:=.str abc) rfl e1 ⟨_,rfl⟩) rfl)) ac))))),?_⟩
 refine⟨_,rfl,z,rfl,sz _ hz,_,_,rfl,rfl,_,rfl,?_⟩
 refine zal (fun c=>?_) (fun c=>?_)
 ·have c':(0:Int) < (z.length:Int):=of_decide_eq_true c
  refine⟨_,rfl,z,rfl,fun D hD=>⟨fun i m ys H'=>m=z.length - i∧i≤z.length∧ys=((zck z).take i).map V.bl∧H'=upd H D (.lst ys),⟨z.length,rfl,Nat.zero_le _,rfl,rfl⟩,?_⟩⟩
  rintro i m ys H' ⟨rfl,hi,rfl,rfl⟩
  refine⟨af,?_⟩
  by_cases hlt:i < z.length
  ·refine .inr ⟨hlt,fun x H'' y=>?_⟩
   obtain⟨rfl,ch,hch,rfl⟩:=y
   have et:=zhW hch
   refine⟨_,rfl,_,_,rfl,rfl,af,?_,z.length - (i+1),by omega,rfl,hlt,?_,zgb⟩
   ·rw[List.length_map,List.length_take,zfR]
    exact Nat.lt_of_le_of_lt (Nat.le_trans (Nat.min_le_right _ _) hz) (by decide)
   ·rw[et,List.map_append]
    rfl
  ·have hi':i=z.length:=by omega
   subst hi'
   refine .inl ⟨Nat.le_refl _,D,zck z,rfl,SqL.of (by rw[af,List.take_of_length_le (by rw[zfR];exact Nat.le_refl _)]),?_⟩
   have:=q _ (zh5 hD (.lst (((zck z).take z.length).map V.bl)))
   unfold zd8 at this
   rw[c,Bool.true_and]at this
   exact this
 ·have:=q H (ai.refl H)
  unfold zd8 at this
  rw[Bool.eq_false_iff.mpr c,Bool.false_and]at this
  exact this
theorem scIN:zad ["word"] ["word"] (aj zdB):=⟨rfl,rfl,rfl,by decide +kernel,rfl,by decide +kernel,by decide +kernel⟩
theorem zhE {g:Addr} {gd:FuncData} (F:Fun K "is_name" "is_name" zdB f fd) (T:TxN K mg aK) (G:FnOk P w K mg base CX0 1 g gd ["text"] zfG) (bG:aq K gd ["text"] []) (kG:W.keepIn K (.ref g)=true) (mG:mg "is_word"=some (.ref g)) :
  FnOk P w K mg base CX0 2 f fd ["word"] zfH:=by
 obtain⟨t2,e2⟩:=T.longest
 refine F.ok scIN (fun vs H Q E h=>?_) (fun cdv A outer s H vs Q E hr h=>?_)
 ·obtain⟨z,rfl,_⟩:=h
  rfl
 obtain⟨z,rfl,hz,q⟩:=h
 refine⟨_,ag (ar (zel (ao G hr rfl mG kG bG .nil ap (aa (pv 0) ac)) (zel (zbX op_le (zaI zb6 rfl T.len PySem.boot_len (aa (pv 0) ac)) (zaO (v:=.int 8) rfl e2 ⟨_,rfl⟩) (zag _))
  (zfp (zbX zf4 (pv 0) (zaO (v:=.ref aK) rfl T.kept rfl) rfl))))),?_⟩
 refine⟨_,rfl,z,rfl,hz,fun H1 s1=>⟨_,rfl,?_⟩⟩
 refine zal (fun c=>?_) (fun c=>?_)
 ·refine⟨_,rfl,z,rfl,sz _ hz,_,_,rfl,rfl,_,rfl,?_⟩
  refine zal (fun c2=>?_) (fun c2=>?_)
  ·refine⟨_,rfl,aK,zcO,rfl,.inr (T.tup H1),rfl,zg2,?_⟩
   have:=q H1 s1
   unfold zco at this
   rw[c,c2,Bool.true_and,Bool.true_and]at this
   exact this
  ·have:=q H1 s1
   unfold zco at this
   rw[c,Bool.eq_false_iff.mpr c2,Bool.true_and,Bool.false_and]at this
   exact this
 ·have:=q H1 s1
  unfold zco at this
  rw[Bool.eq_false_iff.mpr c,Bool.false_and]at this
  exact this
theorem scAN:zad ["word"] ["word"] (aj zdm):=⟨rfl,rfl,rfl,by decide +kernel,rfl,by decide +kernel,by decide +kernel⟩
def zd1:Sp:=fun vs H Q _=>∃ z:Str,vs=[.str z]∧z.length≤1000∧zco z=true∧∀ H',ai H H'→Q .non H'
theorem zgV (F:Fun K "ask_name" "ask_name" zdm f fd) (BN:FB P w K mg base CX0 2 "is_name" fN dN ["word"] zfH):FnOk P w K mg base CX0 3 f fd ["word"] zd1:=by
 refine F.ok scAN (fun vs H Q E h=>?_) (fun cdv A outer s H vs Q E hr h=>?_)
 ·obtain⟨z,rfl,_⟩:=h
  rfl
 obtain⟨z,rfl,lo,nb,q⟩:=h
 refine⟨_,ag (zai (zbw (zaX (ao BN.ok hr rfl BN.m BN.kp BN.b .nil ap (aa (pv 0) ac)))) zaH zab),?_⟩
 refine⟨_,rfl,z,rfl,lo,fun H1 s1=>⟨_,rfl,?_⟩⟩
 rw[nb]
 exact zaS (q H1 s1)
mutual
def NT:Tr→Prop
 | .node n ts=>(zco n=true∧n.length≤1000)∧NTs ts
def NTs:List Tr→Prop
 | []=>True
 | t :: ts=>NT t∧NTs ts
end
theorem zeR:∀ {ts:List Tr},NTs ts→∀ t∈ts,NT t
 | t :: ts,h,u,hu=>by
  simp only[NTs]at h
  rcases List.mem_cons.mp hu with rfl | hu
  ·exact h.1
  ·exact zeR h.2 u hu
def NF:Fm→Prop
 | .plain z=>zco z=true∧z.length≤1000
 | .bare _=>True
 | .same a b=>NT a∧NT b
 | .unlike ts=>NTs ts
 | .not f=>NF f
 | .bin _ f g=>NF f∧NF g
theorem NF_trs {g:Fm} (h:NF g):∀ t∈zao g,NT t:=by
 cases g with
 | same a b =>
  intro t ht
  simp only[NF]at h
  simp only[zao,List.mem_cons,List.not_mem_nil,or_false]at ht
  rcases ht with rfl | rfl
  ·exact h.1
  ·exact h.2
 | unlike ts=>exact zeR h
 | _=>intro t ht;simp [zao]at ht
theorem NF_fms {g:Fm} (h:NF g):∀ u∈zam g,NF u:=by
 cases g with
 | not f =>
  intro u hu
  simp only[zam,List.mem_singleton]at hu
  subst hu
  exact h
 | bin k f g =>
  intro u hu
  simp only[NF]at h
  simp only[zam,List.mem_cons,List.not_mem_nil,or_false]at hu
  rcases hu with rfl | rfl
  ·exact h.1
  ·exact h.2
 | _=>intro u hu;simp [zam]at hu
def zee (K:W.Frag) (n:Nat):Sp:=fun vs H Q _=>∃(t:Tr) (v:V),vs=[v]∧Has K H (dTr t) v∧NT t∧dp t≤n∧∀ H',ai H H'→Q .non H'
theorem zg8:zad ["tree","part"] ["tree"] (aj zbV):=⟨rfl,rfl,rfl,by decide +kernel,rfl,by decide +kernel,by decide +kernel⟩
theorem zhe (F:Fun K "ask_tree_names" "ask_tree_names" zbV f fd) (BN:FB P w K mg base CX0 3 "ask_name" fN dN ["word"] zd1) (b:aq K fd ["tree"] []) (kp:W.keepIn K (.ref f)=true) (m:mg "ask_tree_names"=some (.ref f)):∀ n,FnOk P w K mg base CX0 (n+3) f fd ["tree"] (zee K n)
 | 0=>F72.FnOk.no fun _ _ _ _ ⟨t,v,_,_,_,h,_⟩=>by
  cases t
  simp only[dp]at h
  omega
 | n+1=>by
  have IH:=zhe F BN b kp m n
  refine F.ok (k:=n+3) zg8 (fun vs H Q E h=>?_) (fun cdv A outer s H vs Q E hr h=>?_)
  ·obtain⟨t,v,rfl,_⟩:=h
   rfl
  obtain⟨⟨nm,ts⟩,v,rfl,ht,nt,hd,q⟩:=h
  have hr3:aw 3 _:=hr.mono (by omega)
  refine⟨_,(ae (zaM (ao BN.ok hr3 rfl BN.m BN.kp BN.b .nil ap (aa (av zan (pv 0) ad (fun _ _=>rfl)) ac)))
   (ag (zaY PassesOwn.never rfl (zcA (av zan (pv 0) ad (fun _ _=>rfl))) (zaA (i:=1) zg8.nd rfl (Or.inl rfl))
    (ag (zaM (ao IH hr rfl m kp b .nil ap (aa (pv 1) ac))))))),?_⟩
  obtain⟨p,r,xs,rfl,hp,hq,hx⟩:=tr_at ht
  simp only[dp]at hd
  simp only[NT]at nt
  obtain⟨⟨n1,n2⟩,nts⟩:=nt
  refine⟨_,rfl,p,_,_,_,rfl,rfl,hp,rfl,nm,rfl,n2,n1,fun H1 s1=>?_⟩
  have hq1:=s1.tup hq
  refine⟨_,rfl,p,_,_,_,rfl,rfl,s1.tup hp,rfl,r,rfl,⟨_,hq1⟩,zbP zcx (fun i σ H'=>∃ v:Option V,σ=[some (.ref p),v]∧ai H1 H') (fun i σ H' ⟨_,_,s2⟩=>s2.tup hq1) ⟨none,rfl,ai.refl H1⟩ ?_ ?_⟩
  ·rintro i σ H2 x H3 hi ⟨v,rfl,s2⟩ ⟨rfl,hy⟩
   obtain⟨u,hu,hux⟩:=zaL (hx.keep (s1.trans s2).kt (nols_dTrs _)) (hy _ (s2.tup hq1))
   have um:=List.mem_of_getElem? hu
   exact⟨_,rfl,u,_,rfl,hux,zeR nts u um,F72.dps_le (by omega) u um,fun H5 s5=>⟨_,rfl,s2.trans s5⟩⟩
  ·rintro σ H2 ⟨v,rfl,s2⟩
   exact q H2 (s1.trans s2)
def zef (K:W.Frag) (n:Nat):Sp:=fun vs H Q _=>∃(g:Fm) (v:V),vs=[v]∧Has K H (dFm g) v∧FOk g∧NF g∧fdp g≤n∧∀ H',ai H H'→Q .non H'
theorem zfn:zad ["formula","tree","inner"] ["formula"] (aj zcX):=⟨rfl,rfl,rfl,by decide +kernel,rfl,by decide +kernel,by decide +kernel⟩
theorem zhg (F:Fun K "ask_names" "ask_names" zcX f fd) (b:aq K fd ["formula"] []) (kp:W.keepIn K (.ref f)=true) (m:mg "ask_names"=some (.ref f))
  (BT:FB P w K mg base CX0 22 "ask_tree_names" fT dT' ["tree"] (zee K 19)) (BN:FB P w K mg base CX0 3 "ask_name" fN dN ["word"] zd1) (BI:FB P w K mg base CX0 1 "inner_trees" fI dI ["formula"] (zaP K)) (BJ:FB P w K mg base CX0 1 "inner_formulas" fJ dJ ["formula"] (zbb K)):∀ n,FnOk P w K mg base CX0 (n+22) f fd ["formula"] (zef K n)
 | 0=>F72.FnOk.no fun _ _ _ _ ⟨g,v,_,_,_,_,h,_⟩=>by
  have:=F72.fdp_pos g
  omega
 | n+1=>by
  have IH:=zhg F b kp m BT BN BI BJ n
  refine F.ok (k:=n+22) zfn (fun vs H Q E h=>?_) (fun cdv A outer s H vs Q E hr h=>?_)
  ·obtain⟨t,v,rfl,_⟩:=h
   rfl
  obtain⟨g,v,rfl,hg,ok,nf,hd,q⟩:=h
  have hr1:aw 1 _:=hr.mono (by omega)
  have hr3:aw 3 _:=hr.mono (by omega)
  have hr22:aw 22 _:=hr.mono (by omega)
  refine⟨_,(ae (zai (zaa zas (av zan (pv 0) ad (fun _ _=>rfl)) ak (zag _))
    (ag (zaM (ao BN.ok hr3 rfl BN.m BN.kp BN.b .nil ap (aa (av zan (pv 0) ad (fun _ _=>rfl)) ac))))
    zab)
   (ae (zaY PassesOwn.never rfl (za6 (ao BI.ok hr1 rfl BI.m BI.kp BI.b .nil ap (aa (pv 0) ac))) (zaA (i:=1) zfn.nd rfl (Or.inl rfl))
    (ag (zaM (ao BT.ok hr22 rfl BT.m BT.kp BT.b .nil ap (aa (pv 1) ac)))))
   (ag (zaY PassesOwn.never rfl (za6 (ao BJ.ok hr1 rfl BJ.m BJ.kp BJ.b .nil ap (aa (pv 0) ac))) (zaA (i:=2) zfn.nd rfl (Or.inl rfl))
    (ag (zaM (ao IH hr rfl m kp b .nil ap (aa (pv 2) ac)))))))),?_⟩
  obtain⟨p,xs,rfl,hp,hx⟩:=fm_at hg
  have a0:atI (V.str (hdF g) :: xs) 0=some (.str (hdF g)):=zat (j:=0) rfl
  refine⟨_,rfl,p,_,_,_,rfl,rfl,hp,a0,rfl,_,rfl,?_⟩
  have zbt:∀ H0,ai H H0→tSeq (tFor (zec K (zcn (zaP K) [] E0 (zci (zcR 0) zcv))) (zcp 1) (zd9 (zcn (zee K 19) [] E0 (zci (zcR 1) zcv)))) (tFor (zec K (zcn (zbb K) [] E0 (zci (zcR 0) zcv))) (zcp 2) (zd9 (zcn (zef K n) [] E0 (zci (zcR 2) zcv)))) { nx:=fun _ H'=>Q .non H',rt:=Q } [some (.ref p),none,none] H0:=fun H0 s0=>by
   have hg0:=hg.keep s0.kt (nol_dFm _)
   refine⟨_,rfl,g,_,rfl,hg0,ok,fun H1 l ys s1 hl hl1 hy=>⟨l,rfl,⟨_,SqL.of hl1⟩,zbP za5 (fun i σ H'=>∃ v:Option V,σ=[some (.ref p),v,none]∧ai H1 H') (fun i σ H' ⟨_,_,s2⟩=>SqL.of (s2 _ _ hl1)) ⟨none,rfl,ai.refl H1⟩ ?_ ?_⟩⟩
   ·rintro i σ H2 x H3 hi ⟨v,rfl,s2⟩ ⟨rfl,hz⟩
    obtain⟨u,hu,hux⟩:=zaL (hy.keep s2.kt (nols_dTrs _)) (hz _ (SqL.of (s2 _ _ hl1)))
    have um:=List.mem_of_getElem? hu
    exact⟨_,rfl,u,_,rfl,hux,NF_trs nf u um,zgI ok u um,fun H5 s5=>⟨_,rfl,s2.trans s5⟩⟩
   ·rintro σ H2 ⟨v,rfl,s2⟩
    have s02:=(s0.trans s1).trans s2
    have hg2:=hg.keep s02.kt (nol_dFm _)
    refine⟨_,rfl,g,_,rfl,hg2,ok,fun H3 l2 zs s3 hl2 hl3 hz=>⟨l2,rfl,⟨_,SqL.of hl3⟩,zbP za5 (fun i σ H'=>∃ v2:Option V,σ=[some (.ref p),v,v2]∧ai H3 H') (fun i σ H' ⟨_,_,s4⟩=>SqL.of (s4 _ _ hl3)) ⟨none,rfl,ai.refl H3⟩ ?_ ?_⟩⟩
    ·rintro i σ H4 x H5 hi ⟨v2,rfl,s4⟩ ⟨rfl,hz'⟩
     obtain⟨u,hu,hux⟩:=fms_get (hz.keep s4.kt (zae _)) (hz' _ (SqL.of (s4 _ _ hl3)))
     have um:=List.mem_of_getElem? hu
     obtain⟨o1,o2⟩:=zgJ ok u um
     exact⟨_,rfl,u,_,rfl,hux,o1,NF_fms nf u um,by omega,fun H6 s6=>⟨_,rfl,s4.trans s6⟩⟩
    ·rintro σ H4 ⟨v2,rfl,s4⟩
     exact q H4 ((s02.trans s3).trans s4)
  refine zal (fun c=>?_) (fun c=>?_)
  ·obtain⟨z,rfl⟩:=F72.hd_plain ok (by have:=of_decide_eq_true c;injection this)
   simp only[tlF,HasL,Has]at hx
   obtain⟨va,r1,rfl,rfl,rfl⟩:=hx
   have nf':=nf
   simp only[NF]at nf'
   exact⟨_,rfl,p,_,_,_,rfl,rfl,hp,rfl,z,rfl,nf'.2,nf'.1,fun H0 s0=>zbt H0 s0⟩
  ·exact zbt H (ai.refl H)
end
end K72
namespace K72
open PySem L2
open F72 (Tr Fm dTr ax dFm FOk fdp dp dps zao zam nol_dFm nols_dTrs zae zaL fms_get tr_at szM dTrs_length zaP zbb hdF tlF fm_at sz txt zaB zdV zay zbZ)
abbrev cl (x:Str):List Nat:=x.cps.toList
theorem zhs {a b:Str} (h:cl a=cl b):a=b:=Str.ext' (Array.toList_inj.mp h)
theorem zht (a b:Str):cl (a++b)=cl a++cl b:=Array.toList_append
theorem zgS {x:Str} (h:1≤x.length):cl (Txt.slice x none (some (-1)))=(cl x).take (x.length - 1):=by
 have e:=eq_of_beq (PyProof.Rows.slice_closes_to_neg (x:=x) (j:=-1) (k:=-1+x.length) (by decide) (by omega) rfl)
 rw[e]
 have e2:(-1+(x.length:Int) - 0).toNat=x.length - 1:=by omega
 rw[e2]
 simp [cl]
theorem zfQ {m:Nat}:∀ {a a' r r':List Nat},a++m :: r=a'++m :: r'→m∉a→m∉a'→a=a'∧r=r'
 | [],[],r,r',h,_,_=>⟨rfl,(List.cons.inj h).2⟩
 | [],y :: a',r,r',h,_,h2=>absurd (by rw[(List.cons.inj h).1];exact List.mem_cons_self ..) h2
 | x :: a,[],r,r',h,h1,_=>absurd (by rw[←(List.cons.inj h).1];exact List.mem_cons_self ..) h1
 | x :: a,y :: a',r,r',h,h1,h2=>by
  obtain⟨e1,e2⟩:=List.cons.inj h
  obtain⟨e3,e4⟩:=zfQ e2 (fun z=>h1 (List.mem_cons_of_mem _ z)) (fun z=>h2 (List.mem_cons_of_mem _ z))
  exact⟨by rw[e1,e3],e4⟩
theorem zc8 (c:Nat) (p q:Str) (r:List Str):cl (Str.join ⟨#[c]⟩ (p :: q :: r))=cl p++c :: cl (Str.join ⟨#[c]⟩ (q :: r)):=by
 show cl (p++⟨#[c]⟩++Str.join ⟨#[c]⟩ (q :: r))=_
 rw[zht,zht,List.append_assoc]
 rfl
theorem zfT {c:Nat}:∀ {ps qs:List Str},ps≠[]→qs≠[]→(∀ p∈ps,c∉cl p)→(∀ q∈qs,c∉cl q)→Str.join ⟨#[c]⟩ ps=Str.join ⟨#[c]⟩ qs→ps=qs
 | [],_,h,_,_,_,_=>absurd rfl h
 | _,[],_,h,_,_,_=>absurd rfl h
 | [p],[q],_,_,_,_,e=>by rw[show p=q from e]
 | [p],q :: q' :: r,_,_,hp,_,e=>by
  have e':cl p=cl (Str.join ⟨#[c]⟩ (q :: q' :: r)):=congrArg cl e
  rw[zc8]at e'
  exact absurd (by rw[e'];simp) (hp p (List.mem_cons_self ..))
 | p :: p' :: r,[q],_,_,_,hq,e=>by
  have e':cl (Str.join ⟨#[c]⟩ (p :: p' :: r))=cl q:=congrArg cl e
  rw[zc8]at e'
  exact absurd (by rw[←e'];simp) (hq q (List.mem_cons_self ..))
 | p :: p' :: r,q :: q' :: r',_,_,hp,hq,e=>by
  have e':=congrArg cl e
  rw[zc8,zc8]at e'
  obtain⟨e1,e2⟩:=zfQ e' (hp p (List.mem_cons_self ..)) (hq q (List.mem_cons_self ..))
  rw[zhs e1,zfT (c:=c) (by simp) (by simp) (fun x hx=>hp x (List.mem_cons_of_mem _ hx)) (fun x hx=>hq x (List.mem_cons_of_mem _ hx)) (zhs e2)]
theorem zhY (x y:Str):Txt.split x y≠[]:=by
 unfold Txt.split
 split
 ·simp
 ·split
  ·simp
  ·rw[StrLaws.partsBetween_eq]
   obtain⟨p,r,e⟩:=StrLaws.partsFrom_ne x y.length 0 (Builtin.Str.occurrences x y 0 x.length (x.length+1))
   rw[e]
   simp
theorem zgR {c:Nat} {ps:List Str} (h:ps≠[]) (hf:∀ p∈ps,c∉cl p):Txt.split (Str.join ⟨#[c]⟩ ps) ⟨#[c]⟩=ps :=
 zfT (c:=c) (zhY _ _) h (StrLaws.split_free _ c) hf (StrLaws.join_split _ _)
theorem zhL (c:Nat):∀ {ps:List Str},ps≠[]→Str.join ⟨#[c]⟩ (ps++[Str.empty])=Str.join ⟨#[c]⟩ ps++⟨#[c]⟩
 | [],h=>absurd rfl h
 | [p],_=>Str.append_empty _
 | p :: q :: r,_=>by
  show p++⟨#[c]⟩++Str.join ⟨#[c]⟩ ((q :: r)++[Str.empty])=p++⟨#[c]⟩++Str.join ⟨#[c]⟩ (q :: r)++⟨#[c]⟩
  rw[zhL c (ps:=q :: r) (by simp),←Str.append_assoc]
theorem e10:("\n":Str)=⟨#[10]⟩:=by decide +kernel
theorem ew {t:Str} (h1:1≤t.length):PySem.Txt.endswith t "\n"=decide ((cl t)[t.length - 1]?=some 10):=by
 rw[e10]
 unfold PySem.Txt.endswith
 have h:=StrLaws.subAt_one t 10 (t.length - 1)
 rw[Bool.eq_iff_iff,Bool.and_eq_true,decide_eq_true_eq,decide_eq_true_eq,←h]
 refine⟨fun z=>⟨?_,z.2⟩,fun z=>⟨?_,z.2⟩⟩
 ·show t.length - 1+1≤t.length
  omega
 ·show 0+1≤t.length
  omega
theorem cl_cp (x:Str):cl x=cp x:=rfl
theorem zdk (sep:Str):∀(p:Str) (ps:List Str),cp (Builtin.Str.glued sep (p :: ps))=cp p++ps.flatMap (fun q=>cp sep++cp q)
 | p,[]=>by
  rw[ze5]
  simp
 | p,q :: r=>by
  have ih:=zdk sep q r
  rw[StrLaws.glued_eq_join]at ih ⊢
  show cp (p++sep++Str.join sep (q :: r))=_
  rw[za8,za8,ih,List.flatMap_cons]
  simp only[List.append_assoc]
mutual
theorem zdx:∀ t:Tr,cp (txt t)=cT t
 | .node n ts=>by
  cases ts with
  | nil =>
   simp only[txt,zaB,zdV,cT,cB,List.append_nil]
   rfl
  | cons t ts =>
   have h1:=zdx t
   have h2:=zeP ts
   simp only[txt,zaB,zdV,List.isEmpty_cons,Bool.false_eq_true,if_false,cT,cB]
   rw[za8,za8,za8,zdk,h1,zdq,←h2]
   simp only[List.append_assoc,List.cons_append,List.nil_append]
theorem zeP:∀ ts:List Tr,(zaB ts).flatMap (fun q=>cp ", "++cp q)++cp ")"=cR ts
 | []=>by
  simp only[zaB,cR,List.flatMap_nil,List.nil_append]
  decide +kernel
 | t :: ts=>by
  have h1:=zdx t
  have h2:=zeP ts
  simp only[zaB,cR,List.flatMap_cons]
  rw[h1,←h2,show cp ", "=[44,32] by decide +kernel]
  simp only[List.append_assoc,List.cons_append,List.nil_append]
end
theorem zc6:∀ {g:Fm},LF g→cp (zay g)=cF g
 | .plain z,_=>rfl
 | .bare z,_=>rfl
 | .same a b,_=>by
  simp only[zay,cF]
  rw[za8,za8,zdx,zdx,List.append_assoc]
 | .unlike ts,h=>by
  simp only[LF]at h
  obtain⟨t,us,rfl,_⟩:=h
  simp only[zay,cF,zaB]
  rw[za8,za8,zdk,zdx,←zeP]
  simp only[List.append_assoc]
 | .not f,h=>by
  have:=zc6 (g:=f) h
  simp only[zay,cF]
  rw[za8,this]
 | .bin k f g,h=>by
  simp only[LF]at h
  have h1:=zc6 h.2.1
  have h2:=zc6 h.2.2
  simp only[zay,cF]
  simp only[za8,h1,h2,zdq,show cp ")"=[41] by decide +kernel]
  simp only[List.append_assoc,List.cons_append,List.nil_append]
def zb1 (rs:List Str):List Nat:=rs.flatMap fun r=>cp r++[10]
theorem zgB (fs:List Fm):cp (zbZ fs)=zb1 (fs.map zay):=by
 unfold zbZ zb1
 cases fs with
 | nil=>rfl
 | cons f fs =>
  rw[List.map_cons,zdk,List.map_cons,List.flatMap_cons,za8,show cp "\n"=[10] by decide +kernel]
  congr 1
  induction fs with
  | nil=>rfl
  | cons g gs ih =>
   rw[List.map_cons,List.map_cons,List.flatMap_cons,List.flatMap_cons,ih,za8,show cp ""=[] by decide +kernel,show cp "\n"=[10] by decide +kernel]
   rfl
theorem zeq:∀ {rs:List Str},rs≠[]→zb1 rs=cp (Str.join ⟨#[10]⟩ rs)++[10]
 | [],h=>absurd rfl h
 | [r],_=>by
  show cp r++[10]++[]=cp r++[10]
  simp
 | r :: q :: l,_=>by
  have ih:=zeq (rs:=q :: l) (by simp)
  have e:zb1 (r :: q :: l)=(cp r++[10])++zb1 (q :: l):=rfl
  have e2:cp (Str.join ⟨#[10]⟩ (r :: q :: l))=cp r++10 :: cp (Str.join ⟨#[10]⟩ (q :: l)):=zc8 10 r q l
  rw[e,ih,e2]
  simp
theorem zhX {s:Str} {rs:List Str} (ne:rs≠[]) (h:cp s=zb1 rs) (hf:∀ r∈rs,10∉cp r):1≤s.length∧PySem.Txt.endswith s "\n"=true∧PySem.Txt.split (PySem.Txt.slice s none (some (-1))) "\n"=rs:=by
 rw[zeq ne]at h
 have sl:=zau s
 have l1:s.length=(cp (Str.join ⟨#[10]⟩ rs)).length+1:=by rw[←sl,h,List.length_append];rfl
 have h1:1≤s.length:=by omega
 refine⟨h1,?_,?_⟩
 ·rw[ew h1]
  refine decide_eq_true ?_
  show(cp s)[s.length - 1]?=some 10
  rw[h,List.getElem?_append_right (by omega),l1]
  simp
 ·have e:PySem.Txt.slice s none (some (-1))=Str.join ⟨#[10]⟩ rs:=by
   apply zc1
   have:=zgS h1
   rw[cl_cp,cl_cp]at this
   rw[this,h,List.take_append_of_le_length (by omega),List.take_of_length_le (by omega)]
  rw[e]
  exact zgR (c:=10) ne hf
section
variable {P:Program} {w:World} {K:W.Frag} {mg:Str→Option Value} {base:Heap} {f:Addr} {fd:FuncData}
def zfA:Sp:=fun vs H Q _=>∃(s:Str) (rs:List Str),vs=[.str s]∧s.length≤1000000∧cp s=zb1 rs∧(∀ r∈rs,10∉cp r)∧∀(H':Hp) (p:Addr),ai H H'→H p=none→H' p=some (.lst (rs.map V.str))→Q (.ref p) H'
theorem zh1:zad ["text"] ["text"] (aj zcW):=⟨rfl,rfl,rfl,by decide +kernel,rfl,by decide +kernel,by decide +kernel⟩
theorem zie (F:Fun K "text_rows" "text_rows" zcW f fd):FnOk P w K mg base CX0 1 f fd ["text"] zfA:=by
 refine F.ok zh1 (fun vs H Q E h=>?_) (fun cdv A outer s H vs Q E hr h=>?_)
 ·obtain⟨z,_,rfl,_⟩:=h
  rfl
 obtain⟨z,rs,rfl,lz,hc,hf,q⟩:=h
 refine⟨_,(ae (zai (zaa zas (pv 0) ak (zag _))
   (ag (ar (zaG ac)))
   zab)
  (ae (zai (zbw (zaX (zbl PySem.F.plainAttrs_str PySem.F.slot_str_endswith PySem.F.type_str_endswith ziT (pv 0) (aa ak ac))))
   zaH
   zab)
  (ag (ar (zbl PySem.F.plainAttrs_str PySem.F.slot_str_split PySem.F.type_str_split zil (zbg zeg (pv 0) zbF (zbi (zdH zcY ad))) (aa ak ac)))))),?_⟩
 refine⟨_,rfl,rfl,_,rfl,zal (fun c=>?_) (fun c=>?_)⟩
 ·have e:z="":=by
   have:=of_decide_eq_true c
   injection this
  subst e
  have e:rs=[]:=by
   cases rs with
   | nil=>rfl
   | cons r rs =>
    have:=congrArg List.length hc
    have e0:(("":Str)).length=0:=by decide +kernel
    rw[zau,e0]at this
    simp [zb1]at this
  subst e
  exact⟨lS0,fun p hp=>q _ p (ah hp _) hp af⟩
 ·have ne:rs≠[]:=fun e=>c (by
   subst e
   have e:z="":=zc1 (by rw[hc];rfl)
   subst e
   decide +kernel)
  obtain⟨h1,h2,h3⟩:=zhX ne hc hf
  refine⟨_,rfl,rfl,_,_,rfl,rfl,_,rfl,?_⟩
  rw[h2]
  refine zaS ⟨_,rfl,_,rfl,_,rfl,z,rfl,szM (by omega),rfl,_,_,rfl,rfl,(by decide +kernel),Nat.le_trans (PySem.Txt.slice_le z _ _) lz,fun p hp=>?_⟩
  have e3:PySem.Txt.split (PySem.Txt.slice z none (some (-(1:Int)))) "\n"=rs:=h3
  rw[e3]
  exact q _ p (ah hp _) hp af
end
end K72
namespace K72
open PySem L2
open F72 (Tr Fm dTr ax dFm FOk fdp dp dps zao zam nol_dFm nols_dTrs zae zaL fms_get tr_at szM dTrs_length zaP zbb hdF tlF fm_at sz txt zaB zdV zay zbZ)
section
variable {P:Program} {w:World} {K:W.Frag} {mg:Str→Option Value} {base:Heap} {CU aW aB:Addr} {f fI fT fO fD fC fR fN fM:Addr} {fd dI dT' dO dD dC dR dN dM:FuncData}
def zeY (K:W.Frag):Sp:=fun vs H Q _=>∃(s:Str) (g:Fm),vs=[.str s]∧s.length≤1000000∧cp s=cF g∧LF g∧fdd g≤20∧RF g∧∀(H':Hp) (v:V),ai H H'→Has K H' (dFm g) v→Q v H'
theorem zdz:zad ["row","cursor","formula"] ["row"] (aj zd2):=⟨rfl,rfl,rfl,by decide +kernel,rfl,by decide +kernel,by decide +kernel⟩
theorem zhF (F:Fun K "formed" "formed" zd2 f fd) (Z:TxC K mg CU) (TW:TxW K mg aW aB) (mI:Mk K CU fI) (oI:FnOk P w K mg base CX0 1 fI dI ["self","text"] (zfF CU)) (bI:aq K dI ["self","text"] []) (gI:mg "Cursor"=some (.ref CU))
  (BF:FB P w K mg base CX0 86 "take_formula" fT dT' ["cursor","left"] (zdf K CU 20)) (oO:FnOk P w K mg base CX0 1 fO dO ["self"] (zeA CU)) (bO:aq K dO ["self"] []) (mO:zbL K CU "is_over" fO)
  (BD:FB P w K mg base CX0 39 "depth" fD dD ["formula"] (zfk K 20)) (BC:FB P w K mg base CX0 39 "ask_counts" fC dC ["formula"] (zdL K 20)):FnOk P w K mg base CX0 87 f fd ["row"] (zeY K):=by
 refine F.ok zdz (fun vs H Q E h=>?_) (fun cdv A outer s H vs Q E hr h=>?_)
 ·obtain⟨z,_,rfl,_⟩:=h
  rfl
 obtain⟨z,g,rfl,lz,hc,lf,hd,rf,q⟩:=h
 have hr1:aw 1 _:=hr.mono (by decide)
 have hr2:aw 2 _:=hr.mono (by decide)
 have hr39:aw 39 _:=hr.mono (by decide)
 obtain⟨t1,e1⟩:=TW.dpst
 refine⟨_,(ae (zah (i:=1) zdz.nd rfl (Or.inl rfl) (ziM mI oI hr2 rfl gI bI .nil ap (aa (pv 0) ac)))
  (ae (zah (i:=2) zdz.nd rfl (Or.inl rfl) (ao BF.ok hr rfl BF.m BF.kp BF.b .nil ap (aa (pv 1) (aa (zaO (v:=.int 20) rfl e1 ⟨_,rfl⟩) ac))))
  (ae (zai (zbw (zaX (zdi (pv 1) Z.cl mO oO hr1 bO .nil ap)))
   zaH
   zab)
  (ae (zai (zaa zcM (ao BD.ok hr39 rfl BD.m BD.kp BD.b .nil ap (aa (pv 2) ac)) (zaO (v:=.int 20) rfl e1 ⟨_,rfl⟩) (zag _))
   zaH
   zab)
  (ae (zaM (ao BC.ok hr39 rfl BC.m BC.kp BC.b .nil ap (aa (pv 2) ac)))
  (ag (ar (pv 2)))))))),?_⟩
 refine⟨_,rfl,fun c dx hc0 hdx ne=>⟨c,dx,z,rfl,af,lz,fun H1 C1 f1=>⟨rfl,?_⟩⟩⟩
 have s1:∀ H',FrC H1 H' c→ai H H':=fun H' f2 b o e=>by
  have nb:b≠c:=fun x=>by rw[x,hc0]at e;cases e
  have nd:b≠dx:=fun x=>by rw[x,hdx]at e;cases e
  exact f2 b o (f1 b o (by rw[zaj nb,zaj nd];exact e) nb) nb
 have fp:=zcu g
 have hd0:(cp z).drop 0=cF g++[]:=by rw[List.drop_zero,hc,List.append_nil]
 refine⟨_,rfl,c,z,0,g,[],rfl,C1,hd0,lf,by omega,Eof.nil,fun H2 v C2 f2 h2=>?_⟩
 have e2:0+(cF g).length=z.length:=by rw[←hc,zau,Nat.zero_add]
 rw[e2]at C2
 obtain⟨⟨dx2,hc2⟩,_⟩:=id C2
 refine⟨_,rfl,c,dx2,_,rfl,hc2,zes _ _,c,z,z.length,rfl,C2,_,rfl,?_⟩
 rw[decide_eq_true rfl]
 have ok:=zcB lf hd
 refine zaS ⟨_,rfl,g,v,rfl,h2,lf,hd,hd,fun H3 s3=>⟨_,_,rfl,rfl,_,rfl,zal (fun c=>?_) (fun _=>?_)⟩⟩
 ·have:(20:Int) < ((fdd g:Nat):Int):=of_decide_eq_true c
  omega
 refine⟨_,rfl,g,v,rfl,h2.keep s3.kt (nol_dFm _),ok,rf,by omega,fun H4 s4=>⟨_,rfl,?_⟩⟩
 exact q H4 v (((s1 H2 f2).trans s3).trans s4) ((h2.keep s3.kt (nol_dFm _)).keep s4.kt (nol_dFm _))
structure Rts (fs:List Fm):Prop where
 lf:∀ g∈fs,LF g
 dd:∀ g∈fs,fdd g≤20
 rf:∀ g∈fs,RF g
 nf:∀ g∈fs,NF g
 ln:(zbZ fs).length≤1000000
 nl:∀ g∈fs,10∉cF g
 le:fs.length≤1000
def zfj (K:W.Frag):Sp:=fun vs H Q _=>∃ fs:List Fm,vs=[.str (zbZ fs)]∧Rts fs∧∀(H':Hp) (l:Addr) (xs:List V),ai H H'→H l=none→H' l=some (.lst xs)→HasL K H' (fs.map dFm) xs→Q (.ref l) H'
theorem zfm:zad ["text","formulas","formula"] ["text"] (aj zcF):=⟨rfl,rfl,rfl,by decide +kernel,rfl,by decide +kernel,by decide +kernel⟩
theorem ok_und (F:Fun K "understood" "understood" zcF f fd) (BR:FB P w K mg base CX0 1 "text_rows" fR dR ["text"] zfA) (BM:FB P w K mg base CX0 87 "formed" fM dM ["row"] (zeY K)) (BN:FB P w K mg base CX0 42 "ask_names" fN dN ["formula"] (zef K 20)):FnOk P w K mg base CX0 88 f fd ["text"] (zfj K):=by
 refine F.ok zfm (fun vs H Q E h=>?_) (fun cdv A outer s H vs Q E hr h=>?_)
 ·obtain⟨_,rfl,_⟩:=h
  rfl
 obtain⟨fs,rfl,R,q⟩:=h
 have hr1:aw 1 _:=hr.mono (by decide)
 have hr42:aw 42 _:=hr.mono (by decide)
 refine⟨_,(ae (zcc (i:=1) (N':=["row"]) (ix:=[]) zfm.nd rfl (Or.inl rfl) rfl rfl (by decide +kernel) (by decide +kernel) rfl (fun _=>⟨[],za2 (by decide +kernel) (by decide +kernel)⟩) (by decide +kernel) rfl rfl (fun j i h=>by simp at h) (za6 (ao BR.ok hr1 rfl BR.m BR.kp BR.b .nil ap (aa (pv 0) ac))) (fun _ _ _ _=>(ao BM.ok hr rfl BM.m BM.kp BM.b .nil ap (aa (pv 0) ac))))
  (ae (zaY PassesOwn.never rfl (za6 (pv 1)) (zaA (i:=2) zfm.nd rfl (Or.inl rfl))
   (ag (zaM (ao BN.ok hr42 rfl BN.m BN.kp BN.b .nil ap (aa (pv 2) ac)))))
  (ag (ar (pv 1))))),?_⟩
 have hcp:=zgB fs
 refine⟨_,rfl,zbZ fs,fs.map zay,rfl,R.ln,hcp,fun r hr'=>?_,fun H1 l s1 hl hl1=>⟨l,rfl,⟨_,SqL.of hl1⟩,fun D hD=>zbR za5 (fun i us H'=>ai H1 H'∧HasL K H' ((fs.take i).map dFm) us) (fun i us H' ⟨s4,_⟩=>SqL.of (s4 _ _ hl1)) ⟨ah hD _,HasL.nil⟩ ?_ ?_⟩⟩
 ·obtain⟨g,hg,rfl⟩:=List.mem_map.mp hr'
  rw[zc6 (R.lf g hg)]
  exact R.nl g hg
 ·rintro i us H8 x H4 hi hly hDs ⟨s4,hus⟩ ⟨rfl,hx'⟩
  have hx:=hx' _ (SqL.of (s4 _ _ hl1))
  rw[List.map_map,List.getElem?_map]at hx
  obtain⟨g,hg,rfl⟩:=Option.map_eq_some_iff.mp hx
  have gm:=List.mem_of_getElem? hg
  have cg:=zc6 (R.lf g gm)
  have lg:(zay g).length≤1000000:=by
   have h1:(cp (zay g)).length≤(cp (zbZ fs)).length:=by
    rw[hcp]
    unfold zb1
    have:∀(rs:List Str) (r:Str),r∈rs→(cp r).length≤(rs.flatMap fun r=>cp r++[10]).length:=fun rs=>by
     induction rs with
     | nil=>intro r h;cases h
     | cons y ys ih =>
      intro r h
      rw[List.flatMap_cons,List.length_append,List.length_append]
      rcases List.mem_cons.mp h with rfl | h
      ·omega
      ·have:=ih r h
       omega
    exact this _ _ (List.mem_map.mpr ⟨g,gm,rfl⟩)
   rw[zau,zau]at h1
   exact Nat.le_trans h1 R.ln
  refine⟨_,rfl,zay g,g,rfl,lg,cg,R.lf g gm,R.dd g gm,R.rf g gm,fun H5 v s5 hv=>zbc (szM (by have:=R.le;simp only[List.length_map];omega)) hi hly (s5 _ _ hDs) ⟨(s4.trans s5).upd hD,?_⟩⟩
  have kt:=zaR.lst (ys:=us++[v]) (s5 _ _ hDs)
  rw[zaF hg,List.map_append]
  exact HasL.append (hus.keep (s5.kt.trans kt) (zae _)) (HasL.one (hv.keep kt (nol_dFm _)))
 rintro us H4 hDs ⟨s4,hus⟩
 rw[List.take_of_length_le (by simp)]at hus
 have s14:=s1.trans s4
 refine⟨_,rfl,D,rfl,⟨_,SqL.of hDs⟩,zbP za5 (fun i σ H'=>∃ v:Option V,σ=[some (.str (zbZ fs)),some (.ref D),v]∧ai H4 H') (fun i σ H' ⟨_,_,s2⟩=>SqL.of (s2 _ _ hDs)) ⟨none,rfl,ai.refl H4⟩ ?_ ?_⟩
 ·rintro i σ H5 x H6 hi ⟨v,rfl,s5⟩ ⟨rfl,hz⟩
  obtain⟨u,hu,hux⟩:=fms_get (hus.keep s5.kt (zae _)) (hz _ (SqL.of (s5 _ _ hDs)))
  have um:=List.mem_of_getElem? hu
  have h1:=R.dd u um
  have h2:=zcu u
  exact⟨_,rfl,u,_,rfl,hux,zcB (R.lf u um) h1,R.nf u um,by omega,fun H7 s7=>⟨_,rfl,s5.trans s7⟩⟩
 ·rintro σ H5 ⟨v,rfl,s5⟩
  exact⟨_,rfl,q H5 D us (s14.trans s5) (s1.free hD) (s5 _ _ hDs) (hus.keep s5.kt (zae _))⟩
end
end K72
namespace K72
open PySem L2
open F72 (Tr Fm dTr ax dFm FOk FO3 fdp dp dps wt wts wz wzs fwt fwz fsz zbd GdZ Dst zcN zbZ zay)
theorem zg1 {z:Str} (h:inV (.str z) zcO=true):∀ c∈z.cps.toList,c∉zcN:=by
 obtain⟨y,hy,e⟩:=List.any_eq_true.mp h
 have key:∀ w:Str,(∀ c∈w.cps.toList,c∉zcN)→eqV (.str w) (.str z)=true→∀ c∈z.cps.toList,c∉zcN:=fun w hw e=>by
  have e':w=z:=eq_of_beq e
  rw[←e']
  exact hw
 simp only[zcO,List.mem_cons,List.not_mem_nil,or_false]at hy
 rcases hy with rfl | rfl | rfl | rfl | rfl | rfl | rfl | rfl
 all_goals exact key _ (by decide +kernel) e
theorem zgt {z:Str} (h:GdZ z):zco z=true∧z.length≤1000:=by
 have h1:=h.l1
 have h8:=h.l8
 have e1:(zck z).all id=true:=by
  rw[List.all_eq_true]
  intro b hb
  unfold zck at hb
  obtain⟨c,hc,rfl⟩:=List.mem_map.mp hb
  exact zgH c (h.ab c hc)
 have e2:inV (.str z) zcO=false:=by
  cases e:inV (.str z) zcO with
  | false=>rfl
  | true =>
   obtain⟨c,hc,hm⟩:=h.mr
   exact absurd hm (zg1 e c hc)
 refine⟨?_,by omega⟩
 unfold zco zd8
 rw[e1,e2,decide_eq_true (by omega:(0:Int) < (z.length:Int)),decide_eq_true (by omega:(z.length:Int)≤8)]
 rfl
theorem zgN {z:Str} (h:GdZ z):Wf z:=by
 have no:∀ w:Str,(∀ c∈w.cps.toList,c∉zcN)→z≠w:=fun w hw e=>by
  subst e
  obtain⟨c,hc,hm⟩:=h.mr
  exact hw c hc hm
 refine⟨⟨fun e=>?_,h.ab,Nat.le_trans h.l8 (by decide)⟩,no _ (by decide +kernel),no _ (by decide +kernel),no _ (by decide +kernel),no _ (by decide +kernel)⟩
 have:=congrArg List.length e
 rw[zau]at this
 have h1:=h.l1
 simp at this
 omega
mutual
def IT (zs:List Str):Tr→Prop
 | .node n ts=>n∈zs∧ITs zs ts∧ts.length≤3
def ITs (zs:List Str):List Tr→Prop
 | []=>True
 | t :: ts=>IT zs t∧ITs zs ts
end
def IFm (zs:List Str):Fm→Prop
 | .plain z=>z∈zs
 | .bare z=>z="always"∨z="never"
 | .same a b=>IT zs a∧IT zs b
 | .unlike ts=>2≤ts.length∧ts.length≤5∧ITs zs ts∧Dst ts
 | .not f=>IFm zs f
 | .bin k f g=>(k="and"∨k="or"∨k="then"∨k="as")∧IFm zs f∧IFm zs g
mutual
theorem IT.all {zs:List Str} (hz:∀ z∈zs,GdZ z):∀ t:Tr,IT zs t→LT t∧RT t∧NT t∧10∉cT t∧GdZ (zff t)
 | .node n ts,h=>by
  simp only[IT]at h
  obtain⟨a,b,c,d⟩:=ITs.all hz ts h.2.1
  have g:=hz n h.1
  simp only[LT,RT,NT,cT,zff]
  refine⟨⟨(zgN g).1,a,by omega⟩,⟨b,h.2.2⟩,⟨zgt g,c⟩,fun m=>?_,g⟩
  rcases List.mem_append.mp m with m | m
  ·exact absurd (g.ab 10 m) (by decide +kernel)
  ·cases ts with
   | nil=>simp [cB]at m
   | cons t ts =>
    simp only[cB,List.mem_cons]at m
    rcases m with m | m
    ·cases m
    ·exact(d t ts rfl) m
theorem ITs.all {zs:List Str} (hz:∀ z∈zs,GdZ z):∀ ts:List Tr,ITs zs ts→LTs ts∧RTs ts∧NTs ts∧∀ t us,ts=t :: us→10∉cT t++cR us
 | [],_=>by
  simp only[LTs,RTs,NTs]
  exact⟨trivial,trivial,trivial,fun t us h=>by cases h⟩
 | t :: ts,h=>by
  simp only[ITs]at h
  obtain⟨a,b,c,d,_⟩:=IT.all hz t h.1
  obtain⟨a',b',c',d'⟩:=ITs.all hz ts h.2
  simp only[LTs,RTs,NTs]
  refine⟨⟨a,a'⟩,⟨b,b'⟩,⟨c,c'⟩,fun u us e m=>?_⟩
  injection e with e1 e2
  subst e1 e2
  rcases List.mem_append.mp m with m | m
  ·exact d m
  ·cases ts with
   | nil=>simp [cR]at m
   | cons t ts =>
    simp only[cR,List.mem_cons]at m
    rcases m with m | m | m
    ·cases m
    ·cases m
    ·exact(d' t ts rfl) m
end
theorem IFm.all {zs:List Str} (hz:∀ z∈zs,GdZ z):∀ g:Fm,IFm zs g→fdd g≤20→LF g∧RF g∧NF g∧10∉cF g
 | .plain z,h,_=>by
  have g:=hz z h
  simp only[LF,RF,NF,cF]
  exact⟨zgN g,trivial,zgt g,fun m=>absurd (g.ab 10 m) (by decide +kernel)⟩
 | .bare z,h,_=>by
  simp only[LF,RF,NF,cF]
  refine⟨h,trivial,trivial,?_⟩
  rcases h with rfl | rfl <;> decide +kernel
 | .same a b,h,hd=>by
  simp only[IFm]at h
  simp only[fdd]at hd
  obtain⟨a1,a2,a3,a4,a5⟩:=IT.all hz a h.1
  obtain⟨b1,b2,b3,b4,_⟩:=IT.all hz b h.2
  simp only[LF,RF,NF,cF]
  refine⟨⟨a1,b1,zgN a5,by omega,by omega⟩,⟨a2,b2⟩,⟨a3,b3⟩,fun m=>?_⟩
  rcases List.mem_append.mp m with m | m
  ·exact a4 m
  ·rcases List.mem_append.mp m with m | m
   ·exact absurd m (by decide +kernel)
   ·exact b4 m
 | .unlike ts,h,hd=>by
  simp only[IFm]at h
  simp only[fdd]at hd
  obtain⟨l2,l5,h1,h2⟩:=h
  obtain⟨a1,a2,a3,a4⟩:=ITs.all hz ts h1
  cases ts with
  | nil=>simp at l2
  | cons t us =>
   simp only[LF,RF,NF,cF]
   refine⟨⟨t,us,rfl,a1,F72.dps_le (by omega),by omega⟩,⟨l2,l5,a2,h2⟩,a3,fun m=>?_⟩
   rcases List.mem_append.mp m with m | m
   ·exact absurd m (by decide +kernel)
   ·exact a4 t us rfl m
 | .not f,h,hd=>by
  simp only[fdd]at hd
  obtain⟨a1,a2,a3,a4⟩:=IFm.all hz f h (by omega)
  simp only[LF,RF,NF,cF]
  refine⟨a1,a2,a3,fun m=>?_⟩
  rcases List.mem_append.mp m with m | m
  ·exact absurd m (by decide +kernel)
  ·exact a4 m
 | .bin k f g,h,hd=>by
  simp only[IFm]at h
  simp only[fdd]at hd
  obtain⟨a1,a2,a3,a4⟩:=IFm.all hz f h.2.1 (by omega)
  obtain⟨b1,b2,b3,b4⟩:=IFm.all hz g h.2.2 (by omega)
  simp only[LF,RF,NF,cF]
  refine⟨⟨h.1,a1,b1⟩,⟨a2,b2⟩,⟨a3,b3⟩,fun m=>?_⟩
  rcases List.mem_cons.mp m with m | m
  ·cases m
  rcases List.mem_append.mp m with m | m
  ·exact a4 m
  rcases List.mem_append.mp m with m | m
  ·rcases h.1 with rfl | rfl | rfl | rfl <;> exact absurd m (by decide +kernel)
  rcases List.mem_append.mp m with m | m
  ·exact b4 m
  ·simp at m
mutual
theorem IT.of {zs:List Str}:∀ t:Tr,wz zs t < 1000000→IT zs t∧wt t≤wz zs t
 | .node n ts,h=>by
  simp only[wz]at h
  by_cases c:n∈zs∧ts.length≤3
  ·obtain⟨a,b⟩:=ITs.of ts (zs:=zs) (by omega)
   simp only[IT,wt,wz]
   exact⟨⟨c.1,a,c.2⟩,by omega⟩
  ·rw[if_neg c]at h
   omega
theorem ITs.of {zs:List Str}:∀ ts:List Tr,wzs zs ts < 1000000→ITs zs ts∧wts ts≤wzs zs ts
 | [],_=>by simp only[ITs,wts,wzs];exact⟨trivial,Nat.le_refl _⟩
 | t :: ts,h=>by
  simp only[wzs]at h
  obtain⟨a,b⟩:=IT.of t (zs:=zs) (by omega)
  obtain⟨c,d⟩:=ITs.of ts (zs:=zs) (by omega)
  simp only[ITs,wts,wzs]
  exact⟨⟨a,c⟩,by omega⟩
end
theorem IFm.of {zs:List Str}:∀ g:Fm,fwz zs g < 1000000→FO3 g→IFm zs g∧fwt g≤fwz zs g∧fdd g≤fdp g+3
 | .plain z,h,_=>by
  simp only[fwz]at h
  by_cases c:z∈zs
  ·simp only[IFm,fwt,fwz,fdd,fdp]
   exact⟨c,by omega,by omega⟩
  ·rw[if_neg c]at h
   omega
 | .bare z,h,o=>by
  simp only[IFm,fwt,fwz,fdd,fdp]
  exact⟨o,by omega,by omega⟩
 | .same a b,h,o=>by
  simp only[fwz]at h
  obtain⟨a1,a2⟩:=IT.of a (zs:=zs) (by omega)
  obtain⟨b1,b2⟩:=IT.of b (zs:=zs) (by omega)
  have o1:=o.1
  have o2:=o.2
  simp only[IFm,fwt,fwz,fdd,fdp]
  exact⟨⟨a1,b1⟩,by omega,by omega⟩
 | .unlike ts,h,o=>by
  simp only[fwz]at h
  by_cases c:2≤ts.length∧ts.length≤5
  ·obtain⟨a1,a2⟩:=ITs.of ts (zs:=zs) (by omega)
   have dm:=F72.le_dps o.1
   simp only[IFm,fwt,fwz,fdd,fdp]
   exact⟨⟨c.1,c.2,a1,o.2⟩,by omega,by omega⟩
  ·rw[if_neg c]at h
   omega
 | .not f,h,o=>by
  simp only[fwz]at h
  obtain⟨a1,a2,a3⟩:=IFm.of f (zs:=zs) (by omega) o
  simp only[IFm,fwt,fwz,fdd,fdp]
  exact⟨a1,by omega,by omega⟩
 | .bin k f g,h,o=>by
  simp only[fwz]at h
  obtain⟨a1,a2,a3⟩:=IFm.of f (zs:=zs) (by omega) o.2.1
  obtain⟨b1,b2,b3⟩:=IFm.of g (zs:=zs) (by omega) o.2.2
  simp only[IFm,fwt,fwz,fdd,fdp]
  exact⟨⟨o.1,a1,b1⟩,by omega,by omega⟩
structure Gf (zs:List Str) (g:Fm):Prop where
 i:IFm zs g
 d:fdd g≤20
theorem zgv {zs:List Str}:∀ {fs:List Fm},(∀ g∈fs,fwt g≤fwz zs g)→zbd fs≤fsz zs fs
 | [],_=>Nat.le_refl _
 | g :: fs,h=>by
  have h1:=h g (by simp)
  have h2:=zgv (fs:=fs) fun u hu=>h u (List.mem_cons_of_mem _ hu)
  simp only[zbd,fsz,List.map_cons,List.sum_cons]at h2 ⊢
  omega
theorem ziJ {zs:List Str} {fs:List Fm} {n:Nat} (h:F72.Pile zs fs n) (hn:n≤16):(∀ g∈fs,Gf zs g)∧zbd fs≤64000∧fs.length≤16:=by
 have h1:=h.sm
 have h2:=h.le
 have each:∀ g∈fs,IFm zs g∧fwt g≤fwz zs g∧fdd g≤fdp g+3:=fun g hg=>by
  have:=F72.fsz_mem (zs:=zs) hg
  exact IFm.of g (by omega) (h.ok g hg).1
 refine⟨fun g hg=>⟨(each g hg).1,?_⟩,?_,by omega⟩
 ·have:=(h.ok g hg).2
  have:=(each g hg).2.2
  omega
 ·have:=zgv fun g hg=>(each g hg).2.1
  omega
theorem zi1 (fs:List Fm):(zbZ fs).length≤zbd fs:=by
 rw[←zau,zgB]
 induction fs with
 | nil=>exact Nat.zero_le _
 | cons g fs ih =>
  have e:zb1 ((g :: fs).map zay)=(cp (zay g)++[10])++zb1 (fs.map zay):=rfl
  have h1:=F72.ftxt_len g
  rw[e,List.length_append,List.length_append,zau]
  simp only[zbd,List.map_cons,List.sum_cons,List.length_singleton]at ih ⊢
  omega
theorem Rts.of {zs:List Str} {fs:List Fm} (hz:∀ z∈zs,GdZ z) (h:∀ g∈fs,Gf zs g) (hs:zbd fs≤100000) (hl:fs.length≤100):Rts fs:=by
 have each:=fun g hg=>IFm.all hz g (h g hg).i (h g hg).d
 have al:=zi1 fs
 exact⟨fun g hg=>(each g hg).1,fun g hg=>(h g hg).d,fun g hg=>(each g hg).2.1,fun g hg=>(each g hg).2.2.1,by omega,fun g hg=>(each g hg).2.2.2,by omega⟩
end K72
namespace K72
open PySem L2
open F72 (Tr Fm dTr ax dFm FOk FO3 fdp dp dps wt wts fwt GdZ Dst D3 zaV nol_dTr nol_dFm nols_dTrs zbI)
abbrev zaE:Stmt:=top 53
abbrev zbQ:Stmt:=top 54
abbrev zaU:Stmt:=top 55
abbrev zgL:Stmt:=top 56
theorem zgk {n m:Str} {ts us:List Tr} (h:n≠m):peq (dTr (.node n ts)) (dTr (.node m us))=false:=by
 simp only[dTr,peq,za7]
 rw[show(n == m)=false from by rw[beq_eq_false_iff_ne];exact h]
 rfl
theorem ziL {n m:Str} {t:Tr}:peq (dTr (.node n [t])) (dTr (.node m []))=false:=by
 simp only[dTr,ax,peq,za7,Bool.and_false,Bool.false_and]
structure Ch (z0:Str) (zs:List Str) (t:Tr) (i:Nat):Prop where
 it:IT zs t
 dp:dp t=i+1
 wt:wt t≤12 * (i+1)
 sh:t=.node z0 []∨∃ n u,t=.node n [u]
theorem Ch.zero {z0:Str} {zs:List Str} (h:z0∈zs) (l:z0.length≤8):Ch z0 zs (.node z0 []) 0:=by
 refine⟨?_,?_,?_,.inl rfl⟩
 ·simp only[IT,ITs]
  exact⟨h,trivial,by simp⟩
 ·simp only[F72.dp,F72.dps]
 ·simp only[F72.wt,F72.wts]
  omega
theorem Ch.next {z0 n:Str} {zs:List Str} {t:Tr} {i:Nat} (h:Ch z0 zs t i) (hn:n∈zs) (l:n.length≤8):Ch z0 zs (.node n [t]) (i+1):=by
 have h1:=h.dp
 have h2:=h.wt
 refine⟨?_,?_,?_,.inr ⟨n,t,rfl⟩⟩
 ·simp only[IT,ITs]
  exact⟨hn,⟨h.it,trivial⟩,by simp⟩
 ·simp only[F72.dp,F72.dps]
  omega
 ·simp only[F72.wt,F72.wts]
  omega
theorem dst3 {z0 z1 z2:Str} {zs:List Str} {t:Tr} {i:Nat} (h:Ch z0 zs t i) (h01:z0≠z1) (h02:z0≠z2) (h12:z1≠z2):Dst [t,.node z1 [],.node z2 []]:=by
 have e1:∀ z,z0≠z→peq (dTr t) (dTr (.node z []))=false:=fun z hz=>by
  rcases h.sh with rfl | ⟨n,u,rfl⟩
  ·exact zgk hz
  ·exact ziL
 have d1:=(Dst.one t).snoc (t:=.node z1 []) (by
  simp only[ax,List.any_cons,List.any_nil,Bool.or_false]
  exact e1 z1 h01)
 exact d1.snoc (t:=.node z2 []) (by
  show(ax [t,.node z1 []]).any _=false
  simp only[ax,List.any_cons,List.any_nil,Bool.or_false]
  rw[e1 z2 h02,zgk h12]
  rfl)
structure Bg (zs:List Str) (g:Fm) (n:Nat):Prop where
 i:IFm zs g
 d:fdd g≤n
 w:fwt g≤300+20 * n
theorem Bg.not {zs:List Str} {g:Fm} {n:Nat} (h:Bg zs g n):Bg zs (.not g) (n+1):=by
 have h1:=h.d
 have h2:=h.w
 refine⟨h.i,?_,?_⟩
 ·simp only[fdd]
  omega
 ·simp only[fwt]
  omega
theorem Bg.binL {zs:List Str} {g:Fm} {n:Nat} {k b:Str} (h:Bg zs g n) (n1:1≤n) (hk:k="and"∨k="or"∨k="then"∨k="as") (hb:b="always"∨b="never"):Bg zs (.bin k (.bare b) g) (n+1):=by
 have h1:=h.d
 have h2:=h.w
 have kl:k.length≤4:=by rcases hk with rfl | rfl | rfl | rfl <;> decide +kernel
 have bl:b.length≤6:=by rcases hb with rfl | rfl <;> decide +kernel
 refine⟨⟨hk,hb,h.i⟩,?_,?_⟩
 ·simp only[fdd]
  omega
 ·simp only[fwt]
  omega
theorem Bg.binR {zs:List Str} {g:Fm} {n:Nat} {k b:Str} (h:Bg zs g n) (n1:1≤n) (hk:k="and"∨k="or"∨k="then"∨k="as") (hb:b="always"∨b="never"):Bg zs (.bin k g (.bare b)) (n+1):=by
 have h1:=h.d
 have h2:=h.w
 have kl:k.length≤4:=by rcases hk with rfl | rfl | rfl | rfl <;> decide +kernel
 have bl:b.length≤6:=by rcases hb with rfl | rfl <;> decide +kernel
 refine⟨⟨hk,h.i,hb⟩,?_,?_⟩
 ·simp only[fdd]
  omega
 ·simp only[fwt]
  omega
theorem Bg.same {zs:List Str} {z1 z0:Str} {t:Tr} {i:Nat} (h:Ch z0 zs t i) (hi:i≤18) (h1:z1∈zs) (l:z1.length≤8):Bg zs (.same (.node z1 []) t) (i+2):=by
 have a1:=h.dp
 have a2:=h.wt
 refine⟨⟨(Ch.zero h1 l).it,h.it⟩,?_,?_⟩
 ·simp only[fdd,dp,dps]
  omega
 ·simp only[fwt,wt,wts]
  omega
theorem Bg.unl {zs:List Str} {z0 z1 z2:Str} {t:Tr} {i:Nat} (h:Ch z0 zs t i) (hi:i≤18) (h1:z1∈zs) (l1:z1.length≤8) (h2:z2∈zs) (l2:z2.length≤8) (h01:z0≠z1) (h02:z0≠z2) (h12:z1≠z2):Bg zs (.unlike [t,.node z1 [],.node z2 []]) (i+2):=by
 have a1:=h.dp
 have a2:=h.wt
 refine⟨⟨by simp,by simp,?_,dst3 h h01 h02 h12⟩,?_,?_⟩
 ·simp only[ITs]
  exact⟨h.it,(Ch.zero h1 l1).it,(Ch.zero h2 l2).it,trivial⟩
 ·simp only[fdd,dp,dps]
  omega
 ·simp only[fwt,wt,wts]
  omega
section
variable {P:Program} {w:World} {K:W.Frag} {mg:Str→Option Value} {base:Heap} {aB aO:Addr} {f fM:Addr} {fd dM:FuncData}
def zdJ (K:W.Frag):Sp:=fun vs H Q _=>∃(c:Int) (nl:Addr) (zs:List Str),vs=[.int c,.ref nl]∧zaV H nl zs∧(∀ z∈zs,GdZ z)∧D3 zs∧∀(H':Hp) (p:Addr) (g:Fm),ai H H'→Has K H' (dFm g) (.ref p)→Bg zs g 20→Q (.ref p) H'
theorem leaf {H:Hp} {z:Str} {p e:Addr} (he:H e=none) (hp:(upd H e (.tup [])) p=none):ai H (upd (upd H e (.tup [])) p (.tup [.str z,.ref e]))∧Has K (upd (upd H e (.tup [])) p (.tup [.str z,.ref e])) (dTr (.node z [])) (.ref p):=by
 have s1:ai H (upd H e (.tup [])):=ah he _
 have s2:ai (upd H e (.tup [])) (upd (upd H e (.tup [])) p (.tup [.str z,.ref e])):=ah hp _
 refine⟨s1.trans s2,F72.of_tr (SqT.of af) (SqT.of (s2 _ _ af)) ?_⟩
 simp only[ax]
 exact HasL.nil
theorem twig {H:Hp} {z:Str} {t:Tr} {v:V} {p e:Addr} (ht:Has K H (dTr t) v) (he:H e=none) (hp:(upd H e (.tup [v])) p=none):ai H (upd (upd H e (.tup [v])) p (.tup [.str z,.ref e]))∧Has K (upd (upd H e (.tup [v])) p (.tup [.str z,.ref e])) (dTr (.node z [t])) (.ref p):=by
 have s1:ai H (upd H e (.tup [v])):=ah he _
 have s2:ai (upd H e (.tup [v])) (upd (upd H e (.tup [v])) p (.tup [.str z,.ref e])):=ah hp _
 refine⟨s1.trans s2,F72.of_tr (SqT.of af) (SqT.of (s2 _ _ af)) ?_⟩
 simp only[ax]
 exact HasL.one (ht.keep (s1.trans s2).kt (nol_dTr _))
theorem zbf:zad ["_law_cell","_law_names_here","_law_tree_here","_law_many","_law_k","_law_formula"] ["_law_cell","_law_names_here"] (aj zaE):=⟨rfl,rfl,rfl,by decide +kernel,rfl,by decide +kernel,by decide +kernel⟩
theorem mdeep5 (T:F72.Txt K mg aB aO) {cdv:Value} {A:Around} {outer:List Env} {s:Shared} {H0:Hp} {E:XK} :
  ∃ t,PSs (zbv CX0 P w K mg base ["_law_cell","_law_names_here","_law_tree_here","_law_many","_law_k","_law_formula"] "_law_mixed_deep" (aj zaE) f cdv A outer s H0 E).nox ((zax zaE).drop 5) t ∧
   ∀(Dn:zba) (H:Hp) (c:Int) (v1 v2 v4:Option V) (zs:List Str) (m:Nat) (p:Addr) (g:Fm),Has K H (dFm g) (.ref p)→Bg zs g (m+2)→m≤18 →
    (∀(H':Hp) (p:Addr) (g:Fm),ai H H'→Has K H' (dFm g) (.ref p)→Bg zs g 20→Dn.rt (.ref p) H') →
    t Dn [some (.int c),v1,v2,some (.int (m:Nat)),v4,some (.ref p)] H:=by
 refine⟨_,(ae (zaY PassesOwn.never rfl (zbj rfl T.range (aa (am zds ad (pv 3)) ac)) (zaA (i:=4) zbf.nd rfl (Or.inl rfl))
   (ag (zai (zaa zas (am zaq (am zbO (am zaT (pv 0) ad) (pv 4)) ad) ad (zag _))
     (ag (zah (i:=5) zbf.nd rfl (Or.inl rfl) (zaf (aa ak (aa (pv 5) ac)))))
     (ag (zah (i:=5) zbf.nd rfl (Or.inl rfl) (zaf (aa (av zap (zaG (aa ak (aa ak (aa ak (aa ak ac))))) (am zaq (pv 4) ad) (fun _ _=>rfl)) (aa (zaf (aa ak ac)) (aa (pv 5) ac)))))))))
  (ag (ar (pv 5)))),?_⟩
 intro Dn H c v1 v2 v4 zs m p g hg hb hm q
 refine⟨_,rfl,_,_,rfl,rfl,_,rfl,(by show -(2 ^ 62)≤(18:Int) - (m:Nat);omega),(by show(18:Int) - (m:Nat) < 2 ^ 62;omega),zby (lo:=0) (n:=((18:Int) - (m:Nat)).toNat) (fun j σ H'=>ai H H'∧∃(u4:Option V) (p:Addr) (g:Fm),σ=[some (.int c),v1,v2,some (.int (m:Nat)),u4,some (.ref p)]∧Has K H' (dFm g) (.ref p)∧Bg zs g (m+2+j)) ⟨ai.refl H,v4,p,g,rfl,hg,hb⟩ ?_ ?_⟩
 ·rintro j σ H1 hj ⟨s1,u4,p1,g1,rfl,hg1,hb1⟩
  refine⟨_,rfl,_,_,rfl,rfl,⟨by decide,by decide⟩,_,rfl,_,_,rfl,rfl,_,_,rfl,rfl,(by show(0:Int) < 3;decide),rfl,_,rfl,zal (fun _=>?_) (fun _=>?_)⟩
  ·refine⟨_,rfl,lS2,fun l hl=>?_⟩
   have s2:ai H1 (upd H1 l (.tup [.str "not",.ref p1])):=ah hl _
   exact⟨s1.trans s2,_,l,.not g1,rfl,Has.tup' (SqT.of af) (.cons Has.str' (.cons (hg1.keep s2.kt (nol_dFm _)) .nil)),hb1.not⟩
  ·obtain⟨k,hk,kk,k4⟩:=zbI ((0:Int)+(j:Nat))
   refine⟨lS4,fun l hl=>?_⟩
   have s2:ai H1 (upd H1 l (.lst [.str "and",.str "or",.str "then",.str "as"])):=ah hl _
   have n2:=af (H:=H1) (a:=l) (o:=.lst [.str "and",.str "or",.str "then",.str "as"])
   generalize upd H1 l (.lst [.str "and",.str "or",.str "then",.str "as"])=H2 at s2 n2
   refine⟨_,rfl,_,_,rfl,rfl,(by show(0:Int) < 4;decide),l,_,_,_,rfl,rfl,SqL.of n2,hk,lS1,fun b hb2=>?_⟩
   have s3:ai H2 (upd H2 b (.tup [.str "always"])):=ah hb2 _
   have n3:=af (H:=H2) (a:=b) (o:=.tup [.str "always"])
   generalize upd H2 b (.tup [.str "always"])=H3 at s3 n3
   refine⟨_,rfl,lS3,fun l4 hl4=>?_⟩
   have s4:ai H3 (upd H3 l4 (.tup [.str k,.ref b,.ref p1])):=ah hl4 _
   have s24:=(s2.trans s3).trans s4
   exact⟨s1.trans s24,_,l4,.bin k (.bare "always") g1,rfl,Has.tup' (SqT.of af) (.cons Has.str' (.cons (Has.tup' (SqT.of (s4 _ _ n3)) (.cons Has.str' .nil)) (.cons (hg1.keep s24.kt (nol_dFm _)) .nil))),hb1.binL (by omega) kk (.inl rfl)⟩
 ·rintro σ H1 ⟨s1,u4,p1,g1,rfl,hg1,hb1⟩
  refine⟨_,rfl,q H1 p1 g1 s1 hg1 ?_⟩
  have e:m+2+((18:Int) - (m:Nat)).toNat=20:=by omega
  rw[e]at hb1
  exact hb1
end
end K72
namespace K72
open PySem L2
open F72 (Tr Fm dTr ax dFm FOk FO3 fdp dp dps wt wts fwt GdZ Dst D3 zaV nol_dTr nol_dFm nols_dTrs zbI zbp)
section
variable {P:Program} {w:World} {K:W.Frag} {mg:Str→Option Value} {base:Heap} {aB aO:Addr} {f fM:Addr} {fd dM:FuncData}
theorem mdeep3 (T:F72.Txt K mg aB aO) {cdv:Value} {A:Around} {outer:List Env} {s:Shared} {H0:Hp} {E:XK} :
  ∃ t,PSs (zbv CX0 P w K mg base ["_law_cell","_law_names_here","_law_tree_here","_law_many","_law_k","_law_formula"] "_law_mixed_deep" (aj zaE) f cdv A outer s H0 E).nox ((zax zaE).drop 3) t ∧
   ∀(Dn:zba) (H:Hp) (c:Int) (nl:Addr) (v4:Option V) (z0 z1 z2 z3:Str) (m:Nat) (p:Addr) (t1:Tr),H nl=some (.lst [.str z0,.str z1,.str z2,.str z3])→(∀ z∈[z0,z1,z2,z3],GdZ z)→z0≠z1→z0≠z2→z1≠z2→Has K H (dTr t1) (.ref p)→Ch z0 [z0,z1,z2,z3] t1 m→m≤17 →
    (∀(H':Hp) (p:Addr) (g:Fm),ai H H'→Has K H' (dFm g) (.ref p)→Bg [z0,z1,z2,z3] g 20→Dn.rt (.ref p) H') →
    t Dn [some (.int c),some (.ref nl),some (.ref p),some (.int (m:Nat)),v4,none] H:=by
 obtain⟨t5,h5,q5⟩:=mdeep5 (f:=f) (P:=P) (w:=w) (base:=base) (cdv:=cdv) (A:=A) (s:=s) (outer:=outer) (H0:=H0) (E:=E) T
 refine⟨_,(ae (zah (i:=5) zbf.nd rfl (Or.inl rfl) (zaf (aa ak (aa (zaf (aa (av zap (pv 1) ad (fun _ _=>rfl)) (aa (zaf ac) ac))) (aa (pv 2) ac)))))
  (ae (zai (zaa zas (am zaq (am zaT (pv 0) ad) ad) ad (zag _))
   (ag (zah (i:=5) zbf.nd rfl (Or.inl rfl) (zaf (aa ak (aa (zaf (aa (pv 2) (aa (zaf (aa (av zap (pv 1) ad (fun _ _=>rfl)) (aa (zaf ac) ac))) (aa (zaf (aa (av zap (pv 1) ad (fun _ _=>rfl)) (aa (zaf ac) ac))) ac)))) ac)))))
   zab) h5)),?_⟩
 intro Dn H c nl v4 z0 z1 z2 z3 m p t1 hN hz n01 n02 n12 ht ch hm q
 have g1:=hz z1 (by simp)
 have g2:=hz z2 (by simp)
 have a1:atI [V.str z0,V.str z1,V.str z2,V.str z3] 1=some (.str z1):=zat (j:=1) rfl
 have a2:atI [V.str z0,V.str z1,V.str z2,V.str z3] 2=some (.str z2):=zat (j:=2) rfl
 refine⟨_,rfl,nl,_,_,_,rfl,rfl,SqL.of hN,a1,lS0,fun e he=>⟨lS2,fun l hl=>?_⟩⟩
 obtain⟨s1,h1⟩:=leaf (K:=K) (z:=z1) he hl
 generalize upd (upd H e (.tup [])) l (.tup [.str z1,.ref e])=H1 at s1 h1
 refine⟨_,rfl,lS3,fun l2 hl2=>?_⟩
 have s2:ai H1 (upd H1 l2 (.tup [.str "same",.ref l,.ref p])):=ah hl2 _
 have n2:=af (H:=H1) (a:=l2) (o:=.tup [.str "same",.ref l,.ref p])
 generalize upd H1 l2 (.tup [.str "same",.ref l,.ref p])=H2 at s2 n2
 have s12:=s1.trans s2
 have hsame:Has K H2 (dFm (.same (.node z1 []) t1)) (.ref l2):=Has.tup' (SqT.of n2) (.cons Has.str' (.cons (h1.keep s2.kt (nol_dTr _)) (.cons (ht.keep s12.kt (nol_dTr _)) .nil)))
 refine⟨_,rfl,_,_,rfl,rfl,⟨by decide,by decide⟩,_,_,rfl,rfl,(by show(0:Int) < 2;decide),rfl,_,rfl,zal (fun _=>?_) (fun _=>?_)⟩
 ·refine⟨_,rfl,_,rfl,nl,_,_,_,rfl,rfl,SqL.of (s12 _ _ hN),a1,lS0,fun e3 he3=>⟨lS2,fun l3 hl3=>?_⟩⟩
  obtain⟨s3,h3⟩:=leaf (K:=K) (z:=z1) he3 hl3
  generalize upd (upd H2 e3 (.tup [])) l3 (.tup [.str z1,.ref e3])=H3 at s3 h3
  refine⟨_,rfl,nl,_,_,_,rfl,rfl,SqL.of ((s12.trans s3) _ _ hN),a2,lS0,fun e4 he4=>⟨lS2,fun l4 hl4=>?_⟩⟩
  obtain⟨s4,h4⟩:=leaf (K:=K) (z:=z2) he4 hl4
  generalize upd (upd H3 e4 (.tup [])) l4 (.tup [.str z2,.ref e4])=H4 at s4 h4
  refine⟨lS3,fun l5 hl5=>⟨lS2,fun l6 hl6=>?_⟩⟩
  have s5:ai H4 (upd H4 l5 (.tup [.ref p,.ref l3,.ref l4])):=ah hl5 _
  have n5:=af (H:=H4) (a:=l5) (o:=.tup [.ref p,.ref l3,.ref l4])
  generalize upd H4 l5 (.tup [.ref p,.ref l3,.ref l4])=H5 at s5 n5 hl6 ⊢
  have s6:ai H5 (upd H5 l6 (.tup [.str "unlike",.ref l5])):=ah hl6 _
  have n6:=af (H:=H5) (a:=l6) (o:=.tup [.str "unlike",.ref l5])
  generalize upd H5 l6 (.tup [.str "unlike",.ref l5])=H6 at s6 n6
  have s56:=s5.trans s6
  have s16:=(s12.trans (s3.trans s4)).trans s56
  have hu:Has K H6 (dFm (.unlike [t1,.node z1 [],.node z2 []])) (.ref l6):=by
   refine Has.tup' (SqT.of n6) (.cons Has.str' (.cons (Has.tup' (SqT.of (s6 _ _ n5)) ?_) .nil))
   simp only[ax]
   exact .cons (ht.keep s16.kt (nol_dTr _)) (.cons (h3.keep (s4.trans s56).kt (nol_dTr _)) (.cons (h4.keep s56.kt (nol_dTr _)) .nil))
  exact q5 Dn H6 c _ _ _ [z0,z1,z2,z3] m l6 _ hu (Bg.unl ch (by omega) (by simp) g1.l8 (by simp) g2.l8 n01 n02 n12) (by omega) fun H' p' g' s'=>q H' p' g' (s16.trans s')
 ·exact q5 Dn H2 c _ _ _ [z0,z1,z2,z3] m l2 _ hsame (Bg.same ch (by omega) (by simp) g1.l8) (by omega) fun H' p' g' s'=>q H' p' g' (s12.trans s')
theorem zeu {z0 z1 z2 z3:Str} (hz:∀ z∈[z0,z1,z2,z3],GdZ z) (c:Int):∃ z,atI [V.str z0,V.str z1,V.str z2,V.str z3] (c % 4)=some (.str z)∧z∈[z0,z1,z2,z3]∧z.length≤8:=by
 have b:=zbp c (show(0:Int) < 4 by decide)
 have:c % 4=0∨c % 4=1∨c % 4=2∨c % 4=3:=by omega
 rcases this with e | e | e | e <;> rw[e]
 ·exact⟨z0,zat (j:=0) rfl,by simp,(hz z0 (by simp)).l8⟩
 ·exact⟨z1,zat (j:=1) rfl,by simp,(hz z1 (by simp)).l8⟩
 ·exact⟨z2,zat (j:=2) rfl,by simp,(hz z2 (by simp)).l8⟩
 ·exact⟨z3,zat (j:=3) rfl,by simp,(hz z3 (by simp)).l8⟩
theorem zih (F:Fun K "_law_mixed_deep" "_law_mixed_deep" zaE f fd) (T:F72.Txt K mg aB aO):FnOk P w K mg base CX0 1 f fd ["_law_cell","_law_names_here"] (zdJ K):=by
 refine F.ok zbf (fun vs H Q E h=>?_) (fun cdv A outer s H vs Q E hr h=>?_)
 ·obtain⟨c,_,_,rfl,_⟩:=h
  rfl
 obtain⟨c,nl,zs,rfl,⟨hN,_⟩,hz,⟨z0,z1,z2,z3,rfl,n01,n02,n12⟩,q⟩:=h
 obtain⟨t3,h3,q3⟩:=mdeep3 (f:=f) (P:=P) (w:=w) (base:=base) (cdv:=cdv) (A:=A) (s:=s) (outer:=outer) (H0:=H) (E:=E) T
 refine⟨_,(ae (zah (i:=2) zbf.nd rfl (Or.inl rfl) (zaf (aa (av zap (pv 1) ad (fun _ _=>rfl)) (aa (zaf ac) ac))))
  (ae (zah (i:=3) zbf.nd rfl (Or.inl rfl) (am zaq (pv 0) ad))
  (ae (zaY PassesOwn.never rfl (zbj rfl T.range (aa (pv 3) ac)) (zaA (i:=4) zbf.nd rfl (Or.inl rfl))
   (ag (zah (i:=2) zbf.nd rfl (Or.inl rfl) (zaf (aa (av zap (pv 1) (am zaq (pv 4) ad) (fun _ _=>rfl)) (aa (zaf (aa (pv 2) ac)) ac)))))) h3))),?_⟩
 have hN':H nl=some (.lst [.str z0,.str z1,.str z2,.str z3]):=hN
 have g0:=hz z0 (by simp)
 have a0:atI [V.str z0,V.str z1,V.str z2,V.str z3] 0=some (.str z0):=zat (j:=0) rfl
 refine⟨_,rfl,nl,_,_,_,rfl,rfl,SqL.of hN',a0,lS0,fun e he=>⟨lS2,fun l hl=>?_⟩⟩
 obtain⟨s1,h1⟩:=leaf (K:=K) (z:=z0) he hl
 generalize upd (upd H e (.tup [])) l (.tup [.str z0,.ref e])=H1 at s1 h1
 have b18:=zbp c (show(0:Int) < 18 by decide)
 refine⟨_,rfl,_,_,rfl,rfl,(by show(0:Int) < 18;decide),?_⟩
 obtain⟨m,em⟩:∃ m:Nat,c % 18=(m:Int):=⟨(c % 18).toNat,by omega⟩
 show tSeq _ _ _ [some (.int c),some (.ref nl),some (.ref l),some (.int (c % 18)),none,none] H1
 rw[em]
 refine⟨_,rfl,_,rfl,(by show -(2 ^ 62)≤(m:Int);omega),(by show(m:Int) < 2 ^ 62;omega),zby (lo:=0) (n:=(m:Int).toNat) (fun j σ H'=>ai H H'∧∃(u4:Option V) (p:Addr) (t1:Tr),σ=[some (.int c),some (.ref nl),some (.ref p),some (.int (m:Nat)),u4,none]∧Has K H' (dTr t1) (.ref p)∧Ch z0 [z0,z1,z2,z3] t1 j) ⟨s1,none,l,_,rfl,h1,Ch.zero (by simp) g0.l8⟩ ?_ ?_⟩
 ·rintro j σ H2 hj ⟨s2,u4,p,t1,rfl,ht,ch⟩
  obtain⟨z,ha,zm,zl⟩:=zeu hz ((0:Int)+(j:Nat))
  refine⟨_,rfl,_,rfl,_,_,rfl,rfl,(by show(0:Int) < 4;decide),nl,_,_,_,rfl,rfl,SqL.of (s2 _ _ hN'),ha,_,rfl,lS1,fun e3 he3=>⟨lS2,fun l3 hl3=>?_⟩⟩
  obtain⟨s3,h3'⟩:=twig (K:=K) (z:=z) ht he3 hl3
  exact⟨s2.trans s3,_,l3,_,rfl,h3',ch.next zm zl⟩
 ·rintro σ H2 ⟨s2,u4,p,t1,rfl,ht,ch⟩
  have e:(m:Int).toNat=m:=by omega
  rw[e]at ch
  exact q3 _ H2 c nl u4 z0 z1 z2 z3 m p t1 (s2 _ _ hN') hz n01 n02 n12 ht ch (by omega) fun H' p' g' s'=>q H' p' g' (s2.trans s')
end
end K72
namespace K72
open PySem L2
open F72 (Tr Fm dTr ax dFm FOk FO3 fdp dp dps wt wts fwt GdZ Dst D3 zaV nol_dTr nol_dFm nols_dTrs zbI zbp)
theorem zhw (c:Int):∃ k:Str,atI [V.str "as",.str "then"] (c % 2)=some (.str k)∧(k="and"∨k="or"∨k="then"∨k="as"):=by
 have b:=zbp c (show(0:Int) < 2 by decide)
 have:c % 2=0∨c % 2=1:=by omega
 rcases this with e | e <;> rw[e]
 ·exact⟨"as",zat (j:=0) rfl,by simp⟩
 ·exact⟨"then",zat (j:=1) rfl,by simp⟩
theorem Bg.plain {zs:List Str} {z:Str} (h:z∈zs) (l:z.length≤8):Bg zs (.plain z) 1:=by
 refine⟨h,?_,?_⟩
 ·simp only[fdd]
  omega
 ·simp only[fwt]
  omega
section
variable {P:Program} {w:World} {K:W.Frag} {mg:Str→Option Value} {base:Heap} {aB aO:Addr} {f fM:Addr} {fd dM:FuncData}
theorem zbE:zad ["_law_kind","_law_names_here","_law_tree_here","_law_formula","_law_k"] ["_law_kind","_law_names_here"] (aj zbQ):=⟨rfl,rfl,rfl,by decide +kernel,rfl,by decide +kernel,by decide +kernel⟩
set_option maxHeartbeats 1000000 in
theorem deep4 (T:F72.Txt K mg aB aO) {cdv:Value} {A:Around} {outer:List Env} {s:Shared} {H0:Hp} {E:XK} :
  ∃ t,PSs (zbv CX0 P w K mg base ["_law_kind","_law_names_here","_law_tree_here","_law_formula","_law_k"] "_law_deep" (aj zbQ) f cdv A outer s H0 E).nox ((zax zbQ).drop 4) t ∧
   ∀(Dn:zba) (H:Hp) (c:Int) (v1 v2 v4:Option V) (zs:List Str) (p:Addr) (g:Fm),Has K H (dFm g) (.ref p)→Bg zs g 1 →
    (∀(H':Hp) (p:Addr) (g:Fm),ai H H'→Has K H' (dFm g) (.ref p)→Bg zs g 20→Dn.rt (.ref p) H') →
    t Dn [some (.int c),v1,v2,some (.ref p),v4] H:=by
 refine⟨_,(ae (zaY PassesOwn.never rfl (zbj rfl T.range (aa ad ac)) (zaA (i:=4) zbE.nd rfl (Or.inl rfl))
   (ag (zai (zaa zas (am zaq (pv 0) ad) ad (zag _))
     (ag (zah (i:=3) zbE.nd rfl (Or.inl rfl) (zaf (aa ak (aa (pv 3) ac)))))
     (ag (zai (zaa zas (am zaq (pv 0) ad) ad (zag _))
       (ag (zah (i:=3) zbE.nd rfl (Or.inl rfl) (zaf (aa (av zap (zaG (aa ak (aa ak (aa ak (aa ak ac))))) (am zaq (pv 4) ad) (fun _ _=>rfl)) (aa (pv 3) (aa (zaf (aa ak ac)) ac))))))
       (ag (zah (i:=3) zbE.nd rfl (Or.inl rfl) (zaf (aa (av zap (zaG (aa ak (aa ak ac))) (am zaq (pv 4) ad) (fun _ _=>rfl)) (aa (zaf (aa ak ac)) (aa (pv 3) ac)))))))))))
  (ag (ar (pv 3)))),?_⟩
 intro Dn H c v1 v2 v4 zs p g hg hb q
 refine⟨_,rfl,(by show -(2 ^ 62)≤(19:Int);decide),(by show(19:Int) < 2 ^ 62;decide),zby (lo:=0) (n:=(19:Int).toNat) (fun j σ H'=>ai H H'∧∃(u4:Option V) (p:Addr) (g:Fm),σ=[some (.int c),v1,v2,some (.ref p),u4]∧Has K H' (dFm g) (.ref p)∧Bg zs g (1+j)) ⟨ai.refl H,v4,p,g,rfl,hg,hb⟩ ?_ ?_⟩
 ·rintro j σ H1 hj ⟨s1,u4,p1,g1,rfl,hg1,hb1⟩
  refine⟨_,rfl,_,_,rfl,rfl,(by show(0:Int) < 4;decide),rfl,_,rfl,zal (fun _=>?_) (fun _=>?_)⟩
  ·refine⟨_,rfl,lS2,fun l hl=>?_⟩
   have s2:ai H1 (upd H1 l (.tup [.str "not",.ref p1])):=ah hl _
   exact⟨s1.trans s2,_,l,.not g1,rfl,Has.tup' (SqT.of af) (.cons Has.str' (.cons (hg1.keep s2.kt (nol_dFm _)) .nil)),hb1.not⟩
  refine⟨_,rfl,_,_,rfl,rfl,(by show(0:Int) < 4;decide),rfl,_,rfl,zal (fun _=>?_) (fun _=>?_)⟩
  ·obtain⟨k,hk,kk,k4⟩:=zbI ((0:Int)+(j:Nat))
   refine⟨lS4,fun l hl=>?_⟩
   have s2:ai H1 (upd H1 l (.lst [.str "and",.str "or",.str "then",.str "as"])):=ah hl _
   have n2:=af (H:=H1) (a:=l) (o:=.lst [.str "and",.str "or",.str "then",.str "as"])
   generalize upd H1 l (.lst [.str "and",.str "or",.str "then",.str "as"])=H2 at s2 n2
   refine⟨_,rfl,_,_,rfl,rfl,(by show(0:Int) < 4;decide),l,_,_,_,rfl,rfl,SqL.of n2,hk,_,rfl,lS1,fun b hb2=>?_⟩
   have s3:ai H2 (upd H2 b (.tup [.str "never"])):=ah hb2 _
   have n3:=af (H:=H2) (a:=b) (o:=.tup [.str "never"])
   generalize upd H2 b (.tup [.str "never"])=H3 at s3 n3
   refine⟨lS3,fun l4 hl4=>?_⟩
   have s4:ai H3 (upd H3 l4 (.tup [.str k,.ref p1,.ref b])):=ah hl4 _
   have s24:=(s2.trans s3).trans s4
   exact⟨s1.trans s24,_,l4,.bin k g1 (.bare "never"),rfl,Has.tup' (SqT.of af) (.cons Has.str' (.cons (hg1.keep s24.kt (nol_dFm _)) (.cons (Has.tup' (SqT.of (s4 _ _ n3)) (.cons Has.str' .nil)) .nil))),hb1.binR (by omega) kk (.inr rfl)⟩
  ·obtain⟨k,hk,kk⟩:=zhw ((0:Int)+(j:Nat))
   refine⟨lS2,fun l hl=>?_⟩
   have s2:ai H1 (upd H1 l (.lst [.str "as",.str "then"])):=ah hl _
   have n2:=af (H:=H1) (a:=l) (o:=.lst [.str "as",.str "then"])
   generalize upd H1 l (.lst [.str "as",.str "then"])=H2 at s2 n2
   refine⟨_,rfl,_,_,rfl,rfl,(by show(0:Int) < 2;decide),l,_,_,_,rfl,rfl,SqL.of n2,hk,lS1,fun b hb2=>?_⟩
   have s3:ai H2 (upd H2 b (.tup [.str "always"])):=ah hb2 _
   have n3:=af (H:=H2) (a:=b) (o:=.tup [.str "always"])
   generalize upd H2 b (.tup [.str "always"])=H3 at s3 n3
   refine⟨_,rfl,lS3,fun l4 hl4=>?_⟩
   have s4:ai H3 (upd H3 l4 (.tup [.str k,.ref b,.ref p1])):=ah hl4 _
   have s24:=(s2.trans s3).trans s4
   exact⟨s1.trans s24,_,l4,.bin k (.bare "always") g1,rfl,Has.tup' (SqT.of af) (.cons Has.str' (.cons (Has.tup' (SqT.of (s4 _ _ n3)) (.cons Has.str' .nil)) (.cons (hg1.keep s24.kt (nol_dFm _)) .nil))),hb1.binL (by omega) kk (.inl rfl)⟩
 ·rintro σ H1 ⟨s1,u4,p1,g1,rfl,hg1,hb1⟩
  exact⟨_,rfl,q H1 p1 g1 s1 hg1 hb1⟩
theorem ziO (F:Fun K "_law_deep" "_law_deep" zbQ f fd) (T:F72.Txt K mg aB aO) (BM:FB P w K mg base CX0 1 "_law_mixed_deep" fM dM ["_law_cell","_law_names_here"] (zdJ K)):FnOk P w K mg base CX0 2 f fd ["_law_kind","_law_names_here"] (zdJ K):=by
 refine F.ok zbE (fun vs H Q E h=>?_) (fun cdv A outer s H vs Q E hr h=>?_)
 ·obtain⟨c,_,_,rfl,_⟩:=h
  rfl
 obtain⟨c,nl,zs,rfl,⟨hN,hN2⟩,hz,D,q⟩:=h
 have D':=D
 obtain⟨z0,z1,z2,z3,rfl,n01,n02,n12⟩:=D'
 obtain⟨t4,h4,q4⟩:=deep4 (f:=f) (P:=P) (w:=w) (base:=base) (cdv:=cdv) (A:=A) (s:=s) (outer:=outer) (H0:=H) (E:=E) T
 refine⟨_,(ae (zah (i:=2) zbE.nd rfl (Or.inl rfl) (zaf (aa (av zap (pv 1) ad (fun _ _=>rfl)) (aa (zaf ac) ac))))
  (ae (zah (i:=3) zbE.nd rfl (Or.inl rfl) (zaf (aa ak (aa (av zap (pv 1) ad (fun _ _=>rfl)) ac))))
  (ae (zai (zaa zas (am zaq (pv 0) ad) ad (zag _))
   (ag (ar (ao BM.ok hr rfl BM.m BM.kp BM.b .nil ap (aa (am zaT (pv 0) ad) (aa (pv 1) ac)))))
   zab)
  (ae (zai (zaa zas (am zaq (pv 0) ad) ad (zag _))
   (ae (zaY PassesOwn.never rfl (zbj rfl T.range (aa ad ac)) (zaA (i:=4) zbE.nd rfl (Or.inl rfl))
     (ag (zah (i:=2) zbE.nd rfl (Or.inl rfl) (zaf (aa (av zap (pv 1) (am zaq (pv 4) ad) (fun _ _=>rfl)) (aa (zaf (aa (pv 2) ac)) ac))))))
    (ag (ar (zaf (aa ak (aa (zaf (aa (av zap (pv 1) ad (fun _ _=>rfl)) (aa (zaf ac) ac))) (aa (pv 2) ac)))))))
   zab) h4)))),?_⟩
 have hN':H nl=some (.lst [.str z0,.str z1,.str z2,.str z3]):=hN
 have g0:=hz z0 (by simp)
 have g1:=hz z1 (by simp)
 have a0:atI [V.str z0,V.str z1,V.str z2,V.str z3] 0=some (.str z0):=zat (j:=0) rfl
 have a1:atI [V.str z0,V.str z1,V.str z2,V.str z3] 1=some (.str z1):=zat (j:=1) rfl
 refine⟨_,rfl,nl,_,_,_,rfl,rfl,SqL.of hN',a0,lS0,fun e he=>⟨lS2,fun l hl=>?_⟩⟩
 obtain⟨s1,h1⟩:=leaf (K:=K) (z:=z0) he hl
 generalize upd (upd H e (.tup [])) l (.tup [.str z0,.ref e])=H1 at s1 h1
 refine⟨_,rfl,nl,_,_,_,rfl,rfl,SqL.of (s1 _ _ hN'),a1,lS2,fun l2 hl2=>?_⟩
 have s2:ai H1 (upd H1 l2 (.tup [.str "plain",.str z1])):=ah hl2 _
 have n2:=af (H:=H1) (a:=l2) (o:=.tup [.str "plain",.str z1])
 generalize upd H1 l2 (.tup [.str "plain",.str z1])=H2 at s2 n2
 have s12:=s1.trans s2
 have hpl:Has K H2 (dFm (.plain z1)) (.ref l2):=Has.tup' (SqT.of n2) (.cons Has.str' (.cons Has.str' .nil))
 refine⟨_,rfl,_,_,rfl,rfl,(by show(0:Int) < 5;decide),rfl,_,rfl,zal (fun _=>?_) (fun _=>?_)⟩
 ·exact⟨_,rfl,_,_,rfl,rfl,⟨by decide,by decide⟩,_,rfl,_,nl,[z0,z1,z2,z3],rfl,⟨s12 _ _ hN,hN2⟩,hz,D,fun H' p' g' s'=>q H' p' g' (s12.trans s')⟩
 refine⟨_,rfl,_,_,rfl,rfl,(by show(0:Int) < 4;decide),rfl,_,rfl,zal (fun _=>?_) (fun _=>?_)⟩
 ·refine⟨_,rfl,(by show -(2 ^ 62)≤(18:Int);decide),(by show(18:Int) < 2 ^ 62;decide),zby (lo:=0) (n:=(18:Int).toNat) (fun j σ H'=>ai H H'∧∃(u4:Option V) (p:Addr) (t1:Tr),σ=[some (.int c),some (.ref nl),some (.ref p),some (.ref l2),u4]∧Has K H' (dTr t1) (.ref p)∧Ch z0 [z0,z1,z2,z3] t1 j) ⟨s12,none,l,_,rfl,h1.keep s2.kt (nol_dTr _),Ch.zero (by simp) g0.l8⟩ ?_ ?_⟩
  ·rintro j σ H3 hj ⟨s3,u4,p,t1,rfl,ht,ch⟩
   obtain⟨z,ha,zm,zl⟩:=zeu hz ((0:Int)+(j:Nat))
   refine⟨_,rfl,_,rfl,_,_,rfl,rfl,(by show(0:Int) < 4;decide),nl,_,_,_,rfl,rfl,SqL.of (s3 _ _ hN'),ha,_,rfl,lS1,fun e3 he3=>⟨lS2,fun l3 hl3=>?_⟩⟩
   obtain⟨s4,h3'⟩:=twig (K:=K) (z:=z) ht he3 hl3
   exact⟨s3.trans s4,_,l3,_,rfl,h3',ch.next zm zl⟩
  ·rintro σ H3 ⟨s3,u4,p,t1,rfl,ht,ch⟩
   refine⟨_,rfl,nl,_,_,_,rfl,rfl,SqL.of (s3 _ _ hN'),a1,lS0,fun e4 he4=>⟨lS2,fun l4 hl4=>?_⟩⟩
   obtain⟨s4,h4'⟩:=leaf (K:=K) (z:=z1) he4 hl4
   generalize upd (upd H3 e4 (.tup [])) l4 (.tup [.str z1,.ref e4])=H4 at s4 h4'
   refine⟨_,rfl,lS3,fun l5 hl5=>?_⟩
   have s5:ai H4 (upd H4 l5 (.tup [.str "same",.ref l4,.ref p])):=ah hl5 _
   exact q _ l5 (.same (.node z1 []) t1) ((s3.trans s4).trans s5) (Has.tup' (SqT.of af) (.cons Has.str' (.cons (h4'.keep s5.kt (nol_dTr _)) (.cons (ht.keep (s4.trans s5).kt (nol_dTr _)) .nil)))) (Bg.same ch (by decide) (by simp) g1.l8)
 ·exact q4 _ H2 c _ _ _ [z0,z1,z2,z3] l2 _ hpl (Bg.plain (by simp) g1.l8) fun H' p' g' s'=>q H' p' g' (s12.trans s')
end
end K72
namespace K72
open PySem L2
open F72 (Tr Fm dTr ax dFm FOk FO3 fdp dp dps wt wts fwt zbd GdZ Dst D3 zaV nol_dTr nol_dFm nols_dTrs zae zbp zbZ zcz zdZ zdK zcV szM)
theorem zdM:∀ g:Fm,dep (dFm g)≤2 * fdd g
 | .plain z=>by simp only[dFm,dep,zaz,fdd];omega
 | .bare z=>by simp only[dFm,dep,zaz,fdd];omega
 | .same a b=>by
  have h1:=F72.dep_dTr a
  have h2:=F72.dep_dTr b
  simp only[dFm,dep,zaz,fdd]
  omega
 | .unlike ts=>by
  have h1:=F72.deps_dTrs ts
  simp only[dFm,dep,zaz,fdd]
  omega
 | .not f=>by
  have h1:=zdM f
  simp only[dFm,dep,zaz,fdd]
  omega
 | .bin k f g=>by
  have h1:=zdM f
  have h2:=zdM g
  simp only[dFm,dep,zaz,fdd]
  omega
theorem zgw {zs:List Str}:∀ {fs:List Fm},(∀ g∈fs,Gf zs g)→zaz (fs.map dFm)≤40
 | [],_=>by simp [zaz]
 | g :: fs,h=>by
  have h1:=(h g (by simp)).d
  have h2:=zdM g
  have h3:=zgw (fs:=fs) fun u hu=>h u (List.mem_cons_of_mem _ hu)
  simp only[List.map_cons,zaz]
  omega
theorem zfS (K:W.Frag) (n:String):W.kitOne K (.type n) (.type n)=some true:=by
 unfold W.kitOne
 rw[if_pos (by rw[beq_self_eq_true])]
def zdG (K:W.Frag):Sp:=fun vs H Q _=>∃(a:Addr) (ns:List Int),vs=[.ref a]∧SqL K H a (ns.map V.int)∧ns.length≤63∧∀ H',Q (.bl true) H'
section
variable {P:Program} {w:World} {K:W.Frag} {mg:Str→Option Value} {base:Heap} {aB aO:Addr} {f fN fF fC fS fT fD fU fA:Addr} {fd dN dF dC dS dT' dD dU dA:FuncData}
abbrev NR:List Str:=["_law_script","_law_names_here","_law_formulas_here","_law_text_here","_law_held","_law_found","_law_formula"]
theorem zbU:zad NR ["_law_script"] (aj zaU):=⟨rfl,rfl,rfl,by decide +kernel,rfl,by decide +kernel,by decide +kernel⟩
set_option maxHeartbeats 1000000 in
theorem right3 (T:F72.Txt K mg aB aO) (BS:FB P w K mg base CX0 40 "shown" fS dS ["formulas"] (zcz K)) (BT:FB P w K mg base CX0 40 "_law_text" fT dT' ["_law_formulas_here"] (zcz K)) (BU:FB P w K mg base CX0 88 "understood" fU dU ["text"] (zfj K))
  {cdv:Value} {A:Around} {outer:List Env} {s:Shared} {H0:Hp} {E:XK} (hr:aw 88 (A.deeper (PyProof.Rows.envOfC "_law_all_right" (aj zaU) s.heap.objs.size f cdv))) :
  ∃ t,PSs (zbv CX0 P w K mg base NR "_law_all_right" (aj zaU) f cdv A outer s H0 E).nox ((zax zaU).drop 3) t ∧
   ∀(Dn:zba) (H:Hp) (v0 v1:Option V) (fl:Addr) (ys:List V) (gs:List Fm) (zs:List Str),H fl=some (.lst ys)→HasL K H (gs.map dFm) ys→(∀ z∈zs,GdZ z)→(∀ g∈gs,Gf zs g)→zbd gs≤100000→gs.length≤100 →
    (∀ H':Hp,Dn.rt (.bl true) H') →
    t Dn [v0,v1,some (.ref fl),none,none,none,none] H:=by
 have hr40:aw 40 _:=hr.mono (by decide)
 have hu:=zcr hr
 refine⟨_,(ae (zah (i:=3) zbU.nd rfl (Or.inl rfl) (ao BT.ok hr40 rfl BT.m BT.kp BT.b .nil ap (aa (pv 2) ac)))
  (ae (zah (i:=4) zbU.nd rfl (Or.inl rfl) (ao BU.ok hr rfl BU.m BU.kp BU.b .nil ap (aa (pv 3) ac)))
  (ae (zah (i:=5) zbU.nd rfl (Or.inl rfl) (ao BU.ok hr rfl BU.m BU.kp BU.b .nil ap (aa (pv 3) ac)))
  (ae (zai (PW.pt (zeb (zbw (zaX (zaI zf6 rfl T.isi PyProof.Rows.Boot.isinstance (aa (pv 5) (aa (zgm (v:=.ty "list") rfl T.list PyProof.Rows.Boot.list rfl) ac))))) (zeb (zaa (zhd hu) (pv 5) (pv 2) rfl) (zei (zaa op_ne (ao BS.ok hr40 rfl BS.m BS.kp BS.b .nil ap (aa (pv 5) ac)) (pv 3) (zag _))))))
   (ag (ar zfg))
   zab)
  (ae (zaY PassesOwn.never rfl (za6 (pv 5)) (zaA (i:=6) zbU.nd rfl (Or.inl rfl))
   (ag (zai (zbw (zaX (zaI zf5 rfl T.isi PyProof.Rows.Boot.isinstance (aa (pv 6) (aa (zgm (v:=.ty "tuple") rfl T.tuple PyProof.Rows.Boot.tuple rfl) ac)))))
     (ag (ar zfg))
     zab)))
  (ae (zaM (zbl PySem.F.plainAttrs_list PySem.F.slot_list_append PySem.F.type_list_append zbY (pv 5) (aa (zaf (aa ak ac)) ac)))
  (ag (ar (zel (zbX (zfq hu) (ao BU.ok hr rfl BU.m BU.kp BU.b .nil ap (aa (pv 3) ac)) (pv 2) rfl) (zfp (zbX (zfq hu) (pv 4) (pv 2) rfl))))))))))),?_⟩
 intro Dn H v0 v1 fl ys gs zs hfl hy hz gf sm le q
 have R:=Rts.of hz gf sm le
 have ok:∀ g∈gs,FOk g∧fdp g≤20:=fun g hg=>⟨zcB (R.lf g hg) (gf g hg).d,Nat.le_trans (zcu g) (gf g hg).d⟩
 have dd:=zgw gf
 refine⟨_,rfl,gs,fl,ys,rfl,SqL.of hfl,hy,ok,sm,le,fun H1 s1=>?_⟩
 refine⟨_,rfl,gs,rfl,R,fun H2 l2 x2 s2 nl2 hl2 hx2=>?_⟩
 refine⟨_,rfl,gs,rfl,R,fun H3 l3 x3 s3 nl3 hl3 hx3=>?_⟩
 have s03:=(s1.trans s2).trans s3
 have hfl3:=s03 _ _ hfl
 have hy3:=hy.keep s03.kt (zae _)
 have hl23:=s3 _ _ hl2
 have hx23:=hx2.keep s3.kt (zae _)
 refine⟨_,rfl,l3,_,"list",true,rfl,SqL.of hl3,zfS K "list",_,rfl,zaS ?_⟩
 refine⟨_,rfl,_,rfl,.lst (gs.map dFm),.lst (gs.map dFm),Has.lst' (SqL.of hl3) hx3,Has.lst' (SqL.of hfl3) hy3,(by simp only[dep];omega),_,rfl,?_⟩
 rw[zcd]
 refine zaS ⟨_,rfl,gs,l3,x3,rfl,SqL.of hl3,hx3,ok,sm,le,fun H4 s4=>⟨_,rfl,rfl,_,rfl,zal (fun c=>absurd c (by simp)) (fun _=>?_)⟩⟩
 have hl34:=s4 _ _ hl3
 have hx34:=hx3.keep s4.kt (zae _)
 have hfl4:=s4 _ _ hfl3
 have hy4:=hy3.keep s4.kt (zae _)
 have hl24:=s4 _ _ hl23
 have hx24:=hx23.keep s4.kt (zae _)
 refine⟨_,rfl,l3,rfl,⟨_,SqL.of hl34⟩,zbP za5 (fun i σ H'=>∃ v:Option V,σ=[v0,v1,some (.ref fl),some (.str (zbZ gs)),some (.ref l2),some (.ref l3),v]∧H'=H4) (fun i σ H' ⟨_,_,e⟩=>by rw[e];exact SqL.of hl34) ⟨none,rfl,rfl⟩ ?_ ?_⟩
 ·rintro i σ H5 x H6 hi ⟨v,rfl,rfl⟩ ⟨rfl,hw⟩
  obtain⟨u,hu',hux⟩:=F72.fms_get hx34 (hw _ (SqL.of hl34))
  obtain⟨p,xs,rfl,hp,_⟩:=F72.fm_at hux
  exact⟨_,rfl,p,_,"tuple",true,rfl,hp,zfS K "tuple",_,rfl,zaS ⟨_,rfl,rfl⟩⟩
 ·rintro σ H5 ⟨v,rfl,rfl⟩
  have n32:l2≠l3:=fun e=>by
   rw[←e,hl2]at nl3
   cases nl3
  have n3f:fl≠l3:=fun e=>by
   have:=(s1.trans s2) _ _ hfl
   rw[e,nl3]at this
   cases this
  have xl:x3.length=gs.length:=by rw[←hx3.length,List.length_map]
  refine⟨_,rfl,.inl ⟨rfl,_,SqL.of hl34⟩,lS1,fun b hb=>?_⟩
  have s5:ai H5 (upd H5 b (.tup [.str "always"])):=ah hb _
  generalize upd H5 b (.tup [.str "always"])=H6 at s5
  have hl36:=s5 _ _ hl34
  refine⟨l3,_,_,rfl,rfl,hl36,Nat.lt_of_lt_of_le (show x3.length < 1000 by omega) (F72.sz 1000 (by decide)),?_⟩
  have kt:=zaR.lst (ys:=x3++[.ref b]) hl36
  have hfl7:upd H6 l3 (.lst (x3++[.ref b])) fl=some (.lst ys):=by rw[zaj n3f];exact s5 _ _ hfl4
  have hl27:upd H6 l3 (.lst (x3++[.ref b])) l2=some (.lst x2):=by rw[zaj n32];exact s5 _ _ hl24
  have hy7:=hy4.keep (s5.kt.trans kt) (zae _)
  have hx27:=hx24.keep (s5.kt.trans kt) (zae _)
  generalize upd H6 l3 (.lst (x3++[.ref b]))=H7 at hfl7 hl27 hy7 hx27
  refine⟨_,rfl,gs,rfl,R,fun H8 l8 x8 s8 nl8 hl8 hx8=>⟨_,rfl,.lst (gs.map dFm),.lst (gs.map dFm),Has.lst' (SqL.of hl8) hx8,Has.lst' (SqL.of (s8 _ _ hfl7)) (hy7.keep s8.kt (zae _)),(by simp only[dep];omega),_,rfl,?_⟩⟩
  rw[zcd]
  refine zbJ ⟨_,rfl,_,rfl,.lst (gs.map dFm),.lst (gs.map dFm),Has.lst' (SqL.of (s8 _ _ hl27)) (hx27.keep s8.kt (zae _)),Has.lst' (SqL.of (s8 _ _ hfl7)) (hy7.keep s8.kt (zae _)),(by simp only[dep];omega),?_⟩
  rw[zcd]
  exact q H8
set_option maxHeartbeats 1000000 in
theorem zig (F:Fun K "_law_all_right" "_law_all_right" zaU f fd) (T:F72.Txt K mg aB aO) (BN:FB P w K mg base CX0 3 "_law_names" fN dN ["_law_cell"] zdZ) (BF:FB P w K mg base CX0 6 "_law_formulas" fF dF ["_law_script","_law_begin","_law_names_here","_law_many"] (zcV K))
  (BC:FB P w K mg base CX0 1 "_law_cell_at" fC dC ["_law_script","_law_k"] (zdK K)) (BD:FB P w K mg base CX0 2 "_law_deep" fD dD ["_law_kind","_law_names_here"] (zdJ K)) (BS:FB P w K mg base CX0 40 "shown" fS dS ["formulas"] (zcz K)) (BT:FB P w K mg base CX0 40 "_law_text" fT dT' ["_law_formulas_here"] (zcz K)) (BU:FB P w K mg base CX0 88 "understood" fU dU ["text"] (zfj K)):FnOk P w K mg base CX0 89 f fd ["_law_script"] (zdG K):=by
 refine F.ok zbU (fun vs H Q E h=>?_) (fun cdv A outer s H vs Q E hr h=>?_)
 ·obtain⟨a,ns,rfl,_⟩:=h
  rfl
 obtain⟨a,ns,rfl,hS,h63,k⟩:=h
 have hr1:aw 1 _:=hr.mono (by decide)
 have hr2:aw 2 _:=hr.mono (by decide)
 have hr3:aw 3 _:=hr.mono (by decide)
 have hr6:aw 6 _:=hr.mono (by decide)
 obtain⟨t3,h3,q3⟩:=right3 (f:=f) (outer:=outer) (H0:=H) (E:=E) T BS BT BU hr
 refine⟨_,(ae (zah (i:=1) zbU.nd rfl (Or.inl rfl) (ao BN.ok hr3 rfl BN.m BN.kp BN.b .nil ap (aa (ao BC.ok hr1 rfl BC.m BC.kp BC.b .nil ap (aa (pv 0) (aa ad ac))) ac)))
  (ae (zah (i:=2) zbU.nd rfl (Or.inl rfl) (ao BF.ok hr6 rfl BF.m BF.kp BF.b .nil ap (aa (pv 0) (aa ad (aa (pv 1) (aa (am zaq (ao BC.ok hr1 rfl BC.m BC.kp BC.b .nil ap (aa (pv 0) (aa ad ac))) ad) ac))))))
  (ae (zai (zaa zas (am zaq (am zaT (ao BC.ok hr1 rfl BC.m BC.kp BC.b .nil ap (aa (pv 0) (aa ad ac))) ad) ad) ad (zag _))
   (ag (zaM (zbl PySem.F.plainAttrs_list PySem.F.slot_list_append PySem.F.type_list_append zbY (pv 2) (aa (ao BD.ok hr2 rfl BD.m BD.kp BD.b .nil ap (aa (am zaT (ao BC.ok hr1 rfl BC.m BC.kp BC.b .nil ap (aa (pv 0) (aa ad ac))) ad) (aa (pv 1) ac))) ac))))
   zab) h3))),?_⟩
 refine⟨_,rfl,a,ns,0,rfl,hS,by decide,fun i0=>⟨i0,rfl,fun H1 nl zs s1 hn1 hnl z4 zg d3=>?_⟩⟩
 have hN:zaV H1 nl zs:=⟨hnl,z4,fun z hz=>Nat.le_trans (zg z hz).l8 (by decide)⟩
 refine⟨_,rfl,_,rfl,_,rfl,a,ns,1,rfl,s1.seq hS,by decide,fun i1=>⟨_,_,rfl,rfl,(by show(0:Int) < 17;decide),?_⟩⟩
 have b17:=zbp i1 (show(0:Int) < 17 by decide)
 refine⟨a,nl,ns,zs,2,i1 % 17,rfl,s1.seq hS,by decide,hN,by omega,by omega,fun H2 fl ys gs s2 hfl hy hP=>?_⟩
 have s12:=s1.trans s2
 obtain⟨gf,sm,le⟩:=ziJ hP (by omega)
 have yl:ys.length=gs.length:=by rw[←hy.length,List.length_map]
 refine⟨_,rfl,a,ns,1,rfl,s12.seq hS,by decide,fun i2=>⟨_,_,rfl,rfl,⟨by decide,by decide⟩,_,_,rfl,rfl,(by show(0:Int) < 6;decide),rfl,_,rfl,zal (fun _=>?_) (fun _=>?_)⟩⟩
 ·refine⟨_,rfl,.inl ⟨rfl,_,SqL.of hfl⟩,_,rfl,a,ns,1,rfl,s12.seq hS,by decide,fun i3=>⟨_,_,rfl,rfl,⟨by decide,by decide⟩,_,rfl,_,nl,zs,rfl,hN.same s2,zg,d3,fun H3 p g s3 hg hb=>?_⟩⟩
  have hfl3:=s3 _ _ hfl
  refine⟨fl,_,_,rfl,rfl,hfl3,Nat.lt_of_lt_of_le (show ys.length < 1000 by omega) (F72.sz 1000 (by decide)),?_⟩
  have kt:=zaR.lst (ys:=ys++[.ref p]) hfl3
  have hb2:=hb.w
  refine q3 _ _ _ _ fl (ys++[.ref p]) (gs++[g]) zs af ?_ zg (fun u hu=>?_) ?_ ?_ k
  ·rw[List.map_append]
   exact HasL.append (hy.keep (s3.kt.trans kt) (zae _)) (HasL.one (hg.keep kt (nol_dFm _)))
  ·rcases List.mem_append.mp hu with hu | hu
   ·exact gf u hu
   ·rw[List.mem_singleton.mp hu]
    exact⟨hb.i,hb.d⟩
  ·have e:zbd (gs++[g])=zbd gs+(fwt g+1):=by simp [zbd]
   rw[e]
   omega
  ·rw[List.length_append,List.length_singleton]
   omega
 ·exact q3 _ H2 _ _ fl ys gs zs hfl hy zg gf (by omega) (by omega) k
theorem sc_law:zad ["_law_script"] ["_law_script"] (aj zgL):=⟨rfl,rfl,rfl,by decide +kernel,rfl,by decide +kernel,by decide +kernel⟩
theorem ok_law (F:Fun K "law" "law" zgL f fd) (BA:FB P w K mg base CX0 89 "_law_all_right" fA dA ["_law_script"] (zdG K)):FnOk P w K mg base CX0 90 f fd ["_law_script"] (zdG K):=by
 refine F.ok sc_law (fun vs H Q E h=>?_) (fun cdv A outer s H vs Q E hr h=>?_)
 ·obtain⟨a,ns,rfl,_⟩:=h
  rfl
 obtain⟨a,ns,rfl,hS,h63,k⟩:=h
 refine⟨_,ag (ps_try rfl rfl (fun pins E1 Eb hp=>ag (ar (ao BA.ok hr rfl BA.m BA.kp BA.b .nil ap (aa (pv 0) ac)))) zic),?_⟩
 exact⟨_,rfl,a,ns,rfl,hS,h63,fun H'=>k H'⟩
end
end K72
namespace K72
open PySem L2
set_option maxHeartbeats 4000000 in
theorem all_mk {l:W.OpenLaw} {w:World} {K:W.Frag} {h:Heap} {mg:Str→Option Value} {fa aB aO aK aW CU f1 f2 f3 f4 f5 f6 f7 f8 f9 f10 f11 f12 f13 f14 f15 f16 f17 f18 f19 f20 f21 f22 f23 f24 f25 f26 f27 f28 f29 f30 f31 f32 f33 f34 f35 f36 f37 f38 f39 f40 f41 f42:Addr} (X:K.In h) (G:h.Ns mainGlobals mg) (hfa:mg "law"=some (.ref fa))
  {d1 d2 d3 d4 d5 d6 d7 d8 d9 d10 d11 d12 d13 d14 d15 d16 d17 d18 d19 d20 d21 d22 d23 d24 d25 d26 d27 d28 d29 d30 d31 d32 d33 d34 d35 d36 d37 d38 d39 d40 d41 d42:FuncData} {odB odO odK odW:Option Addr} {slB slO slK slW:Array (Option Value)} {t1 t2 t3 t4 t5 t6 t7 t8 t9 u1 u2 u3 u4 u5 w1 w2 w3 w4 w5 w6 w7 w8 q1 q2 q3 q4:Tok} {nB nO nK nW:Nat}
  (aC:W.nsIn K mainGlobals "Cursor"=some (some (.ref CU)))
  (y1:FT K "inner_trees" "inner_trees" F72.s_inner_trees f1 d1)
  (y2:FT K "inner_formulas" "inner_formulas" F72.s_inner_formulas f2 d2)
  (y3:FT K "shown_tree" "shown_tree" F72.s_shown_tree f3 d3)
  (y4:FT K "shown_formula" "shown_formula" F72.s_shown_formula f4 d4)
  (y5:FT K "shown" "shown" F72.s_shown f5 d5)
  (y6:FT K "is_word" "is_word" zdA f6 d6)
  (y7:FT K "is_name" "is_name" zdB f7 d7)
  (y8:FT K "ask_name" "ask_name" zdm f8 d8)
  (y9:FT K "text_rows" "text_rows" zcW f9 d9)
  (y10:FT K "take_between" "take_between" zcg f10 d10)
  (y11:FT K "take_two" "take_two" zcq f11 d11)
  (y12:FT K "take_simple" "take_simple" zcl f12 d12)
  (y13:FT K "take_formula" "take_formula" zcf f13 d13)
  (y14:FT K "tree_depth" "tree_depth" zcG f14 d14)
  (y15:FT K "depth" "depth" zeG f15 d15)
  (y16:FT K "ask_tree" "ask_tree" zdl f16 d16)
  (y17:FT K "ask_unlike" "ask_unlike" zcH f17 d17)
  (y18:FT K "ask_counts" "ask_counts" zcI f18 d18)
  (y19:FT K "formed" "formed" zd2 f19 d19)
  (y20:FT K "ask_tree_names" "ask_tree_names" zbV f20 d20)
  (y21:FT K "ask_names" "ask_names" zcX f21 d21)
  (y22:FT K "understood" "understood" zcF f22 d22)
  (y23:FT K "_law_cell_at" "_law_cell_at" F72.s__law_cell_at f23 d23)
  (y24:FT K "_law_mixed" "_law_mixed" F72.s__law_mixed f24 d24)
  (y25:FT K "_law_word" "_law_word" F72.s__law_word f25 d25)
  (y26:FT K "_law_names" "_law_names" F72.s__law_names f26 d26)
  (y27:FT K "_law_tree" "_law_tree" F72.s__law_tree f27 d27)
  (y28:FT K "_law_grown" "_law_grown" F72.s__law_grown f28 d28)
  (y29:FT K "_law_formulas" "_law_formulas" F72.s__law_formulas f29 d29)
  (y30:FT K "_law_tree_text" "_law_tree_text" F72.s__law_tree_text f30 d30)
  (y31:FT K "_law_formula_text" "_law_formula_text" F72.s__law_formula_text f31 d31)
  (y32:FT K "_law_text" "_law_text" F72.s__law_text f32 d32)
  (y33:FT K "_law_mixed_deep" "_law_mixed_deep" zaE f33 d33)
  (y34:FT K "_law_deep" "_law_deep" zbQ f34 d34)
  (y35:FT K "_law_all_right" "_law_all_right" zaU f35 d35)
  (y36:FT K "law" "law" zgL f36 d36)
  (y37:FM K CU "__init__" "Cursor.__init__" zbM f37 d37)
  (y38:FM K CU "is_over" "Cursor.is_over" zbW f38 d38)
  (y39:FM K CU "takes" "Cursor.takes" zch f39 d39)
  (y40:FM K CU "take_word" "Cursor.take_word" zbC f40 d40)
  (y41:FM K CU "take_tree" "Cursor.take_tree" za1 f41 d41)
  (y42:FM K CU "take_trees" "Cursor.take_trees" za9 f42 d42)
  (s1:W.nsIn K mainGlobals "BARE"=some (some (.ref aB)))
  (s2:K.lookup aB=some ⟨.type "tuple",odB,.seq #[.str "always" t1,.str "never" t2] nB,slB⟩)
  (s3:W.nsIn K mainGlobals "OF_FORMULAS"=some (some (.ref aO)))
  (s4:K.lookup aO=some ⟨.type "tuple",odO,.seq #[.str "not" u1,.str "and" u2,.str "or" u3,.str "then" u4,.str "as" u5] nO,slO⟩)
  (s5:W.nsIn K mainGlobals "KEPT_WORDS"=some (some (.ref aK)))
  (s6:K.lookup aK=some ⟨.type "tuple",odK,.seq #[.str "or" w1,.str "and" w2,.str "not" w3,.str "never" w4,.str "always" w5,.str "then" w6,.str "as" w7,.str "unlike" w8] nK,slK⟩)
  (s7:W.nsIn K mainGlobals "BETWEEN"=some (some (.ref aW)))
  (s8:K.lookup aW=some ⟨.type "tuple",odW,.seq #[.str "and" q1,.str "or" q2,.str "then" q3,.str "as" q4] nW,slW⟩)
  (g1:W.nsIn K mainGlobals "SMALL_LETTERS"=some (some (.str abc t3)))
  (g2:W.nsIn K mainGlobals "LONGEST_NAME"=some (some (.int 8 t4)))
  (g3:W.nsIn K mainGlobals "MOST_TERM_PARTS"=some (some (.int 3 t5)))
  (g4:W.nsIn K mainGlobals "MOST_BRACKETS"=some (some (.int 20 t6)))
  (g5:W.nsIn K mainGlobals "DEEPEST"=some (some (.int 20 t7)))
  (g6:W.nsIn K mainGlobals "LEAST_UNLIKE"=some (some (.int 2 t8)))
  (g7:W.nsIn K mainGlobals "MOST_UNLIKE"=some (some (.int 5 t9)))
  (z_len:W.nsIn K mainGlobals "len"=some none)
  (z_list:W.nsIn K mainGlobals "list"=some none)
  (z_tuple:W.nsIn K mainGlobals "tuple"=some none)
  (z_range:W.nsIn K mainGlobals "range"=some none)
  (z_int:W.nsIn K mainGlobals "int"=some none)
  (z_isinstance:W.nsIn K mainGlobals "isinstance"=some none)
  (z_str:W.nsIn K mainGlobals "str"=some none)
  (z_all:W.nsIn K mainGlobals "all"=some none)
  (z_max:W.nsIn K mainGlobals "max"=some none)
  (z_enumerate:W.nsIn K mainGlobals "enumerate"=some none)
  (zg:W.plainGet K CU Str.empty=true)
  (zd:W.hasDictIn K CU=true)
  (zo:W.plainOver K CU=true)
  (zs:W.findIn K (.ref CU) "__setattr__"=some (some (.builtin "object.__setattr__")))
  (zm:W.makesIn K CU=true)
  (zk:W.keepIn K (.ref CU)=true)
  (zp:W.findIn K (.ref CU) "place"=some none)
  (zt:W.findIn K (.ref CU) "text"=some none)
  : ∃ fd:FuncData,(∀(s:Shared) (v:Value),BindsTo s fd ⟨[v],[]⟩ [("_law_script",v)])∧∀ base:Heap,K.In base→base.Ns mainGlobals mg→FnOk l.prog w K mg base CX0 90 fa fd ["_law_script"] (zdG K):=by
 have e:=hfa.symm.trans (y36.m X G)
 cases e
 have T:F72.Txt K mg aB aO:=⟨W.mg_none_of X G z_len,W.mg_none_of X G z_list,W.mg_none_of X G z_tuple,W.mg_none_of X G z_range,W.mg_none_of X G z_int,W.mg_none_of X G z_isinstance,W.mg_none_of X G z_str,W.mg_of X G s1,W.mg_of X G s3,fun H=>.inr ⟨_,_,_,s2,rfl,rfl,(by show 2≤sizeLine;decide),.cons ⟨_,rfl⟩ (.cons ⟨_,rfl⟩ .nil)⟩,fun H=>.inr ⟨_,_,_,s4,rfl,rfl,(by show 5≤sizeLine;decide),.cons ⟨_,rfl⟩ (.cons ⟨_,rfl⟩ (.cons ⟨_,rfl⟩ (.cons ⟨_,rfl⟩ (.cons ⟨_,rfl⟩ .nil))))⟩⟩
 have TW:TxW K mg aW aB:=⟨W.mg_of X G s7,fun H=>.inr ⟨_,_,_,s8,rfl,rfl,(by show 4≤sizeLine;decide),.cons ⟨_,rfl⟩ (.cons ⟨_,rfl⟩ (.cons ⟨_,rfl⟩ (.cons ⟨_,rfl⟩ .nil)))⟩,W.mg_of X G s1,fun H=>.inr ⟨_,_,_,s2,rfl,rfl,(by show 2≤sizeLine;decide),.cons ⟨_,rfl⟩ (.cons ⟨_,rfl⟩ .nil)⟩,⟨_,W.mg_of X G g4⟩,⟨_,W.mg_of X G g5⟩,⟨_,W.mg_of X G g6⟩,⟨_,W.mg_of X G g7⟩,⟨_,W.mg_of X G g3⟩,W.mg_none_of X G z_len⟩
 have TN:TxN K mg aK:=⟨⟨_,W.mg_of X G g1⟩,⟨_,W.mg_of X G g2⟩,W.mg_of X G s5,fun H=>.inr ⟨_,_,_,s6,rfl,rfl,(by show 8≤sizeLine;decide),.cons ⟨_,rfl⟩ (.cons ⟨_,rfl⟩ (.cons ⟨_,rfl⟩ (.cons ⟨_,rfl⟩ (.cons ⟨_,rfl⟩ (.cons ⟨_,rfl⟩ (.cons ⟨_,rfl⟩ (.cons ⟨_,rfl⟩ .nil)))))))⟩,W.mg_none_of X G z_len,W.mg_none_of X G z_all⟩
 have Z:TxC K mg CU:=⟨⟨zg,zd,zo,zs⟩,zp,zt,⟨_,W.mg_of X G g1⟩,W.mg_none_of X G z_len,W.mg_none_of X G z_tuple⟩
 have b1:aq K d1 ["formula"] []:=y1.F.b1 fun _ _ _ _ _ _ _=>rfl
 have b2:aq K d2 ["formula"] []:=y2.F.b1 fun _ _ _ _ _ _ _=>rfl
 have b3:aq K d3 ["tree"] []:=y3.F.b1 fun _ _ _ _ _ _ _=>rfl
 have b4:aq K d4 ["formula"] []:=y4.F.b1 fun _ _ _ _ _ _ _=>rfl
 have b5:aq K d5 ["formulas"] []:=y5.F.b1 fun _ _ _ _ _ _ _=>rfl
 have b6:aq K d6 ["text"] []:=y6.F.b1 fun _ _ _ _ _ _ _=>rfl
 have b7:aq K d7 ["word"] []:=y7.F.b1 fun _ _ _ _ _ _ _=>rfl
 have b8:aq K d8 ["word"] []:=y8.F.b1 fun _ _ _ _ _ _ _=>rfl
 have b9:aq K d9 ["text"] []:=y9.F.b1 fun _ _ _ _ _ _ _=>rfl
 have b10:aq K d10 ["cursor"] []:=y10.F.b1 fun _ _ _ _ _ _ _=>rfl
 have b11:aq K d11 ["cursor","left"] []:=y11.F.b2 fun _ _ _ _ _ _ _ _=>rfl
 have b12:aq K d12 ["cursor"] []:=y12.F.b1 fun _ _ _ _ _ _ _=>rfl
 have b13:aq K d13 ["cursor","left"] []:=y13.F.b2 fun _ _ _ _ _ _ _ _=>rfl
 have b14:aq K d14 ["tree"] []:=y14.F.b1 fun _ _ _ _ _ _ _=>rfl
 have b15:aq K d15 ["formula"] []:=y15.F.b1 fun _ _ _ _ _ _ _=>rfl
 have b16:aq K d16 ["tree"] []:=y16.F.b1 fun _ _ _ _ _ _ _=>rfl
 have b17:aq K d17 ["trees"] []:=y17.F.b1 fun _ _ _ _ _ _ _=>rfl
 have b18:aq K d18 ["formula"] []:=y18.F.b1 fun _ _ _ _ _ _ _=>rfl
 have b19:aq K d19 ["row"] []:=y19.F.b1 fun _ _ _ _ _ _ _=>rfl
 have b20:aq K d20 ["tree"] []:=y20.F.b1 fun _ _ _ _ _ _ _=>rfl
 have b21:aq K d21 ["formula"] []:=y21.F.b1 fun _ _ _ _ _ _ _=>rfl
 have b22:aq K d22 ["text"] []:=y22.F.b1 fun _ _ _ _ _ _ _=>rfl
 have b23:aq K d23 ["_law_script","_law_k"] []:=y23.F.b2 fun _ _ _ _ _ _ _ _=>rfl
 have b24:aq K d24 ["_law_cell","_law_k"] []:=y24.F.b2 fun _ _ _ _ _ _ _ _=>rfl
 have b25:aq K d25 ["_law_cell","_law_size"] []:=y25.F.b2 fun _ _ _ _ _ _ _ _=>rfl
 have b26:aq K d26 ["_law_cell"] []:=y26.F.b1 fun _ _ _ _ _ _ _=>rfl
 have b27:aq K d27 ["_law_cell","_law_names_here","_law_deep_here"] []:=y27.F.b3 fun _ _ _ _ _ _ _ _ _=>rfl
 have b28:aq K d28 ["_law_pile","_law_cell","_law_names_here"] []:=y28.F.b3 fun _ _ _ _ _ _ _ _ _=>rfl
 have b29:aq K d29 ["_law_script","_law_begin","_law_names_here","_law_many"] []:=y29.F.b4 fun _ _ _ _ _ _ _ _ _ _=>rfl
 have b30:aq K d30 ["_law_tree_here"] []:=y30.F.b1 fun _ _ _ _ _ _ _=>rfl
 have b31:aq K d31 ["_law_formula"] []:=y31.F.b1 fun _ _ _ _ _ _ _=>rfl
 have b32:aq K d32 ["_law_formulas_here"] []:=y32.F.b1 fun _ _ _ _ _ _ _=>rfl
 have b33:aq K d33 ["_law_cell","_law_names_here"] []:=y33.F.b2 fun _ _ _ _ _ _ _ _=>rfl
 have b34:aq K d34 ["_law_kind","_law_names_here"] []:=y34.F.b2 fun _ _ _ _ _ _ _ _=>rfl
 have b35:aq K d35 ["_law_script"] []:=y35.F.b1 fun _ _ _ _ _ _ _=>rfl
 have b37:aq K d37 ["self","text"] []:=y37.F.b2 fun _ _ _ _ _ _ _ _=>rfl
 have b38:aq K d38 ["self"] []:=y38.F.b1 fun _ _ _ _ _ _ _=>rfl
 have b39:aq K d39 ["self","signs"] []:=y39.F.b2 fun _ _ _ _ _ _ _ _=>rfl
 have b40:aq K d40 ["self"] []:=y40.F.b1 fun _ _ _ _ _ _ _=>rfl
 have b41:aq K d41 ["self","brackets"] []:=y41.F.b2 fun _ _ _ _ _ _ _ _=>rfl
 have b42:aq K d42 ["self","brackets"] []:=y42.F.b2 fun _ _ _ _ _ _ _ _=>rfl
 refine⟨_,y36.F.top fun _ _ _ _ _ _ _=>rfl,fun base _ _=>?_⟩
 have G1:=F72.ok_itrees (P:=l.prog) (w:=w) (base:=base) y1.F T
 have G2:=F72.ok_ifms (P:=l.prog) (w:=w) (base:=base) y2.F T
 have G3:=F72.ok_stree (P:=l.prog) (w:=w) (base:=base) y3.F T b3 y3.k (y3.m X G) 19
 have G4:=F72.ok_sfm y4.F T b4 y4.k (y4.m X G) ⟨G3,b3,y3.k,(y3.m X G)⟩ ⟨G1,b1,y1.k,(y1.m X G)⟩ ⟨G2,b2,y2.k,(y2.m X G)⟩ 20
 have G5:=F72.ok_shown y5.F ⟨G4,b4,y4.k,(y4.m X G)⟩
 have G30:=F72.ok_ltree (P:=l.prog) (w:=w) (base:=base) y30.F T b30 y30.k (y30.m X G) 19 (by decide)
 have G31:=F72.ok_lfm y31.F T b31 y31.k (y31.m X G) ⟨G30,b30,y30.k,(y30.m X G)⟩ 20
 have G32:=F72.ok_ltext y32.F ⟨G31,b31,y31.k,(y31.m X G)⟩
 have G23:=F72.ok_cell (P:=l.prog) (w:=w) (base:=base) y23.F T
 have G24:=F72.ok_mixed (mg:=mg) (P:=l.prog) (w:=w) (base:=base) y24.F
 have G25:=F72.ok_word y25.F T ⟨G24,b24,y24.k,(y24.m X G)⟩
 have G26:=F72.ok_names y26.F ⟨G25,b25,y25.k,(y25.m X G)⟩
 have G27:=F72.ok_ltr y27.F T b27 y27.k (y27.m X G) ⟨G24,b24,y24.k,(y24.m X G)⟩ 3
 have G28:=F72.ok_grown y28.F T ⟨G27,b27,y27.k,(y27.m X G)⟩ ⟨G24,b24,y24.k,(y24.m X G)⟩
 have G29:=F72.ok_formulas y29.F T ⟨G28,b28,y28.k,(y28.m X G)⟩ ⟨G24,b24,y24.k,(y24.m X G)⟩ ⟨G23,b23,y23.k,(y23.m X G)⟩
 have G37:=zij (P:=l.prog) (w:=w) (base:=base) y37.F Z
 have G38:=ziN (P:=l.prog) (w:=w) (base:=base) y38.F Z
 have G39:=zif (P:=l.prog) (w:=w) (base:=base) y39.F Z
 have G40:=zii y40.F Z G38 b38 y38.M
 have O:OwC l.prog w K mg base CU f39 f40 _ _:=⟨G39,b39,y39.M,G40,b40,y40.M⟩
 have G41:FnOk l.prog w K mg base CX0 44 f41 _ ["self","brackets"] (zcb K CU 20):=zfL y41.F y42.F Z O b41 y41.M b42 y42.M 20
 have G42:FnOk l.prog w K mg base CX0 45 f42 _ ["self","brackets"] (zcP K CU 20):=ze3 y42.F Z O (by decide) G41 b41 y41.M
 have G10:=ziQ y10.F Z TW O
 have G12:=zhC y12.F Z TW O G41 b41 y41.M
 have G13:FnOk l.prog w K mg base CX0 86 f13 _ ["cursor","left"] (zdf K CU 20):=zfM y13.F y11.F Z TW O ⟨G10,b10,y10.k,(y10.m X G)⟩ ⟨G12,b12,y12.k,(y12.m X G)⟩ G42 b42 y42.M b13 y13.k (y13.m X G) b11 y11.k (y11.m X G) 20
 have G14:=zgo (P:=l.prog) (w:=w) (base:=base) y14.F (W.mg_none_of X G z_max) b14 y14.k (y14.m X G) 19
 have G15:FnOk l.prog w K mg base CX0 39 f15 _ ["formula"] (zfk K 20):=zhf y15.F (W.mg_none_of X G z_max) b15 y15.k (y15.m X G) ⟨G14,b14,y14.k,(y14.m X G)⟩ ⟨G1,b1,y1.k,(y1.m X G)⟩ ⟨G2,b2,y2.k,(y2.m X G)⟩ 20
 have G16:=zfN (P:=l.prog) (w:=w) (base:=base) y16.F TW b16 y16.k (y16.m X G) 19
 have G17:=ziR (P:=l.prog) (w:=w) (base:=base) y17.F TW (W.mg_none_of X G z_enumerate)
 have G18:FnOk l.prog w K mg base CX0 39 f18 _ ["formula"] (zdL K 20):=zgp y18.F b18 y18.k (y18.m X G) ⟨G16,b16,y16.k,(y16.m X G)⟩ ⟨G17,b17,y17.k,(y17.m X G)⟩ ⟨G1,b1,y1.k,(y1.m X G)⟩ ⟨G2,b2,y2.k,(y2.m X G)⟩ 20
 have G6:=zhD (P:=l.prog) (w:=w) (base:=base) y6.F TN
 have G7:=zhE y7.F TN G6 b6 y6.k (y6.m X G)
 have G8:=zgV y8.F ⟨G7,b7,y7.k,(y7.m X G)⟩
 have G20:FnOk l.prog w K mg base CX0 22 f20 _ ["tree"] (zee K 19):=zhe y20.F ⟨G8,b8,y8.k,(y8.m X G)⟩ b20 y20.k (y20.m X G) 19
 have G21:FnOk l.prog w K mg base CX0 42 f21 _ ["formula"] (zef K 20):=zhg y21.F b21 y21.k (y21.m X G) ⟨G20,b20,y20.k,(y20.m X G)⟩ ⟨G8,b8,y8.k,(y8.m X G)⟩ ⟨G1,b1,y1.k,(y1.m X G)⟩ ⟨G2,b2,y2.k,(y2.m X G)⟩ 20
 have G9:=zie (mg:=mg) (P:=l.prog) (w:=w) (base:=base) y9.F
 have MKC:Mk K CU f37:=⟨zm,y37.a,y37.i,zk⟩
 have G19:=zhF y19.F Z TW MKC G37 b37 (W.mg_of X G aC) ⟨G13,b13,y13.k,(y13.m X G)⟩ G38 b38 y38.M ⟨G15,b15,y15.k,(y15.m X G)⟩ ⟨G18,b18,y18.k,(y18.m X G)⟩
 have G22:=ok_und y22.F ⟨G9,b9,y9.k,(y9.m X G)⟩ ⟨G19,b19,y19.k,(y19.m X G)⟩ ⟨G21,b21,y21.k,(y21.m X G)⟩
 have G33:=zih (P:=l.prog) (w:=w) (base:=base) y33.F T
 have G34:=ziO y34.F T ⟨G33,b33,y33.k,(y33.m X G)⟩
 have G35:=zig y35.F T ⟨G26,b26,y26.k,(y26.m X G)⟩ ⟨G29,b29,y29.k,(y29.m X G)⟩ ⟨G23,b23,y23.k,(y23.m X G)⟩ ⟨G34,b34,y34.k,(y34.m X G)⟩ ⟨G5,b5,y5.k,(y5.m X G)⟩ ⟨G32,b32,y32.k,(y32.m X G)⟩ ⟨G22,b22,y22.k,(y22.m X G)⟩
 exact ok_law y36.F ⟨G35,b35,y35.k,(y35.m X G)⟩
theorem walk {l:W.OpenLaw} {q:Program} {loose:List Str} {XP:(Str→Option Value)→Heap→Prop} {YP:World→Heap→Prop} {d:DefRec} {K:Params→W.Frag} (hn:l.most=some 63) (hdf:d.params.defaults=[])
  (hY:∀(w:World) (h:Heap),YP w h→(K w.params).In h)
  (F:∀(w:World) (mg:Str→Option Value) (fa:Addr) (h:Heap),(K w.params).In h→h.Ns mainGlobals mg→mg d.name=some (.ref fa) →
   ∃ fd:FuncData,(∀(s:Shared) (u:Value),BindsTo s fd ⟨[u],[]⟩ [("_law_script",u)])∧∀ base:Heap,(K w.params).In base→base.Ns mainGlobals mg→FnOk l.prog w (K w.params) mg base CX0 90 fa fd ["_law_script"] (zdG (K w.params))) :
  W.WalkO q loose XP YP l.row.toRowW d [] (fun f vs=>PySem.call f vs) :=
 L2.walk_of (n:=63) (k:=90) (x:="_law_script") (CX:=fun _=>CX0) (sp:=fun w=>zdG (K w.params)) hn (by decide) hdf ⟨rfl,by decide,by decide,rfl⟩ hY F (fun _ _ a ns hl _ hS=>⟨a,ns,rfl,hS,hl,fun _=>rfl⟩) fun _ _ _ _ _ z=>z
end K72
namespace PySem.W.Fast
def tw1803013554775484405:=()
def tw18301356945865430688:=()
def tw10361428439280469779:=()
def tw9077193591518593622:=()
def tw9780509599258753218:=()
def tw4422729463354897584:=()
def tw13587473122340841013:=()
def tw4153544777988330007:=()
def tw1036738231951385990:=()
def tw7457589275144783115:=()
def tw1603093918717143964:=()
def tw472067764484961547:=()
def tw6066278689408584606:=()
def tw8057223127912427701:=()
def tw11979554094832872602:=()
def tw7430934197855500478:=()
def tw11003550721246339778:=()
def tw14575613577759864223:=()
def tw17221129748382162431:=()
def tw8400259742835187328:=()
def tw3364924956554029131:=()
def tw14357217477666999689:=()
def tw16654649146394195132:=()
def tw4298323362709380055:=()
def tw6713436108328261047:=()
def tw5949245401510287304:=()
def tw9701424662681649176:=()
def tw9199178872032673792:=()
def tw5093599031890559797:=()
def tw5662064588053651214:=()
def tw5199055395567240552:=()
def tw14558340692729948969:=()
def tw2462837383366007200:=()
def tw5002954706075584513:=()
def tw935808147025967175:=()
def tw13852727784874857346:=()
def tw3216073091445196064:=()
def tw11936111285124872551:=()
def tw11953967922545127874:=()
def tw4658179639124982456:=()
def tw7121640658262581062:=()
def tw5799488493014615631:=()
def tw5678437188039875213:=()
def tw5776460109661876085:=()
def tw16806739062547564992:=()
def tw15663590904819415002:=()
def tw12976776836819145645:=()
def tw15289718807238174147:=()
def tw10465195675260066108:=()
def tw6900655693018743588:=()
def tw13364475571702185435:=()
def tw13030695682201899958:=()
def tw6235832536015285171:=()
def tw6078119146196716874:=()
def tw8117723032097296425:=()
def tw10009936287667150031:=()
def tw12121047110633738502:=()
def tw16920970936627721592:=()
def tw17856042552146596108:=()
def tw15419101854099035836:=()
def tw2460187821386472526:=()
def tw8701353770585732982:=()
def tw18056042360615160931:=()
def tw12297539585990393635:=()
def tw4647601971287534229:=()
def tw12058311310074669597:=()
def tw10823300802053499774:=()
def tw4714447061921403765:=()
def tw12039198219580262815:=()
def tw5649095424350593383:=()
def tw4824835884512305086:=()
def tw2968836093632930322:=()
def tw15282859042868956244:=()
def tw11584514562146392006:=()
def tw554135980464989091:=()
def tw9080898082240507923:=()
def tw1544776834786832314:=()
def tw18125799167887039019:=()
def tw14558427780112196057:=()
def tw11662139794137790619:=()
def tw7355492630006824173:=()
def tw7425726007649098637:=()
def tw18274252368008175545:=()
def tw5367526630594686742:=()
def tw15173666571579722223:=()
def tw3805080383042706901:=()
def tw16287717326970893943:=()
def tw10483113925782851139:=()
def tw1682639406748373232:=()
def tw10986209838675074146:=()
def tw7236854875392983627:=()
def tw2729186769872265289:=()
def tw11582894971623239013:=()
def tw15703673083025888447:=()
def tw9186488237083873325:=()
def tw2955864931989373106:=()
def tw1604576303344385934:=()
def tw14696450154187644342:=()
def tw8546163713251689233:=()
def tw8166508133477478057:=()
def tw14208446435729509762:=()
def tw2954889536479752829:=()
def tw3404678742866612105:=()
def tw17329533309202862259:=()
def tw12102590836303510119:=()
def tw5174463588231038820:=()
def tw6774754947453471267:=()
def tw16018116638639648796:=()
def tw17245208318977516416:=()
def tw11884170525052294863:=()
def tw10360820896420449344:=()
def tw13496200495512728464:=()
def tw9915212792744119370:=()
def tw13171270711177980037:=()
def tw6590405421762518813:=()
def tw5707614641465864585:=()
def tw10626734413039664408:=()
def tw10021624701859779068:=()
def tw7074406882020774907:=()
def tw5251692823698116409:=()
def tw9926346937707343662:=()
def tw17925693988686961815:=()
def tw1426851436977780060:=()
def tw15574252414168081766:=()
def tw2995863528022290875:=()
def tw8479585286256714209:=()
def tw1890470815512241514:=()
def tw8777049750899464144:=()
def tw17985707335352894219:=()
def tw17922348973381158494:=()
def tw2459615143256593785:=()
def tw14430614857280587794:=()
def tw8832926846619260549:=()
def tw18103706697604209185:=()
def tw7929036609858185688:=()
def tw436327875436250240:=()
def tw10738076619110558916:=()
def tw11991774618153784602:=()
def tw13650837211722803770:=()
def tw5778404672907733390:=()
def tw15830415307755721068:=()
def tw2283883317007860931:=()
def tw13635011074185668165:=()
def tw8679833277246223423:=()
def tw229589588763396711:=()
def tw6194184708070546259:=()
def tw17033380256493238524:=()
def tw9932521937061120972:=()
def tw13631455684826864596:=()
def tw12086149902652075463:=()
def tw14436542365937118051:=()
def tw9325825417767365347:=()
def tw12969470771432909951:=()
def tw2965437113154141289:=()
def tw6937184943173999782:=()
def tw9797639404265485459:=()
def tw3945721377871672532:=()
def tw50597965099340162:=()
def tw3548665890017399267:=()
def tw17136849518599763946:=()
def tw3529080905296098211:=()
def tw972630176797906292:=()
def tw3957037390376426420:=()
def tw7724314503508876104:=()
def tw17223105029705948285:=()
def tw16454693816980500064:=()
def tw14488381170925468042:=()
def tw2275657315501838460:=()
def tw9982965762036847839:=()
def tw14080660153880636951:=()
def tw2174633759246606980:=()
def tw7999864658124783727:=()
def tw9708717658508707244:=()
def tw16715907963128322281:=()
def tw366098472070801476:=()
def tw1906257963842353886:=()
def tw12644539400698165350:=()
def tw9509599095151741864:=()
def tw1575334219515484835:=()
def tw12109387051015763750:=()
def tw2864052808241286021:=()
def tw5215781389202159196:=()
def tw3955926933578982533:=()
def tw3043679964485574677:=()
def tw4636444788838525186:=()
def tw12849212671767630662:=()
def tw7539064519691377458:=()
def tw1662142609571136656:=()
def tw9501174015732286996:=()
def tw834573094159243624:=()
def tw15046856160479323771:=()
def tw7794130083656084125:=()
def tw10867212346675163899:=()
def tw15786449558173632559:=()
def tw16659798366717309240:=()
def tw2862117318468326729:=()
def tw14236217664458363621:=()
def tw15138068970463902613:=()
def tw18187338527645016023:=()
def tw4166567598905798910:=()
def tw14653108800720039091:=()
def tw7305796477003771199:=()
def tw101685759452899023:=()
def tw13940093631249531785:=()
def tw7375989082783098982:=()
def tw12130094647417813283:=()
def tw10719981694477711715:=()
def tw6523081347901816291:=()
def tw1924337107930895292:=()
def tw12650993510278241054:=()
def tw16253709394332989476:=()
def tw2815455938429840441:=()
def tw11681263539121457735:=()
def tw11923237540961491399:=()
def tw367269254772689719:=()
def tw16420467585051037748:=()
def tw13803192293225817573:=()
def tw7085785633856784068:=()
def tw11958493164949935732:=()
def tw1148132915327412408:=()
def tw2448971653886414928:=()
def tw6784625188476942889:=()
def tw14072403602362996591:=()
def tw1856807422035329900:=()
def tw17994631205303888564:=()
def tw13660392541512406941:=()
def tw18019918392051805790:=()
def tw11042178701767546686:=()
def tw6145333191667434995:=()
def tw584842646893445348:=()
def tw1099841877639893821:=()
def tw1353231858213251264:=()
def tw5150243468031784781:=()
def tw3252348106961321057:=()
def tw3021457201972191212:=()
def tw3546807978642734229:=()
def tw15724873888987839863:=()
def tw688472191772806165:=()
def tw377332497692764272:=()
def tw985752412496259284:=()
def tw7469897905629458299:=()
def tw8240586093937363568:=()
def tw4541183643029402764:=()
def tw15662968964348467824:=()
def tw11621968436385888178:=()
def tw580492621593365555:=()
def tw1536056039787883685:=()
def tw8983927169864316952:=()
def tw5346177806000147841:=()
def tw18185097012386144376:=()
def tw7960445524209858677:=()
def tw9556811460261138603:=()
def tw4151340413694212218:=()
def tw12336848945521042010:=()
def tw3900780385058733210:=()
def tw587233766435791156:=()
def tw12701001711620654126:=()
def tw3458475714526089027:=()
def tw13359181697016154708:=()
def tw10401936859524273516:=()
def tw16107015135695358654:=()
def tw15618453507134414665:=()
def tw1196551680456503713:=()
def tw3569566668968698089:=()
def tw7912563056653142892:=()
def tw12028481888581984173:=()
def tw9715621590859558096:=()
def tw1908268582165270973:=()
def tw1675076048991832295:=()
def tw5084274583275051900:=()
def tw1498152955651014536:=()
def tw4231517348829447204:=()
def tw5227890982481408247:=()
def tw2024895926712501760:=()
def tw1812687277810308190:=()
def tw1960979815912744821:=()
def tw858677182023599499:=()
def tw14090157781451360813:=()
def tw12001420157457791198:=()
def tw17119515534090388363:=()
def tw12115677641493605552:=()
def tw9855013992406543010:=()
def tw15358164208554148093:=()
def tw14048173707654797685:=()
def tw2213599945688228087:=()
def tw2154193081322676456:=()
def tw17564702020594070782:=()
def tw4109752187046908198:=()
def tw894729722567305356:=()
def tw213384713987131143:=()
def tw5056149455136511002:=()
def tw12925960848890105268:=()
def tw12974825055440356939:=()
def tw2726431474339336484:=()
def tw4042185726822971151:=()
def tw6678610529082588485:=()
def tw3816553557855932897:=()
def tw8270528457876742179:=()
def tw4278597622679439603:=()
def tw14405586439529472676:=()
def tw2422407582507514667:=()
def tw17602738062853987369:=()
def tw14111223616181161282:=()
def tw2623245283047891457:=()
def tw680850813034197741:=()
def tw2281033363530053554:=()
def tw2419268247962532168:=()
def tw17874217083148790510:=()
def tw10415370995018969837:=()
def tw1302806345310899760:=()
def tw8237747959630912151:=()
def tw9801429902173919709:=()
def tw11462462346138359849:=()
def tw18382863954319639661:=()
def tw7675695616905758311:=()
def tw6391680342285380616:=()
end PySem.W.Fast
open PySem PySem.W PyProof.Rows
set_option maxRecDepth 100000 in
set_option maxHeartbeats 0 in
theorem PySem.Challenge.cw_yesorno_k72_whole_understood_holds : PySem.Challenge.rw_yesorno_k72_whole_understood.Holds := by
 w_on;o_law;k_head;(case hw=>w_witness2)
 k_fill
 refine K72.walk (l:=PySem.Challenge.rw_yesorno_k72_whole_understood) rfl rfl (fun w h Y=>W.kIn_of Y) ?F
 case F =>
  intro w mg fa h KX G hmg
  refine' K72.all_mk KX G hmg ?aC ?y1 ?y2 ?y3 ?y4 ?y5 ?y6 ?y7 ?y8 ?y9 ?y10 ?y11 ?y12 ?y13 ?y14 ?y15 ?y16 ?y17 ?y18 ?y19 ?y20 ?y21 ?y22 ?y23 ?y24 ?y25 ?y26 ?y27 ?y28 ?y29 ?y30 ?y31 ?y32 ?y33 ?y34 ?y35 ?y36 ?y37 ?y38 ?y39 ?y40 ?y41 ?y42 ?s1 ?s2 ?s3 ?s4 ?s5 ?s6 ?s7 ?s8 ?g1 ?g2 ?g3 ?g4 ?g5 ?g6 ?g7 ?z_len ?z_list ?z_tuple ?z_range ?z_int ?z_isinstance ?z_str ?z_all ?z_max ?z_enumerate ?zg ?zd ?zo ?zs ?zm ?zk ?zp ?zt
  (case aC=>k_is)
  (case y1=>exact L2.ft_in (by k_is) (by k_is) (by k_is) (by k_is))
  (case y2=>exact L2.ft_in (by k_is) (by k_is) (by k_is) (by k_is))
  (case y3=>exact L2.ft_in (by k_is) (by k_is) (by k_is) (by k_is))
  (case y4=>exact L2.ft_in (by k_is) (by k_is) (by k_is) (by k_is))
  (case y5=>exact L2.ft_in (by k_is) (by k_is) (by k_is) (by k_is))
  (case y6=>exact L2.ft_in (by k_is) (by k_is) (by k_is) (by k_is))
  (case y7=>exact L2.ft_in (by k_is) (by k_is) (by k_is) (by k_is))
  (case y8=>exact L2.ft_in (by k_is) (by k_is) (by k_is) (by k_is))
  (case y9=>exact L2.ft_in (by k_is) (by k_is) (by k_is) (by k_is))
  (case y10=>exact L2.ft_in (by k_is) (by k_is) (by k_is) (by k_is))
  (case y11=>exact L2.ft_in (by k_is) (by k_is) (by k_is) (by k_is))
  (case y12=>exact L2.ft_in (by k_is) (by k_is) (by k_is) (by k_is))
  (case y13=>exact L2.ft_in (by k_is) (by k_is) (by k_is) (by k_is))
  (case y14=>exact L2.ft_in (by k_is) (by k_is) (by k_is) (by k_is))
  (case y15=>exact L2.ft_in (by k_is) (by k_is) (by k_is) (by k_is))
  (case y16=>exact L2.ft_in (by k_is) (by k_is) (by k_is) (by k_is))
  (case y17=>exact L2.ft_in (by k_is) (by k_is) (by k_is) (by k_is))
  (case y18=>exact L2.ft_in (by k_is) (by k_is) (by k_is) (by k_is))
  (case y19=>exact L2.ft_in (by k_is) (by k_is) (by k_is) (by k_is))
  (case y20=>exact L2.ft_in (by k_is) (by k_is) (by k_is) (by k_is))
  (case y21=>exact L2.ft_in (by k_is) (by k_is) (by k_is) (by k_is))
  (case y22=>exact L2.ft_in (by k_is) (by k_is) (by k_is) (by k_is))
  (case y23=>exact L2.ft_in (by k_is) (by k_is) (by k_is) (by k_is))
  (case y24=>exact L2.ft_in (by k_is) (by k_is) (by k_is) (by k_is))
  (case y25=>exact L2.ft_in (by k_is) (by k_is) (by k_is) (by k_is))
  (case y26=>exact L2.ft_in (by k_is) (by k_is) (by k_is) (by k_is))
  (case y27=>exact L2.ft_in (by k_is) (by k_is) (by k_is) (by k_is))
  (case y28=>exact L2.ft_in (by k_is) (by k_is) (by k_is) (by k_is))
  (case y29=>exact L2.ft_in (by k_is) (by k_is) (by k_is) (by k_is))
  (case y30=>exact L2.ft_in (by k_is) (by k_is) (by k_is) (by k_is))
  (case y31=>exact L2.ft_in (by k_is) (by k_is) (by k_is) (by k_is))
  (case y32=>exact L2.ft_in (by k_is) (by k_is) (by k_is) (by k_is))
  (case y33=>exact L2.ft_in (by k_is) (by k_is) (by k_is) (by k_is))
  (case y34=>exact L2.ft_in (by k_is) (by k_is) (by k_is) (by k_is))
  (case y35=>exact L2.ft_in (by k_is) (by k_is) (by k_is) (by k_is))
  (case y36=>exact L2.ft_in (by k_is) (by k_is) (by k_is) (by k_is))
  (case y37=>exact L2.fm_in (by k_is) (by k_is) (by k_is) (by k_is) (by k_is))
  (case y38=>exact L2.fm_in (by k_is) (by k_is) (by k_is) (by k_is) (by k_is))
  (case y39=>exact L2.fm_in (by k_is) (by k_is) (by k_is) (by k_is) (by k_is))
  (case y40=>exact L2.fm_in (by k_is) (by k_is) (by k_is) (by k_is) (by k_is))
  (case y41=>exact L2.fm_in (by k_is) (by k_is) (by k_is) (by k_is) (by k_is))
  (case y42=>exact L2.fm_in (by k_is) (by k_is) (by k_is) (by k_is) (by k_is))
  (case s1=>k_is)
  (case s2=>k_is)
  (case s3=>k_is)
  (case s4=>k_is)
  (case s5=>k_is)
  (case s6=>k_is)
  (case s7=>k_is)
  (case s8=>k_is)
  (case g1=>k_is)
  (case g2=>k_is)
  (case g3=>k_is)
  (case g4=>k_is)
  (case g5=>k_is)
  (case g6=>k_is)
  (case g7=>k_is)
  (case z_len=>k_is)
  (case z_list=>k_is)
  (case z_tuple=>k_is)
  (case z_range=>k_is)
  (case z_int=>k_is)
  (case z_isinstance=>k_is)
  (case z_str=>k_is)
  (case z_all=>k_is)
  (case z_max=>k_is)
  (case z_enumerate=>k_is)
  (case zg=>k_is)
  (case zd=>k_is)
  (case zo=>k_is)
  (case zs=>k_is)
  (case zm=>k_is)
  (case zk=>k_is)
  (case zp=>k_is)
  (case zt=>k_is)
