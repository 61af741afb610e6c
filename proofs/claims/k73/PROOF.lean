import PyProof.Rows.All
import Wide.All
import OpenK.AllK
import Wide.FinOn
import Lean
import PyProof.EqAt
import PyProof.EqKinds
import PyProof.TupleCall
import PySem.Challenge.RW_yesorno_k73_understood_refused
set_option Elab.async false
set_option linter.all false
set_option maxRecDepth 100000
namespace L2
open PySem PySem.Spec PyProof.Rows
abbrev Key:=Sum Int Str
def keyIs:Key→Value→Bool
  | .inl k,v=>Value.isInt k v
  | .inr x,v=>Value.isStrOf x v
def keyH (w:World):Key→Int
  | .inl k=>hashInt k
  | .inr x=>hashStr w x
theorem za2:∀ {k:Key} {v:Value},keyIs k v=true→(∃ i t,k=Sum.inl i∧v=Value.int i t)∨(∃ x t,k=Sum.inr x∧v=Value.str x t)
  | .inl i,v,h=>by
    obtain⟨t,e⟩:=Value.isInt_shape (k:=i) (v:=v) h
    exact .inl ⟨i,t,rfl,e⟩
  | .inr x,v,h=>by
    obtain⟨t,e⟩:=Value.isStrOf_shape (x:=x) (v:=v) h
    exact .inr ⟨x,t,rfl,e⟩
theorem key_ll (a b:Int):decide ((Sum.inl a:Key)=Sum.inl b)=(a == b):=by
  by_cases e:a=b
  · subst e;simp
  · have h:¬(Sum.inl a:Key)=Sum.inl b:=fun q=>e (Sum.inl.inj q)
    rw[decide_eq_false h]
    exact(beq_eq_false_iff_ne.mpr e).symm
theorem key_rr (a b:Str):decide ((Sum.inr a:Key)=Sum.inr b)=decide (a=b):=by
  by_cases e:a=b
  · subst e;simp
  · have h:¬(Sum.inr a:Key)=Sum.inr b:=fun q=>e (Sum.inr.inj q)
    rw[decide_eq_false h,decide_eq_false e]
theorem key_lr (a:Int) (b:Str):decide ((Sum.inl a:Key)=Sum.inr b)=false:=decide_eq_false (fun q=>nomatch q)
theorem key_rl (a:Str) (b:Int):decide ((Sum.inr a:Key)=Sum.inl b)=false:=decide_eq_false (fun q=>nomatch q)
def zfB (prog:Program) (w:World):PySem.KeyKind prog w Key where
  is:=keyIs
  hash:=keyH w
  inj:=fun v a b ha hb=>by
    rcases za2 ha with ⟨i,t,rfl,rfl⟩ | ⟨x,t,rfl,rfl⟩
    · rcases za2 hb with ⟨j,u,rfl,e⟩ | ⟨y,u,rfl,e⟩
      · injection e with e1 _;rw[e1]
      · exact nomatch e
    · rcases za2 hb with ⟨j,u,rfl,e⟩ | ⟨y,u,rfl,e⟩
      · exact nomatch e
      · injection e with e1 _;rw[e1]
  byValue:=fun k v h=>by
    rcases za2 h with ⟨i,t,rfl,rfl⟩ | ⟨x,t,rfl,rfl⟩ <;> rfl
  pyHash:=fun hv h=>by
    rcases za2 hv with ⟨i,t,rfl,rfl⟩ | ⟨x,t,rfl,rfl⟩
    · exact wpAny_pyHash_int h
    · exact wpAny_pyHash_str h
  eqBool:=fun hu hv h=>by
    rcases za2 hu with ⟨i,t,rfl,rfl⟩ | ⟨x,t,rfl,rfl⟩
    · rcases za2 hv with ⟨j,u,rfl,rfl⟩ | ⟨y,u,rfl,rfl⟩
      · rw[key_ll]at h;exact wpAny_eqBool_int h
      · rw[key_lr]at h;exact SeqAt.EqAt.int_str i t y u _ _ _ _ h
    · rcases za2 hv with ⟨j,u,rfl,rfl⟩ | ⟨y,u,rfl,rfl⟩
      · rw[key_rl]at h;exact SeqAt.EqAt.str_int x t j u _ _ _ _ h
      · rw[key_rr]at h;exact wpAny_eqBool_str h
  «strs»:=fun k x t v h=>by
    rcases za2 h with ⟨i,u,rfl,e⟩ | ⟨y,u,rfl,e⟩
    · exact nomatch e
    · injection e with e1 _
      subst e1
      cases v <;> rfl
end L2
namespace L2
open PySem PySem.Spec PyProof.Rows
inductive V where
  | non | bl (b:Bool) | int (i:Int) | str (x:Str) | byt (b:Array UInt8) | flt (b:UInt64) | ref (a:Addr) | ty (n:String)
  deriving DecidableEq
def ar:V→Value→Prop
  | .non,u=>u=Value.none
  | .bl b,u=>u=Value.bool b
  | .int i,u=>∃ t,u=Value.int i t
  | .str x,u=>∃ t,u=Value.str x t
  | .byt b,u=>∃ t,u=Value.bytes b t
  | .flt b,u=>∃ t,u=Value.float b t
  | .ref a,u=>u=Value.ref a
  | .ty n,u=>u=Value.type n
abbrev ap:List V→List Value→Prop:=Paired ar
theorem ap.length {xs:List V} {us:List Value} (r:ap xs us):xs.length=us.length:=Paired.length r
theorem ap.get:∀ {xs:List V} {us:List Value} {i:Nat} {x:V},ap xs us→xs[i]?=some x→∃ u,us[i]?=some u∧ar x u
  | _,_,_,_,.nil,e=>by simp at e
  | _,_,0,_,.cons r _,e=>by simp at e;subst e;exact⟨_,rfl,r⟩
  | _,_,i+1,x,.cons _ t,e=>by
    obtain⟨u,h1,h2⟩:=ap.get (i:=i) (x:=x) t (by simpa using e)
    exact⟨u,by simpa using h1,h2⟩
theorem ap.set {x:V} {u:Value} (r:ar x u):∀ {xs:List V} {us:List Value} (i:Nat),ap xs us→ap (xs.set i x) (us.set i u)
  | _,_,_,.nil=>.nil
  | _,_,0,.cons _ t=>.cons r t
  | _,_,i+1,.cons q t=>.cons q (ap.set r i t)
theorem ap.append:∀ {xs ys:List V} {us ws:List Value},ap xs us→ap ys ws→ap (xs++ys) (us++ws)
  | _,_,_,_,.nil,s=>s
  | _,_,_,_,.cons r t,s=>.cons r (ap.append t s)
theorem ap.take:∀ {xs:List V} {us:List Value} (n:Nat),ap xs us→ap (xs.take n) (us.take n)
  | _,_,0,_=>.nil
  | _,_,_+1,.nil=>.nil
  | _,_,n+1,.cons r t=>.cons r (ap.take n t)
theorem ap.drop:∀ {xs:List V} {us:List Value} (n:Nat),ap xs us→ap (xs.drop n) (us.drop n)
  | _,_,0,r=>r
  | _,_,_+1,.nil=>.nil
  | _,_,n+1,.cons _ t=>ap.drop n t
def zdb:Option V→Option Value→Prop
  | some v,some u=>ar v u
  | none,none=>True
  | _,_=>False
def KV {κ:Type}:List (κ × V)→List (κ × Value)→Prop:=Paired fun(p:κ × V) (q:κ × Value)=>p.1=q.1∧ar p.2 q.2
def kV:Key→V
  | .inl i=>.int i
  | .inr x=>.str x
inductive HO where
    | lst (xs:List V)
    | tup (xs:List V)
    | dK (kvs:List (Key × V)) | dT (kvs:List (List Key × V))
    | set (S:Int→Bool) (n:Nat)
    | ins (C dx:Addr) (fs:List (Str × V))
    | own (x:Addr)
    | xd (fs:List (Str × V))
    | met (f x:Addr)
    | rng (lo hi:Int)
    | frz (o:Obj) (u:HO)
    | tbl (ps:Array Value)
    | ext (φ:Heap→Prop)
abbrev Hp:=Addr→Option HO
def upd (H:Hp) (a:Addr) (o:HO):Hp:=fun b=>if b=a then some o else H b
theorem zaa {H:Hp} {a:Addr} {o:HO}:upd H a o a=some o:=by unfold upd;rw[if_pos rfl]
theorem zag {H:Hp} {a b:Addr} {o:HO} (h:b≠a):upd H a o b=H b:=by unfold upd;rw[if_neg h]
theorem zko {H:Hp} {a:Addr} {o u:HO}:upd (upd H a o) a u=upd H a u:=by
  funext b;unfold upd;split <;> rfl
theorem ne_of {H:Hp} {a b:Addr} {o u:HO} (h:H a=some o) (h':H b=some u) (d:o≠u):a≠b:=by
  intro e;subst e;rw[h]at h';exact d (Option.some.inj h')
theorem zaF {H:Hp} {a b:Addr} {o:HO} (h:H a=some o) (h':H b=none):a≠b:=by
  intro e;subst e;rw[h]at h';cases h'
def zdc (h:Heap) (a:Addr) (items:Array Value):Prop:=∃ o,h.get? a=some o∧(o.cls,o.dict)=(Value.type "tuple",none)∧∃ n,o.data=.seq items n
theorem zdc.up {h:Heap} {a:Addr} {items:Array Value} (x:zdc h a items):IsTup h a items:=let ⟨o,e,c,d⟩:=x;⟨o,e,(Prod.mk.inj c).1,d⟩
theorem zdc.lt {h:Heap} {a:Addr} {items:Array Value} (x:zdc h a items):a < h.objs.size:=x.up.lt
theorem zdc.new (h:Heap) (items:Array Value):zdc (h.push { cls:=.type "tuple",data:=.seq items }) h.objs.size items:=⟨_,Heap.get?_push_size _ rfl,rfl,_,rfl⟩
section
variable (P:Program) (w:World)
def zba (H:Hp) (h:Heap) (a:Addr):HO→Prop
  | .lst xs=>xs.length≤sizeLine∧∃(its:List Value) (n:Nat),ap xs its∧h.get? a=some { cls:=.type "list",data:=.seq its.toArray n }
  | .tup xs=>xs.length≤sizeLine∧∃ its:List Value,ap xs its∧zdc h a its.toArray
  | .dK kvs=>kvs.length≤sizeLine∧(a == sysModules)=false∧∃ vs,KV kvs vs∧h.DictOf (zfB P w) a vs
  | .dT kvs=>kvs.length≤sizeLine∧(a == sysModules)=false∧∃ xs:List (List Key × Addr × Value),
      Paired (fun(p:List Key × V) (q:List Key × Addr × Value)=>p.1=q.1∧H q.2.1=some (.tup (p.1.map kV))∧ar p.2 q.2.2) kvs xs ∧
      ∃ o es ep,h.get? a=some o∧o.ExactDict∧o.data=.dict es ep∧es.toList=xs.map (entryOfKey (tupleKind (zfB P w)))∧(xs.map (·.1)).Nodup
  | .set S n=>h.SetOf (intKind P w) a S n
  | .ins C dx fs=>H dx=some (.own a)∧fs.length≤1000∧dx≠a∧h.get? a=some (PySem.W.instObj C dx) ∧
      ∃ mA,h.Ns1 dx mA∧(∀ f,zdb (fs.lookup f) (mA f))∧PySem.Within mA (fs.map (·.1))
  | .own _=>∃ o,h.get? a=some o
  | .xd fs=>∃ mA,h.Ns1 a mA∧∀ f,zdb (fs.lookup f) (mA f)
  | .rng lo hi=>∃ t u v,h.get? a=some { cls:=.type "range",data:=.fields #[.int lo t,.int hi u,.int 1 v] }
  | .frz o u=>h.get? a=some o∧zba H h a u
  | .tbl ps=>h.get? a=some { cls:=.none,data:=.fields ps }
  | .met f x=>h.get? a=some (PySem.W.methodObj (.ref f) (.ref x))
  | .ext φ=>φ h∧(∃ o,h.get? a=some o)∧∀ h1 h2:Heap,φ h1→(∀ o,h1.get? a=some o→h2.get? a=some o)→φ h2
def HOk (H:Hp) (h:Heap):Prop:=∀ a o,H a=some o→zba P w H h a o
end
section
variable {P:Program} {w:World} {H H':Hp} {h h':Heap} {a:Addr} {o:HO}
theorem zba.lt (x:zba P w H h a o):a < h.objs.size:=by
  cases o with
  | lst xs=>obtain⟨_,_,_,_,e⟩:=x;exact Heap.lt_size e
  | tup xs=>obtain⟨_,_,_,p⟩:=x;exact p.lt
  | dK kvs=>obtain⟨_,_,_,_,o,_,_,e,_⟩:=x;exact Heap.lt_size e
  | dT kvs=>obtain⟨_,_,_,_,o,_,_,e,_⟩:=x;exact Heap.lt_size e
  | set S n=>obtain⟨o,_,_,_,e,_⟩:=x;exact Heap.lt_size e
  | ins C dx fs=>obtain⟨_,_,_,e,_⟩:=x;exact Heap.lt_size e
  | own y=>obtain⟨_,e⟩:=x;exact Heap.lt_size e
  | xd fs=>obtain⟨_,⟨_,_,_,e,_⟩,_⟩:=x;exact Heap.lt_size e
  | rng lo hi=>obtain⟨_,_,_,e⟩:=x;exact Heap.lt_size e
  | frz ob u=>obtain⟨e,_⟩:=x;exact Heap.lt_size e
  | tbl ps=>exact Heap.lt_size (show h.get? a=some _ from x)
  | met f y=>exact Heap.lt_size (show h.get? a=some _ from x)
  | ext φ=>obtain⟨_,⟨_,e⟩,_⟩:=x;exact Heap.lt_size e
theorem Paired.mapP {α β:Type} {F G:α→β→Prop}:∀ {l₁:List α} {l₂:List β},Paired F l₁ l₂→(∀ a b,F a b→G a b)→Paired G l₁ l₂
  | _,_,.nil,_=>.nil
  | _,_,.cons r t,f=>.cons (f _ _ r) (Paired.mapP t f)
theorem zba.stay (x:zba P w H h a o) (k:∀ b u,(b=a∨H b=some (.own a))→h.get? b=some u→h'.get? b=some u)
    (ho:∀ b,H b=some (.own a)→H' b=some (.own a)) (ht:∀ b xs,H b=some (.tup xs)→H' b=some (.tup xs)):zba P w H' h' a o:=by
  induction o with
  | lst xs=>obtain⟨z,its,n,r,e⟩:=x;exact⟨z,its,n,r,k _ _ (.inl rfl) e⟩
  | tup xs=>obtain⟨z,its,r,ob,e,c⟩:=x;exact⟨z,its,r,ob,k _ _ (.inl rfl) e,c⟩
  | dK kvs=>obtain⟨z,y,vs,r,ob,es,ep,e,c⟩:=x;exact⟨z,y,vs,r,ob,es,ep,k _ _ (.inl rfl) e,c⟩
  | dT kvs =>
    obtain⟨z,y,xs,r,ob,es,ep,e,c⟩:=x
    exact⟨z,y,xs,Paired.mapP r fun p q z=>⟨z.1,ht _ _ z.2.1,z.2.2⟩,ob,es,ep,k _ _ (.inl rfl) e,c⟩
  | set S n=>obtain⟨ob,es,ep,t,e,c⟩:=x;exact⟨ob,es,ep,t,k _ _ (.inl rfl) e,c⟩
  | ins C dx fs =>
    obtain⟨d,z,ne,e,mA,⟨od,es,ep,e2,c⟩,r⟩:=x
    exact⟨ho _ d,z,ne,k _ _ (.inl rfl) e,mA,⟨od,es,ep,k _ _ (.inr d) e2,c⟩,r⟩
  | own y=>obtain⟨ob,e⟩:=x;exact⟨ob,k _ _ (.inl rfl) e⟩
  | xd fs=>obtain⟨mA,⟨od,es,ep,e,c⟩,r⟩:=x;exact⟨mA,⟨od,es,ep,k _ _ (.inl rfl) e,c⟩,r⟩
  | rng lo hi=>obtain⟨t,u,v,e⟩:=x;exact⟨t,u,v,k _ _ (.inl rfl) e⟩
  | frz ob u ih=>obtain⟨e,q⟩:=x;exact⟨k _ _ (.inl rfl) e,ih q⟩
  | tbl ps =>
    have e:h.get? a=some { cls:=.none,data:=.fields ps }:=x
    show h'.get? a=some { cls:=.none,data:=.fields ps }
    exact k a _ (.inl rfl) e
  | met f y =>
    have e:h.get? a=some (PySem.W.methodObj (.ref f) (.ref y)):=x
    show h'.get? a=some (PySem.W.methodObj (.ref f) (.ref y))
    exact k a _ (.inl rfl) e
  | ext φ=>obtain⟨p,⟨o,e⟩,st⟩:=x;exact⟨st _ _ p fun o q=>k _ _ (.inl rfl) q,⟨o,k _ _ (.inl rfl) e⟩,st⟩
theorem HOk.lt (x:HOk P w H h) (e:H a=some o):a < h.objs.size:=(x a o e).lt
theorem HOk.fresh (x:HOk P w H h) (e:h.objs.size≤a):H a=none:=by
  cases q:H a with
  | none=>rfl
  | some u=>exact absurd (Nat.lt_of_lt_of_le (x.lt q) e) (Nat.lt_irrefl _)
theorem HOk.kept (x:HOk P w H h) (k:∀ b u,h.get? b=some u→h'.get? b=some u):HOk P w H h':=fun a o e =>
  (x a o e).stay (fun b u _ q=>k b u q) (fun _ q=>q) fun _ _ q=>q
theorem HOk.laid (x:HOk P w H h) (k:∀ b u,h.get? b=some u→h'.get? b=some u) (hp:h.objs.size≤a) (new:zba P w (upd H a o) h' a o):HOk P w (upd H a o) h':=fun b u e=>by
  have hn:=x.fresh hp
  by_cases hb:b=a
  · subst hb;rw[zaa]at e;cases e;exact new
  · rw[zag hb]at e
    exact(x b u e).stay (fun c v _ q=>k c v q) (fun c q=>by rw[zag (zaF q hn)];exact q) fun c xs q=>by rw[zag (zaF q hn)];exact q
end
def Rd (H:Hp) (a:Addr) (u:HO):Prop:=H a=some u∨∃ o,H a=some (.frz o u)
theorem Rd.ok {P:Program} {w:World} {H:Hp} {h:Heap} {a:Addr} {u:HO} (r:Rd H a u) (x:HOk P w H h):zba P w H h a u:=by
  rcases r with r | ⟨o,r⟩
  · exact x a u r
  · obtain⟨_,q⟩:=x a _ r
    exact q
def Mut:Option HO→Prop
  | some (.lst _)=>True
  | some (.dK _)=>True
  | some (.dT _)=>True
  | some (.set _ _)=>True
  | some (.ins _ _ _)=>True
  | some (.ext _)=>True
  | _=>False
section
variable {P:Program} {w:World} {H:Hp} {h h':Heap} {x e:Addr} {o':HO}
theorem HOk.write (ok:HOk P w H h) (mu:Mut (H x)) (he:e=x∨H e=some (.own x)) (k:∀ b u,b≠e→h.get? b=some u→h'.get? b=some u) (heo:∃ u,h'.get? e=some u)
    (new:zba P w (upd H x o') h' x o'):HOk P w (upd H x o') h':=fun b u q=>by
  have nown:∀ c y,H c=some (.own y)→c≠x:=fun c y r z=>by subst z;rw[r]at mu;exact mu
  have ntup:∀ c xs,H c=some (.tup xs)→c≠x:=fun c xs r z=>by subst z;rw[r]at mu;exact mu
  by_cases hb:b=x
  · subst hb;rw[zaa]at q;cases q;exact new
  · rw[zag hb]at q
    by_cases hbe:b=e
    · have q':H b=some (.own x):=by
        rcases he with z | z
        · exact absurd (hbe.trans z) hb
        · rw[hbe];exact z
      rw[q]at q';cases q'
      obtain⟨v,hv⟩:=heo
      exact⟨v,by rw[hbe];exact hv⟩
    · refine(ok b u q).stay (fun c v hc r=>k c v ?_ r) (fun c r=>by rw[zag (nown c b r)];exact r) fun c xs r=>by rw[zag (ntup c xs r)];exact r
      rcases hc with rfl | hc
      · exact hbe
      · rintro rfl
        rcases he with z | z
        · exact nown c b hc z
        · rw[hc]at z;cases z;exact hb rfl
end
structure Un (fs ex:List Addr) (H H':Hp) (h h':Heap):Prop where
  keep:∀ b o,h.get? b=some o→H b=none→b∉fs→b∉ex→h'.get? b=some o
  slot:∀ b o,h.get? b=some o→H b=none→b∈fs→b∉ex→∃ sl,h'.get? b=some { o with slots:=sl }
  free:∀ b o,h.get? b=some o→H b=none→b∉ex→H' b=none
  there:∀ b o,h.get? b=some o→b∉ex→∃ o',h'.get? b=some o'
  tups:∀ b xs,H b=some (.tup xs)→H' b=some (.tup xs)
  frzs:∀ b o u,H b=some (.frz o u)→H' b=some (.frz o u)
  tbls:∀ b ps,H b=some (.tbl ps)→∃ more,H' b=some (.tbl (ps++more))
section
variable {fs fs' ex ex':List Addr} {H H1 H2:Hp} {h h1 h2 h':Heap} {a x e:Addr} {o:HO}
theorem Un.any (u:Un fs ex H H1 h h1) {b:Addr} {ob:Obj} (q:h.get? b=some ob) (n:H b=none) (hx:b∉ex):∃ sl,h1.get? b=some { ob with slots:=sl }:=by
  by_cases hb:b∈fs
  · exact u.slot b ob q n hb hx
  · exact⟨ob.slots,u.keep b ob q n hb hx⟩
theorem Un.trans (a:Un fs ex H H1 h h1) (b:Un fs ex H1 H2 h1 h2):Un fs ex H H2 h h2 where
  keep:=fun c ob q n hc hx=>b.keep c ob (a.keep c ob q n hc hx) (a.free c ob q n hx) hc hx
  slot:=fun c ob q n hc hx=>by
    obtain⟨sl,e1⟩:=a.slot c ob q n hc hx
    obtain⟨sl',e2⟩:=b.slot c _ e1 (a.free c ob q n hx) hc hx
    exact⟨sl',e2⟩
  free:=fun c ob q n hx=>by
    obtain⟨o',e1⟩:=a.there c ob q hx
    exact b.free c o' e1 (a.free c ob q n hx) hx
  there:=fun c ob q hx=>by
    obtain⟨o',e1⟩:=a.there c ob q hx
    exact b.there c o' e1 hx
  tups:=fun c xs q=>b.tups c xs (a.tups c xs q)
  frzs:=fun c ob xs q=>b.frzs c ob xs (a.frzs c ob xs q)
  tbls:=fun c ps q=>by
    obtain⟨m1,e1⟩:=a.tbls c ps q
    obtain⟨m2,e2⟩:=b.tbls c _ e1
    exact⟨m1++m2,by rw[e2,Array.append_assoc]⟩
theorem Un.kept (k:∀ b u,h.get? b=some u→h'.get? b=some u):Un fs ex H H h h' :=
  ⟨fun b ob q _ _ _=>k b ob q,fun b ob q _ _ _=>⟨ob.slots,k b ob q⟩,fun _ _ _ n _=>n,fun b ob q _=>⟨ob,k b ob q⟩,fun _ _ q=>q,fun _ _ _ q=>q,fun _ ps q=>⟨#[],by rw[q];simp⟩⟩
theorem Un.refl:Un fs ex H H h h:=Un.kept fun _ _ q=>q
theorem Un.laid (k:∀ b u,h.get? b=some u→h'.get? b=some u) (hp:h.objs.size≤a) (hn:H a=none):Un fs ex H (upd H a o) h h' where
  keep:=fun b u q _ _ _=>k b u q
  slot:=fun b u q _ _ _=>⟨u.slots,k b u q⟩
  free:=fun b u q n _=>by rw[zag (Nat.ne_of_lt (Nat.lt_of_lt_of_le (Heap.lt_size q) hp))];exact n
  there:=fun b u q _=>⟨u,k b u q⟩
  tups:=fun b xs q=>by rw[zag (zaF q hn)];exact q
  frzs:=fun b u xs q=>by rw[zag (zaF q hn)];exact q
  tbls:=fun b ps q=>⟨#[],by rw[zag (zaF q hn),q];simp⟩
theorem Un.write (mu:Mut (H x)) (he:e=x∨H e=some (.own x)) (k:∀ b u,b≠e→h.get? b=some u→h'.get? b=some u) (heo:∃ u,h'.get? e=some u):Un fs ex H (upd H x o) h h':=by
  have hx:∀ b,H b=none→b≠x:=fun b n z=>by subst z;rw[n]at mu;exact mu
  have hb:∀ b,H b=none→b≠e:=fun b n z=>by
    subst z
    rcases he with r | r
    · exact hx b n r
    · rw[n]at r;cases r
  have hm:∀ b u,H b=some u→¬Mut (some u)→b≠x:=fun b u q nm z=>by subst z;rw[q]at mu;exact nm mu
  refine⟨fun b u q n _ _=>k b u (hb b n) q,fun b u q n _ _=>⟨u.slots,k b u (hb b n) q⟩,fun b u q n _=>by rw[zag (hx b n)];exact n,fun b u q _=>?_,
    fun b xs q=>by rw[zag (hm b _ q fun z=>z)];exact q,fun b u xs q=>by rw[zag (hm b _ q fun z=>z)];exact q,fun b ps q=>⟨#[],by rw[zag (hm b _ q fun z=>z),q];simp⟩⟩
  by_cases hbe:b=e
  · subst hbe;exact heo
  · exact⟨u,k b u hbe q⟩
end
def trk (h:Heap) (H:Hp):List Addr:=(List.range h.objs.size).filter fun a=>(H a).isSome
def zdC (h:Heap) (H:Hp):Heap:=PySem.W.hideAll h (trk h H)
theorem zjy (h:Heap) (H:Hp):(zdC h H).objs.size=h.objs.size:=PySem.W.hideAll_size _ _
theorem zkc {h:Heap} {H:Hp} {b:Addr} {o:Obj} (e:h.get? b=some o) (n:H b=none):(zdC h H).get? b=some o :=
  PySem.W.hideAll_get _ e fun hm=>by
    have q:(H b).isSome=true:=(List.mem_filter.mp hm).2
    rw[n]at q;simp at q
theorem zkO {h:Heap} {H:Hp} {b:Addr} {o:Obj} (e:(zdC h H).get? b=some o):h.get? b=some o∧H b=none:=by
  have e':h.get? b=some o:=PySem.W.of_hideAll (trk h H) e
  refine⟨e',?_⟩
  cases q:H b with
  | none=>rfl
  | some x =>
    have hm:b∈trk h H:=List.mem_filter.mpr ⟨List.mem_range.mpr (Heap.lt_size e'),by simp [q]⟩
    have z:(zdC h H).get? b=none:=PySem.W.hideAll_none (trk h H) hm
    rw[z]at e;cases e
def zk9 (g h:Heap) (L:Addr):List (Addr × Obj):=(List.range h.objs.size).filterMap fun a=>if a=L∨(g.get? a).isSome=true then none else(h.get? a).map fun o=>(a,o)
def zaH (g h:Heap) (L d:Addr):List (Addr × Obj):=(zk9 g h L).filter fun p=>decide (p.1≠d)
end L2
namespace L2
open PySem PySem.Spec PyProof.Rows
structure Mod (K:PySem.W.Frag) (mg:Str→Option Value) (base:Heap):Prop where
  kin:K.In base
  glob:base.Ns mainGlobals mg
  blt:∃ mb,base.Ns builtinsNs mb∧∀ x:Str,x≠"__name__"→mb x=bootBuiltins x
  nolimit:base.NoLimit
structure Cx where
  prog:Program
  w:World
  K:PySem.W.Frag
  mg:Str→Option Value
  base:Heap
  A:Around
  N:List Str
  s₀:Shared
  H₀:Hp
  env:Env
  outer:List Env
  stack:List Env
  ex:List Addr
  fn:Str→Bool
  calm:Bool
  pn:List (Addr × Obj)
  xe:Value→Shared→Prop
  ext:List (Str × Value):=[]
def frs (l:List Env):List Addr:=l.filterMap (·.frame)
abbrev Cx.fs (X:Cx):List Addr:=frs X.outer
def Vis (sc:Scope) (x:Str):Prop:=sc.names.lookup x=some .local∨sc.names.lookup x=some .cell∨sc.names.lookup x=some .free
def Loc (sc:Scope) (x:Str):Prop:=sc.names.lookup x=some .local∨sc.names.lookup x=some .cell
def Look (env:Env) (h:Heap) (m:Str→Option Value) (x:Str) (u:Value):Prop :=
  (env.kindOf x=some .local∧m x=some u)∨((env.kindOf x=some .cell∨env.kindOf x=some .free)∧∃ c,env.cells.lookup x=some c∧h.IsCell c (some u))
structure Cx.Ok (X:Cx):Prop where
  mod:Mod X.K X.mg X.base
  kind:X.env.scope.kind=.function
  glob:X.env.globals=mainGlobals
  blt:X.env.builtins=builtinsNs
  above:X.s₀.heap.objs.size≤X.env.locals
  inj:∀ x y c,X.env.cells.lookup x=some c→X.env.cells.lookup y=some c→x=y
  has:∀ x,(X.env.kindOf x=some .cell∨X.env.kindOf x=some .free)→∃ c,X.env.cells.lookup x=some c
  cab:∀ x c,X.fn x=true→X.env.cells.lookup x=some c→X.s₀.heap.objs.size≤c
  hd:X.calm=true→X.A.handled=none
  frames:X.A.frames=some X.stack
  stk:X.stack=X.outer∨(X.stack=X.env :: X.outer∧X.env.frame=some X.env.locals)
  exf:∀ b∈X.ex,b≠X.env.locals∧∀ x c,X.env.cells.lookup x=some c→c≠b
  bs:∀ b o,X.base.get? b=some o→X.s₀.heap.get? b=some o∧X.H₀ b=none
  bsz:X.base.objs.size≤X.s₀.heap.objs.size
  noex:∀ b o,X.base.get? b=some o→b∉X.ex
  exfs:∀ b∈X.ex,b∉X.fs
  funs:X.s₀.heap.FunFrames X.base X.outer
  frf:∀ b∈X.fs,X.H₀ b=none
structure Inv (X:Cx) (pins:List (Addr × Obj)) (σ:List (Option V)) (H:Hp) (s:Shared):Prop where
  ok:X.Ok
  os:s.os=X.s₀.os
  bare:AllBare s.gens
  base:Un X.fs X.ex X.H₀ H X.s₀.heap s.heap
  loc:∃ m,s.heap.Ns X.env.locals m∧∀(i:Nat) (x:Str) (v:V),X.N[i]?=some x→σ[i]?=some (some v)→Vis X.env.scope x→∃ u,ar v u∧Look X.env s.heap m x u
  cell:∀ x c,X.env.cells.lookup x=some c→∃ v,s.heap.IsCell c v
  free:H X.env.locals=none
  freeC:∀ x c,X.env.cells.lookup x=some c→H c=none
  pin:∀ p∈X.pn++pins,s.heap.get? p.1=some p.2∧H p.1=none∧p.1≠X.env.locals∧p.1∉X.fs∧∀ v,p.2.data≠.cell v
  hok:HOk X.prog X.w H s.heap
  len:σ.length=X.N.length
  ext:∃ m,s.heap.Ns X.env.locals m∧∀ p∈X.ext,p.1∉X.N∧Look X.env s.heap m p.1 p.2
theorem ns_inj {h:Heap} {a:Addr} {m m':Str→Option Value} (x:h.Ns a m) (y:h.Ns a m'):m=m':=by
  obtain⟨o,es,ep,e,d,_,r⟩:=x
  obtain⟨o',es',ep',e',d',_,r'⟩:=y
  rw[e]at e';cases e'
  rw[d]at d';cases d'
  funext n
  rw[←r n,←r' n]
theorem zdy {P:Str × Value→Prop}:∀ p∈([]:List (Str × Value)),P p:=fun _ h=>nomatch h
section
variable {X:Cx} {pins:List (Addr × Obj)} {σ:List (Option V)} {H H':Hp} {s:Shared} {h':Heap}
theorem Cx.Ok.nofr (ok:X.Ok) {b:Addr} {o:Obj} (e:X.base.get? b=some o):b∉X.fs:=fun hb=>by
  have:=(ok.funs.mem hb).1
  rw[e]at this;cases this
theorem Inv.bs (I:Inv X pins σ H s):∀ b o,X.base.get? b=some o→s.heap.get? b=some o∧H b=none:=fun b o e =>
  ⟨I.base.keep b o (I.ok.bs b o e).1 (I.ok.bs b o e).2 (I.ok.nofr e) (I.ok.noex b o e),I.base.free b o (I.ok.bs b o e).1 (I.ok.bs b o e).2 (I.ok.noex b o e)⟩
theorem Inv.bk (I:Inv X pins σ H s):∀ b o,X.base.get? b=some o→s.heap.get? b=some o:=fun b o e=>(I.bs b o e).1
theorem Inv.mod (I:Inv X pins σ H s):Mod X.K X.mg X.base:=I.ok.mod
theorem Inv.kIn (I:Inv X pins σ H s):X.K.In s.heap:=I.ok.mod.kin.keeps I.bk
theorem Inv.fr (I:Inv X pins σ H s):∃ m,Fr X.base X.env.locals s.heap m :=
  let ⟨m,hn,_⟩:=I.loc
  ⟨m,hn,I.bk,Nat.le_trans I.ok.bsz I.ok.above⟩
theorem Inv.lt (I:Inv X pins σ H s):X.env.locals < s.heap.objs.size:=let ⟨_,hn,_⟩:=I.loc;hn.lt
theorem Inv.sz (I:Inv X pins σ H s):X.s₀.heap.objs.size≤s.heap.objs.size:=Nat.le_trans I.ok.above (Nat.le_of_lt I.lt)
theorem Inv.nofs (I:Inv X pins σ H s) {a:Addr} (h:s.heap.objs.size≤a):a∉X.fs:=fun hb=>by
  obtain⟨_,o,ho,_⟩:=I.ok.funs.mem hb
  exact absurd (Nat.lt_of_lt_of_le (Heap.lt_size ho) (Nat.le_trans I.sz h)) (Nat.lt_irrefl _)
theorem Inv.cne (I:Inv X pins σ H s):∀ x c,X.env.cells.lookup x=some c→c≠X.env.locals:=fun x c e z=>by
  obtain⟨v,o,ho,hd⟩:=I.cell x c e
  obtain⟨m,⟨o',es,ep,ho',hd',_⟩,_⟩:=I.loc
  rw[z,ho']at ho;cases ho;rw[hd']at hd;cases hd
theorem Inv.funs (I:Inv X pins σ H s):s.heap.FunFrames X.base X.outer:=by
  have all:∀(l:List Env),(∀ b∈frs l,b∈X.fs)→X.s₀.heap.FunFrames X.base l→s.heap.FunFrames X.base l:=by
    intro l
    induction l with
    | nil=>intro _ _;trivial
    | cons env r ih =>
      intro hs hl
      obtain⟨hk,⟨L,o,hf,hn,ho,hd⟩,hr⟩:=hl
      have hL:L∈X.fs:=hs L (by unfold frs;rw[List.filterMap_cons,hf];exact List.mem_cons_self)
      obtain⟨sl,e⟩:=I.base.slot L o ho (I.ok.frf L hL) hL fun z=>I.ok.exfs L z hL
      exact⟨hk,⟨L,_,hf,hn,e,hd⟩,ih (fun b hb=>hs b (by unfold frs;rw[List.filterMap_cons,hf];exact List.mem_cons_of_mem _ hb)) hr⟩
  exact all X.outer (fun _ hb=>hb) I.ok.funs
theorem Inv.stack (I:Inv X pins σ H s):s.heap.FunFrames X.base X.stack:=by
  rcases I.ok.stk with e | ⟨e,hf⟩
  · rw[e];exact I.funs
  · rw[e]
    obtain⟨m,hn,_⟩:=I.loc
    refine .cons (by rw[I.ok.kind];decide) hf hn ?_ I.funs
    exact Heap.get?_none_of_le (Nat.le_trans I.ok.bsz I.ok.above)
theorem Inv.stkSub (I:Inv X pins σ H s):∀ b∈frs X.stack,b∈X.env.locals :: X.fs:=fun b hb=>by
  rcases I.ok.stk with e | ⟨e,hf⟩
  · rw[e]at hb;exact List.mem_cons_of_mem _ hb
  · rw[e]at hb
    unfold frs at hb
    rw[List.filterMap_cons,hf]at hb
    exact hb
theorem Inv.stkFree (I:Inv X pins σ H s):∀ b∈frs X.stack,H b=none:=fun b hb=>by
  rcases List.mem_cons.mp (I.stkSub b hb) with e | hb
  · rw[e];exact I.free
  · obtain⟨_,o,ho,_⟩:=I.ok.funs.mem hb
    exact I.base.free b o ho (I.ok.frf b hb) fun z=>I.ok.exfs b z hb
theorem Inv.step {g':Array GenState} {t':Nat} {d':Drawn} {ch:List Addr} (I:Inv X pins σ H s)
    (hch:∀ b∈ch,(b∈X.ex∨X.s₀.heap.objs.size≤b)∧b≠X.env.locals∧(∀ x c,X.env.cells.lookup x=some c→c≠b)∧∀ p∈X.pn++pins,p.1≠b)
    (keep:∀ b o,b≠X.env.locals→b∉X.fs→b∉ch→s.heap.get? b=some o→H b=none→h'.get? b=some o)
    (slot:∀ b o,b≠X.env.locals→b∈X.fs→b∉ch→s.heap.get? b=some o→H b=none→∃ sl,h'.get? b=some { o with slots:=sl }) (free:∀ b o,b∉ch→s.heap.get? b=some o→H b=none→H' b=none)
    (there:∀ b o,b∉ch→s.heap.get? b=some o→∃ o',h'.get? b=some o')
    (tups:∀ b xs,H b=some (.tup xs)→H' b=some (.tup xs)) (frzs:∀ b o u,H b=some (.frz o u)→H' b=some (.frz o u)) (tbls:∀ b ps,H b=some (.tbl ps)→∃ more,H' b=some (.tbl (ps++more)))
    (ns:∀ m,s.heap.Ns X.env.locals m→h'.Ns X.env.locals m) (hok:HOk X.prog X.w H' h') (hg:AllBare g') :
    Inv X pins σ H' { s with heap:=h',gens:=g',drawn:=d',toks:=t' }:=by
  have neL:∀ b o,X.s₀.heap.get? b=some o→b≠X.env.locals:=fun b o e=>Nat.ne_of_lt (Nat.lt_of_lt_of_le (Heap.lt_size e) I.ok.above)
  have neC:∀ b o,X.s₀.heap.get? b=some o→b∉X.ex→b∉ch:=fun b o e hx hb=>by
    rcases(hch b hb).1 with z | z
    · exact hx z
    · exact absurd (Nat.lt_of_lt_of_le (Heap.lt_size e) z) (Nat.lt_irrefl _)
  have cellK:∀ x c,X.env.cells.lookup x=some c→∀ v,s.heap.IsCell c v→h'.IsCell c v:=fun x c e v ⟨o,ho,hd⟩=>by
    have nch:c∉ch:=fun z=>(hch c z).2.2.1 x c e rfl
    by_cases hc:c∈X.fs
    · obtain⟨sl,q⟩:=slot c o (I.cne x c e) hc nch ho (I.freeC x c e)
      exact⟨_,q,hd⟩
    · exact⟨o,keep c o (I.cne x c e) hc nch ho (I.freeC x c e),hd⟩
  refine⟨I.ok,I.os,hg,⟨fun b o e n hb hx=>?_,fun b o e n hb hx=>?_,fun b o e n hx=>?_,fun b o e hx=>?_,fun b xs e=>tups b xs (I.base.tups b xs e),fun b o xs e=>frzs b o xs (I.base.frzs b o xs e),fun b ps e=>?_⟩,?_,fun x c e=>?_,?_,fun x c e=>?_,fun p hp=>?_,hok,I.len,?_⟩
  · exact keep b o (neL b o e) hb (neC b o e hx) (I.base.keep b o e n hb hx) (I.base.free b o e n hx)
  · obtain⟨sl,e1⟩:=I.base.slot b o e n hb hx
    obtain⟨sl',e2⟩:=slot b _ (neL b o e) hb (neC b o e hx) e1 (I.base.free b o e n hx)
    exact⟨sl',e2⟩
  · obtain⟨o',e1⟩:=I.base.there b o e hx
    exact free b o' (neC b o e hx) e1 (I.base.free b o e n hx)
  · obtain⟨o',e1⟩:=I.base.there b o e hx
    exact there b o' (neC b o e hx) e1
  · obtain⟨m1,e1⟩:=I.base.tbls b ps e
    obtain⟨m2,e2⟩:=tbls b _ e1
    exact⟨m1++m2,by rw[e2,Array.append_assoc]⟩
  · obtain⟨m,hn,hl⟩:=I.loc
    refine⟨m,ns m hn,fun i x v e1 e2 e3=>?_⟩
    obtain⟨u,r,l⟩:=hl i x v e1 e2 e3
    refine⟨u,r,?_⟩
    rcases l with l | ⟨k,c,e,z⟩
    · exact .inl l
    · exact .inr ⟨k,c,e,cellK x c e _ z⟩
  · obtain⟨v,z⟩:=I.cell x c e
    exact⟨v,cellK x c e v z⟩
  · obtain⟨m,⟨o,_,_,ho,_⟩,_⟩:=I.loc
    exact free _ o (fun z=>(hch _ z).2.1 rfl) ho I.free
  · obtain⟨v,o,ho,hd⟩:=I.cell x c e
    exact free c o (fun z=>(hch c z).2.2.1 x c e rfl) ho (I.freeC x c e)
  · obtain⟨e,n,ne,nf,d⟩:=I.pin p hp
    have nch:p.1∉ch:=fun z=>(hch p.1 z).2.2.2 p hp rfl
    exact⟨keep p.1 p.2 ne nf nch e n,free p.1 p.2 nch e n,ne,nf,d⟩
  · obtain⟨m,hn,hl⟩:=I.ext
    refine⟨m,ns m hn,fun p hp=>⟨(hl p hp).1,?_⟩⟩
    rcases(hl p hp).2 with l | ⟨k,c,e,z⟩
    · exact .inl l
    · exact .inr ⟨k,c,e,cellK _ c e _ z⟩
theorem Inv.un {t':Nat} (I:Inv X pins σ H s) (u:Un X.fs [] H H' s.heap h') (hok:HOk X.prog X.w H' h'):Inv X pins σ H' { s with heap:=h',toks:=t' }:=by
  obtain⟨m,⟨o,es,ep,ho,r⟩,_⟩:=id I.loc
  obtain⟨sl,hL⟩:=u.any ho I.free (by simp)
  exact I.step (g':=s.gens) (d':=s.drawn) (ch:=[]) (fun _ z=>nomatch z) (fun b o _ hb _ e n=>u.keep b o e n hb (by simp)) (fun b o _ hb _ e n=>u.slot b o e n hb (by simp)) (fun b o _ e n=>u.free b o e n (by simp)) (fun b o _ e=>u.there b o e (by simp)) u.tups u.frzs u.tbls (fun m' hm=>by
    obtain⟨o',es',ep',ho',r'⟩:=hm
    rw[ho]at ho';cases ho'
    exact⟨_,es',ep',hL,r'⟩) hok I.bare
theorem Inv.call {g':Array GenState} {t':Nat} {d':Drawn} {ch:List Addr} (I:Inv X pins σ H s) (u:Un (frs X.stack) ch H H' s.heap h') (hok:HOk X.prog X.w H' h') (hg:AllBare g')
    (hch:∀ b∈ch,(b∈X.ex∨X.s₀.heap.objs.size≤b)∧b≠X.env.locals∧(∀ x c,X.env.cells.lookup x=some c→c≠b)∧∀ p∈X.pn++pins,p.1≠b) :
    Inv X pins σ H' { s with heap:=h',gens:=g',drawn:=d',toks:=t' }:=by
  obtain⟨m,⟨o,es,ep,ho,r⟩,_⟩:=id I.loc
  obtain⟨sl,hL⟩:=u.any ho I.free fun z=>(hch _ z).2.1 rfl
  exact I.step (ch:=ch) hch (fun b o hL hb hc e n=>u.keep b o e n (fun z=>(List.mem_cons.mp (I.stkSub b z)).elim hL hb) hc) (fun b o _ _ hc e n=>u.any e n hc) (fun b o hc e n=>u.free b o e n hc) (fun b o hc e=>u.there b o e hc) u.tups u.frzs u.tbls (fun m' hm=>by
    obtain⟨o',es',ep',ho',r'⟩:=hm
    rw[ho]at ho';cases ho'
    exact⟨_,es',ep',hL,r'⟩) hok hg
theorem Inv.turned {t':Nat} {it:Addr} (I:Inv X pins σ H s) (k:∀ b o,b≠it→s.heap.get? b=some o→h'.get? b=some o) (hn:H it=none) (hL:it≠X.env.locals)
    (h1:it∈X.ex∨X.s₀.heap.objs.size≤it) (h2:∀ x c,X.env.cells.lookup x=some c→c≠it) (h3:∀ p∈X.pn++pins,p.1≠it):Inv X pins σ H { s with heap:=h',toks:=t' }:=by
  have nit:∀ b u,H b=some u→b≠it:=fun b u e z=>by rw[z,hn]at e;cases e
  refine I.step (g':=s.gens) (d':=s.drawn) (ch:=[it]) (fun b hb=>?_) (fun b o _ _ hc e _=>k b o (fun z=>hc (by simp [z])) e) (fun b o _ _ hc e _=>⟨o.slots,k b o (fun z=>hc (by simp [z])) e⟩) (fun _ _ _ _ n=>n)
    (fun b o hc e=>⟨o,k b o (fun z=>hc (by simp [z])) e⟩) (fun _ _ e=>e) (fun _ _ _ e=>e) (fun b ps e=>⟨#[],by rw[e];simp⟩) (fun m hm=>?_) (fun b u e=>?_) I.bare
  · have e:b=it:=by simpa using hb
    subst e
    exact⟨h1,hL,h2,h3⟩
  · obtain⟨o,es,ep,ho,r⟩:=hm
    exact⟨o,es,ep,k _ o (Ne.symm hL) ho,r⟩
  · refine(I.hok b u e).stay (fun c v hc q=>k c v ?_ q) (fun _ q=>q) fun _ _ q=>q
    rcases hc with z | z
    · rw[z];exact nit b u e
    · exact nit c _ z
theorem Inv.tok (I:Inv X pins σ H s) (t:Nat):Inv X pins σ H { s with toks:=t }:=I.un (h':=s.heap) (t':=t) Un.refl I.hok
theorem Inv.kept {t':Nat} (I:Inv X pins σ H s) (k:∀ b u,s.heap.get? b=some u→h'.get? b=some u):Inv X pins σ H { s with heap:=h',toks:=t' }:=I.un (Un.kept k) (I.hok.kept k)
theorem Inv.laid {a:Addr} {o:HO} {t':Nat} (I:Inv X pins σ H s) (k:∀ b u,s.heap.get? b=some u→h'.get? b=some u) (hp:s.heap.objs.size≤a) (new:zba X.prog X.w (upd H a o) h' a o) :
    Inv X pins σ (upd H a o) { s with heap:=h',toks:=t' }:=I.un (Un.laid k hp (I.hok.fresh hp)) (I.hok.laid k hp new)
theorem Inv.write {x e:Addr} {o:HO} {t':Nat} (I:Inv X pins σ H s) (mu:Mut (H x)) (he:e=x∨H e=some (.own x)) (k:∀ b u,b≠e→s.heap.get? b=some u→h'.get? b=some u) (heo:∃ u,h'.get? e=some u)
    (new:zba X.prog X.w (upd H x o) h' x o):Inv X pins σ (upd H x o) { s with heap:=h',toks:=t' }:=I.un (Un.write mu he k heo) (I.hok.write mu he k heo new)
theorem Inv.pins_of {pins':List (Addr × Obj)} (I:Inv X pins σ H s) (h:∀ p∈pins',s.heap.get? p.1=some p.2∧H p.1=none∧p.1≠X.env.locals∧p.1∉X.fs∧∀ v,p.2.data≠.cell v):Inv X pins' σ H s :=
  ⟨I.ok,I.os,I.bare,I.base,I.loc,I.cell,I.free,I.freeC,fun p hp=>(List.mem_append.mp hp).elim (fun z=>I.pin p (List.mem_append_left _ z)) (h p),I.hok,I.len,I.ext⟩
theorem zeK {N:List Str} (hN:N.Nodup) {i j:Nat} {x:Str} (a:N[i]?=some x) (b:N[j]?=some x):i=j:=by
  obtain⟨h1,e1⟩:=List.getElem?_eq_some_iff.mp a
  obtain⟨h2,e2⟩:=List.getElem?_eq_some_iff.mp b
  exact(List.getElem_inj hN).mp (e1.trans e2.symm)
theorem zfK {M:Model} {A:Around} {E:Value→Shared→Prop} {i:Nat} {x:Str} {v:V} {u:Value} {Q:Unit→Shared→Prop} (I:Inv X pins σ H s) (hN:X.N.Nodup) (hi:X.N[i]?=some x) (hx:Loc X.env.scope x) (r:ar v u)
    (h:∀ s',Inv X pins (σ.set i (some v)) H s'→(∃ a,Heap.SameBut a s.heap s'.heap∧(a=X.env.locals∨X.env.cells.lookup x=some a))→(∃ m,s'.heap.Ns X.env.locals m∧Look X.env s'.heap m x u)→Q () s') (hf:X.fn x=true∨X.env.scope.names.lookup x=some .local:=by first | exact .inl rfl | exact .inr rfl | assumption):wpAny M A (storeName X.env x u) Q E s:=by
  obtain⟨m,hn,hl⟩:=id I.loc
  have hcls:(X.env.scope.kind == .class||(X.env.scope.kind == .module&&X.env.locals != X.env.globals))=false:=by rw[I.ok.kind];rfl
  have hiσ:i < σ.length:=by rw[I.len];exact(List.getElem?_eq_some_iff.mp hi).1
  have cne:=I.cne
  have tracked:∀ {a:Addr} {h':Heap},(∃ o,s.heap.get? a=some o∧H a=none)→Heap.SameBut a s.heap h'→HOk X.prog X.w H h':=fun {a h'} ha hs b ob e=>by
    obtain⟨_,_,hfree⟩:=ha
    refine(I.hok b ob e).stay (fun c w' hc q=>(hs.2 c ?_).trans q) (fun _ q=>q) fun _ _ q=>q
    rintro rfl
    rcases hc with rfl | hc
    · rw[hfree]at e;cases e
    · rw[hfree]at hc;cases hc
  rcases hx with hk | hk
  · refine wpAny_storeName_local hk hn (fun h' hn' hs=>?_) hcls
    obtain⟨oL,_,_,hoL,_⟩:=id hn
    refine h _ ⟨I.ok,I.os,I.bare,⟨fun b o e n hb hx=>?_,fun b o e n hb hx=>?_,I.base.free,fun b o e hx=>?_,I.base.tups,I.base.frzs,I.base.tbls⟩,⟨_,hn',fun j y v' e1 e2 e3=>?_⟩,fun y c e=>?_,I.free,I.freeC,fun p hp=>?_,tracked ⟨oL,hoL,I.free⟩ hs,by simpa using I.len,?_⟩ ⟨_,hs,.inl rfl⟩ ⟨_,hn',.inl ⟨hk,by simp⟩⟩
    · exact(hs.2 b (Nat.ne_of_lt (Nat.lt_of_lt_of_le (Heap.lt_size e) I.ok.above))).trans (I.base.keep b o e n hb hx)
    · obtain⟨sl,e1⟩:=I.base.slot b o e n hb hx
      exact⟨sl,(hs.2 b (Nat.ne_of_lt (Nat.lt_of_lt_of_le (Heap.lt_size e) I.ok.above))).trans e1⟩
    · obtain⟨o',e1⟩:=I.base.there b o e hx
      exact⟨o',(hs.2 b (Nat.ne_of_lt (Nat.lt_of_lt_of_le (Heap.lt_size e) I.ok.above))).trans e1⟩
    · by_cases hj:j=i
      · subst hj
        rw[hi]at e1;cases e1
        rw[List.getElem?_set_self hiσ]at e2
        cases e2
        exact⟨u,r,.inl ⟨hk,by simp⟩⟩
      · rw[List.getElem?_set_ne (Ne.symm hj)]at e2
        obtain⟨u',r',q⟩:=hl j y v' e1 e2 e3
        refine⟨u',r',?_⟩
        rcases q with ⟨k,e⟩ | ⟨k,c,e,z⟩
        · refine .inl ⟨k,?_⟩
          have:y≠x:=fun e=>hj (zeK hN e1 (e ▸ hi))
          simp [this,e]
        · exact .inr ⟨k,c,e,z.sameBut hs (cne y c e)⟩
    · obtain⟨w',z⟩:=I.cell y c e
      exact⟨w',z.sameBut hs (cne y c e)⟩
    · obtain⟨e,n,ne,nf,d⟩:=I.pin p hp
      exact⟨(hs.2 p.1 ne).trans e,n,ne,nf,d⟩
    · obtain⟨m2,hn2,hl2⟩:=I.ext
      have em:=ns_inj hn2 hn
      subst em
      refine⟨_,hn',fun p hp=>⟨(hl2 p hp).1,?_⟩⟩
      rcases(hl2 p hp).2 with ⟨k,e⟩ | ⟨k,c,e,z⟩
      · refine .inl ⟨k,?_⟩
        have:p.1≠x:=fun e=>(hl2 p hp).1 (e ▸ List.mem_of_getElem? hi)
        simp [this,e]
      · exact .inr ⟨k,c,e,z.sameBut hs (cne _ c e)⟩
  · have hfn:X.fn x=true:=by
      rcases hf with z | z
      · exact z
      · rw[z]at hk;cases hk
    obtain⟨c,hc⟩:=I.ok.has x (.inl hk)
    obtain⟨w',z⟩:=I.cell x c hc
    refine wpAny_storeName_cell I.ok.kind hk hc z (fun h' hc' hs=>?_)
    obtain⟨oc,hoc,hocd⟩:=id z
    refine h { s with heap:=h' } ⟨I.ok,I.os,I.bare,⟨fun b o e n hb hx=>?_,fun b o e n hb hx=>?_,I.base.free,fun b o e hx=>?_,I.base.tups,I.base.frzs,I.base.tbls⟩,⟨m,hn.sameBut hs (Ne.symm (cne x c hc)),fun j y v' e1 e2 e3=>?_⟩,fun y c' e=>?_,I.free,I.freeC,fun p hp=>?_,tracked ⟨oc,hoc,I.freeC x c hc⟩ hs,by simpa using I.len,?_⟩ ⟨c,hs,.inr hc⟩ ⟨m,hn.sameBut hs (Ne.symm (cne x c hc)),.inr ⟨.inl hk,c,hc,hc'⟩⟩
    · exact(hs.2 b (Nat.ne_of_lt (Nat.lt_of_lt_of_le (Heap.lt_size e) (I.ok.cab x c hfn hc)))).trans (I.base.keep b o e n hb hx)
    · obtain⟨sl,e1⟩:=I.base.slot b o e n hb hx
      exact⟨sl,(hs.2 b (Nat.ne_of_lt (Nat.lt_of_lt_of_le (Heap.lt_size e) (I.ok.cab x c hfn hc)))).trans e1⟩
    · obtain⟨o',e1⟩:=I.base.there b o e hx
      exact⟨o',(hs.2 b (Nat.ne_of_lt (Nat.lt_of_lt_of_le (Heap.lt_size e) (I.ok.cab x c hfn hc)))).trans e1⟩
    · by_cases hj:j=i
      · subst hj
        rw[hi]at e1;cases e1
        rw[List.getElem?_set_self hiσ]at e2
        cases e2
        exact⟨u,r,.inr ⟨.inl hk,c,hc,hc'⟩⟩
      · rw[List.getElem?_set_ne (Ne.symm hj)]at e2
        obtain⟨u',r',q⟩:=hl j y v' e1 e2 e3
        refine⟨u',r',?_⟩
        rcases q with q | ⟨k,c',e,z'⟩
        · exact .inl q
        · refine .inr ⟨k,c',e,z'.sameBut hs ?_⟩
          rintro rfl
          exact hj (zeK hN e1 (I.ok.inj _ _ _ e hc ▸ hi))
    · by_cases hcc:c'=c
      · subst hcc;exact⟨_,hc'⟩
      · obtain⟨w2,z2⟩:=I.cell y c' e
        exact⟨w2,z2.sameBut hs hcc⟩
    · obtain⟨e,n,ne,nf,d⟩:=I.pin p hp
      refine⟨(hs.2 p.1 ?_).trans e,n,ne,nf,d⟩
      intro q
      rw[q,hoc]at e
      have q':oc=p.2:=Option.some.inj e
      exact d w' (by rw[←q'];exact hocd)
    · obtain⟨m2,hn2,hl2⟩:=I.ext
      refine⟨m2,hn2.sameBut hs (Ne.symm (cne x c hc)),fun p hp=>⟨(hl2 p hp).1,?_⟩⟩
      rcases(hl2 p hp).2 with q | ⟨k,c',e,z'⟩
      · exact .inl q
      · refine .inr ⟨k,c',e,z'.sameBut hs ?_⟩
        rintro rfl
        exact(hl2 p hp).1 (I.ok.inj _ _ _ e hc ▸ List.mem_of_getElem? hi)
theorem zc5 {M:Model} {A:Around} {E:Value→Shared→Prop} {i:Nat} {x:Str} {v:V} {u:Value} {Q:Unit→Shared→Prop} (I:Inv X pins σ H s) (hN:X.N.Nodup) (hi:X.N[i]?=some x) (hx:Loc X.env.scope x) (r:ar v u)
    (h:∀ s',Inv X pins (σ.set i (some v)) H s'→(∃ a,Heap.SameBut a s.heap s'.heap∧(a=X.env.locals∨X.env.cells.lookup x=some a))→Q () s') (hf:X.fn x=true∨X.env.scope.names.lookup x=some .local:=by first | exact .inl rfl | exact .inr rfl | assumption):wpAny M A (storeName X.env x u) Q E s:=zfK I hN hi hx r (fun s' I' a _=>h s' I' a) hf
theorem zdG {M:Model} {A:Around} {E:Value→Shared→Prop} {i:Nat} {x:Str} {v:V} {u:Value} {Q:Unit→Shared→Prop} (I:Inv X pins σ H s) (hN:X.N.Nodup) (hi:X.N[i]?=some x) (hx:Loc X.env.scope x) (r:ar v u)
    (h:∀ s',Inv X pins (σ.set i (some v)) H s'→Q () s') (hf:X.fn x=true∨X.env.scope.names.lookup x=some .local:=by first | exact .inl rfl | exact .inr rfl | assumption):wpAny M A (storeName X.env x u) Q E s :=
  zc5 I hN hi hx r (fun s' I' _=>h s' I') hf
theorem Inv.call' {s':Shared} {ch:List Addr} (I:Inv X pins σ H s) (ho:s'.os=s.os) (u:Un (frs X.stack) ch H H' s.heap s'.heap) (hok:HOk X.prog X.w H' s'.heap) (hg:AllBare s'.gens)
    (hch:∀ b∈ch,(b∈X.ex∨X.s₀.heap.objs.size≤b)∧b≠X.env.locals∧(∀ x c,X.env.cells.lookup x=some c→c≠b)∧∀ p∈X.pn++pins,p.1≠b):Inv X pins σ H' s':=by
  obtain⟨h',g',d',t',o'⟩:=s'
  have e:o'=s.os:=ho
  subst e
  exact I.call (g':=g') (t':=t') (d':=d') u hok hg hch
end
abbrev XK:=Value→Option Addr→Hp→Prop
abbrev St:=List (Option V)
abbrev VK:=V→Hp→Prop
abbrev TE:=St→Hp→VK→Prop
abbrev TT:=St→Hp→(Bool→Hp→Prop)→Prop
abbrev TA:=St→Hp→(List V→Hp→Prop)→Prop
structure zaU where
  nx:St→Hp→Prop
  rt:VK
  bk:St→Hp→Prop:=fun _ _=>False
  ct:St→Hp→Prop:=fun _ _=>False
abbrev TS:=zaU→St→Hp→Prop
def EP (X:Cx) (pins:List (Addr × Obj)) (σ:St) (Q:VK) (u:Value) (s':Shared):Prop:=∃ v H',Inv X pins σ H' s'∧ar v u∧Q v H'
def TP (X:Cx) (pins:List (Addr × Obj)) (σ:St) (Q:Bool→Hp→Prop) (b:Bool) (s':Shared):Prop:=∃ H',Inv X pins σ H' s'∧Q b H'
def AP (X:Cx) (pins:List (Addr × Obj)) (σ:St) (Q:List V→Hp→Prop) (us:List Value) (s':Shared):Prop:=∃ vs H',Inv X pins σ H' s'∧ap vs us∧Q vs H'
def SP (X:Cx) (pins:List (Addr × Obj)) (D:zaU) (f:Flow) (s':Shared):Prop :=
  match f with
  | .next=>∃ σ' H',Inv X pins σ' H' s'∧D.nx σ' H'
  | .brk=>∃ σ' H',Inv X pins σ' H' s'∧D.bk σ' H'
  | .cont=>∃ σ' H',Inv X pins σ' H' s'∧D.ct σ' H'
  | .ret u=>∃ v σ' H',Inv X pins σ' H' s'∧ar v u∧D.rt v H'
def PE (X:Cx) (e:Expr) (t:TE):Prop :=
  ∀(pins:List (Addr × Obj)) (s:Shared) (σ:St) (H:Hp) (Q:VK),Inv X pins σ H s→t σ H Q→wpAny (model X.prog X.w) X.A (eval e X.env) (EP X pins σ Q) X.xe s
def PT (X:Cx) (e:Expr) (t:TT):Prop :=
  ∀(pins:List (Addr × Obj)) (s:Shared) (σ:St) (H:Hp) (Q:Bool→Hp→Prop),Inv X pins σ H s→t σ H Q→wpAny (model X.prog X.w) X.A (isTrue e X.env (eval e X.env)) (TP X pins σ Q) X.xe s
def PW (X:Cx) (e:Expr) (t:TT):Prop :=
  ∀(whole:Sem Value) (pins:List (Addr × Obj)) (s:Shared) (σ:St) (H:Hp) (Q:Bool→Hp→Prop),Inv X pins σ H s→t σ H Q→wpAny (model X.prog X.w) X.A (isTrue e X.env whole) (TP X pins σ Q) X.xe s
theorem PW.pt {X:Cx} {e:Expr} {t:TT} (h:PW X e t):PT X e t:=h _
def PA (X:Cx) (es:List Expr) (t:TA):Prop :=
  ∀(pos:Pos) (pins:List (Addr × Obj)) (s:Shared) (σ:St) (H:Hp) (Q:List V→Hp→Prop),Inv X pins σ H s→t σ H Q→wpAny (model X.prog X.w) X.A (spliced (backTo pos (starEach es X.env))) (AP X pins σ Q) X.xe s
def PS (X:Cx) (st:Stmt) (t:TS):Prop :=
  ∀(pins:List (Addr × Obj)) (s:Shared) (σ:St) (H:Hp) (D:zaU),Inv X pins σ H s→t D σ H→wpAny (model X.prog X.w) X.A (exec st X.env) (SP X pins D) X.xe s
def PSs (X:Cx) (st:List Stmt) (t:TS):Prop :=
  ∀(pins:List (Addr × Obj)) (s:Shared) (σ:St) (H:Hp) (D:zaU),Inv X pins σ H s→t D σ H→wpAny (model X.prog X.w) X.A (execs st X.env) (SP X pins D) X.xe s
theorem thn {α:Type} {t:Sem α} {Q Q':α→Shared→Prop} {M:Model} {A:Around} {E:Value→Shared→Prop} {s:Shared} (h:wpAny M A t Q E s) (hQ:∀ a s,Q a s→Q' a s):wpAny M A t Q' E s:=wpAny_mono h hQ fun _ _ x=>x
end L2
namespace L2
open PySem PySem.Spec PyProof.Rows
section
variable {X:Cx}
theorem bin {a b:Expr} {ta tb:TE} (ha:PE X a ta) (hb:PE X b tb) {pins:List (Addr × Obj)} {s:Shared} {σ:St} {H:Hp} {R:V→V→Hp→Prop} (I:Inv X pins σ H s) (h:ta σ H fun x H1=>tb σ H1 fun y H2=>R x y H2)
    {α:Type} {Q:α→Shared→Prop} {f:Value→Value→Sem α}
    (hf:∀ v u s2 x y H2,Inv X pins σ H2 s2→ar x v→ar y u→R x y H2→wpAny (model X.prog X.w) X.A (f v u) Q X.xe s2) :
    wpAny (model X.prog X.w) X.A (eval a X.env) (fun v s₁=>wpAny (model X.prog X.w) X.A (eval b X.env) (fun u s₂=>wpAny (model X.prog X.w) X.A (f v u) Q X.xe s₂) X.xe s₁) X.xe s:=by
  refine thn (ha pins s σ H _ I h) fun v s1 ⟨x,H1,I1,r1,q1⟩=>?_
  refine thn (hb pins s1 σ H1 _ I1 q1) fun u s2 ⟨y,H2,I2,r2,q2⟩=>?_
  exact hf v u s2 x y H2 I2 r1 r2 q2
inductive zb5 (i:Nat):TE | mk {σ H Q} v:σ[i]?=some (some v)→Q v H→zb5 i σ H Q
def tC (v:V):TE:=fun _ H Q=>Q v H
theorem pe_var {i:Nat} {x:Str} {pos:Pos} (hN:X.N[i]?=some x) (hv:Vis X.env.scope x) (hd:(x == ("__debug__":Str))=false:=by decide) (hcd:(x == ("__classdict__":Str))=false:=by decide):PE X (.Name x pos) (zb5 i):=by
  intro pins s σ H Q I h
  obtain⟨v,e,h⟩:=h
  obtain⟨m,hn,hl⟩:=I.loc
  obtain⟨u,r,l⟩:=hl i x v hN e hv
  have fin:EP X pins σ Q u s:=⟨v,H,I,r,h⟩
  rcases l with ⟨hk,hm⟩ | ⟨hk,c,hc,hcell⟩
  · exact wpAny_Name (wpAny_loadName_local I.ok.kind hk hn hm fin) hd
  · rcases hk with hk | hk
    · exact wpAny_Name (wpAny_loadName_cell I.ok.kind hk hc hcell fin) hd
    · exact wpAny_Name (wpAny_loadName_free I.ok.kind hk hc hcell fin hcd) hd
theorem ad {i j pos}:PE X (.Constant (.int i) j pos) (tC (.int i)):=fun _ _ _ H _ I h=>wpAny_Constant_int ⟨.int i,H,I.tok _,⟨_,rfl⟩,h⟩
theorem zf6 {b j pos}:PE X (.Constant (.bool b) j pos) (tC (.bl b)):=fun _ _ _ H _ I h=>Constant_bool ⟨.bl b,H,I,rfl,h⟩
theorem ah {x j pos}:PE X (.Constant (.str x) j pos) (tC (.str x)):=fun _ _ _ H _ I h=>Calls.Constant_str ⟨.str x,H,I.tok _,⟨_,rfl⟩,h⟩
def Gl (X:Cx) (x:Str):Prop:=X.env.kindOf x=some .globalImplicit
theorem zcK {E:Value→Shared→Prop} {pins:List (Addr × Obj)} {s:Shared} {σ:St} {H:Hp} {x:Str} {u:Value} {pos:Pos} {Q:Value→Shared→Prop} (I:Inv X pins σ H s) (hg:Gl X x) (hm:X.mg x=some u) (h:Q u s)
    (hd:(x == ("__debug__":Str))=false:=by decide):wpAny (model X.prog X.w) X.A (eval (.Name x pos) X.env) Q E s :=
  Calls.Name_function_global I.ok.kind hg (Calls.loadGlobal_global (by rw[I.ok.glob];exact I.mod.glob.keeps I.bk) hm h) hd
theorem zdo {E:Value→Shared→Prop} {pins:List (Addr × Obj)} {s:Shared} {σ:St} {H:Hp} {x:Str} {u:Value} {pos:Pos} {Q:Value→Shared→Prop} (I:Inv X pins σ H s) (hg:Gl X x) (hm:X.mg x=none) (hv:bootBuiltins x=some u) (h:Q u s)
    (hn:x≠"__name__":=by decide) (hd:(x == ("__debug__":Str))=false:=by decide):wpAny (model X.prog X.w) X.A (eval (.Name x pos) X.env) Q E s:=by
  obtain⟨mb,h1,h2⟩:=I.mod.blt
  exact Calls.Name_function_global I.ok.kind hg (Calls.loadGlobal_builtin (by rw[I.ok.glob];exact I.mod.glob.keeps I.bk) hm (by rw[I.ok.blt];exact h1.keeps I.bk) ((h2 x hn).trans hv) h) hd
theorem zam {x:Str} {v:V} {u:Value} {pos:Pos} (hg:Gl X x) (hm:X.mg x=some u) (r:ar v u) (hd:(x == ("__debug__":Str))=false:=by decide):PE X (.Name x pos) (tC v) :=
  fun _ _ _ H _ I h=>zcK I hg hm ⟨v,H,I,r,h⟩ hd
theorem zkF {x:Str} {v:V} {u:Value} {pos:Pos} (hg:Gl X x) (hm:X.mg x=none) (hv:bootBuiltins x=some u) (r:ar v u) (hn:x≠"__name__":=by decide) (hd:(x == ("__debug__":Str))=false:=by decide):PE X (.Name x pos) (tC v) :=
  fun _ _ _ H _ I h=>zdo I hg hm hv ⟨v,H,I,r,h⟩ hn hd
variable {a b:Expr} {ta tb:TE} {pos:Pos}
def PC (X:Cx) (op:CmpOp) (a b:Expr) (t:TE):Prop :=
  ∀(pins:List (Addr × Obj)) (s:Shared) (σ:St) (H:Hp) (Q:VK),Inv X pins σ H s→t σ H Q →
    wpAny (model X.prog X.w) X.A (eval a X.env) (fun v s₁=>wpAny (model X.prog X.w) X.A (eval b X.env) (fun u s₂=>wpAny (model X.prog X.w) X.A (compareOp op v u) (EP X pins σ Q) X.xe s₂) X.xe s₁) X.xe s
inductive isB:V→Hp→(Bool→Hp→Prop)→Prop | mk {x H Q} c:x=.bl c→Q c H→isB x H Q
def tB (t:TE):TT:=fun σ H Q=>t σ H fun x H1=>isB x H1 Q
theorem pt_cmp {op:CmpOp} {t:TE} (h:PC X op a b t) (h1:behindInMarks op b=false:=by first | exact nobehind _ (by decide) (by decide) | rfl):PT X (.Compare a [op] [b] pos) (tB t):=by
  intro pins s σ H Q I hw
  refine wpAny_isTrue_Compare1 (thn (h pins s σ H _ I hw) fun v s1 h1=>thn h1 fun u s2 h2=>thn h2 fun c s3 ⟨x,H1,I1,r1,q1⟩=>?_) h1
  obtain⟨d,rfl,q⟩:=q1
  cases r1
  exact wpAny_truthy_bool ⟨H1,I1,q⟩
theorem zaV {e:Expr} {t:TE} (h:PE X e t) (he:∀ whole,isTrue e X.env whole=(do let v ←whole;standAt e.pos;holding [v] (truthy v)):=by intro _;rfl):PT X e (tB t):=by
  intro pins s σ H Q I hw
  refine isTrue_plain (thn (h pins s σ H _ I hw) fun v s1 ⟨x,H1,I1,r1,q1⟩=>?_) (he _)
  obtain⟨d,rfl,q⟩:=q1
  cases r1
  exact wpAny_truthy_bool ⟨H1,I1,q⟩
variable {tA tB':TT} {zaH:List Expr}
def tAnd (t u:TT):TT:=fun σ H Q=>t σ H fun c H1=>if c=true then u σ H1 Q else Q false H1
def tOr (t u:TT):TT:=fun σ H Q=>t σ H fun c H1=>if c=true then Q true H1 else u σ H1 Q
def tNot (t:TT):TT:=fun σ H Q=>t σ H fun c H1=>Q (!c) H1
theorem zfx (ha:PT X a tA):PW X (.BoolOp .And [a] pos) tA:=by
  intro wh pins s σ H Q I h
  refine isTrue_and (thn (ha pins s σ H Q I h) fun c s1 e=>?_)
  cases c with
  | true=>exact isTrue_and_nil e
  | false=>exact e
theorem zgv (ha:PT X a tA):PW X (.BoolOp .Or [a] pos) tA:=by
  intro wh pins s σ H Q I h
  refine isTrue_or (thn (ha pins s σ H Q I h) fun c s1 e=>?_)
  cases c with
  | false=>exact isTrue_or_nil e
  | true=>exact e
theorem ze9 (ha:PT X a tA) (hb:PW X (.BoolOp .And (b :: zaH) pos) tB'):PW X (.BoolOp .And (a :: b :: zaH) pos) (tAnd tA tB'):=by
  intro wh pins s σ H Q I h
  refine isTrue_and (thn (ha pins s σ H _ I h) fun c s1 ⟨H1,I1,q1⟩=>?_)
  cases c with
  | true=>exact hb wh pins s1 σ H1 Q I1 q1
  | false=>exact⟨H1,I1,q1⟩
theorem zh6 (ha:PT X a tA) (hb:PW X (.BoolOp .Or (b :: zaH) pos) tB'):PW X (.BoolOp .Or (a :: b :: zaH) pos) (tOr tA tB'):=by
  intro wh pins s σ H Q I h
  refine isTrue_or (thn (ha pins s σ H _ I h) fun c s1 ⟨H1,I1,q1⟩=>?_)
  cases c with
  | true=>exact⟨H1,I1,q1⟩
  | false=>exact hb wh pins s1 σ H1 Q I1 q1
theorem zbV (ha:PT X a tA):PT X (.UnaryOp .Not a pos) (tNot tA):=by
  intro pins s σ H Q I h
  exact isTrue_not (ha pins s σ H (fun c H1=>Q (!c) H1) I h)
def tAndV (ta tb:TE):TE:=fun σ H Q=>ta σ H fun x H1=>∃ c,x=.bl c∧if c=true then tb σ H1 Q else Q (.bl false) H1
theorem ziP {op} {t:TE} (h:PE X a t):PE X (.BoolOp op [a] pos) t:=fun pins s σ H Q I hw=>BoolOp_one (h pins s σ H Q I hw)
theorem zgw (ha:PE X a ta) (hb:PE X (.BoolOp .And (b :: zaH) pos) tb):PE X (.BoolOp .And (a :: b :: zaH) pos) (tAndV ta tb):=by
  intro pins s σ H Q I h
  refine BoolOp_and (thn (ha pins s σ H _ I h) fun v s1 ⟨x,H1,I1,r1,q1⟩=>?_)
  obtain⟨c,rfl,q1⟩:=q1
  cases r1
  refine wpAny_truthy_bool ?_
  cases c with
  | true=>exact hb pins s1 σ H1 Q I1 q1
  | false=>exact⟨.bl false,H1,I1,rfl,q1⟩
def tIf (t:TT) (ta tb:TE):TE:=fun σ H Q=>t σ H fun c H1=>if c=true then ta σ H1 Q else tb σ H1 Q
theorem zeJ {c:Expr} (hc:PT X c tA) (ha:PE X a ta) (hb:PE X b tb):PE X (.IfExp c a b pos) (tIf tA ta tb):=by
  intro pins s σ H Q I h
  refine wpAny_IfExp (thn (hc pins s σ H _ I h) fun d s1 ⟨H1,I1,q1⟩=>?_)
  cases d with
  | true=>exact ha pins s1 σ H1 Q I1 q1
  | false=>exact hb pins s1 σ H1 Q I1 q1
end
end L2
namespace L2
open PySem PySem.Spec PyProof.Rows
def SqL (K:PySem.W.Frag) (H:Hp) (a:Addr) (xs:List V):Prop :=
  Rd H a (.lst xs) ∨
    ∃(o:Obj) (its:Array Value) (n:Nat),K.lookup a=some o∧o.cls=.type "list"∧o.dict=none∧o.data=.seq its n∧its.size≤sizeLine∧ap xs its.toList
def SqT (K:PySem.W.Frag) (H:Hp) (a:Addr) (xs:List V):Prop :=
  Rd H a (.tup xs) ∨
    ∃(o:Obj) (its:Array Value) (n:Nat),K.lookup a=some o∧(o.cls,o.dict)=(Value.type "tuple",none)∧o.data=.seq its n∧its.size≤sizeLine∧ap xs its.toList
def absV:Value→Option V
  | .none=>some .non
  | .bool b=>some (.bl b)
  | .int i _=>some (.int i)
  | .str x _=>some (.str x)
  | .bytes b _=>some (.byt b)
  | .float b _=>some (.flt b)
  | .ref a=>some (.ref a)
  | .type n=>some (.ty n)
  | _=>none
theorem ar.abs {x:V} {u:Value} (r:ar x u):absV u=some x:=by
  cases x with
  | non=>cases r;rfl
  | bl _=>cases r;rfl
  | int _=>obtain⟨t,rfl⟩:=r;rfl
  | str _=>obtain⟨t,rfl⟩:=r;rfl
  | byt _=>obtain⟨t,rfl⟩:=r;rfl
  | flt _=>obtain⟨t,rfl⟩:=r;rfl
  | ref _=>cases r;rfl
  | ty _=>cases r;rfl
theorem ar.inj {x y:V} {u:Value} (r:ar x u) (q:ar y u):x=y:=Option.some.inj (r.abs.symm.trans q.abs)
theorem ap.inj:∀ {xs ys:List V} {us:List Value},ap xs us→ap ys us→xs=ys
  | _,_,_,.nil,.nil=>rfl
  | _,_,_,.cons r t,.cons r' t'=>by rw[r.inj r',ap.inj t t']
section
variable {X:Cx} {pins:List (Addr × Obj)} {σ:St} {H:Hp} {s:Shared} {a:Addr} {xs ys:List V}
theorem SqL.of {K:PySem.W.Frag} (h:H a=some (.lst xs)):SqL K H a xs:=.inl (.inl h)
theorem SqT.of {K:PySem.W.Frag} (h:H a=some (.tup xs)):SqT K H a xs:=.inl (.inl h)
theorem Inv.list (I:Inv X pins σ H s) (h:SqL X.K H a xs):∃ its:List Value,ap xs its∧PlainL s.heap a its.toArray∧xs.length≤sizeLine:=by
  rcases h with h | ⟨o,its,n,hk,hc,hd,hs,hz,r⟩
  · obtain⟨z,its,n,r,e⟩:=h.ok I.hok
    exact⟨its,r,⟨_,n,e,rfl,rfl,rfl⟩,z⟩
  · refine⟨its.toList,r,⟨o,n,I.kIn a o hk,hc,hd,by simpa using hs⟩,?_⟩
    have e:=r.length
    simp only[Array.length_toList]at e
    omega
theorem Inv.tupD (I:Inv X pins σ H s) (h:SqT X.K H a xs):∃ its:List Value,ap xs its∧zdc s.heap a its.toArray∧xs.length≤sizeLine:=by
  rcases h with h | ⟨o,its,n,hk,hc,hs,hz,r⟩
  · obtain⟨z,its,r,p⟩:=h.ok I.hok
    exact⟨its,r,p,z⟩
  · refine⟨its.toList,r,⟨o,I.kIn a o hk,hc,n,by simpa using hs⟩,?_⟩
    have e:=r.length
    simp only[Array.length_toList]at e
    omega
theorem Inv.tuple (I:Inv X pins σ H s) (h:SqT X.K H a xs):∃ its:List Value,ap xs its∧IsTup s.heap a its.toArray∧xs.length≤sizeLine:=by
  obtain⟨its,r,p,z⟩:=I.tupD h
  exact⟨its,r,p.up,z⟩
theorem Inv.list_inj (I:Inv X pins σ H s) (h:SqL X.K H a xs) (h':SqL X.K H a ys):xs=ys:=by
  obtain⟨its,r,⟨o,n,e,_,_,d⟩,_⟩:=I.list h
  obtain⟨its',r',⟨o',n',e',_,_,d'⟩,_⟩:=I.list h'
  rw[e]at e';cases e'
  rw[d]at d'
  injection d' with d1 _
  have:its=its':=by simpa using congrArg Array.toList d1
  subst this
  exact r.inj r'
theorem Inv.tuple_inj (I:Inv X pins σ H s) (h:SqT X.K H a xs) (h':SqT X.K H a ys):xs=ys:=by
  obtain⟨its,r,⟨o,e,_,n,d⟩,_⟩:=I.tuple h
  obtain⟨its',r',⟨o',e',_,n',d'⟩,_⟩:=I.tuple h'
  rw[e]at e';cases e'
  rw[d]at d'
  injection d' with d1 _
  have:its=its':=by simpa using congrArg Array.toList d1
  subst this
  exact r.inj r'
end
abbrev Cx.wish (X:Cx) (E:Value→Shared→Prop):Cx:={ X with xe:=E }
abbrev Cx.nox (X:Cx):Cx:=X.wish fun _ _=>False
theorem Cx.Ok.wish {X:Cx} (ok:X.Ok) (E:Value→Shared→Prop):(X.wish E).Ok :=
  ⟨ok.mod,ok.kind,ok.glob,ok.blt,ok.above,ok.inj,ok.has,ok.cab,ok.hd,ok.frames,ok.stk,ok.exf,ok.bs,ok.bsz,ok.noex,ok.exfs,ok.funs,ok.frf⟩
theorem Cx.Ok.unwish {X:Cx} {E:Value→Shared→Prop} (ok:(X.wish E).Ok):X.Ok :=
  ⟨ok.mod,ok.kind,ok.glob,ok.blt,ok.above,ok.inj,ok.has,ok.cab,ok.hd,ok.frames,ok.stk,ok.exf,ok.bs,ok.bsz,ok.noex,ok.exfs,ok.funs,ok.frf⟩
section
variable {X:Cx} {pins:List (Addr × Obj)} {σ:St} {H:Hp} {s:Shared} {E:Value→Shared→Prop}
theorem Inv.wish (I:Inv X pins σ H s) (E:Value→Shared→Prop):Inv (X.wish E) pins σ H s:=⟨I.ok.wish E,I.os,I.bare,I.base,I.loc,I.cell,I.free,I.freeC,I.pin,I.hok,I.len,I.ext⟩
theorem Inv.unwish (I:Inv (X.wish E) pins σ H s):Inv X pins σ H s:=⟨I.ok.unwish,I.os,I.bare,I.base,I.loc,I.cell,I.free,I.freeC,I.pin,I.hok,I.len,I.ext⟩
theorem SP.unwish {D:zaU} {f:Flow} {s':Shared} (h:SP (X.wish E) pins D f s'):SP X pins D f s':=by
  cases f with
  | next=>obtain⟨σ',H',I,q⟩:=h;exact⟨σ',H',I.unwish,q⟩
  | brk=>obtain⟨σ',H',I,q⟩:=h;exact⟨σ',H',I.unwish,q⟩
  | cont=>obtain⟨σ',H',I,q⟩:=h;exact⟨σ',H',I.unwish,q⟩
  | ret u=>obtain⟨v,σ',H',I,r,q⟩:=h;exact⟨v,σ',H',I.unwish,r,q⟩
theorem PE.nox {e:Expr} {t:TE} (h:PE X.nox e t):PE X e t:=fun pins s σ H Q I hw =>
  wpAny_mono (h pins s σ H Q (I.wish _) hw) (fun _ _ ⟨v,H',I',r,q⟩=>⟨v,H',I'.unwish,r,q⟩) fun _ _ z=>False.elim z
theorem PT.nox {e:Expr} {t:TT} (h:PT X.nox e t):PT X e t:=fun pins s σ H Q I hw =>
  wpAny_mono (h pins s σ H Q (I.wish _) hw) (fun _ _ ⟨H',I',q⟩=>⟨H',I'.unwish,q⟩) fun _ _ z=>False.elim z
theorem PSs.nox {st:List Stmt} {t:TS} (h:PSs X.nox st t):PSs X st t:=fun pins s σ H D I hw =>
  wpAny_mono (h pins s σ H D (I.wish _) hw) (fun _ _ q=>q.unwish) fun _ _ z=>False.elim z
end
section
variable {X:Cx} {st:Stmt} {zaH:List Stmt} {t u:TS} {e:Expr} {te:TE} {pos:Pos}
def tNext:TS:=fun⟨n,_,_,_⟩ σ H=>n σ H
def zes (t u:TS):TS:=fun⟨n,r,b,c⟩ σ H=>t ⟨u ⟨n,r,b,c⟩,r,b,c⟩ σ H
theorem zaf:PSs X [] tNext:=fun _ _ σ H _ I h=>wpAny_execs_nil ⟨σ,H,I,h⟩
theorem ai (h1:PS X st t) (h2:PSs X zaH u):PSs X (st :: zaH) (zes t u):=by
  intro pins s σ H D I h
  refine wpAny_execs_cons (thn (h1 pins s σ H { D with nx:=u D } I h) fun f s1 q=>?_)
  cases f with
  | next =>
    obtain⟨σ',H',I',q⟩:=q
    exact h2 pins s1 σ' H' D I' q
  | ret v=>exact q
  | brk=>exact q
  | cont=>exact q
theorem ae (h1:PS X st t):PSs X [st] t:=by
  intro pins s σ H D I h
  refine wpAny_execs_cons (thn (h1 pins s σ H D I h) fun f s1 q=>?_)
  cases f with
  | next=>exact wpAny_execs_nil q
  | ret v=>exact q
  | brk=>exact q
  | cont=>exact q
theorem Inv.quiet {pins:List (Addr × Obj)} {σ:St} {H:Hp} {s:Shared} (I:Inv X pins σ H s):interactive X.env=false:=by simp [interactive,I.ok.kind]
def zeS (te:TE):TS:=fun⟨n,_,_,_⟩ σ H=>te σ H fun _ H1=>n σ H1
theorem za6 (he:PE X e te) (hs:swapsWith e none pos.line X.env=pure false:=by rfl):PS X (.Expr e pos) (zeS te):=by
  intro pins s σ H D I h
  exact wpAny_Expr_any (thn (he pins s σ H _ I h) fun v s1 ⟨x,H1,I1,r1,q1⟩=>⟨σ,H1,I1,q1⟩) I.quiet hs
def tRet (te:TE):TS:=fun⟨_,r,_,_⟩ σ H=>te σ H r
theorem zae (he:PE X e te):PS X (.Return (some e) pos) (tRet te):=by
  intro pins s σ H D I h
  exact wpAny_Return_some (thn (he pins s σ H _ I h) fun v s1 ⟨x,H1,I1,r1,q1⟩=>⟨x,σ,H1,I1,r1,q1⟩)
def tIfS (c:TT) (t u:TS):TS:=fun D σ H=>c σ H fun b H1=>if b=true then t D σ H1 else u D σ H1
theorem zaz {c:Expr} {a b:List Stmt} {tc:TT} (hc:PT X c tc) (ha:PSs X a t) (hb:PSs X b u):PS X (.If c a b pos) (tIfS tc t u):=by
  intro pins s σ H D I h
  refine wpAny_If (thn (hc pins s σ H _ I h) fun d s1 ⟨H1,I1,q1⟩=>?_)
  cases d with
  | true=>exact ha pins s1 σ H1 D I1 q1
  | false=>exact hb pins s1 σ H1 D I1 q1
def tNever:TS:=fun _ _ _=>False
end
abbrev TG:=V→St→Hp→(St→Hp→Prop)→Prop
abbrev TGs:=List V→St→Hp→(St→Hp→Prop)→Prop
def PG (X:Cx) (target:Expr) (t:TG):Prop :=
  ∀(pins:List (Addr × Obj)) (s:Shared) (σ:St) (H:Hp) (v:V) (u:Value) (Q:St→Hp→Prop),Inv X pins σ H s→ar v u→t v σ H Q →
    wpAny (model X.prog X.w) X.A (assign target X.env u) (fun _ s'=>∃ σ' H',Inv X pins σ' H' s'∧Q σ' H') X.xe s
def PGs (X:Cx) (ts:List Expr) (t:TGs):Prop :=
  ∀(pins:List (Addr × Obj)) (s:Shared) (σ:St) (H:Hp) (vs:List V) (us:List Value) (Q:St→Hp→Prop),Inv X pins σ H s→ap vs us→t vs σ H Q →
    wpAny (model X.prog X.w) X.A (assignInOrder ((assignEach ts X.env).map (·.2)) us) (fun _ s'=>∃ σ' H',Inv X pins σ' H' s'∧Q σ' H') X.xe s
abbrev TSet:=V→V→V→Hp→(Hp→Prop)→Prop
def PSet (X:Cx) (t:TSet):Prop :=
  ∀(pins:List (Addr × Obj)) (s:Shared) (σ:St) (H:Hp) (o i v:V) (ov iv u:Value) (Q:Hp→Prop),Inv X pins σ H s→ar o ov→ar i iv→ar v u→t o i v H Q →
    wpAny (model X.prog X.w) X.A (setItem ov iv u) (fun _ s'=>∃ H',Inv X pins σ H' s'∧Q H') X.xe s
section
variable {X:Cx} {pos:Pos}
def zbi (i:Nat):TG:=fun v σ H Q=>Q (σ.set i (some v)) H
theorem zaY {i:Nat} {x:Str} (hN:X.N.Nodup) (hi:X.N[i]?=some x) (hx:Loc X.env.scope x) (hf:X.fn x=true∨X.env.scope.names.lookup x=some .local:=by first | exact .inl rfl | exact .inr rfl | assumption):PG X (.Name x pos) (zbi i):=by
  intro pins s σ H v u Q I r h
  exact wpAny_assign_Name (zdG I hN hi hx r (fun s' I'=>⟨_,H,I',h⟩) hf)
def gNil:TGs:=fun vs σ H Q=>vs=[]∧Q σ H
inductive gCons (t:TG) (u:TGs):TGs | mk {vs σ H Q} v r:vs=v :: r→(t v σ H fun σ' H'=>u r σ' H' Q)→gCons t u vs σ H Q
theorem zkC:PGs X [] gNil:=by
  intro pins s σ H vs us Q I r h
  obtain⟨e,h⟩:=h
  subst e
  cases r
  exact assignInOrder_nil ⟨σ,H,I,h⟩
theorem zgV {e:Expr} {es:List Expr} {t:TG} {u:TGs} (h1:PG X e t) (h2:PGs X es u)
    (hs:(assignEach (e :: es) X.env).map (·.2)=assign e X.env :: (assignEach es X.env).map (·.2):=by rfl):PGs X (e :: es) (gCons t u):=by
  intro pins s σ H vs us Q I r h
  obtain⟨v,vr,e1,h⟩:=h
  subst e1
  cases r with
  | cons r rr =>
    rw[hs]
    refine assignInOrder_cons (thn (h1 pins s σ H _ _ _ I r h) fun _ s1 ⟨σ1,H1,I1,q1⟩=>?_)
    exact h2 pins s1 σ1 H1 _ _ Q I1 rr q1
inductive gTup (K:PySem.W.Frag) (n:Nat) (t:TGs):TG | mk {v σ H Q} a xs:v=.ref a→SqT K H a xs→xs.length=n→t xs σ H Q→gTup K n t v σ H Q
theorem pg_tup {es:List Expr} {k:Nat} {t:TGs} {n:Nat} (hc:X.calm=true) (h:PGs X es t)
    (hn:(assignEach es X.env).length=n:=by rfl) (hst:(assignEach es X.env).findIdx? (·.1)=none:=by rfl):PG X (.Tuple es k pos) (gTup X.K n t):=by
  intro pins s σ H v u Q I r hw
  obtain⟨a,xs,e1,hq,hl,hw⟩:=hw
  subst e1
  cases r
  obtain⟨its,rv,ht,hz⟩:=I.tuple hq
  refine assign_Tuple_tuple (I.ok.hd hc) ht (by simp [hn,←hl,rv.length]) hst fun h' hx=>?_
  have I1:Inv X pins σ H { s with heap:=h' }:=I.kept (t':=s.toks) fun b o e=>hx b o (Nat.ne_of_lt (Heap.lt_size e)) e
  exact h pins _ σ H xs _ Q I1 (by simpa using rv) hw
def gSub (to ti:TE) (t:TSet):TG:=fun v σ H Q=>to σ H fun o H1=>ti σ H1 fun i H2=>t o i v H2 fun H3=>Q σ H3
theorem ziN {o i:Expr} {to ti:TE} {t:TSet} (ho:PE X o to) (hi:PE X i ti) (hs:PSet X t)
    (ha:∀ v,assign (.Subscript o i pos) X.env v=(do
      let ov ←holding [v] (eval o X.env)
      let iv ←holding [v,ov] (eval i X.env)
      standAt pos
      holding [v,ov,iv] (setItem ov iv v)
      release [v,ov,iv] []):=by intro _;rfl):PG X (.Subscript o i pos) (gSub to ti t):=by
  intro pins s σ H v u Q I r h
  rw[ha]
  refine wpAny_bind (wpAny_holding (thn (ho pins s σ H _ I h) fun ov s1 ⟨x,H1,I1,r1,q1⟩=>?_))
  refine wpAny_bind (wpAny_holding (thn (hi pins s1 σ H1 _ I1 q1) fun iv s2 ⟨y,H2,I2,r2,q2⟩=>?_))
  refine wpAny_bind (wpAny_standAt (wpAny_bind (wpAny_holding (thn (hs pins s2 σ H2 x y v ov iv u _ I2 r1 r2 r q2) fun _ s3 ⟨H3,I3,q3⟩=>?_))))
  exact wpAny_release ⟨σ,H3,I3,q3⟩
def zdO (te:TE) (g:TG):TS:=fun⟨n,_,_,_⟩ σ H=>te σ H fun x H1=>g x σ H1 n
theorem zat {i:Nat} {x:Str} {e:Expr} {te:TE} {pos':Pos} (hN:X.N.Nodup) (hi:X.N[i]?=some x) (hx:Loc X.env.scope x) (he:PE X e te) (hs:swapsWith e (some (.Name x pos')) pos.line X.env=pure false:=by rfl) (hf:X.fn x=true∨X.env.scope.names.lookup x=some .local:=by first | exact .inl rfl | exact .inr rfl | assumption) :
    PS X (.Assign [.Name x pos'] e pos) (zdO te (zbi i)):=by
  intro pins s σ H D I h
  refine wpAny_Assign_Name (thn (he pins s σ H _ I h) fun v s1 ⟨y,H1,I1,r1,q1⟩=>?_) hs
  exact zdG I1 hN hi hx r1 (fun s2 I2=>⟨_,H1,I2,q1⟩) hf
end
section
variable {X:Cx} {pos:Pos}
def tWhile (c:TT) (tb:TS):TS:=fun D σ H=>∃ W:Nat→St→Hp→Prop,(∃ m,W m σ H)∧∀ m σ H,W m σ H →
  c σ H fun b H1=>if b=true then ∃ N:St→Hp→Prop,(∀ σ' H',N σ' H'→∃ m',m' < m∧W m' σ' H')∧tb { D with nx:=N,ct:=N,bk:=D.nx } σ H1 else D.nx σ H1
theorem zgU {c:Expr} {body:List Stmt} {tc:TT} {tb:TS} (hp:PassesOwn (model X.prog X.w) X.A X.env X.xe) (hc:PT X c tc) (hb:PSs X body tb):PS X (.While c body [] pos) (tWhile tc tb):=by
  intro pins s σ H D I h
  obtain⟨W,⟨m0,w0⟩,turn⟩:=h
  refine wpAny_While (codeAny_whileLoop (fun n s'=>∃ σ' H',Inv X pins σ' H' s'∧W n σ' H') ?_ m0 ⟨σ,H,I,w0⟩)
  rintro n s1 ⟨σ1,H1,I1,w1⟩
  refine wpAny_passesOwn hp (thn (hc pins s1 σ1 H1 _ I1 (turn n σ1 H1 w1)) fun b s2 ⟨H2,I2,q2⟩=>?_)
  cases b with
  | true =>
    obtain⟨N,hN,q2⟩:=q2
    rw[if_pos rfl]
    refine wpAny_passesOwn hp (thn (hb pins s2 σ1 H2 _ I2 q2) fun f s3 q3=>?_)
    cases f with
    | next =>
      obtain⟨σ3,H3,I3,n3⟩:=q3
      obtain⟨m',hm,w3⟩:=hN σ3 H3 n3
      exact⟨m',hm,σ3,H3,I3,w3⟩
    | cont =>
      obtain⟨σ3,H3,I3,n3⟩:=q3
      obtain⟨m',hm,w3⟩:=hN σ3 H3 n3
      exact⟨m',hm,σ3,H3,I3,w3⟩
    | brk=>exact q3
    | ret v=>exact q3
  | false =>
    rw[if_neg Bool.false_ne_true]
    exact wpAny_execs_nil ⟨σ1,H2,I2,q2⟩
end
structure It where
  go:Nat→Hp→Prop
  yld:Nat→Hp→V→Hp→Prop
  stop:Nat→Hp→Prop
def zbt (X:Cx) (pins:List (Addr × Obj)) (H:Hp) (b:Addr):Prop :=
  H b=none∧b≠X.env.locals∧b∉X.fs∧(b∈X.ex∨X.s₀.heap.objs.size≤b)∧(∀ x c,X.env.cells.lookup x=some c→c≠b)∧∀ p∈X.pn++pins,p.1≠b
theorem Inv.fpOk {X:Cx} {pins:List (Addr × Obj)} {σ:St} {H H':Hp} {s:Shared} {b:Addr} (I:Inv X pins σ H s) (hb:s.heap.objs.size≤b) (hn:H' b=none):zbt X pins H' b:=by
  refine⟨hn,Nat.ne_of_gt (Nat.lt_of_lt_of_le I.lt hb),I.nofs hb,.inr (Nat.le_trans I.sz hb),fun x c e z=>?_,fun p hp z=>?_⟩
  · obtain⟨v,q⟩:=I.cell x c e
    exact absurd (Nat.lt_of_lt_of_le q.lt (by rw[z];exact hb)) (Nat.lt_irrefl _)
  · exact absurd (Nat.lt_of_lt_of_le (Heap.lt_size (I.pin p hp).1) (by rw[z];exact hb)) (Nat.lt_irrefl _)
structure Turn (P:Program) (w:World) (K:PySem.W.Frag) (tg:Expr) (J:It) (fp:List Addr) (it:Addr) (tn:Nat→Heap→Prop):Prop where
  mem:it∈fp
  obj:∀ i h,tn i h→∀ b∈fp,∃ o,h.get? b=some o∧∀ v,o.data≠.cell v
  keep:∀ i h h',tn i h→(∀ b∈fp,∀ o,h.get? b=some o→h'.get? b=some o)→tn i h'
  item:∀(X:Cx),X.prog=P→X.w=w→X.K=K→X.calm=true→∀(i:Nat) (pins:List (Addr × Obj)) (s:Shared) (σ:St) (H:Hp) (E:Value→Shared→Prop),Inv X pins σ H s→(∀ b∈fp,zbt X pins H b)→tn i s.heap→J.go i H →
    wpAny (model P w) X.A (pyNext (.ref it)) (fun r s1=>∃ u,r=some u ∧
      wpAny (model P w) X.A (letOwnedTupleGo tg (.ref it) u) (fun _ s2=>∃ x H',Inv X pins σ H' s2∧ar x u∧J.yld i H x H'∧tn (i+1) s2.heap∧∀ b∈fp,H' b=none) E s1) E s
  done:∀(X:Cx),X.prog=P→X.w=w→X.K=K→X.calm=true→∀(i:Nat) (pins:List (Addr × Obj)) (s:Shared) (σ:St) (H:Hp) (E:Value→Shared→Prop),Inv X pins σ H s→(∀ b∈fp,zbt X pins H b)→tn i s.heap→J.stop i H →
    wpAny (model P w) X.A (pyNext (.ref it)) (fun r s1=>r=none∧Inv X pins σ H s1) E s
  self:∀(A:Around) (i:Nat) (s:Shared) (Q:Value→Shared→Prop) (E:Value→Shared→Prop),tn i s.heap→Q (.ref it) s→wpAny (model P w) A (pyIter (.ref it)) Q E s
abbrev TI:=St→Hp→(It→Hp→Prop)→Prop
def PIE (X:Cx) (pins:List (Addr × Obj)) (σ:St) (tg:Expr) (R:It→Hp→Prop) (itv:Value) (s2:Shared):Prop :=
  ∃(it:Addr) (fp:List Addr) (tn:Nat→Heap→Prop) (J:It) (H':Hp),itv=.ref it∧Inv X pins σ H' s2∧Turn X.prog X.w X.K tg J fp it tn∧tn 0 s2.heap∧(∀ b∈fp,zbt X pins H' b)∧R J H'
def PI (X:Cx) (tg iter:Expr) (wi:TI):Prop :=
  ∀(pins:List (Addr × Obj)) (s:Shared) (σ:St) (H:Hp) (R:It→Hp→Prop),Inv X pins σ H s→wi σ H R →
    wpAny (model X.prog X.w) X.A (eval iter X.env) (fun v s1=>wpAny (model X.prog X.w) X.A (pyIter v) (PIE X pins σ tg R) X.xe s1) X.xe s
theorem zeZ {M:Model} {A:Around} {E:Value→Shared→Prop} {s:Shared} {tg:Expr} {it:Addr} {u:Value} {o:Obj} {n:String} {vs:Array Value} {Q:Unit→Shared→Prop} (ho:s.heap.get? it=some o) (hc:o.cls=.type n) (hd:o.data=.fields vs)
    (hn:["enumerate","zip","dict_itemiterator","dict_reverseitemiterator","odict_iterator","itertools.zip_longest","itertools.pairwise"].contains n=false) (hQ:Q () s):wpAny M A (letOwnedTupleGo tg (.ref it) u) Q E s:=by
  unfold letOwnedTupleGo
  cases tg <;> first
    | exact wpAny_pure hQ
    | (cases u <;> first
        | exact wpAny_pure hQ
        | (refine wpAny_bind (wpAny_load ho ?_)
           rw[hc,hd]
           show wpAny M A (if(["enumerate","zip","dict_itemiterator","dict_reverseitemiterator","odict_iterator","itertools.zip_longest","itertools.pairwise"].contains n&&vs[0]? == some (rawInt _))=true then _ else _) Q E s
           rw[if_neg (by intro h;rw[hn,Bool.false_and]at h;cases h)]
           exact wpAny_pure hQ))
def Itl (K:PySem.W.Frag) (a:Addr):It :=
  ⟨fun i H=>∃ xs x,SqL K H a xs∧xs[i]?=some x,fun i H x H'=>H'=H∧∀ xs,SqL K H a xs→xs[i]?=some x,fun i H=>∃ xs,SqL K H a xs∧xs.length≤i⟩
def Itt (K:PySem.W.Frag) (a:Addr):It :=
  ⟨fun i H=>∃ xs x,SqT K H a xs∧xs[i]?=some x,fun i H x H'=>H'=H∧∀ xs,SqT K H a xs→xs[i]?=some x,fun i H=>∃ xs,SqT K H a xs∧xs.length≤i⟩
def Itr (lo:Int) (n:Nat):It:=⟨fun i _=>i < n,fun i H x H'=>H'=H∧x=.int (lo+i),fun i _=>n≤i⟩
theorem zjg {P:Program} {w:World} {K:PySem.W.Frag} {tg:Expr} (a it:Addr):Turn P w K tg (Itl K a) [it] it (fun i h=>h.IsListIter it a i) where
  mem:=by simp
  obj:=fun i h st b hb=>by
    have e:b=it:=by simpa using hb
    subst e
    obtain⟨o,e,c,d⟩:=st
    exact⟨o,e,fun v z=>by rw[d]at z;cases z⟩
  keep:=fun i h h' st k=>st.at fun o e=>k it (by simp) o e
  item:=by
    intro X hP hw hK hc i pins s σ H E I hf st hg
    subst hP hw hK
    obtain⟨xs,x,hq,hx⟩:=hg
    obtain⟨its,rv,p,hz⟩:=I.list hq
    obtain⟨u,hu,ru⟩:=rv.get hx
    obtain⟨f0,f1,f2,f3,f4,f5⟩:=hf it (by simp)
    refine wpAny_pyNext_list_item st p.isList (x:=u) (by simpa using hu) fun h' st' sb=>?_
    have I1:Inv X pins σ H { s with heap:=h' }:=I.turned (t':=s.toks) (fun b o hb e=>(sb.2 b hb).trans e) f0 f1 f3 f4 f5
    obtain⟨o,e,c,d⟩:=id st'
    exact⟨u,rfl,zeZ (s:={ s with heap:=h' }) e c d (by decide) ⟨x,H,I1,ru,⟨rfl,fun ys hy=>by rw[I.list_inj hy hq];exact hx⟩,st',fun b hb=>(hf b hb).1⟩⟩
  done:=by
    intro X hP hw hK hc i pins s σ H E I hf st hg
    subst hP hw hK
    obtain⟨xs,hq,hx⟩:=hg
    obtain⟨its,rv,p,hz⟩:=I.list hq
    obtain⟨f0,f1,f2,f3,f4,f5⟩:=hf it (by simp)
    have hl:=rv.length
    exact wpAny_pyNext_list_end (I.ok.hd hc) st p.isList (by simp;omega) fun h' eb=>⟨rfl,I.turned (t':=s.toks) (fun b o hb e=>eb b o hb e) f0 f1 f3 f4 f5⟩
  self:=fun _ _ _ _ _ st h=>wpAny_pyIter_listiter st h
theorem zie {P:Program} {w:World} {K:PySem.W.Frag} {tg:Expr} (a it:Addr):Turn P w K tg (Itt K a) [it] it (fun i h=>h.IsTupleIter it a i) where
  mem:=by simp
  obj:=fun i h st b hb=>by
    have e:b=it:=by simpa using hb
    subst e
    obtain⟨o,e,c,d⟩:=st
    exact⟨o,e,fun v z=>by rw[d]at z;cases z⟩
  keep:=fun i h h' st k=>st.at fun o e=>k it (by simp) o e
  item:=by
    intro X hP hw hK hc i pins s σ H E I hf st hg
    subst hP hw hK
    obtain⟨xs,x,hq,hx⟩:=hg
    obtain⟨its,rv,p,hz⟩:=I.tuple hq
    obtain⟨u,hu,ru⟩:=rv.get hx
    obtain⟨f0,f1,f2,f3,f4,f5⟩:=hf it (by simp)
    refine wpAny_pyNext_tuple_item st (show s.heap.IsTuple a its.toArray from p) (x:=u) (by simpa using hu) fun h' st' sb=>?_
    have I1:Inv X pins σ H { s with heap:=h' }:=I.turned (t':=s.toks) (fun b o hb e=>(sb.2 b hb).trans e) f0 f1 f3 f4 f5
    obtain⟨o,e,c,d⟩:=id st'
    exact⟨u,rfl,zeZ (s:={ s with heap:=h' }) e c d (by decide) ⟨x,H,I1,ru,⟨rfl,fun ys hy=>by rw[I.tuple_inj hy hq];exact hx⟩,st',fun b hb=>(hf b hb).1⟩⟩
  done:=by
    intro X hP hw hK hc i pins s σ H E I hf st hg
    subst hP hw hK
    obtain⟨xs,hq,hx⟩:=hg
    obtain⟨its,rv,p,hz⟩:=I.tuple hq
    obtain⟨f0,f1,f2,f3,f4,f5⟩:=hf it (by simp)
    have hl:=rv.length
    exact wpAny_pyNext_tuple_end (I.ok.hd hc) st (show s.heap.IsTuple a its.toArray from p) (by simp;omega) fun h' eb=>⟨rfl,I.turned (t':=s.toks) (fun b o hb e=>eb b o hb e) f0 f1 f3 f4 f5⟩
  self:=fun _ _ _ _ _ st h=>wpAny_pyIter_tupleiter st h
theorem zif {P:Program} {w:World} {K:PySem.W.Frag} {tg:Expr} (it:Addr) (lo:Int) (n:Nat):Turn P w K tg (Itr lo n) [it] it (fun i h=>IsRangeIter h it (lo+(i:Nat) * 1) ((n:Int) - (i:Nat)) 1) where
  mem:=by simp
  obj:=fun i h st b hb=>by
    have e:b=it:=by simpa using hb
    subst e
    exact⟨_,st,fun v z=>by
      have z':Data.fields _=Data.cell v:=z
      cases z'⟩
  keep:=fun i h h' st k=>k it (by simp) _ st
  item:=by
    intro X hP hw hK hc i pins s σ H E I hf st hg
    subst hP hw hK
    obtain⟨f0,f1,f2,f3,f4,f5⟩:=hf it (by simp)
    have W:=Walks.range (prog:=X.prog) (w:=X.w) (I.ok.hd hc) it lo 1 n
    refine W.item i s _ _ hg st fun v h' tk hv st' kk=>?_
    obtain⟨t,rfl⟩:=hv
    have I1:Inv X pins σ H { s with heap:=h',toks:=tk }:=I.turned (fun b o hb e=>kk b o (by simpa using hb) e) f0 f1 f3 f4 f5
    refine⟨_,rfl,zeZ (s:={ s with heap:=h',toks:=tk }) (n:="range_iterator") st' rfl rfl (by decide) ⟨.int (lo+i),H,I1,⟨t,?_⟩,⟨rfl,rfl⟩,st',fun b hb=>(hf b hb).1⟩⟩
    rw[Int.mul_one]
  done:=by
    intro X hP hw hK hc i pins s σ H E I hf st hg
    subst hP hw hK
    obtain⟨f0,f1,f2,f3,f4,f5⟩:=hf it (by simp)
    exact wpAny_pyNext_range_end (I.ok.hd hc) st (by have:n≤i:=hg;omega) fun h' eb=>⟨rfl,I.turned (t':=s.toks) (fun b o hb e=>eb b o hb e) f0 f1 f3 f4 f5⟩
  self:=fun _ _ _ _ _ st h=>wpAny_pyIter_rangeiter st h
end L2
namespace L2
open PySem PySem.Spec PyProof.Rows
section
variable {X:Cx} {tg:Expr}
inductive rItl (K:PySem.W.Frag):V→Hp→(It→Hp→Prop)→Prop | mk {x H R} a:x=.ref a→(∃ xs,SqL K H a xs)→R (Itl K a) H→rItl K x H R
inductive rItt (K:PySem.W.Frag):V→Hp→(It→Hp→Prop)→Prop | mk {x H R} a:x=.ref a→(∃ xs,SqT K H a xs)→R (Itt K a) H→rItt K x H R
def zeY (K:PySem.W.Frag) (tl:TE):TI:=fun σ H R=>tl σ H fun x H1=>rItl K x H1 R
def iTup (K:PySem.W.Frag) (tl:TE):TI:=fun σ H R=>tl σ H fun x H1=>rItt K x H1 R
theorem zbL {l:Expr} {tl:TE} (hl:PE X l tl):PI X tg l (zeY X.K tl):=by
  intro pins s σ H R I h
  refine thn (hl pins s σ H _ I h) fun v s1 ⟨x,H1,I1,r1,q1⟩=>?_
  obtain⟨a,e,⟨xs,hq⟩,q⟩:=q1
  subst e
  cases r1
  obtain⟨its,rv,p,hz⟩:=I1.list hq
  refine wpAny_pyIter_list p.isList ?_
  refine⟨s1.heap.objs.size,[s1.heap.objs.size],_,_,H1,rfl,I1.kept (t':=s1.toks) fun b o e=>Heap.get?_push_of_some _ e,zjg a _,⟨_,Heap.get?_push_size _ rfl,rfl,rfl⟩,fun b hb=>?_,q⟩
  have e:b=s1.heap.objs.size:=by simpa using hb
  subst e
  exact I1.fpOk (Nat.le_refl _) (I1.hok.fresh (Nat.le_refl _))
theorem zfb {l:Expr} {tl:TE} (hl:PE X l tl):PI X tg l (iTup X.K tl):=by
  intro pins s σ H R I h
  refine thn (hl pins s σ H _ I h) fun v s1 ⟨x,H1,I1,r1,q1⟩=>?_
  obtain⟨a,e,⟨xs,hq⟩,q⟩:=q1
  subst e
  cases r1
  obtain⟨its,rv,p,hz⟩:=I1.tuple hq
  refine wpAny_pyIter_tuple (show s1.heap.IsTuple a its.toArray from p) ?_
  refine⟨s1.heap.objs.size,[s1.heap.objs.size],_,_,H1,rfl,I1.kept (t':=s1.toks) fun b o e=>Heap.get?_push_of_some _ e,zie a _,⟨_,Heap.get?_push_size _ rfl,rfl,rfl⟩,fun b hb=>?_,q⟩
  have e:b=s1.heap.objs.size:=by simpa using hb
  subst e
  exact I1.fpOk (Nat.le_refl _) (I1.hok.fresh (Nat.le_refl _))
theorem zjR {pins:List (Addr × Obj)} {σ:St} {H:Hp} {s:Shared} {R:It→Hp→Prop} {E:Value→Shared→Prop} {lo hi:Int} {t u v:Tok} {tk:Nat} (I:Inv X pins σ H s) (h1:-(2 ^ 62)≤lo) (h2:lo < 2 ^ 62) (h3:-(2 ^ 62)≤hi) (h4:hi < 2 ^ 62)
    (q:R (Itr lo (hi - lo).toNat) H):wpAny (model X.prog X.w) X.A (pyIter (.ref s.heap.objs.size)) (PIE X pins σ tg R) E { s with heap:=s.heap.push { cls:=.type "range",data:=.fields #[.int lo t,.int hi u,.int 1 v] },toks:=tk }:=by
  refine wpAny_pyIter_range (IsRange.new ..) (small_one h1 h2 h3 h4) ?_
  have I1:Inv X pins σ H { s with heap:=s.heap.push { cls:=.type "range",data:=.fields #[.int lo t,.int hi u,.int 1 v] },toks:=tk }:=I.kept fun b o e=>Heap.get?_push_of_some _ e
  refine⟨(s.heap.push { cls:=.type "range",data:=.fields #[.int lo t,.int hi u,.int 1 v] }).objs.size,[(s.heap.push { cls:=.type "range",data:=.fields #[.int lo t,.int hi u,.int 1 v] }).objs.size],_,_,H,rfl,
    I1.kept (t':=tk) fun b o e=>Heap.get?_push_of_some _ e,zif _ lo (hi - lo).toNat,?_,fun b hb=>?_,q⟩
  · have e1:lo+((0:Nat):Int) * 1=lo:=by simp
    have e2:(((hi - lo).toNat:Nat):Int) - ((0:Nat):Int)=Builtin.Range.rangeSize lo hi 1:=by rw[rangeSize_one];split <;> omega
    show IsRangeIter _ _ (lo+((0:Nat):Int) * 1) ((((hi - lo).toNat:Nat):Int) - ((0:Nat):Int)) 1
    rw[e1,e2]
    exact Heap.get?_push_size _ rfl
  · have e:b=(s.heap.push { cls:=.type "range",data:=.fields #[.int lo t,.int hi u,.int 1 v] }).objs.size:=by simpa using hb
    subst e
    exact I1.fpOk (Nat.le_refl _) (I1.hok.fresh (Nat.le_refl _))
def iRng1 (ta:TA):TI:=fun σ H R=>ta σ H fun vs H1=>∃ j:Int,vs=[.int j]∧-(2 ^ 62)≤j∧j < 2 ^ 62∧R (Itr 0 j.toNat) H1
theorem zd4 {a:Expr} {ta:TA} {p pos:Pos} (hg:Gl X "range") (hm:X.mg "range"=none) (ha:PA X [a] ta) (hs:starEach [a] X.env=[(false,eval a X.env)]:=by rfl):PI X tg (.Call (.Name "range" p) [a] [] pos) (iRng1 ta):=by
  intro pins s σ H R I h
  refine Call_ (zdo I hg hm boot_range (PyProof.Rows.callWith_type1 (thn (ha pos pins s σ H _ I h) fun us s1 ⟨vs,H1,I1,r1,q1⟩=>?_) hs rfl))
  obtain⟨j,e,q1,q2,q⟩:=q1
  subst e
  cases r1 with
  | cons r rr =>
    cases rr
    obtain⟨t,rfl⟩:=r
    exact call_range_1 (zjR I1 (by omega) (by omega) q1 q2 (by simpa using q))
def tFor (wi:TI) (g:TG) (tb:TS):TS:=fun D σ H=>wi σ H fun J H1=>∃ W:Nat→Nat→St→Hp→Prop,(∃ m,W 0 m σ H1)∧∀ i m σ H,W i m σ H →
  (J.stop i H∧D.nx σ H)∨(J.go i H∧∃ N:St→Hp→Prop,(∀ σ' H',N σ' H'→∃ m',m' < m∧W (i+1) m' σ' H')∧∀ x H',J.yld i H x H'→g x σ H' fun σ2 H2=>tb { D with nx:=N,ct:=N,bk:=D.nx } σ2 H2)
def zfa (fp:List Addr) (h:Heap):List (Addr × Obj):=fp.filterMap fun b=>(h.get? b).map fun o=>(b,o)
theorem zbm {fp:List Addr} {h:Heap} {b:Addr} {o:Obj} (hb:b∈fp) (e:h.get? b=some o):(b,o)∈zfa fp h:=List.mem_filterMap.mpr ⟨b,hb,by rw[e];rfl⟩
theorem zjr {fp:List Addr} {h:Heap} {p:Addr × Obj} (hp:p∈zfa fp h):p.1∈fp∧h.get? p.1=some p.2:=by
  obtain⟨b,hb,e⟩:=List.mem_filterMap.mp hp
  cases q:h.get? b with
  | none=>rw[q]at e;cases e
  | some o =>
    rw[q]at e
    have e':(b,o)=p:=Option.some.inj e
    subst e'
    exact⟨hb,q⟩
theorem Inv.pinned {pins:List (Addr × Obj)} {σ:St} {H:Hp} {s:Shared} {fp:List Addr} (I:Inv X pins σ H s) (hf:∀ b∈fp,zbt X pins H b) (ho:∀ b∈fp,∃ o,s.heap.get? b=some o∧∀ v,o.data≠.cell v):Inv X (pins++zfa fp s.heap) σ H s :=
  I.pins_of fun p hp=>(List.mem_append.mp hp).elim (fun z=>I.pin p (List.mem_append_right _ z)) fun z=>by
    obtain⟨hb,e⟩:=zjr z
    obtain⟨f0,f1,f2,_⟩:=hf p.1 hb
    obtain⟨o,e',d⟩:=ho p.1 hb
    rw[e]at e';cases e'
    exact⟨e,f0,f1,f2,d⟩
theorem Inv.unpinned {pins pl:List (Addr × Obj)} {σ:St} {H:Hp} {s:Shared} (I:Inv X (pins++pl) σ H s):Inv X pins σ H s:=I.pins_of fun p hp=>I.pin p (List.mem_append_right _ (List.mem_append_left _ hp))
theorem zbF {iter:Expr} {body:List Stmt} {wi:TI} {g:TG} {tb:TS} {pos:Pos} (hp:PassesOwn (model X.prog X.w) X.A X.env X.xe) (hc:X.calm=true) (hi:PI X tg iter wi) (hg:PG X tg g) (hb:PSs X body tb)
    (hs:∀ x,foldedSetIterable iter X.env x=pure x:=by intro _;rfl):PS X (.For tg iter body [] pos) (tFor wi g tb):=by
  intro pins s σ H D I h
  refine wpAny_For (thn (hi pins s σ H _ I h) fun v s1 h1=>thn h1 fun itv s2 h2=>?_) hs
  obtain⟨it,fp,tn,J,H2,e,I2,T,st2,f2,W,⟨m0,w0⟩,turn⟩:=h2
  subst e
  have stat:∀ {H':Hp},(∀ b∈fp,H' b=none)→∀ b∈fp,zbt X pins H' b:=fun hn b hb=>⟨hn b hb,(f2 b hb).2⟩
  refine codeAny_forLoop_any (fun n s'=>∃ i σ' H',Inv X pins σ' H' s'∧tn i s'.heap∧(∀ b∈fp,H' b=none)∧W i n σ' H') ?_ m0 ⟨0,σ,H2,I2,st2,fun b hb=>(f2 b hb).1,w0⟩
  rintro n s3 ⟨i,σ3,H3,I3,st3,fr3,w3⟩
  rcases turn i n σ3 H3 w3 with ⟨stop,qn⟩ | ⟨go,N,hN,step⟩
  · refine wpAny_passesOwn hp (thn (T.done X rfl rfl rfl hc i pins s3 σ3 H3 X.xe I3 (stat fr3) st3 stop) fun r s4 ⟨hr,I4⟩=>?_)
    subst hr
    exact wpAny_execs_nil ⟨σ3,H3,I4,qn⟩
  · refine wpAny_passesOwn hp (thn (T.item X rfl rfl rfl hc i pins s3 σ3 H3 X.xe I3 (stat fr3) st3 go) fun r s4 ⟨u,hr,h4⟩=>?_)
    subst hr
    refine wpAny_passesOwn hp (thn h4 fun _ s5 ⟨x,H5,I5,r5,y5,st5,fr5⟩=>?_)
    have I5':=I5.pinned (stat fr5) (T.obj _ _ st5)
    refine wpAny_passesOwn hp (thn (hg _ s5 σ3 H5 x u _ I5' r5 (step x H5 y5)) fun _ s6 ⟨σ6,H6,I6,q6⟩=>?_)
    refine wpAny_passesOwn hp (thn (hb _ s6 σ6 H6 _ I6 q6) fun f s7 q7=>?_)
    have again:∀ {σ7:St} {H7:Hp},Inv X (pins++zfa fp s5.heap) σ7 H7 s7→N σ7 H7→∃ m,m < n∧∃ i σ' H',Inv X pins σ' H' s7∧tn i s7.heap∧(∀ b∈fp,H' b=none)∧W i m σ' H':=fun {σ7 H7} I7 n7=>by
      obtain⟨m',hm,w7⟩:=hN σ7 H7 n7
      refine⟨m',hm,i+1,σ7,H7,I7.unpinned,T.keep _ _ _ st5 fun b hb o e=>(I7.pin (b,o) (List.mem_append_right _ (List.mem_append_right _ (zbm hb e)))).1,fun b hb=>?_,w7⟩
      obtain⟨o,e,d⟩:=T.obj _ _ st5 b hb
      exact(I7.pin (b,o) (List.mem_append_right _ (List.mem_append_right _ (zbm hb e)))).2.1
    cases f with
    | next=>obtain⟨σ7,H7,I7,n7⟩:=q7;exact again I7 n7
    | cont=>obtain⟨σ7,H7,I7,n7⟩:=q7;exact again I7 n7
    | brk=>obtain⟨σ7,H7,I7,q7⟩:=q7;exact⟨σ7,H7,I7.unpinned,q7⟩
    | ret v=>obtain⟨x7,σ7,H7,I7,r7,q7⟩:=q7;exact⟨x7,σ7,H7,I7.unpinned,r7,q7⟩
end
theorem zfS {lo:Int} {n:Nat} {g:TG} {tb:TS} {D:zaU} {σ:St} {H:Hp} (Pv:Nat→St→Hp→Prop) (h0:Pv 0 σ H)
    (hs:∀ i σ H,i < n→Pv i σ H→g (.int (lo+i)) σ H fun σ2 H2=>tb { D with nx:=Pv (i+1),ct:=Pv (i+1),bk:=D.nx } σ2 H2) (hd:∀ σ H,Pv n σ H→D.nx σ H) :
    ∃ W:Nat→Nat→St→Hp→Prop,(∃ m,W 0 m σ H)∧∀ i m σ H,W i m σ H →
      ((Itr lo n).stop i H∧D.nx σ H)∨((Itr lo n).go i H∧∃ N:St→Hp→Prop,(∀ σ' H',N σ' H'→∃ m',m' < m∧W (i+1) m' σ' H')∧∀ x H',(Itr lo n).yld i H x H'→g x σ H' fun σ2 H2=>tb { D with nx:=N,ct:=N,bk:=D.nx } σ2 H2):=by
  refine⟨fun i m σ H=>m=n - i∧i≤n∧Pv i σ H,⟨n,by simp,Nat.zero_le _,h0⟩,?_⟩
  rintro i m σ H ⟨rfl,hi,p⟩
  by_cases hlt:i < n
  · refine .inr ⟨hlt,Pv (i+1),fun σ' H' p'=>⟨n - (i+1),by omega,rfl,hlt,p'⟩,fun x H' y=>?_⟩
    obtain⟨e,y⟩:=y
    subst e y
    exact hs i σ _ hlt p
  · have e:i=n:=by omega
    subst e
    exact .inl ⟨Nat.le_refl _,hd σ H p⟩
end L2
namespace L2
open PySem PySem.Spec PyProof.Rows
abbrev R2:=V→V→Hp→VK→Prop
def OpR (X:Cx) (f:Value→Value→Sem Value) (r:R2):Prop :=
  ∀(pins:List (Addr × Obj)) (s:Shared) (σ:St) (H:Hp) (x y:V) (v u:Value) (Q:VK),Inv X pins σ H s→ar x v→ar y u→r x y H Q →
    wpAny (model X.prog X.w) X.A (f v u) (EP X pins σ Q) X.xe s
def UnR (X:Cx) (f:Value→Sem Value) (r:V→Hp→VK→Prop):Prop :=
  ∀(pins:List (Addr × Obj)) (s:Shared) (σ:St) (H:Hp) (x:V) (v:Value) (Q:VK),Inv X pins σ H s→ar x v→r x H Q →
    wpAny (model X.prog X.w) X.A (f v) (EP X pins σ Q) X.xe s
def zby (X:Cx) (f:Value) (r:List V→Hp→VK→Prop):Prop :=
  ∀(pins:List (Addr × Obj)) (s:Shared) (σ:St) (H:Hp) (xs:List V) (us:List Value) (Q:VK),Inv X pins σ H s→ap xs us→r xs H Q →
    wpAny (model X.prog X.w) X.A (call f us) (EP X pins σ Q) X.xe s
def tOp (r:R2) (ta tb:TE):TE:=fun σ H Q=>ta σ H fun x H1=>tb σ H1 fun y H2=>r x y H2 Q
def tUn (r:V→Hp→VK→Prop) (ta:TE):TE:=fun σ H Q=>ta σ H fun x H1=>r x H1 Q
inductive rI (C:Int→Int→Prop) (g:Int→Int→V):R2 | mk {x y H Q} i j:x=.int i→y=.int j→C i j→Q (g i j) H→rI C g x y H Q
inductive rI0 (g:Int→Int→V):R2 | mk {x y H Q} i j:x=.int i→y=.int j→Q (g i j) H→rI0 g x y H Q
inductive rU (g:Int→V):V→Hp→VK→Prop | mk {x H Q} i:x=.int i→Q (g i) H→rU g x H Q
section
variable {X:Cx} {a b c:Expr} {ta tb tc:TE} {pos:Pos}
theorem binT (ha:PE X a ta) (hb:PE X b tb) {pins:List (Addr × Obj)} {s:Shared} {σ:St} {H:Hp} {R:V→V→Hp→Prop} (I:Inv X pins σ H s)
    (h:ta σ H fun x H1=>tb σ H1 fun y H2=>R x y H2) {Q:Value→Shared→Prop} {f:Value→Value→Sem Value}
    (hf:∀ v u s2 x y H2,Inv X pins σ H2 s2→ar x v→ar y u→R x y H2→wpAny (model X.prog X.w) X.A (f v u) Q X.xe s2) :
    wpAny (model X.prog X.w) X.A (eval a X.env) (fun v s₁=>wpAny (model X.prog X.w) X.A (eval b X.env) (fun u s₂=>wpAny (model X.prog X.w) X.A (f v u) Q X.xe s₂) X.xe s₁) X.xe s:=by
  refine thn (ha pins s σ H _ I h) fun v s1 ⟨x,H1,I1,r1,q1⟩=>?_
  refine thn (hb pins s1 σ H1 _ I1 q1) fun u s2 ⟨y,H2,I2,r2,q2⟩=>?_
  exact hf v u s2 x y H2 I2 r1 r2 q2
theorem aj {op:Operator} {r:R2} (ho:OpR X (binaryOp op) r) (ha:PE X a ta) (hb:PE X b tb):PE X (.BinOp a op b pos) (tOp r ta tb):=by
  intro pins s σ H Q I h
  exact wpAny_BinOp (binT ha hb I h fun v u s2 x y H2 I2 rx ry q=>ho pins s2 σ H2 x y v u Q I2 rx ry q)
theorem pe_un {op:UnaryOp} {r:V→Hp→VK→Prop} (ho:UnR X (unaryOp op) r) (ha:PE X a ta):PE X (.UnaryOp op a pos) (tUn r ta):=by
  intro pins s σ H Q I h
  exact UnaryOp_ (thn (ha pins s σ H _ I h) fun v s1 ⟨x,H1,I1,r1,q1⟩=>ho pins s1 σ H1 x v Q I1 r1 q1)
theorem opI {f:Value→Value→Sem Value} {C:Int→Int→Prop} {g:Int→Int→Int}
    (rule:∀(i j:Int) (t u:Tok) (s:Shared) (Q:Value→Shared→Prop) (E:Value→Shared→Prop),C i j→Q (.int (g i j) s.toks) { s with toks:=s.toks+1 }→wpAny (model X.prog X.w) X.A (f (.int i t) (.int j u)) Q E s) :
    OpR X f (rI C fun i j=>.int (g i j)):=by
  intro pins s σ H x y v u Q I rx ry h
  obtain⟨i,j,rfl,rfl,hc,q⟩:=h
  obtain⟨t,rfl⟩:=rx
  obtain⟨t',rfl⟩:=ry
  exact rule i j t t' s _ _ hc ⟨.int (g i j),H,I.tok _,⟨_,rfl⟩,q⟩
theorem opI0 {f:Value→Value→Sem Value} {g:Int→Int→Int}
    (rule:∀(i j:Int) (t u:Tok) (s:Shared) (Q:Value→Shared→Prop) (E:Value→Shared→Prop),Q (.int (g i j) s.toks) { s with toks:=s.toks+1 }→wpAny (model X.prog X.w) X.A (f (.int i t) (.int j u)) Q E s) :
    OpR X f (rI0 fun i j=>.int (g i j)):=by
  intro pins s σ H x y v u Q I rx ry h
  obtain⟨i,j,rfl,rfl,q⟩:=h
  obtain⟨t,rfl⟩:=rx
  obtain⟨t',rfl⟩:=ry
  exact rule i j t t' s _ _ ⟨.int (g i j),H,I.tok _,⟨_,rfl⟩,q⟩
theorem opB0 {f:Value→Value→Sem Value} {g:Int→Int→Bool}
    (rule:∀(i j:Int) (t u:Tok) (s:Shared) (Q:Value→Shared→Prop) (E:Value→Shared→Prop),Q (.bool (g i j)) s→wpAny (model X.prog X.w) X.A (f (.int i t) (.int j u)) Q E s) :
    OpR X f (rI0 fun i j=>.bl (g i j)):=by
  intro pins s σ H x y v u Q I rx ry h
  obtain⟨i,j,rfl,rfl,q⟩:=h
  obtain⟨t,rfl⟩:=rx
  obtain⟨t',rfl⟩:=ry
  exact rule i j t t' s _ _ ⟨.bl (g i j),H,I,rfl,q⟩
def CDiv (i j:Int):Prop:=0 < j∧j < 1073741824
def CMul (i j:Int):Prop:=(-(2 ^ 64) < i∧i < 2 ^ 64)∨(-(2 ^ 64) < j∧j < 2 ^ 64)
theorem CMul.ok {i j:Int} (h:CMul i j):IntMulOk i j:=by
  rcases h with ⟨h1,h2⟩ | ⟨h1,h2⟩
  · exact .of_left (intBits_le_64 h1 h2)
  · exact .of_right (intBits_le_64 h1 h2)
theorem zbA:OpR X (binaryOp .Add) (rI0 fun i j=>.int (i+j)):=opI0 fun _ _ _ _ _ _ _ q=>add_int q
theorem zcr:OpR X (binaryOp .Sub) (rI0 fun i j=>.int (i - j)):=opI0 fun _ _ _ _ _ _ _ q=>sub_int q
theorem zdW:OpR X (binaryOp .Mult) (rI CMul fun i j=>.int (i * j)):=opI fun _ _ _ _ _ _ _ hc q=>mul_int q hc.ok
theorem zbh:OpR X (binaryOp .FloorDiv) (rI CDiv fun i j=>.int (i / j)):=opI fun i j _ _ _ _ _ hc q=>by
  have h1:(0:Int) < j:=hc.1
  have h2:j < 1073741824:=hc.2
  exact floordiv_int (by omega) (by rw[Int.fdiv_eq_ediv_of_nonneg i (by omega)];exact q) (.inl (PyProof.noPylong_small (by omega)))
theorem zaE:OpR X (binaryOp .Mod) (rI (fun _ j=>0 < j) fun i j=>.int (i % j)):=opI fun i j _ _ _ _ _ hc q=>by
  have h1:(0:Int) < j:=hc
  exact mod_int' (by omega) (by rw[Int.fmod_eq_emod_of_nonneg i (by omega)];exact q)
theorem unI {f:Value→Sem Value} {g:Int→Int}
    (rule:∀(i:Int) (t:Tok) (s:Shared) (Q:Value→Shared→Prop) (E:Value→Shared→Prop),Q (.int (g i) s.toks) { s with toks:=s.toks+1 }→wpAny (model X.prog X.w) X.A (f (.int i t)) Q E s) :
    UnR X f (rU fun i=>.int (g i)):=by
  intro pins s σ H x v Q I rx h
  obtain⟨i,rfl,q⟩:=h
  obtain⟨t,rfl⟩:=rx
  exact rule i t s _ _ ⟨.int (g i),H,I.tok _,⟨_,rfl⟩,q⟩
theorem un_neg:UnR X (unaryOp .USub) (rU fun i=>.int (-i)):=unI fun _ _ _ _ _ q=>neg_int q
end
def scal:V→V→Bool
  | .non,.non=>true | .non,.int _=>true | .int _,.non=>true | .non,.bl _=>true | .bl _,.non=>true | .non,.str _=>true | .str _,.non=>true
  | .int _,.int _=>true | .bl _,.bl _=>true | .str _,.str _=>true | .byt _,.byt _=>true
  | .int _,.str _=>true | .str _,.int _=>true | .bl _,.str _=>true | .str _,.bl _=>true
  | _,_=>false
def rEq:R2:=fun x y H Q=>scal x y=true∧Q (.bl (decide (x=y))) H
def rNe:R2:=fun x y H Q=>scal x y=true∧Q (.bl (!decide (x=y))) H
theorem zhP {i j:Int}:decide (V.int i=V.int j)=(i == j):=by
  rw[Bool.eq_iff_iff]
  simp
theorem zi7 {i j:Bool}:decide (V.bl i=V.bl j)=(i == j):=by
  rw[Bool.eq_iff_iff]
  simp
theorem zhO {i j:Str}:decide (V.str i=V.str j)=(i == j):=by
  rw[Bool.eq_iff_iff]
  simp
theorem zhQ {i j:Array UInt8}:decide (V.byt i=V.byt j)=(i.toList == j.toList):=by
  rw[Bool.eq_iff_iff]
  cases i
  cases j
  simp
section
variable {X:Cx} {a b c:Expr} {ta tb tc:TE} {pos:Pos}
theorem zav {pins:List (Addr × Obj)} {σ:St} {H:Hp} {s:Shared} {Q:VK} {k k':Bool} (I:Inv X pins σ H s) (q:Q (.bl k) H) (e:k=k'):EP X pins σ Q (.bool k') s:=by
  subst e
  exact⟨.bl k,H,I,rfl,q⟩
theorem za1:OpR X (compareOp .Eq) rEq:=by
  intro pins s σ H x y v u Q I rx ry h
  obtain⟨hs,q⟩:=h
  cases x with
  | non =>
    cases rx
    cases y with
    | non=>cases ry;exact PySem.EqNone.eq_none_none (zav I q (by simp))
    | bl j=>cases ry;exact PySem.EqNone.eq_none_bool (zav I q (by simp))
    | int j=>obtain⟨t',rfl⟩:=ry;exact PySem.EqNone.eq_none_int (zav I q (by simp))
    | str j=>obtain⟨t',rfl⟩:=ry;exact PySem.EqNone.eq_none_str (zav I q (by simp))
    | _=>exact absurd (show false=true from hs) Bool.false_ne_true
  | bl i =>
    cases rx
    cases y with
    | non=>cases ry;exact PySem.EqNone.eq_bool_none (zav I q (by simp))
    | bl j=>cases ry;exact eq_bool (zav I q zi7)
    | str j=>obtain⟨t',rfl⟩:=ry;exact PySem.EqMixed.eq_bool_str (zav I q (by simp))
    | _=>exact absurd (show false=true from hs) Bool.false_ne_true
  | int i =>
    obtain⟨t,rfl⟩:=rx
    cases y with
    | non=>cases ry;exact PySem.EqNone.eq_int_none (zav I q (by simp))
    | int j=>obtain⟨t',rfl⟩:=ry;exact eq_int (zav I q zhP)
    | str j=>obtain⟨t',rfl⟩:=ry;exact PySem.EqMixed.eq_int_str (zav I q (by simp))
    | _=>exact absurd (show false=true from hs) Bool.false_ne_true
  | str i =>
    obtain⟨t,rfl⟩:=rx
    cases y with
    | non=>cases ry;exact PySem.EqNone.eq_str_none (zav I q (by simp))
    | bl j=>cases ry;exact PySem.EqMixed.eq_str_bool (zav I q (by simp))
    | int j=>obtain⟨t',rfl⟩:=ry;exact PySem.EqMixed.eq_str_int (zav I q (by simp))
    | str j=>obtain⟨t',rfl⟩:=ry;exact eq_str (zav I q zhO)
    | _=>exact absurd (show false=true from hs) Bool.false_ne_true
  | byt i =>
    obtain⟨t,rfl⟩:=rx
    cases y with
    | byt j=>obtain⟨t',rfl⟩:=ry;exact PySem.W.eq_bytes (zav I q zhQ)
    | _=>exact absurd (show false=true from hs) Bool.false_ne_true
  | _=>cases y <;> exact absurd (show false=true from hs) Bool.false_ne_true
theorem zh7:OpR X (compareOp .NotEq) rNe:=by
  intro pins s σ H x y v u Q I rx ry h
  obtain⟨hs,q⟩:=h
  cases x with
  | non =>
    cases rx
    cases y with
    | non=>cases ry;exact PySem.EqNone.ne_none_none (zav I q (by simp))
    | bl j=>cases ry;exact PySem.EqNone.ne_none_bool (zav I q (by simp))
    | int j=>obtain⟨t',rfl⟩:=ry;exact PySem.EqNone.ne_none_int (zav I q (by simp))
    | str j=>obtain⟨t',rfl⟩:=ry;exact PySem.EqNone.ne_none_str (zav I q (by simp))
    | _=>exact absurd (show false=true from hs) Bool.false_ne_true
  | bl i =>
    cases rx
    cases y with
    | non=>cases ry;exact PySem.EqNone.ne_bool_none (zav I q (by simp))
    | bl j=>cases ry;exact ne_bool (zav I q (congrArg not zi7))
    | str j=>obtain⟨t',rfl⟩:=ry;exact PySem.EqMixed.ne_bool_str (zav I q (by simp))
    | _=>exact absurd (show false=true from hs) Bool.false_ne_true
  | int i =>
    obtain⟨t,rfl⟩:=rx
    cases y with
    | non=>cases ry;exact PySem.EqNone.ne_int_none (zav I q (by simp))
    | int j=>obtain⟨t',rfl⟩:=ry;exact ne_int (zav I q (congrArg not zhP))
    | str j=>obtain⟨t',rfl⟩:=ry;exact PySem.EqMixed.ne_int_str (zav I q (by simp))
    | _=>exact absurd (show false=true from hs) Bool.false_ne_true
  | str i =>
    obtain⟨t,rfl⟩:=rx
    cases y with
    | non=>cases ry;exact PySem.EqNone.ne_str_none (zav I q (by simp))
    | bl j=>cases ry;exact PySem.EqMixed.ne_str_bool (zav I q (by simp))
    | int j=>obtain⟨t',rfl⟩:=ry;exact PySem.EqMixed.ne_str_int (zav I q (by simp))
    | str j=>obtain⟨t',rfl⟩:=ry;exact ne_str (zav I q (congrArg not zhO))
    | _=>exact absurd (show false=true from hs) Bool.false_ne_true
  | byt i =>
    obtain⟨t,rfl⟩:=rx
    cases y with
    | byt j=>obtain⟨t',rfl⟩:=ry;exact PySem.W.ne_bytes (zav I q (congrArg not zhQ))
    | _=>exact absurd (show false=true from hs) Bool.false_ne_true
  | _=>cases y <;> exact absurd (show false=true from hs) Bool.false_ne_true
theorem op_lt:OpR X (compareOp .Lt) (rI0 fun i j=>.bl (decide (i < j))):=opB0 fun _ _ _ _ _ _ _ q=>lt_int q
theorem op_le:OpR X (compareOp .LtE) (rI0 fun i j=>.bl (decide (i≤j))):=opB0 fun _ _ _ _ _ _ _ q=>le_int q
theorem zeW:OpR X (compareOp .Gt) (rI0 fun i j=>.bl (decide (j < i))):=opB0 fun _ _ _ _ _ _ _ q=>gt_int q
theorem zfO:OpR X (compareOp .In) (fun x y H Q=>∃ i j,x=.str i∧y=.str j∧Q (.bl (!(Builtin.Str.occurrences j i 0 j.length 1).isEmpty)) H):=by
  intro pins s σ H x y v u Q I rx ry h
  obtain⟨i,j,rfl,rfl,q⟩:=h
  obtain⟨t,rfl⟩:=rx
  obtain⟨t',rfl⟩:=ry
  exact in_str (zav I q rfl)
theorem OpR.or {f:Value→Value→Sem Value} {r r':R2} (h:OpR X f r) (h':OpR X f r'):OpR X f (fun x y H Q=>r x y H Q∨r' x y H Q):=by
  intro pins s σ H x y v u Q I rx ry q
  rcases q with q | q
  · exact h pins s σ H x y v u Q I rx ry q
  · exact h' pins s σ H x y v u Q I rx ry q
theorem zau (b:Expr) {op:CmpOp} (h:op≠.In:=by decide) (h2:op≠.NotIn:=by decide):behindInMarks op b=false:=by
  have e1:(op == CmpOp.In)=false:=by cases op <;> first | rfl | exact absurd rfl h
  have e2:(op == CmpOp.NotIn)=false:=by cases op <;> first | rfl | exact absurd rfl h2
  cases b <;> simp [behindInMarks,e1,e2]
theorem zcH {op:CmpOp} {r:R2} (ho:OpR X (compareOp op) r) (ha:PE X a ta) (hb:PE X b tb) (hm:behindInMarks op b=false):PE X (.Compare a [op] [b] pos) (tOp r ta tb):=by
  intro pins s σ H Q I h
  exact wpAny_Compare1 (binT ha hb I h fun v u s2 x y H2 I2 rx ry q=>ho pins s2 σ H2 x y v u Q I2 rx ry q) hm
def tTest (t:TE):TT:=fun σ H Q=>t σ H fun x H'=>isB x H' Q
theorem zak {op:CmpOp} {r:R2} (ho:OpR X (compareOp op) r) (ha:PE X a ta) (hb:PE X b tb) (hm:behindInMarks op b=false):PT X (.Compare a [op] [b] pos) (tTest (tOp r ta tb)):=by
  intro pins s σ H Q I h
  refine wpAny_isTrue_Compare1 (thn (ha pins s σ H _ I h) fun v s1 ⟨x,H1,I1,r1,q1⟩=>thn (hb pins s1 σ H1 _ I1 q1) fun u s2 ⟨y,H2,I2,r2,q2⟩ =>
    thn (ho pins s2 σ H2 x y v u _ I2 r1 r2 q2) fun c s3 ⟨z,H3,I3,r3,k,e,q3⟩=>?_) hm
  subst e
  cases r3
  exact wpAny_truthy_bool ⟨H3,I3,q3⟩
theorem zdn:(sizeLine:Nat) < 2 ^ 63:=by rw[sizeLine_eq];decide
theorem zal:OpR X (binaryOp .Add) (fun x y H Q=>∃ i j,x=.str i∧y=.str j∧i.length+j.length≤sizeLine∧Q (.str (i++j)) H):=by
  intro pins s σ H x y v u Q I rx ry h
  obtain⟨i,j,rfl,rfl,hz,q⟩:=h
  obtain⟨t,rfl⟩:=rx
  obtain⟨t',rfl⟩:=ry
  exact add_str (fun t' tk=>⟨.str (i++j),H,I.tok _,⟨_,rfl⟩,q⟩) hz
theorem zdD {x:V} {us:List Value} (r:ap [x] us):∃ u,us=[u]∧ar x u:=by
  cases r with
  | cons r1 r2=>cases r2;exact⟨_,rfl,r1⟩
theorem zh0 {x y:V} {us:List Value} (r:ap [x,y] us):∃ u w',us=[u,w']∧ar x u∧ar y w':=by
  cases r with
  | cons r1 r2 =>
    cases r2 with
    | cons r3 r4=>cases r4;exact⟨_,_,rfl,r1,r3⟩
theorem zjD:zby X (.type "int") (fun xs H Q=>(∃ i,xs=[.int i]∧Q (.int i) H)∨∃ k,xs=[.bl k]∧Q (.int (if k then 1 else 0)) H):=by
  intro pins s σ H xs us Q I r h
  rcases h with ⟨i,rfl,q⟩ | ⟨k,rfl,q⟩
  · obtain⟨u,rfl,t,rfl⟩:=zdD r
    exact call_int_int ⟨.int i,H,I,⟨_,rfl⟩,q⟩
  · obtain⟨u,rfl,r1⟩:=zdD r
    cases r1
    exact call_int_bool ⟨.int (if k then 1 else 0),H,I.tok _,⟨_,rfl⟩,q⟩
end
end L2
namespace L2
open PySem PySem.Spec PyProof.Rows
structure zev (h:Heap) (x dx C:Addr) (mA:Str→Option Value):Prop where
  obj:h.get? x=some (PySem.W.instObj C dx)
  ns:h.Ns1 dx mA
  ne:dx≠x
theorem zjw {h:Heap} {dx:Addr} {mA:Str→Option Value} (n:h.Ns1 dx mA):∃ od,h.get? dx=some od∧∀ name,PySem.W.lookIn name od=some (mA name):=by
  obtain⟨o,es,ep,ho,hd,hk,_,hm⟩:=n
  refine⟨o,ho,fun name=>?_⟩
  have e:=hm name
  unfold nsFind findBy at e
  rw[←Array.find?_toList]at e
  unfold PySem.W.lookIn
  rw[hd]
  dsimp only
  split
  · rename_i y q
    rw[q]at e
    exact congrArg some e
  · rename_i q
    rw[q]at e
    have a:es.toList.any (·.refKey)=false:=by
      rw[List.any_eq_false]
      intro y hy
      obtain⟨z,t,hkey⟩:=hk y (Array.mem_toList_iff.mp hy)
      simp [DictEntry.refKey,hkey]
    have a':¬es.toList.any (·.refKey)=true:=by rw[a];exact Bool.false_ne_true
    rw[if_neg a']
    exact congrArg some e
theorem zev.look {h:Heap} {x dx C:Addr} {mA:Str→Option Value} (I:zev h x dx C mA):∃ od,PySem.W.InstAt h x (PySem.W.instObj C dx) C (some od)∧∀ name,PySem.W.lookIn name od=some (mA name) :=
  let ⟨od,ho,hl⟩:=zjw I.ns
  ⟨od,⟨I.obj,rfl,rfl,ho⟩,hl⟩
section
variable {prog:Program} {w:World} {A:Around} {E:Value→Shared→Prop} {s:Shared} {K:PySem.W.Frag} {x dx C f:Addr} {mA:Str→Option Value} {name:Str} {v:Value}
theorem zk1 {expr:Bool} {Q:Value→Shared→Prop} (X:K.In s.heap) (I:zev s.heap x dx C mA) (hg:PySem.W.plainGet K C name=true) (hh:PySem.W.hasDictIn K C=true)
    (ha:PySem.W.findIn K (.ref C) name=some none) (hv:mA name=some v) (hv':PySem.W.handedIn v=true) (h:Q v { s with toks:=s.toks+1 }) :
    wpAny (model prog w) A (getAttr (.ref x) name expr) Q E s:=by
  obtain⟨od,J,hl⟩:=I.look
  exact PySem.W.get_value X J (PySem.W.plainGet_of hg).1 (PySem.W.findObj_own hh ha rfl (by rw[hl,hv])) hv' h
theorem zkd {pl:Sem Bool} {Q:Value × List Value→Shared→Prop} (X:K.In s.heap) (I:zev s.heap x dx C mA) (hg:PySem.W.plainGet K C name=true)
    (hf:PySem.W.findIn K (.ref C) name=some (some (.ref f))) (ht:PySem.W.isFn K (.ref f)=true) (hv:mA name=none) (h:Q (.ref f,[.ref x]) s) :
    wpAny (model prog w) A (getMethod (.ref x) name pl) Q E s:=by
  obtain⟨od,J,hl⟩:=I.look
  exact PySem.W.method_fn X J (PySem.W.plainGet_of hg).1 (PySem.W.plainGet_of hg).2 hf (beq_iff_eq.mp ht) (by show(PySem.W.lookIn name od).map (·.isSome)=some false;rw[hl,hv];rfl) h
theorem zkv {ns:List Str} {Q:Unit→Shared→Prop} (X:K.In s.heap) (I:zev s.heap x dx C mA)
    (hs:PySem.W.findIn K (.ref C) "__setattr__"=some (some (.builtin "object.__setattr__"))) (hp:PySem.W.plainOver K C=true) (ht:PySem.W.takerIn K C name=some none) (hh:PySem.W.hasDictIn K C=true)
    (hw:PySem.Within mA ns) (hsz:ns.length≤sizeLine)
    (h:∀ h',zev h' x dx C (fun y=>if y=name then some v else mA y)→Heap.SameBut dx s.heap h'→Q () { s with heap:=h',toks:=s.toks+2 }) :
    wpAny (model prog w) A (setAttr (.ref x) name v) Q E s:=by
  obtain⟨od,J,hl⟩:=I.look
  refine PySem.W.set_plain X J hs (PySem.W.osa_open (s:={ s with toks:=s.toks+1 }) (r:=none) X J hp ht fun b=>?_)
  obtain⟨cd,hc,hd'⟩:=PySem.W.any_some hh
  have hx:s.heap.get? x=some ⟨.ref C,some dx,.plain,#[]⟩:=I.obj
  refine wpAny_bind (wpAny_pure (wpAny_bind (wpAny_bind (wpAny_loadPart hx (wpAny_bind (PySem.W.Looks.here (s:={ s with toks:=s.toks+1 }) (PySem.W.looks_clsIn X hc) ?_))))))
  rw[hd']
  refine wpAny_pure (a:=some dx) (wpAny_bind (wpAny_pure (wpAny_bind ?_)))
  refine wpAny_nsSet1 (s:={ s with toks:=s.toks+1 }) I.ns fun h' hn2 hs2=>?_
  obtain⟨oD,esD,epD,hoD,hdD,hcD⟩:=hn2.count (PySem.Within.cons name v hw)
  refine wpAny_bind (wpAny_lookBehind hoD (by rw[hdD];exact pastItsLine_dict (Nat.le_trans hcD (by rw[List.length_cons];omega))) ?_)
  exact wpAny_pure (h _ ⟨(hs2.2 _ (Ne.symm I.ne)).trans I.obj,hn2,I.ne⟩ hs2)
theorem zj9 {R:Result→Shared→Prop} {vs:List Value} {kw:List (Str × Value)} (X:K.In s.heap) (hm:PySem.W.makesIn K C=true)
    (hi:PySem.W.findIn K (.ref C) "__init__"=some (some (.ref f))) (hf:PySem.W.typeIn K (.ref f)=some (.type "function"))
    (h:codeAny (model prog w) (A.under (.builtin "type.__call__" ⟨.ref C :: vs,kw⟩)) (.call (.ref f) ⟨.ref (s.heap.objs.size+1) :: vs,kw⟩) (PySem.W.InitBack (s.heap.objs.size+1) R)
      { s with heap:=(s.heap.push PySem.W.emptyDict).push (PySem.W.instObj C s.heap.objs.size) }) :
    codeAny (model prog w) A (.call (.ref C) ⟨vs,kw⟩) R s:=by
  obtain⟨hh,g,d,t,os⟩:=s
  exact PySem.W.make_core (PySem.W.makes_of X hm) (PySem.W.looks_findIn X hi) (fun self=>PySem.W.bind_fn X self hf) (.inl rfl) h
end
def zaN (f:Str) (v:V):List (Str × V)→List (Str × V)
  | []=>[(f,v)]
  | (g,x) :: r=>if g=f then(g,v) :: r else(g,x) :: zaN f v r
theorem zbr (f g:Str) (v:V):∀ fs:List (Str × V),(zaN f v fs).lookup g=if g=f then some v else fs.lookup g
  | []=>by
    show List.lookup g [(f,v)]=_
    by_cases h:g=f
    · have hb:(g == f)=true:=beq_iff_eq.mpr h
      simp only[List.lookup,hb,if_pos h]
    · have hb:(g == f)=false:=beq_eq_false_iff_ne.mpr h
      simp only[List.lookup,hb,if_neg h]
  | (k,x) :: r=>by
    have ih:=zbr f g v r
    rw[show zaN f v ((k,x) :: r)=(if k=f then(k,v) :: r else(k,x) :: zaN f v r) from rfl]
    by_cases hk:k=f
    · rw[if_pos hk]
      by_cases h:g=k
      · have hb:(g == k)=true:=beq_iff_eq.mpr h
        simp only[List.lookup,hb,if_pos (h.trans hk)]
      · have hb:(g == k)=false:=beq_eq_false_iff_ne.mpr h
        simp only[List.lookup,hb,if_neg (fun e:g=f=>h (e.trans hk.symm))]
    · rw[if_neg hk]
      by_cases h:g=k
      · have hb:(g == k)=true:=beq_iff_eq.mpr h
        simp only[List.lookup,hb,if_neg (fun e:g=f=>hk (h.symm.trans e))]
      · have hb:(g == k)=false:=beq_eq_false_iff_ne.mpr h
        simp only[List.lookup,hb]
        exact ih
theorem zd6 (f:Str) (v:V):∀ fs:List (Str × V),f∈(zaN f v fs).map (·.1)∧∀ g,g∈fs.map (·.1)→g∈(zaN f v fs).map (·.1)
  | []=>⟨by simp [zaN],fun g h=>by simp at h⟩
  | (k,x) :: r=>by
    obtain⟨i1,i2⟩:=zd6 f v r
    rw[show zaN f v ((k,x) :: r)=(if k=f then(k,v) :: r else(k,x) :: zaN f v r) from rfl]
    by_cases hk:k=f
    · rw[if_pos hk]
      subst hk
      exact⟨by simp,fun g h=>by simpa using h⟩
    · rw[if_neg hk]
      refine⟨?_,fun g h=>?_⟩
      · rw[List.map_cons]
        exact List.mem_cons_of_mem _ i1
      · rw[List.map_cons]at h ⊢
        rcases List.mem_cons.mp h with e | e
        · exact List.mem_cons.mpr (.inl e)
        · exact List.mem_cons_of_mem _ (i2 g e)
theorem zeq (f:Str) (v:V):∀ fs:List (Str × V),(zaN f v fs).length≤fs.length+1
  | []=>by simp [zaN]
  | (k,x) :: r=>by
    have ih:=zeq f v r
    rw[show zaN f v ((k,x) :: r)=(if k=f then(k,v) :: r else(k,x) :: zaN f v r) from rfl]
    by_cases hk:k=f
    · rw[if_pos hk,List.length_cons,List.length_cons];omega
    · rw[if_neg hk,List.length_cons,List.length_cons];omega
theorem zdb.some_of {v:V} {o:Option Value} (r:zdb (some v) o):∃ u,o=some u∧ar v u:=by
  cases o with
  | none=>exact(show False from r).elim
  | some u=>exact⟨u,rfl,r⟩
theorem zdb.none_of {o:Option Value} (r:zdb none o):o=none:=by
  cases o with
  | none=>rfl
  | some u=>exact(show False from r).elim
theorem zjz {v:V} {u:Value} (r:ar v u):PySem.W.handedIn u=true:=by
  cases v with
  | non=>cases (show u=Value.none from r);rfl
  | bl b=>cases (show u=Value.bool b from r);rfl
  | int i=>obtain⟨t,e⟩:=(show ∃ t,u=Value.int i t from r);cases e;rfl
  | str x=>obtain⟨t,e⟩:=(show ∃ t,u=Value.str x t from r);cases e;rfl
  | byt b=>obtain⟨t,e⟩:=(show ∃ t,u=Value.bytes b t from r);cases e;rfl
  | flt b=>obtain⟨t,e⟩:=(show ∃ t,u=Value.float b t from r);cases e;rfl
  | ref a=>cases (show u=Value.ref a from r);rfl
  | ty n=>cases (show u=Value.type n from r);rfl
section
variable {P:Program} {w:World} {H H':Hp} {h h':Heap} {a C dx:Addr} {fs fs':List (Str × V)}
theorem zfD (hok:HOk P w H h) (e:H a=some (.ins C dx fs)):∃ mA,zev h a dx C mA∧(∀ f,zdb (fs.lookup f) (mA f))∧PySem.Within mA (fs.map (·.1))∧fs.length≤1000∧H dx=some (.own a):=by
  obtain⟨d,z,ne,ob,mA,n,r,q⟩:=(show zba P w H h a (.ins C dx fs) from hok a _ e)
  exact⟨mA,⟨ob,n,ne⟩,r,q,z,d⟩
end
structure Cls (K:PySem.W.Frag) (C:Addr):Prop where
  pg:PySem.W.plainGet K C Str.empty=true
  hd:PySem.W.hasDictIn K C=true
  po:PySem.W.plainOver K C=true
  sa:PySem.W.findIn K (.ref C) "__setattr__"=some (some (.builtin "object.__setattr__"))
theorem Cls.get {K:PySem.W.Frag} {C:Addr} (c:Cls K C) (f:Str):PySem.W.plainGet K C f=true:=c.pg
def zcb (K:PySem.W.Frag) (C:Addr) (f:Str):Prop:=PySem.W.findIn K (.ref C) f=some none
theorem zcb.taker {K:PySem.W.Frag} {C:Addr} {f:Str} (n:zcb K C f):PySem.W.takerIn K C f=some none:=by
  unfold PySem.W.takerIn
  rw[show PySem.W.findIn K (.ref C) f=some none from n]
  rfl
structure zbQ (K:PySem.W.Frag) (C:Addr) (m:Str) (f:Addr):Prop where
  at_:PySem.W.findIn K (.ref C) m=some (some (.ref f))
  fn:PySem.W.isFn K (.ref f)=true
  kp:PySem.W.keepIn K (.ref f)=true
section
variable {X:Cx} {pins:List (Addr × Obj)} {σ:St} {H:Hp} {s:Shared} {a C dx:Addr} {fs:List (Str × V)} {f:Str} {v:V} {A:Around} {E:Value→Shared→Prop}
theorem zfl {b:Bool} {Q:Value→Shared→Prop} (I:Inv X pins σ H s) (e:H a=some (.ins C dx fs)) (c:Cls X.K C) (n:zcb X.K C f) (l:fs.lookup f=some v)
    (h:∀ u s',Inv X pins σ H s'→ar v u→Q u s'):wpAny (model X.prog X.w) A (getAttr (.ref a) f b) Q E s:=by
  obtain⟨mA,O,r,_,_,_⟩:=zfD I.hok e
  obtain⟨u,hu,ru⟩:=zdb.some_of (v:=v) (o:=mA f) (by rw[←l];exact r f)
  exact zk1 I.kIn O (c.get f) c.hd n hu (zjz ru) (h u _ (I.tok _) ru)
theorem zdL {m:Str} {g:Addr} {pl:Sem Bool} {Q:Value × List Value→Shared→Prop} (I:Inv X pins σ H s) (e:H a=some (.ins C dx fs)) (c:Cls X.K C) (k:zbQ X.K C m g) (l:fs.lookup m=none)
    (h:Q (.ref g,[.ref a]) s):wpAny (model X.prog X.w) A (getMethod (.ref a) m pl) Q E s:=by
  obtain⟨mA,O,r,_,_,_⟩:=zfD I.hok e
  have hn:mA m=none:=zdb.none_of (by rw[←l];exact r m)
  exact zkd I.kIn O (c.get m) k.at_ k.fn hn h
theorem zfg {y:V} {u:Value} {Q:Unit→Shared→Prop} (I:Inv X pins σ H s) (e:H a=some (.ins C dx fs)) (c:Cls X.K C) (n:zcb X.K C f) (hl:fs.length < 1000) (ry:ar y u)
    (h:∀ s',Inv X pins σ (upd H a (.ins C dx (zaN f y fs))) s'→Q () s'):wpAny (model X.prog X.w) A (setAttr (.ref a) f u) Q E s:=by
  obtain⟨mA,O,r,wi,_,ho⟩:=zfD I.hok e
  have hz:(fs.map (·.1)).length≤sizeLine:=by rw[List.length_map,sizeLine_eq];omega
  refine zkv I.kIn O c.sa c.po n.taker c.hd wi hz fun h' O' sb=>h _ ?_
  have hd:∃ o,h'.get? dx=some o:=let ⟨o,_,_,e',_⟩:=O'.ns;⟨o,e'⟩
  refine I.write (x:=a) (e:=dx) (by rw[e];exact True.intro) (.inr ho) (fun b q hb z=>(sb.2 b hb).trans z) hd ?_
  refine⟨by rw[zag O.ne];exact ho,?_,O.ne,O'.obj,_,O'.ns,fun g=>?_,fun g hg=>?_⟩
  · have:=zeq f y fs;omega
  · show zdb ((zaN f y fs).lookup g) (if g=f then some u else mA g)
    rw[zbr]
    by_cases q:g=f
    · rw[if_pos q,if_pos q];exact ry
    · rw[if_neg q,if_neg q];exact r g
  · by_cases q:g=f
    · rw[q];exact(zd6 f y fs).1
    · refine(zd6 f y fs).2 g (wi g fun z=>hg ?_)
      show(if g=f then some u else mA g)=none
      rw[if_neg q];exact z
theorem Inv.made (I:Inv X pins σ H s):Inv X pins σ (upd (upd H s.heap.objs.size (.own (s.heap.objs.size+1))) (s.heap.objs.size+1) (.ins C s.heap.objs.size []))
    { s with heap:=(s.heap.push PySem.W.emptyDict).push (PySem.W.instObj C s.heap.objs.size) }:=by
  have e1:(s.heap.push PySem.W.emptyDict).get? s.heap.objs.size=some PySem.W.emptyDict:=Heap.get?_push_size s.heap rfl
  have e2:((s.heap.push PySem.W.emptyDict).push (PySem.W.instObj C s.heap.objs.size)).get? (s.heap.objs.size+1)=some (PySem.W.instObj C s.heap.objs.size):=by
    have:=Heap.get?_push_size (s.heap.push PySem.W.emptyDict) (o:=PySem.W.instObj C s.heap.objs.size) rfl
    rwa [Heap.size_push]at this
  have e3:(s.heap.push PySem.W.emptyDict).Ns s.heap.objs.size (fun _=>none):=⟨PySem.W.emptyDict,#[],_,e1,rfl,(fun e he=>absurd he (by simp)),fun _=>rfl⟩
  have I1:=I.laid (a:=s.heap.objs.size) (o:=.own (s.heap.objs.size+1)) (h':=s.heap.push PySem.W.emptyDict) (t':=s.toks) (fun b u q=>Heap.get?_push_of_some _ q) (Nat.le_refl _) ⟨_,e1⟩
  refine I1.laid (a:=s.heap.objs.size+1) (o:=.ins C s.heap.objs.size []) (t':=s.toks) (fun b u q=>Heap.get?_push_of_some _ q) (Nat.le_of_eq (Heap.size_push _ _)) ?_
  have ne:s.heap.objs.size≠s.heap.objs.size+1:=Nat.ne_of_lt (Nat.lt_succ_self _)
  refine⟨by rw[zag ne,zaa],Nat.zero_le _,ne,e2,fun _=>none,(Heap.Ns1.of_empty e3).at fun o q=>Heap.get?_push_of_some _ q,fun _=>True.intro,fun y hy=>absurd rfl hy⟩
theorem zk8 {prog:Program} {w:World} {env:Env} {e:Expr} {f:Str} {pos:Pos} {s:Shared} {Q:Value→Shared→Prop} (hb:attributeBase e f env (eval e env)=eval e env)
    (h:wpAny (model prog w) A (eval e env) (fun o s₁=>wpAny (model prog w) A (getAttr o f true) Q E s₁) E s):wpAny (model prog w) A (eval (.Attribute e f pos) env) Q E s :=
  Attribute_any_ h (by rw[arm_eval_Attribute,hb])
end
inductive rFld (K:PySem.W.Frag) (f:Str):V→Hp→VK→Prop | mk {x H Q} a C dx fs v:x=.ref a→H a=some (.ins C dx fs)→Cls K C→zcb K C f→fs.lookup f=some v→Q v H→rFld K f x H Q
def tFld (K:PySem.W.Frag) (ta:TE) (f:Str):TE:=fun σ H Q=>ta σ H fun x H1=>rFld K f x H1 Q
def sFld (K:PySem.W.Frag) (ta tv:TE) (f:Str):TS:=fun D σ H=>tv σ H fun y H1=>ta σ H1 fun x H2=>∃ a C dx fs,x=.ref a∧H2 a=some (.ins C dx fs)∧Cls K C∧zcb K C f∧fs.length < 1000 ∧
  D.nx σ (upd H2 a (.ins C dx (zaN f y fs)))
def InOp (X:Cx) (op:Operator) (rd:V→V→Hp→VK→Prop):Prop :=
  ∀(pins:List (Addr × Obj)) (s:Shared) (σ:St) (H:Hp) (x y:V) (u v:Value) (Q:VK),Inv X pins σ H s→ar x u→ar y v→rd x y H Q→wpAny (model X.prog X.w) X.A (inplaceOp op u v) (EP X pins σ Q) X.xe s
def zkB (K:PySem.W.Frag) (ta tv:TE) (rd:V→V→Hp→VK→Prop) (f:Str):TS:=fun D σ H=>ta σ H fun x H1=>∃ a C dx fs v,x=.ref a∧H1 a=some (.ins C dx fs)∧Cls K C∧zcb K C f∧fs.lookup f=some v ∧
  tv σ H1 fun y H2=>rd v y H2 fun z H3=>∃ dx' fs',H3 a=some (.ins C dx' fs')∧fs'.length < 1000∧D.nx σ (upd H3 a (.ins C dx' (zaN f z fs')))
section
variable {X:Cx} {o e value:Expr} {f:Str} {pos pos' tpos:Pos} {ta tv:TE}
theorem zbW (he:PE X e ta) (hb:attributeBase e f X.env (eval e X.env)=eval e X.env):PE X (.Attribute e f pos) (tFld X.K ta f):=by
  intro pins s σ H Q I h
  refine zk8 hb (thn (he pins s σ H _ I h) fun u s1 ⟨x,H1,I1,rx,a,C,dx,fs,v,ex,ea,c,n,l,q⟩=>?_)
  subst ex
  obtain rfl:u=Value.ref a:=rx
  exact zfl I1 ea c n l fun u' s2 I2 ru=>⟨v,H1,I2,ru,q⟩
theorem ziL (ha:PE X o ta) (hv:PE X value tv) (hs:swapsWith value (some (.Attribute o f pos')) pos.line X.env=pure false):PS X (.Assign [.Attribute o f pos'] value pos) (sFld X.K ta tv f):=by
  intro pins s σ H D I h
  refine plainObj_wpAny_Assign_Attribute (thn (hv pins s σ H _ I h) fun u s1 ⟨y,H1,I1,ry,q⟩=>thn (ha pins s1 σ H1 _ I1 q) fun ov s2 ⟨x,H2,I2,rx,a,C,dx,fs,ex,ea,c,n,l,q2⟩=>?_) hs
  subst ex
  obtain rfl:ov=Value.ref a:=rx
  exact zfg I2 ea c n l ry fun s3 I3=>⟨σ,_,I3,q2⟩
theorem zfM {op:Operator} {rd:V→V→Hp→VK→Prop} (ha:PE X o ta) (hv:PE X value tv) (hop:InOp X op rd):PS X (.AugAssign (.Attribute o f tpos) op value pos) (zkB X.K ta tv rd f):=by
  intro pins s σ H D I h
  refine wpAny_AugAssign_AttributeAny (thn (ha pins s σ H _ I h) fun ov s1 ⟨x,H1,I1,rx,a,C,dx,fs,v,ex,ea,c,n,l,q⟩=>?_)
  subst ex
  obtain rfl:ov=Value.ref a:=rx
  refine zfl I1 ea c n l fun u s2 I2 ru=>thn (hv pins s2 σ H1 _ I2 q) fun w3 s3 ⟨y,H2,I3,ry,q3⟩=>thn (hop pins s3 σ H2 v y u w3 _ I3 ru ry q3) fun w4 s4 ⟨z,H3,I4,rz,dx',fs',ea',l',q4⟩=>?_
  exact zfg I4 ea' c n l' rz fun s5 I5=>⟨σ,_,I5,q4⟩
inductive rAdd:V→V→Hp→VK→Prop | mk {x y H Q} i j:x=.int i→y=.int j→Q (.int (i+j)) H→rAdd x y H Q
theorem zi2:InOp X .Add rAdd:=by
  rintro pins s σ H x y u v Q I rx ry ⟨i,j,rfl,rfl,q⟩
  obtain⟨t,rfl⟩:=(show ∃ t,u=Value.int i t from rx)
  obtain⟨t',rfl⟩:=(show ∃ t',v=Value.int j t' from ry)
  exact PyProof.Rows.iadd_int ⟨.int (i+j),H,I.tok _,⟨_,rfl⟩,q⟩
theorem zle {pl:Sem Bool} {m:Str} {apos:Pos} {args:List Expr} {pins:List (Addr × Obj)} {s:Shared} {σ:St} {H:Hp} {Q:Value→Shared→Prop} {te:TE} (he:PE X e te) (I:Inv X pins σ H s)
    (h:te σ H fun x H1=>∃ a C dx fs g,x=.ref a∧H1 a=some (.ins C dx fs)∧Cls X.K C∧zbQ X.K C m g∧fs.lookup m=none ∧
      ∀ s1,Inv X pins σ H1 s1→wpAny (model X.prog X.w) X.A (callWith pos (.ref g) [.ref a] (backTo pos (starEach args X.env)) (backToKw pos (keywordEach [] X.env))) Q X.xe s1)
    (ht:eval (.Call (.Attribute e m apos) args [] pos) X.env=(do
      let ov ←eval e X.env
      standAt apos.atName
      let (f,first) ←holding [ov] (getMethod ov m pl)
      callWith pos f first (backTo pos (starEach args X.env)) (backToKw pos (keywordEach [] X.env)))) :
    wpAny (model X.prog X.w) X.A (eval (.Call (.Attribute e m apos) args [] pos) X.env) Q X.xe s:=by
  refine PySem.W.methodCall_KW (pl:=pl) (thn (he pins s σ H _ I h) fun u s1 ⟨x,H1,I1,rx,a,C,dx,fs,g,ex,ea,c,k,l,q⟩=>?_) ht
  subst ex
  obtain rfl:u=Value.ref a:=rx
  exact zdL I1 ea c k l (q s1 I1)
end
section
variable {X:Cx} {pins:List (Addr × Obj)} {σ:St} {H:Hp} {s:Shared} {A:Around} {E:Value→Shared→Prop} {Q:Value→Shared→Prop} {c:Value} {b:Bool}
end
end L2
namespace L2
open PySem PySem.Spec PyProof.Rows
structure zai (k:Nat) (A:Around):Prop where
  hd:A.handled=none
  dp:A.depth+3 * k+5 < recursionLimit
  un:A.units+16 * k+200 < cLine
  gd:A.guards=some []
theorem zai.mono {j k:Nat} {A:Around} (r:zai k A) (h:j≤k):zai j A:=⟨r.hd,by have:=r.dp;omega,by have:=r.un;omega,r.gd⟩
theorem zai.deeper {k:Nat} {A:Around} (r:zai (k+1) A) (env:Env):zai k (A.deeper env) :=
  ⟨r.hd,by have:=r.dp;show A.depth+1+3 * k+5 < _;omega,by have:=r.un;show A.units+3+16 * k+200 < _;omega,r.gd⟩
theorem zit {A:Around} {C:Addr} {us:List Value} {kw:List (Str × Value)}:(A.under (.builtin "type.__call__" ⟨.ref C :: us,kw⟩)).depth=A.depth+1:=by
  first | rfl | simp [Around.under,Code.weight,Code.isCreation,Code.isGuard,Code.isCaller,Code.frames,Code.isFrame,guardIds]
theorem zis {A:Around} {C:Addr} {us:List Value} {kw:List (Str × Value)}:(A.under (.builtin "type.__call__" ⟨.ref C :: us,kw⟩)).units=A.units+1:=by
  first | rfl | simp [Around.under,Code.cUnits,Code.frames,Code.isFrame]
theorem zhd {A:Around} {C:Addr} {us:List Value} {kw:List (Str × Value)} (h:A.guards=some []):(A.under (.builtin "type.__call__" ⟨.ref C :: us,kw⟩)).guards=some []:=by
  first | exact h | simp [Around.under,Code.guards,Code.isGuard,guardIds,pushGuards,h]
theorem zai.make {k:Nat} {A:Around} (r:zai (k+1) A) (C:Addr) (us:List Value) (kw:List (Str × Value)):zai k (A.under (.builtin "type.__call__" ⟨.ref C :: us,kw⟩)) :=
  ⟨r.hd,by have:=r.dp;rw[zit];omega,by have:=r.un;rw[zis];omega,zhd r.gd⟩
theorem zai.depth {k:Nat} {A:Around} (r:zai k A):A.depth < recursionLimit:=by have:=r.dp;omega
theorem zai.units {k:Nat} {A:Around} (r:zai k A):A.units+64 < cLine:=by have:=r.un;omega
def zbY:TA:=fun _ H Q=>Q [] H
def zbE (ta:TE) (tr:TA):TA:=fun σ H Q=>ta σ H fun x H1=>tr σ H1 fun xs H2=>Q (x :: xs) H2
section
variable {X:Cx} {e:Expr} {es:List Expr} {te:TE} {t:TA} {pos:Pos}
theorem ac:PA X [] zbY:=fun _ _ _ _ H Q I h=>Calls.spliced_nil ⟨[],H,I,.nil,h⟩
theorem aa (ha:PE X e te) (hr:PA X es t) (hs:starEach (e :: es) X.env=(false,eval e X.env) :: starEach es X.env:=by rfl):PA X (e :: es) (zbE te t):=by
  intro pos pins s σ H Q I h
  rw[hs]
  show wpAny _ _ (spliced ((false,eval e X.env) :: backTo pos (starEach es X.env))) _ _ s
  refine Calls.spliced_cons (thn (ha pins s σ H _ I h) fun u s1 ⟨x,H1,I1,r1,q1⟩=>?_)
  exact thn (hr pos pins s1 σ H1 _ I1 q1) fun us s2 ⟨xs,H2,I2,r2,q2⟩=>⟨x :: xs,H2,I2,.cons r1 r2,q2⟩
def tTup (t:TA):TE:=fun σ H Q=>t σ H fun xs H1=>xs.length≤sizeLine∧∀ p,H1 p=none→Q (.ref p) (upd H1 p (.tup xs))
def tLst (t:TA):TE:=fun σ H Q=>t σ H fun xs H1=>xs.length≤sizeLine∧∀ p,H1 p=none→Q (.ref p) (upd H1 p (.lst xs))
theorem zbG {x1} (h:PA X es t):PE X (.Tuple es x1 pos) (tTup t):=by
  intro pins s σ H Q I hq
  refine wpAny_Tuple_spliced (thn (h pos pins s σ H _ I hq) fun us s1 ⟨xs,H1,I1,r,z,q⟩=>⟨by rw[←r.length];exact z,?_⟩)
  have hf:H1 s1.heap.objs.size=none:=I1.hok.fresh (Nat.le_refl _)
  refine⟨.ref s1.heap.objs.size,upd H1 s1.heap.objs.size (.tup xs),I1.laid (t':=s1.toks) (fun b u e=>Heap.get?_push_of_some _ e) (Nat.le_refl _) ?_,rfl,q _ hf⟩
  exact⟨z,us,r,⟨_,Heap.get?_push_size _ rfl,rfl,_,rfl⟩⟩
theorem za7 (h:PA X es t):PE X (.List es pos) (tLst t):=by
  intro pins s σ H Q I hq
  refine wpAny_List_spliced (thn (h pos pins s σ H _ I hq) fun us s1 ⟨xs,H1,I1,r,z,q⟩=>⟨by rw[←r.length];exact z,?_⟩)
  have hf:H1 s1.heap.objs.size=none:=I1.hok.fresh (Nat.le_refl _)
  refine⟨.ref s1.heap.objs.size,upd H1 s1.heap.objs.size (.lst xs),I1.laid (t':=s1.toks) (fun b u e=>Heap.get?_push_of_some _ e) (Nat.le_refl _) ?_,rfl,q _ hf⟩
  exact⟨z,us,0,r,Heap.get?_push_size _ rfl⟩
end
abbrev Sp:=List V→Hp→VK→XK→Prop
abbrev CXT:=List Env→Hp→Shared→XK→Value→Shared→Prop
structure zdP (P:Program) (w:World) (K:PySem.W.Frag) (mg:Str→Option Value) (base:Heap) (A:Around) (outer:List Env) (s:Shared) (H:Hp):Prop where
  frames:A.frames=some outer
  mod:Mod K mg base
  bs:∀ b o,base.get? b=some o→s.heap.get? b=some o∧H b=none
  bsz:base.objs.size≤s.heap.objs.size
  funs:s.heap.FunFrames base outer
  frf:∀ b∈frs outer,H b=none
  hok:HOk P w H s.heap
  bare:AllBare s.gens
def CE (outer:List Env) (P:Program) (w:World) (H:Hp) (s:Shared) (Q:VK) (u:Value) (s':Shared):Prop :=
  ∃ v H',s'.os=s.os∧AllBare s'.gens∧Un (frs outer) [] H H' s.heap s'.heap∧HOk P w H' s'.heap∧ar v u∧Q v H'
def CR (CX:CXT) (outer:List Env) (P:Program) (w:World) (H:Hp) (s:Shared) (Q:VK) (E:XK) (r:Result) (s':Shared):Prop :=
  match r with
  | .ok (.ret u)=>CE outer P w H s Q u s'
  | .ok _=>False
  | .error e=>CX outer H s E e s'
structure FnOk (P:Program) (w:World) (K:PySem.W.Frag) (mg:Str→Option Value) (base:Heap) (CX:CXT) (k:Nat) (f:Addr) (fd:FuncData) (ps:List Str) (sp:Sp):Prop where
  len:∀ vs H Q E,sp vs H Q E→vs.length=ps.length
  run:∀(A:Around) (outer:List Env) (s:Shared) (H:Hp) (args:Args) (us:List Value) (vs:List V) (Q:VK) (E:XK),zai k A→zdP P w K mg base A outer s H→BindsTo s fd args (ps.zip us)→ap vs us→sp vs H Q E →
    codeAny (model P w) A (.call (.ref f) args) (CR CX outer P w H s Q E) s
theorem FnOk.imp {P:Program} {w:World} {K:PySem.W.Frag} {mg:Str→Option Value} {base:Heap} {CX:CXT} {k:Nat} {f:Addr} {fd:FuncData} {ps:List Str} {sp sp':Sp} (F:FnOk P w K mg base CX k f fd ps sp)
    (h:∀ vs H Q E,sp' vs H Q E→sp vs H Q E):FnOk P w K mg base CX k f fd ps sp' :=
  ⟨fun vs H Q E q=>F.len vs H Q E (h _ _ _ _ q),fun A outer s H args us vs Q E hr he hb hv hs=>F.run A outer s H args us vs Q E hr he hb hv (h _ _ _ _ hs)⟩
theorem zdP.make {P:Program} {w:World} {K:PySem.W.Frag} {mg:Str→Option Value} {base:Heap} {A:Around} {outer:List Env} {s:Shared} {H:Hp} (e:zdP P w K mg base A outer s H) (C:Addr) (us:List Value) (kw:List (Str × Value)) :
    zdP P w K mg base (A.under (.builtin "type.__call__" ⟨.ref C :: us,kw⟩)) outer s H:=⟨by first | exact e.frames | (simpa [Around.under,Code.envs,Code.isFrame,pushEnvs] using e.frames),e.mod,e.bs,e.bsz,e.funs,e.frf,e.hok,e.bare⟩
section
variable {X:Cx} {pins:List (Addr × Obj)} {σ:St} {H:Hp} {s s':Shared}
theorem Inv.env0 (I:Inv X pins σ H s):zdP X.prog X.w X.K X.mg X.base X.A X.stack s H :=
  ⟨I.ok.frames,I.ok.mod,I.bs,Nat.le_trans I.ok.bsz I.sz,I.stack,I.stkFree,I.hok,I.bare⟩
theorem Inv.after {Q:VK} {u:Value} (I:Inv X pins σ H s) (h:CE X.stack X.prog X.w H s Q u s'):EP X pins σ Q u s':=by
  obtain⟨v,H',os,bare,un,hok,r,q⟩:=h
  obtain⟨hh,g,d,t,os'⟩:=s'
  obtain rfl:os'=s.os:=os
  exact⟨v,H',I.call (h':=hh) (g':=g) (d':=d) (t':=t) (ch:=[]) un hok bare (fun b z=>absurd z (by simp)),r,q⟩
end
def zcA (sp:Sp) (dvs:List V) (E:XK) (t:TA):TE:=fun σ H Q=>t σ H fun vs H1=>sp (vs++dvs) H1 Q E
inductive isO (C:Addr) (m:Str):V→Hp→Prop→Prop | mk {x H R} a dx fs:x=.ref a→H a=some (.ins C dx fs)→fs.lookup m=none→R→isO C m x H R
def tMeth (C:Addr) (m:Str) (sp:Sp) (dvs:List V) (E:XK) (ta:TE) (t:TA):TE:=fun σ H Q=>ta σ H fun x H1=>isO C m x H1 <| t σ H1 fun vs H2=>sp (x :: (vs++dvs)) H2 Q E
def tMake (C:Addr) (sp:Sp) (dvs:List V) (E:XK) (t:TA):TE:=fun σ H Q=>t σ H fun vs H1=>∀ x dx,H1 x=none→H1 dx=none→dx≠x →
  sp (.ref x :: (vs++dvs)) (upd (upd H1 dx (.own x)) x (.ins C dx [])) (fun v H2=>v=.non∧Q (.ref x) H2) E
def aq (K:PySem.W.Frag) (fd:FuncData) (ps:List Str) (ds:List Value):Prop :=
  ∀(s:Shared) (us:List Value),K.In s.heap→(us++ds).length=ps.length→BindsTo s fd ⟨us,[]⟩ (ps.zip (us++ds))
theorem aq.all {K:PySem.W.Frag} {fd:FuncData} {ps:List Str} (h:∀ us:List Value,us.length=ps.length→bindArgs fd ⟨us,[]⟩=pure (ps.zip us)):aq K fd ps []:=fun s us _ hl=>by
  rw[List.append_nil]at hl ⊢
  exact .of_eq (h us hl)
def zbu (CX:CXT) (X:Cx) (E:XK):Prop:=∀(pins:List (Addr × Obj)) (σ:St) (H:Hp) (s:Shared) (e:Value) (s':Shared),Inv X pins σ H s→CX X.stack H s E e s'→X.xe e s'
section
variable {X:Cx} {CX:CXT} {k:Nat} {f C:Addr} {fd:FuncData} {ps:List Str} {sp:Sp} {dvs:List V} {ds:List Value} {E:XK} {x m:Str} {p pos apos:Pos} {e o:Expr} {es:List Expr} {ta:TE} {t:TA}
theorem zgs {pins:List (Addr × Obj)} {σ:St} {H:Hp} {s:Shared} {Q:VK} {us:List Value} {vs:List V} (F:FnOk X.prog X.w X.K X.mg X.base CX k f fd ps sp) (hr:zai k X.A) (hb:aq X.K fd ps ds) (hd:ap dvs ds) (hx:zbu CX X E)
    (I:Inv X pins σ H s) (r:ap vs us) (h:sp (vs++dvs) H Q E):wpAny (model X.prog X.w) X.A (call (.ref f) us) (EP X pins σ Q) X.xe s:=by
  have r2:ap (vs++dvs) (us++ds):=r.append hd
  have hl:(us++ds).length=ps.length:=by rw[←r2.length];exact F.len _ _ _ _ h
  refine wpAny_call (codeAny_mono (F.run X.A X.stack s H ⟨us,[]⟩ (us++ds) (vs++dvs) Q E hr I.env0 (hb s us I.kIn hl) r2 h) fun r s' hq=>?_)
  cases r with
  | error e=>exact hx pins σ H s e s' I hq
  | ok fl =>
    cases fl with
    | ret u=>exact I.after hq
    | next=>exact False.elim hq
    | brk=>exact False.elim hq
    | cont=>exact False.elim hq
theorem zab (F:FnOk X.prog X.w X.K X.mg X.base CX k f fd ps sp) (hr:zai k X.A) (hg:Gl X x) (hm:X.mg x=some (.ref f)) (hk:PySem.W.keepIn X.K (.ref f)=true) (hb:aq X.K fd ps ds) (hd:ap dvs ds) (hx:zbu CX X E)
    (ha:PA X (e :: es) t) (hdb:(x == ("__debug__":Str))=false:=by decide) (he:starEach (e :: es) X.env=(false,eval e X.env) :: starEach es X.env:=by rfl) (hpl:(backTo pos (starEach es X.env)).any (·.1)=false:=by rfl) :
    PE X (.Call (.Name x p) (e :: es) [] pos) (zcA sp dvs E t):=by
  intro pins s σ H Q I h
  refine wpAny_Call_Name_kw (zcK I hg hm ?_ hdb)
  refine PySem.W.callWith_K (h₀:=X.base) I.ok.mod.kin hk (thn (ha pos pins s σ H _ I h) fun us s1 ⟨vs,H1,I1,r,q⟩=>⟨I1.kIn,?_⟩) he hpl
  exact zgs F hr hb hd hx I1 r q
theorem zaZ {pl:Sem Bool} (he:PE X o ta) (c:Cls X.K C) (hm:zbQ X.K C m f) (F:FnOk X.prog X.w X.K X.mg X.base CX k f fd ps sp) (hr:zai k X.A) (hb:aq X.K fd ps ds) (hd:ap dvs ds) (hx:zbu CX X E) (ha:PA X (e :: es) t)
    (hst:starEach (e :: es) X.env=(false,eval e X.env) :: starEach es X.env:=by rfl) (hpl:(backTo pos (starEach es X.env)).any (·.1)=false:=by rfl)
    (ht:eval (.Call (.Attribute o m apos) (e :: es) [] pos) X.env=(do
      let ov ←eval o X.env
      standAt apos.atName
      let (f,first) ←holding [ov] (getMethod ov m pl)
      callWith pos f first (backTo pos (starEach (e :: es) X.env)) (backToKw pos (keywordEach [] X.env))):=by rfl) :
    PE X (.Call (.Attribute o m apos) (e :: es) [] pos) (tMeth C m sp dvs E ta t):=by
  intro pins s σ H Q I h
  refine PySem.W.methodCall_KW (pl:=pl) (thn (he pins s σ H _ I h) fun u s1 ⟨x,H1,I1,rx,a,dx,fs,ex,ea,l,q⟩=>?_) ht
  subst ex
  obtain rfl:u=Value.ref a:=rx
  refine zdL I1 ea c hm l ?_
  refine PySem.W.callWith_K (first:=[.ref a]) (h₀:=X.base) I.ok.mod.kin hm.kp (thn (ha pos pins s1 σ H1 _ I1 q) fun us s2 ⟨vs,H2,I2,r,q2⟩=>⟨I2.kIn,?_⟩) hst hpl
  exact zgs (us:=.ref a :: us) (vs:=.ref a :: vs) F hr hb hd hx I2 (.cons rfl r) q2
theorem zeI {pl:Sem Bool} (he:PE X o ta) (c:Cls X.K C) (hm:zbQ X.K C m f) (F:FnOk X.prog X.w X.K X.mg X.base CX k f fd ps sp) (hr:zai k X.A) (hb:aq X.K fd ps ds) (hd:ap dvs ds) (hx:zbu CX X E)
    (ht:eval (.Call (.Attribute o m apos) [] [] pos) X.env=(do
      let ov ←eval o X.env
      standAt apos.atName
      let (f,first) ←holding [ov] (getMethod ov m pl)
      callWith pos f first (backTo pos (starEach [] X.env)) (backToKw pos (keywordEach [] X.env))):=by rfl) :
    PE X (.Call (.Attribute o m apos) [] [] pos) (tMeth C m sp dvs E ta zbY):=by
  intro pins s σ H Q I h
  refine PySem.W.methodCall_KW (pl:=pl) (thn (he pins s σ H _ I h) fun u s1 ⟨x,H1,I1,rx,a,dx,fs,ex,ea,l,q⟩=>?_) ht
  subst ex
  obtain rfl:u=Value.ref a:=rx
  refine zdL I1 ea c hm l ?_
  exact PySem.W.callWith_K0 (first:=[.ref a]) I1.kIn hm.kp (zgs (us:=[.ref a]) (vs:=[.ref a]) F hr hb hd hx I1 (.cons rfl .nil) q)
structure Mk (K:PySem.W.Frag) (C f:Addr):Prop where
  makes:PySem.W.makesIn K C=true
  init:PySem.W.findIn K (.ref C) "__init__"=some (some (.ref f))
  fn:PySem.W.isFn K (.ref f)=true
  kp:PySem.W.keepIn K (.ref C)=true
theorem zjQ {pins:List (Addr × Obj)} {σ:St} {H:Hp} {s:Shared} {Q:VK} {us:List Value} {vs:List V} (M:Mk X.K C f) (F:FnOk X.prog X.w X.K X.mg X.base CX k f fd ps sp) (hr:zai (k+1) X.A) (hb:aq X.K fd ps ds) (hd:ap dvs ds)
    (hx:zbu CX X E) (I:Inv X pins σ H s) (r:ap vs us)
    (h:∀ x dx,H x=none→H dx=none→dx≠x→sp (.ref x :: (vs++dvs)) (upd (upd H dx (.own x)) x (.ins C dx [])) (fun v H2=>v=.non∧Q (.ref x) H2) E) :
    wpAny (model X.prog X.w) X.A (call (.ref C) us) (EP X pins σ Q) X.xe s:=by
  have hq:=h (s.heap.objs.size+1) s.heap.objs.size (I.hok.fresh (Nat.le_succ _)) (I.hok.fresh (Nat.le_refl _)) (Nat.ne_of_lt (Nat.lt_succ_self _))
  have I2:=Inv.made (C:=C) I
  have r2:ap (V.ref (s.heap.objs.size+1) :: (vs++dvs)) (Value.ref (s.heap.objs.size+1) :: (us++ds)):=.cons rfl (r.append hd)
  have hl:(Value.ref (s.heap.objs.size+1) :: us++ds).length=ps.length:=by
    have e:=r2.length
    rw[F.len _ _ _ _ hq]at e
    exact e.symm
  refine wpAny_call (zj9 (f:=f) I.kIn M.makes M.init (beq_iff_eq.mp M.fn) (codeAny_mono (F.run _ X.stack _ _ ⟨Value.ref (s.heap.objs.size+1) :: us,[]⟩ (Value.ref (s.heap.objs.size+1) :: (us++ds)) _ _ E (hr.make C us [])
    (I2.env0.make C us []) (hb _ (Value.ref (s.heap.objs.size+1) :: us) I2.kIn hl) r2 hq) fun r s' hq'=>?_))
  cases r with
  | error e=>exact hx pins σ _ _ e s' I2 hq'
  | ok fl =>
    cases fl with
    | ret u =>
      obtain⟨v,H',I3,rv,ev,q3⟩:=I2.after hq'
      subst ev
      exact⟨rv,⟨V.ref (s.heap.objs.size+1),H',I3,rfl,q3⟩⟩
    | next=>exact False.elim hq'
    | brk=>exact False.elim hq'
    | cont=>exact False.elim hq'
theorem zkE (M:Mk X.K C f) (F:FnOk X.prog X.w X.K X.mg X.base CX k f fd ps sp) (hr:zai (k+1) X.A) (hg:Gl X x) (hm:X.mg x=some (.ref C)) (hb:aq X.K fd ps ds) (hd:ap dvs ds) (hx:zbu CX X E)
    (ha:PA X (e :: es) t) (hdb:(x == ("__debug__":Str))=false:=by decide) (he:starEach (e :: es) X.env=(false,eval e X.env) :: starEach es X.env:=by rfl) (hpl:(backTo pos (starEach es X.env)).any (·.1)=false:=by rfl) :
    PE X (.Call (.Name x p) (e :: es) [] pos) (tMake C sp dvs E t):=by
  intro pins s σ H Q I h
  refine wpAny_Call_Name_kw (zcK I hg hm ?_ hdb)
  refine PySem.W.callWith_K (h₀:=X.base) I.ok.mod.kin M.kp (thn (ha pos pins s σ H _ I h) fun us s1 ⟨vs,H1,I1,r,q⟩=>⟨I1.kIn,?_⟩) he hpl
  exact zjQ M F hr hb hd hx I1 r q
end
def PK (X:Cx) (kws:List Keyword) (t:TA):Prop :=
  ∀(pos:Pos) (pins:List (Addr × Obj)) (s:Shared) (σ:St) (H:Hp) (Q:List V→Hp→Prop),Inv X pins σ H s→t σ H Q→wpAny (model X.prog X.w) X.A (evalAll ((backToKw pos (keywordEach kws X.env)).map (·.2))) (AP X pins σ Q) X.xe s
section
variable {X:Cx} {CX:CXT} {k:Nat} {f C:Addr} {fd:FuncData} {ps ks:List Str} {sp:Sp} {E:XK} {x m:Str} {p pos apos kpos:Pos} {e o:Expr} {es:List Expr} {kws:List Keyword} {te ta:TE} {t tk:TA} {nm:Option Str}
theorem ziM:PK X [] zbY:=fun _ _ _ _ H Q I h=>wpAny_evalAll_nil ⟨[],H,I,.nil,h⟩
theorem zhs (ha:PE X e te) (hr:PK X kws t):PK X (⟨nm,e,kpos⟩ :: kws) (zbE te t):=by
  intro pos pins s σ H Q I h
  show wpAny _ _ (evalAll ((do let v ←eval e X.env;standAt pos;pure v) :: (backToKw pos (keywordEach kws X.env)).map (·.2))) _ _ s
  refine wpAny_evalAll_cons (wpAny_bind (thn (ha pins s σ H _ I h) fun u s1 ⟨x,H1,I1,r1,q1⟩=>wpAny_bind (wpAny_standAt (wpAny_pure ?_))))
  exact thn (hr pos pins s1 σ H1 _ I1 q1) fun us s2 ⟨xs,H2,I2,r2,q2⟩=>⟨x :: xs,H2,I2,.cons r1 r2,q2⟩
variable {g:List Value→List Value→List Value} {gV:List V→List V→List V}
end
structure zac (N P:List Str) (sc:Scope):Prop where
  kind:sc.kind=.function
  co:sc.isCoroutine=false
  gen:sc.isGenerator=false
  nd:N.Nodup
  pre:N.take P.length=P
  par:∀ x∈P,sc.names.lookup x=some .local∨sc.names.lookup x=some .cell
  nofree:∀ y∈sc.names,y.2≠.free
theorem zfW {kindOf:Str→Option NameKind} {x:Str}:∀ {binds:List (Str × Value)} {m:Str→Option Value},(∀ v,(x,v)∉binds)→bindL kindOf binds m x=m x
  | [],_,_=>rfl
  | (n,v) :: r,m,h=>by
    unfold bindL
    rw[zfW fun w hw=>h w (List.mem_cons_of_mem _ hw)]
    split
    · have:x≠n:=by rintro rfl;exact h v List.mem_cons_self
      simp [this]
    · rfl
theorem zfX {kindOf:Str→Option NameKind} {x:Str}:∀ {binds:List (Str × Value)} {m:Str→Option Value},(∀ v,(x,v)∉binds)→bindC kindOf binds m x=m x
  | [],_,_=>rfl
  | (n,v) :: r,m,h=>by
    unfold bindC
    rw[zfX fun w hw=>h w (List.mem_cons_of_mem _ hw)]
    split
    · rfl
    · have:x≠n:=by rintro rfl;exact h v List.mem_cons_self
      simp [this]
theorem zd9 {kindOf:Str→Option NameKind} {x:Str} {v:Value}:∀ {P:List Str} {vs:List Value} {i:Nat} {m:Str→Option Value},P.Nodup→P[i]?=some x→vs[i]?=some v→kindOf x=some .local →
    bindL kindOf (P.zip vs) m x=some v
  | [],_,_,_,_,h,_,_=>by simp at h
  | _ :: _,[],_,_,_,_,h,_=>by simp at h
  | p :: P,w :: vs,0,m,nd,h1,h2,hk=>by
    simp at h1 h2;subst h1;subst h2
    show bindL kindOf ((p,w) :: P.zip vs) m p=_
    unfold bindL
    rw[zfW fun v hv=>(List.nodup_cons.mp nd).1 (List.of_mem_zip hv).1,if_pos hk]
    simp
  | p :: P,w :: vs,i+1,m,nd,h1,h2,hk=>by
    show bindL kindOf ((p,w) :: P.zip vs) m x=_
    unfold bindL
    exact zd9 (i:=i) (List.nodup_cons.mp nd).2 (by simpa using h1) (by simpa using h2) hk
theorem zfY {kindOf:Str→Option NameKind} {x:Str} {v:Value}:∀ {P:List Str} {vs:List Value} {i:Nat} {m:Str→Option Value},P.Nodup→P[i]?=some x→vs[i]?=some v→kindOf x≠some .local →
    bindC kindOf (P.zip vs) m x=some v
  | [],_,_,_,_,h,_,_=>by simp at h
  | _ :: _,[],_,_,_,_,h,_=>by simp at h
  | p :: P,w :: vs,0,m,nd,h1,h2,hk=>by
    simp at h1 h2;subst h1;subst h2
    show bindC kindOf ((p,w) :: P.zip vs) m p=_
    unfold bindC
    rw[zfX fun v hv=>(List.nodup_cons.mp nd).1 (List.of_mem_zip hv).1,if_neg hk]
    simp
  | p :: P,w :: vs,i+1,m,nd,h1,h2,hk=>by
    show bindC kindOf ((p,w) :: P.zip vs) m x=_
    unfold bindC
    exact zfY (i:=i) (List.nodup_cons.mp nd).2 (by simpa using h1) (by simpa using h2) hk
def zbs (N:List Str) (vs:List V):St:=vs.map some++List.replicate (N.length - vs.length) none
def zaj (CX:CXT) (P:Program) (w:World) (K:PySem.W.Frag) (mg:Str→Option Value) (base:Heap) (N:List Str) (qual:Str) (scope:Scope) (f:Addr) (cd:Value) (A:Around) (outer:List Env) (s:Shared) (H:Hp) (E:XK):Cx where
  prog:=P
  w:=w
  K:=K
  mg:=mg
  base:=base
  A:=A.deeper (envOfC qual scope s.heap.objs.size f cd)
  N:=N
  s₀:=s
  H₀:=H
  env:=envOfC qual scope s.heap.objs.size f cd
  outer:=outer
  stack:=envOfC qual scope s.heap.objs.size f cd :: outer
  ex:=[]
  calm:=true
  fn:=fun _=>true
  pn:=[]
  xe:=fun e s'=>wpAny (model P w) (A.deeper (envOfC qual scope s.heap.objs.size f cd)) (leaving (envOfC qual scope s.heap.objs.size f cd) e) (fun _ s''=>CX outer H s E e s'') (fun e' s''=>CX outer H s E e' s'') s'
theorem zg7 {sc:Scope} {n:Nat} {x:Str} (h:sc.names.lookup x=some .cell):∃ c,(cellsFrom n sc.names []).lookup x=some c:=by
  have q:=PySem.W.cellsFrom_some sc.names n [] (.inl h)
  exact Option.isSome_iff_exists.mp q
theorem zd7 {CX:CXT} {P:Program} {w:World} {K:PySem.W.Frag} {mg:Str→Option Value} {base:Heap} {N ps:List Str} {qual:Str} {scope:Scope} {f:Addr} {cd:Value} {A:Around} {outer:List Env} {s s1:Shared} {H:Hp} {E:XK} {us:List Value} {vs:List V}
    (S:zac N ps scope) (hd:A.handled=none) (e0:zdP P w K mg base A outer s H) (hl:vs.length=ps.length) (r:ap vs us)
    (x:InCallC s s.heap.objs.size (bindL (envOfC qual scope s.heap.objs.size f cd).kindOf (ps.zip us) fun _=>none) (cellsFrom (s.heap.objs.size+1) scope.names []) (bindC (envOfC qual scope s.heap.objs.size f cd).kindOf (ps.zip us) fun _=>none) s1) :
    Inv (zaj CX P w K mg base N qual scope f cd A outer s H E) [] (zbs N vs) H s1:=by
  have hpl:ps.length≤N.length:=by have:=congrArg List.length S.pre;rw[List.length_take]at this;omega
  obtain⟨h1,tk,rfl,hk⟩:=x.done
  have noA:∀ b:Addr,b∉(zaj CX P w K mg base N qual scope f cd A outer s H E).ex:=fun b z=>absurd (show b∈([]:List Addr) from z) (by simp)
  refine⟨⟨e0.mod,S.kind,rfl,rfl,Nat.le_refl _,fun y z c h1 h2=>?_,fun y hy=>?_,fun y c _ h=>?_,fun _=>hd,Around.frames_deeper e0.frames,.inr ⟨rfl,rfl⟩,fun b z=>absurd z (noA b),e0.bs,e0.bsz,fun b _ _=>noA b,fun b z=>absurd z (noA b),e0.funs,e0.frf⟩,
    rfl,e0.bare,Un.kept hk,⟨_,x.toInCall.ns,fun i y v h1 h2 h3=>?_⟩,fun y c h=>⟨_,x.cell y c h⟩,e0.hok.fresh (Nat.le_refl _),fun y c h=>?_,fun p hp=>absurd (show p∈([]:List (Addr × Obj)) from hp) (by simp),e0.hok.kept hk,?_,⟨_,x.toInCall.ns,zdy⟩⟩
  · exact name_of_addr x.apart (PySem.mem_of_lookup h1) (PySem.mem_of_lookup h2)
  · have hy:scope.names.lookup y=some .cell∨scope.names.lookup y=some .free:=hy
    rcases hy with hy | hy
    · exact zg7 hy
    · exact absurd rfl (S.nofree _ (PySem.mem_of_lookup hy))
  · exact Nat.le_of_lt (x.above y c (PySem.mem_of_lookup h))
  · have hi:i < vs.length:=by
      unfold zbs at h2
      by_cases hi:i < vs.length
      · exact hi
      · rw[List.getElem?_append_right (by simpa using hi)]at h2
        rw[List.getElem?_replicate]at h2
        split at h2 <;> cases h2
    have ha:vs[i]?=some v:=by
      unfold zbs at h2
      rw[List.getElem?_append_left (by simpa using hi),List.getElem?_map]at h2
      cases e:vs[i]? with
      | none=>rw[e]at h2;cases h2
      | some a=>rw[e]at h2;cases h2;rfl
    obtain⟨u,hu,rv⟩:=r.get ha
    have hp:ps[i]?=some y:=by
      rw[←S.pre,List.getElem?_take_of_lt (by omega)];exact h1
    have ndP:ps.Nodup:=by rw[←S.pre];exact S.nd.sublist (List.take_sublist _ _)
    refine⟨u,rv,?_⟩
    rcases S.par y (List.mem_of_getElem? hp) with k | k
    · exact .inl ⟨k,zd9 ndP hp hu k⟩
    · obtain⟨c,e⟩:=zg7 (n:=s.heap.objs.size+1) k
      refine .inr ⟨.inl k,c,e,?_⟩
      have q:=x.cell y c e
      rw[zfY ndP hp hu (by show scope.names.lookup y≠_;rw[k];decide)]at q
      exact q
  · exact e0.hok.fresh (Nat.le_of_lt (x.above y c (PySem.mem_of_lookup h)))
  · unfold zbs
    show _=N.length
    rw[List.length_append,List.length_map,List.length_replicate]
    omega
theorem fn_of {CX:CXT} {P:Program} {w:World} {K:PySem.W.Frag} {mg:Str→Option Value} {base:Heap} {k:Nat} {f:Addr} {name qual:Str} {params:Arguments} {body:List Stmt} {scope:Scope} {dV kV doc pm cdv ct oc:Value} {an od:Option Addr}
    {osl:Array (Option Value)} {N ps:List Str} {sp:Sp} (lk:K.lookup f=some ⟨oc,od,.func (PySem.W.fnOf name qual params body scope dV kV doc pm an cdv ct),osl⟩) (hcd:PySem.W.codeIn K cdv qual=true) (S:zac N ps scope)
    (len:∀ vs H Q E,sp vs H Q E→vs.length=ps.length)
    (hbody:∀(A:Around) (outer:List Env) (s:Shared) (H:Hp) (vs:List V) (Q:VK) (E:XK),zai k (A.deeper (envOfC qual scope s.heap.objs.size f cdv))→sp vs H Q E →
      ∃ t,PSs (zaj CX P w K mg base N qual scope f cdv A outer s H E) body t∧t { nx:=fun _ H'=>Q .non H',rt:=Q } (zbs N vs) H) :
    FnOk P w K mg base CX (k+1) f (PySem.W.fnOf name qual params body scope dV kV doc pm an cdv ct) ps sp:=by
  refine⟨len,fun A outer s H args us vs Q E hr e0 hb r hsp=>?_⟩
  have hl:=len _ _ _ _ hsp
  have KX:K.In s.heap:=e0.mod.kin.keeps fun b o e=>(e0.bs b o e).1
  have lim:s.heap.NoLimit:=e0.mod.nolimit.keeps fun b o e=>(e0.bs b o e).1
  have hkind:∀ y∈ps.zip us,scope.names.lookup y.1=some .local∨(scope.names.lookup y.1=some .cell∧((cellsFrom (s.heap.objs.size+1) scope.names []).lookup y.1).isSome=true):=fun⟨n,v⟩ hy=>by
    rcases S.par n (List.of_mem_zip hy).1 with q | q
    · exact .inl q
    · exact .inr ⟨q,PySem.W.cellsFrom_some _ _ _ (.inl q)⟩
  refine codeAny_call_function hr.depth (KX _ _ lk) rfl S.co S.gen rfl (PySem.W.codeRec_of KX hcd) (hb _ _ _ _ ?_)
  refine wpAny_newFunctionEnv_cells S.kind hkind fun env he s1 x=>?_
  subst he
  refine⟨lim.keeps x.toInCall.keep,codeAny_func ?_⟩
  obtain⟨t,ht,hq⟩:=hbody A outer s H vs Q E (hr.deeper _) hsp
  have I:Inv (zaj CX P w K mg base N qual scope f cdv A outer s H E) [] (zbs N vs) H s1:=zd7 S hr.hd e0 hl r x
  refine wpAny_mono (ht [] s1 (zbs N vs) H _ I hq) (fun fl s' hs=>?_) fun e s' hs=>hs
  have fin:∀ {σ':St} {H':Hp} {v:V} {u:Value},Inv (zaj CX P w K mg base N qual scope f cdv A outer s H E) [] σ' H' s'→ar v u→Q v H'→CE outer P w H s Q u s' :=
    fun {σ' H' v u} J rv q=>⟨v,H',J.os,J.bare,J.base,J.hok,rv,q⟩
  cases fl with
  | ret u =>
    obtain⟨v,σ',H',J,rv,q⟩:=hs
    exact fin J rv q
  | next =>
    obtain⟨σ',H',J,q⟩:=hs
    exact fin (v:=V.non) (u:=Value.none) J rfl q
  | brk =>
    obtain⟨_,_,_,q⟩:=hs
    exact False.elim q
  | cont =>
    obtain⟨_,_,_,q⟩:=hs
    exact False.elim q
end L2
namespace L2
open PySem PySem.Spec PyProof.Rows
section
variable {X:Cx} {x:Str} {p pos:Pos} {e:Expr} {es:List Expr} {t:TA} {id T:String} {r:List V→Hp→VK→Prop}
def tCB (r:List V→Hp→VK→Prop) (t:TA):TE:=fun σ H Q=>t σ H fun vs H1=>r vs H1 Q
theorem zaL (hc:zby X (.builtin id) r) (hg:Gl X x) (hm:X.mg x=none) (hv:bootBuiltins x=some (.builtin id)) (ha:PA X (e :: es) t) (hn:x≠"__name__":=by decide) (hdb:(x == ("__debug__":Str))=false:=by decide)
    (he:starEach (e :: es) X.env=(false,eval e X.env) :: starEach es X.env:=by rfl) (hpl:(backTo pos (starEach es X.env)).any (·.1)=false:=by rfl):PE X (.Call (.Name x p) (e :: es) [] pos) (tCB r t):=by
  intro pins s σ H Q I h
  refine wpAny_Call_Name_kw (zdo I hg hm hv ?_ hn hdb)
  exact PyProof.Rows.callWith_builtin1 (thn (ha pos pins s σ H _ I h) fun us s1 ⟨vs,H1,I1,r1,q1⟩=>hc pins s1 σ H1 vs us Q I1 r1 q1) he hpl
theorem zcu (hc:zby X (.type T) r) (hg:Gl X x) (hm:X.mg x=none) (hv:bootBuiltins x=some (.type T)) (ha:PA X (e :: es) t) (hn:x≠"__name__":=by decide) (hdb:(x == ("__debug__":Str))=false:=by decide)
    (he:starEach (e :: es) X.env=(false,eval e X.env) :: starEach es X.env:=by rfl) (hpl:(backTo pos (starEach es X.env)).any (·.1)=false:=by rfl):PE X (.Call (.Name x p) (e :: es) [] pos) (tCB r t):=by
  intro pins s σ H Q I h
  refine wpAny_Call_Name_kw (zdo I hg hm hv ?_ hn hdb)
  exact PyProof.Rows.callWith_type1 (thn (ha pos pins s σ H _ I h) fun us s1 ⟨vs,H1,I1,r1,q1⟩=>hc pins s1 σ H1 vs us Q I1 r1 q1) he hpl
end
end L2
namespace HT
open PySem PyProof.Rows
section
open PySem.SeqAt
open PySem.AutoSeq1 (wpAny_loadPart')
open PySem.MeetsSeq PySem.MeetsSeq2 PySem.MeetsSeq3
end
section
variable {prog:Program} {w:World} {A:Around} {E:Value→Shared→Prop} {s:Shared}
def sIx (n d:Nat):Option Int→Nat
  | none=>d
  | some v=>if v < 0 then(v+(n:Int)).toNat else min v.toNat n
theorem sIx_none (n d:Nat):sIx n d none=d:=rfl
theorem sIx_nat (n d k:Nat):sIx n d (some (k:Int))=min k n:=by
  show(if(k:Int) < 0 then((k:Int)+(n:Int)).toNat else min (k:Int).toNat n)=min k n
  rw[if_neg (by omega),Int.toNat_natCast]
theorem sIx_le (n d:Nat) (hd:d≤n) (o:Option Int):sIx n d o≤n:=by
  cases o with
  | none=>exact hd
  | some v =>
    show(if v < 0 then(v+(n:Int)).toNat else min v.toNat n)≤n
    by_cases hv:v < 0
    · rw[if_pos hv];omega
    · rw[if_neg hv];exact Nat.min_le_right _ _
theorem zhS (v:Int) (n d:Nat):(if v < 0 then max (v+(n:Int)) 0 else min v (n:Int))=((sIx n d (some v):Nat):Int):=by
  show(if v < 0 then max (v+(n:Int)) 0 else min v (n:Int))=(((if v < 0 then(v+(n:Int)).toNat else min v.toNat n):Nat):Int)
  by_cases hv:v < 0
  · simp only[if_pos hv];omega
  · simp only[if_neg hv];omega
theorem ziz (lo hi:Option Int) (n:Nat):Builtin.Slice.sliceAdjust lo hi 1 (n:Int)=(((sIx n 0 lo:Nat):Int),((sIx n n hi:Nat):Int)):=by
  have h1:¬((1:Int) < 0):=by omega
  unfold Builtin.Slice.sliceAdjust
  simp only[h1,if_false]
  refine Prod.ext ?_ ?_
  · cases lo with
    | none=>rfl
    | some v=>exact zhS v n 0
  · cases hi with
    | none=>rfl
    | some v=>exact zhS v n n
theorem zil (i j:Nat):Builtin.Slice.slicePlaces (i:Int) (j:Int) 1=j - i:=by
  unfold Builtin.Slice.slicePlaces
  have h1:(1:Int) > 0:=by omega
  simp only[h1,if_true,Int.ediv_one]
  split <;> omega
theorem zff {v:Value} {o:Option Int} {Q:Option Int→Shared→Prop} (p:IsPart v o) (h:Q o s):wpAny (model prog w) A (Builtin.Slice.slicePartIndex v) Q E s:=by
  cases p with
  | none=>exact slicePart_none h
  | int i t=>exact slicePart_int h
theorem zeQ {sl:Addr} {vl vu:Value} {lo hi:Option Int} {n:Nat} {Q:Int × Int × Nat→Shared→Prop} (hs:s.heap.IsSliceOf sl vl vu .none) (pl:IsPart vl lo) (pu:IsPart vu hi)
    (h:Q (((sIx n 0 lo:Nat):Int),1,sIx n n hi - sIx n 0 lo) s):wpAny (model prog w) A (Builtin.Slice.sliceApplied (.ref sl) (pure (n:Int))) Q E s:=by
  obtain⟨os,hos,hcs,hds⟩:=id hs
  unfold Builtin.Slice.sliceApplied Builtin.Slice.sliceFields
  refine wpAny_bind (wpAny_bind (wpAny_field hos hds (x:=vl) rfl (wpAny_bind (wpAny_field hos hds (x:=vu) rfl (wpAny_bind (wpAny_field hos hds (x:=.none) rfl (wpAny_pure ?_)))))))
  refine wpAny_bind (slicePart_none ?_)
  show wpAny _ _ (if((1:Int) == 0)=true then _ else _) _ _ s
  rw[if_neg (by decide)]
  refine wpAny_bind (zff pl (wpAny_bind (zff pu (wpAny_bind (wpAny_pure ?_)))))
  show wpAny _ _ (match Builtin.Slice.sliceAdjust lo hi 1 (n:Int) with | (lo,hi)=>pure (lo,(1:Int),Builtin.Slice.slicePlaces lo hi 1)) _ _ s
  rw[ziz lo hi n]
  show wpAny _ _ (pure (((sIx n 0 lo:Nat):Int),(1:Int),Builtin.Slice.slicePlaces ((sIx n 0 lo:Nat):Int) ((sIx n n hi:Nat):Int) 1)) _ _ s
  rw[zil]
  exact wpAny_pure h
theorem zjU (xs:Array Value) (i k:Nat):((List.range k).filterMap fun(m:Nat)=>xs[((i:Int)+(m:Int) * 1).toNat]?).toArray=((xs.toList.drop i).take k).toArray:=by
  have e:(fun(m:Nat)=>xs[((i:Int)+(m:Int) * 1).toNat]?)=fun m=>xs[i+m]?:=by
    funext m
    have:((i:Int)+(m:Int) * 1).toNat=i+m:=by omega
    rw[this]
  rw[e]
  have:=pick_run xs i k
  rw[List.filterMap_map]at this
  have e2:((fun x=>xs[x]?) ∘ fun x=>i+x)=fun m=>xs[i+m]?:=rfl
  rw[e2]at this
  rw[this]
theorem getItem_tuple_cut {t sl:Addr} {items:Array Value} {vl vu:Value} {lo hi:Option Int} {Q:Value→Shared→Prop} (ht:IsTup s.heap t items) (hs:s.heap.IsSliceOf sl vl vu .none) (pl:IsPart vl lo) (pu:IsPart vu hi)
    (hw:¬(sIx items.size 0 lo=0∧sIx items.size items.size hi=items.size))
    (h:Q (.ref s.heap.objs.size) { s with heap:=s.heap.push { cls:=.type "tuple",data:=.seq ((items.toList.drop (sIx items.size 0 lo)).take (sIx items.size items.size hi - sIx items.size 0 lo)).toArray } })
    (hsz:items.size≤sizeLine):wpAny (model prog w) A (getItem (.ref t) (.ref sl)) Q E s:=by
  have htake:sizeOk (.seq ((items.toList.drop (sIx items.size 0 lo)).take (sIx items.size items.size hi - sIx items.size 0 lo)).toArray):=by
    show((items.toList.drop (sIx items.size 0 lo)).take (sIx items.size items.size hi - sIx items.size 0 lo)).toArray.size≤sizeLine
    rw[List.size_toArray,List.length_take,List.length_drop,Array.length_toList]
    omega
  have hj:sIx items.size items.size hi≤items.size:=sIx_le _ _ (Nat.le_refl _) hi
  obtain⟨os,hos,hcs,hds⟩:=id hs
  have hTs:s.TypeIs (.ref sl) "slice":=⟨os,hos,hcs⟩
  unfold getItem
  try with_reducible refine wpAny_holding ?_
  first | refine wpAny_bind (wpAny_pure ?_) | skip
  refine wpAny_bind (wpAny_sequenceKey ht.typeIs (by decide) ?_)
  refine wpAny_bind (wpAny_callSpecial?_slot (name:=Str.ofString "__getitem__") ht.typeIs PyProof.Rows.slot_tuple_getitem
    (wpAny_call_entry PyProof.Rows.slot_tuple_getitem ht.typeIs entry_tuple_getitem ?_ (args_tuple_getitem _ _)))
  show wpAny _ _ (Builtin.Tuple.tupleItemsOf (.ref t) >>= _) _ _ s
  refine wpAny_bind (tupleItemsOf_ ht ?_)
  refine wpAny_bind (wpAny_typeOf hTs ?_)
  rw[if_pos (by decide)]
  refine wpAny_bind (zeQ hs pl pu ?_)
  have hno:¬((((sIx items.size 0 lo:Nat):Int) == 0&&(1:Int) == 1&&(sIx items.size items.size hi - sIx items.size 0 lo) == items.size)=true):=by
    intro q
    rw[Bool.and_eq_true,Bool.and_eq_true]at q
    have q1:((sIx items.size 0 lo:Nat):Int)=0:=eq_of_beq q.1.1
    have q2:sIx items.size items.size hi - sIx items.size 0 lo=items.size:=eq_of_beq q.2
    exact hw ⟨by omega,by omega⟩
  show wpAny _ _ (if(((sIx items.size 0 lo:Nat):Int) == 0&&(1:Int) == 1&&(sIx items.size items.size hi - sIx items.size 0 lo) == items.size)=true then _ else _) _ _ s
  rw[if_neg hno,zjU]
  first
    | exact wpAny_bind (m:=Builtin.Tuple.tupleExact _) (wpAny_newObj_type (wpAny_pure ⟨_,rfl,wpAny_pure h⟩) htake)
    | exact wpAny_bind (m:=Builtin.Tuple.tupleExact _) (wpAny_newObj_type (wpAny_bind (wpAny_pure (wpAny_pure ⟨_,rfl,wpAny_pure h⟩))) htake)
    | exact wpAny_bind (wpAny_bind (m:=Builtin.Tuple.tupleExact _) (wpAny_newObj_type (wpAny_pure (wpAny_pure ⟨_,rfl,wpAny_pure h⟩)) htake))
    | exact wpAny_bind (wpAny_bind (m:=Builtin.Tuple.tupleExact _) (wpAny_newObj_type (wpAny_pure ⟨_,rfl,wpAny_pure h⟩) htake))
end
end HT
namespace L2
open PySem PySem.Spec PyProof.Rows
abbrev TO:=St→Hp→(Option Int→Hp→Prop)→Prop
def PO (X:Cx) (e:Option Expr) (t:TO):Prop :=
  ∀(pins:List (Addr × Obj)) (s:Shared) (σ:St) (H:Hp) (Q:Option Int→Hp→Prop),Inv X pins σ H s→t σ H Q →
    wpAny (model X.prog X.w) X.A (evalPart e X.env) (fun u s'=>∃ o H',Inv X pins σ H' s'∧IsPart u o∧Q o H') X.xe s
def zkq:TO:=fun _ H Q=>Q none H
def tPart (t:TE):TO:=fun σ H Q=>t σ H fun x H1=>∃ i,x=.int i∧Q (some i) H1
section
variable {X:Cx} {e:Expr} {te:TE} {lo hi:Option Expr} {tl th:TO} {pos p2:Pos}
theorem zdw:PO X none zkq:=by
  intro pins s σ H Q I h
  rw[evalPart_none]
  exact wpAny_pure ⟨none,H,I,.none,h⟩
theorem zcg (h:PE X e te):PO X (some e) (tPart te):=by
  intro pins s σ H Q I hw
  rw[evalPart_some]
  refine thn (h pins s σ H _ I hw) fun u s1 ⟨x,H1,I1,r1,q1⟩=>?_
  obtain⟨i,rfl,q⟩:=q1
  obtain⟨t,rfl⟩:=r1
  exact⟨some i,H1,I1,.int i t,q⟩
def SlR (X:Cx) (r:V→Option Int→Option Int→Hp→VK→Prop):Prop :=
  ∀(pins:List (Addr × Obj)) (s:Shared) (σ:St) (H:Hp) (x:V) (v vl vu:Value) (lo hi:Option Int) (sl:Addr) (Q:VK),Inv X pins σ H s→ar x v→s.heap.IsSliceOf sl vl vu .none→IsPart vl lo→IsPart vu hi→r x lo hi H Q →
    ∃ T id,typeLookup (.type T) "__getitem__"=pure (some (.builtin id))∧s.TypeIs v T∧wpAny (model X.prog X.w) X.A (getItem v (.ref sl)) (EP X pins σ Q) X.xe s
theorem SlR.or {r r':V→Option Int→Option Int→Hp→VK→Prop} (h:SlR X r) (h':SlR X r'):SlR X (fun x lo hi H Q=>r x lo hi H Q∨r' x lo hi H Q):=by
  intro pins s σ H x v vl vu lo hi sl Q I rx hs pl pu q
  rcases q with q | q
  · exact h pins s σ H x v vl vu lo hi sl Q I rx hs pl pu q
  · exact h' pins s σ H x v vl vu lo hi sl Q I rx hs pl pu q
def tSl (r:V→Option Int→Option Int→Hp→VK→Prop) (te:TE) (tl th:TO):TE:=fun σ H Q=>te σ H fun x H1=>tl σ H1 fun l H2=>th σ H2 fun u H3=>r x l u H3 Q
theorem zcj {r:V→Option Int→Option Int→Hp→VK→Prop} (hr:SlR X r) (he:PE X e te) (hl:PO X lo tl) (hu:PO X hi th):PE X (.Subscript e (.Slice lo hi none p2) pos) (tSl r te tl th):=by
  intro pins s σ H Q I h
  refine Subscript_ (thn (he pins s σ H _ I h) fun v s1 ⟨x,H1,I1,r1,q1⟩=>?_)
  refine wpAny_Slice (thn (hl pins s1 σ H1 _ I1 q1) fun vl s2 ⟨l,H2,I2,pl,q2⟩=>thn (hu pins s2 σ H2 _ I2 q2) fun vu s3 ⟨u,H3,I3,pu,q3⟩=>?_)
  rw[evalPart_none]
  refine wpAny_pure ?_
  have I4:Inv X pins σ H3 { s3 with heap:=s3.heap.push { cls:=.type "slice",data:=.fields #[vl,vu,.none] } }:=I3.kept (t':=s3.toks) fun b ob q=>Heap.get?_push_of_some _ q
  obtain⟨T,id,hT,ht,hg⟩:=hr pins { s3 with heap:=s3.heap.push { cls:=.type "slice",data:=.fields #[vl,vu,.none] } } σ H3 x v vl vu l u s3.heap.objs.size Q I4 r1 (Heap.IsSliceOf.new ..) pl pu q3
  show wpAny (model X.prog X.w) X.A (subscriptTail e (.Slice lo hi none p2) v (.ref s3.heap.objs.size)) (EP X pins σ Q) X.xe { s3 with heap:=s3.heap.push { cls:=.type "slice",data:=.fields #[vl,vu,.none] } }
  exact tail_any (ops:=[.ref s3.heap.objs.size,v]) ht hT hg (by with_unfolding_all rfl)
def zc9 (xs:List V) (lo hi:Option Int):List V:=(xs.drop (HT.sIx xs.length 0 lo)).take (HT.sIx xs.length xs.length hi - HT.sIx xs.length 0 lo)
theorem zer (xs:List V) (lo hi:Option Int):(zc9 xs lo hi).length≤xs.length:=by
  unfold zc9
  rw[List.length_take,List.length_drop]
  omega
inductive rSlT (K:PySem.W.Frag):V→Option Int→Option Int→Hp→VK→Prop | mk {x lo hi H Q} a xs:x=.ref a→SqT K H a xs→¬(HT.sIx xs.length 0 lo=0∧HT.sIx xs.length xs.length hi=xs.length)→(∀ p,H p=none→Q (.ref p) (upd H p (.tup (zc9 xs lo hi))))→rSlT K x lo hi H Q
theorem zgk:SlR X (rSlT X.K):=by
  intro pins s σ H x v vl vu lo hi sl Q I rx hs pl pu h
  obtain⟨a,xs,rfl,hx,hw,q⟩:=h
  cases rx
  obtain⟨its,r,ht,hz⟩:=I.tuple hx
  have hlen:its.toArray.size=xs.length:=by rw[List.size_toArray];exact r.length.symm
  refine⟨"tuple",_,PyProof.Rows.slot_tuple_getitem.lookup,ht.typeIs,?_⟩
  refine HT.getItem_tuple_cut ht hs pl pu (by rw[hlen];exact hw) ?_ (by rw[hlen];exact hz)
  rw[hlen]
  refine⟨.ref s.heap.objs.size,_,I.laid (t':=s.toks) (o:=.tup (zc9 xs lo hi)) (fun b ob q=>Heap.get?_push_of_some _ q) (Nat.le_refl _) ?_,rfl,q _ (I.hok.fresh (Nat.le_refl _))⟩
  exact⟨Nat.le_trans (zer xs lo hi) hz,_,(r.drop (HT.sIx xs.length 0 lo)).take (HT.sIx xs.length xs.length hi - HT.sIx xs.length 0 lo),zdc.new _ _⟩
end
end L2
namespace L2
open PySem PySem.Spec PyProof.Rows
def ixN (n:Nat) (i:Int):Option Nat:=if 0≤i then(if i < n then some i.toNat else none) else if -(n:Int)≤i then some (i+n).toNat else none
def atI {α:Type} (xs:List α) (i:Int):Option α:=(ixN xs.length i).bind fun j=>xs[j]?
theorem zhI {n:Nat} {i:Int} {j:Nat} (h:ixN n i=some j):seqIndex? i n=some j∧j < n∧-(n:Int)≤i∧i < n:=by
  unfold ixN at h
  by_cases h0:0≤i
  · rw[if_pos h0]at h
    by_cases h1:i < n
    · rw[if_pos h1]at h
      have e:i.toNat=j:=Option.some.inj h
      exact⟨by rw[seqIndex_of h0 h1,e],by omega,by omega,h1⟩
    · rw[if_neg h1]at h;cases h
  · rw[if_neg h0]at h
    by_cases h1:-(n:Int)≤i
    · rw[if_pos h1]at h
      have e:(i+n).toNat=j:=Option.some.inj h
      exact⟨by rw[seqIndex_neg (by omega) h1,e],by omega,h1,by omega⟩
    · rw[if_neg h1]at h;cases h
theorem zen {α:Type} {xs:List α} {i:Int} {v:α} (h:atI xs i=some v):∃ j,seqIndex? i xs.length=some j∧xs[j]?=some v∧j < xs.length∧-(xs.length:Int)≤i∧i < xs.length:=by
  unfold atI at h
  cases e:ixN xs.length i with
  | none=>rw[e]at h;cases h
  | some j =>
    rw[e]at h
    obtain⟨h1,h2,h3,h4⟩:=zhI e
    exact⟨j,h1,h,h2,h3,h4⟩
theorem zaM {α:Type} {xs:List α} {j:Nat} {v:α} (h:xs[j]?=some v):atI xs (j:Int)=some v:=by
  have hj:j < xs.length:=(List.getElem?_eq_some_iff.mp h).1
  have e:ixN xs.length (j:Int)=some j:=by
    unfold ixN
    rw[if_pos (by omega),if_pos (by omega)];simp
  unfold atI;rw[e];exact h
def zlb (b:Expr):Prop:=∀ o i,subscripted b false o i=operate [o,i] (getItem o i)
def IxR (X:Cx) (r:R2):Prop :=
  ∀(value slice:Expr) (pins:List (Addr × Obj)) (s:Shared) (σ:St) (H:Hp) (x y:V) (v u:Value) (Q:VK),Inv X pins σ H s→ar x v→ar y u→r x y H Q →
    subscripted slice false v u=operate [v,u] (getItem v u)→wpAny (model X.prog X.w) X.A (subscriptTail value slice v u) (EP X pins σ Q) X.xe s
def MtR (X:Cx) (id:String) (r:V→List V→Hp→VK→Prop):Prop :=
  ∀(pins:List (Addr × Obj)) (s:Shared) (σ:St) (H:Hp) (x:V) (xs:List V) (v:Value) (us:List Value) (Q:VK),Inv X pins σ H s→ar x v→ap xs us→r x xs H Q →
    wpAny (model X.prog X.w) X.A (call (.builtin id) (v :: us)) (EP X pins σ Q) X.xe s
section
variable {X:Cx} {a b:Expr} {ta tb:TE} {pos:Pos}
theorem IxR.or {r r':R2} (h:IxR X r) (h':IxR X r'):IxR X (fun x y H Q=>r x y H Q∨r' x y H Q):=by
  intro value slice pins s σ H x y v u Q I rx ry q hs
  rcases q with q | q
  · exact h value slice pins s σ H x y v u Q I rx ry q hs
  · exact h' value slice pins s σ H x y v u Q I rx ry q hs
theorem MtR.or {id:String} {r r':V→List V→Hp→VK→Prop} (h:MtR X id r) (h':MtR X id r'):MtR X id (fun x xs H Q=>r x xs H Q∨r' x xs H Q):=by
  intro pins s σ H x xs v us Q I rx rs q
  rcases q with q | q
  · exact h pins s σ H x xs v us Q I rx rs q
  · exact h' pins s σ H x xs v us Q I rx rs q
theorem zaG {r:R2} (hr:IxR X r) (ha:PE X a ta) (hb:PE X b tb) (hs:zlb b):PE X (.Subscript a b pos) (tOp r ta tb):=by
  intro pins s σ H Q I h
  exact Subscript_ (binT ha hb I h fun v u s2 x y H2 I2 rx ry q=>hr a b pins s2 σ H2 x y v u Q I2 rx ry q (hs _ _))
inductive rIxL (K:PySem.W.Frag):R2 | mk {x y H Q} p xs i v:x=.ref p→y=.int i→SqL K H p xs→atI xs i=some v→Q v H→rIxL K x y H Q
inductive rIxT (K:PySem.W.Frag):R2 | mk {x y H Q} p xs i v:x=.ref p→y=.int i→SqT K H p xs→atI xs i=some v→Q v H→rIxT K x y H Q
inductive rIxS:R2 | mk {x y H Q} z i c:x=.str z→y=.int i→z.length≤sizeLine→atI z.cps.toList i=some c→Q (.str ⟨#[c]⟩) H→rIxS x y H Q
theorem zbN:IxR X (rIxL X.K):=by
  intro value slice pins s σ H x y v u Q I rx ry h hs
  obtain⟨p,xs,i,z,rfl,rfl,hq,he,q⟩:=h
  cases rx
  obtain⟨t,rfl⟩:=ry
  obtain⟨its,r,pl,hz⟩:=I.list hq
  obtain⟨j,h1,h2,h3,h4,h5⟩:=zen he
  obtain⟨w,ew,rw'⟩:=r.get h2
  have hl:=r.length
  have hn:=zdn
  have fin:EP X pins σ Q w s:=⟨z,H,I,rw',q⟩
  by_cases h0:0≤i
  · have hj:i.toNat=j:=by
      rw[seqIndex_of h0 h5]at h1
      exact Option.some.inj h1
    exact item_listR pl.isList h0 (by omega) (by rw[hj];simpa using ew) fin hs
  · have hj:(i+(its.toArray.size:Int)).toNat=j:=by
      rw[seqIndex_neg (by omega) h4]at h1
      rw[List.size_toArray,←hl]
      exact Option.some.inj h1
    exact subscriptTail_builtinR (x:=w) pl.isList.typeIs slot_list_getitem.lookup
      (wpAny_getItem_list_neg (Q:=fun r s'=>r=w∧EP X pins σ Q r s') pl.isList (by omega) (by rw[List.size_toArray] <;> omega) (by omega) (by rw[hj];simpa using ew) ⟨rfl,fin⟩) hs
theorem za3:IxR X (rIxT X.K):=by
  intro value slice pins s σ H x y v u Q I rx ry h hs
  obtain⟨p,xs,i,z,rfl,rfl,hq,he,q⟩:=h
  cases rx
  obtain⟨t,rfl⟩:=ry
  obtain⟨its,r,pl,hz⟩:=I.tuple hq
  obtain⟨j,h1,h2,h3,h4,h5⟩:=zen he
  obtain⟨w,ew,rw'⟩:=r.get h2
  have hl:=r.length
  have hn:=zdn
  have fin:EP X pins σ Q w s:=⟨z,H,I,rw',q⟩
  exact subscriptTail_builtinR (x:=w) pl.typeIs slot_tuple_getitem.lookup
    (getItem_tuple (j:=j) (Q:=fun r s'=>r=w∧EP X pins σ Q r s') pl (by omega) (by omega) (by rw[List.size_toArray,←hl];exact h1) (by simpa using ew) ⟨rfl,fin⟩) hs
theorem zi0:IxR X rIxS:=by
  intro value slice pins s σ H x y v u Q I rx ry h hs
  obtain⟨z,i,c,rfl,rfl,hz,he,q⟩:=h
  obtain⟨t,rfl⟩:=rx
  obtain⟨t',rfl⟩:=ry
  obtain⟨j,h1,h2,h3,h4,h5⟩:=zen he
  have hl:z.cps.toList.length=z.length:=by simp [Str.length]
  rw[hl]at h1 h4 h5
  have hn:=zdn
  exact tail_any (typeIs_str s z t) slot_str_getitem.lookup (getItem_str (c:=c) (by
    have e1:decide (i < -(2 ^ 63:Int))=false:=decide_eq_false (by omega)
    have e2:decide (i≥2 ^ 63)=false:=decide_eq_false (by omega)
    rw[e1,e2,Bool.or_false]) (by rw[h1];simpa using h2) ⟨.str ⟨#[c]⟩,H,I.tok _,⟨_,rfl⟩,q⟩) hs
theorem zir (its:List Value) (n j:Nat) (u:Value):Obj.mapSeq (·.setIfInBounds j u) { cls:=.type "list",data:=.seq its.toArray n }={ cls:=.type "list",data:=.seq (its.set j u).toArray n }:=by
  simp [Obj.mapSeq]
theorem Inv.lst {pins:List (Addr × Obj)} {σ:St} {H:Hp} {s:Shared} {p:Addr} {xs:List V} (I:Inv X pins σ H s) (h:H p=some (.lst xs)) :
    ∃(its:List Value) (n:Nat),ap xs its∧s.heap.get? p=some { cls:=.type "list",data:=.seq its.toArray n }∧xs.length≤sizeLine:=by
  obtain⟨z,its,n,r,e⟩:=I.hok p _ h
  exact⟨its,n,r,e,z⟩
theorem Inv.lstUpd {pins:List (Addr × Obj)} {σ:St} {H:Hp} {s:Shared} {p:Addr} {xs ys:List V} {its its':List Value} {n n':Nat} {f:Obj→Obj} (I:Inv X pins σ H s) (h:H p=some (.lst xs))
    (ho:s.heap.get? p=some { cls:=.type "list",data:=.seq its.toArray n }) (hf:f { cls:=.type "list",data:=.seq its.toArray n }={ cls:=.type "list",data:=.seq its'.toArray n' }) (r:ap ys its') (hz:ys.length≤sizeLine) (t:Nat) :
    Inv X pins σ (upd H p (.lst ys)) { s with heap:=s.heap.update p f,toks:=t }:=by
  have e:(s.heap.update p f).get? p=some { cls:=.type "list",data:=.seq its'.toArray n' }:=by
    rw[Heap.get?_update_self f ho (by rw[hf] <;> rfl),hf]
  refine I.write (x:=p) (e:=p) (by rw[h];trivial) (.inl rfl) (fun b u hb q=>(Heap.get?_update_other _ _ (Ne.symm hb)).trans q) ⟨_,e⟩ ?_
  exact⟨hz,its',n',r,e⟩
inductive rSetL:V→V→V→Hp→(Hp→Prop)→Prop | mk {o i v H Q} p xs k j:o=.ref p→i=.int k→H p=some (.lst xs)→ixN xs.length k=some j→Q (upd H p (.lst (xs.set j v)))→rSetL o i v H Q
theorem zgN:PSet X rSetL:=by
  intro pins s σ H o i v ov iv u Q I ro ri rv h
  obtain⟨p,xs,k,j,rfl,rfl,hp,hj,q⟩:=h
  cases ro
  obtain⟨t,rfl⟩:=ri
  obtain⟨its,n,r,ho,hz⟩:=I.lst hp
  obtain⟨h1,h2,h3,h4⟩:=zhI hj
  have hl:=r.length
  have hn:=zdn
  have I':Inv X pins σ (upd H p (.lst (xs.set j v))) { s with heap:=s.heap.update p (Obj.mapSeq (·.setIfInBounds j u)) } :=
    I.lstUpd hp ho (zir its n j u) (r.set rv j) (by rw[List.length_set];exact hz) s.toks
  by_cases h0:0≤k
  · have hk:k.toNat=j:=by
      rw[seqIndex_of h0 h4]at h1
      exact Option.some.inj h1
    exact PySem.W.ki_setAt ho h0 (by omega) (by rw[List.size_toArray,←hl];exact h4) (by rw[hk];exact⟨_,I',q⟩)
  · have hk:(k+(its.toArray.size:Int)).toNat=j:=by
      rw[seqIndex_neg (by omega) h3]at h1
      rw[List.size_toArray,←hl]
      exact Option.some.inj h1
    exact PySem.W.ki_setBack ho (by omega) (by rw[List.size_toArray,←hl];exact h3) (by omega) (by rw[hk];exact⟨_,I',q⟩)
theorem zg8 (lo hi:Option Int) (n:Nat):(sliceBounds lo hi none n).1=((HT.sIx n 0 lo:Nat):Int)∧(sliceBounds lo hi none n).2.1=((HT.sIx n n hi:Nat):Int)∧(sliceBounds lo hi none n).2.2=1:=by
  refine⟨?_,?_,rfl⟩
  · cases lo with
    | none=>simp [sliceBounds,HT.sIx]
    | some i =>
      simp only[sliceBounds,HT.sIx,Option.getD_none,show(1:Int) > 0 by decide,if_true]
      by_cases h:i < 0
      · simp only[h,if_true] <;> omega
      · simp only[h,if_false] <;> omega
  · cases hi with
    | none=>simp [sliceBounds,HT.sIx]
    | some i =>
      simp only[sliceBounds,HT.sIx,Option.getD_none,show(1:Int) > 0 by decide,if_true]
      by_cases h:i < 0
      · simp only[h,if_true] <;> omega
      · simp only[h,if_false] <;> omega
theorem zfZ (its:List Value) (lo hi:Option Int):slicePick its.toArray lo hi none=((its.drop (HT.sIx its.length 0 lo)).take (HT.sIx its.length its.length hi - HT.sIx its.length 0 lo)).toArray:=by
  obtain⟨h1,h2,h3⟩:=zg8 lo hi its.toArray.size
  unfold slicePick
  rw[h1,h2,h3]
  simp only[sliceRange_one,pick_run,List.size_toArray] <;> rfl
inductive rSlL (K:PySem.W.Frag):V→Option Int→Option Int→Hp→VK→Prop | mk {x lo hi H Q} a xs:x=.ref a→SqL K H a xs→(∀ p,H p=none→Q (.ref p) (upd H p (.lst (zc9 xs lo hi))))→rSlL K x lo hi H Q
theorem sl_list:SlR X (rSlL X.K):=by
  intro pins s σ H x v vl vu lo hi sl Q I rx hs pl pu h
  obtain⟨a,xs,rfl,hx,q⟩:=h
  cases rx
  obtain⟨its,r,ht,hz⟩:=I.list hx
  have hlen:=r.length
  refine⟨"list",_,slot_list_getitem.lookup,ht.isList.typeIs,?_⟩
  refine wpAny_getItem_list_slice ht.isList hs pl pu .none (by simp) ?_ (by rw[List.size_toArray] <;> omega)
  rw[zfZ,←hlen]
  refine⟨.ref s.heap.objs.size,_,I.laid (t':=s.toks) (o:=.lst (zc9 xs lo hi)) (fun b ob q=>Heap.get?_push_of_some _ q) (Nat.le_refl _) ?_,rfl,q _ (I.hok.fresh (Nat.le_refl _))⟩
  exact⟨Nat.le_trans (zer xs lo hi) hz,_,0,(r.drop (HT.sIx xs.length 0 lo)).take (HT.sIx xs.length xs.length hi - HT.sIx xs.length 0 lo),Heap.get?_push_size _ rfl⟩
def zb8:V→Bool
  | .non=>true
  | .bl _=>true
  | .int _=>true
  | .str _=>true
  | _=>false
def eqV:V→V→Bool
  | .non,.non=>true
  | .bl a,.bl b=>a == b
  | .bl a,.int b=>(if a then 1 else 0) == b
  | .int a,.bl b=>a == (if b then 1 else 0)
  | .int a,.int b=>a == b
  | .str a,.str b=>a == b
  | _,_=>false
theorem zdZ {A:Around} {s:Shared} {y x:V} {u v:Value} (ry:ar y u) (rx:ar x v) (fy:zb8 y=true) (fx:zb8 x=true):SeqAt.EqAt A s u v (eqV y x):=by
  cases y with
  | non =>
    cases ry
    cases x with
    | non=>cases rx;exact SeqAt.EqAt.same _
    | bl b=>cases rx;exact SeqAt.EqAt.none_bool b
    | int b=>obtain⟨t,rfl⟩:=rx;exact SeqAt.EqAt.none_int b t
    | str b=>obtain⟨t,rfl⟩:=rx;exact SeqAt.EqAt.none_str b t
    | _=>exact absurd (show false=true from fx) Bool.false_ne_true
  | bl a =>
    cases ry
    cases x with
    | non=>cases rx;exact SeqAt.EqAt.bool_none a
    | bl b=>cases rx;exact SeqAt.EqAt.bool_bool a b
    | int b=>obtain⟨t,rfl⟩:=rx;exact SeqAt.EqAt.bool_int a b t
    | str b=>obtain⟨t,rfl⟩:=rx;exact SeqAt.EqAt.bool_str a b t
    | _=>exact absurd (show false=true from fx) Bool.false_ne_true
  | int a =>
    obtain⟨t',rfl⟩:=ry
    cases x with
    | non=>cases rx;exact SeqAt.EqAt.int_none a t'
    | bl b=>cases rx;exact SeqAt.EqAt.int_bool a t' b
    | int b=>obtain⟨t,rfl⟩:=rx;exact SeqAt.EqAt.int_int a t' b t
    | str b=>obtain⟨t,rfl⟩:=rx;exact SeqAt.EqAt.int_str a t' b t
    | _=>exact absurd (show false=true from fx) Bool.false_ne_true
  | str a =>
    obtain⟨t',rfl⟩:=ry
    cases x with
    | non=>cases rx;exact SeqAt.EqAt.str_none a t'
    | bl b=>cases rx;exact SeqAt.EqAt.str_bool a t' b
    | int b=>obtain⟨t,rfl⟩:=rx;exact SeqAt.EqAt.str_int a t' b t
    | str b=>obtain⟨t,rfl⟩:=rx;exact SeqAt.EqAt.str_str a t' b t
    | _=>exact absurd (show false=true from fx) Bool.false_ne_true
  | _=>exact absurd (show false=true from fy) Bool.false_ne_true
def eqU (x:V) (u:Value):Bool:=match u with
  | .none=>eqV .non x
  | .bool b=>eqV (.bl b) x
  | .int i _=>eqV (.int i) x
  | .str z _=>eqV (.str z) x
  | _=>false
theorem zi5 {x y:V} {u:Value} (r:ar y u) (f:zb8 y=true):eqU x u=eqV y x:=by
  cases y with
  | non=>cases r;rfl
  | bl b=>cases r;rfl
  | int i=>obtain⟨t,rfl⟩:=r;rfl
  | str z=>obtain⟨t,rfl⟩:=r;rfl
  | _=>exact absurd (show false=true from f) Bool.false_ne_true
theorem zdz {x:V}:∀ {xs:List V} {us:List Value},ap xs us→xs.all zb8=true→us.any (eqU x)=xs.any fun y=>eqV y x
  | _,_,.nil,_=>rfl
  | y :: xs,u :: us,.cons r t,f=>by
    rw[List.all_cons,Bool.and_eq_true]at f
    rw[List.any_cons,List.any_cons,zi5 r f.1,zdz t f.2]
theorem zcR {A:Around} {s:Shared} {x:V} {v:Value} (rx:ar x v) (fx:zb8 x=true):∀ {xs:List V} {us:List Value},ap xs us→xs.all zb8=true→∀ u∈us,SeqAt.EqAt A s u v (eqU x u)
  | _,_,.nil,_=>fun u hu=>by cases hu
  | y :: xs,u :: us,.cons r t,f=>fun u' hu=>by
    rw[List.all_cons,Bool.and_eq_true]at f
    rcases List.mem_cons.mp hu with rfl | hu
    · rw[zi5 r f.1];exact zdZ r rx f.1 fx
    · exact zcR rx fx t f.2 u' hu
def inV (x:V) (xs:List V):Bool:=xs.any fun y=>eqV y x
inductive rIn (K:PySem.W.Frag) (neg:Bool):R2 | mk {x y H Q} p xs:y=.ref p→(SqL K H p xs∨SqT K H p xs)→zb8 x=true→xs.all zb8=true→Q (.bl (if neg then !inV x xs else inV x xs)) H→rIn K neg x y H Q
theorem zfP:OpR X (compareOp .In) (rIn X.K false):=by
  intro pins s σ H x y v u Q I rx ry h
  obtain⟨p,xs,rfl,hq,fx,fs,q⟩:=h
  cases ry
  rcases hq with hq | hq
  · obtain⟨its,r,pl,hz⟩:=I.list hq
    refine SeqAt.in_listAt (eqU x) pl.isList (fun w hw=>zcR rx fx r fs w (by simpa using hw)) ⟨.bl _,H,I,rfl,?_⟩
    rw[show its.toArray.any (eqU x)=its.any (eqU x) by simp,zdz r fs]
    exact q
  · obtain⟨its,r,pl,hz⟩:=I.tuple hq
    refine SeqAt.in_tupleAt (eqU x) pl (fun w hw=>zcR rx fx r fs w (by simpa using hw)) ⟨.bl _,H,I,rfl,?_⟩
    rw[show its.toArray.any (eqU x)=its.any (eqU x) by simp,zdz r fs]
    exact q
theorem zg9:OpR X (compareOp .NotIn) (rIn X.K true):=by
  intro pins s σ H x y v u Q I rx ry h
  obtain⟨p,xs,rfl,hq,fx,fs,q⟩:=h
  cases ry
  rcases hq with hq | hq
  · obtain⟨its,r,pl,hz⟩:=I.list hq
    refine SeqAt.notIn_listAt (eqU x) pl.isList (fun w hw=>zcR rx fx r fs w (by simpa using hw)) ⟨.bl _,H,I,rfl,?_⟩
    rw[show its.toArray.any (eqU x)=its.any (eqU x) by simp,zdz r fs]
    exact q
  · obtain⟨its,r,pl,hz⟩:=I.tuple hq
    refine SeqAt.notIn_tupleAt (eqU x) pl (fun w hw=>zcR rx fx r fs w (by simpa using hw)) ⟨.bl _,H,I,rfl,?_⟩
    rw[show its.toArray.any (eqU x)=its.any (eqU x) by simp,zdz r fs]
    exact q
inductive rLenS (K:PySem.W.Frag):List V→Hp→VK→Prop | mk {xs H Q} p ys:xs=[.ref p]→(SqL K H p ys∨SqT K H p ys)→Q (.int ys.length) H→rLenS K xs H Q
theorem zbv:zby X (.builtin "len") (rLenS X.K):=by
  intro pins s σ H xs us Q I r h
  obtain⟨p,ys,rfl,hq,q⟩:=h
  obtain⟨u,rfl,rx⟩:=zdD r
  cases rx
  have hn:=zdn
  rcases hq with hq | hq
  · obtain⟨its,r',pl,hz⟩:=I.list hq
    have hlen:=r'.length
    exact Calls.call_len_list pl.isList (by simp only[List.size_toArray] <;> omega) ⟨.int ys.length,H,I.tok _,⟨s.toks+1,by rw[List.size_toArray,hlen]⟩,q⟩
  · obtain⟨its,r',pl,hz⟩:=I.tuple hq
    have hlen:=r'.length
    exact len_tuple pl (by simp only[List.size_toArray] <;> omega) ⟨.int ys.length,H,I.tok _,⟨s.toks+1,by rw[List.size_toArray,hlen]⟩,q⟩
theorem zcd:zby X (.builtin "len") (fun xs H Q=>∃ z,xs=[.str z]∧z.length≤sizeLine∧Q (.int z.length) H):=by
  intro pins s σ H xs us Q I r h
  obtain⟨z,rfl,hz,q⟩:=h
  obtain⟨u,rfl,t,rfl⟩:=zdD r
  have hn:=zdn
  exact len_str (by omega) ⟨.int z.length,H,I.tok _,⟨_,rfl⟩,q⟩
theorem zby.or {f:Value} {r r':List V→Hp→VK→Prop} (h:zby X f r) (h':zby X f r'):zby X f (fun xs H Q=>r xs H Q∨r' xs H Q):=by
  intro pins s σ H xs us Q I rs q
  rcases q with q | q
  · exact h pins s σ H xs us Q I rs q
  · exact h' pins s σ H xs us Q I rs q
inductive rLsO (K:PySem.W.Frag):List V→Hp→VK→Prop | mk {xs H Q} p ys:xs=[.ref p]→(SqL K H p ys∨SqT K H p ys)→(∀ l,H l=none→Q (.ref l) (upd H l (.lst ys)))→rLsO K xs H Q
theorem zcZ:zby X (.type "list") (rLsO X.K):=by
  intro pins s σ H xs us Q I r h
  obtain⟨p,ys,rfl,hq,q⟩:=h
  obtain⟨u,rfl,rx⟩:=zdD r
  cases rx
  have fin:∀(its:List Value),ap ys its→ys.length≤sizeLine→∀(h':Heap) (c':Nat),(∀ b o',s.heap.get? b=some o'→h'.get? b=some o') →
      h'.get? s.heap.objs.size=some { cls:=.type "list",dict:=none,data:=.seq its.toArray c',slots:=#[] }→EP X pins σ Q (.ref s.heap.objs.size) { s with heap:=h' }:=fun its r' hz h' c' kp e =>
    ⟨.ref s.heap.objs.size,_,I.laid (t':=s.toks) kp (Nat.le_refl _) (show zba X.prog X.w _ h' _ (.lst ys) from⟨hz,its,c',r',e⟩),rfl,q _ (I.hok.fresh (Nat.le_refl _))⟩
  rcases hq with hq | hq
  · obtain⟨its,r',pl,hz⟩:=I.list hq
    have hlen:=r'.length
    obtain⟨o,ho,hc,n,hd⟩:=pl.isList
    exact call_list_seq p (.inl rfl) ho hc hd (fun h' c' kp e=>fin its r' hz h' c' kp e) (by simp only[List.size_toArray] <;> omega)
  · obtain⟨its,r',pl,hz⟩:=I.tuple hq
    have hlen:=r'.length
    obtain⟨o,ho,hc,n,hd⟩:=pl
    exact call_list_seq p (.inr rfl) ho hc hd (fun h' c' kp e=>fin its r' hz h' c' kp e) (by simp only[List.size_toArray] <;> omega)
inductive rTpO (K:PySem.W.Frag):List V→Hp→VK→Prop | mk {xs H Q} p ys:xs=[.ref p]→((SqL K H p ys∧∀ l,H l=none→Q (.ref l) (upd H l (.tup ys)))∨(SqT K H p ys∧Q (.ref p) H))→rTpO K xs H Q
theorem zf0:zby X (.type "tuple") (rTpO X.K):=by
  intro pins s σ H xs us Q I r h
  obtain⟨p,ys,rfl,h⟩:=h
  obtain⟨u,rfl,rx⟩:=zdD r
  cases rx
  rcases h with ⟨hq,q⟩ | ⟨hq,q⟩
  · obtain⟨its,r',pl,hz⟩:=I.list hq
    have hlen:=r'.length
    refine call_tuple_list pl.isList (fun h' kp=>?_) (by simp only[List.size_toArray] <;> omega)
    have I1:Inv X pins σ H { s with heap:=h' }:=I.kept (t':=s.toks) kp
    have I2:Inv X pins σ (upd H h'.objs.size (.tup ys)) { s with heap:=h'.push { cls:=.type "tuple",data:=.seq its.toArray } } :=
      I1.laid (t':=s.toks) (fun b o e=>Heap.get?_push_of_some _ e) (Nat.le_refl _) (show zba X.prog X.w _ _ _ (.tup ys) from⟨hz,its,r',zdc.new _ _⟩)
    exact⟨.ref h'.objs.size,_,I2,rfl,q _ (I1.hok.fresh (Nat.le_refl _))⟩
  · obtain⟨its,r',pl,hz⟩:=I.tuple hq
    exact call_tuple_same pl ⟨.ref p,H,I,rfl,q⟩
def tyV (K:PySem.W.Frag) (T:String) (x:V) (H:Hp):Prop:=match x with
  | .str _=>T="str"
  | .int _=>T="int"
  | .ref p=>(T="list"∧∃ xs,SqL K H p xs)∨(T="tuple"∧∃ o,K.lookup p=some o∧o.cls=.type "tuple"∧o.dict=none) ∨
      (T="dict"∧((∃ kvs,H p=some (.dK kvs))∨∃ kvs,H p=some (.dT kvs)))∨(T="set"∧∃ S n,H p=some (.set S n))∨(T="tuple"∧∃ xs,SqT K H p xs)
  | _=>False
theorem ziA {pins:List (Addr × Obj)} {σ:St} {H:Hp} {s:Shared} {T:String} {x:V} {v:Value} (I:Inv X pins σ H s) (r:ar x v) (ty:tyV X.K T x H) :
    s.TypeIs v T∧∀ a,v=.ref a→∃ ob,s.heap.get? a=some ob∧ob.dict=none:=by
  cases x with
  | str z =>
    obtain⟨t,rfl⟩:=r
    cases (show T="str" from ty)
    exact⟨typeIs_str s z t,fun _ e=>nomatch e⟩
  | int i =>
    obtain⟨t,rfl⟩:=r
    cases (show T="int" from ty)
    exact⟨typeIs_int s i t,fun _ e=>nomatch e⟩
  | ref p =>
    cases r
    rcases ty with ⟨rfl,xs,hq⟩ | ⟨rfl,o,hk,hc,hd⟩ | ⟨rfl,hk⟩ | ⟨rfl,S,n,hk⟩ | ⟨rfl,xs,hk⟩
    · obtain⟨its,_,pl,_⟩:=I.list hq
      refine⟨pl.isList.typeIs,fun a e=>?_⟩
      cases e
      obtain⟨o,n,e,c,hd,_⟩:=pl
      exact⟨o,e,hd⟩
    · refine⟨⟨o,I.kIn p o hk,hc⟩,fun a e=>?_⟩
      cases e
      exact⟨o,I.kIn _ o hk,hd⟩
    · have z:∃ o,s.heap.get? p=some o∧o.ExactDict:=by
        rcases hk with ⟨kvs,hk⟩ | ⟨kvs,hk⟩
        · obtain⟨_,_,_,_,o,_,_,e,ex,_⟩:=I.hok p _ hk
          exact⟨o,e,ex⟩
        · obtain⟨_,_,_,_,o,_,_,e,ex,_⟩:=I.hok p _ hk
          exact⟨o,e,ex⟩
      obtain⟨o,e,ex⟩:=z
      refine⟨⟨o,e,ex.1⟩,fun a e2=>?_⟩
      cases e2
      exact⟨o,e,ex.2.1⟩
    · obtain⟨o,_,_,_,e,ex,_⟩:=I.hok p _ hk
      refine⟨⟨o,e,ex.1⟩,fun a e2=>?_⟩
      cases e2
      exact⟨o,e,ex.2.1⟩
    · obtain⟨its,_,⟨o,e,c,_⟩,_⟩:=I.tupD hk
      refine⟨⟨o,e,(Prod.mk.inj c).1⟩,fun a e2=>?_⟩
      cases e2
      exact⟨o,e,(Prod.mk.inj c).2⟩
  | _=>exact False.elim ty
def tBM (K:PySem.W.Frag) (T:String) (r:V→List V→Hp→VK→Prop) (to:TE) (t:TA):TE:=fun σ H Q=>to σ H fun x H1=>tyV K T x H1∧t σ H1 fun xs H2=>r x xs H2 Q
variable {o e:Expr} {es:List Expr} {to:TE} {t:TA} {name:Str} {apos cpos:Pos} {T id:String} {r:V→List V→Hp→VK→Prop}
theorem zea (pa:PlainAttrs T) (slot:Slot T name id) (hty:typeOf (.builtin id)=pure (.type "method_descriptor")) (hm:MtR X id r) (ho:PE X o to) (ha:PA X (e :: es) t)
    (hbase:attributeBase o name X.env (eval o X.env)=eval o X.env:=by rfl)
    (hfew:((backTo cpos (starEach (e :: es) X.env)).all (fun x=>!x.1)&&(backToKw cpos (keywordEach [] X.env)).all (fun x=>x.1.isSome)
      && decide ((e :: es).length+([]:List Keyword).length+(if([]:List Keyword).isEmpty then 0 else 1) < 30))=true:=by rfl)
    (hline:(apos.endLine == cpos.line)=true:=by rfl) (hs:starEach (e :: es) X.env=(false,eval e X.env) :: starEach es X.env:=by rfl) (hplain:(backTo cpos (starEach es X.env)).any (·.1)=false:=by rfl) :
    PE X (.Call (.Attribute o name apos) (e :: es) [] cpos) (tBM X.K T r to t):=by
  intro pins s σ H Q I h
  refine wpAny_Call_method_late hbase hfew hline rfl (thn (ho pins s σ H _ I h) fun v s1 ⟨x,H1,I1,r1,ty,q1⟩=>?_)
  obtain⟨h1,h2⟩:=ziA I1 r1 ty
  refine⟨T,id,pa,slot,hty,h1,h2,?_⟩
  have hA:=ha cpos pins s1 σ H1 _ I1 q1
  rw[hs]at hA ⊢
  refine Calls.callWith_builtin (by show(false||(backTo cpos (starEach es X.env)).any (·.1))=false;rw[hplain] <;> rfl) (Calls.evalArgs_plain ?_)
  exact thn hA fun us s2 ⟨vs,H2,I2,r2,q2⟩=>hm pins s2 σ H2 x vs v us Q I2 r1 r2 q2
end
end L2
namespace L2
open PySem PySem.Spec PyProof.Rows
def MtM (X:Cx) (id:String) (r:V→List V→Hp→VK→Prop):Prop :=
  ∀(pins:List (Addr × Obj)) (s:Shared) (σ:St) (H:Hp) (x:V) (xs:List V) (v:Value) (us:List Value) (Q:VK),Inv X pins σ H s→ar x v→ap xs us→r x xs H Q →
    wpAny (model X.prog X.w) X.A (call (.builtin id) (v :: us)) (EP X pins σ Q) X.xe s
theorem ap.one {x:V} {us:List Value} (h:ap [x] us):∃ u,us=[u]∧ar x u:=by
  cases h with
  | cons r h=>cases h;exact⟨_,rfl,r⟩
theorem ap.two {x y:V} {us:List Value} (h:ap [x,y] us):∃ u v,us=[u,v]∧ar x u∧ar y v:=by
  cases h with
  | cons r h=>cases h with
    | cons q h=>cases h;exact⟨_,_,rfl,r,q⟩
theorem ap.zero:∀ {us:List Value},ap [] us→us=[]
  | _,.nil=>rfl
section
variable {X:Cx} {pins:List (Addr × Obj)} {σ:St} {H:Hp} {s:Shared} {l b:Addr} {xs ys zs:List V}
theorem Inv.lset {its its':List Value} {n:Nat} {f:Array Value→Array Value} {t':Nat} (I:Inv X pins σ H s) (hH:H l=some (.lst xs))
    (e:s.heap.get? l=some { cls:=.type "list",data:=.seq its.toArray n }) (hf:f its.toArray=its'.toArray) (hv:ap ys its') (hz:ys.length≤sizeLine) :
    Inv X pins σ (upd H l (.lst ys)) { s with heap:=s.heap.update l (Obj.mapSeq f),toks:=t' }:=by
  have q:=PySem.IsL.update e f
  rw[hf]at q
  refine I.write (x:=l) (e:=l) (by rw[hH];exact trivial) (.inl rfl) (fun b' u hb hu=>(Heap.get?_update_other s.heap (Obj.mapSeq f) (Ne.symm hb)).trans hu) ⟨_,q⟩ ?_
  exact⟨hz,its',_,hv,q⟩
theorem Inv.lnew {its:List Value} {t':Nat} (I:Inv X pins σ H s) (hv:ap ys its) (hz:ys.length≤sizeLine) :
    Inv X pins σ (upd H s.heap.objs.size (.lst ys)) { s with heap:=s.heap.push { cls:=.type "list",data:=.seq its.toArray },toks:=t' } :=
  I.laid (fun _ _ q=>Heap.get?_push_of_some _ q) (Nat.le_refl _) ⟨hz,its,0,hv,Heap.get?_push_size _ rfl⟩
theorem Inv.fresh (I:Inv X pins σ H s):H s.heap.objs.size=none:=I.hok.fresh (Nat.le_refl _)
theorem Inv.lstM (I:Inv X pins σ H s) (hH:H l=some (.lst xs)):xs.length≤sizeLine∧∃(its:List Value) (n:Nat),ap xs its∧xs.length=its.length∧s.heap.get? l=some { cls:=.type "list",data:=.seq its.toArray n }:=by
  obtain⟨z,its,n,r,e⟩:=I.hok l _ hH
  exact⟨z,its,n,r,r.length,e⟩
theorem zj4 {n:Nat} (h:n≤sizeLine):Builtin.List.listTooLong n=false:=by
  unfold Builtin.List.listTooLong
  exact decide_eq_false (by omega)
end
section
variable {X:Cx}
inductive zhm:V→List V→Hp→VK→Prop | mk {x vs H Q} l xs y:x=.ref l→vs=[y]→H l=some (.lst xs)→xs.length < sizeLine→Q .non (upd H l (.lst (xs++[y])))→zhm x vs H Q
theorem zc7:MtM X "list.append" zhm:=by
  intro pins s σ H x vs v us Q I rx rv h
  obtain⟨l,xs,y,rfl,rfl,hH,hz,q⟩:=h
  cases rx
  obtain⟨u,rfl,ru⟩:=rv.one
  obtain⟨z,its,n,r,hl,e⟩:=I.lstM hH
  refine call_meets F.slot_list_append ⟨_,e,rfl⟩ F.entry_list_append (F.args_list_append_2 _ _) (PySem.list_append l its.toArray n u (by rw[List.size_toArray];omega)) ⟨e,?_⟩
  refine⟨.non,_,I.lset (its':=its++[u]) hH e (by simp) (r.append (.cons ru .nil)) ?_,rfl,q⟩
  rw[List.length_append,List.length_singleton]
  omega
inductive zhl:V→List V→Hp→VK→Prop | mk {x vs H Q} l b xs zs:x=.ref l→vs=[.ref b]→H l=some (.lst xs)→H b=some (.lst zs)→xs.length+zs.length≤sizeLine→Q .non (upd H l (.lst (xs++zs)))→zhl x vs H Q
theorem zjs:MtM X "list.extend" zhl:=by
  intro pins s σ H x vs v us Q I rx rv h
  obtain⟨l,b,xs,zs,rfl,rfl,hH,hB,hz,q⟩:=h
  cases rx
  obtain⟨u,rfl,ru⟩:=rv.one
  cases ru
  obtain⟨z,its,n,r,hl,e⟩:=I.lstM hH
  obtain⟨z2,its2,n2,r2,hl2,e2⟩:=I.lstM hB
  have hsz:its.toArray.size+its2.toArray.size≤sizeLine:=by rw[List.size_toArray,List.size_toArray];omega
  have hlong:¬(!its.toArray.isEmpty&&Builtin.List.listTooLong (its.toArray.size+its2.toArray.size))=true:=by
    rw[zj4 hsz,Bool.and_false]
    exact Bool.false_ne_true
  refine call_meets F.slot_list_extend ⟨_,e,rfl⟩ F.entry_list_extend (F.args_list_extend_2 _ _)
    (AutoSeq1.list_extend_list_list_0 l its.toArray n b its2.toArray n2 hlong (by rw[List.size_toArray];omega) (by omega)) ⟨e,e2,?_⟩
  refine⟨.non,_,I.lset (its':=its++its2) hH e (by simp) (r.append r2) ?_,rfl,q⟩
  rw[List.length_append]
  omega
inductive rCat:R2 | mk {x y H Q} l b xs zs:x=.ref l→y=.ref b→H l=some (.lst xs)→H b=some (.lst zs)→xs.length+zs.length≤sizeLine→(∀ p,H p=none→Q (.ref p) (upd H p (.lst (xs++zs))))→rCat x y H Q
theorem zdX:OpR X (binaryOp .Add) rCat:=by
  intro pins s σ H x y v u Q I rx ry h
  obtain⟨l,b,xs,zs,rfl,rfl,hH,hB,hz,q⟩:=h
  cases rx
  cases ry
  obtain⟨z,its,n,r,hl,e⟩:=I.lstM hH
  obtain⟨z2,its2,n2,r2,hl2,e2⟩:=I.lstM hB
  refine PySem.P.add_list e e2 ?_ (by rw[List.size_toArray,List.size_toArray];omega)
  have ea:its.toArray++its2.toArray=(its++its2).toArray:=by simp
  rw[ea]
  exact⟨.ref _,_,I.lnew (t':=s.toks) (r.append r2) (by rw[List.length_append];omega),rfl,q _ I.fresh⟩
theorem zkW {α:Type} (xs:List α) (k:Nat):(List.replicate k xs).flatten.length=k * xs.length:=by
  induction k with
  | zero=>simp
  | succ k ih=>rw[List.replicate_succ,List.flatten_cons,List.length_append,ih,Nat.succ_mul,Nat.add_comm]
end
section
variable {prog:Program} {w:World} {A:Around} {E:Value→Shared→Prop} {s:Shared}
end
section
variable {X:Cx}
end
end L2
namespace Att
open PySem PySem.W PySem.Calls PyProof.Rows
theorem zfn {P:Params} {h:Heap}:∀(ns:List Int) (vs:List Value),WellAll P h vs (ns.map WData.int)→IntsAre vs ns:=by
  intro ns
  induction ns with
  | nil =>
    intro vs w
    rw[List.map_nil]at w
    cases w
    exact .nil
  | cons n ns ih =>
    intro vs w
    rw[List.map_cons]at w
    cases w with
    | cons a b =>
      cases a
      exact .cons _ _ (ih _ b)
theorem zjj {l:OpenLaw} {n:Nat} (hn:l.most=some n) {P:Params} {h:Heap} {args:List WData} {vals:List Value}
    (hpre:l.row.toRowW.claim.pre args=true) (hwl:WellAll P h vals args) :
    ∃ a vs ns,vals=[Value.ref a]∧args=[WData.list (ns.map WData.int)]∧h.get? a=some { cls:=.type "list",data:=.seq vs.toArray }∧IntsAre vs ns∧ns.length≤n:=by
  have hsh:WShape.hasAll [] args [.list .int]=true:=(pre_splitW hpre).1
  have hc:l.pre.holds [] { args:=args }=true:=(pre_splitW hpre).2
  obtain⟨d,r,rfl,h1,h2⟩:=hasAllW_cons hsh
  obtain rfl:=hasAllW_nil h2
  obtain⟨xs,rfl,h3⟩:=hasW_list h1
  obtain⟨ns,rfl⟩:=items_int h3
  have hlen:ns.length≤n:=by
    unfold OpenLaw.pre at hc
    have h4:(WTm.not (.lt (.lit (.int (n:Int))) (.len (.arg 0)))).holds [] { args:=[.list (ns.map .int)] }=true:=by
      have h4:=(holds_andW hc).1
      rw[hn]at h4
      exact h4
    have h5:=condW_of h4 (w_not (w_lt w_lit (w_len_list (w_arg rfl))))
    rw[List.length_map]at h5
    refine Nat.le_of_not_lt fun q=>?_
    have q':(n:Int) < ((ns.length:Nat):Int):=by omega
    first
      | (rw[decide_eq_true q']at h5;exact absurd h5 (by decide))
      | (simp at h5;omega)
  cases hwl with
  | cons w1 w2 =>
    cases w2
    cases w1 with
    | list ho hall=>exact⟨_,_,ns,rfl,rfl,ho,zfn ns _ hall,hlen⟩
theorem zjn (l:OpenLaw) (args:List WData):l.row.toRowW.claim.post args (.bool true) args=true :=
  postW_of (r:=l.row.toRowW) (X:=(true == true))
    (show WShape.has [] (.bool true) .bool=true by first | rfl | decide | simp [WShape.has,WShape.arms,WShape.armsAll])
    (show(WTm.eq .res (.lit (.bool true))).value [] { args:=args,res:=some (.bool true),after:=args }=some (.bool (true == true)) from w_eq_bool (w_res rfl) w_lit) rfl
theorem attach_call {l:OpenLaw} {n:Nat} {q:Program} {loose:List Str} {XP:(Str→Option Value)→Heap→Prop} {YP:World→Heap→Prop} {d:DefRec}
    (hn:l.most=some n) (hdf:d.params.defaults=[])
    (call:∀(w:World) (s₀ s₁:Shared) (mg mb:Str→Option Value) (fa:Addr) (o:Obj) (pm cd doc:Value) (a:Addr) (vs:List Value) (ns:List Int),
      Ground q loose [] XP w s₀ mg mb s₁.heap→YP w s₁.heap →
      s₁.heap.get? fa=some o→o.data=.func (docDef d.name d.params d.body d.scope pm cd doc)→s₁.heap.CodeRec cd d.name→mg d.name=some (.ref fa) →
      s₁.heap.get? a=some { cls:=.type "list",data:=.seq vs.toArray }→IntsAre vs ns→ns.length≤n→s₁.gens=#[] →
      codeAny (model l.prog w) callerA (.call (.ref fa) ⟨[.ref a],[]⟩) (fun r s'=>r=.ok (.ret (.bool true))∧OldK s₁.heap s'.heap∧s'.os=s₁.os∧AllBare s'.gens) s₁) :
    WalkO q loose XP YP l.row.toRowW d [] (fun f vs=>PySem.call f vs):=by
  intro w s₀ s₁ mg mb G Y fa o pm cd doc dV kV ho hd hcd hD hmg hg args vals as hpre hlay hrd hwl hlo
  obtain rfl:dV=.none:=Dflts.none hD hdf
  obtain rfl:kV=.none:=Dflts.noKw hD
  obtain⟨a,vs,ns,rfl,rfl,hobj,hints,hlen⟩:=zjj hn hpre hwl
  refine enter_call (codeAny_mono (call w s₀ s₁ mg mb fa o pm cd doc a vs ns G Y ho (fd_plain hd) hcd hmg hobj hints hlen hg) fun r s' hq=>?_)
  obtain⟨rfl,h2,h3,h4⟩:=hq
  exact⟨.inl ⟨.bool true,.bool true,[],rfl,fun _=>rfl,.bool true,zjn l _,fun _=>⟨List.Pairwise.nil,fun _ hm=>(nomatch hm)⟩⟩,h2,h3,h4⟩
section
variable {prog:Program} {w:World} {A:Around} {E:Value→Shared→Prop} {s:Shared} {K:Frag}
def ledger (h:Heap) (L d:Addr):List (Addr × Obj):=(List.range h.objs.size).filterMap fun a=>if a=L∨a=d then none else(h.get? a).map fun o=>(a,o)
end
end Att
namespace L2
open PySem PySem.Spec PyProof.Rows
theorem zfI:∀ {vs:List Value} {ns:List Int},IntsAre vs ns→ap (ns.map V.int) vs
  | _,_,.nil=>.nil
  | _,_,.cons n t h=>.cons ⟨t,rfl⟩ (zfI h)
def Only (H:Hp):Prop:=∀ b,H b=none∨∃ o xs,H b=some (.frz o (.lst xs))
theorem zkb {P:Program} {w:World} {K:PySem.W.Frag} {mg mb:Str→Option Value} {CX:CXT} {k:Nat} {fa a:Addr} {fd:FuncData} {x:Str} {sp:Sp} {s₁:Shared} {vs:List Value} {ns:List Int}
    (KX:K.In s₁.heap) (hns:s₁.heap.Ns mainGlobals mg) (hb:s₁.heap.Ns builtinsNs mb) (hbb:∀ x:Str,x≠"__name__"→mb x=bootBuiltins x) (hlim:s₁.heap.NoLimit) (hg:s₁.gens=#[])
    (ha:s₁.heap.get? a=some { cls:=.type "list",data:=.seq vs.toArray }) (hi:IntsAre vs ns) (hl:ns.length≤sizeLine) (hr:zai k callerA)
    (F:∀ base:Heap,K.In base→base.Ns mainGlobals mg→FnOk P w K mg base CX k fa fd [x] sp) (hbind:∀(s:Shared) (u:Value),BindsTo s fd ⟨[u],[]⟩ [(x,u)])
    (hsp:∀ H:Hp,Only H→SqL K H a (ns.map V.int)→sp [.ref a] H (fun v _=>v=.bl true) fun _ _ _=>False)
    (hCX:∀ H e s',CX [] H s₁ (fun _ _ _=>False) e s'→False) :
    codeAny (model P w) callerA (.call (.ref fa) ⟨[.ref a],[]⟩) (fun r s'=>r=.ok (.ret (.bool true))∧OldK s₁.heap s'.heap∧s'.os=s₁.os∧AllBare s'.gens) s₁:=by
  have rv:=zfI hi
  have lenV:=hi.length
  have core:∀ H:Hp,Only H→SqL K H a (ns.map V.int)→HOk P w H s₁.heap→(∀ b,H b≠none→b=a)→(H a≠none→K.lookup a=none) →
      codeAny (model P w) callerA (.call (.ref fa) ⟨[.ref a],[]⟩) (fun r s'=>r=.ok (.ret (.bool true))∧OldK s₁.heap s'.heap∧s'.os=s₁.os∧AllBare s'.gens) s₁:=by
    intro H hO hS hok hA hK
    have base_of:∀ {b:Addr} {o:Obj},s₁.heap.get? b=some o→H b=none→(zdC s₁.heap H).get? b=some o:=fun e n=>zkc e n
    have noA:∀ {b:Addr} {o:Obj} {es:Array DictEntry} {ep:Nat},s₁.heap.get? b=some o→o.data=.dict es ep→H b=none:=fun {b o es ep} e d=>by
      cases q:H b with
      | none=>rfl
      | some u =>
        have e':b=a:=hA b (by rw[q];simp)
        subst e'
        rw[ha]at e;cases e
        have d':Data.seq vs.toArray _=Data.dict es ep:=d
        cases d'
    have nsK:∀ {b:Addr} {m:Str→Option Value},s₁.heap.Ns b m→(zdC s₁.heap H).Ns b m:=fun {b m} ⟨o,es,ep,e,d,r⟩=>⟨o,es,ep,base_of e (noA e d),d,r⟩
    have hKb:K.In (zdC s₁.heap H):=fun b o e=>base_of (KX b o e) (by
      cases q:H b with
      | none=>rfl
      | some u =>
        have e':b=a:=hA b (by rw[q];simp)
        subst e'
        rw[hK (by rw[q];simp)]at e;cases e)
    have hM:Mod K mg (zdC s₁.heap H):=⟨hKb,nsK hns,⟨mb,nsK hb,hbb⟩,let ⟨mc,h1,h2⟩:=hlim;⟨mc,nsK h1,h2⟩⟩
    have e0:zdP P w K mg (zdC s₁.heap H) callerA [] s₁ H:=⟨rfl,hM,fun b o e=>zkO e,Nat.le_of_eq (zjy _ _),trivial,fun b hb=>absurd (show b∈([]:List Addr) from hb) (by simp),hok,.of_eq hg⟩
    refine codeAny_mono ((F _ hKb (nsK hns)).run callerA [] s₁ H ⟨[.ref a],[]⟩ [.ref a] [.ref a] _ _ hr e0 (hbind s₁ (.ref a)) (.cons rfl .nil) (hsp H hO hS)) fun r s' h=>?_
    cases r with
    | error e=>exact(hCX H e s' h).elim
    | ok fl =>
      cases fl with
      | next=>exact False.elim h
      | brk=>exact False.elim h
      | cont=>exact False.elim h
      | ret u =>
        obtain⟨v,H',os,bare,un,hok',r',q⟩:=h
        have q':v=.bl true:=q
        subst q'
        obtain rfl:u=Value.bool true:=r'
        refine⟨rfl,OldK.of_keep fun b o e=>?_,os,bare⟩
        cases q:H b with
        | none=>exact un.keep b o e q (by intro z;exact absurd (show b∈([]:List Addr) from z) (by simp)) (by simp)
        | some u =>
          rcases hO b with z | ⟨ob,xs,z⟩
          · rw[q]at z;cases z
          · have z2:=un.frzs b ob _ z
            obtain⟨e1,_⟩:=hok b _ z
            obtain⟨e2,_⟩:=hok' b _ z2
            rw[e]at e1;cases e1
            exact e2
  cases hk:K.lookup a with
  | some o =>
    have e:=KX a o hk
    rw[ha]at e
    cases e
    refine core (fun _=>none) (fun _=>.inl rfl) (.inr ⟨_,vs.toArray,_,hk,rfl,rfl,rfl,by rw[List.size_toArray,lenV];exact hl,by simpa using rv⟩) (fun b u z=>by have z':(none:Option HO)=some u:=z;cases z') (fun b z=>absurd rfl z) fun z=>absurd rfl z
  | none =>
    refine core (fun b=>if b=a then some (.frz { cls:=.type "list",data:=.seq vs.toArray } (.lst (ns.map V.int))) else none) (fun b=>?_) (.inl (.inr ⟨{ cls:=.type "list",data:=.seq vs.toArray },if_pos rfl⟩)) (fun b u z=>?_) (fun b z=>?_) fun _=>hk
    · by_cases hb:b=a
      · exact .inr ⟨_,_,if_pos hb⟩
      · exact .inl (if_neg hb)
    · by_cases hb:b=a
      · have z':=(if_pos hb).symm.trans z
        cases z'
        subst hb
        exact⟨ha,by rw[List.length_map];exact hl,vs,_,rv,ha⟩
      · have z':=(if_neg hb).symm.trans z
        cases z'
    · by_cases hb:b=a
      · exact hb
      · exact absurd (if_neg hb) z
end L2
namespace L2
open PySem PySem.Spec PyProof.Rows
abbrev KOf {K:PySem.W.Frag} {h:Heap} (_:K.In h):PySem.W.Frag:=K
theorem walk_of {l:PySem.W.OpenLaw} {n k:Nat} {q:Program} {loose:List Str} {XP:(Str→Option Value)→Heap→Prop} {YP:World→Heap→Prop} {d:DefRec} {K:Params→PySem.W.Frag} {CX:World→CXT} {sp:World→Sp} {x:Str}
    (hn:l.most=some n) (hn2:n≤sizeLine) (hdf:d.params.defaults=[]) (hr:zai k callerA)
    (hY:∀(w:World) (h:Heap),YP w h→(K w.params).In h)
    (F:∀(w:World) (mg:Str→Option Value) (fa:Addr) (h:Heap),(K w.params).In h→h.Ns mainGlobals mg→mg d.name=some (.ref fa) →
      ∃ fd:FuncData,(∀(s:Shared) (u:Value),BindsTo s fd ⟨[u],[]⟩ [(x,u)]) ∧
        ∀ base:Heap,(K w.params).In base→base.Ns mainGlobals mg→FnOk l.prog w (K w.params) mg base (CX w) k fa fd [x] (sp w))
    (hsp:∀(w:World) (H:Hp) (a:Addr) (ns:List Int),ns.length≤n→Only H→SqL (K w.params) H a (ns.map V.int)→sp w [.ref a] H (fun v _=>v=.bl true) fun _ _ _=>False)
    (hCX:∀(w:World) (H:Hp) (s:Shared) (e:Value) (s':Shared),CX w [] H s (fun _ _ _=>False) e s'→False) :
    PySem.W.WalkO q loose XP YP l.row.toRowW d [] (fun f vs=>PySem.call f vs):=by
  refine Att.attach_call hn hdf fun w s₀ s₁ mg mb fa o pm cd doc a vs ns G Y ho hd hcd hmg hobj hints hlen hg=>?_
  have KX:=hY w _ Y
  obtain⟨fd,hb,hF⟩:=F w mg fa _ KX G.T.g hmg
  exact zkb KX G.T.g G.T.b G.T.builtins G.T.nolimit hg hobj hints (Nat.le_trans hlen hn2) hr hF hb (fun H hO hS=>hsp w H a ns hlen hO hS) fun H e s'=>hCX w H s₁ e s'
end L2
namespace L2
open PySem PySem.Spec PyProof.Rows
def zcM (s:Stmt) (j:Nat):Stmt:=match s with
  | .ClassDef _ _ _ body _ _ _ _ _ _ _=>body.getD j (.Pass ⟨0,0,0,0⟩)
  | _=>.Pass ⟨0,0,0,0⟩
def zbO (s:Stmt):Arguments:=match s with
  | .FunctionDef _ a _ _ _ _ _ _ _ _=>a
  | _=>{ posonlyargs:=[],args:=[],vararg:=none,kwonlyargs:=[],kw_defaults:=[],kwarg:=none,defaults:=[] }
def zaC (s:Stmt):List Stmt:=match s with
  | .FunctionDef _ _ b _ _ _ _ _ _ _=>b
  | _=>[]
def ag (s:Stmt):Scope:=match s with
  | .FunctionDef _ _ _ _ _ _ sc _ _ _=>sc
  | _=>{ kind:=.function,names:=[],isGenerator:=false,isCoroutine:=false }
abbrev CX0:CXT:=fun _ _ _ _ _ _=>False
abbrev E0:XK:=fun _ _ _=>False
theorem zao {X:Cx}:zbu CX0 X E0:=fun _ _ _ _ _ _ _ h=>h.elim
structure Fun (K:PySem.W.Frag) (x qual:Str) (st:Stmt) (f:Addr) (fd:FuncData):Prop where
  ex:∃(oc:Value) (od:Option Addr) (kV doc pm:Value) (an:Option Addr) (cdv ct:Value) (osl:Array (Option Value)),
    fd=PySem.W.fnOf x qual (zbO st) (zaC st) (ag st) .none kV doc pm an cdv ct∧K.lookup f=some ⟨oc,od,.func fd,osl⟩∧PySem.W.codeIn K cdv qual=true
  kp:PySem.W.keepIn K (.ref f)=true
section
variable {P:Program} {w:World} {K:PySem.W.Frag} {mg:Str→Option Value} {base:Heap}
theorem Fun.ok {x qual:Str} {st:Stmt} {f:Addr} {fd:FuncData} {N ps:List Str} {k:Nat} {sp:Sp} (F:Fun K x qual st f fd) (S:zac N ps (ag st)) (len:∀ vs H Q E,sp vs H Q E→vs.length=ps.length)
    (hbody:∀(cdv:Value) (A:Around) (outer:List Env) (s:Shared) (H:Hp) (vs:List V) (Q:VK) (E:XK),zai k (A.deeper (envOfC qual (ag st) s.heap.objs.size f cdv))→sp vs H Q E →
      ∃ t,PSs (zaj CX0 P w K mg base N qual (ag st) f cdv A outer s H E).nox (zaC st) t∧t { nx:=fun _ H'=>Q .non H',rt:=Q } (zbs N vs) H):FnOk P w K mg base CX0 (k+1) f fd ps sp:=by
  obtain⟨oc,od,kV,doc,pm,an,cdv,ct,osl,rfl,lk,hcd⟩:=F.ex
  refine fn_of lk hcd S len fun A outer s H vs Q E hr hsp=>?_
  obtain⟨t,h,q⟩:=hbody cdv A outer s H vs Q E hr hsp
  exact⟨t,h.nox,q⟩
theorem Fun.binds {x qual:Str} {st:Stmt} {f:Addr} {fd:FuncData} {ps:List Str} (F:Fun K x qual st f fd)
    (h:∀(kV doc pm:Value) (an:Option Addr) (cdv ct:Value) (us:List Value),us.length=ps.length→bindArgs (PySem.W.fnOf x qual (zbO st) (zaC st) (ag st) .none kV doc pm an cdv ct) ⟨us,[]⟩=pure (ps.zip us)):aq K fd ps []:=by
  obtain⟨oc,od,kV,doc,pm,an,cdv,ct,osl,rfl,lk,hcd⟩:=F.ex
  exact .all (h kV doc pm an cdv ct)
theorem zi3 {x qual:Str} {st:Stmt} {f:Addr} {oc:Value} {od an:Option Addr} {osl:Array (Option Value)} {kV doc pm cdv ct:Value} (l:K.lookup f=some ⟨oc,od,.func (PySem.W.fnOf x qual (zbO st) (zaC st) (ag st) .none kV doc pm an cdv ct),osl⟩)
    (c:PySem.W.codeIn K cdv qual=true) (k:PySem.W.keepIn K (.ref f)=true):Fun K x qual st f (PySem.W.fnOf x qual (zbO st) (zaC st) (ag st) .none kV doc pm an cdv ct):=⟨⟨oc,od,kV,doc,pm,an,cdv,ct,osl,rfl,l,c⟩,k⟩
end
theorem zct {n:Nat} (h:n≤1000):n < sizeLine:=Nat.lt_of_le_of_lt h (by decide)
section
variable {X:Cx}
theorem pv (i:Nat) {x:Str} {pos:Pos} (hN:X.N[i]?=some x:=by rfl) (hv:Vis X.env.scope x:=by first | exact Or.inl rfl | exact Or.inr (Or.inl rfl) | exact Or.inr (Or.inr rfl)) (hd:(x == ("__debug__":Str))=false:=by decide)
    (hcd:(x == ("__classdict__":Str))=false:=by decide):PE X (.Name x pos) (zb5 i):=pe_var hN hv hd hcd
end
theorem za8 {A B:Prop} (h:B):if false=true then A else B:=by
  rw[if_neg Bool.false_ne_true]
  exact h
theorem zbD {A B:Prop} (h:A):if true=true then A else B:=by
  rw[if_pos rfl]
  exact h
theorem zaI {c A B:Prop} [Decidable c] (h1:c→A) (h2:¬c→B):if c then A else B:=by
  by_cases h:c
  · rw[if_pos h]
    exact h1 h
  · rw[if_neg h]
    exact h2 h
def ao (H H':Hp):Prop:=∀ b o,H b=some o→H' b=some o
theorem ao.refl (H:Hp):ao H H:=fun _ _ h=>h
theorem ao.trans {H H1 H2:Hp} (a:ao H H1) (b:ao H1 H2):ao H H2:=fun c o h=>b c o (a c o h)
theorem ao.free {H H':Hp} (e:ao H H') {l:Addr} (h:H' l=Option.none):H l=Option.none:=by
  cases q:H l with
  | none=>rfl
  | some o =>
    rw[e l o q]at h
    cases h
theorem ao.seq {K:PySem.W.Frag} {H H':Hp} {a:Addr} {xs:List V} (e:ao H H') (h:SqL K H a xs):SqL K H' a xs:=by
  rcases h with (h | ⟨o,h⟩) | h
  · exact .inl (.inl (e _ _ h))
  · exact .inl (.inr ⟨o,e _ _ h⟩)
  · exact .inr h
end L2
theorem lS0:0≤PySem.sizeLine:=by decide
theorem lS1:1≤PySem.sizeLine:=by decide
theorem lS2:2≤PySem.sizeLine:=by decide
theorem lS3:3≤PySem.sizeLine:=by decide
theorem lS4:4≤PySem.sizeLine:=by decide
namespace L2
open PySem PySem.Spec PyProof.Rows
section
variable {X:Cx} {e l:Expr} {te tl:TE} {pos:Pos} {tg:Expr}
inductive rSlS:V→Option Int→Option Int→Hp→VK→Prop | mk {x lo hi H Q} z:x=.str z→z.length≤sizeLine→Q (.str (Txt.slice z lo hi)) H→rSlS x lo hi H Q
theorem zhv {v:Value} {o:Option Int} (p:IsPart v o):∃ q:Option (Int × Tok),v=partValue q∧q.map (·.1)=o:=by
 cases p with
 | none=>exact⟨none,rfl,rfl⟩
 | int i t=>exact⟨some (i,t),rfl,rfl⟩
theorem zgl:SlR X rSlS:=by
 intro pins s σ H x v vl vu lo hi sl Q I rx hs pl pu h
 obtain⟨z,rfl,hz,q⟩:=h
 obtain⟨t,rfl⟩:=rx
 obtain⟨ql,rfl,rfl⟩:=zhv pl
 obtain⟨qu,rfl,rfl⟩:=zhv pu
 obtain⟨o,ho,hc,hd⟩:=hs
 refine⟨"str",_,F.slot_str_getitem.lookup,typeIs_str _ _ _,?_⟩
 refine wpAny_getItem_str_slice (l:=ql) (u:=qu) (st:=none) ⟨o,ho,hc,hd⟩ rfl ?_
 exact post_val_or_str ⟨Nat.le_trans (Txt.slice_le z _ _) hz,fun t' k=>⟨.str (Txt.slice z (ql.map (·.1)) (qu.map (·.1))),H,I.tok _,⟨_,rfl⟩,q⟩⟩
def Its (z:Str):It:=⟨fun i _=>i < z.length,fun i H x H'=>H'=H∧∃ c,z.cps[i]?=some c∧x=.str ⟨#[c]⟩,fun i _=>z.length≤i⟩
theorem zgG {P:Program} {w:World} {K:W.Frag} {ty:String} (hty:ty="str_ascii_iterator"∨ty="str_iterator") (it:Addr) (z:Str) (t:Tok):Turn P w K tg (Its z) [it] it (fun i h=>h.IsStrIter it ty z t i) where
 mem:=by simp
 obj:=fun i h st b hb=>by
  have e:b=it:=by simpa using hb
  subst e
  obtain⟨o,e,c,d⟩:=st
  exact⟨o,e,fun v z=>by rw[d]at z;cases z⟩
 keep:=fun i h h' st k=>by
  obtain⟨o,e,r⟩:=st
  exact⟨o,k it (by simp) o e,r⟩
 item:=by
  intro X hP hw hK hc i pins s σ H E I hf st hg
  subst hP hw hK
  have hi:i < z.cps.size:=hg
  have hx:z.cps[i]?=some z.cps[i]:=by simp [hi]
  obtain⟨f0,f1,f2,f3,f4,f5⟩:=hf it (by simp)
  rcases hty with rfl | rfl
  ·refine wpAny_pyNext_ascii_item st hx fun h' st' sb=>?_
   have I1:Inv X pins σ H { s with heap:=h',toks:=s.toks+1 }:=I.turned (t':=s.toks+1) (fun b o hb e=>(sb.2 b hb).trans e) f0 f1 f3 f4 f5
   obtain⟨o,e,c,d⟩:=id st'
   exact⟨_,rfl,zeZ (s:={ s with heap:=h',toks:=s.toks+1 }) e c d (by decide) ⟨.str ⟨#[z.cps[i]]⟩,H,I1,⟨_,rfl⟩,⟨rfl,_,hx,rfl⟩,st',fun b hb=>(hf b hb).1⟩⟩
  ·refine wpAny_pyNext_wide_item st hx fun h' st' sb=>?_
   have I1:Inv X pins σ H { s with heap:=h',toks:=s.toks+1 }:=I.turned (t':=s.toks+1) (fun b o hb e=>(sb.2 b hb).trans e) f0 f1 f3 f4 f5
   obtain⟨o,e,c,d⟩:=id st'
   exact⟨_,rfl,zeZ (s:={ s with heap:=h',toks:=s.toks+1 }) e c d (by decide) ⟨.str ⟨#[z.cps[i]]⟩,H,I1,⟨_,rfl⟩,⟨rfl,_,hx,rfl⟩,st',fun b hb=>(hf b hb).1⟩⟩
 done:=by
  intro X hP hw hK hc i pins s σ H E I hf st hg
  subst hP hw hK
  have hi:z.cps.size≤i:=hg
  have hx:z.cps[i]?=none:=by simp [hi]
  obtain⟨f0,f1,f2,f3,f4,f5⟩:=hf it (by simp)
  rcases hty with rfl | rfl
  ·exact wpAny_pyNext_ascii_end (I.ok.hd hc) st hx fun h' eb=>⟨rfl,I.turned (t':=s.toks) (fun b o hb e=>eb b o hb e) f0 f1 f3 f4 f5⟩
  ·exact wpAny_pyNext_wide_end (I.ok.hd hc) st hx fun h' eb=>⟨rfl,I.turned (t':=s.toks) (fun b o hb e=>eb b o hb e) f0 f1 f3 f4 f5⟩
 self:=fun _ _ _ _ _ st h=>by
  rcases hty with rfl | rfl
  ·exact wpAny_pyIter_striter_ascii st h
  ·exact wpAny_pyIter_striter_wide st h
def iStr (tl:TE):TI:=fun σ H R=>tl σ H fun x H1=>∃ z,x=.str z∧R (Its z) H1
theorem pi_str (hl:PE X l tl):PI X tg l (iStr tl):=by
 intro pins s σ H R I h
 refine thn (hl pins s σ H _ I h) fun v s1 ⟨x,H1,I1,r1,q1⟩=>?_
 obtain⟨z,e,q⟩:=q1
 subst e
 obtain⟨t,rfl⟩:=r1
 have fp:∀ b∈[s1.heap.objs.size],zbt X pins H1 b:=fun b hb=>by
  have e:b=s1.heap.objs.size:=by simpa using hb
  subst e
  exact I1.fpOk (Nat.le_refl _) (I1.hok.fresh (Nat.le_refl _))
 cases ha:z.cps.all (· < 128) with
 | true =>
  refine wpAny_pyIter_ascii ha ?_
  exact⟨s1.heap.objs.size,[s1.heap.objs.size],_,_,H1,rfl,I1.kept (t':=s1.toks) fun b o e=>Heap.get?_push_of_some _ e,zgG (.inl rfl) _ z t,⟨_,Heap.get?_push_size _ rfl,rfl,rfl⟩,fp,q⟩
 | false =>
  refine wpAny_pyIter_wide ha ?_
  exact⟨s1.heap.objs.size,[s1.heap.objs.size],_,_,H1,rfl,I1.kept (t':=s1.toks) fun b o e=>Heap.get?_push_of_some _ e,zgG (.inr rfl) _ z t,⟨_,Heap.get?_push_size _ rfl,rfl,rfl⟩,fp,q⟩
theorem zfG (hc:X.calm=true):zby X (.builtin "all") (fun xs H Q=>∃(p:Addr) (bs:List Bool),xs=[.ref p]∧SqL X.K H p (bs.map V.bl)∧Q (.bl (bs.all id)) H):=by
 intro pins s σ H xs us Q I r h
 obtain⟨p,bs,rfl,hq,q⟩:=h
 obtain⟨u,rfl,rx⟩:=zdD r
 cases rx
 obtain⟨its,rv,pl,hz⟩:=I.list hq
 have hl:=rv.length
 rw[List.length_map]at hl
 have hp:p < s.heap.objs.size:=by
  obtain⟨o,ho,_⟩:=pl.isList
  exact Heap.lt_size ho
 have hne:p≠s.heap.objs.size:=Nat.ne_of_lt hp
 refine call_all_walk (wpAny_pyIter_list pl.isList ?_)
 refine⟨s.heap.objs.size,[s.heap.objs.size,p],[s.heap.objs.size],its.toArray.size,_,_,fun i=>bs.getD i true,rfl,Walks.list (show X.A.in1.handled=none from I.ok.hd hc) _ p hne its.toArray,⟨⟨_,Heap.get?_push_size _ rfl,rfl,rfl⟩,pl.isList.push _⟩,?_,fun h' tk hk=>?_⟩
 ·intro i v s' Q' E' hv hQ
  have hv':its[i]?=some v:=by simpa using hv
  have hi:i < its.length:=(List.getElem?_eq_some_iff.mp hv').1
  have hb:bs[i]?=some (bs.getD i true):=by
   rw[List.getD_eq_getElem?_getD,List.getElem?_eq_getElem (by omega)]
   rfl
  obtain⟨w',e1,e2⟩:=rv.get (i:=i) (x:=.bl (bs.getD i true)) (by rw[List.getElem?_map,hb];rfl)
  rw[hv']at e1
  cases e1
  cases (show v=Value.bool _ from e2)
  exact wpAny_truthy_bool hQ
 ·have e:(List.range its.toArray.size).all (fun i=>bs.getD i true)=bs.all id:=by
   rw[Bool.eq_iff_iff,List.all_eq_true,List.all_eq_true]
   constructor
   ·intro h x hx
    obtain⟨i,hi,rfl⟩:=List.mem_iff_getElem.mp hx
    have:=h i (List.mem_range.mpr (by simp only[List.size_toArray];omega))
    rw[List.getD_eq_getElem?_getD,List.getElem?_eq_getElem hi]at this
    exact this
   ·intro h i hi
    have hi':i < bs.length:=by have:=List.mem_range.mp hi;simp only[List.size_toArray]at this;omega
    rw[List.getD_eq_getElem?_getD,List.getElem?_eq_getElem hi']
    exact h _ (List.getElem_mem hi')
  refine⟨.bl (bs.all id),H,I.kept (t':=tk) fun b o eb=>hk b o ?_ (Heap.get?_push_of_some _ eb),congrArg Value.bool e,q⟩
  intro hm
  have:b=s.heap.objs.size:=by simpa using hm
  exact absurd (Heap.lt_size eb) (by rw[this];exact Nat.lt_irrefl _)
end
structure Clo (X:Cx) (scope:Scope) (cl:List (Str × Addr)):Prop where
 eq:closureFor scope X.env=pure cl
 sub:∀ y c,cl.lookup y=some c→X.env.cells.lookup y=some c
 has:∀ y,((relabel scope X.env).names.lookup y=some .cell∨(relabel scope X.env).names.lookup y=some .free)→∃ c,cl.lookup y=some c
theorem zcl {X:Cx} {scope:Scope} (hfree:∀ x∈scope.names,x.2≠.free) (hcell:∀ x∈scope.names,x.2≠.cell):Clo X scope []:=by
 refine⟨closureFor_none hfree,fun y c h=>by simp at h,fun y h=>?_⟩
 have e:(relabel scope X.env).names=scope.names:=by
  unfold relabel
  refine map_eq_self (fun x hx=>?_)
  obtain⟨n,k⟩:=x
  have:(k == NameKind.free)=false:=by simpa using hfree _ hx
  simp [this]
 rw[e]at h
 rcases h with h | h
 ·exact absurd rfl (hcell _ (PySem.mem_of_lookup h))
 ·exact absurd rfl (hfree _ (PySem.mem_of_lookup h))
def zaA (X:Cx) (N':List Str) (scope:Scope) (cl:List (Str × Addr)) (fp:List Addr) (s₃:Shared) (H₃:Hp):Cx where
 prog:=X.prog
 w:=X.w
 K:=X.K
 mg:=X.mg
 base:=X.base
 A:=X.A
 N:=N'
 s₀:=s₃
 H₀:=H₃
 env:=compEnvC scope cl s₃.heap.objs.size X.env
 outer:=X.stack
 stack:=X.stack
 ex:=fp
 calm:=X.calm
 fn:=fun _=>false
 pn:=[]
 xe:=fun _ _=>False
def fvs (σ:St) (ix:List Nat):St:=ix.map fun i=>(σ[i]?).join
def tLC (wi:TI) (ix:List Nat) (te:TE):TE:=fun σ H Q=>wi σ H fun J H1=>∀ D,H1 D=none →
 ∃ W:Nat→Nat→List V→Hp→Prop,(∃ m,W 0 m [] (upd H1 D (.lst []))) ∧
  ∀ i m ys H',W i m ys H'→H' D=some (.lst ys) ∧
   ((J.stop i H'∧Q (.ref D) H')∨(J.go i H'∧∀ x H'',J.yld i H' x H''→te (some x :: fvs σ ix) H'' fun y H3 =>
    H3 D=some (.lst ys)∧ys.length < sizeLine∧∃ m',m' < m∧W (i+1) m' (ys++[y]) (upd H3 D (.lst (ys++[y])))))
theorem zdl {prog:Program} {w:World} {A:Around} {R:Result→Shared→Prop} {s:Shared} {elt target iter:Expr} {scope:Scope} {pos:Pos} {it acc:Value} {env:Env} (I:Nat→Shared→Prop)
  (turn:∀ n s,I n s→wpAny (model prog w) A (pyNext it) (fun r s₁=>match r with
   | none=>R (.ok .next) s₁
   | some v=>wpAny (model prog w) A (letOwnedTupleGo target it v) (fun _ s₁'=>wpAny (model prog w) A (assign target env v) (fun _ s₂=>wpAny (model prog w) A (eval elt env) (fun x s₃ =>
     wpAny (model prog w) A (call (.builtin "list.append") [acc,x]) (fun _ s₄=>∃ m,m < n∧I m s₄) (notedBy (model prog w) A env fun e s'=>R (.error e) s') s₃)
     (notedBy (model prog w) A env fun e s'=>R (.error e) s') s₂) (notedBy (model prog w) A env fun e s'=>R (.error e) s') s₁') (notedBy (model prog w) A env fun e s'=>R (.error e) s') s₁) (notedBy (model prog w) A env fun e s'=>R (.error e) s') s)
  (n:Nat) (h:I n s) :
  codeAny (model prog w) A (.compLoop (.ListComp elt [⟨target,iter,[],0⟩] scope pos) 0 it acc env) R s:=by
 refine codeAny_loop rfl I (fun n s hI=>?_) n h
 show wpAny _ _ ((compTurn (.ListComp elt [⟨target,iter,[],0⟩] scope pos) 0 it acc env).onRaise (fun x=>do noteFrame x env;theTreesLotGoes x)) _ _ s
 refine wpAny_noted ?_
 rw[compTurn_list1]
 refine wpAny_bind (wpAny_standAt (wpAny_bind (wpAny_mono (turn n s hI) (fun r s₁ h₁=>?_) fun _ _ h'=>h')))
 cases r with
 | none=>exact wpAny_pure h₁
 | some v =>
  refine wpAny_bind (wpAny_mono h₁ (fun _ s₁' h₁'=>?_) fun _ _ h'=>h')
  exact wpAny_bind (wpAny_mono h₁' (fun _ s₂ h₂=>wpAny_bind (wpAny_bind (wpAny_mono h₂ (fun x s₃ h₃=>wpAny_bind (wpAny_mono h₃
   (fun _ s₄ h₄=>wpAny_pure (wpAny_pure ⟨rfl,h₄⟩)) fun _ _ h'=>h')) fun _ _ h'=>h'))) fun _ _ h'=>h')
section
variable {X:Cx} {N':List Str} {scope:Scope} {cl:List (Str × Addr)} {fp:List Addr} {pins:List (Addr × Obj)} {σ:St} {H:Hp} {s:Shared}
theorem zch (I:Inv X pins σ H s) (C:Clo X scope cl) (hkind:scope.kind=.function) (hf:∀ b∈fp,zbt X pins H b) (hlt:∀ b∈fp,b < s.heap.objs.size):(zaA X N' scope cl fp s H).Ok where
 mod:=I.ok.mod
 kind:=hkind
 glob:=I.ok.glob
 blt:=I.ok.blt
 above:=Nat.le_refl _
 inj:=fun x y c h1 h2=>I.ok.inj x y c (C.sub x c h1) (C.sub y c h2)
 has:=fun x h=>C.has x h
 cab:=fun x c h=>by cases (show false=true from h)
 hd:=I.ok.hd
 frames:=I.ok.frames
 stk:=.inl rfl
 exf:=fun b hb=>⟨Nat.ne_of_lt (hlt b hb),fun x c h=>(hf b hb).2.2.2.2.1 x c (C.sub x c h)⟩
 bs:=fun b o h=>I.bs b o h
 bsz:=Nat.le_trans I.ok.bsz I.sz
 noex:=fun b o h hb=>by
  rcases(hf b hb).2.2.2.1 with z | z
  ·exact I.ok.noex b o h z
  ·exact absurd (Nat.lt_of_lt_of_le (Heap.lt_size h) (Nat.le_trans I.ok.bsz z)) (Nat.lt_irrefl _)
 exfs:=fun b hb hs=>by
  rcases List.mem_cons.mp (I.stkSub b hs) with z | z
  ·exact(hf b hb).2.1 z
  ·exact(hf b hb).2.2.1 z
 funs:=I.stack
 frf:=I.stkFree
theorem zdM {ix:List Nat} {h₁:Heap} {t':Nat} {m:Str→Option Value} (I:Inv X pins σ H s) (C:Clo X scope cl) (hkind:scope.kind=.function) (hf:∀ b∈fp,zbt X pins H b) (hlt:∀ b∈fp,b < s.heap.objs.size)
  (hlen:N'.length=ix.length+1) (hix:∀(j i:Nat),ix[j]?=some i→∃ y,X.N[i]?=some y∧N'[j+1]?=some y∧(X.env.kindOf y=some .cell∨X.env.kindOf y=some .free)∧((relabel scope X.env).names.lookup y=some .cell∨(relabel scope X.env).names.lookup y=some .free))
  (hn:h₁.Ns s.heap.objs.size m) (hk:∀ b o,s.heap.get? b=some o→h₁.get? b=some o):Inv (zaA X N' scope cl fp s H) [] (none :: fvs σ ix) H { s with heap:=h₁,toks:=t' }:=by
 have cellK:∀ x c,cl.lookup x=some c→∃ v,h₁.IsCell c v:=fun x c h=>by
  obtain⟨v,o,ho,hd⟩:=I.cell x c (C.sub x c h)
  exact⟨v,o,hk c o ho,hd⟩
 refine⟨zch I C hkind hf hlt,rfl,I.bare,Un.kept hk,⟨m,hn,fun i y v h1 h2 h3=>?_⟩,cellK,I.hok.fresh (Nat.le_refl _),fun x c h=>I.freeC x c (C.sub x c h),fun p hp=>absurd (show p∈([]:List (Addr × Obj)) from hp) (by simp),I.hok.kept hk,?_,⟨m,hn,zdy⟩⟩
 ·cases i with
  | zero=>cases (show some (none:Option V)=some (some v) from h2)
  | succ j =>
   have h2':(fvs σ ix)[j]?=some (some v):=h2
   unfold fvs at h2'
   rw[List.getElem?_map]at h2'
   cases e:ix[j]? with
   | none=>rw[e]at h2';cases h2'
   | some i =>
    rw[e]at h2'
    have h4:(σ[i]?).join=some v:=Option.some.inj h2'
    have h5:σ[i]?=some (some v):=by
     cases e':σ[i]? with
     | none=>rw[e']at h4;cases h4
     | some q =>
      rw[e']at h4
      have h6:q=some v:=h4
      rw[h6]
    obtain⟨y',n1,n2,k1,k2⟩:=hix j i e
    have ey:y'=y:=Option.some.inj (n2.symm.trans h1)
    subst ey
    obtain⟨m0,hn0,hl0⟩:=I.loc
    have hv0:Vis X.env.scope y':=k1.elim (fun z=>.inr (.inl z)) fun z=>.inr (.inr z)
    obtain⟨u,ru,l⟩:=hl0 i y' v n1 h5 hv0
    refine⟨u,ru,.inr ⟨k2,?_⟩⟩
    rcases l with ⟨k,_⟩ | ⟨_,c,ec,o,ho,hd⟩
    ·rcases k1 with z | z
     ·rw[z]at k;cases k
     ·rw[z]at k;cases k
    ·obtain⟨c',ec'⟩:=C.has y' k2
     have:c'=c:=Option.some.inj ((C.sub _ _ ec').symm.trans ec)
     subst this
     exact⟨c',ec',o,hk c' o ho,hd⟩
 ·show(none :: fvs σ ix:St).length=N'.length
  rw[hlen]
  simp [fvs]
theorem zcT {σ':St} {H':Hp} {s':Shared} {h':Heap} (I:Inv X pins σ H s) (J:Inv (zaA X N' scope cl fp s H) [] σ' H' s') (hf:∀ b∈fp,zbt X pins H b) (hs:Heap.SameBut s.heap.objs.size s'.heap h'):Inv X pins σ H' { s' with heap:=h' }:=by
 have ne:∀ b o,s.heap.get? b=some o→b≠s.heap.objs.size:=fun b o e=>Nat.ne_of_lt (Heap.lt_size e)
 have eq:∀ b,b≠s.heap.objs.size→h'.get? b=s'.heap.get? b:=fun b hb=>hs.2 b hb
 have B:=J.base
 have u:Un (frs X.stack) fp H H' s.heap h' :=
  ⟨fun b o e n h1 h2=>(eq b (ne b o e)).trans (B.keep b o e n h1 h2),fun b o e n h1 h2=>by
   obtain⟨sl,q⟩:=B.slot b o e n h1 h2
   exact⟨sl,(eq b (ne b o e)).trans q⟩,fun b o e n h1=>B.free b o e n h1,fun b o e h1=>by
   obtain⟨o',q⟩:=B.there b o e h1
   exact⟨o',(eq b (ne b o e)).trans q⟩,B.tups,B.frzs,B.tbls⟩
 have hfree:H' s.heap.objs.size=none:=J.free
 have hok:HOk X.prog X.w H' h':=fun b ob e=>by
  refine(J.hok b ob e).stay (fun c w' hc q=>(eq c ?_).trans q) (fun _ q=>q) fun _ _ q=>q
  rintro rfl
  rcases hc with z | z
  ·rw[←z,hfree]at e;cases e
  ·rw[hfree]at z;cases z
 exact I.call' (s':={ s' with heap:=h' }) (ch:=fp) J.os u hok J.bare fun b hb=>⟨(hf b hb).2.2.2.1,(hf b hb).2.1,(hf b hb).2.2.2.2.1,(hf b hb).2.2.2.2.2⟩
end
section
variable {X:Cx} {N':List Str} {scope:Scope} {elt iter:Expr} {x:Str} {px pos:Pos} {wi:TI} {te:TE} {ix:List Nat}
theorem zhG (hc:X.calm=true) (hkind:scope.kind=.function) (hcell:∀ y∈scope.names,y.2≠.cell) (hnames:∀ y∈scope.names,y.2=.local→scope.names.lookup y.1=some .local) (hx:scope.names.lookup x=some .local)
  (hclo:X.Ok→∃ cl,Clo X scope cl) (hN:N'.Nodup) (hN0:N'[0]?=some x) (hlen:N'.length=ix.length+1)
  (hix:∀(j i:Nat),ix[j]?=some i→∃ y,X.N[i]?=some y∧N'[j+1]?=some y∧(X.env.kindOf y=some .cell∨X.env.kindOf y=some .free)∧((relabel scope X.env).names.lookup y=some .cell∨(relabel scope X.env).names.lookup y=some .free))
  (hi:PI X (.Name x px) iter wi) (he:∀ cl fp s₃ H₃,PE (zaA X N' scope cl fp s₃ H₃) elt te) (hs:∀ v,foldedSetIterable iter X.env v=pure v) {use:Option (Value→Sem Unit)} {Qf:Value→Shared→Prop} {pins:List (Addr × Obj)} {s:Shared} {σ:St} {H:Hp} {Q:VK} {cp:Pos} (I:Inv X pins σ H s) (h:tLC wi ix te σ H Q)
  (fin:∀(cl:List (Str × Addr)) (fp:List Addr) (s3 s6:Shared) (H3 H5:Hp) (σ6:St) (D:Addr),Inv X pins σ H3 s3→Inv (zaA X N' scope cl fp s3 H3) [] σ6 H5 s6→(∀ b∈fp,zbt X pins H3 b)→Q (.ref D) H5→compPost (model X.prog X.w) X.A X.xe use Qf (.ref D) s3.heap.objs.size (.ok .next) s6) :
  wpAny (model X.prog X.w) X.A (comprehension (.ListComp elt [⟨.Name x px,iter,[],0⟩] scope pos) scope X.env cp (newList []) false (eval iter X.env) use) Qf X.xe s:=by
 obtain⟨cl,C⟩:=hclo I.ok
 refine wpAny_comprehension_free rfl hs C.eq hkind hnames (thn (hi pins s σ H _ I h) fun v s1 h1=>thn h1 fun itv s2 h2=>?_)
 obtain⟨it,fp,tn,J,H2,e,I2,T,st2,f2,q2⟩:=h2
 subst e
 have hD:H2 s2.heap.objs.size=none:=I2.fresh
 obtain⟨W,⟨m0,w0⟩,turn⟩:=q2 s2.heap.objs.size hD
 refine wpAny_newObj_type (wpAny_newFunctionEnv hcell (by intro y hy;simp at hy) (fun h₁ hns₁ hsb₁=>?_) hkind)
 dsimp only at hns₁ hsb₁ ⊢
 have I3:Inv X pins σ (upd H2 s2.heap.objs.size (.lst [])) { s2 with heap:=s2.heap.push { cls:=.type "list",data:=.seq ([]:List Value).toArray },toks:=s2.toks }:=I2.lnew .nil (Nat.zero_le _)
 generalize hs3:({ s2 with heap:=s2.heap.push { cls:=.type "list",data:=.seq ([]:List Value).toArray },toks:=s2.toks }:Shared)=s3 at I3
 have e3:s3.heap=s2.heap.push { cls:=.type "list",data:=.seq ([]:List Value).toArray }:=by rw[←hs3]
 generalize hDD:s2.heap.objs.size=D at *
 generalize hH3:upd H2 D (.lst [])=H3 at *
 have lt2:∀ b∈fp,b < s2.heap.objs.size:=fun b hb=>by
  obtain⟨o,ho,_⟩:=T.obj 0 _ st2 b hb
  exact Heap.lt_size ho
 have neD:∀ b∈fp,b≠D:=fun b hb=>by rw[←hDD];exact Nat.ne_of_lt (lt2 b hb)
 have f3:∀ b∈fp,zbt X pins H3 b:=fun b hb=>⟨by rw[←hH3,zag (neD b hb)];exact(f2 b hb).1,(f2 b hb).2⟩
 have sz3:s3.heap.objs.size=D+1:=by rw[e3,Heap.size_push,hDD]
 have lt3:∀ b∈fp,b < s3.heap.objs.size:=fun b hb=>by have q:=lt2 b hb;rw[sz3];rw[hDD]at q;exact Nat.lt_succ_of_lt q
 have old:∀ b o,s3.heap.get? b=some o→h₁.get? b=some o:=fun b o eb=>by
  have hb:b < D+1:=by rw[←sz3];exact Heap.lt_size eb
  refine hsb₁.extBut b o ?_ (Heap.get?_push_of_some _ (by rw[←e3];exact eb))
  rw[Heap.size_push,hDD]
  exact Nat.ne_of_lt hb
 have szC:(s2.heap.push { cls:=.type "list",data:=.seq ([]:List Value).toArray }).objs.size=s3.heap.objs.size:=by rw[e3]
 have os3:s3.os=s2.os:=by rw[←hs3]
 rw[szC]at hns₁ hsb₁
 have I4:Inv (zaA X N' scope cl fp s3 H3) [] (none :: fvs σ ix) H3 { s3 with heap:=h₁,toks:=s2.toks+([]:List (Str × Value)).length }:=zdM I3 C hkind f3 lt3 hlen hix hns₁ old
 have st4:tn 0 h₁:=T.keep 0 _ _ st2 fun b hb o eb=>old b o (by rw[e3];exact Heap.get?_push_of_some _ eb)
 have stat:∀ {H':Hp},(∀ b∈fp,H' b=none)→∀ b∈fp,zbt (zaA X N' scope cl fp s3 H3) [] H' b:=fun hn b hb =>
  ⟨hn b hb,Nat.ne_of_lt (lt3 b hb),fun hs'=>(zch (N':=N') I3 C hkind f3 lt3).exfs b hb hs',.inl hb,fun y c hy=>((zch (N':=N') I3 C hkind f3 lt3).exf b hb).2 y c hy,fun p hp=>absurd (show p∈([]:List (Addr × Obj)) from hp) (by simp)⟩
 have loop:∀ s4:Shared,s4={ s3 with heap:=h₁,toks:=s2.toks+([]:List (Str × Value)).length } →
   codeAny (model X.prog X.w) X.A (.compLoop (.ListComp elt [⟨.Name x px,iter,[],0⟩] scope pos) 0 (.ref it) (.ref D) (compEnvC scope cl s3.heap.objs.size X.env))
    (compPost (model X.prog X.w) X.A X.xe use Qf (.ref D) s3.heap.objs.size) s4:=by
  rintro s4 rfl
  refine zdl (fun n s'=>∃ i σ0 H' ys,Inv (zaA X N' scope cl fp s3 H3) [] (σ0 :: fvs σ ix) H' s'∧tn i s'.heap∧(∀ b∈fp,H' b=none)∧W i n ys H') ?_ m0 ⟨0,none,H3,[],I4,st4,fun b hb=>(f3 b hb).1,w0⟩
  rintro n s5 ⟨i,σ0,H5,ys,I5,st5,fr5,w5⟩
  obtain⟨hD5,alt⟩:=turn i n ys H5 w5
  rcases alt with ⟨stop,q⟩ | ⟨go,step⟩
  ·refine thn (T.done (zaA X N' scope cl fp s3 H3) rfl rfl rfl hc i [] s5 _ H5 _ I5 (stat fr5) st5 stop) fun r s6 ⟨hr,I6⟩=>?_
   subst hr
   exact fin cl fp s3 s6 H3 H5 _ D I3 I6 f3 q
  ·refine thn (T.item (zaA X N' scope cl fp s3 H3) rfl rfl rfl hc i [] s5 _ H5 _ I5 (stat fr5) st5 go) fun r s6 ⟨u,hr,h6⟩=>?_
   subst hr
   refine thn h6 fun _ s7 ⟨y7,H7,I7,r7,yl7,st7,fr7⟩=>?_
   have I7':=I7.pinned (stat fr7) (T.obj _ _ st7)
   have G:PG (zaA X N' scope cl fp s3 H3) (.Name x px) (zbi 0):=zaY hN hN0 (.inl (lookup_relabel_local hx)) (.inr (lookup_relabel_local hx))
   refine wpAny_mono (G _ s7 _ H7 y7 u (fun σ' H'=>σ'=some y7 :: fvs σ ix∧H'=H7) I7' r7 ⟨rfl,rfl⟩) (fun _ s8 h8=>?_) fun _ _ f=>False.elim f
   obtain⟨σ8,H8,I8,rfl,rfl⟩:=h8
   refine wpAny_mono (he cl fp s3 H3 _ s8 _ H8 _ I8 (step y7 H8 yl7)) (fun yv s9 h9=>?_) fun _ _ f=>False.elim f
   obtain⟨y9,H9,I9,r9,hD9,hl9,m',hm',w9⟩:=h9
   refine wpAny_mono (zc7 (X:=zaA X N' scope cl fp s3 H3) _ s9 _ H9 (.ref D) [y9] (.ref D) [yv] (fun _ H'=>H'=upd H9 D (.lst (ys++[y9]))) I9 rfl (.cons r9 .nil) ⟨D,ys,y9,rfl,rfl,hD9,hl9,rfl⟩) (fun _ s10 h10=>?_) fun _ _ f=>False.elim f
   obtain⟨_,H10,I10,_,rfl⟩:=h10
   refine⟨m',hm',i+1,some y7,_,ys++[y9],I10.unpinned,T.keep _ _ _ st7 fun b hb o eb=>(I10.pin (b,o) (List.mem_append_right _ (List.mem_append_right _ (zbm hb eb)))).1,fun b hb=>?_,w9⟩
   obtain⟨o,eb,d⟩:=T.obj _ _ st7 b hb
   exact(I10.pin (b,o) (List.mem_append_right _ (List.mem_append_right _ (zbm hb eb)))).2.1
 subst hs3
 have fin':=codeAny_compStart_list (loop _ rfl) (T.self X.A 0 _ _ _ st4 (loop _ rfl))
 exact fin'
theorem zf5 (hc:X.calm=true) (hkind:scope.kind=.function) (hcell:∀ y∈scope.names,y.2≠.cell) (hnames:∀ y∈scope.names,y.2=.local→scope.names.lookup y.1=some .local) (hx:scope.names.lookup x=some .local)
  (hclo:X.Ok→∃ cl,Clo X scope cl) (hN:N'.Nodup) (hN0:N'[0]?=some x) (hlen:N'.length=ix.length+1)
  (hix:∀(j i:Nat),ix[j]?=some i→∃ y,X.N[i]?=some y∧N'[j+1]?=some y∧(X.env.kindOf y=some .cell∨X.env.kindOf y=some .free)∧((relabel scope X.env).names.lookup y=some .cell∨(relabel scope X.env).names.lookup y=some .free))
  (hi:PI X (.Name x px) iter wi) (he:∀ cl fp s₃ H₃,PE (zaA X N' scope cl fp s₃ H₃) elt te) (hs:∀ v,foldedSetIterable iter X.env v=pure v:=by intro _;rfl) :
  PE X (.ListComp elt [⟨.Name x px,iter,[],0⟩] scope pos) (tLC wi ix te):=by
 intro pins s σ H Q I h
 rw[eval_ListComp]
 refine zhG hc hkind hcell hnames hx hclo hN hN0 hlen hix hi he hs I h fun cl fp s3 s6 H3 H5 σ6 D I3 I6 f3 q=>?_
 obtain⟨m,hn,_⟩:=I6.loc
 exact⟨m,hn,fun h' hsb=>⟨.ref D,H5,zcT I3 I6 f3 hsb,rfl,q⟩⟩
end
end L2
namespace L2
open PySem PySem.Spec PyProof.Rows
section
variable {X:Cx} {e l:Expr} {es:List Expr} {te tl:TE} {pos:Pos} {tg:Expr}
def tFmt (te:TE):TE:=fun σ H Q=>te σ H fun x H1=>(∃ z,x=.str z∧z.length≤sizeLine∧Q (.str z) H1)∨∃ i:Int,x=.int i∧i.natAbs.log2 < 1920∧Q (.str (toString i)) H1
theorem zc1 (he:PE X e te):PE X (.FormattedValue e (-1) none pos) (tFmt te):=by
 intro pins s σ H Q I h
 refine FormattedValue_plain (thn (he pins s σ H _ I h) fun v s1 ⟨x,H1,I1,r1,q1⟩=>?_)
 rcases q1 with ⟨z,rfl,hz,q⟩ | ⟨i,rfl,hi,q⟩
 ·obtain⟨t,rfl⟩:=r1
  exact formatField_str (fun t' tk=>⟨.str z,H1,I1.tok _,⟨_,rfl⟩,q⟩) hz
 ·obtain⟨t,rfl⟩:=r1
  exact formatField_int_small hi ⟨.str _,H1,I1.tok _,⟨_,rfl⟩,q⟩
def tRepr (te:TE):TE:=fun σ H Q=>te σ H fun x H1=>∃ z,x=.str z∧(reprText z).length≤sizeLine∧Q (.str (reprText z)) H1
theorem ziQ (he:PE X e te):PE X (.FormattedValue e 114 none pos) (tRepr te):=by
 intro pins s σ H Q I h
 refine wpAny_FormattedValue_repr (thn (he pins s σ H _ I h) fun v s1 ⟨x,H1,I1,r1,q1⟩=>?_)
 obtain⟨z,rfl,hz,q⟩:=q1
 obtain⟨t,rfl⟩:=r1
 refine wpAny_pyReprObj_str ?_ hz
 exact formatField_str (fun t' tk=>⟨.str (reprText z),H1,I1.tok _,⟨_,rfl⟩,q⟩) hz
abbrev TJ:=St→Hp→Str→(Str→Hp→Prop)→Prop
def PJ (X:Cx) (es:List Expr) (t:TJ):Prop :=
 ∀(pins:List (Addr × Obj)) (s:Shared) (σ:St) (H:Hp) (acc:Str) (Q:Str→Hp→Prop) (R:Str→Shared→Prop),Inv X pins σ H s→t σ H acc Q→(∀ out s1 H1,Inv X pins σ H1 s1→Q out H1→R out s1)→Joins (model X.prog X.w) X.A X.xe (evalEach es X.env) acc R s
def jNil:TJ:=fun _ H acc Q=>Q acc H
def zbI (te:TE) (t:TJ):TJ:=fun σ H acc Q=>te σ H fun x H1=>∃ y,x=.str y∧(acc++y).length≤sizeLine∧t σ H1 (acc++y) Q
theorem zb9:PJ X [] jNil:=fun _ _ _ _ _ _ _ I h k=>k _ _ _ I h
theorem zaB {t:TJ} (he:PE X e te) (hr:PJ X es t):PJ X (e :: es) (zbI te t):=by
 intro pins s σ H acc Q R I h k
 refine thn (he pins s σ H _ I h) fun v s1 ⟨x,H1,I1,r1,q1⟩=>?_
 obtain⟨y,rfl,hz,q⟩:=q1
 obtain⟨t,rfl⟩:=r1
 exact⟨y,_,rfl,hz,hr pins s1 σ H1 _ Q R I1 q k⟩
def zdu (t:TJ):TE:=fun σ H Q=>t σ H Str.empty fun out H1=>out.length≤sizeLine∧Q (.str out) H1
theorem zbk {v1 v2:Expr} {t:TJ} (h:PJ X (v1 :: v2 :: es) t):PE X (.JoinedStr (v1 :: v2 :: es) pos) (zdu t):=by
 intro pins s σ H Q I hw
 exact wpAny_JoinedStr (h pins s σ H _ _ _ I hw fun out s1 H1 I1 q=>⟨q.1,.str out,H1,I1.tok _,⟨_,rfl⟩,q.2⟩)
end
theorem zeM {env:Env}:∀(l:List (Str × NameKind)) (acc:List (Str × Addr)),(∀ y∈l,y.2=.free→∃ c,env.cells.lookup y.1=some c) →
  ∃ cl,(forIn l acc (fun(y:Str × NameKind) cs=>if(y.2 == NameKind.free)=true then do let c ←cellOf env y.1;pure (ForInStep.yield ((y.1,c) :: cs)) else pure (ForInStep.yield cs)):Sem (List (Str × Addr)))=pure cl ∧
   (∀ y c,cl.lookup y=some c→acc.lookup y=some c∨env.cells.lookup y=some c)∧∀ y,((y,NameKind.free)∈l∨∃ c,acc.lookup y=some c)→∃ c,cl.lookup y=some c
 | [],acc,_=>⟨acc,rfl,fun _ _ h=>.inl h,fun y h=>h.elim (fun z=>by cases z) fun z=>z⟩
 | (n,k) :: r,acc,hf=>by
  by_cases hk:k=.free
  ·subst hk
   obtain⟨c,hc⟩:=hf (n,.free) List.mem_cons_self rfl
   obtain⟨cl,e1,e2,e3⟩:=zeM r ((n,c) :: acc) fun y hy=>hf y (List.mem_cons_of_mem _ hy)
   refine⟨cl,?_,fun y d h=>?_,fun y h=>?_⟩
   ·rw[List.forIn_cons]
    have ec:cellOf env n=pure c:=by unfold cellOf;rw[show env.cells.lookup n=some c from hc]
    have eb:(NameKind.free == NameKind.free)=true:=rfl
    simp only[eb,if_true,ec,pure_bind]
    exact e1
   ·rcases e2 y d h with z | z
    ·by_cases hy:y=n
     ·subst hy
      rw[List.lookup_cons,beq_self_eq_true]at z
      cases z
      exact .inr hc
     ·rw[List.lookup_cons,beq_eq_false_iff_ne.mpr hy]at z
      exact .inl z
    ·exact .inr z
   ·refine e3 y ?_
    by_cases hy:y=n
    ·subst hy
     exact .inr ⟨c,by rw[List.lookup_cons,beq_self_eq_true]⟩
    ·rcases h with z | ⟨d,z⟩
     ·rcases List.mem_cons.mp z with z | z
      ·exact absurd (congrArg Prod.fst z) hy
      ·exact .inl z
     ·exact .inr ⟨d,by rw[List.lookup_cons,beq_eq_false_iff_ne.mpr hy];exact z⟩
  ·obtain⟨cl,e1,e2,e3⟩:=zeM r acc fun y hy=>hf y (List.mem_cons_of_mem _ hy)
   refine⟨cl,?_,e2,fun y h=>e3 y ?_⟩
   ·rw[List.forIn_cons]
    have hb:(k == NameKind.free)=false:=by simpa using hk
    simp only[hb,Bool.false_eq_true,if_false,pure_bind]
    exact e1
   ·rcases h with z | z
    ·rcases List.mem_cons.mp z with z | z
     ·exact absurd (congrArg Prod.snd z).symm hk
     ·exact .inl z
    ·exact .inr z
theorem clo_of {X:Cx} {scope sc:Scope} (ok:X.Ok) (hsc:X.env.scope=sc) (hcell:∀ x∈scope.names,x.2≠.cell)
  (hf:∀ y∈scope.names,y.2=.free→sc.names.lookup y.1=some .cell∨sc.names.lookup y.1=some .free):∃ cl,Clo X scope cl:=by
 obtain⟨cl,e1,e2,e3⟩:=zeM (env:=X.env) scope.names [] fun y hy h=>ok.has y.1 (by
  show X.env.scope.names.lookup y.1=_∨X.env.scope.names.lookup y.1=_
  rw[hsc]
  exact hf y hy h)
 refine⟨cl,?_,fun y c h=>(e2 y c h).elim (fun z=>by cases z) fun z=>z,fun y h=>e3 y (.inl ?_)⟩
 ·unfold closureFor
  have e0:(forIn scope.names ([]:List (Str × Addr)) (fun(x:Str × NameKind) cs=>match x with
    | (name,kind)=>if(kind == NameKind.free)=true then do let c ←cellOf X.env name;pure (ForInStep.yield ((name,c) :: cs)) else pure (ForInStep.yield cs)):Sem (List (Str × Addr)))=pure cl:=e1
  show(forIn scope.names ([]:List (Str × Addr)) _ >>= fun z=>pure z)=pure cl
  rw[bind_pure]
  exact e0
 ·have m:∃ k,(k=.cell∨k=.free)∧(y,k)∈(relabel scope X.env).names:=by
   rcases h with h | h
   ·exact⟨_,.inl rfl,PySem.mem_of_lookup h⟩
   ·exact⟨_,.inr rfl,PySem.mem_of_lookup h⟩
  obtain⟨k,hk,hm⟩:=m
  unfold relabel at hm
  obtain⟨⟨n0,k0⟩,h0,ez⟩:=List.mem_map.mp hm
  by_cases hc:(k0 == NameKind.free&&X.env.scope.kind == .function&&X.env.kindOf n0 == some .cell)=true
  ·dsimp only at ez
   rw[if_pos hc]at ez
   have en:n0=y:=congrArg Prod.fst ez
   have ef:k0=.free:=by
    rw[Bool.and_eq_true,Bool.and_eq_true]at hc
    simpa using hc.1.1
   rw[en,ef]at h0
   exact h0
  ·dsimp only at ez
   rw[if_neg hc]at ez
   have en:n0=y:=congrArg Prod.fst ez
   have ek:k0=k:=congrArg Prod.snd ez
   rw[en,ek]at h0
   rcases hk with z | z
   ·exact absurd z (hcell _ h0)
   ·rw[z]at h0
    exact h0
section
variable {X:Cx} {N':List Str} {scope:Scope} {elt iter c:Expr} {x:Str} {px pos:Pos} {wi:TI} {tc:TT} {te:TE} {ix:List Nat}
end
end L2
namespace L2
open PySem PySem.Spec PyProof.Rows
theorem Inv.skip {X:Cx} {pins:List (Addr × Obj)} {σ:St} {H:Hp} {s:Shared} {h':Heap} {C:Addr} (I:Inv X pins σ H s) (hs:Heap.SameBut C s.heap h') (hC:X.s₀.heap.objs.size≤C) (hl:C≠X.env.locals) (hcl:∀ x c,X.env.cells.lookup x=some c→c≠C) (hp:∀ p∈X.pn++pins,p.1≠C) (hf:H C=none) :
  Inv X pins σ H { s with heap:=h' }:=by
 have eq:∀ b,b≠C→h'.get? b=s.heap.get? b:=fun b hb=>hs.2 b hb
 have nm:∀ {b:Addr},b∉[C]→b≠C:=fun h z=>h (by rw[z];exact List.mem_cons_self)
 have u:Un (frs X.stack) [C] H H s.heap h':=⟨fun b o e _ _ h2=>(eq b (nm h2)).trans e,fun b o e _ _ h2=>⟨o.slots,(eq b (nm h2)).trans e⟩,fun b o e n _=>n,fun b o e h1=>⟨o,(eq b (nm h1)).trans e⟩,fun _ _ q=>q,fun _ _ _ q=>q,fun _ ps q=>⟨#[],by rw[q];simp⟩⟩
 have hok:HOk X.prog X.w H h':=fun b ob e=>by
  refine(I.hok b ob e).stay (fun c w' hq q=>(eq c ?_).trans q) (fun _ q=>q) fun _ _ q=>q
  rintro rfl
  rcases hq with z | z
  ·rw[←z,hf]at e;cases e
  ·rw[hf]at z;cases z
 refine I.call' (s':={ s with heap:=h' }) (ch:=[C]) rfl u hok I.bare fun b hb=>?_
 have e:b=C:=List.mem_singleton.mp hb
 subst e
 exact⟨.inr hC,hl,hcl,hp⟩
section
variable {X:Cx} {N':List Str} {scope:Scope} {elt iter:Expr} {x:Str} {px pos:Pos} {wi:TI} {te:TE} {ix:List Nat}
theorem zjT {i:Nat} {y0:Str} {py spos:Pos} (hNy:X.N.Nodup) (hiy:X.N[i]?=some y0) (hy:Loc X.env.scope y0) (hc:X.calm=true) (hkind:scope.kind=.function) (hcell:∀ y∈scope.names,y.2≠.cell) (hnames:∀ y∈scope.names,y.2=.local→scope.names.lookup y.1=some .local) (hx:scope.names.lookup x=some .local)
  (hclo:X.Ok→∃ cl,Clo X scope cl) (hN:N'.Nodup) (hN0:N'[0]?=some x) (hlen:N'.length=ix.length+1)
  (hix:∀(j i:Nat),ix[j]?=some i→∃ y,X.N[i]?=some y∧N'[j+1]?=some y∧(X.env.kindOf y=some .cell∨X.env.kindOf y=some .free)∧((relabel scope X.env).names.lookup y=some .cell∨(relabel scope X.env).names.lookup y=some .free))
  (hi:PI X (.Name x px) iter wi) (he:∀ cl fp s₃ H₃,PE (zaA X N' scope cl fp s₃ H₃) elt te) (hsw:swapsWith (.ListComp elt [⟨.Name x px,iter,[],0⟩] scope pos) (some (.Name y0 py)) spos.line X.env=pure true:=by rfl)
  (hf:X.fn y0=true∨X.env.scope.names.lookup y0=some .local:=by first | exact .inl rfl | exact .inr rfl | assumption) (hs:∀ v,foldedSetIterable iter X.env v=pure v:=by intro _;rfl) :
  PS X (.Assign [.Name y0 py] (.ListComp elt [⟨.Name x px,iter,[],0⟩] scope pos) spos) (zdO (tLC wi ix te) (zbi i)):=by
 intro pins s σ H Dn I h
 rw[exec_Assign_Name_used _ _ _ _ hsw]
 refine wpAny_bind (wpAny_standAt (wpAny_bind ?_))
 rw[arm_evalThenUse_ListComp]
 refine wpAny_bind (wpAny_mono (zhG (use:=some (assign (.Name y0 py) X.env)) (Qf:=fun _ s'=>∃ σ' H',Inv X pins σ' H' s'∧Dn.nx σ' H') (Q:=fun x H1=>zbi i x σ H1 Dn.nx) hc hkind hcell hnames hx hclo hN hN0 hlen hix hi he hs I h fun cl fp s3 s6 H3 H5 σ6 D I3 I6 f3 q=>?_) (fun _ s' h'=>wpAny_pure (wpAny_pure h')) fun _ _ z=>z)
 obtain⟨m,hn,_⟩:=I6.loc
 have Io:Inv X pins σ H5 s6:=zcT (h':=s6.heap) I3 I6 f3 ⟨rfl,fun _ _=>rfl⟩
 refine wpAny_assign_Name (zc5 (v:=.ref D) Io hNy hiy hy rfl (fun s7 I7 ⟨a,sb,ha⟩=>?_) hf)
 have ltC:∀ x c,X.env.cells.lookup x=some c→c < s3.heap.objs.size:=fun x c e=>by
  obtain⟨v,hv⟩:=I3.cell x c e
  exact hv.lt
 have hCa:s3.heap.objs.size≠a:=by
  rintro rfl
  rcases ha with z | z
  ·exact absurd I3.lt (by rw[←z];exact Nat.lt_irrefl _)
  ·exact absurd (ltC _ _ z) (Nat.lt_irrefl _)
 refine⟨m,hn.sameBut sb hCa,fun h' hsb=>⟨_,H5,?_,q⟩⟩
 exact I7.skip hsb I3.sz (Nat.ne_of_gt I3.lt) (fun x c e=>Nat.ne_of_lt (ltC x c e)) (fun p hp=>Nat.ne_of_lt (Heap.lt_size (I3.pin p hp).1)) I6.free
end
section
variable {X:Cx} {N':List Str} {scope:Scope} {elt iter c:Expr} {x:Str} {px pos:Pos} {wi:TI} {tc:TT} {te:TE} {ix:List Nat}
end
end L2
namespace L2
open PySem PySem.Spec PyProof.Rows
inductive Dt where
 | non | bl (b:Bool) | int (i:Int) | str (x:Str) | tup (xs:List Dt) | lst (xs:List Dt)
mutual
def peq:Dt→Dt→Bool
 | .non,.non=>true
 | .bl a,.bl b=>a == b
 | .bl a,.int b=>(if a then 1 else 0) == b
 | .int a,.bl b=>a == (if b then 1 else 0)
 | .int a,.int b=>a == b
 | .str a,.str b=>a == b
 | .tup xs,.tup ys=>zaX xs ys
 | .lst xs,.lst ys=>zaX xs ys
 | _,_=>false
def zaX:List Dt→List Dt→Bool
 | [],[]=>true
 | x :: xs,y :: ys=>peq x y&&zaX xs ys
 | _,_=>false
end
mutual
def dep:Dt→Nat
 | .tup xs=>zbZ xs+1
 | .lst xs=>zbZ xs+1
 | _=>0
def zbZ:List Dt→Nat
 | []=>0
 | x :: xs=>max (dep x) (zbZ xs)
end
mutual
def nob:Dt→Bool
 | .bl _=>false
 | .tup xs=>nobs xs
 | .lst xs=>nobs xs
 | _=>true
def nobs:List Dt→Bool
 | []=>true
 | x :: xs=>nob x&&nobs xs
end
mutual
theorem zeH:∀ d:Dt,peq d d=true
 | .non=>rfl
 | .bl _=>by simp [peq]
 | .int _=>by simp [peq]
 | .str _=>by simp [peq]
 | .tup xs=>by simp only[peq];exact zd5 xs
 | .lst xs=>by simp only[peq];exact zd5 xs
theorem zd5:∀ d:List Dt,zaX d d=true
 | []=>by simp [zaX]
 | x :: xs=>by simp only[zaX,zeH x,zd5 xs,Bool.and_self]
end
mutual
theorem peq_eq:∀ d e:Dt,nob d=true→nob e=true→peq d e=true→d=e
 | .non,e,_,_,h=>by cases e <;> first | rfl | (simp [peq]at h)
 | .bl _,e,h,_,_=>by simp [nob]at h
 | .int _,e,_,h2,h=>by cases e <;> first | (simp [nob]at h2;done) | (simp [peq]at h;done) | (simp [peq]at h;rw[h])
 | .str _,e,_,h2,h=>by cases e <;> first | (simp [peq]at h;done) | (simp [peq]at h;rw[h])
 | .tup xs,e,h1,h2,h=>by
  cases e with
  | tup ys=>simp only[peq]at h;simp only[nob]at h1 h2;rw[zfy xs ys h1 h2 h]
  | _=>simp [peq]at h
 | .lst xs,e,h1,h2,h=>by
  cases e with
  | lst ys=>simp only[peq]at h;simp only[nob]at h1 h2;rw[zfy xs ys h1 h2 h]
  | _=>simp [peq]at h
theorem zfy:∀ d e:List Dt,nobs d=true→nobs e=true→zaX d e=true→d=e
 | [],e,_,_,h=>by cases e <;> first | rfl | (simp [zaX]at h)
 | x :: xs,e,h1,h2,h=>by
  cases e with
  | nil=>simp [zaX]at h
  | cons y ys =>
   simp only[zaX,Bool.and_eq_true]at h
   simp only[nobs,Bool.and_eq_true]at h1 h2
   rw[peq_eq x y h1.1 h2.1 h.1,zfy xs ys h1.2 h2.2 h.2]
end
mutual
def Has (K:W.Frag) (H:Hp):Dt→V→Prop
 | .non,v=>v=.non
 | .bl b,v=>v=.bl b
 | .int i,v=>v=.int i
 | .str x,v=>v=.str x
 | .tup ds,v=>∃ a xs,v=.ref a∧SqT K H a xs∧am K H ds xs
 | .lst ds,v=>∃ a xs,v=.ref a∧SqL K H a xs∧am K H ds xs
def am (K:W.Frag) (H:Hp):List Dt→List V→Prop
 | [],vs=>vs=[]
 | d :: ds,vs=>∃ v r,vs=v :: r∧Has K H d v∧am K H ds r
end
theorem am.length {K:W.Frag} {H:Hp}:∀ {ds:List Dt} {vs:List V},am K H ds vs→ds.length=vs.length
 | [],vs,h=>by simp only[am]at h;rw[h];rfl
 | d :: ds,vs,h=>by
  simp only[am]at h
  obtain⟨v,r,rfl,_,h2⟩:=h
  rw[List.length_cons,List.length_cons,am.length h2]
theorem am.get {K:W.Frag} {H:Hp}:∀ {ds:List Dt} {vs:List V} {i:Nat} {v:V},am K H ds vs→vs[i]?=some v→∃ d,ds[i]?=some d∧Has K H d v
 | [],vs,i,v,h,e=>by simp only[am]at h;rw[h]at e;simp at e
 | d :: ds,vs,i,v,h,e=>by
  simp only[am]at h
  obtain⟨v0,r,rfl,h1,h2⟩:=h
  cases i with
  | zero=>simp at e;subst e;exact⟨d,rfl,h1⟩
  | succ i =>
   obtain⟨d',e1,e2⟩:=am.get (i:=i) h2 (by simpa using e)
   exact⟨d',by simpa using e1,e2⟩
theorem am.append {K:W.Frag} {H:Hp}:∀ {ds es:List Dt} {vs ws:List V},am K H ds vs→am K H es ws→am K H (ds++es) (vs++ws)
 | [],es,vs,ws,h,h'=>by simp only[am]at h;rw[h];exact h'
 | d :: ds,es,vs,ws,h,h'=>by
  simp only[am]at h
  obtain⟨v,r,rfl,h1,h2⟩:=h
  show am K H (d :: (ds++es)) (v :: (r++ws))
  simp only[am]
  exact⟨v,r++ws,rfl,h1,am.append h2 h'⟩
theorem am.one {K:W.Frag} {H:Hp} {d:Dt} {v:V} (h:Has K H d v):am K H [d] [v]:=by
 simp only[am]
 exact⟨v,[],rfl,h,rfl⟩
mutual
def nol:Dt→Bool
 | .lst _=>false
 | .tup xs=>zb6 xs
 | _=>true
def zb6:List Dt→Bool
 | []=>true
 | x :: xs=>nol x&&zb6 xs
end
def zbb (H H':Hp):Prop:=∀ b xs,Rd H b (.tup xs)→Rd H' b (.tup xs)
theorem zbb.sq {K:W.Frag} {H H':Hp} {a:Addr} {xs:List V} (k:zbb H H') (h:SqT K H a xs):SqT K H' a xs:=h.elim (fun z=>.inl (k a xs z)) .inr
theorem zbb.trans {H H1 H2:Hp} (a:zbb H H1) (b:zbb H1 H2):zbb H H2:=fun c xs h=>b c xs (a c xs h)
theorem zbb.of_same {H H':Hp} (e:ao H H'):zbb H H':=fun b xs h=>by
 rcases h with h | ⟨o,h⟩
 ·exact .inl (e _ _ h)
 ·exact .inr ⟨o,e _ _ h⟩
theorem zbb.lst {H:Hp} {l:Addr} {xs ys:List V} (h:H l=some (.lst xs)):zbb H (upd H l (.lst ys)):=fun b zs q=>by
 rcases q with q | ⟨o,q⟩
 ·exact .inl (by rw[zag (ne_of q h (fun z=>by cases z))];exact q)
 ·exact .inr ⟨o,by rw[zag (ne_of q h (fun z=>by cases z))];exact q⟩
mutual
theorem Has.keep {K:W.Frag} {H H':Hp} (k:zbb H H'):∀ {d:Dt} {v:V},nol d=true→Has K H d v→Has K H' d v
 | .non,v,_,h=>by simp only[Has]at h ⊢;exact h
 | .bl _,v,_,h=>by simp only[Has]at h ⊢;exact h
 | .int _,v,_,h=>by simp only[Has]at h ⊢;exact h
 | .str _,v,_,h=>by simp only[Has]at h ⊢;exact h
 | .tup ds,v,n,h=>by
  simp only[Has]at h ⊢
  simp only[nol]at n
  obtain⟨a,xs,e,h1,h2⟩:=h
  exact⟨a,xs,e,k.sq h1,am.keep k n h2⟩
 | .lst _,v,n,h=>by simp [nol]at n
theorem am.keep {K:W.Frag} {H H':Hp} (k:zbb H H'):∀ {ds:List Dt} {vs:List V},zb6 ds=true→am K H ds vs→am K H' ds vs
 | [],vs,_,h=>by simp only[am]at h ⊢;exact h
 | d :: ds,vs,n,h=>by
  simp only[am]at h ⊢
  simp only[zb6,Bool.and_eq_true]at n
  obtain⟨v,r,e,h1,h2⟩:=h
  exact⟨v,r,e,Has.keep k n.1 h1,am.keep k n.2 h2⟩
end
section
variable {X:Cx} {pins:List (Addr × Obj)} {σ:St} {H:Hp} {s:Shared}
theorem zgK (I:Inv X pins σ H s) {a:Addr} {xs ys:List V} (h:SqL X.K H a xs) (h':SqT X.K H a ys):False:=by
 obtain⟨its,_,p,_⟩:=I.list h
 obtain⟨jts,_,q,_⟩:=I.tuple h'
 obtain⟨o,e,c,_⟩:=p.isList
 obtain⟨o',e',c',_⟩:=q
 rw[e]at e'
 cases e'
 rw[c]at c'
 exact absurd (Value.type.inj c') (by decide)
mutual
theorem Has.inj (I:Inv X pins σ H s):∀(d e:Dt) (v:V),Has X.K H d v→Has X.K H e v→d=e
 | .non,e,v,h,h'=>by
  simp only[Has]at h
  subst h
  cases e <;> simp only[Has]at h' <;> first | rfl | (cases h';done) | (obtain⟨_,_,z,_⟩:=h';cases z)
 | .bl b,e,v,h,h'=>by
  simp only[Has]at h
  subst h
  cases e <;> simp only[Has]at h' <;> first | (cases h';done) | (cases h';rfl) | (obtain⟨_,_,z,_⟩:=h';cases z)
 | .int b,e,v,h,h'=>by
  simp only[Has]at h
  subst h
  cases e <;> simp only[Has]at h' <;> first | (cases h';done) | (cases h';rfl) | (obtain⟨_,_,z,_⟩:=h';cases z)
 | .str b,e,v,h,h'=>by
  simp only[Has]at h
  subst h
  cases e <;> simp only[Has]at h' <;> first | (cases h';done) | (cases h';rfl) | (obtain⟨_,_,z,_⟩:=h';cases z)
 | .tup ds,e,v,h,h'=>by
  simp only[Has]at h
  obtain⟨a,xs,rfl,h1,h2⟩:=h
  cases e with
  | tup es =>
   simp only[Has]at h'
   obtain⟨a',ys,z,h3,h4⟩:=h'
   cases z
   rw[I.tuple_inj h3 h1]at h4
   rw[am.inj I ds es xs h2 h4]
  | lst es =>
   simp only[Has]at h'
   obtain⟨a',ys,z,h3,h4⟩:=h'
   cases z
   exact(zgK I h3 h1).elim
  | _=>simp only[Has]at h';cases h'
 | .lst ds,e,v,h,h'=>by
  simp only[Has]at h
  obtain⟨a,xs,rfl,h1,h2⟩:=h
  cases e with
  | lst es =>
   simp only[Has]at h'
   obtain⟨a',ys,z,h3,h4⟩:=h'
   cases z
   rw[I.list_inj h3 h1]at h4
   rw[am.inj I ds es xs h2 h4]
  | tup es =>
   simp only[Has]at h'
   obtain⟨a',ys,z,h3,h4⟩:=h'
   cases z
   exact(zgK I h1 h3).elim
  | _=>simp only[Has]at h';cases h'
theorem am.inj (I:Inv X pins σ H s):∀(ds es:List Dt) (vs:List V),am X.K H ds vs→am X.K H es vs→ds=es
 | [],es,vs,h,h'=>by
  simp only[am]at h
  subst h
  cases es with
  | nil=>rfl
  | cons e es=>simp only[am]at h';obtain⟨_,_,z,_⟩:=h';cases z
 | d :: ds,es,vs,h,h'=>by
  simp only[am]at h
  obtain⟨v,r,rfl,h1,h2⟩:=h
  cases es with
  | nil=>simp only[am]at h';cases h'
  | cons e es =>
   simp only[am]at h'
   obtain⟨v',r',z,h3,h4⟩:=h'
   cases z
   rw[Has.inj I d e v h1 h3,am.inj I ds es r h2 h4]
end
def zbJ (ds es:List Dt) (j:Nat):Bool:=match ds[j]?,es[j]? with
 | some d,some e=>peq d e
 | _,_=>true
theorem zix (d e:Dt) (ds es:List Dt):zbJ (d :: ds) (e :: es) 0=peq d e:=rfl
theorem zeo:∀(ds es:List Dt),((List.range (min ds.length es.length)).all (zbJ ds es)&&ds.length == es.length)=zaX ds es
 | [],[]=>by simp [zaX]
 | [],e :: es=>by simp [zaX]
 | d :: ds,[]=>by simp [zaX]
 | d :: ds,e :: es=>by
  have ih:=zeo ds es
  have e1:min (d :: ds).length (e :: es).length=min ds.length es.length+1:=by simp only[List.length_cons];omega
  rw[e1,List.range_succ_eq_map,List.all_cons,zix,List.all_map]
  have e2:(zbJ (d :: ds) (e :: es) ∘ Nat.succ)=zbJ ds es:=by funext j;rfl
  rw[e2,List.length_cons,List.length_cons]
  simp only[zaX]
  rw[←ih,Bool.and_assoc]
  congr 2
  simp
theorem zkj {ds es:List Dt} (h:ds.length=es.length):(List.range ds.length).all (zbJ ds es)=zaX ds es:=by
 rw[←zeo,←h,Nat.min_self]
 simp
theorem zjX {ds es:List Dt} (h:ds.length≠es.length):zaX ds es=false:=by
 rw[←zeo]
 have:(ds.length == es.length)=false:=by simpa using h
 rw[this,Bool.and_false]
theorem zc0 (I:Inv X pins σ H s) {a:Addr} {xs:List V} {ds:List Dt} (h:SqT X.K H a xs) (g:am X.K H ds xs):∃ its:List Value,ap xs its∧s.heap.IsTuple a its.toArray∧its.toArray.size=ds.length:=by
 obtain⟨its,r,p,_⟩:=I.tuple h
 exact⟨its,r,p,by rw[List.size_toArray,←r.length,←g.length]⟩
theorem zc2 (I:Inv X pins σ H s) {a:Addr} {xs:List V} {ds:List Dt} (h:SqL X.K H a xs) (g:am X.K H ds xs):∃ its:List Value,ap xs its∧s.heap.IsList a its.toArray∧its.toArray.size=ds.length:=by
 obtain⟨its,r,p,_⟩:=I.list h
 exact⟨its,r,p.isList,by rw[List.size_toArray,←r.length,←g.length]⟩
def zhY (s:Shared) (A:Around) (ds es:List Dt) (xs ys:List V):Prop :=
 ∀(us zs:List Value),ap xs us→ap ys zs→∀(j:Nat) (u z:Value),us[j]?=some u→zs[j]?=some z→SeqAt.EqAt A.in1 s u z (zbJ ds es j)
theorem rcTT (I:Inv X pins σ H s) {A:Around} {a b:Addr} {xs ys:List V} {ds es:List Dt} (h1:SqT X.K H a xs) (g1:am X.K H ds xs) (h2:SqT X.K H b ys) (g2:am X.K H es ys) (hu:A.units < cLine)
  (he:zhY s A ds es xs ys):SeqAt.RcAt A s (.ref a) (.ref b) (zaX ds es)∧SeqAt.RcNeAt A s (.ref a) (.ref b) (!zaX ds es):=by
 obtain⟨its,r1,p1,z1⟩:=zc0 I h1 g1
 obtain⟨jts,r2,p2,z2⟩:=zc0 I h2 g2
 have q:∀ j (k1:j < its.toArray.size) (k2:j < jts.toArray.size),SeqAt.EqAt A.in1 s its.toArray[j] jts.toArray[j] (zbJ ds es j):=fun j k1 k2=>he its jts r1 r2 j _ _ (by simp at k1 ⊢) (by simp at k2 ⊢)
 have t1:=SeqAt.RcAt.tuples (e:=zbJ ds es) p1 p2 hu q
 have t2:=SeqAt.RcNeAt.tuples (e:=zbJ ds es) p1 p2 hu q
 rw[z1,z2,zeo]at t1 t2
 exact⟨t1,t2⟩
theorem rcLL (I:Inv X pins σ H s) {A:Around} {a b:Addr} {xs ys:List V} {ds es:List Dt} (h1:SqL X.K H a xs) (g1:am X.K H ds xs) (h2:SqL X.K H b ys) (g2:am X.K H es ys) (hu:A.units < cLine)
  (he:zhY s A ds es xs ys):SeqAt.RcAt A s (.ref a) (.ref b) (zaX ds es)∧SeqAt.RcNeAt A s (.ref a) (.ref b) (!zaX ds es):=by
 obtain⟨its,r1,p1,z1⟩:=zc2 I h1 g1
 obtain⟨jts,r2,p2,z2⟩:=zc2 I h2 g2
 by_cases hl:ds.length=es.length
 ·have q:∀ j (k1:j < its.toArray.size) (k2:j < jts.toArray.size),SeqAt.EqAt A.in1 s its.toArray[j] jts.toArray[j] (zbJ ds es j):=fun j k1 k2=>he its jts r1 r2 j _ _ (by simp at k1 ⊢) (by simp at k2 ⊢)
  have t1:=SeqAt.RcAt.lists (e:=zbJ ds es) p1 p2 (by rw[z1,z2,hl]) hu q
  have t2:=SeqAt.RcNeAt.lists (e:=zbJ ds es) p1 p2 (by rw[z1,z2,hl]) hu q
  rw[z1,zkj hl]at t1 t2
  exact⟨t1,t2⟩
 ·have hne:(its.toArray.size != jts.toArray.size)=true:=by rw[z1,z2];simpa using hl
  rw[zjX hl]
  exact⟨SeqAt.RcAt.lists_lengths p1 p2 hne hu,SeqAt.RcNeAt.lists_lengths p1 p2 hne hu⟩
theorem zcE {A:Around} {d:Dt} (h:A.units+dep d < cLine):A.units < cLine:=Nat.lt_of_le_of_lt (Nat.le_add_right _ _) h
mutual
theorem zi6 (I:Inv X pins σ H s):∀(d e:Dt) (v w:V) (u z:Value) (A:Around),Has X.K H d v→Has X.K H e w→ar v u→ar w z→A.units+dep d < cLine→SeqAt.EqAt A s u z (peq d e)
 | .non,e,v,w,u,z,A,h,h',r,r',hu=>by
  have hu':=zcE hu
  simp only[Has]at h
  subst h
  cases e with
  | tup es =>
   simp only[Has]at h'
   obtain⟨b,ys,rfl,h3,h4⟩:=h'
   obtain⟨_,_,p,_⟩:=zc0 I h3 h4
   cases (show z=Value.ref b from r')
   cases (show u=Value.none from r)
   exact SeqAt.EqAt.none_tuple p hu'
  | lst es =>
   simp only[Has]at h'
   obtain⟨b,ys,rfl,h3,h4⟩:=h'
   obtain⟨_,_,p,_⟩:=zc2 I h3 h4
   cases (show z=Value.ref b from r')
   cases (show u=Value.none from r)
   exact SeqAt.EqAt.none_list p hu'
  | _=>simp only[Has]at h';subst h';exact zdZ r r' rfl rfl
 | .bl k,e,v,w,u,z,A,h,h',r,r',hu=>by
  have hu':=zcE hu
  simp only[Has]at h
  subst h
  cases e with
  | tup es =>
   simp only[Has]at h'
   obtain⟨b,ys,rfl,h3,h4⟩:=h'
   obtain⟨_,_,p,_⟩:=zc0 I h3 h4
   cases (show z=Value.ref b from r')
   cases (show u=Value.bool k from r)
   exact SeqAt.EqAt.bool_tuple k p hu'
  | lst es =>
   simp only[Has]at h'
   obtain⟨b,ys,rfl,h3,h4⟩:=h'
   obtain⟨_,_,p,_⟩:=zc2 I h3 h4
   cases (show z=Value.ref b from r')
   cases (show u=Value.bool k from r)
   exact SeqAt.EqAt.bool_list k p hu'
  | _=>simp only[Has]at h';subst h';exact zdZ r r' rfl rfl
 | .int k,e,v,w,u,z,A,h,h',r,r',hu=>by
  have hu':=zcE hu
  simp only[Has]at h
  subst h
  cases e with
  | tup es =>
   simp only[Has]at h'
   obtain⟨b,ys,rfl,h3,h4⟩:=h'
   obtain⟨_,_,p,_⟩:=zc0 I h3 h4
   cases (show z=Value.ref b from r')
   obtain⟨t,rfl⟩:=r
   exact SeqAt.EqAt.int_tuple k t p hu'
  | lst es =>
   simp only[Has]at h'
   obtain⟨b,ys,rfl,h3,h4⟩:=h'
   obtain⟨_,_,p,_⟩:=zc2 I h3 h4
   cases (show z=Value.ref b from r')
   obtain⟨t,rfl⟩:=r
   exact SeqAt.EqAt.int_list k t p hu'
  | _=>simp only[Has]at h';subst h';exact zdZ r r' rfl rfl
 | .str k,e,v,w,u,z,A,h,h',r,r',hu=>by
  have hu':=zcE hu
  simp only[Has]at h
  subst h
  cases e with
  | tup es =>
   simp only[Has]at h'
   obtain⟨b,ys,rfl,h3,h4⟩:=h'
   obtain⟨_,_,p,_⟩:=zc0 I h3 h4
   cases (show z=Value.ref b from r')
   obtain⟨t,rfl⟩:=r
   exact SeqAt.EqAt.str_tuple k t p hu'
  | lst es =>
   simp only[Has]at h'
   obtain⟨b,ys,rfl,h3,h4⟩:=h'
   obtain⟨_,_,p,_⟩:=zc2 I h3 h4
   cases (show z=Value.ref b from r')
   obtain⟨t,rfl⟩:=r
   exact SeqAt.EqAt.str_list k t p hu'
  | _=>simp only[Has]at h';subst h';exact zdZ r r' rfl rfl
 | .tup ds,e,v,w,u,z,A,h,h',r,r',hu=>by
  have hu':=zcE hu
  have hd:=h
  simp only[Has]at h
  obtain⟨a,xs,rfl,h1,h2⟩:=h
  cases (show u=Value.ref a from r)
  obtain⟨_,_,p,_⟩:=zc0 I h1 h2
  have hi:A.in1.units+zbZ ds < cLine:=by simp only[dep]at hu;rw[Around.in1_units];omega
  cases e with
  | tup es =>
   have he:=h'
   simp only[Has]at h'
   obtain⟨b,ys,rfl,h3,h4⟩:=h'
   cases (show z=Value.ref b from r')
   by_cases hab:a=b
   ·subst hab
    rw[Has.inj I _ _ _ hd he,zeH]
    exact SeqAt.EqAt.same _
   ·have q:=(rcTT I h1 h2 h3 h4 hu' fun us zs ru rz j u z e1 e2=>zgB I ds es xs ys us zs A.in1 h2 h4 ru rz hi j u z e1 e2).1
    simp only[peq]
    exact SeqAt.EqAt.of_refs hab q
  | lst es =>
   simp only[Has]at h'
   obtain⟨b,ys,rfl,h3,h4⟩:=h'
   cases (show z=Value.ref b from r')
   obtain⟨_,_,p',_⟩:=zc2 I h3 h4
   exact SeqAt.EqAt.tuple_list p p' hu'
  | non=>simp only[Has]at h';subst h';cases (show z=Value.none from r');exact SeqAt.EqAt.tuple_none p hu'
  | bl k=>simp only[Has]at h';subst h';cases (show z=Value.bool k from r');exact SeqAt.EqAt.tuple_bool k p hu'
  | int k=>simp only[Has]at h';subst h';obtain⟨t,rfl⟩:=r';exact SeqAt.EqAt.tuple_int k t p hu'
  | str k=>simp only[Has]at h';subst h';obtain⟨t,rfl⟩:=r';exact SeqAt.EqAt.tuple_str k t p hu'
 | .lst ds,e,v,w,u,z,A,h,h',r,r',hu=>by
  have hu':=zcE hu
  have hd:=h
  simp only[Has]at h
  obtain⟨a,xs,rfl,h1,h2⟩:=h
  cases (show u=Value.ref a from r)
  obtain⟨_,_,p,_⟩:=zc2 I h1 h2
  have hi:A.in1.units+zbZ ds < cLine:=by simp only[dep]at hu;rw[Around.in1_units];omega
  cases e with
  | lst es =>
   have he:=h'
   simp only[Has]at h'
   obtain⟨b,ys,rfl,h3,h4⟩:=h'
   cases (show z=Value.ref b from r')
   by_cases hab:a=b
   ·subst hab
    rw[Has.inj I _ _ _ hd he,zeH]
    exact SeqAt.EqAt.same _
   ·have q:=(rcLL I h1 h2 h3 h4 hu' fun us zs ru rz j u z e1 e2=>zgB I ds es xs ys us zs A.in1 h2 h4 ru rz hi j u z e1 e2).1
    simp only[peq]
    exact SeqAt.EqAt.of_refs hab q
  | tup es =>
   simp only[Has]at h'
   obtain⟨b,ys,rfl,h3,h4⟩:=h'
   cases (show z=Value.ref b from r')
   obtain⟨_,_,p',_⟩:=zc0 I h3 h4
   exact SeqAt.EqAt.list_tuple p p' hu'
  | non=>simp only[Has]at h';subst h';cases (show z=Value.none from r');exact SeqAt.EqAt.list_none p hu'
  | bl k=>simp only[Has]at h';subst h';cases (show z=Value.bool k from r');exact SeqAt.EqAt.list_bool k p hu'
  | int k=>simp only[Has]at h';subst h';obtain⟨t,rfl⟩:=r';exact SeqAt.EqAt.list_int k t p hu'
  | str k=>simp only[Has]at h';subst h';obtain⟨t,rfl⟩:=r';exact SeqAt.EqAt.list_str k t p hu'
theorem zgB (I:Inv X pins σ H s):∀(ds es:List Dt) (vs ws:List V) (us zs:List Value) (A:Around),am X.K H ds vs→am X.K H es ws→ap vs us→ap ws zs→A.units+zbZ ds < cLine →
  ∀(j:Nat) (u z:Value),us[j]?=some u→zs[j]?=some z→SeqAt.EqAt A s u z (zbJ ds es j)
 | [],es,vs,ws,us,zs,A,h,h',r,r',hu,j,u,z,e1,e2=>by
  simp only[am]at h
  subst h
  cases r
  simp at e1
 | d :: ds,es,vs,ws,us,zs,A,h,h',r,r',hu,j,u,z,e1,e2=>by
  simp only[am]at h
  obtain⟨v,rs,rfl,h1,h2⟩:=h
  cases r with
  | cons r1 r2 =>
   cases es with
   | nil =>
    simp only[am]at h'
    subst h'
    cases r'
    simp at e2
   | cons e es =>
    simp only[am]at h'
    obtain⟨w,rt,rfl,h3,h4⟩:=h'
    simp only[zbZ]at hu
    cases r' with
    | cons r3 r4 =>
     cases j with
     | zero =>
      simp at e1 e2
      subst e1 e2
      exact zi6 I d e v w _ _ A h1 h3 r1 r3 (by omega)
     | succ j=>exact zgB I ds es rs rt _ _ A h2 h4 r2 r4 (by omega) j u z (by simpa using e1) (by simpa using e2)
end
end
end L2
namespace L2
open PySem PySem.Spec PyProof.Rows
section
variable {X:Cx} {pins:List (Addr × Obj)} {σ:St} {H:Hp} {s:Shared}
open Classical in
noncomputable def hitD (K:W.Frag) (H:Hp) (d:Dt) (u:Value):Bool:=decide (∃(v:V) (d':Dt),ar v u∧Has K H d' v∧peq d' d=true)
open Classical in
theorem zhK (I:Inv X pins σ H s) {d d':Dt} {v:V} {u:Value} (r:ar v u) (h:Has X.K H d' v):hitD X.K H d u=peq d' d:=by
 unfold hitD
 cases e:peq d' d with
 | true=>exact decide_eq_true ⟨v,d',r,h,e⟩
 | false =>
  refine decide_eq_false fun⟨v',d2,r',h',e'⟩=>?_
  rw[r'.inj r]at h'
  rw[Has.inj I _ _ _ h' h,e]at e'
  cases e'
theorem zeN (I:Inv X pins σ H s) {d:Dt}:∀ {ds:List Dt} {vs:List V} {us:List Value},am X.K H ds vs→ap vs us→us.any (hitD X.K H d)=ds.any fun d'=>peq d' d
 | [],vs,us,h,r=>by
  simp only[am]at h
  subst h
  cases r
  rfl
 | d' :: ds,vs,us,h,r=>by
  simp only[am]at h
  obtain⟨v,rs,rfl,h1,h2⟩:=h
  cases r with
  | cons r1 r2=>rw[List.any_cons,List.any_cons,zhK I r1 h1,zeN I h2 r2]
theorem zeL (I:Inv X pins σ H s) {A:Around} {d:Dt} {x:V} {ux:Value} (hx:Has X.K H d x) (rx:ar x ux):∀ {ds:List Dt} {vs:List V} {us:List Value},am X.K H ds vs→ap vs us→A.units+zbZ ds < cLine→∀ u∈us,SeqAt.EqAt A s u ux (hitD X.K H d u)
 | [],vs,us,h,r,hu,u,hm=>by
  simp only[am]at h
  subst h
  cases r
  cases hm
 | d' :: ds,vs,us,h,r,hu,u,hm=>by
  simp only[am]at h
  obtain⟨v,rs,rfl,h1,h2⟩:=h
  simp only[zbZ]at hu
  cases r with
  | cons r1 r2 =>
   rcases List.mem_cons.mp hm with rfl | hm
   ·rw[zhK I r1 h1]
    exact zi6 I d' d v x _ _ A h1 hx r1 rx (by omega)
   ·exact zeL I hx rx h2 r2 (by omega) u hm
inductive rInD (K:W.Frag) (neg:Bool):R2 | mk {x y H Q} p xs ds d:y=.ref p→(SqL K H p xs∨SqT K H p xs)→am K H ds xs→Has K H d x→zbZ ds≤60→Q (.bl (if neg then !(ds.any fun d'=>peq d' d) else ds.any fun d'=>peq d' d)) H→rInD K neg x y H Q
theorem op_inD (hu:X.A.units+64 < cLine):OpR X (compareOp .In) (rInD X.K false):=by
 intro pins s σ H x y v u Q I rx ry h
 obtain⟨p,xs,ds,d,rfl,hq,hs,hx,hd,q⟩:=h
 cases ry
 have hin:X.A.in1.units+zbZ ds < cLine:=by rw[Around.in1_units];omega
 rcases hq with hq | hq
 ·obtain⟨its,r,pl,hz⟩:=I.list hq
  refine SeqAt.in_listAt (hitD X.K H d) pl.isList (fun w hw=>zeL I hx rx hs r hin w (by simpa using hw)) ⟨.bl _,H,I,rfl,?_⟩
  rw[show its.toArray.any (hitD X.K H d)=its.any (hitD X.K H d) by simp,zeN I hs r]
  exact q
 ·obtain⟨its,r,pl,hz⟩:=I.tuple hq
  refine SeqAt.in_tupleAt (hitD X.K H d) pl (fun w hw=>zeL I hx rx hs r hin w (by simpa using hw)) ⟨.bl _,H,I,rfl,?_⟩
  rw[show its.toArray.any (hitD X.K H d)=its.any (hitD X.K H d) by simp,zeN I hs r]
  exact q
end
end L2
namespace L2
open PySem PySem.Spec PyProof.Rows
structure FB (P:Program) (w:World) (K:W.Frag) (mg:Str→Option Value) (base:Heap) (CX:CXT) (k:Nat) (x:Str) (f:Addr) (fd:FuncData) (ps:List Str) (sp:Sp):Prop where
 ok:FnOk P w K mg base CX k f fd ps sp
 b:aq K fd ps []
 kp:W.keepIn K (.ref f)=true
 m:mg x=some (.ref f)
theorem bsz (n:Nat) (h:n≤1000):n≤sizeLine:=Nat.le_of_lt (zct h)
theorem zkp {k:Nat} {A:Around} (hr:zai k A):A.units+64 < cLine:=hr.units
theorem zaR {α:Type} {xs:List α} {i:Nat} {x:α} (h:xs[i]?=some x):xs.take (i+1)=xs.take i++[x]:=by
 rw[List.take_add_one,h]
 rfl
theorem zad {H:Hp} {p:Addr} (h:H p=none) (o:HO):ao H (upd H p o):=fun b u q=>by rw[zag (zaF q h)];exact q
theorem ao.upd {H0 H:Hp} {l:Addr} {o:HO} (s:ao H0 H) (h:H0 l=none):ao H0 (upd H l o):=fun b u q=>by rw[zag (zaF q h)];exact s b u q
theorem ao.kt {H H':Hp} (s:ao H H'):zbb H H':=zbb.of_same s
theorem ao.tup {K:W.Frag} {H H':Hp} {a:Addr} {xs:List V} (s:ao H H') (h:SqT K H a xs):SqT K H' a xs:=s.kt.sq h
structure Wk (J:It) (n:Nat) (Ok:Hp→Prop):Prop where
 stop:∀ i H,Ok H→n≤i→J.stop i H
 go:∀ i H,Ok H→i < n→J.go i H
theorem zjH {lo:Int} {n:Nat}:Wk (Itr lo n) n (fun _=>True):=⟨fun _ _ _ h=>h,fun _ _ _ h=>h⟩
theorem zbK {K:W.Frag} {a:Addr} {xs:List V}:Wk (Itl K a) xs.length (fun H=>SqL K H a xs):=⟨fun _ _ h hi=>⟨xs,h,hi⟩,fun i _ h hi=>⟨xs,xs[i],h,by simp [hi]⟩⟩
theorem ze2 {K:W.Frag} {a:Addr} {xs:List V}:Wk (Itt K a) xs.length (fun H=>SqT K H a xs):=⟨fun _ _ h hi=>⟨xs,h,hi⟩,fun i _ h hi=>⟨xs,xs[i],h,by simp [hi]⟩⟩
def LcW (n:Nat) (D:Addr) (Pv:Nat→List V→Hp→Prop) (i m:Nat) (ys:List V) (H:Hp):Prop:=m=n - i∧i≤n∧ys.length≤i∧H D=some (.lst ys)∧Pv i ys H
def zje (n:Nat) (D:Addr) (Pv:Nat→List V→Hp→Prop) (i:Nat) (ys:List V):VK:=fun y H3=>H3 D=some (.lst ys)∧ys.length < sizeLine∧∃ m',m' < n - i∧LcW n D Pv (i+1) m' (ys++[y]) (upd H3 D (.lst (ys++[y])))
theorem zcL {n:Nat} {D:Addr} {Pv:Nat→List V→Hp→Prop} {i:Nat} {ys:List V} {y:V} {H3:Hp} (hn:n≤sizeLine) (hi:i < n) (hl:ys.length≤i) (hD:H3 D=some (.lst ys)) (p:Pv (i+1) (ys++[y]) (upd H3 D (.lst (ys++[y])))):zje n D Pv i ys y H3 :=
 ⟨hD,by omega,n - (i+1),by omega,rfl,hi,by rw[List.length_append,List.length_singleton];omega,zaa,p⟩
theorem zeb {J:It} {n:Nat} {Ok:Hp→Prop} {te:TE} {fv:St} {H1:Hp} {D:Addr} {R:Hp→Prop} (W:Wk J n Ok) (Pv:Nat→List V→Hp→Prop) (hok:∀ i ys H,Pv i ys H→Ok H) (h0:Pv 0 [] (upd H1 D (.lst [])))
  (hs:∀ i ys H' x H'',i < n→ys.length≤i→H' D=some (.lst ys)→Pv i ys H'→J.yld i H' x H''→te (some x :: fv) H'' (zje n D Pv i ys)) (hd:∀ ys H',H' D=some (.lst ys)→Pv n ys H'→R H') :
  ∃ W:Nat→Nat→List V→Hp→Prop,(∃ m,W 0 m [] (upd H1 D (.lst [])))∧∀ i m ys H',W i m ys H'→H' D=some (.lst ys) ∧
   ((J.stop i H'∧R H')∨(J.go i H'∧∀ x H'',J.yld i H' x H''→te (some x :: fv) H'' fun y H3=>H3 D=some (.lst ys)∧ys.length < sizeLine∧∃ m',m' < m∧W (i+1) m' (ys++[y]) (upd H3 D (.lst (ys++[y]))))):=by
 refine⟨LcW n D Pv,⟨n,rfl,Nat.zero_le _,Nat.zero_le _,zaa,h0⟩,?_⟩
 rintro i m ys H' ⟨rfl,hi,hl,hD,p⟩
 refine⟨hD,?_⟩
 by_cases hlt:i < n
 ·exact .inr ⟨W.go i H' (hok _ _ _ p) hlt,fun x H'' y=>hs i ys H' x H'' hlt hl hD p y⟩
 ·have e:i=n:=by omega
  subst e
  exact .inl ⟨W.stop i H' (hok _ _ _ p) (Nat.le_refl _),hd ys H' hD p⟩
theorem zca {J:It} {n:Nat} {Ok:Hp→Prop} {g:TG} {tb:TS} {D:zaU} {σ:St} {H:Hp} (W:Wk J n Ok) (Pv:Nat→St→Hp→Prop) (hok:∀ i σ H,Pv i σ H→Ok H) (h0:Pv 0 σ H)
  (hs:∀ i σ H x H',i < n→Pv i σ H→J.yld i H x H'→g x σ H' fun σ2 H2=>tb { D with nx:=Pv (i+1),ct:=Pv (i+1),bk:=D.nx } σ2 H2) (hd:∀ σ H,Pv n σ H→D.nx σ H) :
  ∃ W:Nat→Nat→St→Hp→Prop,(∃ m,W 0 m σ H)∧∀ i m σ H,W i m σ H →
   (J.stop i H∧D.nx σ H)∨(J.go i H∧∃ N:St→Hp→Prop,(∀ σ' H',N σ' H'→∃ m',m' < m∧W (i+1) m' σ' H')∧∀ x H',J.yld i H x H'→g x σ H' fun σ2 H2=>tb { D with nx:=N,ct:=N,bk:=D.nx } σ2 H2):=by
 refine⟨fun i m σ H=>m=n - i∧i≤n∧Pv i σ H,⟨n,by simp,Nat.zero_le _,h0⟩,?_⟩
 rintro i m σ H ⟨rfl,hi,p⟩
 by_cases hlt:i < n
 ·exact .inr ⟨W.go i H (hok _ _ _ p) hlt,Pv (i+1),fun σ' H' p'=>⟨n - (i+1),by omega,rfl,hlt,p'⟩,fun x H' y=>hs i σ H x H' hlt p y⟩
 ·have e:i=n:=by omega
  subst e
  exact .inl ⟨W.stop i H (hok _ _ _ p) (Nat.le_refl _),hd σ H p⟩
theorem Has.int {K:W.Frag} {H:Hp} {i:Int}:Has K H (.int i) (.int i):=by simp only[Has]
theorem Has.str' {K:W.Frag} {H:Hp} {x:Str}:Has K H (.str x) (.str x):=by simp only[Has]
theorem am.nil {K:W.Frag} {H:Hp}:am K H [] []:=by simp only[am]
theorem am.cons {K:W.Frag} {H:Hp} {d:Dt} {ds:List Dt} {v:V} {vs:List V} (h:Has K H d v) (r:am K H ds vs):am K H (d :: ds) (v :: vs):=by
 simp only[am]
 exact⟨v,vs,rfl,h,r⟩
theorem Has.tup' {K:W.Frag} {H:Hp} {ds:List Dt} {a:Addr} {xs:List V} (h:SqT K H a xs) (r:am K H ds xs):Has K H (.tup ds) (.ref a):=by
 simp only[Has]
 exact⟨a,xs,rfl,h,r⟩
end L2
namespace PySem
open Sem (wp)
namespace F
end F
section
variable {prog:Program} {w:World} {K:Type} [DecidableEq K] {knd:KeyKind prog w K} {A:Around}
end
end PySem
namespace L2
open PySem PySem.Spec PyProof.Rows
section
variable {κ:Type} [DecidableEq κ]
def valV (kvs:List (κ × V)) (k:κ):Option V:=(kvs.find? fun kv=>decide (kv.1=k)).map (·.2)
def putK (kvs:List (κ × V)) (k:κ) (v:V):List (κ × V) :=
 if(kvs.any fun kv=>decide (kv.1=k))=true then kvs.map (fun kv=>if kv.1=k then(kv.1,v) else kv) else kvs++[(k,v)]
def dropK (kvs:List (κ × V)) (k:κ):List (κ × V):=kvs.filter fun kv=>decide (kv.1≠k)
theorem KV.any {kvs:List (κ × V)} {vs:List (κ × Value)} (r:KV kvs vs) (k:κ):(kvs.any fun kv=>decide (kv.1=k))=vs.any fun kv=>decide (kv.1=k):=by
 unfold KV at r
 induction r with
 | nil=>rfl
 | cons h t ih=>rw[List.any_cons,List.any_cons,ih,h.1]
theorem KV.drop {kvs:List (κ × V)} {vs:List (κ × Value)} (r:KV kvs vs) (k:κ):KV (dropK kvs k) (without vs k):=by
 unfold KV at r ⊢
 unfold dropK without
 induction r with
 | nil=>exact .nil
 | @cons p q ps qs h t ih =>
  obtain⟨h1,h2⟩:=h
  rw[List.filter_cons,List.filter_cons]
  by_cases e:p.1=k
  ·have a:¬decide (p.1≠k)=true:=by simp [e]
   have b:¬decide (q.1≠k)=true:=by simp [h1.symm.trans e]
   rw[if_neg a,if_neg b];exact ih
  ·have e':¬q.1=k:=fun z=>e (h1.trans z)
   have a:decide (p.1≠k)=true:=by simp [e]
   have b:decide (q.1≠k)=true:=by simp [e']
   rw[if_pos a,if_pos b];exact .cons ⟨h1,h2⟩ ih
theorem KV.length {kvs:List (κ × V)} {vs:List (κ × Value)} (r:KV kvs vs):kvs.length=vs.length:=Paired.length r
end
section
variable {P:Program} {w:World} {H:Hp} {h:Heap} {a:Addr}
end
def DGet (H:Hp) (a:Addr) (y:V) (r:Option V):Prop :=
 (∃ kvs k,Rd H a (.dK kvs)∧y=kV k∧r=valV kvs k)∨∃ kvs k b,Rd H a (.dT kvs)∧y=.ref b∧H b=some (.tup (k.map kV))∧r=valV kvs k
def DPut (H:Hp) (a:Addr) (y v:V) (H':Hp):Prop :=
 (∃ kvs k,H a=some (.dK kvs)∧y=kV k∧kvs.length < sizeLine∧H'=upd H a (.dK (putK kvs k v))) ∨
 ∃ kvs k b,H a=some (.dT kvs)∧y=.ref b∧H b=some (.tup (k.map kV))∧kvs.length < sizeLine∧H'=upd H a (.dT (putK kvs k v))
theorem DGet.k {H:Hp} {a:Addr} {kvs:List (Key × V)} {k:Key} (e:H a=some (.dK kvs)):DGet H a (kV k) (valV kvs k):=.inl ⟨kvs,k,.inl e,rfl,rfl⟩
theorem DGet.t {H:Hp} {a b:Addr} {kvs:List (List Key × V)} {k:List Key} (e:H a=some (.dT kvs)) (eb:H b=some (.tup (k.map kV))):DGet H a (.ref b) (valV kvs k):=.inr ⟨kvs,k,b,.inl e,rfl,eb,rfl⟩
theorem DPut.k {H:Hp} {a:Addr} {kvs:List (Key × V)} {k:Key} {v:V} (e:H a=some (.dK kvs)) (hl:kvs.length < sizeLine):DPut H a (kV k) v (upd H a (.dK (putK kvs k v))):=.inl ⟨kvs,k,e,rfl,hl,rfl⟩
theorem DPut.t {H:Hp} {a b:Addr} {kvs:List (List Key × V)} {k:List Key} {v:V} (e:H a=some (.dT kvs)) (eb:H b=some (.tup (k.map kV))) (hl:kvs.length < sizeLine) :
  DPut H a (.ref b) v (upd H a (.dT (putK kvs k v))):=.inr ⟨kvs,k,b,e,rfl,eb,hl,rfl⟩
section
variable {X:Cx} {pins:List (Addr × Obj)} {σ:St} {H:Hp} {s:Shared} {a:Addr} {y v:V} {u r:Value} {o:Option V} {A:Around} {E:Value→Shared→Prop}
end
section
variable {X:Cx} {pins:List (Addr × Obj)} {σ:St} {H:Hp} {s:Shared} {a:Addr} {kvs:List (Key × V)} {k:Key} {u:Value} {A:Around} {E:Value→Shared→Prop}
end
section
variable {X:Cx} {o i e value:Expr} {pos pos' tpos:Pos} {td ty tv:TE}
end
section
variable {X:Cx} {pos:Pos}
end
section
variable {X:Cx} {pins:List (Addr × Obj)} {σ:St} {H:Hp} {s:Shared} {a:Addr} {y d:V} {u r:Value} {o:Option V} {A:Around} {E:Value→Shared→Prop}
end
section
variable {X:Cx} {o e f:Expr} {apos cpos:Pos} {td ty tx:TE}
end
section
variable {X:Cx} {pins:List (Addr × Obj)} {σ:St} {H:Hp} {s:Shared} {a:Addr} {kvs:List (Key × V)} {A:Around} {E:Value→Shared→Prop}
end
section
variable {X:Cx} {pins:List (Addr × Obj)} {σ:St} {H:Hp} {s:Shared} {a:Addr} {y:V} {u:Value} {A:Around} {E:Value→Shared→Prop}
end
end L2
namespace L2
open PySem PySem.Spec PyProof.Rows
section
variable {X:Cx}
end
section
variable {κ:Type} [DecidableEq κ]
end
end L2
namespace L2
open PySem PySem.Spec PyProof.Rows
section
variable {X:Cx}
end
end L2
namespace L2
open PySem PySem.Spec PyProof.Rows
def SqInt (K:W.Frag) (H:Hp) (q:Addr) (ps:List Int):Prop:=SqL K H q (ps.map V.int)∨SqT K H q (ps.map V.int)
def once:List Int→List Int→List Int
 | acc,[]=>acc
 | acc,p :: ps=>once (if p∈acc then acc else acc++[p]) ps
def nf (row held:List Int):List Int:=once [] (row.filter fun p=>decide (-p∉held))
end L2
namespace L2
open PySem PySem.Spec PyProof.Rows
theorem zk7 (val:Nat→Int):∀ k,argBest (fun i j=>decide (val i < val j)) k≤k∧∀ i,i≤k→val (argBest (fun i j=>decide (val i < val j)) k)≤val i
 | 0=>⟨Nat.le_refl _,fun i hi=>by
   have e:i=0:=by omega
   subst e
   exact Int.le_refl _⟩
 | k+1=>by
  obtain⟨h1,h2⟩:=zk7 val k
  unfold argBest
  by_cases e:val (k+1) < val (argBest (fun i j=>decide (val i < val j)) k)
  ·rw[if_pos (decide_eq_true e)]
   refine⟨Nat.le_refl _,fun i hi=>?_⟩
   by_cases hk:i=k+1
   ·rw[hk]
    exact Int.le_refl _
   ·have:=h2 i (by omega)
    omega
  ·rw[if_neg (fun z=>e (of_decide_eq_true z))]
   refine⟨by omega,fun i hi=>?_⟩
   by_cases hk:i=k+1
   ·rw[hk]
    omega
   ·exact h2 i (by omega)
theorem zhV (val:Nat→Int):∀ k,argBest (fun i j=>decide (val i > val j)) k≤k∧∀ i,i≤k→val i≤val (argBest (fun i j=>decide (val i > val j)) k)
 | 0=>⟨Nat.le_refl _,fun i hi=>by
   have e:i=0:=by omega
   subst e
   exact Int.le_refl _⟩
 | k+1=>by
  obtain⟨h1,h2⟩:=zhV val k
  unfold argBest
  by_cases e:val (k+1) > val (argBest (fun i j=>decide (val i > val j)) k)
  ·rw[if_pos (decide_eq_true e)]
   refine⟨Nat.le_refl _,fun i hi=>?_⟩
   by_cases hk:i=k+1
   ·rw[hk]
    exact Int.le_refl _
   ·have:=h2 i (by omega)
    omega
  ·rw[if_neg (fun z=>e (of_decide_eq_true z))]
   refine⟨by omega,fun i hi=>?_⟩
   by_cases hk:i=k+1
   ·rw[hk]
    omega
   ·exact h2 i (by omega)
theorem zke {ns:List Int} {i:Nat} (h:i < ns.length):ns.getD i 0∈ns:=by
 rw[List.getD_eq_getElem?_getD,List.getElem?_eq_getElem h]
 exact List.getElem_mem h
theorem zj6 {ns:List Int} {n:Int} (h:n∈ns):∃ i,i < ns.length∧ns.getD i 0=n:=by
 obtain⟨i,hi,e⟩:=List.mem_iff_getElem.mp h
 exact⟨i,hi,by rw[List.getD_eq_getElem?_getD,List.getElem?_eq_getElem hi];exact e⟩
section
variable {X:Cx}
theorem zfo {ns:List Int} {its:List Value} (rv:ap (ns.map V.int) its):∀(i:Nat) (v:Value),its.toArray[i]?=some v→∃ t,v=.int (ns.getD i 0) t:=fun i v hv=>by
 have hv':its[i]?=some v:=by simpa using hv
 have hi:i < its.length:=(List.getElem?_eq_some_iff.mp hv').1
 have hl:=rv.length
 rw[List.length_map]at hl
 have hb:ns[i]?=some (ns.getD i 0):=by
  rw[List.getD_eq_getElem?_getD,List.getElem?_eq_getElem (by omega)]
  rfl
 obtain⟨w',e1,e2⟩:=rv.get (i:=i) (x:=.int (ns.getD i 0)) (by rw[List.getElem?_map,hb];rfl)
 rw[hv']at e1
 cases e1
 exact e2
end
end L2
namespace L2
open PySem PySem.Spec PyProof.Rows
section
variable {X:Cx} {N':List Str} {scope:Scope} {cl:List (Str × Addr)} {fp:List Addr} {pins:List (Addr × Obj)} {σ:St} {H:Hp} {s:Shared}
end
section
variable {X:Cx} {N':List Str} {scope:Scope} {elt iter tg:Expr} {L:Nat} {pos:Pos} {wi:TI} {g:TG} {te:TE} {ix:List Nat}
end
section
variable {X:Cx} {N':List Str} {scope:Scope} {elt iter c tg:Expr} {L:Nat} {pos:Pos} {wi:TI} {g:TG} {tc:TT} {te:TE} {ix:List Nat}
end
end L2
namespace L2
open PySem PySem.Spec PyProof.Rows
theorem Inv.turnedLaid {X:Cx} {pins:List (Addr × Obj)} {σ:St} {H:Hp} {s:Shared} {h':Heap} {fp:List Addr} {a:Addr} {o:HO} {t':Nat} (I:Inv X pins σ H s) (hf:∀ b∈fp,zbt X pins H b) (k:∀ b u,b∉fp→s.heap.get? b=some u→h'.get? b=some u) (hp:s.heap.objs.size≤a) (new:zba X.prog X.w (upd H a o) h' a o) :
  Inv X pins σ (upd H a o) { s with heap:=h',toks:=t' }:=by
 have hn:=I.hok.fresh hp
 have nfp:∀ b u,H b=some u→b∉fp:=fun b u e z=>by rw[(hf b z).1]at e;cases e
 have un:Un (frs X.stack) fp H (upd H a o) s.heap h':=⟨fun b u q _ _ hx=>k b u hx q,fun b u q _ _ hx=>⟨u.slots,k b u hx q⟩,fun b u q n _=>by rw[zag (Nat.ne_of_lt (Nat.lt_of_lt_of_le (Heap.lt_size q) hp))];exact n,
  fun b u q hx=>⟨u,k b u hx q⟩,fun b xs q=>by rw[zag (zaF q hn)];exact q,fun b u xs q=>by rw[zag (zaF q hn)];exact q,fun b ps q=>⟨#[],by rw[zag (zaF q hn),q];simp⟩⟩
 have hok:HOk X.prog X.w (upd H a o) h':=fun b u e=>by
  by_cases hb:b=a
  ·subst hb;rw[zaa]at e;cases e;exact new
  ·rw[zag hb]at e
   refine(I.hok b u e).stay (fun c v hc q=>k c v ?_ q) (fun c q=>by rw[zag (zaF q hn)];exact q) fun c xs q=>by rw[zag (zaF q hn)];exact q
   rcases hc with z | z
   ·rw[z];exact nfp b u e
   ·exact nfp c _ z
 exact I.call (g':=s.gens) (d':=s.drawn) (ch:=fp) un hok I.bare fun b hb=>⟨(hf b hb).2.2.2.1,(hf b hb).2.1,(hf b hb).2.2.2.2.1,(hf b hb).2.2.2.2.2⟩
section
variable {X:Cx}
end
end L2
namespace L2
open PySem PySem.Spec PyProof.Rows
theorem zjA (sep x:Str):Builtin.Str.glued sep [x]=x:=rfl
def zcy (xs:List Str):Nat:=(xs.map Str.length).sum
theorem zg5 (sep:Str):∀(xs:List Str) (a:Array Nat),(xs.foldl (fun acc p=>acc++sep.cps++p.cps) a).size≤a.size+zcy xs+xs.length * sep.length
 | [],a=>by simp [zcy]
 | x :: xs,a=>by
  rw[List.foldl_cons]
  refine Nat.le_trans (zg5 sep xs _) ?_
  rw[Array.size_append,Array.size_append]
  simp only[zcy,List.map_cons,List.sum_cons,List.length_cons,Nat.add_mul,Nat.one_mul]
  show a.size+sep.length+x.length+_+_≤_
  omega
theorem zfR (sep:Str):∀ xs:List Str,(Builtin.Str.glued sep xs).length≤zcy xs+xs.length * sep.length
 | []=>Nat.zero_le _
 | x :: xs=>by
  refine Nat.le_trans (zg5 sep xs x.cps) ?_
  simp only[zcy,List.map_cons,List.sum_cons,List.length_cons,Nat.add_mul,Nat.one_mul]
  show x.length+_+_≤_
  omega
section
variable {X:Cx}
theorem zhg:∀ {xs:List Str} {us:List Value},ap (xs.map V.str) us→∃ l:List (Str × Tok),us=strValues l∧l.map (·.1)=xs
 | [],us,r=>by
  have e:us=[]:=ap.zero r
  exact⟨[],by rw[e];rfl,rfl⟩
 | x :: xs,us,r=>by
  cases r with
  | cons r1 rr =>
   obtain⟨l,e1,e2⟩:=zhg rr
   obtain⟨t,e3⟩:=r1
   refine⟨(x,t) :: l,?_,by rw[List.map_cons,e2]⟩
   rw[e3,e1]
   rfl
theorem zfT (k:Nat):∀(xs:List Str) (a:Nat),xs.foldl (fun n x=>n+x.length+k) a=a+zcy xs+xs.length * k
 | [],a=>by simp [zcy]
 | x :: xs,a=>by
  rw[List.foldl_cons,zfT k xs]
  simp only[zcy,List.map_cons,List.sum_cons,List.length_cons,Nat.add_mul,Nat.one_mul]
  omega
inductive rJoin (K:W.Frag):V→List V→Hp→VK→Prop | mk {x vs H Q} sep p xs:x=.str sep→vs=[.ref p]→SqL K H p (xs.map V.str)→zcy xs+xs.length * sep.length≤sizeLine→Q (.str (Builtin.Str.glued sep xs)) H→rJoin K x vs H Q
theorem zkR:MtR X "str.join" (rJoin X.K):=by
 intro pins s σ H x vs v us Q I rx rv h
 obtain⟨sep,p,xs,rfl,rfl,hq,hz,q⟩:=h
 obtain⟨t,rfl⟩:=rx
 obtain⟨u,rfl,ru⟩:=rv.one
 cases ru
 obtain⟨its,r,pl,hz2⟩:=I.list hq
 obtain⟨l,rfl,e2⟩:=zhg r
 have hl:Builtin.Str.tooLong ((l.map (·.1)).toArray.foldl (·+·.length+sep.length) 0)=false:=by
  rw[e2]
  unfold Builtin.Str.tooLong
  rw[List.foldl_toArray,zfT]
  exact decide_eq_false (by omega)
 refine call_meets F.slot_str_join (typeIs_str s sep t) F.entry_str_join (F.args_str_join_2 _ _) (meets_str_join_list sep t p l hl) ⟨pl.isList,?_⟩
 match l,e2 with
 | [],e2 =>
  subst e2
  exact⟨Nat.le_trans (zfR _ _) hz,.str (Builtin.Str.glued sep []),H,I.tok _,⟨_,rfl⟩,q⟩
 | [a],e2 =>
  subst e2
  exact⟨.str a.1,H,I,⟨_,rfl⟩,q⟩
 | a :: b :: c,e2 =>
  subst e2
  exact⟨Nat.le_trans (zfR _ _) hz,.str _,H,I.tok _,⟨_,rfl⟩,q⟩
end
end L2
namespace L2
open PySem PySem.Spec PyProof.Rows
section
variable {X:Cx} {tg:Expr}
end
end L2
namespace L2
open PySem PySem.Spec PyProof.Rows
set_option maxRecDepth 100000
section
variable {prog:Program} {w:World} {A:Around} {E:Value→Shared→Prop} {s:Shared} {J:Addr} {fp wr:List Addr} {G:Array GenState→Array GenState→Prop} {n:Nat} {P:Nat→Value→Prop} {St:Nat→Shared→Prop}
end
end L2
namespace L2
open PySem PySem.Spec PyProof.Rows
set_option maxRecDepth 100000
theorem zjE (a v:Value):argsOk "max" ⟨[a],[(Str.ofString "default",v)]⟩:=by unfold argsOk;kernel_rfl
section
variable {prog:Program} {w:World} {A:Around} {R:Result→Shared→Prop} {J:Addr} {fp wr:List Addr} {n:Nat} {P:Nat→Value→Prop} {St:Nat→Heap→Prop} {kw:List (Str × Value)}
theorem zc8:(toString "max"++toString ".loop":String)="max.loop":=by decide
theorem zju (W:Walks prog w A.in1 J fp wr n P St) (bt:Nat→Nat→Bool) (cmp:CmpOf prog w A.in1 .Gt P bt) (B:Addr) (out:B∉fp) :
  ∀(k j:Nat) (s:Shared) (vb:Value) (c:Nat),n - (j+1)=k→j+1≤n→St (j+1) s.heap→P (argBest bt j) vb →
  s.heap.get? B=some { cls:=.type "list",dict:=none,data:=.seq #[vb,vb] c,slots:=#[] } →
  (∀ v h' tk,P (argBest bt (n - 1)) v→(∀ b o,b∉wr→b≠B→s.heap.get? b=some o→h'.get? b=some o)→R (.ok (.ret v)) { s with heap:=h',toks:=tk }) →
  codeAny (model prog w) A (.builtin "max.loop" ⟨[.ref J,.none,.ref B],kw⟩) R s:=by
 have outw:B∉wr:=fun z=>out (W.sub _ z)
 intro k
 induction k with
 | zero =>
  intro j s vb c ek ej st pb best fin
  have en:j+1=n:=by omega
  refine codeAny_builtin PySem.F.entry_max_loop ?_
  rw[Around.under_plainId PySem.F.plain_max_loop _]
  show wpAny _ A.in1 (seqItems? (.ref B) >>= _) _ _ s
  refine wpAny_bind (wpAny_seqItems best rfl ?_)
  show wpAny _ A.in1 (tryCatch (pyNext (.ref J)) _ >>= _) _ _ s
  refine wpAny_bind (wpAny_tryCatch (W.done s _ _ (en ▸ st) fun h' tk kept=>?_))
  have best':=kept B _ outw best
  show wpAny _ A.in1 (updateSeq B (fun _=>#[]) >>= _) _ _ _
  refine wpAny_bind (wpAny_updateSeq best' rfl (wpAny_bind (wpAny_letGo (wpAny_pure ?_))))
  exact fin vb _ tk (by rw[←en];exact pb) fun b o bw bB e=>(Heap.get?_update_other _ _ (Ne.symm bB)).trans (kept b o bw e)
 | succ k ih =>
  intro j s vb c ek ej st pb best fin
  have lt:j+1 < n:=by omega
  refine codeAny_builtin PySem.F.entry_max_loop ?_
  rw[Around.under_plainId PySem.F.plain_max_loop _]
  show wpAny _ A.in1 (seqItems? (.ref B) >>= _) _ _ s
  refine wpAny_bind (wpAny_seqItems best rfl ?_)
  show wpAny _ A.in1 (tryCatch (pyNext (.ref J)) _ >>= _) _ _ s
  refine wpAny_bind (wpAny_tryCatch (W.item (j+1) s _ _ lt st fun v h' tk pv st' kept=>?_))
  have best':=kept B _ outw best
  show wpAny _ A.in1 (tryCatch (holding [v,v] (richCompare .Gt v vb >>= _)) _ >>= _) _ _ _
  refine wpAny_bind (wpAny_tryCatch (wpAny_holding (wpAny_bind (cmp (j+1) (argBest bt j) v vb _ _ _ pv pb ?_))))
  refine wpAny_bind (wpAny_holding (wpAny_truthy_bool (wpAny_bind (wpAny_letGo (wpAny_pure ?_)))))
  cases eb:bt (j+1) (argBest bt j) with
  | true =>
   simp only[if_true]
   refine wpAny_bind (wpAny_updateSeq best' rfl (wpAny_bind (wpAny_letGo ?_)))
   rw[zc8]
   refine wpAny_pure ⟨plainId_quiet PySem.F.plain_max_loop _,ih (j+1) _ v _ (by omega) lt (W.frame _ _ _ st' fun b bf o e=>(Heap.get?_update_other _ _ (fun z:B=b=>out (by rw[z];exact bf))).trans e) (by simp only[argBest,eb,if_true];exact pv) (Heap.get?_update_self _ best' rfl) fun v' h'' tk'' pv' kept'=>?_⟩
   exact fin v' h'' tk'' pv' fun b o bw bB e=>kept' b o bw bB ((Heap.get?_update_other _ _ (Ne.symm bB)).trans (kept b o bw e))
  | false =>
   simp only[Bool.false_eq_true,if_false]
   refine wpAny_bind (wpAny_letGo ?_)
   rw[zc8]
   refine wpAny_pure ⟨plainId_quiet PySem.F.plain_max_loop _,ih (j+1) _ vb c (by omega) lt st' (by simp only[argBest,eb,Bool.false_eq_true,if_false];exact pb) best' fun v' h'' tk'' pv' kept'=>?_⟩
   exact fin v' h'' tk'' pv' fun b o bw bB e=>kept' b o bw bB (kept b o bw e)
theorem ziq (W:Walks prog w A.in1 J fp wr n P St) (bt:Nat→Nat→Bool) (cmp:CmpOf prog w A.in1 .Gt P bt) (B:Addr) (out:B∉fp) (some':0 < n) {s:Shared} {c:Nat} (st:St 0 s.heap)
  (best:s.heap.get? B=some { cls:=.type "list",dict:=none,data:=.seq #[] c,slots:=#[] })
  (fin:∀ v h' tk,P (argBest bt (n - 1)) v→(∀ b o,b∉wr→b≠B→s.heap.get? b=some o→h'.get? b=some o)→R (.ok (.ret v)) { s with heap:=h',toks:=tk }) :
  codeAny (model prog w) A (.builtin "max.loop" ⟨[.ref J,.none,.ref B],kw⟩) R s:=by
 have outw:B∉wr:=fun z=>out (W.sub _ z)
 refine codeAny_builtin PySem.F.entry_max_loop ?_
 rw[Around.under_plainId PySem.F.plain_max_loop _]
 show wpAny _ A.in1 (seqItems? (.ref B) >>= _) _ _ s
 refine wpAny_bind (wpAny_seqItems best rfl ?_)
 show wpAny _ A.in1 (tryCatch (pyNext (.ref J)) _ >>= _) _ _ s
 refine wpAny_bind (wpAny_tryCatch (W.item 0 s _ _ some' st fun v h' tk pv st' kept=>?_))
 have best':=kept B _ outw best
 show wpAny _ A.in1 (updateSeq B (fun _=>#[v,v]) >>= _) _ _ _
 refine wpAny_bind (wpAny_updateSeq best' rfl ?_)
 rw[zc8]
 refine wpAny_pure ⟨plainId_quiet PySem.F.plain_max_loop _,zju W bt cmp B out _ 0 _ v _ rfl some' (W.frame _ _ _ st' fun b bf o e=>(Heap.get?_update_other _ _ (fun z:B=b=>out (by rw[z];exact bf))).trans e) pv (Heap.get?_update_self _ best' rfl) fun v' h'' tk'' pv' kept'=>?_⟩
 exact fin v' h'' tk'' pv' fun b o bw bB e=>kept' b o bw bB ((Heap.get?_update_other _ _ (Ne.symm bB)).trans (kept b o bw e))
theorem zjt (W:Walks prog w A.in1 J fp wr 0 P St) (B:Addr) (out:B∉fp) {s:Shared} {c:Nat} {nm:Str} {d:Value} (st:St 0 s.heap)
  (best:s.heap.get? B=some { cls:=.type "list",dict:=none,data:=.seq #[] c,slots:=#[] })
  (fin:∀ h' tk,(∀ b o,b∉wr→b≠B→s.heap.get? b=some o→h'.get? b=some o)→R (.ok (.ret d)) { s with heap:=h',toks:=tk }) :
  codeAny (model prog w) A (.builtin "max.loop" ⟨[.ref J,.none,.ref B],[(nm,d)]⟩) R s:=by
 refine codeAny_builtin PySem.F.entry_max_loop ?_
 rw[Around.under_plainId PySem.F.plain_max_loop _]
 show wpAny _ A.in1 (seqItems? (.ref B) >>= _) _ _ s
 refine wpAny_bind (wpAny_seqItems best rfl ?_)
 show wpAny _ A.in1 (tryCatch (pyNext (.ref J)) _ >>= _) _ _ s
 refine wpAny_bind (wpAny_tryCatch (W.done s _ _ st fun h' tk kept=>?_))
 refine wpAny_bind (wpAny_rule (wpAny_pure ?_))
 exact fin h' tk fun b o bw _ e=>kept b o bw e
end
section
variable {prog:Program} {w:World} {A:Around} {E:Value→Shared→Prop} {s:Shared}
theorem zfU {x d:Value} {Q:Value→Shared→Prop}
  (h:wpAny (model prog w) A.in1 (pyIter x) (fun it s₂=>∃ J fp wr n P St bt,it=.ref J∧Walks prog w A.in1 J fp wr n P St∧St 0 s₂.heap∧(∀ b∈fp,b < s₂.heap.objs.size)∧CmpOf prog w A.in1 .Gt P bt ∧
   (n=0→∀ h' tk,(∀ b o,b∉wr→s₂.heap.get? b=some o→h'.get? b=some o)→Q d { s₂ with heap:=h',toks:=tk }) ∧
   (0 < n→∀ v h' tk,P (argBest bt (n - 1)) v→(∀ b o,b∉wr→s₂.heap.get? b=some o→h'.get? b=some o)→Q v { s₂ with heap:=h',toks:=tk })) E s) :
  wpAny (model prog w) A (call (.builtin "max") [x] [(Str.ofString "default",d)]) Q E s:=by
 refine PyProof.Rows.kmk_tree PySem.F.kind_max PySem.F.plain_max PySem.F.entry_max (zjE _ _) ?_
 show wpAny _ A.in1 (Builtin.Builtins.bindParams "max" ["key","default"] 0 ⟨[],[(Str.ofString "default",d)]⟩ >>= _) _ _ s
 refine wpAny_bind (wpAny_of_eq (show Builtin.Builtins.bindParams "max" ["key","default"] 0 ⟨[],[(Str.ofString "default",d)]⟩=pure [none,some d] from rfl) (wpAny_bind (wpAny_pure ?_)))
 refine wpAny_bind (wpAny_mono h (fun it s₂ h₂=>?_) fun _ _ e=>e)
 obtain⟨J,fp,wr,n,P,St,bt,rfl,W,st,low,cmp,q0,q1⟩:=h₂
 refine wpAny_bind (wpAny_newObj_type ?_)
 have out:s₂.heap.objs.size∉fp:=fun z=>Nat.lt_irrefl _ (low _ z)
 rw[zc8]
 have st':=W.frame _ _ (s₂.heap.push { cls:=.type "list",data:=.seq ([]:List Value).toArray }) st fun b _ o e=>Heap.get?_push_of_some _ e
 rcases Nat.eq_zero_or_pos n with z | z
 ·subst z
  exact wpAny_pure ⟨plainId_quiet PySem.F.plain_max_loop _,zjt W s₂.heap.objs.size out st' (Heap.get?_push_size _ rfl) fun h' tk kept=>q0 rfl h' tk fun b o bw e=>kept b o bw (Nat.ne_of_lt (Heap.lt_size e)) (Heap.get?_push_of_some _ e)⟩
 ·exact wpAny_pure ⟨plainId_quiet PySem.F.plain_max_loop _,ziq W bt cmp s₂.heap.objs.size out z st' (Heap.get?_push_size _ rfl) fun v h' tk pv kept=>q1 z v h' tk pv fun b o bw e=>kept b o bw (Nat.ne_of_lt (Heap.lt_size e)) (Heap.get?_push_of_some _ e)⟩
end
section
variable {X:Cx}
def tMaxd (K:W.Frag) (ta tk:TA):TE:=fun σ H Q=>ta σ H fun vs H1=>tk σ H1 fun zs H2=>∃(p:Addr) (ns:List Int) (dv:Int),vs=[.ref p]∧zs=[.int dv]∧SqInt K H2 p ns∧(ns=[]→Q (.int dv) H2)∧∀ m∈ns,(∀ n∈ns,n≤m)→Q (.int m) H2
theorem zhu {e d:Expr} {ta tk:TA} {p pos kp:Pos} (hc:X.calm=true) (hg:Gl X "max") (hm:X.mg "max"=none) (ha:PA X [e] ta) (hk:PK X [⟨some "default",d,kp⟩] tk)
  (he:starEach [e] X.env=(false,eval e X.env) :: []:=by rfl) (hpl:(backTo pos (starEach [e] X.env)).any (·.1)=false:=by rfl) (hkn:(backToKw pos (keywordEach [⟨some "default",d,kp⟩] X.env)).any (·.1.isNone)=false:=by rfl)
  (hall:(backToKw pos (keywordEach [⟨some "default",d,kp⟩] X.env)).all (·.1.isSome)=true:=by rfl) (hks:(backToKw pos (keywordEach [⟨some "default",d,kp⟩] X.env)).filterMap (·.1)=[Str.ofString "default"]:=by rfl) :
  PE X (.Call (.Name "max" p) [e] [⟨some "default",d,kp⟩] pos) (tMaxd X.K ta tk):=by
 intro pins s σ H Q I h
 refine wpAny_Call_Name_kw (zdo I hg hm PyProof.Rows.Boot.max ?_)
 refine PyProof.Rows.callWith_builtin_kwB hpl hkn ?_
 have hA:=ha pos pins s σ H _ I h
 rw[he]at hA ⊢
 refine evalArgs_kw hall (thn hA fun us s1 ⟨vs,H1,I1,r1,q1⟩=>thn (hk pos pins s1 σ H1 _ I1 q1) fun ws s2 ⟨zs,H2,I2,r2,pp,ns,dv,ev,ez,hq,q0,q⟩=>?_)
 subst ev ez
 obtain⟨u,rfl,ru⟩:=r1.one
 cases ru
 obtain⟨v,rfl,t,rfl⟩:=r2.one
 rw[hks]
 show wpAny _ _ (call (.builtin "max") [Value.ref pp] [(Str.ofString "default",Value.int dv t)]) _ _ s2
 have keep:∀ {it:Addr} {obj:Obj} {h':Heap},(∀ b o,b∉[s2.heap.objs.size]→(s2.heap.push obj).get? b=some o→h'.get? b=some o)→∀ b o,s2.heap.get? b=some o→h'.get? b=some o:=fun {it obj h'} hk b o e=>hk b o (fun z=>by
  have:b=s2.heap.objs.size:=by simpa using z
  exact absurd (Heap.lt_size e) (by rw[this];exact Nat.lt_irrefl _)) (Heap.get?_push_of_some _ e)
 have low:∀ {obj:Obj},pp < s2.heap.objs.size→∀ b∈[s2.heap.objs.size,pp],b < (s2.heap.push obj).objs.size:=fun {obj} lp b hb=>by
  rw[Heap.size_push]
  simp only[List.mem_cons,List.not_mem_nil,or_false]at hb
  rcases hb with rfl | rfl
  ·exact Nat.lt_succ_self _
  ·exact Nat.lt_succ_of_lt lp
 have fin0:∀ {h':Heap} {tk:Nat},ns=[]→(∀ b o,s2.heap.get? b=some o→h'.get? b=some o)→EP X pins σ Q (.int dv t) { s2 with heap:=h',toks:=tk }:=fun {h' tk} en hk=>⟨.int dv,H2,I2.kept (t':=tk) hk,⟨t,rfl⟩,q0 en⟩
 have fin:∀ {its:List Value} {v:Value} {h':Heap} {tk:Nat},ap (ns.map V.int) its→0 < its.toArray.size→its.toArray[argBest (fun i j=>decide (ns.getD i 0 > ns.getD j 0)) (its.toArray.size - 1)]?=some v→(∀ b o,s2.heap.get? b=some o→h'.get? b=some o)→EP X pins σ Q v { s2 with heap:=h',toks:=tk }:=fun {its v h' tk} rv z0 hP hk=>by
  obtain⟨t,rfl⟩:=zfo rv _ _ hP
  have hl:=rv.length
  rw[List.length_map]at hl
  have n0:0 < ns.length:=by simp only[List.size_toArray]at z0;omega
  have es:its.toArray.size - 1=ns.length - 1:=by simp only[List.size_toArray];omega
  rw[es]
  obtain⟨b1,b2⟩:=zhV (fun i=>ns.getD i 0) (ns.length - 1)
  exact⟨.int _,H2,I2.kept (t':=tk) hk,⟨t,rfl⟩,q _ (zke (by omega)) fun n hn=>by
   obtain⟨i,hi,e⟩:=zj6 hn
   rw[←e]
   exact b2 i (by omega)⟩
 rcases hq with hq | hq
 ·obtain⟨its,rv,pl,hz⟩:=I2.list hq
  have hl:=rv.length
  rw[List.length_map]at hl
  have lp:pp < s2.heap.objs.size:=by
   obtain⟨o,ho,_⟩:=pl.isList
   exact Heap.lt_size ho
  refine zfU (wpAny_pyIter_list pl.isList ?_)
  exact⟨s2.heap.objs.size,[s2.heap.objs.size,pp],[s2.heap.objs.size],its.toArray.size,_,_,fun i j=>decide (ns.getD i 0 > ns.getD j 0),rfl,Walks.list (show X.A.in1.handled=none from I2.ok.hd hc) _ pp (Nat.ne_of_lt lp) its.toArray,⟨⟨_,Heap.get?_push_size _ rfl,rfl,rfl⟩,pl.isList.push _⟩,low lp,CmpOf.ints_gt (fun i=>ns.getD i 0) (zfo rv),
   fun z h' tk hk=>fin0 (List.length_eq_zero_iff.mp (by simp only[List.size_toArray]at z;omega)) (keep (it:=pp) hk),fun z v h' tk hP hk=>fin rv z hP (keep (it:=pp) hk)⟩
 ·obtain⟨its,rv,pl,hz⟩:=I2.tuple hq
  have hl:=rv.length
  rw[List.length_map]at hl
  have pt:s2.heap.IsTuple pp its.toArray:=pl
  have lp:pp < s2.heap.objs.size:=by
   obtain⟨o,ho,_⟩:=id pt
   exact Heap.lt_size ho
  refine zfU (wpAny_pyIter_tuple pt ?_)
  exact⟨s2.heap.objs.size,[s2.heap.objs.size,pp],[s2.heap.objs.size],its.toArray.size,_,_,fun i j=>decide (ns.getD i 0 > ns.getD j 0),rfl,Walks.tuple (show X.A.in1.handled=none from I2.ok.hd hc) _ pp (Nat.ne_of_lt lp) its.toArray,⟨⟨_,Heap.get?_push_size _ rfl,rfl,rfl⟩,pt.push _⟩,low lp,CmpOf.ints_gt (fun i=>ns.getD i 0) (zfo rv),
   fun z h' tk hk=>fin0 (List.length_eq_zero_iff.mp (by simp only[List.size_toArray]at z;omega)) (keep (it:=pp) hk),fun z v h' tk hP hk=>fin rv z hP (keep (it:=pp) hk)⟩
end
end L2
namespace HT
open PySem PyProof.Rows
section
variable {prog:Program} {w:World} {A:Around} {E:Value→Shared→Prop} {s:Shared}
end
end HT
namespace L2
open PySem PySem.Spec PyProof.Rows
section
variable {X:Cx}
end
end L2
namespace L2
open PySem PySem.Spec PyProof.Rows
section
variable {X:Cx} {tg:Expr}
end
end L2
namespace L2
open PySem PySem.Spec PyProof.Rows
set_option maxRecDepth 100000
section
variable {X:Cx}
end
end L2
namespace L2
open PySem PySem.Spec PyProof.Rows
set_option maxRecDepth 100000
section
variable {X:Cx}
end
end L2
namespace L2
open PySem PySem.Spec PyProof.Rows
section
variable {P:Program} {w:World}
abbrev Sgn:=Str × List Key
def zgF (P:Program) (w:World) (h:Heap) (k:Sgn) (a:Addr):Prop :=
 ∃(o:Obj) (t:Tok) (q:Addr) (n:Nat),h.get? a=some o∧o.cls=.type "tuple"∧o.data=.seq #[.str k.1 t,.ref q] n∧IsTupleKey (zfB P w) h k.2 q
theorem zgF.inj {h:Heap} {a:Addr} {x y:Sgn} (hx:zgF P w h x a) (hy:zgF P w h y a):x=y:=by
 obtain⟨o,t,q,n,ho,_,hd,hi⟩:=hx
 obtain⟨o',t',q',n',ho',_,hd',hi'⟩:=hy
 cases ho.symm.trans ho'
 have e:=hd.symm.trans hd'
 injection e with e _
 have e2:[Value.str x.1 t,.ref q]=[Value.str y.1 t',.ref q']:=congrArg Array.toList e
 injection e2 with e3 e4
 injection e3 with e5 _
 injection e4 with e6 _
 injection e6 with e7
 subst e7
 exact Prod.ext e5 (hi.inj hi')
variable {A:Around} {E:Value→Shared→Prop} {s:Shared}
end
section
variable {prog:Program} {w:World} {K:Type} [DecidableEq K] {knd:HeapKind prog w K} {A:Around} {E:Value→Shared→Prop} {s:Shared}
end
end L2
namespace L2
open PySem PySem.Spec PyProof.Rows
section
variable {X:Cx}
end
end L2
namespace HT
open PySem PySem.Spec PyProof.Rows
section
variable {prog:Program} {w:World} {A:Around} {E:Value→Shared→Prop} {s:Shared}
end
end HT
namespace L2
open PySem PySem.Spec PyProof.Rows
section
variable {X:Cx} {e st:Expr} {te ts:TE} {pos p2:Pos}
end
end L2
namespace L2
open PySem PySem.Spec PyProof.Rows
section
variable {prog:Program} {w:World} {A:Around} {E:Value→Shared→Prop} {s:Shared}
theorem zin {it t:Addr} {i:Nat} {items} {x:Value} {Q:Value→Shared→Prop} (hit:s.heap.IsTupleIter it t i) (ht:s.heap.IsTuple t items) (hx:items[i]?=some x)
  (hQ:∀ h',h'.IsTupleIter it t (i+1)→Heap.SameBut it s.heap h'→Q x { s with heap:=h' }):wpAny (model prog w) A (Builtin.SmallTypes.nextOf (.ref it)) Q E s:=by
 obtain⟨o,ho,hc,hd⟩:=id hit
 obtain⟨ol,hol,_,nl,hdl⟩:=ht
 unfold Builtin.SmallTypes.nextOf
 refine wpAny_bind (wpAny_callSpecial?_slot (name:=Str.ofString "__next__") hit.typeIs F.slot_tuple_iterator_next (wpAny_call_entry F.slot_tuple_iterator_next hit.typeIs F.entry_tuple_iterator_next ?_ (F.args_tuple_iterator_next_1 _)))
 show wpAny _ _ (field (.ref it) 0 >>= _) _ _ s
 refine wpAny_bind (wpAny_field ho hd (x:=.ref t) rfl ?_)
 show wpAny _ _ (if(Value.ref t == Value.none)=true then _ else _) _ _ s
 rw[if_neg (show ¬((Value.ref t == Value.none)=true) from Bool.false_ne_true)]
 show wpAny _ _ (field (.ref it) 1 >>= _) _ _ s
 refine wpAny_bind (wpAny_field ho hd (x:=.int i 0) rfl ?_)
 show wpAny _ _ (seqItems? (.ref t) >>= _) _ _ s
 refine wpAny_bind (wpAny_seqItems hol hdl ?_)
 simp only[Int.toNat_natCast,hx]
 refine wpAny_bind (wpAny_setField ho hd (by simp) (wpAny_pure ⟨x,rfl,wpAny_pure (hQ _ ?_ (Heap.SameBut.update ..))⟩))
 exact⟨_,Heap.get?_update_self _ ho (Obj.isFreed_of_fields (Obj.data_mapFields hd _)),(Obj.cls_mapFields ..).trans hc,by
  rw[Obj.data_mapFields hd];simp [rawInt]⟩
theorem zdA {it t:Addr} {i:Nat} {items} {Q:Value→Shared→Prop} (hh:A.handled=none) (hit:s.heap.IsTupleIter it t i) (ht:s.heap.IsTuple t items) (hx:items[i]?=none)
  (hE:∀ h' e,Heap.ExtBut it s.heap h'→(∃ o,h'.get? e=some o∧o.cls=.type "StopIteration")→E (.ref e) { s with heap:=h' }):wpAny (model prog w) A (Builtin.SmallTypes.nextOf (.ref it)) Q E s:=by
 obtain⟨o,ho,hc,hd⟩:=id hit
 obtain⟨ol,hol,_,nl,hdl⟩:=ht
 unfold Builtin.SmallTypes.nextOf
 refine wpAny_bind (wpAny_callSpecial?_slot (name:=Str.ofString "__next__") hit.typeIs F.slot_tuple_iterator_next (wpAny_call_entry F.slot_tuple_iterator_next hit.typeIs F.entry_tuple_iterator_next ?_ (F.args_tuple_iterator_next_1 _)))
 show wpAny _ _ (field (.ref it) 0 >>= _) _ _ s
 refine wpAny_bind (wpAny_field ho hd (x:=.ref t) rfl ?_)
 show wpAny _ _ (if(Value.ref t == Value.none)=true then _ else _) _ _ s
 rw[if_neg (show ¬((Value.ref t == Value.none)=true) from Bool.false_ne_true)]
 show wpAny _ _ (field (.ref it) 1 >>= _) _ _ s
 refine wpAny_bind (wpAny_field ho hd (x:=.int i 0) rfl ?_)
 show wpAny _ _ (seqItems? (.ref t) >>= _) _ _ s
 refine wpAny_bind (wpAny_seqItems hol hdl ?_)
 simp only[Int.toNat_natCast,hx]
 refine wpAny_bind (wpAny_rule (wpAny_bind (wpAny_setField ho hd (by simp) ?_)))
 show wpAny _ _ (newExc (.type "StopIteration") [] >>= _) _ _ _
 refine wpAny_bind ?_
 simp only[newExc,newTuple]
 refine wpAny_bind (wpAny_newObj_type ?_ (by size_fits))
 refine wpAny_bind (m:=firstArgMember _ _) (wpAny_of_eq (a:=Value.none) (by first | rfl | (simp only[firstArgMember];rfl)) ?_)
 refine wpAny_newObj_type ?_ (by size_fits)
 simp only[raiseNew]
 refine wpAny_bind (wpAny_handled ?_)
 first | rw[show A.in1.handled=none from hh] | rw[hh]
 refine wpAny_bind (wpAny_pure (wpAny_throw ?_))
 exact hE _ _ (((Heap.SameBut.update ..).extBut.push _).push _) ⟨_,Heap.get?_push_size _ rfl,rfl⟩
def TuI (h:Heap) (it t:Addr) (i:Nat) (xs:Array Value):Prop:=h.IsTupleIter it t i∧h.IsTuple t xs
theorem TuI.ext {h h':Heap} {it t b:Addr} {i:Nat} {xs:Array Value} (x:TuI h it t i xs) (hs:Heap.ExtBut b h h') (h1:it≠b) (h2:t≠b):TuI h' it t i xs:=⟨x.1.extBut hs h1,x.2.extBut hs h2⟩
end
section
variable {prog:Program} {w:World} {A:Around} {E:Value→Shared→Prop} {s:Shared}
end
end L2
namespace L2
open PySem PySem.Spec PyProof.Rows
section
variable {X:Cx}
end
end L2
namespace L2
open PySem PySem.Spec PyProof.Rows
section
variable {X:Cx}
end
end L2
namespace L2
open PySem PySem.Spec PyProof.Rows
section
variable {prog:Program} {w:World} {A:Around} {E:Value→Shared→Prop} {s:Shared}
end
end L2
namespace L2
open PySem PySem.Spec PyProof.Rows
end L2
namespace L2
open PySem PySem.Spec PyProof.Rows
section
variable {prog:Program} {w:World} {A:Around} {E:Value→Shared→Prop} {s:Shared}
end
end L2
namespace L2
open PySem PySem.Spec PyProof.Rows
section
variable {X:Cx}
theorem zck {n:Int} (h:n.natAbs < 1000000000):((toString n:String):Str).length≤10:=by
 have e:=int_text_length_le10 (a:=n) (k:=9) (by decide) h
 show(Str.ofString (toString n)).length≤10
 rw[PySem.ofString_length]
 exact e
theorem zg3 {n:Int} (h:n.natAbs < 1000000000):n.natAbs.log2 < 1920:=by
 by_cases h0:n.natAbs=0
 ·rw[h0];decide
 ·exact Nat.lt_of_lt_of_le ((Nat.log2_lt h0 (k:=30)).mpr (Nat.lt_of_lt_of_le h (by decide))) (by decide)
end
end L2
namespace L2
open PySem PySem.Spec PyProof.Rows
section
variable {P:Program} {w:World} {H H':Hp} {h h' B:Heap} {a:Addr} {o:HO}
theorem zba.there (x:zba P w H h a o):∃ ob,h.get? a=some ob:=by
 cases o with
 | lst xs=>obtain⟨_,_,_,_,q⟩:=x;exact⟨_,q⟩
 | tup xs=>obtain⟨_,_,_,ob,q,_⟩:=x;exact⟨_,q⟩
 | dK kvs=>obtain⟨_,_,_,_,o,_,_,q,_⟩:=x;exact⟨_,q⟩
 | dT kvs=>obtain⟨_,_,_,_,o,_,_,q,_⟩:=x;exact⟨_,q⟩
 | set S n=>obtain⟨o,_,_,_,q,_⟩:=x;exact⟨_,q⟩
 | ins C dx fs=>obtain⟨_,_,_,q,_⟩:=x;exact⟨_,q⟩
 | own y=>exact x
 | xd fs=>obtain⟨_,⟨_,_,_,q,_⟩,_⟩:=x;exact⟨_,q⟩
 | rng lo hi=>obtain⟨_,_,_,q⟩:=x;exact⟨_,q⟩
 | frz ob u=>exact⟨_,x.1⟩
 | tbl ps=>exact⟨_,(show h.get? a=some _ from x)⟩
 | met f y=>exact⟨_,(show h.get? a=some _ from x)⟩
 | ext φ=>exact x.2.1
def Trk (H:Hp) (h B:Heap):Prop:=∀ b ob,H b≠none→h.get? b=some ob→B.get? b=some ob
def Old (fs:List Addr) (H:Hp) (h B:Heap):Prop:=∀ b ob,h.get? b=some ob→b∉fs→∃ ob',B.get? b=some ob'∧(H b=none→ob'=ob)
theorem HOk.stays (ok:HOk P w H h) (t:Trk H h B) (k:B.StaysIn h'):HOk P w H h':=fun a o e =>
 (ok a o e).stay (fun b u hb q=>k b u (t b u (hb.elim (fun z=>by rw[z,e];exact nofun) fun z=>by rw[z];exact nofun) q)) (fun _ q=>q) fun _ _ q=>q
theorem Trk.stays (ok:HOk P w H h) (t:Trk H h B) (k:B.StaysIn h'):Trk H h' B:=fun b ob hb e=>by
 cases q:H b with
 | none=>exact absurd q hb
 | some u =>
  obtain⟨ob1,e1⟩:=(ok b u q).there
  have z:=t b ob1 hb e1
  have z2:=k b ob1 z
  rw[e]at z2
  cases z2
  exact z
end
def CX1 (P:Program) (w:World):CXT:=fun outer H s E e s'=>∃(ea C:Addr) (H':Hp) (B:Heap) (a0:Value),e=.ref ea∧s'.os=s.os∧AllBare s'.gens∧Un (frs outer) [] H H' s.heap s'.heap∧HOk P w H' s'.heap ∧
 Heap.FlyingW B outer ea (.ref C) a0 s'.heap∧Trk H' s'.heap B∧Old (frs outer) H s.heap B∧E (.ref C) none H'
structure Xe1 (X:Cx) (E:XK):Prop where
 xe:X.xe=fun e s'=>wpAny (model X.prog X.w) X.A (leaving X.env e) (fun _ s''=>CX1 X.prog X.w X.outer X.H₀ X.s₀ E e s'') (fun e' s''=>CX1 X.prog X.w X.outer X.H₀ X.s₀ E e' s'') s'
 stk:X.stack=X.env :: X.outer
 fr:X.env.frame=some X.env.locals
 ex:X.ex=[]
section
variable {X:Cx} {E:XK} {pins:List (Addr × Obj)} {σ:St} {H H':Hp} {s s':Shared} {B:Heap} {ea C:Addr} {a0:Value}
theorem zhR (hx:Xe1 X E) (I:Inv X pins σ H s) {s'':Shared} (os:s''.os=s.os) (bare:AllBare s''.gens) (u:Un (frs X.stack) [] H H' s.heap s'.heap) (ok:HOk X.prog X.w H' s'.heap)
  (fl:Heap.FlyingW B X.outer ea (.ref C) a0 s''.heap) (sm:s'.heap.UpToSlots s''.heap) (trk:Trk H' s'.heap B) (old:Old (frs X.stack) H s.heap B) (hE:E (.ref C) none H') :
  CX1 X.prog X.w X.outer X.H₀ X.s₀ E (.ref ea) s'':=by
 have hfs:frs X.stack=X.env.locals :: X.fs:=by
  rw[hx.stk]
  unfold frs
  rw[List.filterMap_cons,hx.fr]
  rfl
 have nx:∀ b,b∉X.ex:=fun b hb=>by rw[hx.ex]at hb;cases hb
 have nf:∀ b ob,X.s₀.heap.get? b=some ob→b∉X.fs→b∉frs X.stack:=fun b ob e hb z=>by
  rw[hfs]at z
  rcases List.mem_cons.mp z with z | z
  ·exact absurd (Nat.lt_of_lt_of_le (Heap.lt_size e) I.ok.above) (by rw[z];exact Nat.lt_irrefl _)
  ·exact hb z
 have st:B.StaysIn s''.heap:=fl.1
 have U:=I.base
 have old':Old X.fs X.H₀ X.s₀.heap B:=fun b ob e hb=>by
  obtain⟨o1,e1⟩:=U.there b ob e (nx b)
  obtain⟨o',eB,hB⟩:=old b o1 e1 (nf b ob e hb)
  refine⟨o',eB,fun n=>?_⟩
  have k:=U.keep b ob e n hb (nx b)
  rw[e1]at k
  cases k
  exact hB (U.free b ob e n (nx b))
 have slot:∀ b ob,X.s₀.heap.get? b=some ob→X.H₀ b=none→b∈X.fs→∃ sl,s''.heap.get? b=some { ob with slots:=sl }:=fun b ob e n hb=>by
  obtain⟨sl,k⟩:=U.slot b ob e n hb (nx b)
  obtain⟨sl2,k2⟩:=u.any k (U.free b ob e n (nx b)) (by simp)
  obtain⟨_,o3,e3,hd⟩:=I.ok.funs.mem hb
  rw[e]at e3
  cases e3
  obtain⟨sl3,k3⟩:=sm b _ k2 fun vs q=>hd vs q
  exact⟨sl3,k3⟩
 refine⟨ea,C,H',B,a0,rfl,os.trans I.os,bare,⟨fun b ob e n hb _=>?_,fun b ob e n hb _=>slot b ob e n hb,fun b ob e n _=>?_,fun b ob e _=>?_,fun b xs q=>u.tups b xs (U.tups b xs q),fun b ob xs q=>u.frzs b ob xs (U.frzs b ob xs q),fun b ps q=>?_⟩,
  ok.stays trk st,fl,Trk.stays ok trk st,old',hE⟩
 ·obtain⟨o',eB,hB⟩:=old' b ob e hb
  rw[hB n]at eB
  exact st b ob eB
 ·obtain⟨o1,e1⟩:=U.there b ob e (nx b)
  exact u.free b o1 e1 (U.free b ob e n (nx b)) (by simp)
 ·by_cases hb:b∈X.fs
  ·obtain⟨sl,k⟩:=slot b ob e (I.ok.frf b hb) hb
   exact⟨_,k⟩
  ·obtain⟨o',eB,_⟩:=old' b ob e hb
   exact⟨o',st b o' eB⟩
 ·obtain⟨m1,e1⟩:=U.tbls b ps q
  obtain⟨m2,e2⟩:=u.tbls b _ e1
  exact⟨m1++m2,by rw[e2,Array.append_assoc]⟩
theorem zax (hx:Xe1 X E):zbu (CX1 X.prog X.w) X E:=by
 intro pins σ H s e s' I h
 obtain⟨ea,C,H',B,a0,rfl,os,bare,u,ok,fl,trk,old,hE⟩:=h
 rw[hx.xe]
 have fl2:=fl
 rw[hx.stk]at fl2
 have hfr:X.A.frames=some (X.env :: X.outer):=by rw[I.ok.frames,hx.stk]
 exact wpAny_leaves_onW hfr hx.fr fl2 fun h' fl' sm=>zhR hx I os bare u ok fl' sm trk old hE
theorem zkk {h':Heap} {vs:List Value} (hx:Xe1 X E) (I:Inv X pins σ H s) (m:Heap.MadeExcOf s.heap h' ea (.ref C) vs) (hE:E (.ref C) none H):X.xe (.ref ea) { s with heap:=h' }:=by
 rw[hx.xe]
 have hl:s.heap.FunFrames (W.hideAll s.heap (frs X.stack)) X.stack:=W.funFrames_hide I.stack fun env he a ha=>List.mem_filterMap.mpr ⟨env,he,ha⟩
 have hl2:s.heap.FunFrames (W.hideAll s.heap (frs X.stack)) (X.env :: X.outer):=by
  have z:=hl
  rw[show X.stack=X.env :: X.outer from hx.stk]at z ⊢
  exact z
 have hfr:X.A.frames=some (X.env :: X.outer):=by rw[I.ok.frames,hx.stk]
 refine wpAny_leaves_madeW (base:=W.hideAll s.heap (frs X.stack)) (h:=s.heap) hfr hx.fr (fun b ob q=>W.of_hideAll _ q) hl2 m fun h'' t fl _ _ sm=>?_
 refine zhR (s':={ s with heap:=h' }) hx I rfl I.bare (Un.kept m.keeps) (I.hok.kept m.keeps) fl sm (fun b ob hb q=>?_) (fun b ob q hb=>⟨ob,W.hideAll_get _ q hb,fun _=>rfl⟩) hE
 cases z:H b with
 | none=>exact absurd z hb
 | some v =>
  obtain⟨o1,e1⟩:=(I.hok b v z).there
  have e2:=m.keeps b o1 e1
  have q':h'.get? b=some ob:=q
  rw[q']at e2
  cases e2
  exact W.hideAll_get _ e1 fun y=>hb (I.stkFree b y)
theorem own_at {K:W.Frag} {hp:Heap} {bmB:List Value} {newId:String} (XI:K.In hp) (q:W.excIn K C bmB newId=true) :
  ∃ bm N nm qn bs hdct sn sub ab col dd k0 k1 k2 k3 k5 mN,hp.get? C=some (excClassObj nm qn C N bs bm hdct sn sub ab col dd k0 k1 k2 k3 k5 newId)∧hp.Ns N mN∧mN "__init__"=none∧OwnTail hp bmB bm:=by
 unfold W.excIn at q
 split at q
 ·rename_i d1 c1 l1 hC1
  split at q
  ·rename_i C2 bm2 y0 y1 y2 y3 n2 y5 hm2 hs2
   simp only[Bool.and_eq_true,beq_iff_eq,Bool.not_eq_true']at q
   obtain⟨⟨⟨⟨⟨rfl,rfl⟩,hdl⟩,htl⟩,hno⟩,hin⟩:=q
   obtain⟨nm,bs,mro,ns,qn,hd,sn,sub,ab,col,del⟩:=c1
   dsimp only at hm2 hdl hno hin
   subst hm2 hdl
   have hsl:l1=#[y0,y1,y2,y3,some (.builtin n2),y5]:=by
    obtain⟨l⟩:=l1
    simp only at hs2
    rw[hs2]
   subst hsl
   exact⟨bm2,ns,nm,qn,bs,hd,sn,sub,ab,col,d1,y0,y1,y2,y3,y5,_,XI _ _ hC1,.of_isNs (W.isNs_of_in XI hno),W.nsMap_none_of_in XI hno hin,W.tail_of_in XI htl⟩
  ·cases q
 ·cases q
variable {e0:Expr} {zaH:List Expr} {t:TA} {x:Str} {np cpos pos:Pos} {Bn newId initId:String} {bm:List Value}
def zdR (E:XK) (C:Addr) (t:TA):TS:=fun _ σ H=>t σ H fun vs H1=>vs.length≤sizeLine∧E (.ref C) none H1
theorem zaP (hx:Xe1 X E) (hc:X.calm=true) (hg:Gl X x) (hm:X.mg x=some (.ref C)) (F:ExcBaseFacts Bn newId initId bm) (q:W.excIn X.K C bm newId=true) (ha:PA X (e0 :: zaH) t)
  (hdb:(x == ("__debug__":Str))=false:=by decide) (hse:starEach (e0 :: zaH) X.env=(false,eval e0 X.env) :: starEach zaH X.env:=by rfl) (hpl:(backTo cpos (starEach zaH X.env)).any (·.1)=false:=by rfl) :
  PS X (.Raise (some (.Call (.Name x np) (e0 :: zaH) [] cpos)) none pos) (zdR E C t):=by
 intro pins s σ H D I h
 obtain⟨tl,N,nm,qn,bs,hdct,sn,sub,ab,col,dd,k0,k1,k2,k3,k5,mN,hC,hN,hni,T⟩:=own_at (C:=C) I.mod.kin q
 refine wpAny_Raise_call_subT (C:=C) (nm:=nm) (q:=qn) (N:=N) (bs:=bs) (bm:=tl) (hdct:=hdct) (sn:=sn) (sub:=sub) (ab:=ab) (col:=col) (dd:=dd) (k0:=k0) (k1:=k1) (k2:=k2) (k3:=k3) (k5:=k5) F (mN:=mN)
  (T.hasType F.hasBase) (I.ok.hd hc) (by rw[hse];show(false||(backTo cpos (starEach zaH X.env)).any (·.1))=false;rw[hpl];rfl) hni (zcK I hg hm ⟨rfl,?_⟩ hdb)
 have g:=ha cpos pins s σ H _ I h
 rw[hse]at g ⊢
 refine Calls.evalArgs_plain (wpAny_mono g (fun vs s2 ⟨ws,H2,I2,r2,hz,hE⟩=>?_) fun _ _ y=>y)
 exact⟨rfl,by rw[←r2.length];exact hz,I2.bk _ _ hC,hN.keeps I2.bk,T.keeps I2.bk,fun h' ea m=>zkk hx I2 m hE⟩
end
end L2
namespace L2
open PySem PySem.Spec PyProof.Rows
abbrev Cx.susp (X:Cx) (ea:Addr):Cx:={ X with A:=X.A.mark (some (.ref ea)),calm:=false,xe:=fun _ _=>False }
abbrev Cx.tryc (X:Cx) (pins:List (Addr × Obj)) (E1:Value→Shared→Prop):Cx:={ X with pn:=X.pn++pins,xe:=E1 }
section
variable {X:Cx} {pins:List (Addr × Obj)} {σ:St} {H H':Hp} {s s':Shared} {B:Heap} {ea C:Addr} {a0:Value} {D:zaU} {f:Flow} {E1:Value→Shared→Prop}
theorem Inv.susp (I:Inv X pins σ H s) (ea:Addr):Inv (X.susp ea) pins σ H s :=
 ⟨⟨I.ok.mod,I.ok.kind,I.ok.glob,I.ok.blt,I.ok.above,I.ok.inj,I.ok.has,I.ok.cab,fun z=>(by cases z),I.ok.frames,I.ok.stk,I.ok.exf,I.ok.bs,I.ok.bsz,I.ok.noex,I.ok.exfs,I.ok.funs,I.ok.frf⟩,I.os,I.bare,I.base,I.loc,I.cell,I.free,I.freeC,I.pin,I.hok,I.len,I.ext⟩
theorem Inv.unsusp (ok:X.Ok) (I:Inv (X.susp ea) pins σ H s):Inv X pins σ H s:=⟨ok,I.os,I.bare,I.base,I.loc,I.cell,I.free,I.freeC,I.pin,I.hok,I.len,I.ext⟩
theorem Inv.tryc (I:Inv X pins σ H s) (E1:Value→Shared→Prop):Inv (X.tryc pins E1) [] σ H s :=
 ⟨⟨I.ok.mod,I.ok.kind,I.ok.glob,I.ok.blt,I.ok.above,I.ok.inj,I.ok.has,I.ok.cab,I.ok.hd,I.ok.frames,I.ok.stk,I.ok.exf,I.ok.bs,I.ok.bsz,I.ok.noex,I.ok.exfs,I.ok.funs,I.ok.frf⟩,I.os,I.bare,I.base,I.loc,I.cell,I.free,I.freeC,
  fun p hp=>I.pin p (by simpa using hp),I.hok,I.len,I.ext⟩
theorem Inv.untryc {pins1:List (Addr × Obj)} (ok:X.Ok) (I:Inv (X.tryc pins E1) pins1 σ H s):Inv X pins σ H s :=
 ⟨ok,I.os,I.bare,I.base,I.loc,I.cell,I.free,I.freeC,fun p hp=>I.pin p (List.mem_append_left _ hp),I.hok,I.len,I.ext⟩
theorem SP.untryc {pins1:List (Addr × Obj)} (ok:X.Ok) (h:SP (X.tryc pins E1) pins1 D f s):SP X pins D f s:=by
 cases f with
 | next=>obtain⟨a,b,I,q⟩:=h;exact⟨a,b,I.untryc ok,q⟩
 | brk=>obtain⟨a,b,I,q⟩:=h;exact⟨a,b,I.untryc ok,q⟩
 | cont=>obtain⟨a,b,I,q⟩:=h;exact⟨a,b,I.untryc ok,q⟩
 | ret u=>obtain⟨v,a,b,I,r,q⟩:=h;exact⟨v,a,b,I.untryc ok,r,q⟩
structure zey (X:Cx) (pins:List (Addr × Obj)) (σ:St) (H:Hp) (s:Shared) (H':Hp) (B:Heap) (s':Shared):Prop where
 I:Inv X pins σ H s
 os:s'.os=s.os
 bare:AllBare s'.gens
 u:Un (frs X.stack) [] H H' s.heap s'.heap
 ok:HOk X.prog X.w H' s'.heap
 trk:Trk H' s'.heap B
 old:Old (frs X.stack) H s.heap B
theorem zey.inv (c:zey X pins σ H s H' B s') {h':Heap} (st:B.StaysIn h') (sm:s'.heap.UpToSlots h'):Inv X pins σ H' { s' with heap:=h' }:=by
 have slot:∀ b ob,s.heap.get? b=some ob→H b=none→b∈frs X.stack→∃ sl,h'.get? b=some { ob with slots:=sl }:=fun b ob e n hb=>by
  obtain⟨sl,k⟩:=c.u.slot b ob e n hb (by simp)
  obtain⟨_,o3,e3,hd⟩:=c.I.stack.mem hb
  rw[e]at e3
  cases e3
  obtain⟨sl3,k3⟩:=sm b _ k fun vs q=>hd vs q
  exact⟨sl3,k3⟩
 refine c.I.call' (s':={ s' with heap:=h' }) (ch:=[]) c.os ⟨fun b ob e n hb _=>?_,fun b ob e n hb _=>slot b ob e n hb,fun b ob e n _=>c.u.free b ob e n (by simp),fun b ob e _=>?_,c.u.tups,c.u.frzs,c.u.tbls⟩ (c.ok.stays c.trk st) c.bare (fun b hb=>by cases hb)
 ·obtain⟨o',eB,hB⟩:=c.old b ob e hb
  rw[hB n]at eB
  exact st b ob eB
 ·by_cases hb:b∈frs X.stack
  ·obtain⟨sl,k⟩:=slot b ob e (c.I.stkFree b hb) hb
   exact⟨_,k⟩
  ·obtain⟨o',eB,_⟩:=c.old b ob e hb
   exact⟨o',st b o' eB⟩
def PH (X:Cx) (hs:List ExceptHandler) (th:Addr→TS):Prop :=
 ∀(pins:List (Addr × Obj)) (σ:St) (H:Hp) (s:Shared) (H':Hp) (B:Heap) (s':Shared) (D:zaU) (ea C:Addr) (a0:Value) (h':Heap),zey X pins σ H s H' B s'→Heap.FlyingW B X.stack ea (.ref C) a0 h'→s'.heap.UpToSlots h'→th C D σ H' →
  wpAny (model X.prog X.w) X.A (handleBy (.ref ea) X.env hs) (SP X pins D) X.xe { s' with heap:=h' }
theorem zjW {hs:List ExceptHandler}:PH X hs (fun _=>tNever):=fun _ _ _ _ _ _ _ _ _ _ _ _ _ _ _ z=>z.elim
def tTry (n:Nat) (tb:XK→TS) (th:Addr→TS):TS:=fun D σ H=>tb (fun c _ H'=>∃ C,c=.ref C∧∀ σ1:St,σ1.length=n→th C D σ1 H') D σ H
theorem ps_try {body:List Stmt} {h0:ExceptHandler} {hs:List ExceptHandler} {pos:Pos} {tb:XK→TS} {th:Addr→TS} (hst:X.stack=X.env :: X.outer) (hfr:X.env.frame=some X.env.locals)
  (hb:∀(pins:List (Addr × Obj)) (E1:Value→Shared→Prop) (Eb:XK),zbu (CX1 X.prog X.w) (X.tryc pins E1) Eb→PSs (X.tryc pins E1) body (tb Eb)) (hh:PH X (h0 :: hs) th) :
  PS X (.Try body (h0 :: hs) [] [] pos) (tTry X.N.length tb th):=by
 intro pins s σ H D I h
 refine wpAny_Try_except ?_
 have hp:zbu (CX1 X.prog X.w) (X.tryc pins (fun e s1=>wpAny (model X.prog X.w) X.A (noteFrame e X.env) (fun _ s2=>wpAny (model X.prog X.w) X.A (setFlight e none) (fun _ s3=>wpAny (model X.prog X.w) X.A (handleBy e X.env (h0 :: hs)) (SP X pins D) X.xe s3) X.xe s2) X.xe s1))
   (fun c _ H'=>∃ C,c=.ref C∧∀ σ1:St,σ1.length=X.N.length→th C D σ1 H'):=by
  intro pins1 σ1 H1 s1 e s' I1 hcx
  obtain⟨ea,C,H',B,a0,rfl,os,bare,u,ok,fl,trk,old,C',ec,hE⟩:=hcx
  cases ec
  have c:zey X pins σ1 H1 s1 H' B s':=⟨I1.untryc I.ok,os,bare,u,ok,trk,old⟩
  have fl':Heap.FlyingW B (X.env :: X.outer) ea (.ref C) a0 s'.heap:=by
   have z:=fl
   rw[show(X.tryc pins _).stack=X.env :: X.outer from hst]at z
   exact z
  have hfs:X.A.frames=some (X.env :: X.outer):=by rw[I.ok.frames,hst]
  refine wpAny_looks_onW hfs hfr fl' fun h2 fl2 sm2=>?_
  refine wpAny_landsW fl2 fun h3 fl3 sm3=>?_
  rw[←hst]at fl3
  exact hh pins σ1 H1 s1 H' B s' D ea C a0 h3 c fl3 (sm2.trans sm3) (hE σ1 I1.len)
 refine wpAny_mono (hb pins _ _ hp [] s σ H D (I.tryc _) h) (fun f s1 q=>?_) fun e s1 q=>q
 have q':SP X pins D f s1:=q.untryc I.ok
 cases f with
 | next=>exact wpAny_execs_nil q'
 | brk=>exact q'
 | cont=>exact q'
 | ret u=>exact q'
end
end L2
namespace L2
open PySem PySem.Spec PyProof.Rows
def zbj (ea C:Addr) (h:Heap):Prop:=∃ oe,h.get? ea=some oe∧oe.cls=.ref C
section
variable {X:Cx} {pins:List (Addr × Obj)} {σ:St} {H H':Hp} {s s':Shared} {B:Heap} {ea C:Addr} {a0:Value} {D:zaU} {f:Flow}
theorem Inv.adopt (I:Inv X pins σ H s) (hx:zbj ea C s.heap) (n0:X.s₀.heap.get? ea=none) (nL:ea≠X.env.locals) (nC:∀ x c,X.env.cells.lookup x=some c→c≠ea) (nP:∀ p∈X.pn++pins,p.1≠ea) (hH:H ea=none) :
  Inv X pins σ (upd H ea (.ext (zbj ea C))) s:=by
 have up:∀ b u,H b=some u→upd H ea (.ext (zbj ea C)) b=some u:=fun b u e=>by rw[zag (zaF e hH)];exact e
 have un:∀ b,b≠ea→H b=none→upd H ea (.ext (zbj ea C)) b=none:=fun b hb e=>by rw[zag hb];exact e
 have U:=I.base
 refine⟨I.ok,I.os,I.bare,⟨U.keep,U.slot,fun b ob e n hb=>un b (fun z=>by rw[z,n0]at e;cases e) (U.free b ob e n hb),U.there,fun b xs q=>up _ _ (U.tups b xs q),fun b ob xs q=>up _ _ (U.frzs b ob xs q),fun b ps q=>?_⟩,I.loc,I.cell,un _ (Ne.symm nL) I.free,
  fun x c e=>un _ (nC x c e) (I.freeC x c e),fun p hp=>?_,fun b u e=>?_,I.len,I.ext⟩
 ·obtain⟨m,e⟩:=U.tbls b ps q
  exact⟨m,up _ _ e⟩
 ·obtain⟨e,n,a,b,c⟩:=I.pin p hp
  exact⟨e,un _ (nP p hp) n,a,b,c⟩
 ·by_cases hb:b=ea
  ·subst hb
   rw[zaa]at e
   cases e
   obtain⟨oe,e1,e2⟩:=hx
   refine⟨⟨oe,e1,e2⟩,⟨oe,e1⟩,fun h1 h2 p k=>?_⟩
   obtain⟨o2,q1,q2⟩:=p
   exact⟨o2,k o2 q1,q2⟩
  ·rw[zag hb]at e
   exact(I.hok b u e).stay (fun _ _ _ q=>q) (fun c q=>up c _ q) fun c xs q=>up c _ q
theorem Inv.forget {h':Heap} {m':Str→Option Value} {t':Nat} (hxe:X.ext=[]) (I:Inv X pins σ H s) (hn:h'.Ns X.env.locals m') (hs:Heap.SameBut X.env.locals s.heap h'):Inv X pins (List.replicate X.N.length none) H { s with heap:=h',toks:=t' }:=by
 have neL:∀ b o,X.s₀.heap.get? b=some o→b≠X.env.locals:=fun b o e=>Nat.ne_of_lt (Nat.lt_of_lt_of_le (Heap.lt_size e) I.ok.above)
 have U:=I.base
 refine⟨I.ok,I.os,I.bare,⟨fun b ob e n hb hx=>(hs.2 b (neL b ob e)).trans (U.keep b ob e n hb hx),fun b ob e n hb hx=>?_,U.free,fun b ob e hx=>?_,U.tups,U.frzs,U.tbls⟩,⟨m',hn,fun i x v _ e2 _=>?_⟩,fun x c e=>?_,I.free,I.freeC,fun p hp=>?_,fun b u e=>?_,by simp,⟨m',hn,by rw[hxe];exact zdy⟩⟩
 ·obtain⟨sl,q⟩:=U.slot b ob e n hb hx
  exact⟨sl,(hs.2 b (neL b ob e)).trans q⟩
 ·obtain⟨o',q⟩:=U.there b ob e hx
  exact⟨o',(hs.2 b (neL b ob e)).trans q⟩
 ·rw[List.getElem?_replicate]at e2
  split at e2 <;> cases e2
 ·obtain⟨v,o,ho,hd⟩:=I.cell x c e
  exact⟨v,o,(hs.2 c (I.cne x c e)).trans ho,hd⟩
 ·obtain⟨e,n,a,b,c⟩:=I.pin p hp
  exact⟨(hs.2 p.1 a).trans e,n,a,b,c⟩
 ·refine(I.hok b u e).stay (fun c w' hc q=>(hs.2 c ?_).trans q) (fun _ q=>q) fun _ _ q=>q
  rintro rfl
  rcases hc with z | z
  ·rw[←z,I.free]at e;cases e
  ·rw[I.free]at z;cases z
theorem zey.apart (c:zey X pins σ H s H' B s') {h':Heap} (fl:Heap.FlyingW B X.stack ea (.ref C) a0 h'):s.heap.get? ea=none:=by
 cases q:s.heap.get? ea with
 | none=>rfl
 | some ob =>
  by_cases hb:ea∈frs X.stack
  ·obtain⟨_,_,ff,oe,vs,_,_,_,he,_,hd,_⟩:=fl
   obtain⟨_,o,ho,hnf⟩:=ff.mem hb
   rw[he]at ho
   cases ho
   exact absurd hd (hnf vs)
  ·obtain⟨o',eB,_⟩:=c.old ea ob q hb
   rw[fl.2.1]at eB
   cases eB
def tExcAs (K:W.Frag) (C1:Addr) (i nN:Nat) (ts:TS) (th:Addr→TS):Addr→TS:=fun C D σ H=>∃ b,W.exmOne K (.ref C) (.ref C1)=some b ∧
 if b=true then ∀ ea,H ea=none→ts { nx:=fun _ H1=>D.nx (List.replicate nN none) H1,rt:=D.rt,bk:=fun _ H1=>D.bk (List.replicate nN none) H1,ct:=fun _ H1=>D.ct (List.replicate nN none) H1 } (σ.set i (some (.ref ea))) (upd H ea (.ext (zbj ea C))) else th C D σ H
theorem ph_as {x n:Str} {np pos:Pos} {b0:Stmt} {suite:List Stmt} {zaH:List ExceptHandler} {C1:Addr} {i:Nat} {ts:TS} {th:Addr→TS} (hg:Gl X x) (hm:X.mg x=some (.ref C1)) (hN:X.N.Nodup) (hi:X.N[i]?=some n)
  (hl:X.env.scope.names.lookup n=some .local) (hex:X.ex=[]) (hs:∀ ea,PSs (X.susp ea) (b0 :: suite) ts) (hr:PH X zaH th) (hdb:(x == ("__debug__":Str))=false:=by decide) (hxe:X.ext=[]:=by rfl) :
  PH X (.ExceptHandler (some (.Name x np)) (some n) (b0 :: suite) pos :: zaH) (tExcAs X.K C1 i X.N.length ts th):=by
 intro pins σ H s H' B s' D ea C a0 h' c fl sm h
 obtain⟨b,hb,h⟩:=h
 have I:=c.inv fl.1 sm
 have I':=I.susp ea
 obtain⟨oe,he,hcl⟩:=fl.there
 have LT:W.Looks (model X.prog X.w) h' (typeOf (.ref ea)) (.ref C):=hcl ▸ (W.Looks.ld he).andThen .now
 refine wpAny_handleBy_cons (codeAny_handlers_test (zcK (X:=X.susp ea) I' hg hm ?_ hdb)) (by intro q;cases q)
 refine W.exm_one (M:=model X.prog X.w) (K:=X.K) (h:=h') I.kIn LT hb _ _ _ _ (fun _ _ q=>q) ?_
 cases b with
 | false=>exact hr pins σ H s H' B s' D ea C a0 h' c fl sm h
 | true =>
  have hp:(X.env.scope.kind == .class||(X.env.scope.kind == .module&&X.env.locals != X.env.globals))=false:=by rw[I.ok.kind];rfl
  refine codeAny_handlers_suite_as (lands_againW fl fun h2 fl2 sm2=>?_)
  have I2:=c.inv fl2.1 (sm.trans sm2)
  have q0:=c.apart fl2
  obtain⟨oe2,he2,hcl2⟩:=fl2.there
  have nB:B.get? ea=none:=fl2.2.1
  have hH:H' ea=none:=by
   cases q:H' ea with
   | none=>rfl
   | some u =>
    have z:=Trk.stays c.ok c.trk fl2.1 ea oe2 (by rw[q];exact nofun) he2
    rw[nB]at z
    cases z
  have J:=I2.adopt (ea:=ea) (C:=C) ⟨oe2,he2,hcl2⟩ (by
   cases q:X.s₀.heap.get? ea with
   | none=>rfl
   | some o =>
    by_cases hx:ea∈X.ex
    ·rw[hex]at hx
     cases hx
    ·obtain⟨o',e'⟩:=c.I.base.there ea o q hx
     rw[q0]at e'
     cases e') (by
   rintro rfl
   obtain⟨m,⟨o,_,_,ho,_⟩,_⟩:=c.I.loc
   rw[q0]at ho
   cases ho) (fun y d e z=>by
   obtain⟨v,o,ho,_⟩:=c.I.cell y d e
   rw[z,q0]at ho
   cases ho) (fun p hp z=>by
   have e:=(c.I.pin p hp).1
   rw[z,q0]at e
   cases e) hH
  refine wpAny_mono (zdG (X:=X.susp ea) (i:=i) (v:=.ref ea) (J.susp ea) hN hi (.inl hl) rfl (Q:=fun _ s3=>Inv (X.susp ea) pins (σ.set i (some (.ref ea))) (upd H' ea (.ext (zbj ea C))) s3) (fun s3 I3=>I3) (.inr hl)) (fun _ s3 I3=>?_) fun _ _ q=>False.elim q
  refine wpAny_mono (hs ea pins s3 _ _ _ I3 (h ea hH)) (fun fl4 s4 q4=>?_) fun _ _ q=>False.elim q
  have go:∀ {σ4:St} {H4:Hp},Inv (X.susp ea) pins σ4 H4 s4→∀ {R:Unit→Shared→Prop},(∀ s5,Inv X pins (List.replicate X.N.length none) H4 s5→R () s5)→wpAny (model X.prog X.w) X.A (do bindName X.env n .none;unbindBehindTheSuite X.env n pos) R X.xe s4:=fun {σ4 H4} I4 {R} k=>by
   obtain⟨m,hn,_⟩:=I4.loc
   exact wpAny_nameGoes hl hn hp fun h5 m5 hn5 hs5=>k _ (Inv.forget hxe (I4.unsusp I.ok) hn5 hs5)
  cases fl4 with
  | next=>obtain⟨σ4,H4,I4,q⟩:=q4;exact go I4 fun s5 I5=>⟨_,H4,I5,q⟩
  | brk=>obtain⟨σ4,H4,I4,q⟩:=q4;exact go I4 fun s5 I5=>⟨_,H4,I5,q⟩
  | cont=>obtain⟨σ4,H4,I4,q⟩:=q4;exact go I4 fun s5 I5=>⟨_,H4,I5,q⟩
  | ret u=>obtain⟨v,σ4,H4,I4,r,q⟩:=q4;exact go I4 fun s5 I5=>⟨v,_,H4,I5,r,q⟩
theorem zkX {prog:Program} {w:World} {A:Around} {E:Value→Shared→Prop} {K:W.Frag} {x:Addr} {t c:Value} {Q:Value→Shared→Prop} (LT:W.Looks (model prog w) s.heap (typeOf (.ref x)) t) (XI:K.In s.heap) (ne:(t == c)=false)
  (e:W.kitCls K t c=some true) (h:Q (.bool true) s):wpAny (model prog w) A (call (.builtin "isinstance") [.ref x,c]) Q E s:=by
 obtain⟨hp,g,d,tt,os⟩:=s
 refine call_isinstance_of ?_ (fun z=>nomatch z)
 unfold Builtin.«isinstance.nested»
 refine wpAny_bind (LT.at ?_)
 rw[if_neg (fun q=>by rw[ne]at q;exact Bool.noConfusion q)]
 obtain⟨hty,his,hsub⟩:=W.kit_cls (M:=model prog w) XI e
 have LI:W.Looks (model prog w) hp (isInstance (.ref x) c) true:=LT.andThen hsub
 refine wpAny_bind (hty.at ?_)
 rw[if_pos (by decide)]
 k_delta "plainIsInstance"
 refine wpAny_bind (wpAny_bind (his.at ?_))
 simp only[Bool.not_true,Bool.false_eq_true,if_false]
 refine wpAny_bind (LI.at ?_)
 first
  | exact wpAny_pure (wpAny_pure h)
  | (simp only[if_true];first | exact wpAny_pure (wpAny_pure h) | exact wpAny_pure h | exact wpAny_bind (wpAny_pure (wpAny_pure h)))
inductive zh5 (K:W.Frag):List V→Hp→VK→Prop | mk {xs H Q} ea C n:xs=[.ref ea,.ty n]→H ea=some (.ext (zbj ea C))→W.kitCls K (.ref C) (.type n)=some true→Q (.bl true) H→zh5 K xs H Q
theorem zjC:zby X (.builtin "isinstance") (zh5 X.K):=by
 intro pins s σ H xs us Q I r h
 obtain⟨ea,C,n,rfl,hH,hk,q⟩:=h
 obtain⟨u,w',rfl,rx,ry⟩:=zh0 r
 cases (show w'=Value.type n from ry)
 cases (show u=Value.ref ea from rx)
 obtain⟨⟨oe,he,hcl⟩,_⟩:=I.hok ea _ hH
 have LT:W.Looks (model X.prog X.w) s.heap (typeOf (.ref ea)) (.ref C):=hcl ▸ (W.Looks.ld he).andThen .now
 exact zkX LT I.kIn rfl hk ⟨.bl true,H,I,rfl,q⟩
end
end L2
namespace L2
open PySem
end L2
namespace L2
open PySem
section
variable {K:W.Frag} {h:Heap} {mg:Str→Option Value} {C f:Addr} {fd:FuncData} {n x q:Str} {st:Stmt} {oc kV doc pm cdv ct:Value} {od an:Option Addr} {osl:Array (Option Value)}
structure FT (K:W.Frag) (n x:Str) (st:Stmt) (f:Addr) (fd:FuncData):Prop where
 a:W.nsIn K mainGlobals n=some (some (.ref f))
 F:Fun K x x st f fd
 k:W.keepIn K (.ref f)=true
theorem FT.m (z:FT K n x st f fd) (X:K.In h) (G:h.Ns mainGlobals mg):mg n=some (.ref f):=W.mg_of X G z.a
theorem ft_in (a:W.nsIn K mainGlobals n=some (some (.ref f))) (l:K.lookup f=some ⟨oc,od,.func (W.fnOf x x (zbO st) (zaC st) (ag st) .none kV doc pm an cdv ct),osl⟩) (c:W.codeIn K cdv x=true) (k:W.keepIn K (.ref f)=true):FT K n x st f (W.fnOf x x (zbO st) (zaC st) (ag st) .none kV doc pm an cdv ct):=⟨a,zi3 l c k,k⟩
structure FM (K:W.Frag) (C:Addr) (x q:Str) (st:Stmt) (f:Addr) (fd:FuncData):Prop where
 a:W.findIn K (.ref C) x=some (some (.ref f))
 i:W.isFn K (.ref f)=true
 F:Fun K x q st f fd
 k:W.keepIn K (.ref f)=true
theorem FM.M (z:FM K C x q st f fd):zbQ K C x f:=⟨z.a,z.i,z.k⟩
theorem fm_in (a:W.findIn K (.ref C) x=some (some (.ref f))) (i:W.isFn K (.ref f)=true) (l:K.lookup f=some ⟨oc,od,.func (W.fnOf x q (zbO st) (zaC st) (ag st) .none kV doc pm an cdv ct),osl⟩) (c:W.codeIn K cdv q=true) (k:W.keepIn K (.ref f)=true):FM K C x q st f (W.fnOf x q (zbO st) (zaC st) (ag st) .none kV doc pm an cdv ct):=⟨a,i,zi3 l c k,k⟩
abbrev Bd (x q:Str) (st:Stmt) (ps:List Str) (us:List Value):Prop:=∀(kV doc pm:Value) (an:Option Addr) (cdv ct:Value),bindArgs (W.fnOf x q (zbO st) (zaC st) (ag st) .none kV doc pm an cdv ct) ⟨us,[]⟩=pure (ps.zip us)
theorem Fun.b1 {p:Str} (F:Fun K x q st f fd) (h:∀ a,Bd x q st [p] [a]):aq K fd [p] []:=F.binds fun kV doc pm an cdv ct us hl=>by
 rcases us with _ | ⟨_,_ | _⟩ <;> first | exact h _ kV doc pm an cdv ct | cases hl
theorem Fun.b2 {p p2:Str} (F:Fun K x q st f fd) (h:∀ a b,Bd x q st [p,p2] [a,b]):aq K fd [p,p2] []:=F.binds fun kV doc pm an cdv ct us hl=>by
 rcases us with _ | ⟨_,_ | ⟨_,_ | _⟩⟩ <;> first | exact h _ _ kV doc pm an cdv ct | cases hl
theorem Fun.top {p:Str} (F:Fun K x q st f fd) (h:∀ a,Bd x q st [p] [a]):∀(s:Shared) (v:Value),BindsTo s fd ⟨[v],[]⟩ [(p,v)]:=fun s v=>by
 obtain⟨oc,od,kV,doc,pm,an,cdv,ct,osl,rfl,lk,hcd⟩:=F.ex
 exact .of_eq (h v kV doc pm an cdv ct)
end
end L2
namespace L2
open PySem PySem.Spec PyProof.Rows
section
variable {M:Model} {A:Around} {E:Value→Shared→Prop} {s:Shared}
theorem ziw {base:Heap} {l:List Env} {e:Addr} {cls a0 fl:Value} {fo:Option Addr} {Q:Unit→Shared→Prop} (st:base.StaysIn s.heap) (fr:s.heap.FunFrames base l) (tr:s.heap.TracedAtW base e cls a0 fl)
  (k:∀ h',base.StaysIn h'→h'.FunFrames base l→h'.TracedAtW base e cls a0 (fo.elim .none fun f=>rawInt f)→(∀ b o,s.heap.get? b=some o→(∀ vs,o.data≠.fields vs)→h'.get? b=some o)→Q () { s with heap:=h' }) :
  wpAny M A (setFlight (.ref e) fo) Q E s:=by
 obtain⟨oe,vs,T,oT,ts,ge,gcls,gd,g1,gnT,gTe,gT,gdT,g3⟩:=tr
 have lt3:=(Array.getElem?_eq_some_iff.mp g3).1
 have oth:∀ b,b≠T→(s.heap.update T (Obj.mapFields (·.setIfInBounds 3 (fo.elim Value.none fun f=>rawInt f)))).get? b=s.heap.get? b:=fun b nb=>Heap.get?_update_other _ _ (Ne.symm nb)
 have nr:∀ b o,s.heap.get? b=some o→(∀ vs,o.data≠.fields vs)→b≠T:=by
  intro b o hb hnf q
  rw[q,gT]at hb
  cases hb
  exact hnf ts gdT
 unfold setFlight
 refine wpAny_bind (wpAny_field ge gd g1 ?_)
 rw[if_pos (by simp)]
 refine wpAny_setField gT gdT lt3 (k _ ?_ ?_ ?_ ?_)
 ·intro b o q
  rw[oth b fun z=>by rw[z,gnT]at q;cases q]
  exact st b o q
 ·exact fr.of_keeps fun b o hb hnf=>⟨o,(oth b (nr b o hb hnf)).trans hb,rfl⟩
 ·exact⟨oe,vs,T,_,_,(oth e (Ne.symm gTe)).trans ge,gcls,gd,g1,gnT,gTe,Heap.get?_update_self _ gT (Obj.isFreed_of_fields (Obj.data_mapFields gdT _)),Obj.data_mapFields gdT _,by simp [lt3]⟩
 ·exact fun b o hb hnf=>(oth b (nr b o hb hnf)).trans hb
theorem ziu {base:Heap} {env:Env} {outer:List Env} {L e:Addr} {cls a0 fl:Value} {Q:Unit→Shared→Prop} (af:A.frames=some (env :: outer)) (ef:env.frame=some L) (st:base.StaysIn s.heap) (hen:base.get? e=none)
  (fr:s.heap.FunFrames base (env :: outer)) (tr:s.heap.TracedAtW base e cls a0 fl) (k:∀ h',Heap.FlyingW base outer e cls a0 h'→s.heap.UpToSlots h'→Q () { s with heap:=h' }):wpAny M A (leaving env (.ref e)) Q E s:=by
 by_cases hz:fl=rawInt L
 ·subst hz
  unfold leaving
  refine wpAny_bind (wpAny_noteFrame_againW ef tr ?_)
  refine wpAny_landsW ⟨st,hen,fr,tr⟩ fun h' hfl sm=>?_
  obtain⟨k1,k2,⟨_,_,k3⟩,k4⟩:=hfl
  exact k h' ⟨k1,k2,k3,k4⟩ sm
 ·obtain⟨oe,vs,T,oT,ts,ge,⟨gc,g0⟩,gd,g1,gnT,gTe,gT,gdT,g3⟩:=tr
  subst gc
  have oth:∀ b,b≠T→(s.heap.update T (Obj.mapFields (·.setIfInBounds 3 Value.none))).get? b=s.heap.get? b:=fun b nb=>Heap.get?_update_other _ _ (Ne.symm nb)
  have nr:∀ b o,s.heap.get? b=some o→(∀ vs,o.data≠.fields vs)→b≠T:=by
   intro b o hb hnf q
   rw[q,gT]at hb
   cases hb
   exact hnf ts gdT
  unfold leaving noteFrame
  simp only[ef]
  refine wpAny_bind (wpAny_bind (wpAny_field ge gd g1 ?_))
  rw[if_pos (by simp)]
  refine wpAny_bind (wpAny_field gT gdT g3 ?_)
  rw[if_neg (by simpa using hz)]
  refine wpAny_bind (wpAny_setField gT gdT (Array.getElem?_eq_some_iff.mp g3).1 ?_)
  refine wpAny_newEntryW af (fr.of_keeps fun b o hb hnf=>⟨o,(oth b (nr b o hb hnf)).trans hb,rfl⟩) ef ((oth e (Ne.symm gTe)).trans ge) (fun b o q=>(oth b fun z=>by rw[z,gnT]at q;cases q).trans (st b o q)) hen gd (Array.getElem?_eq_some_iff.mp g1).1 g0 fun h' hL=>?_
  obtain⟨k1,⟨_,_,k2⟩,k3,k4⟩:=hL
  exact k h' ⟨k1,hen,k2,k3⟩ fun b o hb hnf=>k4 b o ((oth b (nr b o hb hnf)).trans hb) hnf
theorem zfm {h h' base base':Heap} {c:Addr} (sb:Heap.SameBut c h h') (hb:∀ b,base.get? b=none→base'.get? b=none):∀ {l:List Env},h.FunFrames base l→(∀ env∈l,env.frame≠some c)→h'.FunFrames base' l
 | [],_,_=>trivial
 | env :: l,⟨hk,⟨L,o,e1,e2,e3,e4⟩,r⟩,hc=>by
  have nL:L≠c:=fun z=>hc env (List.mem_cons_self ..) (by rw[e1,z])
  exact⟨hk,⟨L,o,e1,hb L e2,(sb.2 L nL).trans e3,e4⟩,zfm sb hb r fun env' he=>hc env' (List.mem_cons_of_mem _ he)⟩
end
section
variable {X:Cx} {E:XK} {pins:List (Addr × Obj)} {σ:St} {H H':Hp} {s s':Shared} {B:Heap} {ea C:Addr} {a0:Value}
theorem Xe1.frs (hx:Xe1 X E):L2.frs X.stack=X.env.locals :: X.fs:=by
 rw[hx.stk]
 unfold L2.frs
 rw[List.filterMap_cons,hx.fr]
 rfl
theorem zkg (hx:Xe1 X E) (I:Inv X pins σ H s) {s'':Shared} {c:Addr} (hc:X.s₀.heap.objs.size≤c) (hcf:c∉X.fs) (os:s''.os=s.os) (bare:AllBare s''.gens) (u:Un (frs X.stack) [] H H' s.heap s'.heap) (ok:HOk X.prog X.w H' s'.heap)
  (fl:Heap.FlyingW B X.outer ea (.ref C) a0 s''.heap) (sm:∀ b o,b≠c→s'.heap.get? b=some o→(∀ vs,o.data≠.fields vs)→∃ sl,s''.heap.get? b=some { o with slots:=sl }) (trk:Trk H' s'.heap B)
  (old:∀ b ob,b≠c→s.heap.get? b=some ob→b∉frs X.stack→∃ ob',B.get? b=some ob'∧(H b=none→ob'=ob)) (hE:E (.ref C) none H') :
  CX1 X.prog X.w X.outer X.H₀ X.s₀ E (.ref ea) s'':=by
 have hfs:=hx.frs
 have nx:∀ b,b∉X.ex:=fun b hb=>by rw[hx.ex]at hb;cases hb
 have nc:∀ b ob,X.s₀.heap.get? b=some ob→b≠c:=fun b ob e z=>absurd (z ▸ Heap.lt_size e) (Nat.not_lt.mpr hc)
 have nf:∀ b ob,X.s₀.heap.get? b=some ob→b∉X.fs→b∉frs X.stack:=fun b ob e hb z=>by
  rw[hfs]at z
  rcases List.mem_cons.mp z with z | z
  ·exact absurd (Nat.lt_of_lt_of_le (Heap.lt_size e) I.ok.above) (by rw[z];exact Nat.lt_irrefl _)
  ·exact hb z
 have st:B.StaysIn s''.heap:=fl.1
 have U:=I.base
 have old':Old X.fs X.H₀ X.s₀.heap B:=fun b ob e hb=>by
  obtain⟨o1,e1⟩:=U.there b ob e (nx b)
  obtain⟨o',eB,hB⟩:=old b o1 (nc b ob e) e1 (nf b ob e hb)
  refine⟨o',eB,fun n=>?_⟩
  have k:=U.keep b ob e n hb (nx b)
  rw[e1]at k
  cases k
  exact hB (U.free b ob e n (nx b))
 have slot:∀ b ob,X.s₀.heap.get? b=some ob→X.H₀ b=none→b∈X.fs→∃ sl,s''.heap.get? b=some { ob with slots:=sl }:=fun b ob e n hb=>by
  obtain⟨sl,k⟩:=U.slot b ob e n hb (nx b)
  obtain⟨sl2,k2⟩:=u.any k (U.free b ob e n (nx b)) (by simp)
  obtain⟨_,o3,e3,hd⟩:=I.ok.funs.mem hb
  rw[e]at e3
  cases e3
  obtain⟨sl3,k3⟩:=sm b _ (fun z=>hcf (z ▸ hb)) k2 fun vs q=>hd vs q
  exact⟨sl3,k3⟩
 refine⟨ea,C,H',B,a0,rfl,os.trans I.os,bare,⟨fun b ob e n hb _=>?_,fun b ob e n hb _=>slot b ob e n hb,fun b ob e n _=>?_,fun b ob e _=>?_,fun b xs q=>u.tups b xs (U.tups b xs q),fun b ob xs q=>u.frzs b ob xs (U.frzs b ob xs q),fun b ps q=>?_⟩,
  ok.stays trk st,fl,Trk.stays ok trk st,old',hE⟩
 ·obtain⟨o',eB,hB⟩:=old' b ob e hb
  rw[hB n]at eB
  exact st b ob eB
 ·obtain⟨o1,e1⟩:=U.there b ob e (nx b)
  exact u.free b o1 e1 (U.free b ob e n (nx b)) (by simp)
 ·by_cases hb:b∈X.fs
  ·obtain⟨sl,k⟩:=slot b ob e (I.ok.frf b hb) hb
   exact⟨_,k⟩
  ·obtain⟨o',eB,_⟩:=old' b ob e hb
   exact⟨o',st b o' eB⟩
 ·obtain⟨m1,e1⟩:=U.tbls b ps q
  obtain⟨m2,e2⟩:=u.tbls b _ e1
  exact⟨m1++m2,by rw[e2,Array.append_assoc]⟩
theorem zhf {N':List Str} {scope:Scope} {cl:List (Str × Addr)} {fp:List Addr} {Qc:Value→Shared→Prop} {acc:Value} (hx:Xe1 X E) (I:Inv X pins σ H s) (f3:∀ b∈fp,zbt X pins H b) :
  zbu (CX1 X.prog X.w) ((zaA X N' scope cl fp s H).wish (notedBy (model X.prog X.w) X.A (compEnvC scope cl s.heap.objs.size X.env) fun e s'=>compPost (model X.prog X.w) X.A X.xe none Qc acc s.heap.objs.size (.error e) s')) E:=by
 intro pins' σ' H5 s5 e s' J5 h
 obtain⟨ea,Cc,H',B,a0,rfl,os,bare,u,ok,fl,trk,old,hE⟩:=h
 have J5':Inv (zaA X N' scope cl fp s H) pins' σ' H5 s5:=J5.unwish
 have fl2:Heap.FlyingW B (X.env :: X.outer) ea (.ref Cc) a0 s'.heap:=hx.stk ▸ (show Heap.FlyingW B X.stack ea (.ref Cc) a0 s'.heap from fl)
 have af:X.A.frames=some (X.env :: X.outer):=by rw[I.ok.frames,hx.stk]
 show wpAny (model X.prog X.w) X.A (noteFrame (.ref ea) X.env) (fun _ s''=>compPost (model X.prog X.w) X.A X.xe none Qc acc s.heap.objs.size (.error (.ref ea)) s'') (fun e s''=>compPost (model X.prog X.w) X.A X.xe none Qc acc s.heap.objs.size (.error e) s'') s'
 refine wpAny_looks_onW af hx.fr fl2 fun h1 held sm1=>?_
 have cm:zey (zaA X N' scope cl fp s H) pins' σ' H5 s5 H' B s':=⟨J5',os,bare,u,ok,trk,old⟩
 have J6:=cm.inv held.1 sm1
 obtain⟨m,hn,_⟩:=J6.loc
 have hn':h1.Ns s.heap.objs.size m:=hn
 have Hc:H' s.heap.objs.size=none:=J6.free
 refine⟨m,hn',fun h2 hsb cenv' _=>?_⟩
 have I5:Inv X pins σ H5 s5:=zcT I (J5'.pins_of (pins':=[]) (fun p hp=>by cases hp)) f3 (Heap.SameBut.refl _ _)
 generalize hcc:s.heap.objs.size=c at *
 have hcs:X.s₀.heap.objs.size≤c:=hcc ▸ I.sz
 have hcf:c∉X.fs:=I.nofs (Nat.le_of_eq hcc)
 have hcl:X.env.locals≠c:=hcc ▸ Nat.ne_of_lt I.lt
 have hcn:c∉frs X.stack:=by
  rw[hx.frs]
  intro z
  rcases List.mem_cons.mp z with z | z
  ·exact hcl z.symm
  ·exact hcf z
 obtain⟨oe,vs,T,oT,ts,ge,gc,gd,g1,gnT,gTe,gT,gdT,g3⟩:=held.2.2.2
 have nd:∀ b o ws,h1.get? b=some o→o.data=.fields ws→b≠c:=by
  intro b o ws e1 e2 z
  obtain⟨o',es,ep,e3,e4,_⟩:=hn'
  rw[z,e3]at e1
  cases e1
  rw[e4]at e2
  cases e2
 have hen':(W.hideAll B [c]).get? ea=none:=by
  cases z:(W.hideAll B [c]).get? ea with
  | none=>rfl
  | some o =>
   have:=W.of_hideAll _ z
   rw[held.2.1]at this
   cases this
 have hnn:∀ b,B.get? b=none→(W.hideAll B [c]).get? b=none:=by
  intro b q
  cases z:(W.hideAll B [c]).get? b with
  | none=>rfl
  | some o =>
   have:=W.of_hideAll _ z
   rw[q]at this
   cases this
 have st':(W.hideAll B [c]).StaysIn h2:=by
  intro b o q
  have nb:b≠c:=by
   intro z
   rw[z,W.hideAll_none [c] (by simp)]at q
   cases q
  exact(hsb.2 b nb).trans (held.1 b o (W.of_hideAll _ q))
 have fr':h2.FunFrames (W.hideAll B [c]) (X.env :: X.outer):=by
  refine zfm hsb hnn held.2.2.1 fun env he z=>hcn ?_
  rw[hx.stk]
  exact List.mem_filterMap.mpr ⟨env,he,z⟩
 have tr':h2.TracedAtW (W.hideAll B [c]) ea (.ref Cc) a0 (rawInt X.env.locals) :=
  ⟨oe,vs,T,oT,ts,(hsb.2 _ (nd _ _ _ ge gd)).trans ge,gc,gd,g1,hnn T gnT,gTe,(hsb.2 _ (nd _ _ _ gT gdT)).trans gT,gdT,g3⟩
 unfold PySem.passOn
 refine wpAny_bind (wpAny_field ((hsb.2 _ (nd _ _ _ ge gd)).trans ge) gd g1 ?_)
 rw[if_neg (by simp)]
 refine wpAny_bind (ziw st' fr' tr' fun h3 k1 k2 k3 k4=>?_)
 refine wpAny_throw ?_
 rw[hx.xe]
 refine ziu af hx.fr k1 hen' k2 k3 fun h4 hfl sm4=>?_
 refine zkg (s':=s') hx I5 hcs hcf os bare u ok hfl (fun b o nb e hnf=>?_) (fun b ob hb e=>W.hideAll_get _ (trk b ob hb e) fun z=>hb ?_) (fun b ob nb e hb=>?_) hE
 ·obtain⟨sl1,e1⟩:=sm1 b o e hnf
  obtain⟨sl2,e2⟩:=sm4 b _ (k4 b _ ((hsb.2 b nb).trans e1) hnf) hnf
  exact⟨sl2,e2⟩
 ·rw[List.mem_singleton.mp z]
  exact Hc
 ·obtain⟨ob',eB,hB⟩:=old b ob e hb
  exact⟨ob',W.hideAll_get _ eB (by simpa using nb),hB⟩
end
section
variable {X:Cx} {N':List Str} {scope:Scope} {elt iter:Expr} {x:Str} {px pos:Pos} {wi:TI} {te:TE} {ix:List Nat} {E:XK}
end
end L2
namespace L2
open PySem PySem.Spec PyProof.Rows
section
variable {X:Cx}
theorem zfH:∀ l:List (Str × Tok),ap (l.map fun a=>V.str a.1) (strValues l)
 | []=>.nil
 | a :: l=>.cons ⟨_,rfl⟩ (zfH l)
theorem zji (x y:Str):(Builtin.Str.partsBetween x (Builtin.Str.occurrences x y 0 x.length (x.length+1)) y.length).length≤x.length+2:=by
 have:=StrLaws.occ_length_le x y 0 x.length (x.length+1)
 simp only[Builtin.Str.partsBetween,List.length_map,List.length_zip,List.length_cons,List.length_append,List.length_nil]
 omega
inductive ziJ:V→List V→Hp→VK→Prop | mk {x vs H Q} z y:x=.str z→vs=[.str y]→(y.length == 0)=false→z.length≤1000000→(∀ p,H p=none→Q (.ref p) (upd H p (.lst ((Txt.split z y).map V.str))))→ziJ x vs H Q
theorem zj5:MtR X "str.split" ziJ:=by
 intro pins s σ H x vs v us Q I rx rv h
 obtain⟨z,y,rfl,rfl,hy,hz,q⟩:=h
 obtain⟨t,rfl⟩:=rx
 obtain⟨u,rfl,ru⟩:=rv.one
 obtain⟨tu,rfl⟩:=ru
 have hsz:z.length≤sizeLine:=Nat.le_trans hz (by rw[sizeLine_eq];decide)
 have hn:(Builtin.Str.partsBetween z (Builtin.Str.occurrences z y 0 z.length (z.length+1)) y.length).length≤sizeLine:=Nat.le_trans (zji z y) (by rw[sizeLine_eq];omega)
 have one:∀ e:Txt.split z y=[z],wants (EP X pins σ Q) X.xe (.ok (.ret (.ref s.heap.objs.size))) { s with heap:=s.heap.push { cls:=.type "list",data:=.seq [Value.str z t].toArray } }:=fun e=>by
  have I1:=I.lnew (ys:=[.str z]) (its:=[Value.str z t]) (t':=s.toks) (.cons ⟨_,rfl⟩ .nil) (by show 1≤sizeLine;decide)
  refine⟨.ref s.heap.objs.size,_,I1,rfl,?_⟩
  have:=q _ I.fresh
  rw[e]at this
  exact this
 cases h1:(decide (z.length < y.length)||decide (Builtin.Str.strKind z < Builtin.Str.strKind y))
 ·cases hf:(Builtin.Str.occurrences z y 0 z.length (z.length+1)).isEmpty
  ·refine call_meets F.slot_str_split (typeIs_str s z t) F.entry_str_split (F.args_str_split_2 _ _) (meets_str_split_sep z y t tu h1 hy hf hsz hn) ?_
   have e:Txt.split z y=Builtin.Str.partsBetween z (Builtin.Str.occurrences z y 0 z.length (z.length+1)) y.length:=(if_neg (ne_true_of_eq_false h1)).trans (if_neg (ne_true_of_eq_false hf))
   rw[strsFrom_eq]
   have ev:((numbered s.toks (Builtin.Str.partsBetween z (Builtin.Str.occurrences z y 0 z.length (z.length+1)) y.length)).map fun a=>V.str a.1)=(Txt.split z y).map V.str:=by
    rw[e]
    conv=>rhs;rw[←numbered_texts s.toks (Builtin.Str.partsBetween z (Builtin.Str.occurrences z y 0 z.length (z.length+1)) y.length)]
    rw[List.map_map]
    rfl
   have I1:=I.lnew (ys:=(Txt.split z y).map V.str) (its:=strValues (numbered s.toks (Builtin.Str.partsBetween z (Builtin.Str.occurrences z y 0 z.length (z.length+1)) y.length))) (t':=s.toks+(Builtin.Str.partsBetween z (Builtin.Str.occurrences z y 0 z.length (z.length+1)) y.length).length) (by rw[←ev];exact zfH _) (by rw[List.length_map,e];exact hn)
   exact⟨.ref s.heap.objs.size,_,I1,rfl,q _ I.fresh⟩
  ·exact call_meets F.slot_str_split (typeIs_str s z t) F.entry_str_split (F.args_str_split_2 _ _) (meets_str_split_not_found z y t tu h1 hy hf) (one ((if_neg (ne_true_of_eq_false h1)).trans (if_pos hf)))
 ·exact call_meets F.slot_str_split (typeIs_str s z t) F.entry_str_split (F.args_str_split_2 _ _) (meets_str_split_cannot_occur z y t tu h1) (one (if_pos h1))
inductive rEnds:V→List V→Hp→VK→Prop | mk {x vs H Q} z y:x=.str z→vs=[.str y]→Q (.bl (Txt.endswith z y)) H→rEnds x vs H Q
theorem zkS:MtR X "str.endswith" rEnds:=by
 intro pins s σ H x vs v us Q I rx rv h
 obtain⟨z,y,rfl,rfl,q⟩:=h
 obtain⟨t,rfl⟩:=rx
 obtain⟨u,rfl,ru⟩:=rv.one
 obtain⟨tu,rfl⟩:=ru
 exact call_gives F.slot_str_endswith (typeIs_str _ _ _) F.entry_str_endswith (F.args_str_endswith_2 _ _) (gives_str_endswith z y t tu) ⟨.bl _,H,I,rfl,q⟩
end
end L2
namespace L2
open PySem PySem.Spec PyProof.Rows PySem.Builtin.Str
theorem zks (s sub:Str) (i:Nat):subAt s sub i=((s.cps.toList.drop i).take sub.length == sub.cps.toList):=by
 have e:(s.cps.extract i (i+sub.length)).toList=(s.cps.toList.drop i).take sub.length:=by simp
 unfold subAt
 rw[Bool.eq_iff_iff,beq_iff_eq,beq_iff_eq,←e]
 exact⟨fun h=>congrArg Array.toList h,fun h=>Array.ext' h⟩
def zce (z y:Str) (i:Nat):Bool:=(z.cps.toList.drop i).take y.length == y.cps.toList
theorem zku {z y:Str} {i:Nat} (h:i≤z.length):(decide (i+y.length≤z.length)&&subAt z y i)=zce z y i:=by
 rw[zks]
 unfold zce
 by_cases c:((z.cps.toList.drop i).take y.length == y.cps.toList)=true
 ·rw[c,Bool.and_true]
  have e:=congrArg List.length (eq_of_beq c)
  rw[List.length_take,List.length_drop]at e
  have e1:z.cps.toList.length=z.length:=by simp [Str.length]
  have e2:y.cps.toList.length=y.length:=by simp [Str.length]
  rw[e1,e2]at e
  exact decide_eq_true (by omega)
 ·rw[Bool.eq_false_iff.mpr c,Bool.and_false]
section
variable {X:Cx}
inductive zgS:V→List V→Hp→VK→Prop | mk {x vs H Q} (z y:Str) (i:Nat):x=.str z→vs=[.str y,.int i]→i≤z.length→Q (.bl (zce z y i)) H→zgS x vs H Q
theorem zio:MtR X "str.startswith" zgS:=by
 intro pins s σ H x vs v us Q I rx rv h
 obtain⟨z,y,i,rfl,rfl,hi,q⟩:=h
 obtain⟨t,rfl⟩:=rx
 obtain⟨u,u2,rfl,ru,ru2⟩:=rv.two
 obtain⟨tu,rfl⟩:=ru
 obtain⟨tv,rfl⟩:=ru2
 refine call_gives F.slot_str_startswith (typeIs_str _ _ _) F.entry_str_startswith (F.args_str_startswith_3 _ _ _) (gives_str_startswith_from z y i t tu tv) ⟨.bl _,H,I,rfl,?_⟩
 have e:fromIndex z.length (i:Int)=i:=by
  unfold fromIndex
  rw[if_neg (by omega)]
  omega
 rw[e,zku hi]
 exact q
end
end L2
namespace L2
open PySem PySem.Spec PyProof.Rows
theorem zhb {h:Heap} {a it:Addr} {i:Nat} {its:Array Value} (x:h.IsTuple a its) (y:h.IsTupleIter it a i):a≠it:=fun e=>by
 subst e
 obtain⟨o,ho,hc,_⟩:=x
 obtain⟨o',ho',hc',_⟩:=y
 rw[ho]at ho'
 have e:=Option.some.inj ho'
 subst e
 rw[hc]at hc'
 exact absurd hc' (by decide)
theorem drawsT {prog:Program} {w:World} {A:Around} (hh:A.handled=none) (it a:Addr) (its:Array Value) :
  Draws prog w A it [it,a] its.size (fun i v=>its[i]?=some v) (fun i h=>h.IsTupleIter it a i∧h.IsTuple a its) where
 live:=fun _ _ st=>by
  obtain⟨⟨o,ho,_⟩,_⟩:=st
  exact⟨o,ho⟩
 frame:=fun _ _ _ st hk=>⟨st.1.at fun o e=>hk it (by simp) o e,st.2.at fun o e=>hk a (by simp) o e⟩
 item:=fun i s Q E hi st hQ=>by
  have ne:=zhb st.2 st.1
  refine zin st.1 st.2 (x:=its[i]) (by simp [hi]) fun h' hit' hs'=>?_
  exact hQ _ h' s.toks (by simp [hi]) ⟨hit',st.2.extBut hs'.extBut ne⟩ hs'
 done:=fun s Q E st hE=>zdA hh st.1 st.2 (by simp) hE
abbrev enT1 (h:Heap) (l:Addr):Heap:=h.push { cls:=.type "tuple_iterator",data:=.fields #[.ref l,.int 0 0] }
abbrev enT2 (h:Heap) (l:Addr):Heap:=(enT1 h l).push { cls:=.type "enumerate",data:=.fields #[.none,.bool false,.ref h.objs.size,rawInt 0,.none,.none] }
theorem zhc (l:Addr) (items:Array Value) :
  Meets (Builtin.«enumerate.__new__» ⟨[.type "enumerate",.ref l],[]⟩) (fun _ R s=>s.heap.IsTuple l items∧R (.ok (.ret (.ref (enT1 s.heap l).objs.size))) { s with heap:=enT2 s.heap l }) :=
 .of_wp fun prog w A R s h=>by
  obtain⟨hp,g,d,tk,os⟩:=s;obtain⟨hl,h⟩:=h
  have hsub:=sub_enumerate
  have hL:Heap.IsTuple (Shared.heap ⟨hp,g,d,tk,os⟩) l items:=hl
  obtain⟨o,ho,hc,n,hd⟩:=id hL
  wp_walk using AutoSeq1.wpAny_loadPart' ho
  refine wpAny_stack_any fun st=>wpAny_pure ?_
  split
  ·rename_i c _ _ _ _ _
   cases (c == Value.type "enumerate")
   ·wp_walk using AutoSeq1.wpAny_loadPart' ho,wpAny_pyIter_tuple hL
    exact⟨_,rfl,h⟩
   ·wp_walk using AutoSeq1.wpAny_loadPart' ho,wpAny_pyIter_tuple hL
    exact⟨_,rfl,h⟩
  ·wp_walk using AutoSeq1.wpAny_loadPart' ho,wpAny_pyIter_tuple hL
   exact⟨_,rfl,h⟩
section
variable {prog:Program} {w:World} {A:Around} {E:Value→Shared→Prop} {s:Shared}
theorem ziy {l:Addr} {items:Array Value} {Q:Value→Shared→Prop} (hL:s.heap.IsTuple l items)
  (h:∀ h',IsEnum h' (s.heap.objs.size+1) s.heap.objs.size 0 .none→h'.IsTupleIter s.heap.objs.size l 0→(∀ b o,s.heap.get? b=some o→h'.get? b=some o)→Q (.ref (s.heap.objs.size+1)) { s with heap:=h' }) :
  wpAny (model prog w) A (call (.type "enumerate") [.ref l]) Q E s:=by
 refine callType_new F.called_enumerate (by decide) (F.typeCall_enumerate_1 _) (F.newCall_enumerate_1 _) (fun obj=>F.args_object_init_2 obj _) F.entry_enumerate_new (zhc l items) ⟨hL,?_⟩
 have z1:(enT1 s.heap l).objs.size=s.heap.objs.size+1:=Heap.size_push ..
 have g2:(enT2 s.heap l).get? (enT1 s.heap l).objs.size=some _:=Heap.get?_push_size _ rfl
 have g1:(enT2 s.heap l).get? s.heap.objs.size=some _:=Heap.get?_push_of_some _ (Heap.get?_push_size _ rfl)
 rw[z1]at g2
 show _∧_
 rw[z1]
 exact⟨⟨_,g2,rfl⟩,h _ g2 ⟨_,g1,rfl,rfl⟩ fun b o e=>Heap.get?_push_of_some _ (Heap.get?_push_of_some _ e)⟩
end
def IteT (K:W.Frag) (a:Addr):It :=
 ⟨fun i H=>∃ xs x,SqT K H a xs∧xs[i]?=some x,fun i H x H'=>∃ p y,x=.ref p∧H p=none∧H'=upd H p (.tup [.int i,y])∧∀ xs,SqT K H a xs→xs[i]?=some y,fun i H=>∃ xs,SqT K H a xs∧xs.length≤i⟩
theorem zjI {K:W.Frag} {a:Addr} {xs:List V}:Wk (IteT K a) xs.length (fun H=>SqT K H a xs):=⟨fun _ _ h hi=>⟨xs,h,hi⟩,fun i _ h hi=>⟨xs,xs[i],h,by simp [hi]⟩⟩
theorem zig {P:Program} {w:World} {K:W.Frag} {elts:List Expr} {x1:Nat} {pos:Pos} (a e it:Addr) (hei:e≠it):Turn P w K (.Tuple elts x1 pos) (IteT K a) [e,it] e (fun i h=>(∃ old,IsEnum h e it ((i:Nat):Int) old)∧h.IsTupleIter it a i) where
 mem:=by simp
 obj:=fun i h st b hb=>by
  obtain⟨⟨old,he⟩,o,ho,hc,hd⟩:=st
  rcases List.mem_cons.mp hb with rfl | hb
  ·exact⟨_,he,fun v z=>by
    have z':Data.fields _=Data.cell v:=z
    cases z'⟩
  ·have e':=List.mem_singleton.mp hb
   subst e'
   exact⟨o,ho,fun v z=>by rw[hd]at z;cases z⟩
 keep:=fun i h h' st k=>⟨by
  obtain⟨old,he⟩:=st.1
  exact⟨old,k e (by simp) _ he⟩,st.2.at fun o q=>k it (by simp) o q⟩
 item:=by
  intro X hP hw hK hc i pins s σ H E I hf st hg
  subst hP hw hK
  obtain⟨xs,x,hq,hx⟩:=hg
  obtain⟨its,rv,p,hz⟩:=I.tuple hq
  obtain⟨u,hu,ru⟩:=rv.get hx
  obtain⟨⟨old,he⟩,hit⟩:=st
  obtain⟨oi,hoi,hci,hdi⟩:=id hit
  have pT:s.heap.IsTuple a its.toArray:=p
  have hu':its.toArray[i]?=some u:=by simpa using hu
  have nae:a≠e:=fun z=>by
   subst z
   obtain⟨o,ho,hc',_⟩:=pT
   have he':s.heap.get? a=some _:=he
   rw[ho]at he'
   have z:=Option.some.inj he'
   subst z
   exact absurd (show Value.type "enumerate"=Value.type "tuple" from hc') (by decide)
  refine wpAny_pyNext_enum_itemD (drawsT (A:=X.A.in1) (show X.A.in1.handled=none from I.ok.hd hc) it a its.toArray) he ⟨hit,pT⟩ (by obtain⟨q,_⟩:=Array.getElem?_eq_some_iff.mp hu';exact q) hei (by simp;exact⟨hei,Ne.symm nae⟩) fun x' h' tk px ho st' hT hsz hk=>?_
  have ex:x'=u:=by
   have px':its.toArray[i]?=some x':=px
   rw[hu']at px'
   exact(Option.some.inj px').symm
  subst ex
  refine⟨_,rfl,wpAny_letOwnedTupleGo_enum ho fun h2 he2 hs2=>?_⟩
  replace hs2:Heap.SameBut e h' h2:=hs2
  have heH:e < s.heap.objs.size:=Heap.lt_size he
  have hiH:it < s.heap.objs.size:=Heap.lt_size hoi
  have hT2:h2.get? s.heap.objs.size=some { cls:=.type "tuple",data:=.seq #[.int i tk,x'] }:=(hs2.2 _ (Nat.ne_of_gt heH)).trans hT
  have kk:∀ b o,b∉[e,it]→s.heap.get? b=some o→h2.get? b=some o:=fun b o hb q=>by
   have hbe:b≠e:=fun z=>hb (by simp [z])
   have hbi:b≠it:=fun z=>hb (by simp [z])
   exact(hs2.2 b hbe).trans (hk b o hbe hbi q)
  have new:zba X.prog X.w (upd H s.heap.objs.size (.tup [.int i,x])) h2 s.heap.objs.size (.tup [.int i,x]):=by
   refine⟨?_,[.int i tk,x'],.cons ⟨_,rfl⟩ (.cons ru .nil),_,hT2,?_⟩
   ·exact Nat.le_of_lt (zct (show 2≤1000 by decide))
   ·first | exact⟨rfl,rfl,_,rfl⟩ | exact⟨rfl,_,rfl⟩ | exact⟨rfl,rfl⟩
  refine⟨.ref s.heap.objs.size,_,I.turnedLaid (t':=tk+1) hf kk (Nat.le_refl _) new,rfl,⟨_,x,rfl,I.fresh,rfl,fun ys hy=>by rw[I.tuple_inj hy hq];exact hx⟩,⟨⟨x',by simpa using he2⟩,?_⟩,?_⟩
  ·exact st'.1.at fun o q=>(hs2.2 it (Ne.symm hei)).trans q
  ·intro b hb
   have hlt':b < s.heap.objs.size:=by
    rcases List.mem_cons.mp hb with rfl | hb
    ·exact heH
    ·rw[List.mem_singleton.mp hb];exact hiH
   rw[zag (Nat.ne_of_lt hlt')]
   exact(hf b hb).1
 done:=by
  intro X hP hw hK hc i pins s σ H E I hf st hg
  subst hP hw hK
  obtain⟨xs,hq,hx⟩:=hg
  obtain⟨its,rv,p,hz⟩:=I.tuple hq
  obtain⟨⟨old,he⟩,hit⟩:=st
  obtain⟨f0,f1,f2,f3,f4,f5⟩:=hf it (by simp)
  have pT:s.heap.IsTuple a its.toArray:=p
  have hl:=rv.length
  have hT:s.TypeIs (.ref e) "enumerate":=⟨_,he,rfl⟩
  unfold pyNext
  refine wpAny_bind (wpAny_attempt (wpAny_callSpecial?_slot (name:=Str.ofString "__next__") hT F.slot_enumerate_next (wpAny_call_entry F.slot_enumerate_next hT F.entry_enumerate_next ?_ (F.args_enumerate_next_1 _))))
  show wpAny _ _ (field (.ref e) 2 >>= _) _ _ _
  refine wpAny_bind (wpAny_field he rfl (x:=.ref it) rfl ?_)
  refine wpAny_bind (zdA (I.ok.hd hc) hit pT (by simp;omega) fun h' x eb hx'=>?_)
  obtain⟨o,ho,hc'⟩:=hx'
  refine wpAny_bind (wpAny_isInstance (T:="StopIteration") (b:=true) ⟨o,ho,hc'⟩ isSubtype_stop ?_)
  exact wpAny_pure ⟨rfl,I.turned (t':=s.toks) (fun b o hb q=>eb b o hb q) f0 f1 f3 f4 f5⟩
 self:=fun _ _ _ _ _ st h=>by
  obtain⟨⟨old,he⟩,_⟩:=st
  exact wpAny_pyIter_enum he h
section
variable {X:Cx}
def iEnumT (K:W.Frag) (ta:TA):TI:=fun σ H R=>ta σ H fun vs H1=>∃ a,vs=[.ref a]∧(∃ xs,SqT K H1 a xs)∧R (IteT K a) H1
theorem zjV {elts:List Expr} {x1:Nat} {pt:Pos} {a:Expr} {ta:TA} {p pos:Pos} (hg:Gl X "enumerate") (hm:X.mg "enumerate"=none) (ha:PA X [a] ta) (hs:starEach [a] X.env=[(false,eval a X.env)]:=by rfl):PI X (.Tuple elts x1 pt) (.Call (.Name "enumerate" p) [a] [] pos) (iEnumT X.K ta):=by
 intro pins s σ H R I h
 refine Call_ (zdo I hg hm boot_enumerate (PyProof.Rows.callWith_type1 (thn (ha pos pins s σ H _ I h) fun us s1 ⟨vs,H1,I1,r1,q1⟩=>?_) hs rfl))
 obtain⟨a,e,⟨xs,hq⟩,q⟩:=q1
 subst e
 obtain⟨u,rfl,ru⟩:=r1.one
 cases ru
 obtain⟨its,rv,p,hz⟩:=I1.tuple hq
 refine ziy (show s1.heap.IsTuple a its.toArray from p) fun h' he hit kk=>?_
 refine wpAny_pyIter_enum he ?_
 have I2:Inv X pins σ H1 { s1 with heap:=h' }:=I1.kept (t':=s1.toks) kk
 refine⟨_,[s1.heap.objs.size+1,s1.heap.objs.size],_,IteT X.K a,H1,rfl,I2,zig a (s1.heap.objs.size+1) s1.heap.objs.size (Nat.succ_ne_self _),⟨⟨_,he⟩,hit⟩,fun b hb=>?_,q⟩
 have hle:s1.heap.objs.size≤b:=by
  rcases List.mem_cons.mp hb with rfl | hb
  ·omega
  ·rw[List.mem_singleton.mp hb];exact Nat.le_refl _
 exact I1.fpOk hle (I1.hok.fresh hle)
end
end L2
namespace L2
open PySem PySem.Spec PyProof.Rows
section
variable {X:Cx} {CX:CXT} {k:Nat} {f C:Addr} {fd:FuncData} {ps:List Str} {sp:Sp} {dvs:List V} {ds:List Value} {E:XK} {x m:Str} {p pos apos:Pos} {e o:Expr} {es:List Expr} {ta:TE} {t:TA}
end
end L2
namespace L2
open PySem PySem.Spec PyProof.Rows
theorem thk {α:Type} {t:Sem α} {Q Q':α→Shared→Prop} {M:Model} {A:Around} {E:Value→Shared→Prop} {s:Shared} {b:Nat} (hb:b≤s.toks) (h:wpAny M A t Q E s) (hQ:∀ a s',Q a s'→b≤s'.toks→Q' a s'):wpAny M A t Q' E s :=
 wpAny_mono (wpAny_toks_of hb h) (fun a s' q=>hQ a s' q.2 q.1) fun _ _ x=>x.2
structure PEk (X:Cx) (b:Nat) (e:Expr) (t:TE):Prop where
 run:∀(pins:List (Addr × Obj)) (s:Shared) (σ:St) (H:Hp) (Q:VK),Inv X pins σ H s→b≤s.toks→t σ H Q→wpAny (model X.prog X.w) X.A (eval e X.env) (EP X pins σ Q) X.xe s
structure PSk (X:Cx) (b:Nat) (st:Stmt) (t:TS):Prop where
 run:∀(pins:List (Addr × Obj)) (s:Shared) (σ:St) (H:Hp) (D:zaU),Inv X pins σ H s→b≤s.toks→t D σ H→wpAny (model X.prog X.w) X.A (exec st X.env) (SP X pins D) X.xe s
structure za9 (X:Cx) (b:Nat) (st:List Stmt) (t:TS):Prop where
 run:∀(pins:List (Addr × Obj)) (s:Shared) (σ:St) (H:Hp) (D:zaU),Inv X pins σ H s→b≤s.toks→t D σ H→wpAny (model X.prog X.w) X.A (execs st X.env) (SP X pins D) X.xe s
section
variable {X:Cx} {b:Nat} {e a c:Expr} {st:Stmt} {ss zaH:List Stmt} {te ta tc:TE} {t u:TS} {pos:Pos}
theorem PE.k (h:PE X e te):PEk X b e te:=⟨fun pins s σ H Q I _ q=>h pins s σ H Q I q⟩
theorem PS.k (h:PS X st t):PSk X b st t:=⟨fun pins s σ H D I _ q=>h pins s σ H D I q⟩
theorem PSs.k (h:PSs X ss t):za9 X b ss t:=⟨fun pins s σ H D I _ q=>h pins s σ H D I q⟩
theorem zan (h1:PSk X b st t) (h2:za9 X b zaH u):za9 X b (st :: zaH) (zes t u):=by
 refine⟨fun pins s σ H D I hb h=>?_⟩
 refine wpAny_execs_cons (thk hb (h1.run pins s σ H { D with nx:=u D } I hb h) fun f s1 q hb1=>?_)
 cases f with
 | next =>
  obtain⟨σ',H',I',q⟩:=q
  exact h2.run pins s1 σ' H' D I' hb1 q
 | ret v=>exact q
 | brk=>exact q
 | cont=>exact q
theorem zdI (h1:PSk X b st t):za9 X b [st] t:=by
 refine⟨fun pins s σ H D I hb h=>?_⟩
 refine wpAny_execs_cons (thn (h1.run pins s σ H D I hb h) fun f s1 q=>?_)
 cases f with
 | next=>exact wpAny_execs_nil q
 | ret v=>exact q
 | brk=>exact q
 | cont=>exact q
theorem zho (he:PEk X b e te):PSk X b (.Return (some e) pos) (tRet te):=by
 refine⟨fun pins s σ H D I hb h=>?_⟩
 exact wpAny_Return_some (thn (he.run pins s σ H _ I hb h) fun v s1 ⟨x,H1,I1,r1,q1⟩=>⟨x,σ,H1,I1,r1,q1⟩)
theorem ziK {cd:TT} {xs ys:List Stmt} (hc:PT X c cd) (ha:za9 X b xs t) (hb:za9 X b ys u):PSk X b (.If c xs ys pos) (tIfS cd t u):=by
 refine⟨fun pins s σ H D I hk h=>?_⟩
 refine wpAny_If (thk hk (hc pins s σ H _ I h) fun d s1 ⟨H1,I1,q1⟩ hk1=>?_)
 cases d with
 | true=>exact ha.run pins s1 σ H1 D I1 hk1 q1
 | false=>exact hb.run pins s1 σ H1 D I1 hk1 q1
theorem zhn {i:Nat} {x:Str} {pos':Pos} (hN:X.N.Nodup) (hi:X.N[i]?=some x) (hx:Loc X.env.scope x) (he:PEk X b e te) (hs:swapsWith e (some (.Name x pos')) pos.line X.env=pure false:=by rfl) (hf:X.fn x=true∨X.env.scope.names.lookup x=some .local:=by first | exact .inl rfl | exact .inr rfl | assumption) :
  PSk X b (.Assign [.Name x pos'] e pos) (zdO te (zbi i)):=by
 refine⟨fun pins s σ H D I hb h=>?_⟩
 refine wpAny_Assign_Name (thn (he.run pins s σ H _ I hb h) fun v s1 ⟨y,H1,I1,r1,q1⟩=>?_) hs
 exact zdG I1 hN hi hx r1 (fun s2 I2=>⟨_,H1,I2,q1⟩) hf
theorem pek_op {op:Operator} {r:R2} (ho:OpR X (binaryOp op) r) (ha:PEk X b a ta) (hc:PE X c tc):PEk X b (.BinOp a op c pos) (tOp r ta tc):=by
 refine⟨fun pins s σ H Q I hb h=>?_⟩
 refine wpAny_BinOp ?_
 refine thn (ha.run pins s σ H _ I hb h) fun v s1 ⟨x,H1,I1,r1,q1⟩=>?_
 refine thn (hc pins s1 σ H1 _ I1 q1) fun u s2 ⟨y,H2,I2,r2,q2⟩=>?_
 exact ho pins s2 σ H2 x y v u Q I2 r1 r2 q2
abbrev Cx.put (X:Cx) (i:Nat) (y:Str) (u:Value):Cx:={ X with N:=X.N.set i "%",ext:=[(y,u)] }
theorem Cx.Ok.put (ok:X.Ok) (i:Nat) (y:Str) (u:Value):(X.put i y u).Ok:=⟨ok.mod,ok.kind,ok.glob,ok.blt,ok.above,ok.inj,ok.has,ok.cab,ok.hd,ok.frames,ok.stk,ok.exf,ok.bs,ok.bsz,ok.noex,ok.exfs,ok.funs,ok.frf⟩
theorem zgM {α:Type} {l:List (Option α)} {i j:Nat} {v:α} (h:(l.set i none)[j]?=some (some v)):j≠i∧l[j]?=some (some v):=by
 by_cases e:j=i
 ·subst e
  rw[List.getElem?_set_self']at h
  cases q:l[j]? with
  | none=>rw[q]at h;cases h
  | some w=>rw[q]at h;cases h
 ·rw[List.getElem?_set_ne (Ne.symm e)]at h
  exact⟨e,h⟩
theorem Inv.put {pins:List (Addr × Obj)} {σ:St} {H:Hp} {s:Shared} {i:Nat} {y:Str} {u:Value} (I:Inv X pins σ H s) (hN:X.N.Nodup) (hi:X.N[i]?=some y) (hy:y≠"%") (hu:∃ m,s.heap.Ns X.env.locals m∧Look X.env s.heap m y u):Inv (X.put i y u) pins (σ.set i none) H s:=by
 refine⟨I.ok.put i y u,I.os,I.bare,I.base,?_,I.cell,I.free,I.freeC,I.pin,I.hok,?_,?_⟩
 ·obtain⟨m,hn,hl⟩:=I.loc
  refine⟨m,hn,fun j x v e1 e2 e3=>?_⟩
  obtain⟨ne,e2⟩:=zgM e2
  have e1':(X.N.set i "%")[j]?=some x:=e1
  rw[List.getElem?_set_ne (Ne.symm ne)]at e1'
  exact hl j x v e1' e2 e3
 ·show(σ.set i none).length=(X.N.set i "%").length
  rw[List.length_set,List.length_set]
  exact I.len
 ·obtain⟨m,hn,l⟩:=hu
  refine⟨m,hn,fun p hp=>?_⟩
  obtain rfl:p=(y,u):=by simpa using hp
  refine⟨fun hm=>?_,l⟩
  obtain⟨j,hj⟩:=List.getElem?_of_mem (show y∈X.N.set i "%" from hm)
  by_cases e:j=i
  ·subst e
   rw[List.getElem?_set_self (by exact(List.getElem?_eq_some_iff.mp hi).1)]at hj
   exact hy (Option.some.inj hj).symm
  ·rw[List.getElem?_set_ne (Ne.symm e)]at hj
   exact e (zeK hN hj hi)
theorem Inv.unput {pins:List (Addr × Obj)} {σ:St} {H:Hp} {s:Shared} {i:Nat} {y:Str} {u:Value} (ok:X.Ok) (hx:X.ext=[]) (I:Inv (X.put i y u) pins σ H s):Inv X pins (σ.set i none) H s:=by
 refine⟨ok,I.os,I.bare,I.base,?_,I.cell,I.free,I.freeC,I.pin,I.hok,?_,?_⟩
 ·obtain⟨m,hn,hl⟩:=I.loc
  refine⟨m,hn,fun j x v e1 e2 e3=>?_⟩
  obtain⟨ne,e2⟩:=zgM e2
  refine hl j x v ?_ e2 e3
  show(X.N.set i "%")[j]?=some x
  rw[List.getElem?_set_ne (Ne.symm ne)]
  exact e1
 ·have e:σ.length=(X.N.set i "%").length:=I.len
  rw[List.length_set]at e
  rw[List.length_set]
  exact e
 ·obtain⟨m,hn,_⟩:=I.loc
  exact⟨m,hn,by rw[hx];exact zdy⟩
theorem ziZ {pins:List (Addr × Obj)} {σ:St} {H:Hp} {s:Shared} {y:Str} {w:Value} {Q:Value→Shared→Prop} {E:Value→Shared→Prop} (I:Inv X pins σ H s) (hp:(y,w)∈X.ext) (q:Q w s) (hd:(y == ("__debug__":Str))=false:=by decide) (hcd:(y == ("__classdict__":Str))=false:=by decide) :
  wpAny (model X.prog X.w) X.A (eval (.Name y pos) X.env) Q E s:=by
 obtain⟨m,hn,hl⟩:=I.ext
 rcases(hl _ hp).2 with ⟨hk,hm⟩ | ⟨hk,c,hc,hcell⟩
 ·exact wpAny_Name (wpAny_loadName_local I.ok.kind hk hn hm q) hd
 ·rcases hk with hk | hk
  ·exact wpAny_Name (wpAny_loadName_cell I.ok.kind hk hc hcell q) hd
  ·exact wpAny_Name (wpAny_loadName_free I.ok.kind hk hc hcell q hcd) hd
def tRpl (c z:Str) (to:TE):TE:=fun σ H Q=>to σ H fun v H1=>∃ x:Str,v=.str x∧x.length+(x.length+1) * z.length≤16777216∧Q (.str (Txt.replace x c z)) H1
theorem zdk {o:Expr} {to:TE} {y c z:Str} {k j:Nat} {apos cpos p1 p2:Pos} (ho:PE X o to) (hp:(y,Value.str z k)∈X.ext) (h0:k≠0) (hb:k < b) (hz:(c == z)=false)
  (hbase:attributeBase o "replace" X.env (eval o X.env)=eval o X.env:=by rfl)
  (hfew:((backTo cpos (starEach [.Constant (.str c) j p1,.Name y p2] X.env)).all (fun x=>!x.1)&&(backToKw cpos (keywordEach [] X.env)).all (fun x=>x.1.isSome)
   && decide (([.Constant (.str c) j p1,.Name y p2]:List Expr).length+([]:List Keyword).length+(if([]:List Keyword).isEmpty then 0 else 1) < 30))=true:=by rfl)
  (hline:(apos.endLine == cpos.line)=true:=by rfl) (hd:(y == ("__debug__":Str))=false:=by decide) (hcd:(y == ("__classdict__":Str))=false:=by decide) :
  PEk X b (.Call (.Attribute o "replace" apos) [.Constant (.str c) j p1,.Name y p2] [] cpos) (tRpl c z to):=by
 refine⟨fun pins s σ H Q I hs h=>?_⟩
 refine wpAny_Call_method_late hbase hfew hline rfl (thk hs (ho pins s σ H _ I h) fun v s1 ⟨x,H1,I1,r1,xt,ex,hl,q1⟩ hb1=>?_)
 subst ex
 obtain⟨h1,h2⟩:=ziA I1 r1 (show tyV X.K "str" (.str xt) H1 from rfl)
 obtain⟨t1,rfl⟩:=r1
 refine⟨"str","str.replace",PySem.F.plainAttrs_str,PySem.F.slot_str_replace,PySem.F.type_str_replace,h1,h2,?_⟩
 have hs1:starEach [.Constant (.str c) j p1,.Name y p2] X.env=[(false,eval (.Constant (.str c) j p1) X.env),(false,eval (.Name y p2) X.env)]:=rfl
 rw[hs1]
 refine Calls.callWith_builtin rfl (Calls.evalArgs_plain ?_)
 refine Calls.spliced_cons (Calls.Constant_str (k:=j) (pos:=p1) ?_)
 refine Calls.spliced_cons (ziZ (pos:=p2) (s:={ s1 with toks:=s1.toks+1 }) (I1.tok _) hp ?_ hd hcd)
 refine Calls.spliced_nil ?_
 have n0:s1.toks≠0:=by omega
 have n1:s1.toks≠k:=by omega
 refine PySem.SC.replace n0 h0 n1 hz hl fun t' k'=>⟨.str _,H1,I1.tok _,⟨_,rfl⟩,q1⟩
end
end L2
namespace L2
open PySem PySem.Spec PyProof.Rows
theorem za9.nox {X:Cx} {b:Nat} {st:List Stmt} {t:TS} (h:za9 X.nox b st t):za9 X b st t:=⟨fun pins s σ H D I hb hw =>
 wpAny_mono (h.run pins s σ H D (I.wish _) hb hw) (fun _ _ q=>q.unwish) fun _ _ z=>False.elim z⟩
structure FnT (P:Program) (w:World) (K:W.Frag) (mg:Str→Option Value) (base:Heap) (CX:CXT) (k:Nat) (f:Addr) (fd:FuncData) (ps:List Str) (j:Nat) (sp:Sp):Prop where
 len:∀ vs H Q E,sp vs H Q E→vs.length=ps.length
 run:∀(A:Around) (outer:List Env) (s:Shared) (H:Hp) (args:Args) (us:List Value) (vs:List V) (Q:VK) (E:XK) (z:Str) (t:Nat),zai k A→zdP P w K mg base A outer s H→BindsTo s fd args (ps.zip us)→ap vs us→us[j]?=some (.str z t)→t≠0→t < s.toks→sp vs H Q E →
  codeAny (model P w) A (.call (.ref f) args) (CR CX outer P w H s Q E) s
theorem ap.str_at:∀ {vs:List V} {us:List Value} {j:Nat} {z:Str} {t:Nat},ap vs us→us[j]?=some (.str z t)→vs[j]?=some (.str z)
 | _,_,j,z,t,.nil,e=>by simp at e
 | _,_,0,z,t,.cons (a:=a) r _,e=>by
  simp at e
  subst e
  cases a with
  | str x=>obtain⟨t',h⟩:=r;cases h;rfl
  | int x=>obtain⟨t',h⟩:=r;cases h
  | byt x=>obtain⟨t',h⟩:=r;cases h
  | flt x=>obtain⟨t',h⟩:=r;cases h
  | _=>cases r
 | _,_,j+1,z,t,.cons _ r,e=>by
  simp only[List.getElem?_cons_succ]at e ⊢
  exact ap.str_at r e
theorem fn_ofT {CX:CXT} {P:Program} {w:World} {K:W.Frag} {mg:Str→Option Value} {base:Heap} {k:Nat} {f:Addr} {name qual:Str} {params:Arguments} {body:List Stmt} {scope:Scope} {dV kV doc pm cdv ct oc:Value} {an od:Option Addr}
  {osl:Array (Option Value)} {N ps:List Str} {sp:Sp} {j:Nat} {y:Str} (lk:K.lookup f=some ⟨oc,od,.func (W.fnOf name qual params body scope dV kV doc pm an cdv ct),osl⟩) (hcd:W.codeIn K cdv qual=true) (S:zac N ps scope)
  (hj:ps[j]?=some y) (hy:y≠"%") (hyl:scope.names.lookup y=some .local) (len:∀ vs H Q E,sp vs H Q E→vs.length=ps.length)
  (hbody:∀(A:Around) (outer:List Env) (s:Shared) (H:Hp) (vs:List V) (Q:VK) (E:XK) (z:Str) (t:Nat),zai k (A.deeper (envOfC qual scope s.heap.objs.size f cdv))→sp vs H Q E→vs[j]?=some (.str z)→t≠0→t < s.toks →
   ∃ r,za9 ((zaj CX P w K mg base N qual scope f cdv A outer s H E).put j y (.str z t)) s.toks body r∧r { nx:=fun _ H'=>Q .non H',rt:=Q } ((zbs N vs).set j none) H) :
  FnT P w K mg base CX (k+1) f (W.fnOf name qual params body scope dV kV doc pm an cdv ct) ps j sp:=by
 refine⟨len,fun A outer s H args us vs Q E z tk hr e0 hb r ej t0 tl hsp=>?_⟩
 have hl:=len _ _ _ _ hsp
 have KX:K.In s.heap:=e0.mod.kin.keeps fun b o e=>(e0.bs b o e).1
 have lim:s.heap.NoLimit:=e0.mod.nolimit.keeps fun b o e=>(e0.bs b o e).1
 have hkind:∀ y∈ps.zip us,scope.names.lookup y.1=some .local∨(scope.names.lookup y.1=some .cell∧((cellsFrom (s.heap.objs.size+1) scope.names []).lookup y.1).isSome=true):=fun⟨n,v⟩ hy=>by
  rcases S.par n (List.of_mem_zip hy).1 with q | q
  ·exact .inl q
  ·exact .inr ⟨q,W.cellsFrom_some _ _ _ (.inl q)⟩
 refine codeAny_call_function hr.depth (KX _ _ lk) rfl S.co S.gen rfl (W.codeRec_of KX hcd) (hb _ _ _ _ ?_)
 refine wpAny_mono (wpAny_toks (wpAny_newFunctionEnv_cells (Q:=fun env s1=>env=newEnv scope s.heap.objs.size mainGlobals (cellsFrom (s.heap.objs.size+1) scope.names []) (qual++".<locals>.") (some f) cdv none builtinsNs∧InCallC s env.locals (bindL env.kindOf (ps.zip us) fun _=>none) env.cells (bindC env.kindOf (ps.zip us) fun _=>none) s1) S.kind hkind fun env he s1 x=>⟨he,x⟩)) (fun env s1 h1=>?_) (fun _ _ h=>h.2)
 obtain⟨hb1,he,x⟩:=h1
 subst he
 refine⟨lim.keeps x.toInCall.keep,codeAny_func ?_⟩
 have I:Inv (zaj CX P w K mg base N qual scope f cdv A outer s H E) [] (zbs N vs) H s1:=zd7 S hr.hd e0 hl r x
 have hpl:ps.length≤N.length:=by have:=congrArg List.length S.pre;rw[List.length_take]at this;omega
 have hNj:N[j]?=some y:=by
  have hjl:=(List.getElem?_eq_some_iff.mp hj).1
  rw[←S.pre,List.getElem?_take_of_lt (by omega)]at hj
  exact hj
 have ndP:ps.Nodup:=by rw[←S.pre];exact S.nd.sublist (List.take_sublist _ _)
 obtain⟨rt,ht,hq⟩:=hbody A outer s H vs Q E z tk (hr.deeper _) hsp (r.str_at ej) t0 tl
 have IP:=I.put (i:=j) (y:=y) (u:=.str z tk) S.nd hNj hy ⟨_,x.toInCall.ns,.inl ⟨hyl,zd9 ndP hj ej hyl⟩⟩
 refine wpAny_mono (ht.run [] s1 _ H _ IP hb1 hq) (fun fl s' hs=>?_) fun e s' hs=>hs
 have fin:∀ {σ':St} {H':Hp} {v:V} {u:Value},Inv ((zaj CX P w K mg base N qual scope f cdv A outer s H E).put j y (.str z tk)) [] σ' H' s'→ar v u→Q v H'→CE outer P w H s Q u s' :=
  fun {σ' H' v u} J rv q=>⟨v,H',J.os,J.bare,J.base,J.hok,rv,q⟩
 cases fl with
 | ret u =>
  obtain⟨v,σ',H',J,rv,q⟩:=hs
  exact fin J rv q
 | next =>
  obtain⟨σ',H',J,q⟩:=hs
  exact fin (v:=V.non) (u:=Value.none) J rfl q
 | brk =>
  obtain⟨_,_,_,q⟩:=hs
  exact False.elim q
 | cont =>
  obtain⟨_,_,_,q⟩:=hs
  exact False.elim q
section
variable {P:Program} {w:World} {K:W.Frag} {mg:Str→Option Value} {base:Heap}
theorem Fun.okT {x qual:Str} {st:Stmt} {f:Addr} {fd:FuncData} {N ps:List Str} {k:Nat} {sp:Sp} {j:Nat} {y:Str} (F:Fun K x qual st f fd) (S:zac N ps (ag st)) (hj:ps[j]?=some y) (hy:y≠"%") (hyl:(ag st).names.lookup y=some .local) (len:∀ vs H Q E,sp vs H Q E→vs.length=ps.length)
  (hbody:∀(cdv:Value) (A:Around) (outer:List Env) (s:Shared) (H:Hp) (vs:List V) (Q:VK) (E:XK) (z:Str) (t:Nat),zai k (A.deeper (envOfC qual (ag st) s.heap.objs.size f cdv))→sp vs H Q E→vs[j]?=some (.str z)→t≠0→t < s.toks →
   ∃ r,za9 ((zaj CX0 P w K mg base N qual (ag st) f cdv A outer s H E).nox.put j y (.str z t)) s.toks (zaC st) r∧r { nx:=fun _ H'=>Q .non H',rt:=Q } ((zbs N vs).set j none) H):FnT P w K mg base CX0 (k+1) f fd ps j sp:=by
 obtain⟨oc,od,kV,doc,pm,an,cdv,ct,osl,rfl,lk,hcd⟩:=F.ex
 refine fn_ofT lk hcd S hj hy hyl len fun A outer s H vs Q E z t hr hsp hz t0 tl=>?_
 obtain⟨r,h,q⟩:=hbody cdv A outer s H vs Q E z t hr hsp hz t0 tl
 exact⟨r,za9.nox h,q⟩
end
section
variable {X:Cx} {CX:CXT} {k b:Nat} {f:Addr} {fd:FuncData} {ps:List Str} {sp:Sp} {E:XK} {x y z:Str} {p q pos:Pos} {e:Expr} {te:TE} {tk:Nat}
def tCallT (sp:Sp) (E:XK) (z:Str) (te:TE):TE:=fun σ H Q=>te σ H fun v H1=>sp [v,.str z] H1 Q E
theorem zc6 (F:FnT X.prog X.w X.K X.mg X.base CX k f fd ps 1 sp) (hr:zai k X.A) (hg:Gl X x) (hm:X.mg x=some (.ref f)) (hk:W.keepIn X.K (.ref f)=true) (hbi:aq X.K fd ps []) (hx:zbu CX X E)
  (he:PE X e te) (hp:(y,Value.str z tk)∈X.ext) (h0:tk≠0) (hb:tk < b) (hdb:(x == ("__debug__":Str))=false:=by decide)
  (hs:starEach [e,.Name y q] X.env=[(false,eval e X.env),(false,eval (.Name y q) X.env)]:=by rfl) (hd:(y == ("__debug__":Str))=false:=by decide) (hcd:(y == ("__classdict__":Str))=false:=by decide) :
  PEk X b (.Call (.Name x p) [e,.Name y q] [] pos) (tCallT sp E z te):=by
 refine⟨fun pins s σ H Q I hbs h=>?_⟩
 refine wpAny_Call_Name_kw (zcK I hg hm ?_ hdb)
 refine W.callWith_K (h₀:=X.base) I.ok.mod.kin hk ?_ hs rfl
 rw[hs]
 refine Calls.spliced_cons (thk hbs (he pins s σ H _ I h) fun v s1 ⟨x1,H1,I1,r1,q1⟩ hb1=>?_)
 refine Calls.spliced_cons (ziZ (pos:=q) I1 hp ?_ hd hcd)
 refine Calls.spliced_nil ⟨I1.kIn,?_⟩
 have r2:ap [x1,.str z] [v,.str z tk]:=.cons r1 (.cons ⟨tk,rfl⟩ .nil)
 have hl:[v,Value.str z tk].length=ps.length:=by rw[←r2.length];exact F.len _ _ _ _ q1
 have bi:=hbi s1 [v,.str z tk] I1.kIn (by rw[List.append_nil];exact hl)
 rw[List.append_nil]at bi
 refine wpAny_call (codeAny_mono (F.run X.A X.stack s1 H1 ⟨[v,.str z tk],[]⟩ [v,.str z tk] [x1,.str z] Q E z tk hr I1.env0 bi r2 rfl h0 (Nat.lt_of_lt_of_le hb hb1) q1) fun r s' hq=>?_)
 cases r with
 | error e=>exact hx pins σ H1 s1 e s' I1 hq
 | ok fl =>
  cases fl with
  | ret u=>exact I1.after hq
  | next=>exact False.elim hq
  | brk=>exact False.elim hq
  | cont=>exact False.elim hq
end
end L2
namespace L2
open PySem PySem.Spec PyProof.Rows
abbrev Cx.withE (X:Cx) (l:List (Str × Value)):Cx:={ X with ext:=l }
theorem Cx.Ok.withE {X:Cx} (ok:X.Ok) (l:List (Str × Value)):(X.withE l).Ok:=⟨ok.mod,ok.kind,ok.glob,ok.blt,ok.above,ok.inj,ok.has,ok.cab,ok.hd,ok.frames,ok.stk,ok.exf,ok.bs,ok.bsz,ok.noex,ok.exfs,ok.funs,ok.frf⟩
theorem Cx.Ok.dropE {X:Cx} {l:List (Str × Value)} (ok:(X.withE l).Ok):X.Ok:=⟨ok.mod,ok.kind,ok.glob,ok.blt,ok.above,ok.inj,ok.has,ok.cab,ok.hd,ok.frames,ok.stk,ok.exf,ok.bs,ok.bsz,ok.noex,ok.exfs,ok.funs,ok.frf⟩
section
variable {X:Cx} {pins:List (Addr × Obj)} {σ:St} {H:Hp} {s:Shared} {l:List (Str × Value)}
theorem Inv.withE (I:Inv X pins σ H s) (h:∃ m,s.heap.Ns X.env.locals m∧∀ p∈l,p.1∉X.N∧Look X.env s.heap m p.1 p.2):Inv (X.withE l) pins σ H s:=⟨I.ok.withE l,I.os,I.bare,I.base,I.loc,I.cell,I.free,I.freeC,I.pin,I.hok,I.len,h⟩
theorem Inv.dropE (hx:X.ext=[]) (I:Inv (X.withE l) pins σ H s):Inv X pins σ H s:=⟨I.ok.dropE,I.os,I.bare,I.base,I.loc,I.cell,I.free,I.freeC,I.pin,I.hok,I.len,by
 obtain⟨m,hn,_⟩:=I.loc
 exact⟨m,hn,by rw[hx];exact zdy⟩⟩
end
abbrev zbC (X:Cx) (N':List Str) (scope:Scope) (cl:List (Str × Addr)) (fp:List Addr) (s₃:Shared) (H₃:Hp):Cx:=(zaA X N' scope cl fp s₃ H₃).withE X.ext
section
variable {X:Cx} {N':List Str} {scope:Scope} {cl:List (Str × Addr)} {fp:List Addr} {pins:List (Addr × Obj)} {σ σ':St} {H:Hp} {s:Shared}
theorem zhe {h₁:Heap} {t':Nat} (hxe:∀ p∈X.ext,p.1∉N'∧(X.env.kindOf p.1=some .cell∨X.env.kindOf p.1=some .free)∧((relabel scope X.env).names.lookup p.1=some .cell∨(relabel scope X.env).names.lookup p.1=some .free))
  (I:Inv X pins σ H s) (C:Clo X scope cl) (J:Inv (zaA X N' scope cl fp s H) [] σ' H { s with heap:=h₁,toks:=t' }) (hk:∀ b o,s.heap.get? b=some o→h₁.get? b=some o):Inv (zbC X N' scope cl fp s H) [] σ' H { s with heap:=h₁,toks:=t' }:=by
 obtain⟨m,hn,_⟩:=id J.loc
 refine J.withE ⟨m,hn,fun p hp=>?_⟩
 obtain⟨n1,k1,k2⟩:=hxe p hp
 refine⟨n1,.inr ⟨k2,?_⟩⟩
 obtain⟨_,_,hl⟩:=I.ext
 rcases(hl p hp).2 with ⟨k,_⟩ | ⟨_,c,ec,o,ho,hd⟩
 ·rcases k1 with z | z
  ·rw[z]at k;cases k
  ·rw[z]at k;cases k
 ·obtain⟨c',ec'⟩:=C.has _ k2
  have:c'=c:=Option.some.inj ((C.sub _ _ ec').symm.trans ec)
  subst this
  exact⟨c',ec',o,hk c' o ho,hd⟩
end
section
variable {X:Cx} {N':List Str} {scope:Scope} {elt iter:Expr} {x:Str} {px pos:Pos} {wi:TI} {te:TE} {ix:List Nat}
theorem zka {b:Nat} (hxe:∀ p∈X.ext,p.1∉N'∧(X.env.kindOf p.1=some .cell∨X.env.kindOf p.1=some .free)∧((relabel scope X.env).names.lookup p.1=some .cell∨(relabel scope X.env).names.lookup p.1=some .free)) (hc:X.calm=true) (hkind:scope.kind=.function) (hcell:∀ y∈scope.names,y.2≠.cell) (hnames:∀ y∈scope.names,y.2=.local→scope.names.lookup y.1=some .local) (hx:scope.names.lookup x=some .local)
  (hclo:X.Ok→∃ cl,Clo X scope cl) (hN:N'.Nodup) (hN0:N'[0]?=some x) (hlen:N'.length=ix.length+1)
  (hix:∀(j i:Nat),ix[j]?=some i→∃ y,X.N[i]?=some y∧N'[j+1]?=some y∧(X.env.kindOf y=some .cell∨X.env.kindOf y=some .free)∧((relabel scope X.env).names.lookup y=some .cell∨(relabel scope X.env).names.lookup y=some .free))
  (hi:PI X (.Name x px) iter wi) (he:∀ cl fp s₃ H₃,PEk (zbC X N' scope cl fp s₃ H₃) b elt te) (hs:∀ v,foldedSetIterable iter X.env v=pure v) {use:Option (Value→Sem Unit)} {Qf:Value→Shared→Prop} {pins:List (Addr × Obj)} {s:Shared} {σ:St} {H:Hp} {Q:VK} {cp:Pos} (I:Inv X pins σ H s) (hbs:b≤s.toks) (h:tLC wi ix te σ H Q)
  (fin:∀(cl:List (Str × Addr)) (fp:List Addr) (s3 s6:Shared) (H3 H5:Hp) (σ6:St) (D:Addr),Inv X pins σ H3 s3→Inv (zaA X N' scope cl fp s3 H3) [] σ6 H5 s6→(∀ b∈fp,zbt X pins H3 b)→Q (.ref D) H5→compPost (model X.prog X.w) X.A X.xe use Qf (.ref D) s3.heap.objs.size (.ok .next) s6) :
  wpAny (model X.prog X.w) X.A (comprehension (.ListComp elt [⟨.Name x px,iter,[],0⟩] scope pos) scope X.env cp (newList []) false (eval iter X.env) use) Qf X.xe s:=by
 obtain⟨cl,C⟩:=hclo I.ok
 refine wpAny_comprehension_free rfl hs C.eq hkind hnames (thk hbs (hi pins s σ H _ I h) fun v s1 h1 hb1=>thk hb1 h1 fun itv s2 h2 hb2=>?_)
 obtain⟨it,fp,tn,J,H2,e,I2,T,st2,f2,q2⟩:=h2
 subst e
 have hD:H2 s2.heap.objs.size=none:=I2.fresh
 obtain⟨W,⟨m0,w0⟩,turn⟩:=q2 s2.heap.objs.size hD
 refine wpAny_newObj_type (wpAny_newFunctionEnv hcell (by intro y hy;simp at hy) (fun h₁ hns₁ hsb₁=>?_) hkind)
 dsimp only at hns₁ hsb₁ ⊢
 have I3:Inv X pins σ (upd H2 s2.heap.objs.size (.lst [])) { s2 with heap:=s2.heap.push { cls:=.type "list",data:=.seq ([]:List Value).toArray },toks:=s2.toks }:=I2.lnew .nil (Nat.zero_le _)
 generalize hs3:({ s2 with heap:=s2.heap.push { cls:=.type "list",data:=.seq ([]:List Value).toArray },toks:=s2.toks }:Shared)=s3 at I3
 have e3:s3.heap=s2.heap.push { cls:=.type "list",data:=.seq ([]:List Value).toArray }:=by rw[←hs3]
 generalize hDD:s2.heap.objs.size=D at *
 generalize hH3:upd H2 D (.lst [])=H3 at *
 have lt2:∀ b∈fp,b < s2.heap.objs.size:=fun b hb=>by
  obtain⟨o,ho,_⟩:=T.obj 0 _ st2 b hb
  exact Heap.lt_size ho
 have neD:∀ b∈fp,b≠D:=fun b hb=>by rw[←hDD];exact Nat.ne_of_lt (lt2 b hb)
 have f3:∀ b∈fp,zbt X pins H3 b:=fun b hb=>⟨by rw[←hH3,zag (neD b hb)];exact(f2 b hb).1,(f2 b hb).2⟩
 have sz3:s3.heap.objs.size=D+1:=by rw[e3,Heap.size_push,hDD]
 have lt3:∀ b∈fp,b < s3.heap.objs.size:=fun b hb=>by have q:=lt2 b hb;rw[sz3];rw[hDD]at q;exact Nat.lt_succ_of_lt q
 have old:∀ b o,s3.heap.get? b=some o→h₁.get? b=some o:=fun b o eb=>by
  have hb:b < D+1:=by rw[←sz3];exact Heap.lt_size eb
  refine hsb₁.extBut b o ?_ (Heap.get?_push_of_some _ (by rw[←e3];exact eb))
  rw[Heap.size_push,hDD]
  exact Nat.ne_of_lt hb
 have szC:(s2.heap.push { cls:=.type "list",data:=.seq ([]:List Value).toArray }).objs.size=s3.heap.objs.size:=by rw[e3]
 have os3:s3.os=s2.os:=by rw[←hs3]
 rw[szC]at hns₁ hsb₁
 have I4:Inv (zbC X N' scope cl fp s3 H3) [] (none :: fvs σ ix) H3 { s3 with heap:=h₁,toks:=s2.toks+([]:List (Str × Value)).length }:=zhe hxe I3 C (zdM I3 C hkind f3 lt3 hlen hix hns₁ old) old
 have st4:tn 0 h₁:=T.keep 0 _ _ st2 fun b hb o eb=>old b o (by rw[e3];exact Heap.get?_push_of_some _ eb)
 have stat:∀ {H':Hp},(∀ b∈fp,H' b=none)→∀ b∈fp,zbt (zbC X N' scope cl fp s3 H3) [] H' b:=fun hn b hb =>
  ⟨hn b hb,Nat.ne_of_lt (lt3 b hb),fun hs'=>(zch (N':=N') I3 C hkind f3 lt3).exfs b hb hs',.inl hb,fun y c hy=>((zch (N':=N') I3 C hkind f3 lt3).exf b hb).2 y c hy,fun p hp=>absurd (show p∈([]:List (Addr × Obj)) from hp) (by simp)⟩
 have loop:∀ s4:Shared,s4={ s3 with heap:=h₁,toks:=s2.toks+([]:List (Str × Value)).length } →
   codeAny (model X.prog X.w) X.A (.compLoop (.ListComp elt [⟨.Name x px,iter,[],0⟩] scope pos) 0 (.ref it) (.ref D) (compEnvC scope cl s3.heap.objs.size X.env))
    (compPost (model X.prog X.w) X.A X.xe use Qf (.ref D) s3.heap.objs.size) s4:=by
  rintro s4 rfl
  refine zdl (fun n s'=>∃ i σ0 H' ys,Inv (zbC X N' scope cl fp s3 H3) [] (σ0 :: fvs σ ix) H' s'∧tn i s'.heap∧(∀ b∈fp,H' b=none)∧W i n ys H'∧b≤s'.toks) ?_ m0 ⟨0,none,H3,[],I4,st4,fun b hb=>(f3 b hb).1,w0,by rw[←hs3]at *;exact hb2⟩
  rintro n s5 ⟨i,σ0,H5,ys,I5,st5,fr5,w5,hb5⟩
  obtain⟨hD5,alt⟩:=turn i n ys H5 w5
  rcases alt with ⟨stop,q⟩ | ⟨go,step⟩
  ·refine thn (T.done (zbC X N' scope cl fp s3 H3) rfl rfl rfl hc i [] s5 _ H5 _ I5 (stat fr5) st5 stop) fun r s6 ⟨hr,I6⟩=>?_
   subst hr
   exact fin cl fp s3 s6 H3 H5 _ D I3 (I6.dropE rfl) f3 q
  ·refine thk hb5 (T.item (zbC X N' scope cl fp s3 H3) rfl rfl rfl hc i [] s5 _ H5 _ I5 (stat fr5) st5 go) fun r s6 ⟨u,hr,h6⟩ hb6=>?_
   subst hr
   refine thk hb6 h6 fun _ s7 ⟨y7,H7,I7,r7,yl7,st7,fr7⟩ hb7=>?_
   have I7':=I7.pinned (stat fr7) (T.obj _ _ st7)
   have G:PG (zbC X N' scope cl fp s3 H3) (.Name x px) (zbi 0):=zaY hN hN0 (.inl (lookup_relabel_local hx)) (.inr (lookup_relabel_local hx))
   refine wpAny_mono (wpAny_toks_of hb7 (G _ s7 _ H7 y7 u (fun σ' H'=>σ'=some y7 :: fvs σ ix∧H'=H7) I7' r7 ⟨rfl,rfl⟩)) (fun _ s8 h8=>?_) fun _ _ f=>False.elim f.2
   obtain⟨hb8,σ8,H8,I8,rfl,rfl⟩:=h8
   refine wpAny_mono (wpAny_toks_of hb8 ((he cl fp s3 H3).run _ s8 _ H8 _ I8 hb8 (step y7 H8 yl7))) (fun yv s9 h9=>?_) fun _ _ f=>False.elim f.2
   obtain⟨hb9,y9,H9,I9,r9,hD9,hl9,m',hm',w9⟩:=h9
   refine wpAny_mono (wpAny_toks_of hb9 (zc7 (X:=zbC X N' scope cl fp s3 H3) _ s9 _ H9 (.ref D) [y9] (.ref D) [yv] (fun _ H'=>H'=upd H9 D (.lst (ys++[y9]))) I9 rfl (.cons r9 .nil) ⟨D,ys,y9,rfl,rfl,hD9,hl9,rfl⟩)) (fun _ s10 h10=>?_) fun _ _ f=>False.elim f.2
   obtain⟨hb10,_,H10,I10,_,rfl⟩:=h10
   refine⟨m',hm',i+1,some y7,_,ys++[y9],I10.unpinned,T.keep _ _ _ st7 fun b hb o eb=>(I10.pin (b,o) (List.mem_append_right _ (List.mem_append_right _ (zbm hb eb)))).1,fun b hb=>?_,w9,hb10⟩
   obtain⟨o,eb,d⟩:=T.obj _ _ st7 b hb
   exact(I10.pin (b,o) (List.mem_append_right _ (List.mem_append_right _ (zbm hb eb)))).2.1
 subst hs3
 have fin':=codeAny_compStart_list (loop _ rfl) (T.self X.A 0 _ _ _ st4 (loop _ rfl))
 exact fin'
theorem zjl {b:Nat} (hxe:∀ p∈X.ext,p.1∉N'∧(X.env.kindOf p.1=some .cell∨X.env.kindOf p.1=some .free)∧((relabel scope X.env).names.lookup p.1=some .cell∨(relabel scope X.env).names.lookup p.1=some .free)) {i:Nat} {y0:Str} {py spos:Pos} (hNy:X.N.Nodup) (hiy:X.N[i]?=some y0) (hy:Loc X.env.scope y0) (hc:X.calm=true) (hkind:scope.kind=.function) (hcell:∀ y∈scope.names,y.2≠.cell) (hnames:∀ y∈scope.names,y.2=.local→scope.names.lookup y.1=some .local) (hx:scope.names.lookup x=some .local)
  (hclo:X.Ok→∃ cl,Clo X scope cl) (hN:N'.Nodup) (hN0:N'[0]?=some x) (hlen:N'.length=ix.length+1)
  (hix:∀(j i:Nat),ix[j]?=some i→∃ y,X.N[i]?=some y∧N'[j+1]?=some y∧(X.env.kindOf y=some .cell∨X.env.kindOf y=some .free)∧((relabel scope X.env).names.lookup y=some .cell∨(relabel scope X.env).names.lookup y=some .free))
  (hi:PI X (.Name x px) iter wi) (he:∀ cl fp s₃ H₃,PEk (zbC X N' scope cl fp s₃ H₃) b elt te) (hsw:swapsWith (.ListComp elt [⟨.Name x px,iter,[],0⟩] scope pos) (some (.Name y0 py)) spos.line X.env=pure true:=by rfl)
  (hf:X.fn y0=true∨X.env.scope.names.lookup y0=some .local:=by first | exact .inl rfl | exact .inr rfl | assumption) (hs:∀ v,foldedSetIterable iter X.env v=pure v:=by intro _;rfl) :
  PSk X b (.Assign [.Name y0 py] (.ListComp elt [⟨.Name x px,iter,[],0⟩] scope pos) spos) (zdO (tLC wi ix te) (zbi i)):=by
 refine⟨fun pins s σ H Dn I hbs h=>?_⟩
 rw[exec_Assign_Name_used _ _ _ _ hsw]
 refine wpAny_bind (wpAny_standAt (wpAny_bind ?_))
 rw[arm_evalThenUse_ListComp]
 refine wpAny_bind (wpAny_mono (zka hxe (use:=some (assign (.Name y0 py) X.env)) (Qf:=fun _ s'=>∃ σ' H',Inv X pins σ' H' s'∧Dn.nx σ' H') (Q:=fun x H1=>zbi i x σ H1 Dn.nx) hc hkind hcell hnames hx hclo hN hN0 hlen hix hi he hs I hbs h fun cl fp s3 s6 H3 H5 σ6 D I3 I6 f3 q=>?_) (fun _ s' h'=>wpAny_pure (wpAny_pure h')) fun _ _ z=>z)
 obtain⟨m,hn,_⟩:=I6.loc
 have Io:Inv X pins σ H5 s6:=zcT (h':=s6.heap) I3 I6 f3 ⟨rfl,fun _ _=>rfl⟩
 refine wpAny_assign_Name (zc5 (v:=.ref D) Io hNy hiy hy rfl (fun s7 I7 ⟨a,sb,ha⟩=>?_) hf)
 have ltC:∀ x c,X.env.cells.lookup x=some c→c < s3.heap.objs.size:=fun x c e=>by
  obtain⟨v,hv⟩:=I3.cell x c e
  exact hv.lt
 have hCa:s3.heap.objs.size≠a:=by
  rintro rfl
  rcases ha with z | z
  ·exact absurd I3.lt (by rw[←z];exact Nat.lt_irrefl _)
  ·exact absurd (ltC _ _ z) (Nat.lt_irrefl _)
 refine⟨m,hn.sameBut sb hCa,fun h' hsb=>⟨_,H5,?_,q⟩⟩
 exact I7.skip hsb I3.sz (Nat.ne_of_gt I3.lt) (fun x c e=>Nat.ne_of_lt (ltC x c e)) (fun p hp=>Nat.ne_of_lt (Heap.lt_size (I3.pin p hp).1)) I6.free
end
section
variable {X:Cx} {b:Nat} {e:Expr} {st:Stmt} {zaH:List Stmt} {te:TE} {t u:TS} {pos:Pos}
theorem zhp {tg:Expr} {g:TG} (he:PEk X b e te) (hg:PG X tg g) (hs:swapsWithSole [tg] e pos.line X.env=pure false:=by rfl) (hw:swappedStores [tg] e X.env=pure none:=by rfl)
  (h1:(assignEach [tg] X.env).map (·.2)=[assign tg X.env]:=by rfl):PSk X b (.Assign [tg] e pos) (zdO te g):=by
 refine⟨fun pins s σ H D I hb h=>?_⟩
 refine wpAny_Assign_stores (thn (he.run pins s σ H _ I hb h) fun v s1 ⟨x,H1,I1,r1,q1⟩=>?_) hs hw
 rw[h1]
 exact thn (hg pins s1 σ H1 x v _ I1 r1 q1) fun _ s2 q=>q
def PEm (X:Cx) (b:Nat) (e:Expr) (t:TE):Prop :=
 ∀(pins:List (Addr × Obj)) (s:Shared) (σ:St) (H:Hp) (Q:VK),Inv X pins σ H s→b≤s.toks→t σ H Q →
  wpAny (model X.prog X.w) X.A (eval e X.env) (fun v s'=>∃(z:Str) (k:Nat) (H':Hp),v=.str z k∧k≠0∧k < s'.toks∧Inv X pins σ H' s'∧Q (.str z) H') X.xe s
theorem zkD {c:Str} {j:Nat} {p1 p2:Pos} (he:PE X e te):PEm X 1 (.BinOp (.Constant (.str c) j p1) .Add e p2) (fun σ H Q=>te σ H fun v H1=>∃ y:Str,v=.str y∧c.length≠0∧(c++y).length≤sizeLine∧Q (.str (c++y)) H1):=by
 intro pins s σ H Q I hb h
 refine wpAny_BinOp (Calls.Constant_str (k:=j) (pos:=p1) ?_)
 refine thk (b:=s.toks+1) (s:={ s with toks:=s.toks+1 }) (Nat.le_refl _) (he pins _ σ H _ (I.tok _) h) fun u s1 ⟨v,H1,I1,r1,y,ev,c0,hz,q⟩ hb1=>?_
 subst ev
 obtain⟨t1,rfl⟩:=r1
 refine PySem.P.add_str ?_
 rw[if_neg (by simpa using c0)]
 by_cases y0:y.length=0
 ·rw[if_pos (by simpa using y0)]
  have e:c++y=c:=by
   have:y=⟨#[]⟩:=by
    cases y with | mk a=>exact congrArg Str.mk (Array.eq_empty_of_size_eq_zero y0)
   subst this
   show Str.mk (c.cps++#[])=c
   rw[Array.append_empty]
  rw[e]at q
  exact⟨c,s.toks,H1,rfl,by omega,by omega,I1,q⟩
 ·rw[if_neg (by simpa using y0)]
  exact⟨hz,_,s1.toks,H1,rfl,by omega,Nat.lt_succ_self _,I1.tok _,q⟩
end
end L2
namespace PySem
section
variable {M:Model} {A:Around} {s₀:Shared} {env:Env}
theorem zbR (f:Str × Value→PUnit→Sem (ForInStep PUnit)) (hf:∀ n v u,f (n,v) u=(do storeName env n v;pure (.yield ⟨⟩))) (hk:env.scope.kind=.function) :
  ∀(binds:List (Str × Value)) (m cm:Str→Option Value) (s:Shared) (Q:PUnit→Shared→Prop) (E:Value→Shared→Prop),InCallC s₀ env.locals m env.cells cm s →
   (∀ x∈binds,env.kindOf x.1=some .local∨(env.kindOf x.1=some .cell∧(env.cells.lookup x.1).isSome=true)) →
   (∀ s',InCallC s₀ env.locals (bindL env.kindOf binds m) env.cells (bindC env.kindOf binds cm) s'→((∃ x∈binds,env.kindOf x.1=some .local)→1≤s'.toks)→Q ⟨⟩ s')→wpAny M A (forIn binds ⟨⟩ f) Q E s
 | [],m,cm,s,Q,E,x,_,h=>by rw[List.forIn_nil];exact wpAny_pure (h s x fun⟨_,z,_⟩=>nomatch z)
 | (n,v) :: r,m,cm,s,Q,E,x,hkind,h=>by
  rw[List.forIn_cons,hf]
  have hr:∀ y∈r,env.kindOf y.1=some .local∨(env.kindOf y.1=some .cell∧(env.cells.lookup y.1).isSome=true):=fun y hy=>hkind y (List.mem_cons_of_mem _ hy)
  rcases hkind (n,v) List.mem_cons_self with hl | ⟨hl,hc⟩
  ·refine wpAny_bind (wpAny_bind (wpAny_storeName_local hl x.toInCall.ns (fun h' hn' hs'=>wpAny_pure ?_) (by rw[hk];rfl)))
   have x':InCallC s₀ env.locals (fun y=>if y=n then some v else m y) env.cells cm { s with heap:=h',toks:=s.toks+1 }:=by
    refine⟨⟨?_,hn',fun b o e=>?_,x.toInCall.fresh⟩,fun k c hc=>?_,x.apart,x.above⟩
    ·obtain⟨h₁,tk,rfl⟩:=x.toInCall.same
     exact⟨h',_,rfl⟩
    ·exact hs'.extBut b o (Nat.ne_of_lt (Nat.lt_of_lt_of_le (Heap.lt_size e) x.toInCall.fresh)) (x.toInCall.keep b o e)
    ·exact(x.cell k c hc).sameBut hs' (Nat.ne_of_gt (x.above k c (mem_of_lookup hc)))
   refine wpAny_with_toks (n:=1) (Nat.le_add_left 1 _) (zbR f hf hk r _ _ _ _ _ x' hr fun s'' x'' _ h1=>h s'' ?_ fun _=>h1)
   unfold bindL bindC;rw[if_pos hl,if_pos hl];exact x''
  ·obtain⟨c,hc⟩:=Option.isSome_iff_exists.mp hc
   have hnl:¬env.kindOf n=some .local:=by rw[hl];decide
   refine wpAny_bind (wpAny_bind (stCC x hk hl hc fun s' x'=>wpAny_pure (zbR f hf hk r _ _ s' Q E x' hr fun s'' x'' ht=>h s'' ?_ ?_)))
   ·unfold bindL bindC;rw[if_neg hnl,if_neg hnl];exact x''
   ·rintro ⟨y,hy,hyl⟩
    rcases List.mem_cons.mp hy with rfl | hy
    ·exact absurd hyl hnl
    ·exact ht ⟨y,hy,hyl⟩
variable {E:Value→Shared→Prop} {s:Shared}
theorem zcw {scope:Scope} {globals:Addr} {binds:List (Str × Value)} {qual:Str} {func:Option Addr} {code:Value} {builtins:Addr} {Q:Env→Shared→Prop}
  (hk:scope.kind=.function)
  (hkind:∀ x∈binds,scope.names.lookup x.1=some .local∨(scope.names.lookup x.1=some .cell∧((cellsFrom (s.heap.objs.size+1) scope.names []).lookup x.1).isSome=true))
  (hQ:∀ env,env=newEnv scope s.heap.objs.size globals (cellsFrom (s.heap.objs.size+1) scope.names []) qual func code none builtins →
   ∀ s',InCallC s env.locals (bindL env.kindOf binds fun _=>none) env.cells (bindC env.kindOf binds fun _=>none) s'→((∃ x∈binds,env.kindOf x.1=some .local)→1≤s'.toks)→Q env s') :
  wpAny M A (newFunctionEnv scope globals [] binds qual func code none builtins) Q E s:=by
 simp only[newFunctionEnv,Option.isSome_none,Bool.false_eq_true,if_false]
 refine wpAny_bind (wpAny_alloc ?_)
 refine wpAny_bind (wpAny_layCells _ (fun name kind cells=>by cases hkc:kind == NameKind.cell <;> simp [hkc]) _ _ _ _ ?_)
 have ok:=cellsFrom_ok scope.names (s.heap.push { cls:=.type "frame",data:=.dict #[] }) (s.heap.objs.size+1) [] ⟨fun _ _ hm=>(nomatch hm),List.Pairwise.nil⟩ (by rw[Heap.size_push];exact Nat.le_refl _)
 rw[Heap.size_push]at ok
 rw[show({ s with heap:=s.heap.push { cls:=.type "frame",data:=.dict #[] } }:Shared).heap.objs.size=s.heap.objs.size+1 from Heap.size_push ..]
 refine wpAny_bind (zbR (s₀:=s) (env:=newEnv scope s.heap.objs.size globals (cellsFrom (s.heap.objs.size+1) scope.names []) qual func code none builtins)
  _ (fun _ _ _=>rfl) hk binds (fun _=>none) (fun _=>none) _ _ _
  ⟨⟨⟨_,_,rfl⟩,(Heap.Ns.new s.heap (.type "frame")).keeps (pushCells_keeps _ _),fun b o e=>pushCells_keeps _ _ b o (Heap.get?_push_of_some _ e),Nat.le_refl _⟩,
   fun n c hc=>(ok.empty n c (mem_of_lookup hc)).1,ok.apart,fun n c hm=>(ok.empty n c hm).2⟩
  hkind fun s' x h1=>wpAny_pure (hQ _ rfl s' x h1))
end
end PySem
namespace L2
open PySem PySem.Spec PyProof.Rows
theorem fn_of1 {CX:CXT} {P:Program} {w:World} {K:W.Frag} {mg:Str→Option Value} {base:Heap} {k:Nat} {f:Addr} {name qual:Str} {params:Arguments} {body:List Stmt} {scope:Scope} {dV kV doc pm cdv ct oc:Value} {an od:Option Addr}
  {osl:Array (Option Value)} {N ps:List Str} {sp:Sp} {j:Nat} {y:Str} (lk:K.lookup f=some ⟨oc,od,.func (W.fnOf name qual params body scope dV kV doc pm an cdv ct),osl⟩) (hcd:W.codeIn K cdv qual=true) (S:zac N ps scope)
  (hj:ps[j]?=some y) (hyl:scope.names.lookup y=some .local) (len:∀ vs H Q E,sp vs H Q E→vs.length=ps.length)
  (hbody:∀(A:Around) (outer:List Env) (s:Shared) (H:Hp) (vs:List V) (Q:VK) (E:XK),zai k (A.deeper (envOfC qual scope s.heap.objs.size f cdv))→sp vs H Q E →
   ∃ t,za9 (zaj CX P w K mg base N qual scope f cdv A outer s H E) 1 body t∧t { nx:=fun _ H'=>Q .non H',rt:=Q } (zbs N vs) H) :
  FnOk P w K mg base CX (k+1) f (W.fnOf name qual params body scope dV kV doc pm an cdv ct) ps sp:=by
 refine⟨len,fun A outer s H args us vs Q E hr e0 hb r hsp=>?_⟩
 have hl:=len _ _ _ _ hsp
 have KX:K.In s.heap:=e0.mod.kin.keeps fun b o e=>(e0.bs b o e).1
 have lim:s.heap.NoLimit:=e0.mod.nolimit.keeps fun b o e=>(e0.bs b o e).1
 have hkind:∀ y∈ps.zip us,scope.names.lookup y.1=some .local∨(scope.names.lookup y.1=some .cell∧((cellsFrom (s.heap.objs.size+1) scope.names []).lookup y.1).isSome=true):=fun⟨n,v⟩ hy=>by
  rcases S.par n (List.of_mem_zip hy).1 with q | q
  ·exact .inl q
  ·exact .inr ⟨q,W.cellsFrom_some _ _ _ (.inl q)⟩
 refine codeAny_call_function hr.depth (KX _ _ lk) rfl S.co S.gen rfl (W.codeRec_of KX hcd) (hb _ _ _ _ ?_)
 refine zcw S.kind hkind fun env he s1 x h1=>?_
 subst he
 refine⟨lim.keeps x.toInCall.keep,codeAny_func ?_⟩
 obtain⟨t,ht,hq⟩:=hbody A outer s H vs Q E (hr.deeper _) hsp
 have I:Inv (zaj CX P w K mg base N qual scope f cdv A outer s H E) [] (zbs N vs) H s1:=zd7 S hr.hd e0 hl r x
 have ul:us.length=ps.length:=by rw[←r.length];exact hl
 have hb1:1≤s1.toks:=by
  refine h1 ?_
  obtain⟨hjl,ej⟩:=List.getElem?_eq_some_iff.mp hj
  refine⟨(y,us[j]'(by omega)),?_,hyl⟩
  have:(ps.zip us)[j]?=some (y,us[j]'(by omega)):=by
   rw[List.getElem?_zip_eq_some]
   exact⟨hj,List.getElem?_eq_getElem _⟩
  exact List.mem_of_getElem? this
 refine wpAny_mono (ht.run [] s1 (zbs N vs) H _ I hb1 hq) (fun fl s' hs=>?_) fun e s' hs=>hs
 have fin:∀ {σ':St} {H':Hp} {v:V} {u:Value},Inv (zaj CX P w K mg base N qual scope f cdv A outer s H E) [] σ' H' s'→ar v u→Q v H'→CE outer P w H s Q u s' :=
  fun {σ' H' v u} J rv q=>⟨v,H',J.os,J.bare,J.base,J.hok,rv,q⟩
 cases fl with
 | ret u =>
  obtain⟨v,σ',H',J,rv,q⟩:=hs
  exact fin J rv q
 | next =>
  obtain⟨σ',H',J,q⟩:=hs
  exact fin (v:=V.non) (u:=Value.none) J rfl q
 | brk =>
  obtain⟨_,_,_,q⟩:=hs
  exact False.elim q
 | cont =>
  obtain⟨_,_,_,q⟩:=hs
  exact False.elim q
theorem Fun.ok1 {P:Program} {w:World} {K:W.Frag} {mg:Str→Option Value} {base:Heap} {x qual:Str} {st:Stmt} {f:Addr} {fd:FuncData} {N ps:List Str} {k:Nat} {sp:Sp} {j:Nat} {y:Str} (F:Fun K x qual st f fd) (S:zac N ps (ag st)) (hj:ps[j]?=some y) (hyl:(ag st).names.lookup y=some .local) (len:∀ vs H Q E,sp vs H Q E→vs.length=ps.length)
  (hbody:∀(cdv:Value) (A:Around) (outer:List Env) (s:Shared) (H:Hp) (vs:List V) (Q:VK) (E:XK),zai k (A.deeper (envOfC qual (ag st) s.heap.objs.size f cdv))→sp vs H Q E →
   ∃ t,za9 (zaj CX0 P w K mg base N qual (ag st) f cdv A outer s H E).nox 1 (zaC st) t∧t { nx:=fun _ H'=>Q .non H',rt:=Q } (zbs N vs) H):FnOk P w K mg base CX0 (k+1) f fd ps sp:=by
 obtain⟨oc,od,kV,doc,pm,an,cdv,ct,osl,rfl,lk,hcd⟩:=F.ex
 refine fn_of1 lk hcd S hj hyl len fun A outer s H vs Q E hr hsp=>?_
 obtain⟨t,h,q⟩:=hbody cdv A outer s H vs Q E hr hsp
 exact⟨t,za9.nox h,q⟩
section
variable {X:Cx} {b:Nat} {e:Expr} {zaH:List Stmt} {te:TE} {pos:Pos}
def tMade (i:Nat) (te:TE) (u:Str→Nat→TS):TS:=fun D σ H=>te σ H fun v H1=>∀ z,v=.str z→∀ k,k≠0→u z k { nx:=fun _ _=>False,rt:=D.rt } (σ.set i none) H1
theorem SP.unput {pins:List (Addr × Obj)} {D:zaU} {f:Flow} {s:Shared} {i:Nat} {y:Str} {u:Value} (ok:X.Ok) (hx:X.ext=[]) (h:SP (X.put i y u) pins { nx:=fun _ _=>False,rt:=D.rt } f s):SP X pins D f s:=by
 cases f with
 | next=>obtain⟨_,_,_,q⟩:=h;exact q.elim
 | brk=>obtain⟨_,_,_,q⟩:=h;exact(show False from q).elim
 | cont=>obtain⟨_,_,_,q⟩:=h;exact(show False from q).elim
 | ret u=>obtain⟨v,σ',H',I,r,q⟩:=h;exact⟨v,_,H',I.unput ok hx,r,q⟩
theorem zjk {i:Nat} {y:Str} {pos':Pos} {u:Str→Nat→TS} (hN:X.N.Nodup) (hi:X.N[i]?=some y) (hy:y≠"%") (hyl:X.env.scope.names.lookup y=some .cell) (hfn:X.fn y=true) (hx:X.ext=[]) (he:PEm X b e te) (hr:∀ z k,k≠0→za9 (X.put i y (.str z k)) (k+1) zaH (u z k))
  (hs:swapsWith e (some (.Name y pos')) pos.line X.env=pure false:=by rfl):za9 X b (.Assign [.Name y pos'] e pos :: zaH) (tMade i te u):=by
 refine⟨fun pins s σ H D I hb h=>?_⟩
 refine wpAny_execs_cons (wpAny_Assign_Name (thn (he pins s σ H _ I hb h) fun v s1 ⟨z,k,H1,ev,k0,kl,I1,q1⟩=>?_) hs)
 subst ev
 refine wpAny_mono (wpAny_toks (zfK (v:=.str z) (Q:=fun _ s2=>Inv X pins (σ.set i (some (.str z))) H1 s2∧∃ m,s2.heap.Ns X.env.locals m∧Look X.env s2.heap m y (.str z k)) I1 hN hi (.inr hyl) ⟨k,rfl⟩ (fun s2 I2 _ l=>⟨I2,l⟩) (.inl hfn))) (fun _ s2 h2=>?_) (fun _ _ h=>h.2)
 obtain⟨hb2,I2,l⟩:=h2
 have I3:=I2.put (u:=.str z k) hN hi hy l
 rw[List.set_set]at I3
 refine wpAny_mono ((hr z k k0).run pins s2 _ H1 _ I3 (Nat.lt_of_lt_of_le kl hb2) (q1 z rfl k k0)) (fun f s' q=>SP.unput I1.ok hx q) fun _ _ q=>q
end
end L2
namespace L2
open PySem PySem.Spec PyProof.Rows
section
variable {X:Cx} {N':List Str} {scope:Scope} {elt iter:Expr} {x:Str} {px pos:Pos} {wi:TI} {te:TE} {ix:List Nat} {E:XK}
theorem zjm (hx1:Xe1 X E) {i:Nat} {y0:Str} {py spos:Pos} (hNy:X.N.Nodup) (hiy:X.N[i]?=some y0) (hy:Loc X.env.scope y0) (hc:X.calm=true) (hkind:scope.kind=.function) (hcell:∀ y∈scope.names,y.2≠.cell) (hnames:∀ y∈scope.names,y.2=.local→scope.names.lookup y.1=some .local) (hx:scope.names.lookup x=some .local)
  (hclo:X.Ok→∃ cl,Clo X scope cl) (hN:N'.Nodup) (hN0:N'[0]?=some x) (hlen:N'.length=ix.length+1)
  (hix:∀(j i:Nat),ix[j]?=some i→∃ y,X.N[i]?=some y∧N'[j+1]?=some y∧(X.env.kindOf y=some .cell∨X.env.kindOf y=some .free)∧((relabel scope X.env).names.lookup y=some .cell∨(relabel scope X.env).names.lookup y=some .free))
  (hi:PI X (.Name x px) iter wi) (he:∀ cl fp s₃ H₃ xe0,zbu (CX1 X.prog X.w) ((zaA X N' scope cl fp s₃ H₃).wish xe0) E→PE ((zaA X N' scope cl fp s₃ H₃).wish xe0) elt te) (hsw:swapsWith (.ListComp elt [⟨.Name x px,iter,[],0⟩] scope pos) (some (.Name y0 py)) spos.line X.env=pure true:=by rfl)
  (hf:X.fn y0=true∨X.env.scope.names.lookup y0=some .local:=by first | exact .inl rfl | exact .inr rfl | assumption) (hs:∀ v,foldedSetIterable iter X.env v=pure v:=by intro _;rfl) :
  PS X (.Assign [.Name y0 py] (.ListComp elt [⟨.Name x px,iter,[],0⟩] scope pos) spos) (zdO (tLC wi ix te) (zbi i)):=by
 intro pins s σ H Dn I h
 obtain⟨cl,C⟩:=hclo I.ok
 rw[exec_Assign_Name_used _ _ _ _ hsw]
 refine wpAny_bind (wpAny_standAt (wpAny_bind ?_))
 rw[arm_evalThenUse_ListComp]
 refine wpAny_bind (wpAny_mono (wpAny_comprehension_free (use:=some (assign (.Name y0 py) X.env)) (Q:=fun _ s'=>∃ σ' H',Inv X pins σ' H' s'∧Dn.nx σ' H') rfl hs C.eq hkind hnames (thn (hi pins s σ H _ I h) fun v s1 h1=>thn h1 fun itv s2 h2=>?_)) (fun _ s' h'=>wpAny_pure (wpAny_pure h')) fun _ _ z=>z)
 obtain⟨it,fp,tn,J,H2,e,I2,T,st2,f2,q2⟩:=h2
 subst e
 have hD:H2 s2.heap.objs.size=none:=I2.fresh
 obtain⟨W,⟨m0,w0⟩,turn⟩:=q2 s2.heap.objs.size hD
 refine wpAny_newObj_type (wpAny_newFunctionEnv hcell (by intro y hy;simp at hy) (fun h₁ hns₁ hsb₁=>?_) hkind)
 dsimp only at hns₁ hsb₁ ⊢
 have I3:Inv X pins σ (upd H2 s2.heap.objs.size (.lst [])) { s2 with heap:=s2.heap.push { cls:=.type "list",data:=.seq ([]:List Value).toArray },toks:=s2.toks }:=I2.lnew .nil (Nat.zero_le _)
 generalize hs3:({ s2 with heap:=s2.heap.push { cls:=.type "list",data:=.seq ([]:List Value).toArray },toks:=s2.toks }:Shared)=s3 at I3
 have e3:s3.heap=s2.heap.push { cls:=.type "list",data:=.seq ([]:List Value).toArray }:=by rw[←hs3]
 generalize hDD:s2.heap.objs.size=D at *
 generalize hH3:upd H2 D (.lst [])=H3 at *
 have lt2:∀ b∈fp,b < s2.heap.objs.size:=fun b hb=>by
  obtain⟨o,ho,_⟩:=T.obj 0 _ st2 b hb
  exact Heap.lt_size ho
 have neD:∀ b∈fp,b≠D:=fun b hb=>by rw[←hDD];exact Nat.ne_of_lt (lt2 b hb)
 have f3:∀ b∈fp,zbt X pins H3 b:=fun b hb=>⟨by rw[←hH3,zag (neD b hb)];exact(f2 b hb).1,(f2 b hb).2⟩
 have sz3:s3.heap.objs.size=D+1:=by rw[e3,Heap.size_push,hDD]
 have lt3:∀ b∈fp,b < s3.heap.objs.size:=fun b hb=>by have q:=lt2 b hb;rw[sz3];rw[hDD]at q;exact Nat.lt_succ_of_lt q
 have old:∀ b o,s3.heap.get? b=some o→h₁.get? b=some o:=fun b o eb=>by
  have hb:b < D+1:=by rw[←sz3];exact Heap.lt_size eb
  refine hsb₁.extBut b o ?_ (Heap.get?_push_of_some _ (by rw[←e3];exact eb))
  rw[Heap.size_push,hDD]
  exact Nat.ne_of_lt hb
 have szC:(s2.heap.push { cls:=.type "list",data:=.seq ([]:List Value).toArray }).objs.size=s3.heap.objs.size:=by rw[e3]
 have os3:s3.os=s2.os:=by rw[←hs3]
 rw[szC]at hns₁ hsb₁
 have I4:Inv (zaA X N' scope cl fp s3 H3) [] (none :: fvs σ ix) H3 { s3 with heap:=h₁,toks:=s2.toks+([]:List (Str × Value)).length }:=zdM I3 C hkind f3 lt3 hlen hix hns₁ old
 have st4:tn 0 h₁:=T.keep 0 _ _ st2 fun b hb o eb=>old b o (by rw[e3];exact Heap.get?_push_of_some _ eb)
 have stat:∀ {H':Hp},(∀ b∈fp,H' b=none)→∀ b∈fp,zbt (zaA X N' scope cl fp s3 H3) [] H' b:=fun hn b hb =>
  ⟨hn b hb,Nat.ne_of_lt (lt3 b hb),fun hs'=>(zch (N':=N') I3 C hkind f3 lt3).exfs b hb hs',.inl hb,fun y c hy=>((zch (N':=N') I3 C hkind f3 lt3).exf b hb).2 y c hy,fun p hp=>absurd (show p∈([]:List (Addr × Obj)) from hp) (by simp)⟩
 have loop:∀ s4:Shared,s4={ s3 with heap:=h₁,toks:=s2.toks+([]:List (Str × Value)).length } →
   codeAny (model X.prog X.w) X.A (.compLoop (.ListComp elt [⟨.Name x px,iter,[],0⟩] scope pos) 0 (.ref it) (.ref D) (compEnvC scope cl s3.heap.objs.size X.env))
    (compPost (model X.prog X.w) X.A X.xe (some (assign (.Name y0 py) X.env)) (fun _ s'=>∃ σ' H',Inv X pins σ' H' s'∧Dn.nx σ' H') (.ref D) s3.heap.objs.size) s4:=by
  rintro s4 rfl
  refine zdl (fun n s'=>∃ i σ0 H' ys,Inv (zaA X N' scope cl fp s3 H3) [] (σ0 :: fvs σ ix) H' s'∧tn i s'.heap∧(∀ b∈fp,H' b=none)∧W i n ys H') ?_ m0 ⟨0,none,H3,[],I4,st4,fun b hb=>(f3 b hb).1,w0⟩
  rintro n s5 ⟨i,σ0,H5,ys,I5,st5,fr5,w5⟩
  obtain⟨hD5,alt⟩:=turn i n ys H5 w5
  rcases alt with ⟨stop,q⟩ | ⟨go,step⟩
  ·refine thn (T.done (zaA X N' scope cl fp s3 H3) rfl rfl rfl hc i [] s5 _ H5 _ I5 (stat fr5) st5 stop) fun r s6 ⟨hr,I6⟩=>?_
   subst hr
   obtain⟨m,hn,_⟩:=I6.loc
   have Io:Inv X pins σ H5 s6:=zcT (h':=s6.heap) I3 I6 f3 ⟨rfl,fun _ _=>rfl⟩
   refine wpAny_assign_Name (zc5 (v:=.ref D) Io hNy hiy hy rfl (fun s7 I7 ⟨a,sb,ha⟩=>?_) hf)
   have ltC:∀ x c,X.env.cells.lookup x=some c→c < s3.heap.objs.size:=fun x c e=>by
    obtain⟨v,hv⟩:=I3.cell x c e
    exact hv.lt
   have hCa:s3.heap.objs.size≠a:=by
    rintro rfl
    rcases ha with z | z
    ·exact absurd I3.lt (by rw[←z];exact Nat.lt_irrefl _)
    ·exact absurd (ltC _ _ z) (Nat.lt_irrefl _)
   refine⟨m,hn.sameBut sb hCa,fun h' hsb=>⟨_,H5,?_,q⟩⟩
   exact I7.skip hsb I3.sz (Nat.ne_of_gt I3.lt) (fun x c e=>Nat.ne_of_lt (ltC x c e)) (fun p hp=>Nat.ne_of_lt (Heap.lt_size (I3.pin p hp).1)) I6.free
  ·refine thn (T.item (zaA X N' scope cl fp s3 H3) rfl rfl rfl hc i [] s5 _ H5 _ I5 (stat fr5) st5 go) fun r s6 ⟨u,hr,h6⟩=>?_
   subst hr
   refine thn h6 fun _ s7 ⟨y7,H7,I7,r7,yl7,st7,fr7⟩=>?_
   have I7':=I7.pinned (stat fr7) (T.obj _ _ st7)
   have G:PG (zaA X N' scope cl fp s3 H3) (.Name x px) (zbi 0):=zaY hN hN0 (.inl (lookup_relabel_local hx)) (.inr (lookup_relabel_local hx))
   refine wpAny_mono (G _ s7 _ H7 y7 u (fun σ' H'=>σ'=some y7 :: fvs σ ix∧H'=H7) I7' r7 ⟨rfl,rfl⟩) (fun _ s8 h8=>?_) fun _ _ f=>False.elim f
   obtain⟨σ8,H8,I8,rfl,rfl⟩:=h8
   refine wpAny_mono (he cl fp s3 H3 _ (zhf (Qc:=fun _ s'=>∃ σ' H',Inv X pins σ' H' s'∧Dn.nx σ' H') (acc:=.ref D) hx1 I3 f3) _ s8 _ H8 _ (I8.wish _) (step y7 H8 yl7)) (fun yv s9 h9=>?_) fun _ _ f=>f
   obtain⟨y9,H9,I9w,r9,hD9,hl9,m',hm',w9⟩:=h9
   have I9:=I9w.unwish
   refine wpAny_mono (zc7 (X:=zaA X N' scope cl fp s3 H3) _ s9 _ H9 (.ref D) [y9] (.ref D) [yv] (fun _ H'=>H'=upd H9 D (.lst (ys++[y9]))) I9 rfl (.cons r9 .nil) ⟨D,ys,y9,rfl,rfl,hD9,hl9,rfl⟩) (fun _ s10 h10=>?_) fun _ _ f=>False.elim f
   obtain⟨_,H10,I10,_,rfl⟩:=h10
   refine⟨m',hm',i+1,some y7,_,ys++[y9],I10.unpinned,T.keep _ _ _ st7 fun b hb o eb=>(I10.pin (b,o) (List.mem_append_right _ (List.mem_append_right _ (zbm hb eb)))).1,fun b hb=>?_,w9⟩
   obtain⟨o,eb,d⟩:=T.obj _ _ st7 b hb
   exact(I10.pin (b,o) (List.mem_append_right _ (List.mem_append_right _ (zbm hb eb)))).2.1
 subst hs3
 have fin:=codeAny_compStart_list (loop _ rfl) (T.self X.A 0 _ _ _ st4 (loop _ rfl))
 exact fin
end
end L2
namespace F73
open PySem L2
def top (i:Nat):Stmt:=PySem.Challenge.pw_yesorno_k73_understood_refused.main.body.getD i (.Pass ⟨0,0,0,0⟩)
abbrev s_inner_trees:Stmt:=top 13
abbrev s_inner_formulas:Stmt:=top 14
def bareV:List V:=[.str "always",.str "never"]
def ofsV:List V:=[.str "not",.str "and",.str "or",.str "then",.str "as"]
theorem bare_flat:bareV.all zb8=true:=by decide +kernel
theorem zj3:ofsV.all zb8=true:=by decide +kernel
structure Txt (K:W.Frag) (mg:Str→Option Value) (aB aO:Addr):Prop where
 len:mg "len"=none
 list:mg "list"=none
 tuple:mg "tuple"=none
 range:mg "range"=none
 int:mg "int"=none
 isi:mg "isinstance"=none
 str:mg "str"=none
 bare:mg "BARE"=some (.ref aB)
 ofs:mg "OF_FORMULAS"=some (.ref aO)
 tB:∀ H,SqT K H aB bareV
 tO:∀ H,SqT K H aO ofsV
theorem sz (n:Nat) (h:n≤1000):n≤sizeLine:=Nat.le_of_lt (zct h)
theorem szM {n:Nat} (h:n≤16000000):n≤sizeLine:=Nat.le_trans h (by rw[sizeLine_eq];decide)
theorem ak (a b:Str):(a++b).length=a.length+b.length:=by
 show(a.cps++b.cps).size=a.cps.size+b.cps.size
 exact Array.size_append
inductive Tr where
 | node (n:Str) (ts:List Tr)
mutual
def dTr:Tr→Dt
 | .node n ts=>.tup [.str n,.tup (zar ts)]
def zar:List Tr→List Dt
 | []=>[]
 | t :: ts=>dTr t :: zar ts
end
mutual
def dp:Tr→Nat
 | .node _ ts=>1+dps ts
def dps:List Tr→Nat
 | []=>0
 | t :: ts=>max (dp t) (dps ts)
end
theorem zaQ:∀ ts:List Tr,zar ts=ts.map dTr
 | []=>rfl
 | t :: ts=>by simp only[zar,List.map_cons,zaQ ts]
theorem dps_le {n:Nat}:∀ {ts:List Tr},dps ts≤n→∀ t∈ts,dp t≤n
 | t :: ts,h,u,hu=>by
  simp only[dps]at h
  rcases List.mem_cons.mp hu with rfl | hu
  ·omega
  ·exact dps_le (ts:=ts) (by omega) u hu
theorem le_dps {n:Nat}:∀ {ts:List Tr},(∀ t∈ts,dp t≤n)→dps ts≤n
 | [],_=>Nat.zero_le _
 | t :: ts,h=>by
  simp only[dps]
  have h1:=h t (by simp)
  have h2:=le_dps (ts:=ts) fun u hu=>h u (List.mem_cons_of_mem _ hu)
  omega
mutual
theorem zaO:∀ t:Tr,nol (dTr t)=true
 | .node n ts=>by simp only[dTr,nol,zb6,zah ts,Bool.and_self]
theorem zah:∀ ts:List Tr,zb6 (zar ts)=true
 | []=>rfl
 | t :: ts=>by simp only[zar,zb6,zaO t,zah ts,Bool.and_self]
end
mutual
theorem zk3:∀ t:Tr,dep (dTr t)≤2 * dp t
 | .node n ts=>by
  have:=deps_dTrs ts
  simp only[dTr,dp,dep,zbZ]
  omega
theorem deps_dTrs:∀ ts:List Tr,zbZ (zar ts)≤2 * dps ts
 | []=>by simp [zar,zbZ]
 | t :: ts=>by
  have:=zk3 t
  have:=deps_dTrs ts
  simp only[zar,dps,zbZ]
  omega
end
inductive Fm where
 | plain (z:Str)
 | bare (z:Str)
 | same (a b:Tr)
 | unlike (ts:List Tr)
 | not (f:Fm)
 | bin (k:Str) (f g:Fm)
def dFm:Fm→Dt
 | .plain z=>.tup [.str "plain",.str z]
 | .bare z=>.tup [.str z]
 | .same a b=>.tup [.str "same",dTr a,dTr b]
 | .unlike ts=>.tup [.str "unlike",.tup (zar ts)]
 | .not f=>.tup [.str "not",dFm f]
 | .bin k f g=>.tup [.str k,dFm f,dFm g]
def fdp:Fm→Nat
 | .not f=>1+fdp f
 | .bin _ f g=>1+max (fdp f) (fdp g)
 | _=>1
def FOk:Fm→Prop
 | .plain _=>True
 | .bare z=>z="always"∨z="never"
 | .same _ _=>True
 | .unlike _=>True
 | .not f=>FOk f
 | .bin k f g=>(k="and"∨k="or"∨k="then"∨k="as")∧FOk f∧FOk g
theorem fdp_pos (f:Fm):1≤fdp f:=by cases f <;> simp only[fdp] <;> omega
theorem zay:∀ f:Fm,nol (dFm f)=true
 | .plain z=>rfl
 | .bare z=>rfl
 | .same a b=>by simp only[dFm,nol,zb6,zaO,Bool.and_self]
 | .unlike ts=>by simp only[dFm,nol,zb6,zah,Bool.and_self]
 | .not f=>by simp only[dFm,nol,zb6,zay f,Bool.and_self]
 | .bin k f g=>by simp only[dFm,nol,zb6,zay f,zay g,Bool.and_self]
section
variable {K:W.Frag} {H:Hp}
theorem zbX {n:Str} {ts:List Tr} {v:V} (h:Has K H (dTr (.node n ts)) v):∃ p q xs,v=.ref p∧SqT K H p [.str n,.ref q]∧SqT K H q xs∧am K H (zar ts) xs:=by
 simp only[dTr,Has,am]at h
 obtain⟨p,ys,rfl,hp,v1,r1,rfl,rfl,v2,r2,rfl,⟨q,xs,rfl,hq,hx⟩,rfl⟩:=h
 exact⟨p,q,xs,rfl,hp,hq,hx⟩
theorem zeX {n:Str} {ts:List Tr} {p q:Addr} {xs:List V} (hp:SqT K H p [.str n,.ref q]) (hq:SqT K H q xs) (hx:am K H (zar ts) xs):Has K H (dTr (.node n ts)) (.ref p):=by
 simp only[dTr]
 exact Has.tup' hp (.cons Has.str' (.cons (Has.tup' hq hx) .nil))
theorem zbd {ts:List Tr} {xs:List V} {i:Nat} {x:V} (h:am K H (zar ts) xs) (e:xs[i]?=some x):∃ t,ts[i]?=some t∧Has K H (dTr t) x:=by
 rw[zaQ]at h
 obtain⟨d,e1,e2⟩:=h.get e
 rw[List.getElem?_map]at e1
 cases q:ts[i]? with
 | none=>rw[q]at e1;cases e1
 | some t =>
  rw[q]at e1
  cases e1
  exact⟨t,rfl,e2⟩
theorem zbB {fs:List Fm} {xs:List V} {i:Nat} {x:V} (h:am K H (fs.map dFm) xs) (e:xs[i]?=some x):∃ t,fs[i]?=some t∧Has K H (dFm t) x:=by
 obtain⟨d,e1,e2⟩:=h.get e
 rw[List.getElem?_map]at e1
 cases q:fs[i]? with
 | none=>rw[q]at e1;cases e1
 | some t =>
  rw[q]at e1
  cases e1
  exact⟨t,rfl,e2⟩
theorem za0:∀ fs:List Fm,zb6 (fs.map dFm)=true
 | []=>rfl
 | f :: fs=>by simp only[List.map_cons,zb6,zay,za0 fs,Bool.and_self]
end
theorem FnOk.no {P:Program} {w:World} {K:W.Frag} {mg:Str→Option Value} {base:Heap} {CX:CXT} {k:Nat} {f:Addr} {fd:FuncData} {ps:List Str} {sp:Sp} (h:∀ vs H Q E,¬sp vs H Q E):FnOk P w K mg base CX k f fd ps sp :=
 ⟨fun vs H Q E q=>absurd q (h _ _ _ _),fun A outer s H args us vs Q E _ _ _ _ hs=>absurd hs (h _ _ _ _)⟩
end F73
namespace F73
open PySem L2
def hdF:Fm→Str
 | .plain _=>"plain"
 | .bare z=>z
 | .same _ _=>"same"
 | .unlike _=>"unlike"
 | .not _=>"not"
 | .bin k _ _=>k
def tlF:Fm→List Dt
 | .plain z=>[.str z]
 | .bare _=>[]
 | .same a b=>[dTr a,dTr b]
 | .unlike ts=>[.tup (zar ts)]
 | .not f=>[dFm f]
 | .bin _ f g=>[dFm f,dFm g]
def zaq:Fm→List Tr
 | .same a b=>[a,b]
 | .unlike ts=>ts
 | _=>[]
def au:Fm→List Fm
 | .not f=>[f]
 | .bin _ f g=>[f,g]
 | _=>[]
theorem dFm_eq (f:Fm):dFm f=.tup (.str (hdF f) :: tlF f):=by cases f <;> rfl
theorem hd_plain {f:Fm} (h:FOk f) (e:hdF f="plain"):∃ z,f=.plain z:=by
 cases f with
 | plain z=>exact⟨z,rfl⟩
 | bare z=>rcases h with rfl | rfl <;> exact absurd e (by simp only[hdF];decide +kernel)
 | bin k f g =>
  rcases h.1 with rfl | rfl | rfl | rfl <;> exact absurd e (by simp only[hdF];decide +kernel)
 | _=>exact absurd e (by simp only[hdF];decide +kernel)
theorem zkZ {f:Fm} (h:FOk f) (e:hdF f="same"):∃ a b,f=.same a b:=by
 cases f with
 | same a b=>exact⟨a,b,rfl⟩
 | bare z=>rcases h with rfl | rfl <;> exact absurd e (by simp only[hdF];decide +kernel)
 | bin k f g =>
  rcases h.1 with rfl | rfl | rfl | rfl <;> exact absurd e (by simp only[hdF];decide +kernel)
 | _=>exact absurd e (by simp only[hdF];decide +kernel)
theorem hd_unlike {f:Fm} (h:FOk f) (e:hdF f="unlike"):∃ ts,f=.unlike ts:=by
 cases f with
 | unlike ts=>exact⟨ts,rfl⟩
 | bare z=>rcases h with rfl | rfl <;> exact absurd e (by simp only[hdF];decide +kernel)
 | bin k f g =>
  rcases h.1 with rfl | rfl | rfl | rfl <;> exact absurd e (by simp only[hdF];decide +kernel)
 | _=>exact absurd e (by simp only[hdF];decide +kernel)
theorem inV_strs {z:Str} {ws:List Str}:inV (.str z) (ws.map V.str)=true↔z∈ws:=by
 unfold inV
 rw[List.any_eq_true]
 constructor
 ·rintro ⟨y,hy,e⟩
  obtain⟨w,hw,rfl⟩:=List.mem_map.mp hy
  have:w=z:=eq_of_beq e
  rw[←this]
  exact hw
 ·intro h
  exact⟨.str z,List.mem_map.mpr ⟨z,h,rfl⟩,beq_self_eq_true z⟩
theorem in_bare {z:Str}:inV (.str z) bareV=true↔z="always"∨z="never":=by
 rw[show bareV=(["always","never"]:List Str).map V.str from rfl,inV_strs]
 simp
theorem zi1 {z:Str}:inV (.str z) ofsV=true↔z="not"∨z="and"∨z="or"∨z="then"∨z="as":=by
 rw[show ofsV=(["not","and","or","then","as"]:List Str).map V.str from rfl,inV_strs]
 simp
section
variable {P:Program} {w:World} {K:W.Frag} {mg:Str→Option Value} {base:Heap} {aB aO:Addr} {f:Addr} {fd:FuncData}
theorem zcB {H:Hp} {g:Fm} {v:V} (h:Has K H (dFm g) v):∃ p xs,v=.ref p∧SqT K H p (.str (hdF g) :: xs)∧am K H (tlF g) xs:=by
 rw[dFm_eq]at h
 simp only[Has,am]at h
 obtain⟨p,ys,rfl,hp,v1,xs,rfl,rfl,hx⟩:=h
 exact⟨p,xs,rfl,hp,hx⟩
inductive zaS (K:W.Frag):Sp | mk {vs H Q E9} (g:Fm) (v:V):vs=[v]→Has K H (dFm g) v→FOk g→(∀(H':Hp) (l:Addr) (xs:List V),ao H H'→H l=none→H' l=some (.lst xs)→am K H' (zar (zaq g)) xs→Q (.ref l) H')→zaS K vs H Q E9
inductive zbe (K:W.Frag):Sp | mk {vs H Q E9} (g:Fm) (v:V):vs=[v]→Has K H (dFm g) v→FOk g→(∀(H':Hp) (l:Addr) (xs:List V),ao H H'→H l=none→H' l=some (.lst xs)→am K H' ((au g).map dFm) xs→Q (.ref l) H')→zbe K vs H Q E9
theorem zfF:zac ["formula"] ["formula"] (ag s_inner_trees):=⟨rfl,rfl,rfl,by decide +kernel,rfl,by decide +kernel,by decide +kernel⟩
theorem cut2 (a b c:V):zc9 [a,b,c] (some 1) none=[b,c]:=rfl
theorem ok_itrees (F:Fun K "inner_trees" "inner_trees" s_inner_trees f fd) (T:Txt K mg aB aO):FnOk P w K mg base CX0 1 f fd ["formula"] (zaS K):=by
 refine F.ok zfF (fun vs H Q E h=>?_) (fun cdv A outer s H vs Q E hr h=>?_)
 ·obtain⟨g,v,rfl,_⟩:=h
  rfl
 obtain⟨g,v,rfl,hg,ok,q⟩:=h
 refine⟨_,(ai (zaz (zak za1 (zaG za3 (pv 0) ad (fun _ _=>rfl)) ah (zau _))
   (ae (zae (zcu zcZ rfl T.list PyProof.Rows.Boot.list (aa (zcj zgk (pv 0) (zcg ad) zdw) ac))))
   zaf)
  (ae (zae (zeJ (zak za1 (zaG za3 (pv 0) ad (fun _ _=>rfl)) ah (zau _)) (zcu zcZ rfl T.list PyProof.Rows.Boot.list (aa (zaG za3 (pv 0) ad (fun _ _=>rfl)) ac)) (za7 ac))))),?_⟩
 obtain⟨p,xs,rfl,hp,hx⟩:=zcB hg
 have a0:atI (V.str (hdF g) :: xs) 0=some (.str (hdF g)):=zaM (j:=0) rfl
 refine⟨_,rfl,p,_,_,_,rfl,rfl,hp,a0,rfl,_,rfl,zaI (fun c=>?_) (fun c=>?_)⟩
 ·have e:hdF g="same":=by
   have:=of_decide_eq_true c
   injection this
  obtain⟨a,b,rfl⟩:=zkZ ok e
  simp only[tlF,am]at hx
  obtain⟨va,r1,rfl,ha,vb,r2,rfl,hb,rfl⟩:=hx
  refine⟨_,rfl,_,rfl,p,_,rfl,hp,(fun h=>absurd h.1 (show ¬(1:Nat)=0 by decide)),fun p1 hp1=>?_⟩
  rw[cut2]
  have s1:ao H (upd H p1 (.tup [va,vb])):=zad hp1 _
  have n1:=zaa (H:=H) (a:=p1) (o:=.tup [va,vb])
  generalize upd H p1 (.tup [va,vb])=H1 at s1 n1
  refine⟨p1,_,rfl,.inr (SqT.of n1),fun l hl=>?_⟩
  have s2:ao H1 (upd H1 l (.lst [va,vb])):=zad hl _
  exact q _ l _ (s1.trans s2) (s1.free hl) zaa (.cons (ha.keep (s1.trans s2).kt (zaO _)) (.cons (hb.keep (s1.trans s2).kt (zaO _)) .nil))
 have c':hdF g≠"same":=fun e=>c (by rw[e];decide +kernel)
 refine⟨_,rfl,p,_,_,_,rfl,rfl,hp,a0,rfl,_,rfl,zaI (fun d=>?_) (fun d=>?_)⟩
 ·have e:hdF g="unlike":=by
   have:=of_decide_eq_true d
   injection this
  obtain⟨ts,rfl⟩:=hd_unlike ok e
  simp only[tlF,am,Has]at hx
  obtain⟨va,r1,rfl,⟨r,ys,rfl,hr1,hy⟩,rfl⟩:=hx
  refine⟨_,rfl,p,_,_,_,rfl,rfl,hp,rfl,r,_,rfl,.inr hr1,fun l hl=>?_⟩
  have s2:ao H (upd H l (.lst ys)):=zad hl _
  exact q _ l _ s2 hl zaa (hy.keep s2.kt (zah _))
 ·have d':hdF g≠"unlike":=fun e=>d (by rw[e];decide +kernel)
  refine⟨lS0,fun l hl=>?_⟩
  have e:zaq g=[]:=by
   cases g with
   | same a b=>exact absurd rfl c'
   | unlike ts=>exact absurd rfl d'
   | _=>rfl
  exact q _ l [] (zad hl _) hl zaa (by rw[e];exact am.nil)
theorem zep:zac ["formula"] ["formula"] (ag s_inner_formulas):=⟨rfl,rfl,rfl,by decide +kernel,rfl,by decide +kernel,by decide +kernel⟩
theorem ok_ifms (F:Fun K "inner_formulas" "inner_formulas" s_inner_formulas f fd) (T:Txt K mg aB aO):FnOk P w K mg base CX0 1 f fd ["formula"] (zbe K):=by
 refine F.ok zep (fun vs H Q E h=>?_) (fun cdv A outer s H vs Q E hr h=>?_)
 ·obtain⟨g,v,rfl,_⟩:=h
  rfl
 obtain⟨g,v,rfl,hg,ok,q⟩:=h
 refine⟨_,(ae (zae (zeJ (zak zfP (zaG za3 (pv 0) ad (fun _ _=>rfl)) (zam (v:=.ref aO) rfl T.ofs rfl) rfl) (zcu zcZ rfl T.list PyProof.Rows.Boot.list (aa (zcj zgk (pv 0) (zcg ad) zdw) ac)) (za7 ac)))),?_⟩
 obtain⟨p,xs,rfl,hp,hx⟩:=zcB hg
 have a0:atI (V.str (hdF g) :: xs) 0=some (.str (hdF g)):=zaM (j:=0) rfl
 refine⟨_,rfl,p,_,_,_,rfl,rfl,hp,a0,aO,ofsV,rfl,.inr (T.tO H),rfl,zj3,_,rfl,zaI (fun c=>?_) (fun c=>?_)⟩
 ·have e:=zi1.mp c
  have key:∃ ys:List V,xs=ys∧am K H ((au g).map dFm) ys∧zc9 (.str (hdF g) :: ys) (some 1) none=ys∧HT.sIx (V.str (hdF g) :: ys).length 0 (some 1)≠0:=by
   cases g with
   | not g =>
    have hx':=hx
    simp only[tlF,am]at hx'
    obtain⟨va,r1,rfl,ha,rfl⟩:=hx'
    exact⟨_,rfl,hx,rfl,show ¬(1:Nat)=0 by decide⟩
   | bin k f g =>
    have hx':=hx
    simp only[tlF,am]at hx'
    obtain⟨va,r1,rfl,ha,vb,r2,rfl,hb,rfl⟩:=hx'
    exact⟨_,rfl,hx,rfl,show ¬(1:Nat)=0 by decide⟩
   | bare z=>rcases ok with rfl | rfl <;> exact absurd e (by simp only[hdF];decide +kernel)
   | _=>exact absurd e (by simp only[hdF];decide +kernel)
  obtain⟨ys,rfl,hy,ec,en⟩:=key
  refine⟨_,rfl,_,rfl,p,_,rfl,hp,(fun h=>absurd h.1 en),fun p1 hp1=>?_⟩
  rw[ec]
  have s1:ao H (upd H p1 (.tup xs)):=zad hp1 _
  have n1:=zaa (H:=H) (a:=p1) (o:=.tup xs)
  generalize upd H p1 (.tup xs)=H1 at s1 n1
  refine⟨p1,_,rfl,.inr (SqT.of n1),fun l hl=>?_⟩
  have s2:ao H1 (upd H1 l (.lst xs)):=zad hl _
  exact q _ l _ (s1.trans s2) (s1.free hl) zaa (hy.keep (s1.trans s2).kt (za0 _))
 ·have c':=fun e=>c (zi1.mpr e)
  refine⟨lS0,fun l hl=>?_⟩
  have e:au g=[]:=by
   cases g with
   | not g=>exact absurd (.inl rfl) c'
   | bin k f g=>exact absurd (.inr ok.1) c'
   | _=>rfl
  exact q _ l [] (zad hl _) hl zaa (by rw[e];exact am.nil)
end
end F73
namespace K73
open PySem L2
open F73 (Tr Fm dTr zar dFm FOk fdp)
def top (i:Nat):Stmt:=F73.top i
abbrev zd1:Stmt:=top 20
abbrev zd2:Stmt:=top 21
abbrev zdK:Stmt:=top 22
abbrev zdd:Stmt:=top 26
abbrev zcm:Stmt:=top 32
abbrev zcC:Stmt:=top 33
abbrev zcz:Stmt:=top 34
abbrev zbw:Stmt:=top 35
abbrev zcW:Stmt:=top 36
abbrev zft:Stmt:=top 37
abbrev zdJ:Stmt:=top 38
abbrev zcX:Stmt:=top 39
abbrev zcY:Stmt:=top 40
abbrev zeG:Stmt:=top 41
abbrev zb2:Stmt:=top 42
abbrev zde:Stmt:=top 43
abbrev zcV:Stmt:=top 44
abbrev zcn:Stmt:=top 46
abbrev zdf:Stmt:=top 47
abbrev zdg:Stmt:=top 48
abbrev zdj:Stmt:=top 49
abbrev zbq:Stmt:=top 50
abbrev zdh:Stmt:=top 51
abbrev zdi:Stmt:=top 52
abbrev zas:Stmt:=top 53
abbrev zh2:Stmt:=top 54
abbrev zbS:Stmt:=zcM (top 25) 0
abbrev zb3:Stmt:=zcM (top 25) 1
abbrev zco:Stmt:=zcM (top 25) 2
abbrev za4:Stmt:=zcM (top 25) 3
abbrev zbn:Stmt:=zcM (top 25) 4
abbrev zbg:Stmt:=zcM (top 25) 5
theorem zjS {X:Cx} {ss:List Stmt}:PSs X ss (fun _ _ _=>False):=fun _ _ _ _ _ _ h=>h.elim
abbrev abc:Str:="abcdefghijklmnopqrstuvwxyz"
def isL (c:Str):Bool:=!(Builtin.Str.occurrences abc c 0 abc.length 1).isEmpty
theorem zhW:∀ c∈abc.cps.toList,isL ⟨#[c]⟩=true:=by decide +kernel
def cp (s:Str):List Nat:=s.cps.toList
theorem zaw (s:Str):(cp s).length=s.length:=by simp [cp,Str.length]
theorem zaW (a b:Str):cp (a++b)=cp a++cp b:=by
 show(a.cps++b.cps).toList=_
 exact Array.toList_append
theorem zcs {a b:Str} (h:cp a=cp b):a=b:=by
 cases a;cases b
 unfold cp at h
 congr
 exact Array.ext' h
def cfl (s:Str) (i:Nat):List (Str × V):=zaN "place" (.int i) (zaN "text" (.str s) [])
theorem zfi (f:Str) (u v:V):∀ fs:List (Str × V),zaN f v (zaN f u fs)=zaN f v fs
 | []=>by simp only[zaN,if_pos]
 | (g,x) :: r=>by
  by_cases c:g=f
  ·simp only[zaN,if_pos c]
  ·simp only[zaN,if_neg c,zfi f u v r]
theorem zdH (f:Str) (v:V):∀ fs:List (Str × V),(zaN f v fs).length≤fs.length+1
 | []=>Nat.le_refl _
 | (g,x) :: r=>by
  by_cases c:g=f
  ·simp only[zaN,if_pos c,List.length_cons];omega
  ·have:=zdH f v r
   simp only[zaN,if_neg c,List.length_cons];omega
theorem zbl (s:Str) (i:Nat):(cfl s i).lookup ("place":Str)=some (.int i):=by
 unfold cfl
 rw[zbr,if_pos rfl]
theorem zcU (s:Str) (i:Nat):(cfl s i).lookup ("text":Str)=some (.str s):=by
 unfold cfl
 rw[zbr,if_neg (by decide +kernel),zbr,if_pos rfl]
theorem zd0 (s:Str) (i:Nat) {m:Str} (h1:¬m="place") (h2:¬m="text"):(cfl s i).lookup m=none:=by
 unfold cfl
 rw[zbr,if_neg h1,zbr,if_neg h2]
 rfl
theorem zhT (s:Str) (i j:Nat):zaN "place" (.int j) (cfl s i)=cfl s j:=zfi _ _ _ _
theorem zhU (s:Str) (i:Nat):(cfl s i).length < 1000:=by
 have h1:=zdH "place" (.int i) (zaN "text" (.str s) [])
 have h2:=zdH "text" (.str s) []
 show(zaN _ _ _).length < 1000
 have h4:([]:List (Str × V)).length=0:=rfl
 omega
theorem zfj (s:Str) (i:Nat):(cfl s i).lookup ("is_over":Str)=none:=zd0 _ _ (by decide +kernel) (by decide +kernel)
theorem zbz (s:Str) (i:Nat):(cfl s i).lookup ("takes":Str)=none:=zd0 _ _ (by decide +kernel) (by decide +kernel)
theorem zha (s:Str) (i:Nat):(cfl s i).lookup ("take_word":Str)=none:=zd0 _ _ (by decide +kernel) (by decide +kernel)
theorem zcc (s:Str) (i:Nat):(cfl s i).lookup ("take_tree":Str)=none:=zd0 _ _ (by decide +kernel) (by decide +kernel)
theorem zdN (s:Str) (i:Nat):(cfl s i).lookup ("take_trees":Str)=none:=zd0 _ _ (by decide +kernel) (by decide +kernel)
def zbc (CU:Addr) (H:Hp) (c:Addr) (s:Str) (i:Nat):Prop:=(∃ dx,H c=some (.ins CU dx (cfl s i)))∧i≤s.length∧s.length≤1000000
def FrC (H H':Hp) (c:Addr):Prop:=∀ b o,H b=some o→b≠c→H' b=some o
theorem FrC.of_same {H H':Hp} {c:Addr} (s:ao H H'):FrC H H' c:=fun b o e _=>s b o e
theorem FrC.trans {H H1 H2:Hp} {c:Addr} (a:FrC H H1 c) (b:FrC H1 H2 c):FrC H H2 c:=fun x o e n=>b x o (a x o e n) n
theorem zbc.kt {CU:Addr} {H H':Hp} {c:Addr} {s:Str} {i:Nat} (h:zbc CU H c s i) (f:FrC H H' c):zbb H H':=fun b ys q=>by
 obtain⟨⟨dx,hc⟩,_⟩:=h
 rcases q with q | ⟨o,q⟩
 ·exact .inl (f _ _ q (fun z=>by rw[z,hc]at q;cases q))
 ·exact .inr ⟨o,f _ _ q (fun z=>by rw[z,hc]at q;cases q)⟩
theorem zbc.same {CU:Addr} {H H':Hp} {c:Addr} {s:Str} {i:Nat} (h:zbc CU H c s i) (m:ao H H'):zbc CU H' c s i:=by
 obtain⟨⟨dx,hc⟩,r⟩:=h
 exact⟨⟨dx,m _ _ hc⟩,r⟩
theorem zbc.ne {CU:Addr} {H:Hp} {c b:Addr} {s:Str} {i:Nat} (h:zbc CU H c s i) (e:H b=none):b≠c:=fun z=>by
 obtain⟨⟨dx,hc⟩,_⟩:=h
 rw[z,hc]at e
 cases e
theorem zbc.putL {CU:Addr} {H:Hp} {c z:Addr} {s:Str} {i:Nat} {zs us:List V} (h:zbc CU H c s i) (hz:H z=some (.lst zs)):zbc CU (upd H z (.lst us)) c s i:=by
 obtain⟨⟨dx,hc⟩,r⟩:=h
 refine⟨⟨dx,?_⟩,r⟩
 rw[zag (fun e=>by rw[e,hz]at hc;cases hc)]
 exact hc
structure TxC (K:PySem.W.Frag) (mg:Str→Option Value) (CU:Addr):Prop where
 cl:Cls K CU
 nP:zcb K CU "place"
 nT:zcb K CU "text"
 small:∃ t,mg "SMALL_LETTERS"=some (.str abc t)
 len:mg "len"=none
 tuple:mg "tuple"=none
section
variable {P:Program} {w:World} {K:PySem.W.Frag} {mg:Str→Option Value} {base:Heap} {CU:Addr} {f fO fK fW fT fS:Addr} {fd dO dK' dW dT' dS:FuncData}
inductive zeB (CU:Addr):Sp | mk {vs H Q E9} (c dx:Addr) (s:Str):vs=[.ref c,.str s]→H c=some (.ins CU dx [])→s.length≤1000000→(∀ H',zbc CU H' c s 0→FrC H H' c→Q .non H')→zeB CU vs H Q E9
theorem zjO:zac ["self","text"] ["self","text"] (ag zbS):=⟨rfl,rfl,rfl,by decide +kernel,rfl,by decide +kernel,by decide +kernel⟩
theorem zj1 (F:Fun K "__init__" "Cursor.__init__" zbS f fd) (Z:TxC K mg CU):FnOk P w K mg base CX0 1 f fd ["self","text"] (zeB CU):=by
 refine F.ok zjO (fun vs H Q E h=>?_) (fun cdv A outer s H vs Q E hr h=>?_)
 ·obtain⟨c,dx,s,rfl,_⟩:=h
  rfl
 obtain⟨c,dx,s,rfl,hc,hl,q⟩:=h
 refine⟨_,(ai (ziL (pv 0) (pv 1) rfl) (ae (ziL (pv 0) ad rfl))),?_⟩
 try dsimp only [Cx.nox,Cx.wish,zaj]
 refine⟨_,rfl,_,rfl,c,CU,dx,[],rfl,hc,Z.cl,Z.nT,(by show 0 < 1000;decide),?_⟩
 refine⟨_,rfl,c,CU,dx,_,rfl,zaa,Z.cl,Z.nP,(by have:=zdH "text" (.str s) [];have h0:([]:List (Str × V)).length=0:=rfl;omega),?_⟩
 exact q _ ⟨⟨dx,zaa⟩,Nat.zero_le _,hl⟩ fun b o e n=>by rw[zag n,zag n];exact e
inductive zei (CU:Addr):Sp | mk {vs H Q E9} (c:Addr) (s:Str) (i:Nat):vs=[.ref c]→zbc CU H c s i→Q (.bl (decide (i=s.length))) H→zei CU vs H Q E9
theorem zkx:zac ["self"] ["self"] (ag zb3):=⟨rfl,rfl,rfl,by decide +kernel,rfl,by decide +kernel,by decide +kernel⟩
theorem zkJ (F:Fun K "is_over" "Cursor.is_over" zb3 f fd) (Z:TxC K mg CU):FnOk P w K mg base CX0 1 f fd ["self"] (zei CU):=by
 refine F.ok zkx (fun vs H Q E h=>?_) (fun cdv A outer s H vs Q E hr h=>?_)
 ·obtain⟨c,s,i,rfl,_⟩:=h
  rfl
 obtain⟨c,s,i,rfl,C,q⟩:=h
 refine⟨_,(ae (zae (zcH za1 (zbW (pv 0) rfl) (zaL zcd rfl Z.len PySem.boot_len (aa (zbW (pv 0) rfl) ac)) (zau _)))),?_⟩
 try dsimp only [Cx.nox,Cx.wish,zaj]
 obtain⟨⟨dx,hc⟩,hi,hl⟩:=id C
 refine⟨_,rfl,c,CU,dx,_,_,rfl,hc,Z.cl,Z.nP,zbl _ _,_,rfl,c,CU,dx,_,_,rfl,hc,Z.cl,Z.nT,zcU _ _,s,rfl,F73.szM (by omega),rfl,?_⟩
 have e:decide (V.int (i:Int)=V.int ((s.length:Nat):Int))=decide (i=s.length):=by
  rw[Bool.eq_iff_iff,decide_eq_true_iff,decide_eq_true_iff]
  exact⟨fun h=>by injection h with h;omega,fun h=>by rw[h]⟩
 show Q (.bl (decide (V.int (i:Int)=V.int ((s.length:Nat):Int)))) H
 rw[e]
 exact q
inductive zez (CU:Addr):Sp | mk {vs H Q E9} (c:Addr) (s y:Str) (i:Nat):vs=[.ref c,.str y]→zbc CU H c s i→y.length≤1000→(zce s y i=true→∀ H',zbc CU H' c s (i+y.length)→FrC H H' c→Q (.bl true) H')→(zce s y i=false→Q (.bl false) H)→zez CU vs H Q E9
theorem zjM:zac ["self","signs"] ["self","signs"] (ag zco):=⟨rfl,rfl,rfl,by decide +kernel,rfl,by decide +kernel,by decide +kernel⟩
theorem zkt {s y:Str} {i:Nat} (h:zce s y i=true) (hi:i≤s.length):i+y.length≤s.length:=by
 have e:=congrArg List.length (eq_of_beq h)
 rw[List.length_take,List.length_drop]at e
 have e1:=zaw s
 have e2:=zaw y
 unfold cp at e1 e2
 rw[e1,e2]at e
 omega
theorem zjY (F:Fun K "takes" "Cursor.takes" zco f fd) (Z:TxC K mg CU):FnOk P w K mg base CX0 1 f fd ["self","signs"] (zez CU):=by
 refine F.ok zjM (fun vs H Q E h=>?_) (fun cdv A outer s H vs Q E hr h=>?_)
 ·obtain⟨c,s,y,i,rfl,_⟩:=h
  rfl
 obtain⟨c,s,y,i,rfl,C,y1,q1,q2⟩:=h
 refine⟨_,(ai (zaz (zbV (zaV (zea PySem.F.plainAttrs_str PySem.F.slot_str_startswith PySem.F.type_str_startswith zio (zbW (pv 0) rfl) (aa (pv 1) (aa (zbW (pv 0) rfl) ac)))))
   (ae (zae zf6))
   zaf)
  (ai (zfM (pv 0) (zaL zcd rfl Z.len PySem.boot_len (aa (pv 1) ac)) zi2)
  (ae (zae zf6)))),?_⟩
 try dsimp only [Cx.nox,Cx.wish,zaj]
 obtain⟨⟨dx,hc⟩,hi,hl⟩:=id C
 refine⟨_,rfl,c,CU,dx,_,_,rfl,hc,Z.cl,Z.nT,zcU _ _,rfl,_,rfl,_,rfl,c,CU,dx,_,_,rfl,hc,Z.cl,Z.nP,zbl _ _,s,y,i,rfl,rfl,hi,_,rfl,?_⟩
 cases e:zce s y i with
 | false=>exact zbD (q2 e)
 | true =>
  have le:=zkt e hi
  refine za8 ⟨_,rfl,c,CU,dx,_,_,rfl,hc,Z.cl,Z.nP,zbl _ _,_,rfl,y,rfl,F73.szM (by omega),_,_,rfl,rfl,dx,_,hc,zhU _ _,?_⟩
  have ep:zaN "place" (.int ((i:Int)+(y.length:Nat))) (cfl s i)=cfl s (i+y.length):=zhT s i (i+y.length)
  rw[ep]
  exact q1 e _ ⟨⟨dx,zaa⟩,le,hl⟩ fun b o e n=>by rw[zag n];exact e
end
end K73
namespace K73
open PySem L2
open F73 (Tr Fm dTr zar dFm dp dps)
def sub (W:List Nat):List Nat→List Nat
 | []=>[]
 | c :: l=>if c=64 then W++sub W l else c :: sub W l
structure GW (W:List Nat):Prop where
 hd:∃ t,W=120 :: t
 ab:∀ c∈W,c∈cp abc
 ln:W.length≤7
theorem zcF (W:List Nat):∀ a b:List Nat,sub W (a++b)=sub W a++sub W b
 | [],b=>rfl
 | c :: a,b=>by
  simp only[List.cons_append,sub,zcF W a b]
  split <;> simp
theorem zcq (W:List Nat):∀ {a:List Nat},64∉a→sub W a=a
 | [],_=>rfl
 | c :: a,h=>by
  have h1:c≠64:=fun e=>h (by rw[e];simp)
  simp only[sub,if_neg h1,zcq W (fun z=>h (List.mem_cons_of_mem _ z))]
theorem zeh {W:List Nat} (g:GW W):∀ a:List Nat,(sub W a).length≤7 * a.length
 | []=>by simp [sub]
 | c :: a=>by
  have:=zeh g a
  have:=g.ln
  simp only[sub]
  split
  ·simp only[List.length_append,List.length_cons];omega
  ·simp only[List.length_cons];omega
theorem zeg {W:List Nat} (g:GW W) {a:List Nat}:sub W a=[]↔a=[]:=by
 cases a with
 | nil=>simp [sub]
 | cons c a =>
  obtain⟨t,ht⟩:=g.hd
  simp only[sub]
  split <;> simp [ht]
theorem zfp {W:List Nat} (g:GW W):∀ {a b:List Nat},120∉a→120∉b→sub W a=sub W b→a=b
 | [],b,_,_,h=>((zeg g).mp h.symm).symm
 | c :: a,[],_,_,h=>(zeg g).mp h
 | c :: a,d :: b,ha,hb,h=>by
  obtain⟨t,ht⟩:=g.hd
  have ha':120∉a:=fun z=>ha (List.mem_cons_of_mem _ z)
  have hb':120∉b:=fun z=>hb (List.mem_cons_of_mem _ z)
  have nc:c≠120:=fun e=>ha (by rw[e];simp)
  have nd:d≠120:=fun e=>hb (by rw[e];simp)
  simp only[sub]at h
  by_cases hc:c=64
  ·by_cases hd:d=64
   ·rw[if_pos hc,if_pos hd]at h
    rw[hc,hd,zfp g ha' hb' (List.append_cancel_left h)]
   ·rw[if_pos hc,if_neg hd,ht,List.cons_append]at h
    injection h with h1 _
    exact absurd h1.symm nd
  ·by_cases hd:d=64
   ·rw[if_neg hc,if_pos hd,ht,List.cons_append]at h
    injection h with h1 _
    exact absurd h1 nc
   ·rw[if_neg hc,if_neg hd]at h
    injection h with h1 h2
    rw[h1,zfp g ha' hb' h2]
theorem cp_abc:cp abc=[97,98,99,100,101,102,103,104,105,106,107,108,109,110,111,112,113,114,115,116,117,118,119,120,121,122]:=by decide +kernel
theorem zdx {c:Nat}:c∈cp abc↔97≤c∧c≤122:=by
 rw[cp_abc]
 simp only[List.mem_cons,List.not_mem_nil,or_false]
 omega
theorem zkY (c:Nat):isL ⟨#[c]⟩=decide (97≤c∧c≤122):=by
 unfold isL
 rw[StrLaws.found_one]
 exact decide_eq_decide.mpr zdx
def isW (c:Nat):Bool:=c == 64||(decide (97≤c)&&decide (c≤122))
theorem zhJ {c:Nat}:isW c=true↔c=64∨(97≤c∧c≤122):=by
 simp [isW]
def pre (y l:List Nat):Bool:=y.isPrefixOf l
theorem zhq {W:List Nat} (g:GW W):∀ {y l:List Nat},120∉y→64∉y→pre y (sub W l)=pre y l∧(pre y l=true→(sub W l).drop y.length=sub W (l.drop y.length))
 | [],l,_,_=>⟨by simp [pre],fun _=>rfl⟩
 | a :: y,[],_,_=>⟨rfl,fun h=>by cases h⟩
 | a :: y,c :: l,h1,h2=>by
  have h1':120∉y:=fun z=>h1 (List.mem_cons_of_mem _ z)
  have h2':64∉y:=fun z=>h2 (List.mem_cons_of_mem _ z)
  have na:a≠120:=fun e=>h1 (by rw[e];simp)
  have na':a≠64:=fun e=>h2 (by rw[e];simp)
  obtain⟨t,ht⟩:=g.hd
  obtain⟨i1,i2⟩:=zhq g (l:=l) h1' h2'
  by_cases hc:c=64
  ·subst hc
   have e1:pre (a :: y) (64 :: l)=false:=by
    simp [pre,List.isPrefixOf,na']
   refine⟨?_,fun z=>by rw[e1]at z;cases z⟩
   rw[e1]
   simp [pre,sub,ht,List.isPrefixOf,na]
  ·simp only[sub,if_neg hc]
   refine⟨?_,fun z=>?_⟩
   ·show((a == c)&&pre y (sub W l))=((a == c)&&pre y l)
    rw[i1]
   ·have z':((a == c)&&pre y l)=true:=z
    rw[Bool.and_eq_true]at z'
    simp only[List.length_cons,List.drop_succ_cons]
    exact i2 z'.2
def nmS (w:List Nat):Str:=⟨w.toArray⟩
theorem zaK (w:List Nat):cp (nmS w)=w:=by simp [cp,nmS]
theorem nmS_cp (s:Str):nmS (cp s)=s:=zcs (zaK _)
abbrev PT':=List Nat→Option (Tr × List Nat)
def zaD (f:PT'):Nat→List Nat→Option (List Tr × List Nat)
 | 0,_=>none
 | n+1,r=>if pre [44,32] r=true then(match f (r.drop 2) with
   | none=>none
   | some (t,r')=>match zaD f n r' with
    | none=>none
    | some (ts,r2)=>some (t :: ts,r2)) else if pre [41] r=true then some ([],r.drop 1) else none
def zaJ (f:PT') (l:List Nat):Option (List Tr × List Nat):=match f l with
 | none=>none
 | some (t,r)=>match zaD f (l.length+1) r with
  | none=>none
  | some (ts,r2)=>some (t :: ts,r2)
def zap:Nat→PT'
 | 0,l=>if l.takeWhile isW=[] then none else if pre [40] (l.dropWhile isW)=true then none else some (.node (nmS (l.takeWhile isW)) [],l.dropWhile isW)
 | b+1,l=>if l.takeWhile isW=[] then none else if pre [40] (l.dropWhile isW)=true then(match zaJ (zap b) ((l.dropWhile isW).drop 1) with
   | none=>none
   | some (ts,r)=>some (.node (nmS (l.takeWhile isW)) ts,r)) else some (.node (nmS (l.takeWhile isW)) [],l.dropWhile isW)
def zcP:List Str:=["and","or","then","as"]
def pB (l:List Nat):Option (Str × List Nat):=match zcP.find? fun k=>pre (cp (" "++k++" ")) l with
 | none=>none
 | some k=>some (k,l.drop (k.length+2))
def mkS:Tr→Option Fm
 | .node n []=>some (if n="always"∨n="never" then .bare n else .plain n)
 | .node _ (_ :: _)=>none
def pS (l:List Nat):Option (Fm × List Nat):=match zap 20 l with
 | none=>none
 | some (t,r)=>if pre [32,61,32] r=true then(match zap 20 (r.drop 3) with
   | none=>none
   | some (t2,r2)=>some (.same t t2,r2)) else match mkS t with
  | none=>none
  | some g=>some (g,r)
def zet (f:List Nat→Option (Fm × List Nat)) (l:List Nat):Option (Fm × List Nat):=match f l with
 | none=>none
 | some (a,r)=>match pB r with
  | none=>none
  | some (k,r1)=>match f r1 with
   | none=>none
   | some (b,r2)=>if pre [41] r2=true then some (.bin k a b,r2.drop 1) else none
def pF:Nat→List Nat→Option (Fm × List Nat)
 | 0,_=>none
 | n+1,l=>if pre [110,111,116,32] l=true then(match pF n (l.drop 4) with
   | none=>none
   | some (g,r)=>some (.not g,r))
  else if pre [117,110,108,105,107,101,40] l=true then(match zaJ (zap 20) (l.drop 7) with
   | none=>none
   | some (ts,r)=>some (.unlike ts,r))
  else if pre [40] l=true then zet (pF n) (l.drop 1) else pS l
def sN (W:List Nat) (n:Str):Str:=nmS (sub W (cp n))
mutual
def sT (W:List Nat):Tr→Tr
 | .node n ts=>.node (sN W n) (sTs W ts)
def sTs (W:List Nat):List Tr→List Tr
 | []=>[]
 | t :: ts=>sT W t :: sTs W ts
end
def sF (W:List Nat):Fm→Fm
 | .plain z=>.plain (sN W z)
 | .bare z=>.bare z
 | .same a b=>.same (sT W a) (sT W b)
 | .unlike ts=>.unlike (sTs W ts)
 | .not f=>.not (sF W f)
 | .bin k f g=>.bin k (sF W f) (sF W g)
theorem zcf (W:List Nat):∀ ts,sTs W ts=ts.map (sT W)
 | []=>rfl
 | t :: ts=>by simp only[sTs,List.map_cons,zcf W ts]
theorem sN_nm (W w:List Nat):sN W (nmS w)=nmS (sub W w):=by
 unfold sN
 rw[zaK]
mutual
theorem zia (W:List Nat):∀ t:Tr,dp (sT W t)=dp t
 | .node n ts=>by simp only[sT,dp,zdr W ts]
theorem zdr (W:List Nat):∀ ts:List Tr,dps (sTs W ts)=dps ts
 | []=>rfl
 | t :: ts=>by simp only[sTs,dps,zia W t,zdr W ts]
end
theorem zbT:∀ l:List Nat,(l.takeWhile isW).length+(l.dropWhile isW).length=l.length:=fun l=>by
 have:=congrArg List.length (List.takeWhile_append_dropWhile (p:=isW) (l:=l))
 rw[List.length_append]at this
 exact this
def Shr (f:PT'):Prop:=∀ l t r,f l=some (t,r)→r.length < l.length
theorem zfN {f:PT'} (hf:Shr f):∀(n:Nat) {r:List Nat} {ts:List Tr} {r2:List Nat},zaD f n r=some (ts,r2)→r2.length < r.length
 | 0,r,ts,r2,h=>by cases h
 | n+1,r,ts,r2,h=>by
  simp only[zaD]at h
  by_cases h1:pre [44,32] r=true
  ·rw[if_pos h1]at h
   cases e:f (r.drop 2) with
   | none=>rw[e]at h;cases h
   | some x =>
    obtain⟨t,r'⟩:=x
    rw[e]at h
    dsimp only at h
    cases e2:zaD f n r' with
    | none=>rw[e2]at h;cases h
    | some y =>
     obtain⟨us,r3⟩:=y
     rw[e2]at h
     dsimp only at h
     cases h
     have:=hf _ _ _ e
     have:=zfN hf n e2
     rw[List.length_drop]at *
     omega
  ·rw[if_neg h1]at h
   by_cases h2:pre [41] r=true
   ·rw[if_pos h2]at h
    cases h
    cases r with
    | nil=>cases h2
    | cons a r=>simp
   ·rw[if_neg h2]at h;cases h
theorem zim {f:PT'} (hf:Shr f) {l:List Nat} {ts:List Tr} {r2:List Nat} (h:zaJ f l=some (ts,r2)):r2.length < l.length:=by
 unfold zaJ at h
 cases e:f l with
 | none=>rw[e]at h;cases h
 | some x =>
  obtain⟨t,r⟩:=x
  rw[e]at h
  dsimp only at h
  cases e2:zaD f (l.length+1) r with
  | none=>rw[e2]at h;cases h
  | some y =>
   obtain⟨us,r3⟩:=y
   rw[e2]at h
   dsimp only at h
   cases h
   have:=hf _ _ _ e
   have:=zfN hf _ e2
   omega
theorem zeF:∀ b,Shr (zap b)
 | 0=>fun l t r h=>by
  simp only[zap]at h
  have tl:=zbT l
  by_cases h1:l.takeWhile isW=[]
  ·rw[if_pos h1]at h;cases h
  rw[if_neg h1]at h
  have:0 < (l.takeWhile isW).length:=List.length_pos_iff.mpr h1
  by_cases h2:pre [40] (l.dropWhile isW)=true
  ·rw[if_pos h2]at h;cases h
  rw[if_neg h2]at h
  cases h
  omega
 | b+1=>fun l t r h=>by
  simp only[zap]at h
  have tl:=zbT l
  by_cases h1:l.takeWhile isW=[]
  ·rw[if_pos h1]at h;cases h
  rw[if_neg h1]at h
  have:0 < (l.takeWhile isW).length:=List.length_pos_iff.mpr h1
  by_cases h2:pre [40] (l.dropWhile isW)=true
  ·rw[if_pos h2]at h
   cases e:zaJ (zap b) ((l.dropWhile isW).drop 1) with
   | none=>rw[e]at h;cases h
   | some x =>
    obtain⟨ts,r2⟩:=x
    rw[e]at h
    dsimp only at h
    cases h
    have:=zim (zeF b) e
    rw[List.length_drop]at this
    omega
  ·rw[if_neg h2]at h
   cases h
   omega
end K73
namespace K73
open PySem L2
open F73 (Tr Fm dTr zar dFm dp dps szM ak)
def At (W:List Nat) (CU:Addr) (H:Hp) (c:Addr) (s:Str) (l:List Nat):Prop:=∃ i,zbc CU H c s i∧(cp s).drop i=sub W l∧120∉l
theorem At.same {W:List Nat} {CU:Addr} {H H':Hp} {c:Addr} {s:Str} {l:List Nat} (h:At W CU H c s l) (m:ao H H'):At W CU H' c s l:=by
 obtain⟨i,C,r⟩:=h
 exact⟨i,C.same m,r⟩
theorem At.putL {W:List Nat} {CU:Addr} {H:Hp} {c z:Addr} {s:Str} {l:List Nat} {zs us:List V} (h:At W CU H c s l) (hz:H z=some (.lst zs)):At W CU (upd H z (.lst us)) c s l:=by
 obtain⟨i,C,r⟩:=h
 exact⟨i,C.putL hz,r⟩
theorem At.kt {W:List Nat} {CU:Addr} {H H':Hp} {c:Addr} {s:Str} {l:List Nat} (h:At W CU H c s l) (f:FrC H H' c):zbb H H':=by
 obtain⟨i,C,r⟩:=h
 exact C.kt f
theorem At.ne {W:List Nat} {CU:Addr} {H:Hp} {c b:Addr} {s:Str} {l:List Nat} (h:At W CU H c s l) (e:H b=none):b≠c:=by
 obtain⟨i,C,r⟩:=h
 exact C.ne e
theorem At.ins {W:List Nat} {CU:Addr} {H:Hp} {c:Addr} {s:Str} {l:List Nat} (h:At W CU H c s l):∃ i dx,H c=some (.ins CU dx (cfl s i)):=by
 obtain⟨i,⟨⟨dx,hc⟩,_⟩,_⟩:=h
 exact⟨i,dx,hc⟩
theorem zbp {l:List Nat} {n c:Nat} (h:c∉l):c∉l.drop n:=fun z=>h (List.mem_of_mem_drop z)
def NX (y:Str):Prop:=120∉cp y∧64∉cp y∧y.length≤1000
abbrev bmV:List Value:=[.type "ValueError",.type "Exception",.type "BaseException",.type "object"]
structure TxN (K:PySem.W.Frag) (mg:Str→Option Value) (CN CB:Addr):Prop where
 np:mg "NoProblem"=some (.ref CN)
 xn:PySem.W.excIn K CN bmV "ValueError.__new__"=true
 bn:mg "BadName"=some (.ref CB)
 xb:PySem.W.excIn K CB bmV "ValueError.__new__"=true
theorem st_yes {s y:Str} {i:Nat} {r:List Nat} (h:(cp s).drop i=cp y++r):zce s y i=true:=by
 unfold zce
 have e:s.cps.toList.drop i=cp y++r:=h
 rw[e,←zaw y,List.take_left']
 ·exact beq_self_eq_true _
 ·rfl
theorem st_no {s y:Str} {i:Nat} {r:List Nat} (h:(cp s).drop i=r) (n:∀ t,r≠cp y++t):zce s y i=false:=by
 cases e:zce s y i with
 | false=>rfl
 | true =>
  exfalso
  have e1:=eq_of_beq e
  have e2:s.cps.toList.drop i=r:=h
  rw[e2]at e1
  exact n (r.drop y.length) (by
   have:=List.take_append_drop y.length r
   rw[e1]at this
   exact this.symm)
theorem zkf {s:Str} {i:Nat} {a r:List Nat} (h:(cp s).drop i=a++r):(cp s).drop (i+a.length)=r:=by
 rw[←List.drop_drop,h,List.drop_left']
 rfl
theorem zij {s n:Str} {i:Nat} {r:List Nat} (h:(cp s).drop i=cp n++r) (hi:i≤s.length):Txt.slice s (some (i:Int)) (some ((i+n.length:Nat):Int))=n:=by
 have l:i+n.length≤(cp s).length:=by
  have e:=congrArg List.length h
  rw[List.length_drop,List.length_append,zaw n]at e
  have:=zaw s
  by_cases c:n.length=0
  ·omega
  ·omega
 have e:=eq_of_beq (PyProof.Rows.slice_closes (x:=s) (i:=(i:Int)) (j:=((i+n.length:Nat):Int)) ⟨by omega,by omega,by show((i+n.length:Nat):Int)≤((cp s).length:Nat);omega⟩)
 rw[e]
 refine zcs ?_
 show((s.cps.toList.drop (i:Int).toNat).take (((i+n.length:Nat):Int) - (i:Int)).toNat).toArray.toList=cp n
 rw[List.toList_toArray,show((i:Int)).toNat=i by omega,show(((i+n.length:Nat):Int) - (i:Int)).toNat=n.length by omega]
 have e2:s.cps.toList.drop i=cp n++r:=h
 rw[e2,←zaw n,List.take_left']
 rfl
theorem zhr {y l:List Nat}:pre y l=true↔∃ t,l=y++t:=by
 unfold pre
 rw[List.isPrefixOf_iff_prefix]
 exact⟨fun⟨t,h⟩=>⟨t,h.symm⟩,fun⟨t,h⟩=>⟨t,h.symm⟩⟩
theorem st_pre {s y:Str} {i:Nat}:zce s y i=pre (cp y) ((cp s).drop i):=by
 cases e:pre (cp y) ((cp s).drop i) with
 | true =>
  obtain⟨t,h⟩:=zhr.mp e
  exact st_yes h
 | false =>
  refine st_no rfl fun t h=>?_
  rw[zhr.mpr ⟨t,h⟩]at e
  cases e
section
variable {P:Program} {w:World} {K:PySem.W.Frag} {mg:Str→Option Value} {base:Heap} {W:List Nat} {CU CN CB:Addr} {f fO fK fW fT fS:Addr} {fd dO dK' dW dT' dS:FuncData}
theorem Fun.okX {x qual:Str} {st:Stmt} {f:Addr} {fd:FuncData} {N ps:List Str} {k:Nat} {sp:Sp} (F:Fun K x qual st f fd) (S:zac N ps (ag st)) (len:∀ vs H Q E,sp vs H Q E→vs.length=ps.length)
  (hbody:∀(cdv:Value) (A:Around) (outer:List Env) (s:Shared) (H:Hp) (vs:List V) (Q:VK) (E:XK),zai k (A.deeper (PyProof.Rows.envOfC qual (ag st) s.heap.objs.size f cdv))→sp vs H Q E →
   ∃ t,PSs (zaj (CX1 P w) P w K mg base N qual (ag st) f cdv A outer s H E) (zaC st) t∧t { nx:=fun _ H'=>Q .non H',rt:=Q } (zbs N vs) H):FnOk P w K mg base (CX1 P w) (k+1) f fd ps sp:=by
 obtain⟨oc,od,kV,doc,pm,an,cdv,ct,osl,rfl,lk,hcd⟩:=F.ex
 exact fn_of lk hcd S len fun A outer s H vs Q E hr hsp=>hbody cdv A outer s H vs Q E hr hsp
theorem xe1 {N:List Str} {qual:Str} {scope:Scope} {f:Addr} {cd:Value} {A:Around} {outer:List Env} {s:Shared} {H:Hp} {E:XK}:Xe1 (zaj (CX1 P w) P w K mg base N qual scope f cd A outer s H E) E:=⟨rfl,rfl,rfl,rfl⟩
inductive zh1 (W:List Nat) (CU:Addr):Sp | mk {vs H Q E9} (c:Addr) (s y:Str) (l:List Nat):vs=[.ref c,.str y]→At W CU H c s l→NX y→(pre (cp y) l=true→∀ H',At W CU H' c s (l.drop (cp y).length)→FrC H H' c→Q (.bl true) H')→(pre (cp y) l=false→Q (.bl false) H)→zh1 W CU vs H Q E9
theorem ok_tk (g:GW W) (h:FnOk P w K mg base CX0 1 f fd ["self","signs"] (zez CU)):FnOk P w K mg base CX0 1 f fd ["self","signs"] (zh1 W CU):=h.imp fun vs H Q E ⟨c,s,y,l,e,⟨i,C,hd,hl⟩,⟨n1,n2,n3⟩,q1,q2⟩=>by
 obtain⟨p1,p2⟩:=zhq g (l:=l) n1 n2
 have es:zce s y i=pre (cp y) l:=by rw[st_pre,hd,p1]
 refine⟨c,s,y,i,e,C,n3,fun e1 H' C' f'=>?_,fun e1=>q2 (by rw[←es];exact e1)⟩
 rw[es]at e1
 refine q1 e1 H' ⟨_,C',?_,zbp hl⟩ f'
 rw[←p2 e1,←hd,zaw,List.drop_drop]
inductive zfq (W:List Nat) (CU CN:Addr):Sp | mk {vs H Q E} (c:Addr) (s:Str) (l:List Nat):vs=[.ref c]→At W CU H c s l→(l.takeWhile isW=[]→∀ H',FrC H H' c→E (.ref CN) none H')→(l.takeWhile isW≠[]→∀ H',At W CU H' c s (l.dropWhile isW)→FrC H H' c→Q (.str (nmS (sub W (l.takeWhile isW)))) H')→zfq W CU CN vs H Q E
theorem zhh:zac ["self","begin"] ["self"] (ag za4):=⟨rfl,rfl,rfl,by decide +kernel,rfl,by decide +kernel,by decide +kernel⟩
theorem zge (g:GW W):∀ {a:List Nat},(∀ c∈a,isW c=true)→∀ c∈sub W a,c∈cp abc
 | [],_,c,h=>by cases h
 | d :: a,h,c,hc=>by
  have ih:=zge g (a:=a) fun c hc=>h c (List.mem_cons_of_mem _ hc)
  simp only[sub]at hc
  by_cases hd:d=64
  ·rw[if_pos hd]at hc
   rcases List.mem_append.mp hc with z | z
   ·exact g.ab c z
   ·exact ih c z
  ·rw[if_neg hd]at hc
   rcases List.mem_cons.mp hc with rfl | z
   ·rcases zhJ.mp (h c (by simp)) with z | z
    ·exact absurd z hd
    ·exact zdx.mpr z
   ·exact ih c z
theorem zdQ:∀ {l:List Nat},∀ c∈l.takeWhile isW,isW c=true
 | [],c,h=>by cases h
 | d :: l,c,h=>by
  rw[List.takeWhile_cons]at h
  split at h
  ·rcases List.mem_cons.mp h with rfl | z
   ·assumption
   ·exact zdQ c z
  ·cases h
theorem zhN:∀ {l:List Nat} {c:Nat} {t:List Nat},l.dropWhile isW=c :: t→isW c=false
 | [],c,t,h=>by cases h
 | d :: l,c,t,h=>by
  rw[List.dropWhile_cons]at h
  split at h
  ·exact zhN h
  ·cases h
   exact Bool.eq_false_iff.mpr ‹_›
theorem zkr {l r:List Nat} (h:l.dropWhile isW=r):∀ c t,sub W r=c :: t→isL ⟨#[c]⟩=false:=fun c t e=>by
 cases r with
 | nil=>cases e
 | cons d r' =>
  have hd:=zhN h
  have n64:d≠64:=fun z=>by rw[z]at hd;cases hd
  simp only[sub,if_neg n64]at e
  injection e with e1 _
  rw[zkY,←e1]
  refine decide_eq_false fun z=>?_
  rw[zhJ.mpr (.inr z)]at hd
  cases hd
theorem zkH (g:GW W) (F:Fun K "take_word" "Cursor.take_word" za4 f fd) (Z:TxC K mg CU) (TN:TxN K mg CN CB) (oO:FnOk P w K mg base CX0 1 fO dO ["self"] (zei CU)) (bO:aq K dO ["self"] []) (mO:zbQ K CU "is_over" fO):FnOk P w K mg base (CX1 P w) 2 f fd ["self"] (zfq W CU CN):=by
 refine Fun.okX F zhh (fun vs H Q E h=>?_) (fun cdv A outer s0 H vs Q E hr h=>?_)
 ·obtain⟨c,s,l,rfl,_⟩:=h
  rfl
 obtain⟨c,s,l,rfl,⟨i,C,hdl,hx⟩,qE,q⟩:=h
 obtain⟨t1,e1⟩:=Z.small
 generalize hw:l.takeWhile isW=wd at qE q
 generalize hrr:l.dropWhile isW=rr at q
 have el:l=wd++rr:=by rw[←hw,←hrr,List.takeWhile_append_dropWhile]
 have hab:∀ c∈sub W wd,c∈cp abc:=zge g (by rw[←hw];exact zdQ)
 have he:=zkr (W:=W) hrr
 generalize hn:nmS (sub W wd)=n at q
 have cn:cp n=sub W wd:=by rw[←hn,zaK]
 have hd:(cp s).drop i=cp n++sub W rr:=by rw[hdl,el,zcF,cn]
 have hr0:120∉rr:=fun z=>hx (by rw[el];exact List.mem_append_right _ z)
 rw[←cn]at hab
 have hat:∀ {H2:Hp},zbc CU H2 c s (i+n.length)→At W CU H2 c s rr:=fun C2=>⟨_,C2,by rw[←zaw,zkf hd],hr0⟩
 have hw0:n.length=0↔wd=[]:=by
  rw[←zaw,cn,List.length_eq_zero_iff,zeg g]
 generalize hr':sub W rr=r at hd he
 obtain⟨⟨dx,hc⟩,hi,hl⟩:=id C
 have nl:=zaw n
 have sl:=zaw s
 have len:i+n.length+r.length=s.length:=by
  have e:=congrArg List.length hd
  rw[List.length_drop,List.length_append,nl,sl]at e
  omega
 have tail:∃ t,PSs (zaj (CX1 P w) P w K mg base ["self","begin"] "Cursor.take_word" (ag za4) f cdv A outer s0 H E) ((zaC za4).drop 2) t∧∀(H2:Hp) (D:zaU),zbc CU H2 c s (i+n.length)→FrC H H2 c→D.rt=Q→t D [some (.ref c),some (.int (i:Nat))] H2:=by
  refine⟨_,(ai (zaz (zak za1 (zbW (pv 0) rfl) (pv 1) (zau _))
   (ae (zaP (C:=CN) xe1 rfl rfl TN.np PySem.F.excBase_ValueError TN.xn (aa (zbk (zaB ah (zaB (zc1 (pv 1)) (zaB ah zb9)))) ac)))
   zaf)
  (ae (zae (zcj zgl (zbW (pv 0) rfl) (zcg (pv 1)) (zcg (zbW (pv 0) rfl)))))),?_⟩
  try dsimp only [Cx.nox,Cx.wish,zaj]
  intro H2 D C2 f2 eD
  obtain⟨⟨dx2,hc2⟩,_,_⟩:=id C2
  have c0:Str.empty.length=0:=rfl
  have d1:(("a word is due at sign ":Str)).length≤100:=by decide +kernel
  have d2:((" of a term":Str)).length≤100:=by decide +kernel
  have d3:((toString (i:Int):String):Str).length≤10:=zck (by omega)
  refine⟨_,rfl,c,CU,dx2,_,_,rfl,hc2,Z.cl,Z.nP,zbl _ _,_,rfl,rfl,_,rfl,zaI (fun cc=>?_) (fun cc=>?_)⟩
  ·have:=of_decide_eq_true cc
   injection this with this
   refine⟨_,rfl,szM (by simp only[ak,c0];omega),_,rfl,.inr ⟨_,rfl,zg3 (by omega),_,rfl,szM (by simp only[ak,c0];omega),_,rfl,szM (by simp only[ak,c0];omega),szM (by simp only[ak,c0];omega),(by show 1≤sizeLine;decide),qE (hw0.mp (by omega)) H2 f2⟩⟩
  ·refine⟨_,rfl,c,CU,dx2,_,_,rfl,hc2,Z.cl,Z.nT,zcU _ _,_,rfl,_,rfl,_,rfl,c,CU,dx2,_,_,rfl,hc2,Z.cl,Z.nP,zbl _ _,_,rfl,s,rfl,szM (by omega),?_⟩
   rw[zij hd hi]
   have ne:wd≠[]:=fun e=>cc (decide_eq_true (by rw[hw0.mpr e];rfl))
   show D.rt _ _
   rw[eD]
   exact q ne H2 (hat C2) f2
 obtain⟨tt,ht,hq⟩:=tail
 refine⟨_,(ai (zat (i:=1) zhh.nd rfl (Or.inl rfl) (zbW (pv 0) rfl))
  (ai (zgU PassesOwn.leaving (PW.pt (ze9 (zbV (zaV (zeI (pv 0) Z.cl mO oO hr bO .nil zao))) (zfx (zak zfO (zaG zi0 (zbW (pv 0) rfl) (zbW (pv 0) rfl) (fun _ _=>rfl)) (zam (v:=.str abc) rfl e1 ⟨_,rfl⟩) rfl))))
   (ae (zfM (pv 0) ad zi2))) ht)),?_⟩
 try dsimp only [Cx.nox,Cx.wish,zaj]
 refine⟨_,rfl,c,CU,dx,_,_,rfl,hc,Z.cl,Z.nP,zbl _ _,fun m σ H'=>∃ j,m+j=n.length∧σ=[some (.ref c),some (.int (i:Nat))]∧zbc CU H' c s (i+j)∧FrC H H' c,⟨n.length,0,rfl,rfl,C,FrC.of_same (ao.refl _)⟩,?_⟩
 rintro m σ H2 ⟨j,mj,rfl,C2,f2⟩
 obtain⟨⟨dx2,hc2⟩,hi2,_⟩:=id C2
 have dj:(cp s).drop (i+j)=(cp n).drop j++r:=by
  rw[←List.drop_drop,hd,List.drop_append_of_le_length (by rw[nl];omega)]
 have stop:m=0→(cp s).drop (i+j)=r:=fun e=>by rw[dj,List.drop_of_length_le (by rw[nl];omega),List.nil_append]
 refine⟨_,rfl,c,dx2,_,rfl,hc2,zfj _ _,c,s,i+j,rfl,C2,_,rfl,?_⟩
 by_cases m0:m=0
 ·have ej:j=n.length:=by omega
  subst ej
  by_cases ov:i+n.length=s.length
  ·rw[show decide (i+n.length=s.length)=true from decide_eq_true ov]
   exact za8 (za8 (hq H2 _ C2 f2 rfl))
  ·rw[show decide (i+n.length=s.length)=false from decide_eq_false ov]
   have dr:=stop m0
   obtain⟨ch,rt,er⟩:∃ ch rt,r=ch :: rt:=by
    cases r with
    | nil=>simp at len;omega
    | cons a b=>exact⟨a,b,rfl⟩
   have chat:atI s.cps.toList ((i+n.length:Nat):Int)=some ch:=zaM (by
    have e:(cp s)[i+n.length]?=((cp s).drop (i+n.length))[0]?:=by rw[List.getElem?_drop];rfl
    show(cp s)[i+n.length]?=some ch
    rw[e,dr,er]
    rfl)
   have nb:=he ch rt er
   refine zbD ⟨_,rfl,c,CU,dx2,_,_,rfl,hc2,Z.cl,Z.nT,zcU _ _,_,rfl,c,CU,dx2,_,_,rfl,hc2,Z.cl,Z.nP,zbl _ _,s,_,ch,rfl,rfl,szM (by omega),chat,_,_,rfl,rfl,_,rfl,zaI (fun cc=>?_) (fun _=>hq H2 _ C2 f2 rfl)⟩
   have cc':isL ⟨#[ch]⟩=true:=cc
   rw[nb]at cc'
   cases cc'
 ·have jl:j < n.length:=by omega
  obtain⟨ch,hch⟩:∃ ch,(cp n)[j]?=some ch:=⟨_,List.getElem?_eq_getElem (by rw[nl];exact jl)⟩
  have yes:=zhW ch (hab ch (List.mem_of_getElem? hch))
  have chat:atI s.cps.toList ((i+j:Nat):Int)=some ch:=zaM (by
   have e:(cp s)[i+j]?=((cp s).drop (i+j))[0]?:=by rw[List.getElem?_drop];rfl
   show(cp s)[i+j]?=some ch
   rw[e,dj,List.getElem?_append_left (by rw[List.length_drop,nl];omega),List.getElem?_drop]
   exact hch)
  rw[show decide (i+j=s.length)=false from decide_eq_false (by omega)]
  refine zbD ⟨_,rfl,c,CU,dx2,_,_,rfl,hc2,Z.cl,Z.nT,zcU _ _,_,rfl,c,CU,dx2,_,_,rfl,hc2,Z.cl,Z.nP,zbl _ _,s,_,ch,rfl,rfl,szM (by omega),chat,_,_,rfl,rfl,_,rfl,zaI (fun _=>?_) (fun cc=>absurd (show isL ⟨#[ch]⟩=true from yes) cc)⟩
  refine⟨fun σ' H'=>∃ m',m' < m∧∃ j,m'+j=n.length∧σ'=[some (.ref c),some (.int (i:Nat))]∧zbc CU H' c s (i+j)∧FrC H H' c,fun _ _ h=>h,?_⟩
  refine⟨_,rfl,c,CU,dx2,_,_,rfl,hc2,Z.cl,Z.nP,zbl _ _,_,_,rfl,rfl,dx2,_,hc2,zhU _ _,?_⟩
  have ep:zaN "place" (.int (((i+j:Nat):Int)+1)) (cfl s (i+j))=cfl s (i+j+1):=zhT s (i+j) (i+j+1)
  rw[ep]
  exact⟨m - 1,by omega,j+1,by omega,rfl,⟨⟨dx2,zaa⟩,by omega,hl⟩,fun b o e n=>by rw[zag n];exact f2 _ _ e n⟩
end
end K73
namespace K73
open PySem L2
open F73 (Tr Fm dTr zar dFm dp dps szM ak zaO zah zaQ zeX)
theorem zaT (ts:List Tr):(zar ts).length=ts.length:=by rw[zaQ,List.length_map]
theorem ziB {W:List Nat} (g:GW W):∀ a:List Nat,a.length≤(sub W a).length
 | []=>Nat.le_refl _
 | c :: a=>by
  have:=ziB g a
  obtain⟨t,ht⟩:=g.hd
  simp only[sub]
  split
  ·have:1≤W.length:=by rw[ht];simp
   simp only[List.length_append,List.length_cons];omega
  ·simp only[List.length_cons];omega
theorem At.len {W:List Nat} (g:GW W) {CU:Addr} {H:Hp} {c:Addr} {s:Str} {l:List Nat} (h:At W CU H c s l):l.length≤1000000:=by
 obtain⟨i,⟨_,_,hl⟩,hd,_⟩:=h
 have e:=congrArg List.length hd
 rw[List.length_drop,zaw]at e
 have:=ziB g l
 omega
theorem zcD (W:List Nat) (ts:List Tr):(sTs W ts).length=ts.length:=by rw[zcf,List.length_map]
def cat (a:List Tr) (x:Option (List Tr × List Nat)):Option (List Tr × List Nat):=match x with
 | none=>none
 | some (ts,r)=>some (a++ts,r)
theorem c_op:cp "("=[40]:=by decide +kernel
theorem c_cl:cp ")"=[41]:=by decide +kernel
theorem c_co:cp ", "=[44,32]:=by decide +kernel
theorem nx_co:NX ", ":=⟨by decide +kernel,by decide +kernel,by decide +kernel⟩
theorem nx_cl:NX ")":=⟨by decide +kernel,by decide +kernel,by decide +kernel⟩
theorem nx_op:NX "(":=⟨by decide +kernel,by decide +kernel,by decide +kernel⟩
theorem zjo {f:PT'} {l:List Nat}:zaJ f l=match f l with
  | none=>none
  | some (t,r)=>cat [t] (zaD f (l.length+1) r):=by
 unfold zaJ
 cases f l with
 | none=>rfl
 | some x =>
  obtain⟨t,r⟩:=x
  dsimp only
  cases zaD f (l.length+1) r with
  | none=>rfl
  | some y=>rfl
theorem zkU {f:PT'} {n:Nat} {r r':List Nat} {t:Tr} {a:List Tr} (h:pre [44,32] r=true) (e:f (r.drop 2)=some (t,r')):cat a (zaD f (n+1) r)=cat (a++[t]) (zaD f n r'):=by
 simp only[zaD,if_pos h,e]
 cases zaD f n r' with
 | none=>rfl
 | some y =>
  obtain⟨ts,r2⟩:=y
  simp [cat]
theorem zj8 {f:PT'} {n:Nat} {r:List Nat} {a:List Tr} (h:pre [44,32] r=true) (e:f (r.drop 2)=none):cat a (zaD f (n+1) r)=none:=by
 simp only[zaD,if_pos h,e]
 rfl
theorem zj7 {f:PT'} {n:Nat} {r:List Nat} {a:List Tr} (h:pre [44,32] r=false) (e:pre [41] r=true):cat a (zaD f (n+1) r)=some (a,r.drop 1):=by
 simp [zaD,h,e,cat]
theorem zjv {f:PT'} {n:Nat} {r:List Nat} {a:List Tr} (h:pre [44,32] r=false) (e:pre [41] r=false):cat a (zaD f (n+1) r)=none:=by
 simp [zaD,h,e,cat]
section
variable {P:Program} {w:World} {K:PySem.W.Frag} {mg:Str→Option Value} {base:Heap} {W:List Nat} {CU CN CB:Addr} {f fO fK fW fT fS:Addr} {fd dO dK' dW dT' dS:FuncData}
inductive zcG (W:List Nat) (K:PySem.W.Frag) (CU CN:Addr) (b:Nat):Sp | mk {vs H Q E} (c:Addr) (s:Str) (l:List Nat):vs=[.ref c,.int (b:Nat)]→At W CU H c s l→(zap b l=none→∀ H',FrC H H' c→E (.ref CN) none H')→(∀ t r,zap b l=some (t,r)→∀(H':Hp) (v:V),At W CU H' c s r→FrC H H' c→Has K H' (dTr (sT W t)) v→Q v H')→zcG W K CU CN b vs H Q E
inductive zci (W:List Nat) (K:PySem.W.Frag) (CU CN:Addr) (b:Nat):Sp | mk {vs H Q E} (c:Addr) (s:Str) (l:List Nat):vs=[.ref c,.int (b:Nat)]→At W CU H c s l→(zaJ (zap b) l=none→∀ H',FrC H H' c→E (.ref CN) none H')→(∀ ts r,zaJ (zap b) l=some (ts,r)→∀(H':Hp) (p:Addr) (xs:List V),At W CU H' c s r→FrC H H' c→H' p=some (.tup xs)→am K H' (zar (sTs W ts)) xs→Q (.ref p) H')→zci W K CU CN b vs H Q E
structure Ow (P:Program) (w:World) (K:PySem.W.Frag) (mg:Str→Option Value) (base:Heap) (W:List Nat) (CU CN fK fW:Addr) (dK' dW:FuncData):Prop where
 T:FnOk P w K mg base CX0 1 fK dK' ["self","signs"] (zh1 W CU)
 bT:aq K dK' ["self","signs"] []
 mT:zbQ K CU "takes" fK
 W:FnOk P w K mg base (CX1 P w) 2 fW dW ["self"] (zfq W CU CN)
 bW:aq K dW ["self"] []
 mW:zbQ K CU "take_word" fW
theorem zgO:zac ["self","brackets","trees"] ["self","brackets"] (ag zbg):=⟨rfl,rfl,rfl,by decide +kernel,rfl,by decide +kernel,by decide +kernel⟩
theorem zgW (g:GW W) {b k:Nat} (F:Fun K "take_trees" "Cursor.take_trees" zbg f fd) (Z:TxC K mg CU) (TN:TxN K mg CN CB) (O:Ow P w K mg base W CU CN fK fW dK' dW) (hk:1≤k) (oT:FnOk P w K mg base (CX1 P w) k fT dT' ["self","brackets"] (zcG W K CU CN b)) (bT:aq K dT' ["self","brackets"] []) (mT:zbQ K CU "take_tree" fT):FnOk P w K mg base (CX1 P w) (k+1) f fd ["self","brackets"] (zci W K CU CN b):=by
 refine Fun.okX F zgO (fun vs H Q E h=>?_) (fun cdv A outer s0 H vs Q E hr h=>?_)
 ·obtain⟨c,s,l,rfl,_⟩:=h
  rfl
 obtain⟨c,s,l0,rfl,C,qE,q⟩:=h
 have hr1:zai 1 _:=hr.mono hk
 refine⟨_,(ai (zat (i:=2) zgO.nd rfl (Or.inl rfl) (za7 (aa (zaZ (pv 0) Z.cl mT oT hr bT .nil (zax xe1) (aa (pv 1) ac)) ac)))
  (ai (zgU PassesOwn.leaving (zaV (zaZ (pv 0) Z.cl O.mT O.T hr1 O.bT .nil zao (aa ah ac)))
   (ae (za6 (zea PySem.F.plainAttrs_list PySem.F.slot_list_append PySem.F.type_list_append zc7 (pv 2) (aa (zaZ (pv 0) Z.cl mT oT hr bT .nil (zax xe1) (aa (pv 1) ac)) ac)))))
  (ai (zaz (zbV (zaV (zaZ (pv 0) Z.cl O.mT O.T hr1 O.bT .nil zao (aa ah ac))))
   (ae (zaP (C:=CN) xe1 rfl rfl TN.np PySem.F.excBase_ValueError TN.xn (aa ah ac)))
   zaf)
  (ae (zae (zcu zf0 rfl Z.tuple PyProof.Rows.Boot.tuple (aa (pv 2) ac))))))),?_⟩
 try dsimp only [Cx.nox,Cx.wish,zaj]
 rw[zjo]at qE q
 obtain⟨i,dx,hc⟩:=C.ins
 refine⟨_,rfl,c,dx,_,rfl,hc,zcc _ _,_,rfl,c,s,l0,rfl,C,fun e H1 f1=>qE (by rw[e]) H1 f1,fun t r e H1 v C1 f1 h1=>⟨lS1,fun l hl=>?_⟩⟩
 rw[e]at qE q
 dsimp only at qE q
 have rl:=zeF b _ _ _ e
 have s2:=zad hl (.lst [v])
 have n2:=zaa (H:=H1) (a:=l) (o:=.lst [v])
 generalize upd H1 l (.lst [v])=H2 at s2 n2
 have nlc:=C1.ne hl
 have hl0:H l=none:=by
  cases e:H l with
  | none=>rfl
  | some o=>rw[f1 _ _ e nlc]at hl;cases hl
 have l9:=C.len g
 generalize hO:cat [t] (zaD (zap b) (l0.length+1) r)=O at qE q
 refine⟨fun m σ H'=>∃(n:Nat) (us:List V) (a:List Tr) (r:List Nat),m=r.length∧m < n∧σ=[some (.ref c),some (.int (b:Nat)),some (.ref l)]∧H' l=some (.lst us)∧am K H' (zar (sTs W a)) us∧At W CU H' c s r∧a.length+r.length≤l0.length∧O=cat a (zaD (zap b) n r)∧FrC H H' c,
  ⟨r.length,l0.length+1,[v],[t],r,rfl,by omega,rfl,n2,am.one (h1.keep s2.kt (zaO _)),C1.same s2,by simp only[List.length_cons,List.length_nil];omega,hO.symm,f1.trans (FrC.of_same s2)⟩,?_⟩
 rintro m σ H3 ⟨n,us,a,r3,rfl,mn,rfl,hl3,hx3,C3,al,eO,f3⟩
 obtain⟨n,rfl⟩:∃ n',n=n'+1:=⟨n - 1,by omega⟩
 obtain⟨i3,dx3,hc3⟩:=C3.ins
 have ul:us.length=a.length:=by rw[←hx3.length,zaT,zcD]
 refine⟨_,rfl,c,dx3,_,rfl,hc3,zbz _ _,c,s,", ",r3,rfl,C3,nx_co,fun e4 H4 C4 f4=>?_,fun e4=>?_⟩
 ·rw[c_co]at e4 C4
  refine⟨_,rfl,zbD ?_⟩
  have hl4:=f4 _ _ hl3 nlc
  refine⟨fun σ' H'=>∃ m',m' < r3.length∧∃(n:Nat) (us:List V) (a:List Tr) (r:List Nat),m'=r.length∧m' < n∧σ'=[some (.ref c),some (.int (b:Nat)),some (.ref l)]∧H' l=some (.lst us)∧am K H' (zar (sTs W a)) us∧At W CU H' c s r∧a.length+r.length≤l0.length∧O=cat a (zaD (zap b) n r)∧FrC H H' c,fun _ _ h=>h,?_⟩
  obtain⟨i4,dx4,hc4⟩:=C4.ins
  refine⟨_,rfl,.inl ⟨rfl,_,SqL.of hl4⟩,_,rfl,c,dx4,_,rfl,hc4,zcc _ _,_,rfl,c,s,r3.drop 2,rfl,C4,fun e5 H5 f5=>?_,fun u r' e5 H5 x C5 f5 h5=>?_⟩
  ·exact qE (by rw[eO];exact zj8 e4 e5) H5 ((f3.trans f4).trans f5)
  have hl5:=f5 _ _ hl4 nlc
  have kt:zbb H5 (upd H5 l (.lst (us++[x]))):=zbb.lst hl5
  have sh:=zeF b _ _ _ e5
  rw[List.length_drop]at sh
  refine⟨l,us,x,rfl,rfl,hl5,Nat.lt_of_lt_of_le (show us.length < 16000000 by omega) (szM (Nat.le_refl _)),r'.length,by omega,n,us++[x],a++[u],r',rfl,by omega,rfl,zaa,?_,C5.putL hl5,by simp only[List.length_append,List.length_cons,List.length_nil];omega,by rw[eO];exact zkU e4 e5,fun b' o e n=>?_⟩
  ·have et:zar (sTs W (a++[u]))=zar (sTs W a)++[dTr (sT W u)]:=by
    rw[zcf,zcf,zaQ,zaQ]
    simp
   rw[et]
   exact((hx3.keep (C3.kt (f4.trans f5)) (zah _)).keep kt (zah _)).append (am.one (h5.keep kt (zaO _)))
  ·rw[zag (fun z=>by rw[z,hl0]at e;cases e)]
   exact f5 _ _ (f4 _ _ (f3 _ _ e n) n) n
 ·rw[c_co]at e4
  refine⟨_,rfl,za8 ?_⟩
  refine⟨_,rfl,c,dx3,_,rfl,hc3,zbz _ _,c,s,")",r3,rfl,C3,nx_cl,fun e5 H4 C4 f4=>?_,fun e5=>?_⟩
  ·rw[c_cl]at e5 C4
   have hl4:=f4 _ _ hl3 nlc
   refine⟨_,rfl,za8 ⟨_,rfl,l,_,rfl,.inl ⟨SqL.of hl4,fun p hp=>?_⟩⟩⟩
   have s5:=zad hp (.tup us)
   exact q a _ (by rw[eO];exact zj7 e4 e5) _ p us (C4.same s5) ((f3.trans f4).trans (FrC.of_same s5)) zaa ((hx3.keep (C3.kt f4) (zah _)).keep s5.kt (zah _))
  ·rw[c_cl]at e5
   exact⟨_,rfl,zbD ⟨(by show 1≤sizeLine;decide),qE (by rw[eO];exact zjv e4 e5) H3 f3⟩⟩
theorem zhi:zac ["self","brackets","word"] ["self","brackets"] (ag zbn):=⟨rfl,rfl,rfl,by decide +kernel,rfl,by decide +kernel,by decide +kernel⟩
theorem zb1 {b:Nat} {l:List Nat} (h:l.takeWhile isW=[]):zap b l=none:=by
 cases b <;> simp only[zap,if_pos h]
theorem zbH {b:Nat} {l:List Nat} (h:l.takeWhile isW≠[]) (h2:pre [40] (l.dropWhile isW)=false):zap b l=some (.node (nmS (l.takeWhile isW)) [],l.dropWhile isW):=by
 cases b <;> simp [zap,h,h2]
theorem zc4 {l:List Nat} (h2:pre [40] (l.dropWhile isW)=true):zap 0 l=none:=by
 simp only[zap]
 split <;> first | rfl | rw[if_pos h2]
theorem zef {b:Nat} {l:List Nat} (h:l.takeWhile isW≠[]) (h2:pre [40] (l.dropWhile isW)=true):zap (b+1) l=match zaJ (zap b) ((l.dropWhile isW).drop 1) with
  | none=>none
  | some (ts,r)=>some (.node (nmS (l.takeWhile isW)) ts,r):=by
 simp only[zap,if_neg h,if_pos h2] <;> cases zaJ (zap b) ((l.dropWhile isW).drop 1) <;> rfl
theorem zfJ (g:GW W) {b k:Nat} (F:Fun K "take_tree" "Cursor.take_tree" zbn f fd) (Z:TxC K mg CU) (TN:TxN K mg CN CB) (hMB:∃ t,mg "MOST_BRACKETS"=some (.int 20 t)) (O:Ow P w K mg base W CU CN fK fW dK' dW) (hk:2≤k) (bS:aq K dS ["self","brackets"] []) (mS:zbQ K CU "take_trees" fS) {b':Nat} (hb':b=0∨b=b'+1) {spS:Sp} (hS:b=b'+1→∀ vs H Q E,zci W K CU CN b' vs H Q E→spS vs H Q E) (oS:FnOk P w K mg base (CX1 P w) k fS dS ["self","brackets"] spS):FnOk P w K mg base (CX1 P w) (k+1) f fd ["self","brackets"] (zcG W K CU CN b):=by
 refine Fun.okX F zhi (fun vs H Q E h=>?_) (fun cdv A outer s0 H vs Q E hr h=>?_)
 ·obtain⟨c,s,l,rfl,_⟩:=h
  rfl
 obtain⟨c,s,l,rfl,C,qE,q⟩:=h
 have hr1:zai 1 _:=hr.mono (by omega)
 have hr2:zai 2 _:=hr.mono hk
 obtain⟨t2,e2⟩:=hMB
 refine⟨_,(ai (zat (i:=2) zhi.nd rfl (Or.inl rfl) (zeI (pv 0) Z.cl O.mW O.W hr2 O.bW .nil (zax xe1)))
  (ai (zaz (zbV (zaV (zaZ (pv 0) Z.cl O.mT O.T hr1 O.bT .nil zao (aa ah ac))))
   (ae (zae (zbG (aa (pv 2) (aa (zbG ac) ac)))))
   zaf)
  (ai (zaz (zak za1 (pv 1) ad (zau _))
   (ae (zaP (C:=CN) xe1 rfl rfl TN.np PySem.F.excBase_ValueError TN.xn (aa (zbk (zaB ah (zaB (zc1 (zam (v:=.int 20) rfl e2 ⟨_,rfl⟩)) (zaB ah zb9)))) ac)))
   zaf)
  (ae (zae (zbG (aa (pv 2) (aa (zaZ (pv 0) Z.cl mS oS hr bS .nil (zax xe1) (aa (aj zcr (pv 1) ad) ac)) ac)))))))),?_⟩
 try dsimp only [Cx.nox,Cx.wish,zaj]
 obtain⟨i,dx,hc⟩:=C.ins
 have z2:2≤sizeLine:=by decide
 have z0:0≤sizeLine:=Nat.zero_le _
 refine⟨_,rfl,c,dx,_,rfl,hc,zha _ _,c,s,l,rfl,C,fun e H1 f1=>qE (zb1 e) H1 f1,fun ne H1 C1 f1=>?_⟩
 obtain⟨i1,dx1,hc1⟩:=C1.ins
 generalize hwd:l.takeWhile isW=wd at *
 generalize hrr:l.dropWhile isW=rr at *
 refine⟨_,rfl,c,dx1,_,rfl,hc1,zbz _ _,c,s,"(",rr,rfl,C1,nx_op,fun e3 H2 C2 f2=>?_,fun e3=>?_⟩
 ·rw[c_op]at e3 C2
  obtain⟨i2,dx2,hc2⟩:=C2.ins
  refine⟨_,rfl,za8 ⟨_,rfl,rfl,_,rfl,zaI (fun cc=>?_) (fun cc=>?_)⟩⟩
  ·have cc':=of_decide_eq_true cc
   injection cc' with cc'
   have b0:b=0:=by omega
   subst b0
   have c0:Str.empty.length=0:=rfl
   have d1:(("brackets more than ":Str)).length≤100:=by decide +kernel
   have d2:((" deep":Str)).length≤100:=by decide +kernel
   have d3:((toString (20:Int):String):Str).length≤10:=zck (by decide)
   exact⟨_,rfl,szM (by simp only[ak,c0];omega),.inr ⟨_,rfl,by decide,_,rfl,szM (by simp only[ak,c0];omega),_,rfl,szM (by simp only[ak,c0];omega),szM (by simp only[ak,c0];omega),(by show 1≤sizeLine;decide),qE (zc4 (by rw[hrr];exact e3)) H2 (f1.trans f2)⟩⟩
  ·have hb:b=b'+1:=by
    rcases hb' with h0 | h0
    ·subst h0
     exact absurd (decide_eq_true (show V.int ((0:Nat):Int)=V.int 0 from rfl)) cc
    ·exact h0
   subst hb
   have et:=zef (b:=b') (l:=l) (by rw[hwd];exact ne) (by rw[hrr];exact e3)
   rw[hwd,hrr]at et
   rw[et]at qE q
   have eb:(((b'+1:Nat):Int) - 1)=(b':Nat):=by omega
   refine⟨_,rfl,_,rfl,c,dx2,_,rfl,hc2,zdN _ _,_,rfl,_,_,rfl,rfl,hS rfl _ _ _ _ ⟨c,s,rr.drop 1,by rw[←eb];rfl,C2,fun e4 H3 f3=>qE (by rw[e4]) H3 ((f1.trans f2).trans f3),fun ts r e4 H3 p xs C3 f3 hp hx=>⟨z2,fun p2 hp2=>?_⟩⟩⟩
   rw[e4]at q
   have s4:=zad hp2 (.tup [V.str (nmS (sub W wd)),V.ref p])
   have n4:=zaa (H:=H3) (a:=p2) (o:=.tup [V.str (nmS (sub W wd)),V.ref p])
   refine q _ _ rfl _ _ (C3.same s4) (((f1.trans f2).trans f3).trans (FrC.of_same s4)) ?_
   simp only[sT]
   rw[sN_nm]
   exact zeX (SqT.of n4) (SqT.of (s4 _ _ hp)) (hx.keep s4.kt (zah _))
 ·rw[c_op]at e3
  have et:=zbH (b:=b) (l:=l) (by rw[hwd];exact ne) (by rw[hrr];exact e3)
  rw[hwd,hrr]at et
  refine⟨_,rfl,zbD ⟨_,rfl,z0,fun e he'=>⟨z2,fun p hp=>?_⟩⟩⟩
  have s2:=zad he' (.tup [])
  have n2:=zaa (H:=H1) (a:=e) (o:=.tup [])
  generalize upd H1 e (.tup [])=H2 at s2 n2 hp ⊢
  have s3:=zad hp (.tup [V.str (nmS (sub W wd)),V.ref e])
  have n3:=zaa (H:=H2) (a:=p) (o:=.tup [V.str (nmS (sub W wd)),V.ref e])
  refine q _ _ et _ _ (C1.same (s2.trans s3)) (f1.trans (FrC.of_same (s2.trans s3))) ?_
  simp only[sT,sTs]
  rw[sN_nm]
  exact zeX (SqT.of n3) (SqT.of (s3 _ _ n2)) (by simp only[zar];exact am.nil)
theorem zhx (g:GW W) (F:Fun K "take_tree" "Cursor.take_tree" zbn f fd) (FS:Fun K "take_trees" "Cursor.take_trees" zbg fS dS) (Z:TxC K mg CU) (TN:TxN K mg CN CB) (hMB:∃ t,mg "MOST_BRACKETS"=some (.int 20 t)) (O:Ow P w K mg base W CU CN fK fW dK' dW) (bF:aq K fd ["self","brackets"] []) (mF:zbQ K CU "take_tree" f) (bS:aq K dS ["self","brackets"] []) (mS:zbQ K CU "take_trees" fS) :
  ∀ b,FnOk P w K mg base (CX1 P w) (2 * b+4) f fd ["self","brackets"] (zcG W K CU CN b)
 | 0=>zfJ g (b:=0) (k:=3) F Z TN hMB O (by omega) bS mS (b':=0) (.inl rfl) (spS:=fun _ _ _ _=>False) (fun h=>by cases h) (F73.FnOk.no fun _ _ _ _ h=>h)
 | b+1=>zfJ g (b:=b+1) (k:=2 * b+5) F Z TN hMB O (by omega) bS mS (b':=b) (.inr rfl) (fun _ _ _ _ _ h=>h) (zgW g FS Z TN O (by omega) (zhx g F FS Z TN hMB O bF mF bS mS b) bF mF)
end
end K73
namespace K73
open PySem L2
open F73 (Tr Fm dTr zar dFm dp dps szM ak zaO zah zay zaQ zeX zbX)
theorem bt_nx:∀ k∈zcP,(120∉cp (" "++k++" ")∧64∉cp (" "++k++" ")∧(" "++k++" ").length≤1000)∧(cp (" "++k++" ")).length=k.length+2∧k.length≤4:=by decide +kernel
theorem nx_eq:NX " = ":=⟨by decide +kernel,by decide +kernel,by decide +kernel⟩
theorem nx_not:NX "not ":=⟨by decide +kernel,by decide +kernel,by decide +kernel⟩
theorem nx_unl:NX "unlike(":=⟨by decide +kernel,by decide +kernel,by decide +kernel⟩
theorem c_eq:cp " = "=[32,61,32]:=by decide +kernel
theorem c_not:cp "not "=[110,111,116,32]:=by decide +kernel
theorem c_unl:cp "unlike("=[117,110,108,105,107,101,40]:=by decide +kernel
structure TxW (K:PySem.W.Frag) (mg:Str→Option Value) (aW aB:Addr):Prop where
 bt:mg "BETWEEN"=some (.ref aW)
 tw:∀ H,SqT K H aW (zcP.map V.str)
 br:mg "BARE"=some (.ref aB)
 tb:∀ H,SqT K H aB F73.bareV
 mb:∃ t,mg "MOST_BRACKETS"=some (.int 20 t)
 dpst:∃ t,mg "DEEPEST"=some (.int 20 t)
 lu:∃ t,mg "LEAST_UNLIKE"=some (.int 2 t)
 mu:∃ t,mg "MOST_UNLIKE"=some (.int 5 t)
 mtp:∃ t,mg "MOST_TERM_PARTS"=some (.int 3 t)
 len:mg "len"=none
mutual
def NxT:Tr→Prop
 | .node n ts=>120∉cp n∧zb0 ts
def zb0:List Tr→Prop
 | []=>True
 | t :: ts=>NxT t∧zb0 ts
end
theorem zgc {l:List Nat} {c:Nat} (h:c∉l):c∉l.takeWhile isW:=fun z=>h ((List.takeWhile_prefix isW).subset z)
theorem zgC {l:List Nat} {c:Nat} (h:c∉l):c∉l.dropWhile isW:=fun z=>h ((List.dropWhile_suffix isW).subset z)
def Nxf (f:PT'):Prop:=∀ l t r,120∉l→f l=some (t,r)→NxT t∧120∉r
theorem zhE {f:PT'} (hf:Nxf f):∀(n:Nat) {r:List Nat} {ts:List Tr} {r2:List Nat},120∉r→zaD f n r=some (ts,r2)→zb0 ts∧120∉r2
 | 0,r,ts,r2,_,h=>by cases h
 | n+1,r,ts,r2,hx,h=>by
  simp only[zaD]at h
  by_cases h1:pre [44,32] r=true
  ·rw[if_pos h1]at h
   cases e:f (r.drop 2) with
   | none=>rw[e]at h;cases h
   | some x =>
    obtain⟨t,r'⟩:=x
    rw[e]at h
    dsimp only at h
    obtain⟨n1,n2⟩:=hf _ _ _ (zbp hx) e
    cases e2:zaD f n r' with
    | none=>rw[e2]at h;cases h
    | some y =>
     obtain⟨us,r3⟩:=y
     rw[e2]at h
     dsimp only at h
     cases h
     obtain⟨n3,n4⟩:=zhE hf n n2 e2
     exact⟨⟨n1,n3⟩,n4⟩
  ·rw[if_neg h1]at h
   by_cases h2:pre [41] r=true
   ·rw[if_pos h2]at h
    cases h
    exact⟨trivial,zbp hx⟩
   ·rw[if_neg h2]at h;cases h
theorem zgI {f:PT'} (hf:Nxf f) {l:List Nat} {ts:List Tr} {r:List Nat} (hx:120∉l) (h:zaJ f l=some (ts,r)):zb0 ts∧120∉r:=by
 unfold zaJ at h
 cases e:f l with
 | none=>rw[e]at h;cases h
 | some x =>
  obtain⟨t,r1⟩:=x
  rw[e]at h
  dsimp only at h
  obtain⟨n1,n2⟩:=hf _ _ _ hx e
  cases e2:zaD f (l.length+1) r1 with
  | none=>rw[e2]at h;cases h
  | some y =>
   obtain⟨us,r3⟩:=y
   rw[e2]at h
   dsimp only at h
   cases h
   obtain⟨n3,n4⟩:=zhE hf _ n2 e2
   exact⟨⟨n1,n3⟩,n4⟩
theorem zdt:∀ b,Nxf (zap b)
 | 0=>fun l t r hx h=>by
  by_cases h1:l.takeWhile isW=[]
  ·rw[zb1 h1]at h;cases h
  by_cases h2:pre [40] (l.dropWhile isW)=true
  ·rw[zc4 h2]at h;cases h
  rw[zbH h1 (Bool.eq_false_iff.mpr h2)]at h
  cases h
  exact⟨⟨by rw[zaK];exact zgc hx,trivial⟩,zgC hx⟩
 | b+1=>fun l t r hx h=>by
  by_cases h1:l.takeWhile isW=[]
  ·rw[zb1 h1]at h;cases h
  by_cases h2:pre [40] (l.dropWhile isW)=true
  ·rw[zef h1 h2]at h
   cases e:zaJ (zap b) ((l.dropWhile isW).drop 1) with
   | none=>rw[e]at h;cases h
   | some x =>
    obtain⟨ts,r2⟩:=x
    rw[e]at h
    dsimp only at h
    cases h
    obtain⟨n1,n2⟩:=zgI (zdt b) (zbp (zgC hx)) e
    exact⟨⟨by rw[zaK];exact zgc hx,n1⟩,n2⟩
  rw[zbH h1 (Bool.eq_false_iff.mpr h2)]at h
  cases h
  exact⟨⟨by rw[zaK];exact zgc hx,trivial⟩,zgC hx⟩
theorem zh4 {W:List Nat} (g:GW W) {n m:Str} (h1:120∉cp n) (h2:120∉cp m):sN W n=sN W m↔n=m:=by
 refine⟨fun h=>?_,fun h=>by rw[h]⟩
 have e:=congrArg cp h
 unfold sN at e
 rw[zaK,zaK]at e
 exact zcs (zfp g h1 h2 e)
theorem zdm {W:List Nat} (n:Str) (h:64∉cp n):sN W n=n:=by
 unfold sN
 rw[zcq W h,nmS_cp]
section
variable {P:Program} {w:World} {K:PySem.W.Frag} {mg:Str→Option Value} {base:Heap} {W:List Nat} {CU CN CB aW aB:Addr} {f fO fK fW fT fS fB fM fD:Addr} {fd dO dK' dW dT' dS dB dM dD:FuncData}
inductive ze5 (W:List Nat) (CU CN:Addr):Sp | mk {vs H Q E} (c:Addr) (s:Str) (l:List Nat):vs=[.ref c]→At W CU H c s l→(pB l=none→∀ H',FrC H H' c→E (.ref CN) none H')→(∀ k r,pB l=some (k,r)→∀(H':Hp),At W CU H' c s r→FrC H H' c→Q (.str k) H')→ze5 W CU CN vs H Q E
theorem ziG:zac ["cursor","word"] ["cursor"] (ag zcm):=⟨rfl,rfl,rfl,by decide +kernel,rfl,by decide +kernel,by decide +kernel⟩
theorem ok_btw (F:Fun K "take_between" "take_between" zcm f fd) (Z:TxC K mg CU) (TN:TxN K mg CN CB) (TW:TxW K mg aW aB) (O:Ow P w K mg base W CU CN fK fW dK' dW):FnOk P w K mg base (CX1 P w) 2 f fd ["cursor"] (ze5 W CU CN):=by
 refine Fun.okX F ziG (fun vs H Q E h=>?_) (fun cdv A outer s0 H vs Q E hr h=>?_)
 ·obtain⟨c,s,l,rfl,_⟩:=h
  rfl
 obtain⟨c,s,l,rfl,C,qE,q⟩:=h
 refine⟨_,(ai (zbF PassesOwn.leaving rfl (zfb (zam (v:=.ref aW) rfl TW.bt rfl)) (zaY (i:=1) ziG.nd rfl (Or.inl rfl))
   (ae (zaz (zaV (zaZ (pv 0) Z.cl O.mT O.T hr O.bT .nil zao (aa (aj zal (aj zal ah (pv 1)) ah) ac)))
    (ae (zae (pv 1)))
    zaf)))
  (ae (zaP (C:=CN) xe1 rfl rfl TN.np PySem.F.excBase_ValueError TN.xn (aa ah ac)))),?_⟩
 try dsimp only [Cx.nox,Cx.wish,zaj]
 obtain⟨i,dx,hc⟩:=C.ins
 refine⟨aW,rfl,⟨_,TW.tw H⟩,zca ze2 (fun i' σ H'=>∃ v:Option V,σ=[some (.ref c),v]∧H'=H∧(zcP.find? fun k=>pre (cp (" "++k++" ")) l)=(zcP.drop i').find? fun k=>pre (cp (" "++k++" ")) l) (fun i' σ H' _=>TW.tw H') ⟨none,rfl,rfl,rfl⟩ ?_ ?_⟩
 ·rintro j σ H2 x H3 hj ⟨v,rfl,rfl,nk⟩ ⟨rfl,hy⟩
  have hx:=hy _ (TW.tw _)
  rw[List.getElem?_map]at hx
  obtain⟨z,hz,rfl⟩:=Option.map_eq_some_iff.mp hx
  obtain⟨z1,z2,z3⟩:=bt_nx z (List.mem_of_getElem? hz)
  have l1:((" ":Str)).length=1:=by decide +kernel
  have ed:zcP.drop j=z :: zcP.drop (j+1):=by
   obtain⟨hi,e⟩:=List.getElem?_eq_some_iff.mp hz
   rw[List.drop_eq_getElem_cons hi,e]
  rw[ed,List.find?_cons]at nk
  refine⟨_,rfl,c,dx,_,rfl,hc,zbz _ _,_,rfl,_,_,rfl,rfl,szM (by rw[l1];omega),_,_,rfl,rfl,szM (by rw[ak,l1];omega),c,s,_,l,rfl,C,z1,fun e H4 C4 f4=>?_,fun e=>?_⟩
  ·rw[e]at nk
   rw[z2]at C4
   exact⟨_,rfl,zbD ⟨_,rfl,q z _ (by unfold pB;rw[nk]) H4 C4 f4⟩⟩
  ·rw[e]at nk
   exact⟨_,rfl,za8 ⟨_,rfl,rfl,nk⟩⟩
 ·rintro σ H2 ⟨v,rfl,rfl,nk⟩
  rw[List.length_map,List.drop_length]at nk
  exact⟨(by show 1≤sizeLine;decide),qE (by unfold pB;rw[nk];rfl) _ (FrC.of_same (ao.refl _))⟩
inductive ze3 (W:List Nat) (K:PySem.W.Frag) (CU CN:Addr) (p:List Nat→Option (Fm × List Nat)):Sp | mk {vs H Q E} (c:Addr) (s:Str) (l:List Nat):vs=[.ref c]→At W CU H c s l→(p l=none→∀ H',FrC H H' c→E (.ref CN) none H')→(∀ g r,p l=some (g,r)→∀(H':Hp) (v:V),At W CU H' c s r→FrC H H' c→Has K H' (dFm (sF W g)) v→Q v H')→ze3 W K CU CN p vs H Q E
theorem ziD:zac ["cursor","tree"] ["cursor"] (ag zcz):=⟨rfl,rfl,rfl,by decide +kernel,rfl,by decide +kernel,by decide +kernel⟩
theorem ok_sim (g:GW W) (F:Fun K "take_simple" "take_simple" zcz f fd) (Z:TxC K mg CU) (TN:TxN K mg CN CB) (TW:TxW K mg aW aB) (O:Ow P w K mg base W CU CN fK fW dK' dW) (oT:FnOk P w K mg base (CX1 P w) 44 fT dT' ["self","brackets"] (zcG W K CU CN 20)) (bT:aq K dT' ["self","brackets"] []) (mT:zbQ K CU "take_tree" fT):FnOk P w K mg base (CX1 P w) 45 f fd ["cursor"] (ze3 W K CU CN pS):=by
 refine Fun.okX F ziD (fun vs H Q E h=>?_) (fun cdv A outer s0 H vs Q E hr h=>?_)
 ·obtain⟨c,s,l,rfl,_⟩:=h
  rfl
 obtain⟨c,s,l,rfl,C,qE,q⟩:=h
 have hr1:zai 1 _:=hr.mono (by decide)
 obtain⟨t1,e1⟩:=TW.mb
 refine⟨_,(ai (zat (i:=1) ziD.nd rfl (Or.inl rfl) (zaZ (pv 0) Z.cl mT oT hr bT .nil (zax xe1) (aa (zam (v:=.int 20) rfl e1 ⟨_,rfl⟩) ac)))
  (ai (zaz (zaV (zaZ (pv 0) Z.cl O.mT O.T hr1 O.bT .nil zao (aa ah ac)))
   (ae (zae (zbG (aa ah (aa (pv 1) (aa (zaZ (pv 0) Z.cl mT oT hr bT .nil (zax xe1) (aa (zam (v:=.int 20) rfl e1 ⟨_,rfl⟩) ac)) ac))))))
   zaf)
  (ai (zaz (zak zeW (zaL zbv rfl TW.len PySem.boot_len (aa (zaG za3 (pv 1) ad (fun _ _=>rfl)) ac)) ad (zau _))
   (ae (zaP (C:=CN) xe1 rfl rfl TN.np PySem.F.excBase_ValueError TN.xn (aa ah ac)))
   zaf)
  (ae (zae (zeJ (zak zfP (zaG za3 (pv 1) ad (fun _ _=>rfl)) (zam (v:=.ref aB) rfl TW.br rfl) rfl) (zbG (aa (zaG za3 (pv 1) ad (fun _ _=>rfl)) ac)) (zbG (aa ah (aa (zaG za3 (pv 1) ad (fun _ _=>rfl)) ac))))))))),?_⟩
 try dsimp only [Cx.nox,Cx.wish,zaj]
 obtain⟨i,dx,hc⟩:=C.ins
 have hx:120∉l:=by obtain⟨_,_,_,h⟩:=C;exact h
 have ep:pS l=match zap 20 l with
  | none=>none
  | some (t,r)=>if pre [32,61,32] r=true then(match zap 20 (r.drop 3) with
    | none=>none
    | some (t2,r2)=>some (.same t t2,r2)) else match mkS t with
   | none=>none
   | some g=>some (g,r):=rfl
 rw[ep]at qE q
 refine⟨_,rfl,c,dx,_,rfl,hc,zcc _ _,c,s,l,rfl,C,fun e H1 f1=>qE (by rw[e]) H1 f1,fun t r et H1 v C1 f1 h1=>?_⟩
 rw[et]at qE q
 dsimp only at qE q
 obtain⟨i1,dx1,hc1⟩:=C1.ins
 refine⟨_,rfl,c,dx1,_,rfl,hc1,zbz _ _,c,s," = ",r,rfl,C1,nx_eq,fun e2 H2 C2 f2=>?_,fun e2=>?_⟩
 ·rw[c_eq]at e2 C2
  rw[if_pos e2]at qE q
  obtain⟨i2,dx2,hc2⟩:=C2.ins
  refine⟨_,rfl,zbD ⟨_,rfl,_,rfl,c,dx2,_,rfl,hc2,zcc _ _,c,s,r.drop 3,rfl,C2,fun e3 H3 f3=>qE (by rw[e3]) H3 ((f1.trans f2).trans f3),fun t2 r2 e3 H3 v3 C3 f3 h3=>⟨lS3,fun p hp=>?_⟩⟩⟩
  rw[e3]at q
  have s4:=zad hp (.tup [V.str "same",v,v3])
  have n4:=zaa (H:=H3) (a:=p) (o:=.tup [V.str "same",v,v3])
  refine q _ _ rfl _ _ (C3.same s4) (((f1.trans f2).trans f3).trans (FrC.of_same s4)) ?_
  simp only[sF,dFm]
  exact Has.tup' (SqT.of n4) (.cons Has.str' (.cons (((h1.keep (C1.kt (f2.trans f3)) (zaO _))).keep s4.kt (zaO _)) (.cons (h3.keep s4.kt (zaO _)) .nil)))
 ·rw[c_eq]at e2
  rw[if_neg (by rw[e2];exact Bool.false_ne_true)]at qE q
  cases t with
  | node n ts =>
  simp only[sT]at h1
  obtain⟨pt,pq,xs,rfl,hpt,hpq,hxs⟩:=zbX h1
  have xl:xs.length=ts.length:=by rw[←hxs.length,zaT,zcD]
  have at0:atI [V.str (sN W n),V.ref pq] 0=some (.str (sN W n)):=zaM (j:=0) rfl
  have at1:atI [V.str (sN W n),V.ref pq] 1=some (.ref pq):=zaM (j:=1) rfl
  refine⟨_,rfl,za8 ⟨_,rfl,pt,_,_,_,rfl,rfl,hpt,at1,pq,_,rfl,.inr hpq,_,_,rfl,rfl,_,rfl,zaI (fun cc=>?_) (fun cc=>?_)⟩⟩
  ·have cc':(0:Int) < (xs.length:Nat):=of_decide_eq_true cc
   have em:mkS (.node n ts)=none:=by
    cases ts with
    | nil=>simp at xl;subst xl;simp at cc'
    | cons a b=>rfl
   exact⟨(by show 1≤sizeLine;decide),qE (by rw[em]) H1 f1⟩
  ·have x0:xs.length=0:=by
    have:¬(0:Int) < (xs.length:Nat):=fun h=>cc (decide_eq_true h)
    omega
   have t0:ts=[]:=List.length_eq_zero_iff.mp (by omega)
   subst t0
   obtain⟨⟨n1,_⟩,_⟩:=zdt 20 _ _ _ hx et
   have nb:(sN W n="always"∨sN W n="never")↔(n="always"∨n="never"):=by
    have l1:sN W "always"="always":=zdm _ (by decide +kernel)
    have l2:sN W "never"="never":=zdm _ (by decide +kernel)
    rw[show(sN W n="always")↔sN W n=sN W "always" by rw[l1],show(sN W n="never")↔sN W n=sN W "never" by rw[l2],zh4 g n1 (by decide +kernel),zh4 g n1 (by decide +kernel)]
   have em:mkS (.node n [])=some (if n="always"∨n="never" then .bare n else .plain n):=rfl
   rw[em]at q
   dsimp only at q
   refine⟨_,rfl,pt,_,_,_,rfl,rfl,hpt,at0,aB,F73.bareV,rfl,.inr (TW.tb H1),rfl,F73.bare_flat,_,rfl,zaI (fun cc=>?_) (fun cc=>?_)⟩
   ·refine⟨_,rfl,pt,_,_,_,rfl,rfl,hpt,at0,lS1,fun p hp=>?_⟩
    have s2:=zad hp (.tup [V.str (sN W n)])
    have hb:=F73.in_bare.mp cc
    refine q _ _ rfl _ _ (C1.same s2) (f1.trans (FrC.of_same s2)) ?_
    rw[if_pos (nb.mp hb)]
    have en:sN W n=n:=by
     rcases nb.mp hb with rfl | rfl
     ·exact zdm _ (by decide +kernel)
     ·exact zdm _ (by decide +kernel)
    simp only[sF,dFm]
    rw[en]
    exact Has.tup' (SqT.of zaa) (.cons Has.str' .nil)
   ·refine⟨_,rfl,pt,_,_,_,rfl,rfl,hpt,at0,lS2,fun p hp=>?_⟩
    have s2:=zad hp (.tup [V.str "plain",V.str (sN W n)])
    refine q _ _ rfl _ _ (C1.same s2) (f1.trans (FrC.of_same s2)) ?_
    rw[if_neg (fun z=>cc (F73.in_bare.mpr (nb.mpr z)))]
    simp only[sF,dFm]
    exact Has.tup' (SqT.of zaa) (.cons Has.str' (.cons Has.str' .nil))
end
end K73
namespace K73
open PySem L2
open F73 (Tr Fm dTr zar dFm dp dps szM ak zaO zah zay zaQ zeX zbX)
section
variable {P:Program} {w:World} {K:PySem.W.Frag} {mg:Str→Option Value} {base:Heap} {W:List Nat} {CU CN CB aW aB:Addr} {f fO fK fW fT fS fB fM fD:Addr} {fd dO dK' dW dT' dS dB dM dD:FuncData}
inductive zbU (W:List Nat) (K:PySem.W.Frag) (CU CN:Addr) (n:Nat) (p:List Nat→Option (Fm × List Nat)):Sp | mk {vs H Q E} (c:Addr) (s:Str) (l:List Nat):vs=[.ref c,.int (n:Nat)]→At W CU H c s l→(p l=none→∀ H',FrC H H' c→E (.ref CN) none H')→(∀ g r,p l=some (g,r)→∀(H':Hp) (v:V),At W CU H' c s r→FrC H H' c→Has K H' (dFm (sF W g)) v→Q v H')→zbU W K CU CN n p vs H Q E
theorem ze8:zac ["cursor","left","one","word","other"] ["cursor","left"] (ag zcC):=⟨rfl,rfl,rfl,by decide +kernel,rfl,by decide +kernel,by decide +kernel⟩
theorem ok_two {n k:Nat} {p:List Nat→Option (Fm × List Nat)} (F:Fun K "take_two" "take_two" zcC f fd) (Z:TxC K mg CU) (TN:TxN K mg CN CB) (O:Ow P w K mg base W CU CN fK fW dK' dW) (BB:FB P w K mg base (CX1 P w) 2 "take_between" fB dB ["cursor"] (ze5 W CU CN)) (hk:2≤k) (BF:FB P w K mg base (CX1 P w) k "take_formula" fT dT' ["cursor","left"] (zbU W K CU CN n p)):FnOk P w K mg base (CX1 P w) (k+1) f fd ["cursor","left"] (zbU W K CU CN n (zet p)):=by
 refine Fun.okX F ze8 (fun vs H Q E h=>?_) (fun cdv A outer s0 H vs Q E hr h=>?_)
 ·obtain⟨c,s,l,rfl,_⟩:=h
  rfl
 obtain⟨c,s,l,rfl,C,qE,q⟩:=h
 have hr1:zai 1 _:=hr.mono (by omega)
 have hr2:zai 2 _:=hr.mono hk
 refine⟨_,(ai (zat (i:=2) ze8.nd rfl (Or.inl rfl) (zab BF.ok hr rfl BF.m BF.kp BF.b .nil (zax xe1) (aa (pv 0) (aa (pv 1) ac))))
  (ai (zat (i:=3) ze8.nd rfl (Or.inl rfl) (zab BB.ok hr2 rfl BB.m BB.kp BB.b .nil (zax xe1) (aa (pv 0) ac)))
  (ai (zat (i:=4) ze8.nd rfl (Or.inl rfl) (zab BF.ok hr rfl BF.m BF.kp BF.b .nil (zax xe1) (aa (pv 0) (aa (pv 1) ac))))
  (ai (zaz (zbV (zaV (zaZ (pv 0) Z.cl O.mT O.T hr1 O.bT .nil zao (aa ah ac))))
   (ae (zaP (C:=CN) xe1 rfl rfl TN.np PySem.F.excBase_ValueError TN.xn (aa ah ac)))
   zaf)
  (ae (zae (zbG (aa (pv 3) (aa (pv 2) (aa (pv 4) ac)))))))))),?_⟩
 try dsimp only [Cx.nox,Cx.wish,zaj]
 unfold zet at qE q
 refine⟨_,rfl,_,rfl,c,s,l,rfl,C,fun e H1 f1=>qE (by rw[e]) H1 f1,fun a r1 ea H1 v1 C1 f1 h1=>?_⟩
 rw[ea]at qE q
 dsimp only at qE q
 refine⟨_,rfl,c,s,r1,rfl,C1,fun e H2 f2=>qE (by rw[e]) H2 (f1.trans f2),fun kk r2 ek H2 C2 f2=>?_⟩
 rw[ek]at qE q
 dsimp only at qE q
 refine⟨_,rfl,_,rfl,c,s,r2,rfl,C2,fun e H3 f3=>qE (by rw[e]) H3 ((f1.trans f2).trans f3),fun b r3 eb H3 v3 C3 f3 h3=>?_⟩
 rw[eb]at qE q
 dsimp only at qE q
 obtain⟨i3,dx3,hc3⟩:=C3.ins
 refine⟨_,rfl,c,dx3,_,rfl,hc3,zbz _ _,c,s,")",r3,rfl,C3,nx_cl,fun e4 H4 C4 f4=>?_,fun e4=>?_⟩
 ·rw[c_cl]at e4 C4
  rw[if_pos e4]at q
  refine⟨_,rfl,za8 ⟨_,rfl,_,rfl,_,rfl,lS3,fun p hp=>?_⟩⟩
  have s5:=zad hp (.tup [V.str kk,v1,v3])
  have n5:=zaa (H:=H4) (a:=p) (o:=.tup [V.str kk,v1,v3])
  have kt1:=(C1.kt (f2.trans (f3.trans f4)))
  refine q _ _ rfl _ _ (C4.same s5) (((f1.trans f2).trans (f3.trans f4)).trans (FrC.of_same s5)) ?_
  simp only[sF,dFm]
  exact Has.tup' (SqT.of n5) (.cons Has.str' (.cons ((h1.keep kt1 (zay _)).keep s5.kt (zay _)) (.cons ((h3.keep (C3.kt f4) (zay _)).keep s5.kt (zay _)) .nil)))
 ·rw[c_cl]at e4
  rw[if_neg (by rw[e4];exact Bool.false_ne_true)]at qE
  exact⟨_,rfl,zbD ⟨(by show 1≤sizeLine;decide),qE rfl H3 ((f1.trans f2).trans f3)⟩⟩
theorem zhk:zac ["cursor","left"] ["cursor","left"] (ag zbw):=⟨rfl,rfl,rfl,by decide +kernel,rfl,by decide +kernel,by decide +kernel⟩
theorem zgR {E:XK} {a:Str} {D:zaU} {σ:St} {H:Hp} (d1:a.length≤1000) (h:E (.ref CN) none H):zdR E CN (zbE (zdu (zbI (tC (.str a)) (zbI (tFmt (tC (.int 20))) jNil))) zbY) D σ H:=by
 have c0:Str.empty.length=0:=rfl
 have d3:((toString (20:Int):String):Str).length≤10:=zck (by decide)
 exact⟨_,rfl,szM (by simp only[ak,c0];omega),.inr ⟨_,rfl,by decide,_,rfl,szM (by simp only[ak,c0];omega),szM (by simp only[ak,c0];omega),(by show 1≤sizeLine;decide),h⟩⟩
theorem form0 (F:Fun K "take_formula" "take_formula" zbw f fd) (TN:TxN K mg CN CB) (TW:TxW K mg aW aB):FnOk P w K mg base (CX1 P w) 46 f fd ["cursor","left"] (zbU W K CU CN 0 (pF 0)):=by
 refine Fun.okX F zhk (fun vs H Q E h=>?_) (fun cdv A outer s0 H vs Q E hr h=>?_)
 ·obtain⟨c,s,l,rfl,_⟩:=h
  rfl
 obtain⟨c,s,l,rfl,C,qE,q⟩:=h
 obtain⟨t2,e2⟩:=TW.dpst
 refine⟨_,(ai (zaz (zak za1 (pv 1) ad (zau _))
    (ae (zaP (C:=CN) xe1 rfl rfl TN.np PySem.F.excBase_ValueError TN.xn (aa (zbk (zaB ah (zaB (zc1 (zam (v:=.int 20) rfl e2 ⟨_,rfl⟩)) zb9))) ac)))
    zaf)
   zjS),?_⟩
 try dsimp only [Cx.nox,Cx.wish,zaj]
 refine⟨_,rfl,rfl,_,rfl,zaI (fun cc=>?_) (fun cc=>?_)⟩
 ·exact zgR (by decide +kernel) (qE rfl H (FrC.of_same (ao.refl _)))
 ·exact absurd (decide_eq_true (show V.int ((0:Nat):Int)=V.int 0 from rfl)) cc
theorem zjB (g:GW W) {n:Nat} (F:Fun K "take_formula" "take_formula" zbw f fd) (Z:TxC K mg CU) (TN:TxN K mg CN CB) (TW:TxW K mg aW aB) (O:Ow P w K mg base W CU CN fK fW dK' dW) (BM:FB P w K mg base (CX1 P w) 45 "take_simple" fM dM ["cursor"] (ze3 W K CU CN pS)) (oS:FnOk P w K mg base (CX1 P w) 45 fS dS ["self","brackets"] (zci W K CU CN 20)) (bS:aq K dS ["self","brackets"] []) (mS:zbQ K CU "take_trees" fS)
  (IH:FB P w K mg base (CX1 P w) (2 * n+46) "take_formula" f fd ["cursor","left"] (zbU W K CU CN n (pF n))) (B2:FB P w K mg base (CX1 P w) (2 * n+47) "take_two" fD dD ["cursor","left"] (zbU W K CU CN n (zet (pF n)))):FnOk P w K mg base (CX1 P w) (2 * n+48) f fd ["cursor","left"] (zbU W K CU CN (n+1) (pF (n+1))):=by
 refine Fun.okX (k:=2 * n+47) F zhk (fun vs H Q E h=>?_) (fun cdv A outer s0 H vs Q E hr h=>?_)
 ·obtain⟨c,s,l,rfl,_⟩:=h
  rfl
 obtain⟨c,s,l,rfl,C,qE,q⟩:=h
 obtain⟨t2,e2⟩:=TW.dpst
 obtain⟨t1,e1⟩:=TW.mb
 have hr1:zai 1 _:=hr.mono (by omega)
 have hr45:zai 45 _:=hr.mono (by omega)
 have hrI:zai (2 * n+46) _:=hr.mono (by omega)
 refine⟨_,(ai (zaz (zak za1 (pv 1) ad (zau _))
    (ae (zaP (C:=CN) xe1 rfl rfl TN.np PySem.F.excBase_ValueError TN.xn (aa (zbk (zaB ah (zaB (zc1 (zam (v:=.int 20) rfl e2 ⟨_,rfl⟩)) zb9))) ac)))
    zaf)
   (ai (zaz (zaV (zaZ (pv 0) Z.cl O.mT O.T hr1 O.bT .nil zao (aa ah ac)))
    (ae (zae (zbG (aa ah (aa (zab IH.ok hrI rfl IH.m IH.kp IH.b .nil (zax xe1) (aa (pv 0) (aa (aj zcr (pv 1) ad) ac))) ac)))))
    zaf)
   (ai (zaz (zaV (zaZ (pv 0) Z.cl O.mT O.T hr1 O.bT .nil zao (aa ah ac)))
    (ae (zae (zbG (aa ah (aa (zaZ (pv 0) Z.cl mS oS hr45 bS .nil (zax xe1) (aa (zam (v:=.int 20) rfl e1 ⟨_,rfl⟩) ac)) ac)))))
    zaf)
   (ai (zaz (zaV (zaZ (pv 0) Z.cl O.mT O.T hr1 O.bT .nil zao (aa ah ac)))
    (ae (zae (zab B2.ok hr rfl B2.m B2.kp B2.b .nil (zax xe1) (aa (pv 0) (aa (aj zcr (pv 1) ad) ac)))))
    zaf)
   (ae (zae (zab BM.ok hr45 rfl BM.m BM.kp BM.b .nil (zax xe1) (aa (pv 0) ac)))))))),?_⟩
 try dsimp only [Cx.nox,Cx.wish,zaj]
 obtain⟨i,dx,hc⟩:=C.ins
 have el:(((n+1:Nat):Int) - 1)=(n:Nat):=by omega
 have ep:pF (n+1) l=if pre [110,111,116,32] l=true then(match pF n (l.drop 4) with
   | none=>none
   | some (g,r)=>some (.not g,r))
  else if pre [117,110,108,105,107,101,40] l=true then(match zaJ (zap 20) (l.drop 7) with
   | none=>none
   | some (ts,r)=>some (.unlike ts,r))
  else if pre [40] l=true then zet (pF n) (l.drop 1) else pS l:=rfl
 rw[ep]at qE q
 refine⟨_,rfl,rfl,_,rfl,zaI (fun cc=>?_) (fun _=>?_)⟩
 ·have:=of_decide_eq_true cc
  injection this with this
  omega
 refine⟨_,rfl,c,dx,_,rfl,hc,zbz _ _,c,s,"not ",l,rfl,C,nx_not,fun e3 H1 C1 f1=>?_,fun e3=>?_⟩
 ·rw[c_not]at e3 C1
  rw[if_pos e3]at qE q
  refine⟨_,rfl,zbD ⟨_,rfl,_,rfl,_,_,rfl,rfl,c,s,l.drop 4,by rw[←el];rfl,C1,fun e H2 f2=>qE (by rw[e]) H2 (f1.trans f2),fun a r ea H2 v C2 f2 h2=>⟨lS2,fun p hp=>?_⟩⟩⟩
  rw[ea]at q
  have s3:=zad hp (.tup [V.str "not",v])
  have n3:=zaa (H:=H2) (a:=p) (o:=.tup [V.str "not",v])
  refine q _ _ rfl _ _ (C2.same s3) ((f1.trans f2).trans (FrC.of_same s3)) ?_
  simp only[sF,dFm]
  exact Has.tup' (SqT.of n3) (.cons Has.str' (.cons (h2.keep s3.kt (zay _)) .nil))
 rw[c_not]at e3
 rw[if_neg (by rw[e3];exact Bool.false_ne_true)]at qE q
 refine⟨_,rfl,za8 ?_⟩
 refine⟨_,rfl,c,dx,_,rfl,hc,zbz _ _,c,s,"unlike(",l,rfl,C,nx_unl,fun e4 H1 C1 f1=>?_,fun e4=>?_⟩
 ·rw[c_unl]at e4 C1
  rw[if_pos e4]at qE q
  obtain⟨i1,dx1,hc1⟩:=C1.ins
  refine⟨_,rfl,zbD ⟨_,rfl,c,dx1,_,rfl,hc1,zdN _ _,c,s,l.drop 7,rfl,C1,fun e H2 f2=>qE (by rw[e]) H2 (f1.trans f2),fun ts r ea H2 p xs C2 f2 hp hx=>⟨lS2,fun p2 hp2=>?_⟩⟩⟩
  rw[ea]at q
  have s3:=zad hp2 (.tup [V.str "unlike",V.ref p])
  have n3:=zaa (H:=H2) (a:=p2) (o:=.tup [V.str "unlike",V.ref p])
  refine q _ _ rfl _ _ (C2.same s3) ((f1.trans f2).trans (FrC.of_same s3)) ?_
  simp only[sF,dFm]
  exact Has.tup' (SqT.of n3) (.cons Has.str' (.cons (Has.tup' (SqT.of (s3 _ _ hp)) (hx.keep s3.kt (zah _))) .nil))
 rw[c_unl]at e4
 rw[if_neg (by rw[e4];exact Bool.false_ne_true)]at qE q
 refine⟨_,rfl,za8 ?_⟩
 refine⟨_,rfl,c,dx,_,rfl,hc,zbz _ _,c,s,"(",l,rfl,C,nx_op,fun e5 H1 C1 f1=>?_,fun e5=>?_⟩
 ·rw[c_op]at e5 C1
  rw[if_pos e5]at qE q
  exact⟨_,rfl,zbD ⟨_,rfl,_,rfl,_,_,rfl,rfl,c,s,l.drop 1,by rw[←el];rfl,C1,fun e H2 f2=>qE e H2 (f1.trans f2),fun a r ea H2 v C2 f2 h2=>q a r ea H2 v C2 (f1.trans f2) h2⟩⟩
 rw[c_op]at e5
 rw[if_neg (by rw[e5];exact Bool.false_ne_true)]at qE q
 exact⟨_,rfl,za8 ⟨_,rfl,c,s,l,rfl,C,qE,q⟩⟩
theorem zhz (g:GW W) (F:Fun K "take_formula" "take_formula" zbw f fd) (F2:Fun K "take_two" "take_two" zcC fD dD) (Z:TxC K mg CU) (TN:TxN K mg CN CB) (TW:TxW K mg aW aB) (O:Ow P w K mg base W CU CN fK fW dK' dW) (BB:FB P w K mg base (CX1 P w) 2 "take_between" fB dB ["cursor"] (ze5 W CU CN)) (BM:FB P w K mg base (CX1 P w) 45 "take_simple" fM dM ["cursor"] (ze3 W K CU CN pS)) (oS:FnOk P w K mg base (CX1 P w) 45 fS dS ["self","brackets"] (zci W K CU CN 20)) (bS:aq K dS ["self","brackets"] []) (mS:zbQ K CU "take_trees" fS)
  (bF:aq K fd ["cursor","left"] []) (kF:PySem.W.keepIn K (.ref f)=true) (mF:mg "take_formula"=some (.ref f)) (b2:aq K dD ["cursor","left"] []) (k2:PySem.W.keepIn K (.ref fD)=true) (m2:mg "take_two"=some (.ref fD)) :
  ∀ n,FnOk P w K mg base (CX1 P w) (2 * n+46) f fd ["cursor","left"] (zbU W K CU CN n (pF n))
 | 0=>form0 F TN TW
 | n+1=>by
  have IH:=zhz g F F2 Z TN TW O BB BM oS bS mS bF kF mF b2 k2 m2 n
  exact zjB g F Z TN TW O BM oS bS mS ⟨IH,bF,kF,mF⟩ ⟨ok_two F2 Z TN O BB (by omega) ⟨IH,bF,kF,mF⟩,b2,k2,m2⟩
end
end K73
namespace K73
open PySem L2
open F73 (Tr Fm dTr zar dFm FOk fdp dp dps zaq au zay zah za0 zbd zbB zbX szM zaS zbe)
def mx:List Nat→Nat
 | []=>0
 | x :: xs=>max x (mx xs)
theorem zh8:∀ {xs:List Nat} {x:Nat},x∈xs→x≤mx xs
 | y :: ys,x,h=>by
  simp only[mx]
  rcases List.mem_cons.mp h with rfl | h
  ·omega
  ·have:=zh8 h
   omega
theorem ziX:∀ {xs:List Nat},xs≠[]→mx xs∈xs
 | [],h=>absurd rfl h
 | [x],_=>by simp [mx]
 | x :: y :: ys,_=>by
  have:=ziX (xs:=y :: ys) (by simp)
  by_cases c:x≤mx (y :: ys)
  ·have e:mx (x :: y :: ys)=mx (y :: ys):=by
    show max x (mx (y :: ys))=_
    omega
   rw[e]
   exact List.mem_cons_of_mem _ this
  ·have e:mx (x :: y :: ys)=x:=by
    show max x (mx (y :: ys))=_
    omega
   rw[e]
   exact List.mem_cons_self
theorem ziY (xs ys:List Nat):mx (xs++ys)=max (mx xs) (mx ys):=by
 induction xs with
 | nil=>simp [mx]
 | cons x xs ih =>
  simp only[List.cons_append,mx,ih]
  omega
def dn (xs:List Nat):List Int:=xs.map fun n=>((n:Nat):Int)
theorem mx_is {xs:List Nat} {m:Int} (h:m∈dn xs) (a:∀ n∈dn xs,n≤m):m=mx xs:=by
 obtain⟨k,hk,rfl⟩:=List.mem_map.mp h
 have h1:=zh8 hk
 have ne:xs≠[]:=fun e=>by subst e;cases hk
 have h2:=a _ (List.mem_map.mpr ⟨_,ziX ne,rfl⟩)
 omega
theorem zgD:∀ ts:List Tr,dps ts=mx (ts.map dp)
 | []=>by simp only[dps,List.map_nil,mx]
 | t :: ts=>by simp only[dps,List.map_cons,mx,zgD ts]
def fdd:Fm→Nat
 | .plain _=>1
 | .bare _=>1
 | .same a b=>1+max (dp a) (dp b)
 | .unlike ts=>1+dps ts
 | .not f=>1+fdd f
 | .bin _ f g=>1+max (fdd f) (fdd g)
theorem zfe (g:Fm):fdd g=1+mx ((zaq g).map dp++(au g).map fdd):=by
 rw[ziY]
 cases g <;> simp only[fdd,zaq,au,List.map_nil,List.map_cons,mx,zgD] <;> omega
mutual
def nT:Tr→Nat
 | .node _ ts=>1+nTs ts
def nTs:List Tr→Nat
 | []=>0
 | t :: ts=>nT t+nTs ts
end
theorem nT_pos (t:Tr):1≤nT t:=by cases t;simp only[nT];omega
theorem zfA:∀ ts:List Tr,ts.length≤nTs ts
 | []=>Nat.le_refl _
 | t :: ts=>by
  have:=zfA ts
  have:=nT_pos t
  simp only[nTs,List.length_cons]
  omega
theorem zfz:∀ {ts:List Tr} {t:Tr},t∈ts→nT t≤nTs ts
 | u :: ts,t,h=>by
  simp only[nTs]
  rcases List.mem_cons.mp h with rfl | h
  ·omega
  ·have:=zfz h
   omega
def nF:Fm→Nat
 | .plain _=>1
 | .bare _=>1
 | .same a b=>nT a+nT b
 | .unlike ts=>nTs ts
 | .not f=>nF f
 | .bin _ f g=>nF f+nF g
def TD:Fm→Prop
 | .plain _=>True
 | .bare _=>True
 | .same a b=>dp a≤21∧dp b≤21
 | .unlike ts=>dps ts≤21
 | .not f=>TD f
 | .bin _ f g=>TD f∧TD g
structure Gd (g:Fm):Prop where
 ok:FOk g
 td:TD g
 nf:nF g≤1000000
theorem Gd.trs {g:Fm} (h:Gd g):(∀ t∈zaq g,dp t≤21∧nT t≤1000000)∧(zaq g).length≤1000000:=by
 obtain⟨_,td,nf⟩:=h
 cases g with
 | same a b =>
  simp only[TD]at td
  simp only[nF]at nf
  refine⟨fun t ht=>?_,by simp [zaq]⟩
  simp only[zaq,List.mem_cons,List.not_mem_nil,or_false]at ht
  rcases ht with rfl | rfl
  ·exact⟨td.1,by omega⟩
  ·exact⟨td.2,by omega⟩
 | unlike ts =>
  simp only[TD]at td
  simp only[nF]at nf
  refine⟨fun t ht=>⟨F73.dps_le td t ht,Nat.le_trans (zfz ht) nf⟩,Nat.le_trans (zfA ts) nf⟩
 | _=>exact⟨fun t ht=>by simp [zaq]at ht,by simp [zaq]⟩
theorem Gd.fms {g:Fm} (h:Gd g):(∀ u∈au g,Gd u)∧(au g).length≤2:=by
 obtain⟨ok,td,nf⟩:=h
 cases g with
 | not f =>
  refine⟨fun u hu=>?_,by simp [au]⟩
  simp only[au,List.mem_singleton]at hu
  subst hu
  exact⟨ok,td,nf⟩
 | bin k f g =>
  simp only[TD]at td
  simp only[nF]at nf
  refine⟨fun u hu=>?_,by simp [au]⟩
  simp only[au,List.mem_cons,List.not_mem_nil,or_false]at hu
  rcases hu with rfl | rfl
  ·exact⟨ok.2.1,td.1,by omega⟩
  ·exact⟨ok.2.2,td.2,by omega⟩
 | _=>exact⟨fun u hu=>by simp [au]at hu,by simp [au]⟩
section
variable {P:Program} {w:World} {K:PySem.W.Frag} {mg:Str→Option Value} {base:Heap} {f fT fI fJ:Addr} {fd dT' dI dJ:FuncData}
inductive zfr (K:PySem.W.Frag) (n:Nat):Sp | mk {vs H Q E9} (t:Tr) (v:V):vs=[v]→Has K H (dTr t) v→nT t≤1000000→dp t≤n→(∀ H',ao H H'→Q (.int (dp t:Nat)) H')→zfr K n vs H Q E9
theorem zkw:zac ["tree"] ["tree"] (ag zcW):=⟨rfl,rfl,rfl,by decide +kernel,rfl,by decide +kernel,by decide +kernel⟩
theorem zhy (F:Fun K "tree_depth" "tree_depth" zcW f fd) (TM:mg "max"=none) (b:aq K fd ["tree"] []) (kp:PySem.W.keepIn K (.ref f)=true) (m:mg "tree_depth"=some (.ref f)):∀ n,FnOk P w K mg base CX0 n f fd ["tree"] (zfr K n)
 | 0=>F73.FnOk.no fun _ _ _ _ ⟨t,v,_,_,_,h,_⟩=>by
  cases t
  simp only[dp]at h
  omega
 | n+1=>by
  have IH:=zhy F TM b kp m n
  refine F.ok zkw (fun vs H Q E h=>?_) (fun cdv A outer s H vs Q E hr h=>?_)
  ·obtain⟨t,v,rfl,_⟩:=h
   rfl
  obtain⟨⟨nm,ts⟩,v,rfl,ht,hl,hd,q⟩:=h
  refine⟨_,(ae (zae (aj zbA ad (zhu rfl rfl TM (aa (zf5 (N':=["part"]) (ix:=[]) rfl rfl (by decide +kernel) (by decide +kernel) rfl (fun _=>⟨[],zcl (by decide +kernel) (by decide +kernel)⟩) (by decide +kernel) rfl rfl (fun j i h=>by simp at h) (zfb (zaG za3 (pv 0) ad (fun _ _=>rfl))) (fun _ _ _ _=>(zab IH hr rfl m kp b .nil zao (aa (pv 0) ac)))) ac) (zhs ad ziM))))),?_⟩
  try dsimp only [Cx.nox,Cx.wish,zaj]
  obtain⟨p,r,xs,rfl,hp,hq,hx⟩:=zbX ht
  have xl:xs.length=ts.length:=by rw[←hx.length,zaT]
  simp only[dp]at hd q
  simp only[nT]at hl
  have l9:=zfA ts
  refine⟨_,rfl,p,_,_,_,rfl,rfl,hp,rfl,r,rfl,⟨_,hq⟩,fun D hD=>zeb ze2 (fun i us H'=>ao H H'∧us=((dn (ts.map dp)).take i).map V.int) (fun i us H' ⟨s4,_⟩=>s4.tup hq) ⟨zad hD _,rfl⟩ ?_ ?_⟩
  ·rintro i us H8 x H4 hi hly hDs ⟨s4,rfl⟩ ⟨rfl,hx'⟩
   obtain⟨u,hu,hux⟩:=zbd (hx.keep s4.kt (zah _)) (hx' _ (s4.tup hq))
   have um:=List.mem_of_getElem? hu
   have hu2:(dn (ts.map dp))[i]?=some ((dp u:Nat):Int):=by
    unfold dn
    rw[List.map_map,List.getElem?_map,hu]
    rfl
   refine⟨_,rfl,u,_,rfl,hux,(by have:=zfz um;omega),F73.dps_le (by omega) u um,fun H5 s5=>zcL (szM (by omega)) hi hly (s5 _ _ hDs) ⟨(s4.trans s5).upd hD,?_⟩⟩
   rw[zaR hu2,List.map_append]
   rfl
  rintro us H4 hDs ⟨s4,rfl⟩
  have dl:(dn (ts.map dp)).length=ts.length:=by simp [dn]
  rw[List.take_of_length_le (by rw[dl,xl];exact Nat.le_refl _)]at hDs
  refine⟨D,dn (ts.map dp),0,rfl,rfl,.inl (SqL.of hDs),fun e=>?_,fun m hm hmax=>?_⟩
  ·have e':ts=[]:=by
    have:=congrArg List.length e
    rw[dl]at this
    exact List.length_eq_zero_iff.mp this
   subst e'
   exact⟨_,_,rfl,rfl,q H4 s4⟩
  ·have e:=mx_is hm hmax
   rw[←zgD]at e
   subst e
   refine⟨_,_,rfl,rfl,?_⟩
   have e:(1+((dps ts:Nat):Int))=((1+dps ts:Nat):Int):=by omega
   show Q (.int (1+((dps ts:Nat):Int))) H4
   rw[e]
   exact q H4 s4
inductive ze4 (K:PySem.W.Frag) (n:Nat):Sp | mk {vs H Q E9} (g:Fm) (v:V):vs=[v]→Has K H (dFm g) v→Gd g→fdd g≤n→(∀ H',ao H H'→Q (.int (fdd g:Nat)) H')→ze4 K n vs H Q E9
theorem ziF:zac ["formula","within"] ["formula"] (ag zft):=⟨rfl,rfl,rfl,by decide +kernel,rfl,by decide +kernel,by decide +kernel⟩
theorem zk2 (g:Fm):1≤fdd g:=by rw[zfe];omega
theorem ziS (F:Fun K "depth" "depth" zft f fd) (TM:mg "max"=none) (b:aq K fd ["formula"] []) (kp:PySem.W.keepIn K (.ref f)=true) (m:mg "depth"=some (.ref f))
  (BT:FB P w K mg base CX0 21 "tree_depth" fT dT' ["tree"] (zfr K 21)) (BI:FB P w K mg base CX0 1 "inner_trees" fI dI ["formula"] (zaS K)) (BJ:FB P w K mg base CX0 1 "inner_formulas" fJ dJ ["formula"] (zbe K)):∀ n,FnOk P w K mg base CX0 (n+21) f fd ["formula"] (ze4 K n)
 | 0=>F73.FnOk.no fun _ _ _ _ ⟨g,v,_,_,_,h,_⟩=>by
  have:=zk2 g
  omega
 | n+1=>by
  have IH:=ziS F TM b kp m BT BI BJ n
  refine F.ok (k:=n+21) ziF (fun vs H Q E h=>?_) (fun cdv A outer s H vs Q E hr h=>?_)
  ·obtain⟨t,v,rfl,_⟩:=h
   rfl
  obtain⟨g,v,rfl,hg,gd,hd,q⟩:=h
  have hr1:zai 1 _:=hr.mono (by omega)
  have hr3:zai 21 _:=hr.mono (by omega)
  refine⟨_,(ai (zjT (i:=1) (N':=["tree"]) (ix:=[]) ziF.nd rfl (Or.inl rfl) rfl rfl (by decide +kernel) (by decide +kernel) rfl (fun _=>⟨[],zcl (by decide +kernel) (by decide +kernel)⟩) (by decide +kernel) rfl rfl (fun j i h=>by simp at h) (zbL (zab BI.ok hr1 rfl BI.m BI.kp BI.b .nil zao (aa (pv 0) ac))) (fun _ _ _ _=>(zab BT.ok hr3 rfl BT.m BT.kp BT.b .nil zao (aa (pv 0) ac))))
   (ai (za6 (zea PySem.F.plainAttrs_list PySem.F.slot_list_extend PySem.F.type_list_extend zjs (pv 1) (aa (zf5 (N':=["inner"]) (ix:=[]) rfl rfl (by decide +kernel) (by decide +kernel) rfl (fun _=>⟨[],zcl (by decide +kernel) (by decide +kernel)⟩) (by decide +kernel) rfl rfl (fun j i h=>by simp at h) (zbL (zab BJ.ok hr1 rfl BJ.m BJ.kp BJ.b .nil zao (aa (pv 0) ac))) (fun _ _ _ _=>(zab IH hr rfl m kp b .nil zao (aa (pv 0) ac)))) ac)))
   (ae (zae (aj zbA ad (zhu rfl rfl TM (aa (pv 1) ac) (zhs ad ziM))))))),?_⟩
  try dsimp only [Cx.nox,Cx.wish,zaj]
  have ok:=gd.ok
  obtain⟨lt,ll⟩:=gd.trs
  obtain⟨lm,l2⟩:=gd.fms
  have fb:∀ u∈au g,fdd u≤n:=fun u hu=>by
   have h1:=zfe g
   rw[ziY]at h1
   have:=zh8 (List.mem_map.mpr ⟨u,hu,rfl⟩:fdd u∈(au g).map fdd)
   omega
  refine⟨_,rfl,g,_,rfl,hg,ok,fun H1 l ys s1 hl hl1 hy=>⟨l,rfl,⟨_,SqL.of hl1⟩,fun D hD=>zeb zbK (fun i us H'=>ao H1 H'∧us=((dn ((zaq g).map dp)).take i).map V.int) (fun i us H' ⟨s4,_⟩=>SqL.of (s4 _ _ hl1)) ⟨zad hD _,rfl⟩ ?_ ?_⟩⟩
  ·rintro i us H8 x H4 hi hly hDs ⟨s4,rfl⟩ ⟨rfl,hx'⟩
   obtain⟨u,hu,hux⟩:=zbd (hy.keep s4.kt (zah _)) (hx' _ (SqL.of (s4 _ _ hl1)))
   have um:=List.mem_of_getElem? hu
   have yl:ys.length=(zaq g).length:=by rw[←hy.length,zaT]
   have hu2:(dn ((zaq g).map dp))[i]?=some ((dp u:Nat):Int):=by
    unfold dn
    rw[List.map_map,List.getElem?_map,hu]
    rfl
   refine⟨_,rfl,u,_,rfl,hux,(lt u um).2,(lt u um).1,fun H5 s5=>zcL (szM (by omega)) hi hly (s5 _ _ hDs) ⟨(s4.trans s5).upd hD,?_⟩⟩
   rw[zaR hu2,List.map_append]
   rfl
  rintro us H4 hDs ⟨s4,rfl⟩
  have yl:ys.length=(zaq g).length:=by rw[←hy.length,zaT]
  have dl:(dn ((zaq g).map dp)).length=(zaq g).length:=by simp [dn]
  rw[List.take_of_length_le (by rw[dl,yl];exact Nat.le_refl _)]at hDs
  have s14:=s1.trans s4
  have hg4:=hg.keep s14.kt (zay _)
  refine⟨_,rfl,.inl ⟨rfl,_,SqL.of hDs⟩,_,rfl,g,_,rfl,hg4,ok,fun H5 l2' zs s5 hl2 hl5 hz=>⟨l2',rfl,⟨_,SqL.of hl5⟩,fun D2 hD2=>zeb zbK (fun i us H'=>ao H5 H'∧us=((dn ((au g).map fdd)).take i).map V.int) (fun i us H' ⟨s6,_⟩=>SqL.of (s6 _ _ hl5)) ⟨zad hD2 _,rfl⟩ ?_ ?_⟩⟩
  ·rintro i us H8 x H6 hi hly hDs6 ⟨s6,rfl⟩ ⟨rfl,hx'⟩
   obtain⟨u,hu,hux⟩:=zbB (hz.keep s6.kt (za0 _)) (hx' _ (SqL.of (s6 _ _ hl5)))
   have um:=List.mem_of_getElem? hu
   have zl:zs.length=(au g).length:=by rw[←hz.length,List.length_map]
   have hu2:(dn ((au g).map fdd))[i]?=some ((fdd u:Nat):Int):=by
    unfold dn
    rw[List.map_map,List.getElem?_map,hu]
    rfl
   refine⟨_,rfl,u,_,rfl,hux,lm u um,fb u um,fun H7 s7=>zcL (szM (by omega)) hi hly (s7 _ _ hDs6) ⟨(s6.trans s7).upd hD2,?_⟩⟩
   rw[zaR hu2,List.map_append]
   rfl
  rintro us H6 hDs6 ⟨s6,rfl⟩
  have zl:zs.length=(au g).length:=by rw[←hz.length,List.length_map]
  have dl2:(dn ((au g).map fdd)).length=(au g).length:=by simp [dn]
  rw[List.take_of_length_le (by rw[dl2,zl];exact Nat.le_refl _)]at hDs6
  have hD6:H6 D=some (.lst ((dn ((zaq g).map dp)).map V.int)):=(s5.trans s6) _ _ hDs
  have nD:H D=none:=s1.free hD
  refine⟨D,D2,_,_,rfl,rfl,hD6,hDs6,szM (by simp only[List.length_map,dl,dl2];omega),?_⟩
  have ea:(dn ((zaq g).map dp)).map V.int++(dn ((au g).map fdd)).map V.int=(dn ((zaq g).map dp++(au g).map fdd)).map V.int:=by
   unfold dn
   rw[List.map_append,List.map_append]
  rw[ea]
  have sF:ao H (upd H6 D (.lst ((dn ((zaq g).map dp++(au g).map fdd)).map V.int))):=((s14.trans s5).trans s6).upd nD
  refine⟨_,rfl,D,dn ((zaq g).map dp++(au g).map fdd),0,rfl,rfl,.inl (SqL.of zaa),fun e=>?_,fun m hm hmax=>?_⟩
  ·have e':((zaq g).map dp++(au g).map fdd)=[]:=by
    have:=congrArg List.length e
    unfold dn at this
    rw[List.length_map]at this
    exact List.length_eq_zero_iff.mp this
   have e1:=zfe g
   rw[e']at e1
   refine⟨_,_,rfl,rfl,?_⟩
   have e:((1:Int)+0)=((fdd g:Nat):Int):=by rw[e1];rfl
   show Q (.int ((1:Int)+0)) _
   rw[e]
   exact q _ sF
  ·have e:=mx_is hm hmax
   subst e
   refine⟨_,_,rfl,rfl,?_⟩
   have e:(1+((mx ((zaq g).map dp++(au g).map fdd):Nat):Int))=((fdd g:Nat):Int):=by rw[zfe g];omega
   show Q (.int (1+((mx ((zaq g).map dp++(au g).map fdd):Nat):Int))) _
   rw[e]
   exact q _ sF
end
end K73
namespace K73
open PySem L2
open F73 (Tr Fm dTr zar dFm FOk fdp dp dps zaq au zaO zay zah za0 zbd zbB zbX szM ak zaS zbe hdF tlF zcB zaQ)
mutual
def rT:Tr→Bool
 | .node _ ts=>decide (ts.length≤3)&&rTs ts
def rTs:List Tr→Bool
 | []=>true
 | t :: ts=>rT t&&rTs ts
end
theorem zfw:∀ ts:List Tr,rTs ts=ts.all rT
 | []=>by simp [rTs]
 | t :: ts=>by simp [rTs,zfw ts]
mutual
def eqT:Tr→Tr→Bool
 | .node n ts,.node m us=>(n == m)&&zeu ts us
def zeu:List Tr→List Tr→Bool
 | [],[]=>true
 | t :: ts,u :: us=>eqT t u&&zeu ts us
 | _,_=>false
end
def dst (a:List Tr):List Tr→Bool
 | []=>true
 | t :: ts=>!(a.any fun u=>eqT u t)&&dst (a++[t]) ts
def uB (ts:List Tr):Bool:=decide (2≤ts.length)&&decide (ts.length≤5)&&dst [] ts
def cF:Fm→Bool
 | .plain _=>true
 | .bare _=>true
 | .same a b=>rT a&&rT b
 | .unlike ts=>uB ts&&rTs ts
 | .not f=>cF f
 | .bin _ f g=>cF f&&cF g
def NxF:Fm→Prop
 | .plain z=>120∉cp z
 | .bare _=>True
 | .same a b=>NxT a∧NxT b
 | .unlike ts=>zb0 ts
 | .not f=>NxF f
 | .bin _ f g=>NxF f∧NxF g
theorem zeO:∀ {ts:List Tr},zb0 ts→∀ t∈ts,NxT t
 | t :: ts,h,u,hu=>by
  simp only[zb0]at h
  rcases List.mem_cons.mp hu with rfl | hu
  ·exact h.1
  ·exact zeO h.2 u hu
theorem nx_fms {g:Fm} (h:NxF g):∀ u∈au g,NxF u:=by
 cases g with
 | not f=>intro u hu;simp only[au,List.mem_singleton]at hu;subst hu;exact h
 | bin k f g =>
  intro u hu
  simp only[au,List.mem_cons,List.not_mem_nil,or_false]at hu
  rcases hu with rfl | rfl
  ·exact h.1
  ·exact h.2
 | _=>intro u hu;simp [au]at hu
def uF:Fm→Bool
 | .unlike ts=>uB ts
 | _=>true
theorem cF_eq (g:Fm):cF g=(uF g&&(rTs (zaq g)&&(au g).all cF)):=by
 cases g <;> simp [cF,uF,zaq,au,rTs]
mutual
theorem ziO {W:List Nat} (g:GW W):∀ {a b:Tr},NxT a→NxT b→peq (dTr (sT W a)) (dTr (sT W b))=eqT a b
 | .node n ts,.node m us,ha,hb=>by
  simp only[NxT]at ha hb
  simp only[sT,dTr,peq,zaX,eqT,Bool.and_true]
  rw[zht g ha.2 hb.2]
  congr 1
  rw[Bool.eq_iff_iff,beq_iff_eq,beq_iff_eq]
  exact zh4 g ha.1 hb.1
theorem zht {W:List Nat} (g:GW W):∀ {a b:List Tr},zb0 a→zb0 b→zaX (zar (sTs W a)) (zar (sTs W b))=zeu a b
 | [],[],_,_=>by simp [sTs,zar,zaX,zeu]
 | [],u :: us,_,_=>by simp [sTs,zar,zaX,zeu]
 | t :: ts,[],_,_=>by simp [sTs,zar,zaX,zeu]
 | t :: ts,u :: us,ha,hb=>by
  simp only[zb0]at ha hb
  simp only[sTs,zar,zaX,zeu]
  rw[ziO g ha.1 hb.1,zht g ha.2 hb.2]
end
theorem zja {W:List Nat} (g:GW W) {t:Tr} (ht:NxT t):∀ {ts:List Tr},zb0 ts→(zar (sTs W ts)).any (fun d=>peq d (dTr (sT W t)))=ts.any fun u=>eqT u t
 | [],_=>by simp [sTs,zar]
 | u :: us,h=>by
  simp only[zb0]at h
  simp only[sTs,zar,List.any_cons]
  rw[zja g ht h.2,ziO g h.1 ht]
mutual
theorem rT_sT (W:List Nat):∀ t:Tr,rT (sT W t)=rT t
 | .node n ts=>by simp only[sT,rT,zcD,zgu W ts]
theorem zgu (W:List Nat):∀ ts:List Tr,rTs (sTs W ts)=rTs ts
 | []=>rfl
 | t :: ts=>by simp only[sTs,rTs,rT_sT W t,zgu W ts]
end
theorem zgd (W:List Nat) (g:Fm):zaq (sF W g)=sTs W (zaq g):=by
 cases g <;> simp [sF,zaq,sTs]
theorem zi4 (W:List Nat) (g:Fm):au (sF W g)=(au g).map (sF W):=by
 cases g <;> simp [sF,au]
theorem hd_sF (W:List Nat) (g:Fm):hdF (sF W g)=hdF g:=by
 cases g <;> rfl
theorem am.take {K:PySem.W.Frag} {H:Hp}:∀ {ds:List Dt} {vs:List V} (n:Nat),am K H ds vs→am K H (ds.take n) (vs.take n)
 | _,_,0,_=>am.nil
 | [],vs,n+1,h=>by
  simp only[am]at h
  subst h
  exact am.nil
 | d :: ds,vs,n+1,h=>by
  simp only[am]at h
  obtain⟨v,r,rfl,h1,h2⟩:=h
  exact .cons h1 (am.take n h2)
theorem zjh (n:Nat) (ts:List Tr):(zar ts).take n=zar (ts.take n):=by rw[zaQ,zaQ,List.map_take]
theorem zjJ (W:List Nat) (n:Nat) (ts:List Tr):(sTs W ts).take n=sTs W (ts.take n):=by rw[zcf,zcf,List.map_take]
def an (CN:Addr) (b:Bool) (H:Hp) (Q:VK) (E:XK):Prop:=(b=true→∀ H',ao H H'→Q .non H')∧(b=false→∀ H',ao H H'→E (.ref CN) none H')
section
variable {P:Program} {w:World} {K:PySem.W.Frag} {mg:Str→Option Value} {base:Heap} {W:List Nat} {CN CB aW aB:Addr} {f fT fI fJ fU:Addr} {fd dT' dI dJ dU:FuncData}
inductive ze6 (K:PySem.W.Frag) (CN:Addr) (n:Nat):Sp | mk {vs H Q E} (t:Tr) (v:V):vs=[v]→Has K H (dTr t) v→dp t≤n→an CN (rT t) H Q E→ze6 K CN n vs H Q E
theorem ziH:zac ["tree","part"] ["tree"] (ag zdJ):=⟨rfl,rfl,rfl,by decide +kernel,rfl,by decide +kernel,by decide +kernel⟩
theorem raise3 {E:XK} {a b:Str} {i:Int} {D:zaU} {σ:St} {H:Hp} (hi:i.natAbs < 1000) (d1:a.length≤1000) (d2:b.length≤1000) (h:E (.ref CN) none H):zdR E CN (zbE (zdu (zbI (tC (.str a)) (zbI (tFmt (tC (.int i))) (zbI (tC (.str b)) jNil)))) zbY) D σ H:=by
 have c0:Str.empty.length=0:=rfl
 have d3:((toString i:String):Str).length≤10:=zck (by omega)
 exact⟨_,rfl,szM (by simp only[ak,c0];omega),.inr ⟨_,rfl,zg3 (by omega),_,rfl,szM (by simp only[ak,c0];omega),_,rfl,szM (by simp only[ak,c0];omega),szM (by simp only[ak,c0];omega),(by show 1≤sizeLine;decide),h⟩⟩
theorem ziT (F:Fun K "ask_tree" "ask_tree" zdJ f fd) (TN:TxN K mg CN CB) (TW:TxW K mg aW aB) (b:aq K fd ["tree"] []) (kp:PySem.W.keepIn K (.ref f)=true) (m:mg "ask_tree"=some (.ref f)):∀ n,FnOk P w K mg base (CX1 P w) n f fd ["tree"] (ze6 K CN n)
 | 0=>F73.FnOk.no fun _ _ _ _ ⟨t,v,_,_,h,_⟩=>by
  cases t
  simp only[dp]at h
  omega
 | n+1=>by
  have IH:=ziT F TN TW b kp m n
  refine Fun.okX F ziH (fun vs H Q E h=>?_) (fun cdv A outer s0 H vs Q E hr h=>?_)
  ·obtain⟨t,v,rfl,_⟩:=h
   rfl
  obtain⟨⟨nm,ts⟩,v,rfl,ht,hd,q,qE⟩:=h
  obtain⟨t1,e1⟩:=TW.mtp
  refine⟨_,(ai (zaz (zak zeW (zaL zbv rfl TW.len PySem.boot_len (aa (zaG za3 (pv 0) ad (fun _ _=>rfl)) ac)) (zam (v:=.int 3) rfl e1 ⟨_,rfl⟩) (zau _))
    (ae (zaP (C:=CN) xe1 rfl rfl TN.np PySem.F.excBase_ValueError TN.xn (aa (zbk (zaB ah (zaB (zc1 (zam (v:=.int 3) rfl e1 ⟨_,rfl⟩)) (zaB ah zb9)))) ac)))
    zaf)
   (ae (zbF PassesOwn.leaving rfl (zfb (zaG za3 (pv 0) ad (fun _ _=>rfl))) (zaY (i:=1) ziH.nd rfl (Or.inl rfl))
    (ae (za6 (zab IH hr rfl m kp b .nil (zax xe1) (aa (pv 1) ac))))))),?_⟩
  try dsimp only [Cx.nox,Cx.wish,zaj]
  obtain⟨p,r,xs,rfl,hp,hq,hx⟩:=zbX ht
  have xl:xs.length=ts.length:=by rw[←hx.length,zaT]
  simp only[dp]at hd
  simp only[rT]at q qE
  refine⟨_,rfl,p,_,_,_,rfl,rfl,hp,rfl,r,_,rfl,.inr hq,_,_,rfl,rfl,_,rfl,zaI (fun c=>?_) (fun c=>?_)⟩
  ·have c':(3:Int) < ((xs.length:Nat):Int):=of_decide_eq_true c
   refine raise3 (by decide) (by decide +kernel) (by decide +kernel) (qE ?_ H (ao.refl H))
   rw[decide_eq_false (by omega),Bool.false_and]
  have c':¬(3:Int) < ((xs.length:Nat):Int):=fun h=>c (decide_eq_true h)
  rw[decide_eq_true (show ts.length≤3 by omega),Bool.true_and,zfw]at q qE
  refine⟨_,rfl,p,_,_,_,rfl,rfl,hp,rfl,r,rfl,⟨_,hq⟩,zca ze2 (fun i σ H'=>∃ v:Option V,σ=[some (.ref p),v]∧ao H H'∧(ts.take i).all rT=true) (fun i σ H' ⟨_,_,s1,_⟩=>s1.tup hq) ⟨none,rfl,ao.refl H,rfl⟩ ?_ ?_⟩
  ·rintro i σ H2 x H3 hi ⟨v,rfl,s2,al⟩ ⟨rfl,hy⟩
   obtain⟨u,hu,hux⟩:=zbd (hx.keep s2.kt (zah _)) (hy _ (s2.tup hq))
   have um:=List.mem_of_getElem? hu
   refine⟨_,rfl,u,_,rfl,hux,F73.dps_le (by omega) u um,fun e H5 s5=>⟨_,rfl,s2.trans s5,?_⟩,fun e H5 s5=>qE ?_ H5 (s2.trans s5)⟩
   ·rw[zaR hu,List.all_append,al]
    simp [e]
   ·rw[List.all_eq_false]
    exact⟨u,um,by rw[e];exact Bool.false_ne_true⟩
  ·rintro σ H2 ⟨v,rfl,s2,al⟩
   exact q (by rw[xl,List.take_length]at al;exact al) H2 s2
inductive zgj (W:List Nat) (K:PySem.W.Frag) (CN:Addr):Sp | mk {vs H Q E} (ts:List Tr) (a:Addr) (xs:List V):vs=[.ref a]→SqT K H a xs→am K H (zar (sTs W ts)) xs→zb0 ts→dps ts≤21→an CN (uB ts) H Q E→zgj W K CN vs H Q E
theorem zgo:zac ["trees","place","tree"] ["trees"] (ag zcX):=⟨rfl,rfl,rfl,by decide +kernel,rfl,by decide +kernel,by decide +kernel⟩
theorem cut_n (xs:List V) (m:Nat):zc9 xs none (some (m:Int))=xs.take m:=by
 unfold zc9
 rw[HT.sIx_none,HT.sIx_nat,List.drop_zero,Nat.sub_zero]
 rw[List.take_eq_take_iff]
 omega
theorem ok_aul (g:GW W) (F:Fun K "ask_unlike" "ask_unlike" zcX f fd) (TN:TxN K mg CN CB) (TW:TxW K mg aW aB) (TE:mg "enumerate"=none):FnOk P w K mg base (CX1 P w) 1 f fd ["trees"] (zgj W K CN):=by
 refine Fun.okX F zgo (fun vs H Q E h=>?_) (fun cdv A outer s0 H vs Q E hr h=>?_)
 ·obtain⟨t,v,_,rfl,_⟩:=h
  rfl
 obtain⟨ts,a,xs,rfl,hS,hx,nx,d21,q,qE⟩:=h
 obtain⟨t1,e1⟩:=TW.lu
 obtain⟨t2,e2⟩:=TW.mu
 have hu:=zkp hr
 refine⟨_,(ai (zaz (PW.pt (zh6 (zak op_lt (zaL zbv rfl TW.len PySem.boot_len (aa (pv 0) ac)) (zam (v:=.int 2) rfl e1 ⟨_,rfl⟩) (zau _)) (zgv (zak zeW (zaL zbv rfl TW.len PySem.boot_len (aa (pv 0) ac)) (zam (v:=.int 5) rfl e2 ⟨_,rfl⟩) (zau _)))))
   (ae (zaP (C:=CN) xe1 rfl rfl TN.np PySem.F.excBase_ValueError TN.xn (aa (zbk (zaB ah (zaB (zc1 (zam (v:=.int 2) rfl e1 ⟨_,rfl⟩)) (zaB ah (zaB (zc1 (zam (v:=.int 5) rfl e2 ⟨_,rfl⟩)) (zaB ah zb9)))))) ac)))
   zaf)
  (ae (zbF PassesOwn.leaving rfl (zjV rfl TE (aa (pv 0) ac)) (pg_tup rfl (zgV (zaY (i:=1) zgo.nd rfl (Or.inl rfl)) (zgV (zaY (i:=2) zgo.nd rfl (Or.inl rfl)) zkC)))
   (ae (zaz (zak (op_inD hu) (pv 2) (zcj zgk (pv 0) zdw (zcg (pv 1))) rfl)
    (ae (zaP (C:=CN) xe1 rfl rfl TN.np PySem.F.excBase_ValueError TN.xn (aa ah ac)))
    zaf))))),?_⟩
 try dsimp only [Cx.nox,Cx.wish,zaj]
 have xl:xs.length=ts.length:=by rw[←hx.length,zaT,zcD]
 have bad:∀ {D:zaU} {σ:St},(ts.length < 2∨5 < ts.length)→zdR E CN (zbE (zdu (zbI (tC (.str "unlike is of ")) (zbI (tFmt (tC (.int 2))) (zbI (tC (.str " to ")) (zbI (tFmt (tC (.int 5))) (zbI (tC (.str " trees")) jNil)))))) zbY) D σ H:=by
  intro D σ h
  have c0:Str.empty.length=0:=rfl
  have d1:(("unlike is of ":Str)).length≤100:=by decide +kernel
  have d2:((" to ":Str)).length≤100:=by decide +kernel
  have d4:((" trees":Str)).length≤100:=by decide +kernel
  have d3:((toString (2:Int):String):Str).length≤10:=zck (by decide)
  have d5:((toString (5:Int):String):Str).length≤10:=zck (by decide)
  have e:uB ts=false:=by
   unfold uB
   rcases h with h | h
   ·rw[decide_eq_false (by omega:¬2≤ts.length),Bool.false_and,Bool.false_and]
   ·rw[decide_eq_false (by omega:¬ts.length≤5),Bool.and_false,Bool.false_and]
  exact⟨_,rfl,szM (by simp only[ak,c0];omega),.inr ⟨_,rfl,by decide,_,rfl,szM (by simp only[ak,c0];omega),_,rfl,szM (by simp only[ak,c0];omega),.inr ⟨_,rfl,by decide,_,rfl,szM (by simp only[ak,c0];omega),_,rfl,szM (by simp only[ak,c0];omega),szM (by simp only[ak,c0];omega),(by show 1≤sizeLine;decide),qE e H (ao.refl H)⟩⟩⟩
 refine⟨_,rfl,a,_,rfl,.inr hS,_,_,rfl,rfl,_,rfl,zaI (fun c=>?_) (fun c=>?_)⟩
 ·have:((xs.length:Nat):Int) < 2:=of_decide_eq_true c
  exact zbD (bad (by omega))
 have c2:¬((xs.length:Nat):Int) < 2:=fun h=>c (decide_eq_true h)
 refine⟨_,rfl,a,_,rfl,.inr hS,_,_,rfl,rfl,_,rfl,zaI (fun c=>?_) (fun c=>?_)⟩
 ·have:(5:Int) < ((xs.length:Nat):Int):=of_decide_eq_true c
  exact bad (D:={ nx:=fun _ _=>False,rt:=Q }) (by omega)
 have c5:¬(5:Int) < ((xs.length:Nat):Int):=fun h=>c (decide_eq_true h)
 have eu:uB ts=dst [] ts:=by
  unfold uB
  rw[decide_eq_true (by omega:2≤ts.length),decide_eq_true (by omega:ts.length≤5),Bool.true_and,Bool.true_and]
 rw[eu]at q qE
 refine⟨_,rfl,a,rfl,⟨_,hS⟩,zca zjI (fun i σ H'=>∃ v1 v2:Option V,σ=[some (.ref a),v1,v2]∧ao H H'∧dst [] ts=dst (ts.take i) (ts.drop i)) (fun i σ H' ⟨_,_,_,s1,_⟩=>s1.tup hS) ⟨none,none,rfl,ao.refl H,rfl⟩ ?_ ?_⟩
 ·rintro i σ H2 x H3 hi ⟨v1,v2,rfl,s2,ed⟩ ⟨p,y,rfl,hp,rfl,hy⟩
  have s3:ao H2 (upd H2 p (.tup [.int i,y])):=zad hp _
  have n3:=zaa (H:=H2) (a:=p) (o:=.tup [.int i,y])
  generalize upd H2 p (.tup [.int i,y])=H3 at s3 n3
  have s13:=s2.trans s3
  obtain⟨u',hu',hux⟩:=zbd (hx.keep s13.kt (zah _)) (hy _ (s2.tup hS))
  rw[zcf,List.getElem?_map]at hu'
  obtain⟨u,hu2,rfl⟩:=Option.map_eq_some_iff.mp hu'
  have um:=List.mem_of_getElem? hu2
  have lt:i < xs.length:=hi
  have edr:ts.drop i=u :: ts.drop (i+1):=by
   obtain⟨hi',e⟩:=List.getElem?_eq_some_iff.mp hu2
   rw[List.drop_eq_getElem_cons hi',e]
  rw[edr]at ed
  simp only[dst]at ed
  rw[←zaR hu2]at ed
  refine⟨p,_,rfl,SqT.of n3,rfl,_,_,rfl,_,_,rfl,rfl,?_⟩
  refine⟨_,rfl,_,rfl,_,rfl,_,rfl,a,_,rfl,s13.tup hS,(fun h=>by
   have h2:=h.2
   rw[HT.sIx_nat]at h2
   omega),fun p4 hp4=>?_⟩
  rw[cut_n]
  have s4:ao H3 (upd H3 p4 (.tup (xs.take i))):=zad hp4 _
  have n4:=zaa (H:=H3) (a:=p4) (o:=.tup (xs.take i))
  generalize upd H3 p4 (.tup (xs.take i))=H4 at s4 n4
  have s14:=s13.trans s4
  have dd:=F73.deps_dTrs (sTs W (ts.take i))
  rw[zdr]at dd
  have dm:=F73.le_dps (ts:=ts.take i) (n:=21) fun t ht=>F73.dps_le d21 t (List.mem_of_mem_take ht)
  have tk:(zar (sTs W ts)).take i=zar (sTs W (ts.take i)):=by rw[zjh,zjJ]
  have nxt:zb0 (ts.take i):=by
   have:∀ l:List Tr,(∀ t∈l,NxT t)→zb0 l:=fun l=>by
    induction l with
    | nil=>exact fun _=>trivial
    | cons b l ih=>exact fun h=>⟨h b (by simp),ih fun t ht=>h t (List.mem_cons_of_mem _ ht)⟩
   exact this _ fun t ht=>zeO nx t (List.mem_of_mem_take ht)
  refine⟨p4,_,(zar (sTs W ts)).take i,dTr (sT W u),rfl,.inr (SqT.of n4),am.take i (hx.keep s14.kt (zah _)),hux.keep s4.kt (zaO _),by rw[tk];omega,_,rfl,?_⟩
  have ea':((zar (sTs W ts)).take i).any (fun d'=>peq d' (dTr (sT W u)))=(ts.take i).any fun t=>eqT t u:=by rw[tk];exact zja g (zeO nx u um) nxt
  rw[ea']
  cases ea:(ts.take i).any fun t=>eqT t u with
  | true =>
   rw[ea]at ed
   exact zbD ⟨(by show 1≤sizeLine;decide),qE (by rw[ed];rfl) H4 s14⟩
  | false =>
   rw[ea]at ed
   exact za8 ⟨_,_,rfl,s14,by rw[ed];rfl⟩
 ·rintro σ H2 ⟨v1,v2,rfl,s2,ed⟩
  rw[xl,List.drop_length]at ed
  exact q (by rw[ed];rfl) H2 s2
end
end K73
namespace K73
open PySem L2
open F73 (Tr Fm dTr zar dFm FOk fdp dp dps zaq au zaO zay zah za0 zbd zbB zbX szM ak zaS zbe hdF tlF zcB zaQ)
theorem zds {W:List Nat}:∀ {g:Fm},FOk g→FOk (sF W g)
 | .plain _,_=>trivial
 | .bare _,h=>h
 | .same _ _,_=>trivial
 | .unlike _,_=>trivial
 | .not f,h=>zds (g:=f) h
 | .bin k f g,h=>⟨h.1,zds h.2.1,zds h.2.2⟩
theorem zhX {g:Fm} (h:FOk g):∀ u∈au g,FOk u∧fdp u+1≤fdp g:=by
 cases g with
 | not f =>
  intro u hu
  simp only[au,List.mem_singleton]at hu
  subst hu
  exact⟨h,by simp only[fdp];omega⟩
 | bin k f g =>
  intro u hu
  simp only[au,List.mem_cons,List.not_mem_nil,or_false]at hu
  rcases hu with rfl | rfl
  ·exact⟨h.2.1,by simp only[fdp];omega⟩
  ·exact⟨h.2.2,by simp only[fdp];omega⟩
 | _=>intro u hu;simp [au]at hu
theorem zjc {g:Fm} (h:TD g):dps (zaq g)≤21:=by
 cases g with
 | same a b=>simp only[TD]at h;simp only[zaq,dps];omega
 | unlike ts=>exact h
 | _=>simp [zaq,dps]
theorem zjd {g:Fm} (h:TD g):∀ u∈au g,TD u:=by
 cases g with
 | not f=>intro u hu;simp only[au,List.mem_singleton]at hu;subst hu;exact h
 | bin k f g =>
  intro u hu
  simp only[au,List.mem_cons,List.not_mem_nil,or_false]at hu
  rcases hu with rfl | rfl
  ·exact h.1
  ·exact h.2
 | _=>intro u hu;simp [au]at hu
theorem zjb {W:List Nat} {ts:List Tr}:rTs ts=(sTs W ts).all rT:=by rw[←zfw,zgu]
section
variable {P:Program} {w:World} {K:PySem.W.Frag} {mg:Str→Option Value} {base:Heap} {W:List Nat} {CU CN CB aW aB:Addr} {f fT fI fJ fU fO fD fC:Addr} {fd dT' dI dJ dU dO dD dC:FuncData}
inductive zdV (W:List Nat) (K:PySem.W.Frag) (CN:Addr) (n:Nat):Sp | mk {vs H Q E} (g:Fm) (v:V):vs=[v]→Has K H (dFm (sF W g)) v→FOk g→TD g→NxF g→fdp g≤n→an CN (cF g) H Q E→zdV W K CN n vs H Q E
theorem zgq:zac ["formula","tree","inner"] ["formula"] (ag zcY):=⟨rfl,rfl,rfl,by decide +kernel,rfl,by decide +kernel,by decide +kernel⟩
theorem ziV (gw:GW W) (F:Fun K "ask_counts" "ask_counts" zcY f fd) (b:aq K fd ["formula"] []) (kp:PySem.W.keepIn K (.ref f)=true) (m:mg "ask_counts"=some (.ref f))
  (BT:FB P w K mg base (CX1 P w) 21 "ask_tree" fT dT' ["tree"] (ze6 K CN 21)) (BU:FB P w K mg base (CX1 P w) 1 "ask_unlike" fU dU ["trees"] (zgj W K CN)) (BI:FB P w K mg base CX0 1 "inner_trees" fI dI ["formula"] (zaS K)) (BJ:FB P w K mg base CX0 1 "inner_formulas" fJ dJ ["formula"] (zbe K)):∀ n,FnOk P w K mg base (CX1 P w) (n+21) f fd ["formula"] (zdV W K CN n)
 | 0=>F73.FnOk.no fun _ _ _ _ ⟨g,v,_,_,_,_,_,h,_⟩=>by
  have:=F73.fdp_pos g
  omega
 | n+1=>by
  have IH:=ziV gw F b kp m BT BU BI BJ n
  refine Fun.okX (k:=n+21) F zgq (fun vs H Q E h=>?_) (fun cdv A outer s0 H vs Q E hr h=>?_)
  ·obtain⟨t,v,rfl,_⟩:=h
   rfl
  obtain⟨g,v,rfl,hg,ok,td,nx,hd,q,qE⟩:=h
  have hr1:zai 1 _:=hr.mono (by omega)
  have hr3:zai 21 _:=hr.mono (by omega)
  refine⟨_,(ai (zaz (zak za1 (zaG za3 (pv 0) ad (fun _ _=>rfl)) ah (zau _))
    (ae (za6 (zab BU.ok hr1 rfl BU.m BU.kp BU.b .nil (zax xe1) (aa (zaG za3 (pv 0) ad (fun _ _=>rfl)) ac))))
    zaf)
   (ai (zbF PassesOwn.leaving rfl (zbL (zab BI.ok hr1 rfl BI.m BI.kp BI.b .nil zao (aa (pv 0) ac))) (zaY (i:=1) zgq.nd rfl (Or.inl rfl))
    (ae (za6 (zab BT.ok hr3 rfl BT.m BT.kp BT.b .nil (zax xe1) (aa (pv 1) ac)))))
   (ae (zbF PassesOwn.leaving rfl (zbL (zab BJ.ok hr1 rfl BJ.m BJ.kp BJ.b .nil zao (aa (pv 0) ac))) (zaY (i:=2) zgq.nd rfl (Or.inl rfl))
    (ae (za6 (zab IH hr rfl m kp b .nil (zax xe1) (aa (pv 2) ac)))))))),?_⟩
  try dsimp only [Cx.nox,Cx.wish,zaj]
  obtain⟨p,xs,rfl,hp,hx⟩:=zcB hg
  have a0:atI (V.str (hdF (sF W g)) :: xs) 0=some (.str (hdF (sF W g))):=zaM (j:=0) rfl
  have ok':=zds (W:=W) ok
  have ec:=cF_eq g
  refine⟨_,rfl,p,_,_,_,rfl,rfl,hp,a0,rfl,_,rfl,?_⟩
  have zaH:uF g=true→∀ H0,ao H H0→zes (tFor (zeY K (zcA (zaS K) [] E0 (zbE (zb5 0) zbY))) (zbi 1) (zeS (zcA (ze6 K CN 21) [] E (zbE (zb5 1) zbY)))) (tFor (zeY K (zcA (zbe K) [] E0 (zbE (zb5 0) zbY))) (zbi 2) (zeS (zcA (zdV W K CN n) [] E (zbE (zb5 2) zbY)))) { nx:=fun _ H'=>Q .non H',rt:=Q } [some (.ref p),none,none] H0:=fun eu H0 s0=>by
   rw[eu,Bool.true_and]at ec
   rw[ec]at q qE
   have hg0:=hg.keep s0.kt (zay _)
   refine⟨_,rfl,sF W g,_,rfl,hg0,ok',fun H1 l ys s1 hl hl1 hy=>⟨l,rfl,⟨_,SqL.of hl1⟩,zca zbK (fun i σ H'=>∃ v:Option V,σ=[some (.ref p),v,none]∧ao H1 H'∧((zaq (sF W g)).take i).all rT=true) (fun i σ H' ⟨_,_,s2,_⟩=>SqL.of (s2 _ _ hl1)) ⟨none,rfl,ao.refl H1,rfl⟩ ?_ ?_⟩⟩
   ·rintro i σ H2 x H3 hi ⟨v,rfl,s2,al⟩ ⟨rfl,hz⟩
    obtain⟨u,hu,hux⟩:=zbd (hy.keep s2.kt (zah _)) (hz _ (SqL.of (s2 _ _ hl1)))
    have um:=List.mem_of_getElem? hu
    have du:dp u≤21:=F73.dps_le (by rw[zgd,zdr];exact zjc td) u um
    refine⟨_,rfl,u,_,rfl,hux,du,fun e H5 s5=>⟨_,rfl,s2.trans s5,?_⟩,fun e H5 s5=>qE ?_ H5 (((s0.trans s1).trans s2).trans s5)⟩
    ·rw[zaR hu,List.all_append,al]
     simp [e]
    ·rw[zjb (W:=W),←zgd]
     have:(zaq (sF W g)).all rT=false:=by
      rw[List.all_eq_false]
      exact⟨u,um,by rw[e];exact Bool.false_ne_true⟩
     rw[this,Bool.false_and]
   ·rintro σ H2 ⟨v,rfl,s2,al⟩
    have yl:ys.length=(zaq (sF W g)).length:=by rw[←hy.length,zaT]
    rw[yl,List.take_length]at al
    have er:rTs (zaq g)=true:=by rw[zjb (W:=W),←zgd];exact al
    rw[er,Bool.true_and]at q qE
    have s02:=(s0.trans s1).trans s2
    have hg2:=hg.keep s02.kt (zay _)
    refine⟨_,rfl,sF W g,_,rfl,hg2,ok',fun H3 l2 zs s3 hl2 hl3 hz=>⟨l2,rfl,⟨_,SqL.of hl3⟩,zca zbK (fun i σ H'=>∃ v2:Option V,σ=[some (.ref p),v,v2]∧ao H3 H'∧((au g).take i).all cF=true) (fun i σ H' ⟨_,_,s4,_⟩=>SqL.of (s4 _ _ hl3)) ⟨none,rfl,ao.refl H3,rfl⟩ ?_ ?_⟩⟩
    ·rintro i σ H4 x H5 hi ⟨v2,rfl,s4,al2⟩ ⟨rfl,hz'⟩
     obtain⟨u',hu',hux⟩:=zbB (hz.keep s4.kt (za0 _)) (hz' _ (SqL.of (s4 _ _ hl3)))
     rw[zi4,List.getElem?_map]at hu'
     obtain⟨u,hu,rfl⟩:=Option.map_eq_some_iff.mp hu'
     have um:=List.mem_of_getElem? hu
     obtain⟨o1,o2⟩:=zhX ok u um
     refine⟨_,rfl,u,_,rfl,hux,o1,zjd td u um,nx_fms nx u um,by omega,fun e H6 s6=>⟨_,rfl,s4.trans s6,?_⟩,fun e H6 s6=>qE ?_ H6 ((s02.trans s3).trans (s4.trans s6))⟩
     ·rw[zaR hu,List.all_append,al2]
      simp [e]
     ·rw[List.all_eq_false]
      exact⟨u,um,by rw[e];exact Bool.false_ne_true⟩
    ·rintro σ H4 ⟨v2,rfl,s4,al2⟩
     have zl:zs.length=(au g).length:=by rw[←hz.length,List.length_map,zi4,List.length_map]
     rw[zl,List.take_length]at al2
     exact q al2 H4 ((s02.trans s3).trans s4)
  rw[hd_sF]
  refine zaI (fun c=>?_) (fun c=>?_)
  ·obtain⟨ts,rfl⟩:=F73.hd_unlike ok (by have:=of_decide_eq_true c;injection this)
   simp only[sF,tlF,am,Has]at hx
   obtain⟨va,r1,rfl,⟨r,ys,rfl,hr',hy⟩,rfl⟩:=hx
   simp only[uF]at ec zaH
   refine⟨_,rfl,p,_,_,_,rfl,rfl,hp,rfl,ts,r,ys,rfl,hr',hy,nx,td,fun e H0 s0=>zaH e H0 s0,fun e H0 s0=>qE (by rw[ec,e];rfl) H0 s0⟩
  ·refine zaH ?_ H (ao.refl H)
   cases g with
   | unlike ts=>exact absurd (decide_eq_true rfl) c
   | _=>rfl
end
end K73
namespace K73
open PySem L2
open F73 (Tr Fm dTr zar dFm FOk fdp dp dps zaq au zaO zay zah za0 zbd zbB zbX szM ak zaS zbe hdF tlF zcB zaQ)
def Szf (b:Nat) (f:PT'):Prop:=∀ l t r,f l=some (t,r)→dp t≤b+1∧nT t+r.length≤l.length
theorem zhD {b:Nat} {f:PT'} (hf:Szf b f):∀(n:Nat) {r:List Nat} {ts:List Tr} {r2:List Nat},zaD f n r=some (ts,r2)→dps ts≤b+1∧nTs ts+r2.length≤r.length
 | 0,r,ts,r2,h=>by cases h
 | n+1,r,ts,r2,h=>by
  simp only[zaD]at h
  by_cases h1:pre [44,32] r=true
  ·rw[if_pos h1]at h
   cases e:f (r.drop 2) with
   | none=>rw[e]at h;cases h
   | some x =>
    obtain⟨t,r'⟩:=x
    rw[e]at h
    dsimp only at h
    obtain⟨n1,n2⟩:=hf _ _ _ e
    cases e2:zaD f n r' with
    | none=>rw[e2]at h;cases h
    | some y =>
     obtain⟨us,r3⟩:=y
     rw[e2]at h
     dsimp only at h
     cases h
     obtain⟨n3,n4⟩:=zhD hf n e2
     rw[List.length_drop]at n2
     simp only[dps,nTs]
     omega
  ·rw[if_neg h1]at h
   by_cases h2:pre [41] r=true
   ·rw[if_pos h2]at h
    cases h
    simp only[dps,nTs,List.length_drop]
    omega
   ·rw[if_neg h2]at h;cases h
theorem zgH {b:Nat} {f:PT'} (hf:Szf b f) {l:List Nat} {ts:List Tr} {r:List Nat} (h:zaJ f l=some (ts,r)):dps ts≤b+1∧nTs ts+r.length≤l.length:=by
 unfold zaJ at h
 cases e:f l with
 | none=>rw[e]at h;cases h
 | some x =>
  obtain⟨t,r1⟩:=x
  rw[e]at h
  dsimp only at h
  obtain⟨n1,n2⟩:=hf _ _ _ e
  cases e2:zaD f (l.length+1) r1 with
  | none=>rw[e2]at h;cases h
  | some y =>
   obtain⟨us,r3⟩:=y
   rw[e2]at h
   dsimp only at h
   cases h
   obtain⟨n3,n4⟩:=zhD hf _ e2
   simp only[dps,nTs]
   omega
theorem zed:∀ b,Szf b (zap b)
 | 0=>fun l t r h=>by
  by_cases h1:l.takeWhile isW=[]
  ·rw[zb1 h1]at h;cases h
  by_cases h2:pre [40] (l.dropWhile isW)=true
  ·rw[zc4 h2]at h;cases h
  rw[zbH h1 (Bool.eq_false_iff.mpr h2)]at h
  cases h
  have:=zbT l
  have:0 < (l.takeWhile isW).length:=List.length_pos_iff.mpr h1
  simp only[dp,dps,nT,nTs]
  omega
 | b+1=>fun l t r h=>by
  have tl:=zbT l
  by_cases h1:l.takeWhile isW=[]
  ·rw[zb1 h1]at h;cases h
  have:0 < (l.takeWhile isW).length:=List.length_pos_iff.mpr h1
  by_cases h2:pre [40] (l.dropWhile isW)=true
  ·rw[zef h1 h2]at h
   cases e:zaJ (zap b) ((l.dropWhile isW).drop 1) with
   | none=>rw[e]at h;cases h
   | some x =>
    obtain⟨ts,r2⟩:=x
    rw[e]at h
    dsimp only at h
    cases h
    obtain⟨n1,n2⟩:=zgH (zed b) e
    rw[List.length_drop]at n2
    simp only[dp,nT]
    omega
  rw[zbH h1 (Bool.eq_false_iff.mpr h2)]at h
  cases h
  simp only[dp,dps,nT,nTs]
  omega
structure RdF (n:Nat) (l:List Nat) (g:Fm) (r:List Nat):Prop where
 ok:FOk g
 td:TD g
 nx:NxF g
 fp:fdp g≤n
 fd:fdd g≤n+21
 nf:nF g+r.length≤l.length
 nr:120∉r
theorem pS_ok {l:List Nat} {g:Fm} {r:List Nat} (hx:120∉l) (h:pS l=some (g,r)):RdF 1 l g r:=by
 unfold pS at h
 cases e:zap 20 l with
 | none=>rw[e]at h;cases h
 | some x =>
  obtain⟨t,r1⟩:=x
  rw[e]at h
  dsimp only at h
  obtain⟨x1,x2⟩:=zdt 20 _ _ _ hx e
  obtain⟨z1,z2⟩:=zed 20 _ _ _ e
  by_cases c:pre [32,61,32] r1=true
  ·rw[if_pos c]at h
   cases e2:zap 20 (r1.drop 3) with
   | none=>rw[e2]at h;cases h
   | some y =>
    obtain⟨t2,r2⟩:=y
    rw[e2]at h
    dsimp only at h
    cases h
    obtain⟨x3,x4⟩:=zdt 20 _ _ _ (zbp x2) e2
    obtain⟨z3,z4⟩:=zed 20 _ _ _ e2
    rw[List.length_drop]at z4
    exact⟨trivial,⟨z1,z3⟩,⟨x1,x3⟩,by simp [fdp],by simp only[fdd];omega,by simp only[nF];omega,x4⟩
  ·rw[if_neg c]at h
   cases t with
   | node n ts =>
   cases ts with
   | cons a b=>simp only[mkS]at h;cases h
   | nil =>
    simp only[mkS]at h
    cases h
    simp only[nT,nTs]at z2
    by_cases hb:n="always"∨n="never"
    ·rw[if_pos hb]
     exact⟨hb,trivial,trivial,by simp [fdp],by simp [fdd],by simp only[nF];omega,x2⟩
    ·rw[if_neg hb]
     exact⟨trivial,trivial,x1.1,by simp [fdp],by simp [fdd],by simp only[nF];omega,x2⟩
theorem pB_ok {l:List Nat} {k:Str} {r:List Nat} (h:pB l=some (k,r)):k∈zcP∧r=l.drop (k.length+2):=by
 unfold pB at h
 cases e:zcP.find? fun k=>pre (cp (" "++k++" ")) l with
 | none=>rw[e]at h;cases h
 | some z =>
  rw[e]at h
  cases h
  exact⟨List.mem_of_find?_eq_some e,rfl⟩
theorem zk6 {k:Str} (h:k∈zcP):k="and"∨k="or"∨k="then"∨k="as":=by
 unfold zcP at h
 simpa using h
theorem zeV:∀(n:Nat) {l:List Nat} {g:Fm} {r:List Nat},120∉l→pF n l=some (g,r)→RdF n l g r
 | 0,l,g,r,_,h=>by cases h
 | n+1,l,g,r,hx,h=>by
  simp only[pF]at h
  by_cases c1:pre [110,111,116,32] l=true
  ·rw[if_pos c1]at h
   cases e:pF n (l.drop 4) with
   | none=>rw[e]at h;cases h
   | some x =>
    obtain⟨a,r1⟩:=x
    rw[e]at h
    dsimp only at h
    cases h
    have R:=zeV n (zbp hx) e
    have:=R.nf
    have:=R.fp
    have:=R.fd
    rw[List.length_drop]at *
    exact⟨R.ok,R.td,R.nx,by simp only[fdp];omega,by simp only[fdd];omega,by simp only[nF];omega,R.nr⟩
  rw[if_neg c1]at h
  by_cases c2:pre [117,110,108,105,107,101,40] l=true
  ·rw[if_pos c2]at h
   cases e:zaJ (zap 20) (l.drop 7) with
   | none=>rw[e]at h;cases h
   | some x =>
    obtain⟨ts,r1⟩:=x
    rw[e]at h
    dsimp only at h
    cases h
    obtain⟨x1,x2⟩:=zgI (zdt 20) (zbp hx) e
    obtain⟨z1,z2⟩:=zgH (zed 20) e
    rw[List.length_drop]at z2
    exact⟨trivial,z1,x1,by simp only[fdp];omega,by simp only[fdd];omega,by simp only[nF];omega,x2⟩
  rw[if_neg c2]at h
  by_cases c3:pre [40] l=true
  ·rw[if_pos c3]at h
   unfold zet at h
   cases e:pF n (l.drop 1) with
   | none=>rw[e]at h;cases h
   | some x =>
    obtain⟨a,r1⟩:=x
    rw[e]at h
    dsimp only at h
    have R:=zeV n (zbp hx) e
    cases e2:pB r1 with
    | none=>rw[e2]at h;cases h
    | some y =>
     obtain⟨k,r2⟩:=y
     rw[e2]at h
     dsimp only at h
     obtain⟨hk,rfl⟩:=pB_ok e2
     cases e3:pF n (r1.drop (k.length+2)) with
     | none=>rw[e3]at h;cases h
     | some z =>
      obtain⟨b,r3⟩:=z
      rw[e3]at h
      dsimp only at h
      have R2:=zeV n (zbp R.nr) e3
      by_cases c4:pre [41] r3=true
      ·rw[if_pos c4]at h
       cases h
       have h1:=R.nf
       have h2:=R2.nf
       rw[List.length_drop]at h1 h2
       have:=R.fp
       have:=R2.fp
       have:=R.fd
       have:=R2.fd
       exact⟨⟨zk6 hk,R.ok,R2.ok⟩,⟨R.td,R2.td⟩,⟨R.nx,R2.nx⟩,by simp only[fdp];omega,by simp only[fdd];omega,by simp only[nF,List.length_drop];omega,zbp R2.nr⟩
      ·rw[if_neg c4]at h;cases h
  ·rw[if_neg c3]at h
   have R:=pS_ok hx h
   exact⟨R.ok,R.td,R.nx,Nat.le_trans R.fp (by omega),Nat.le_trans R.fd (by omega),R.nf,R.nr⟩
mutual
theorem nT_sT (W:List Nat):∀ t:Tr,nT (sT W t)=nT t
 | .node n ts=>by simp only[sT,nT,zgy W ts]
theorem zgy (W:List Nat):∀ ts:List Tr,nTs (sTs W ts)=nTs ts
 | []=>rfl
 | t :: ts=>by simp only[sTs,nTs,nT_sT W t,zgy W ts]
end
theorem zf8 (W:List Nat):∀ g:Fm,nF (sF W g)=nF g
 | .plain _=>rfl
 | .bare _=>rfl
 | .same a b=>by simp only[sF,nF,nT_sT]
 | .unlike ts=>by simp only[sF,nF,zgy]
 | .not f=>by simp only[sF,nF,zf8 W f]
 | .bin k f g=>by simp only[sF,nF,zf8 W f,zf8 W g]
theorem zdq (W:List Nat):∀ g:Fm,fdd (sF W g)=fdd g
 | .plain _=>rfl
 | .bare _=>rfl
 | .same a b=>by simp only[sF,fdd,zia]
 | .unlike ts=>by simp only[sF,fdd,zdr]
 | .not f=>by simp only[sF,fdd,zdq W f]
 | .bin k f g=>by simp only[sF,fdd,zdq W f,zdq W g]
theorem ze0 {W:List Nat}:∀ {g:Fm},TD g→TD (sF W g)
 | .plain _,_=>trivial
 | .bare _,_=>trivial
 | .same a b,h=>by simp only[sF,TD,zia];exact h
 | .unlike ts,h=>by simp only[sF,TD,zdr];exact h
 | .not f,h=>ze0 (g:=f) h
 | .bin k f g,h=>⟨ze0 h.1,ze0 h.2⟩
def frm (l:List Nat):Option Fm:=match pF 20 l with
 | none=>none
 | some (g,r)=>if r=[]∧fdd g≤20∧cF g=true then some g else none
structure Lw (s:Str):Prop where
 ln:s.length≤20000
 lo:∀ c∈cp s,c < 1000
theorem Lw.repr {z:Str} (h:Lw z):(reprText z).length≤200002:=by
 have:=StrLaws.reprText_len z fun c hc=>Nat.lt_of_lt_of_le (h.lo c hc) (by decide)
 have:=h.ln
 omega
section
variable {P:Program} {w:World} {K:PySem.W.Frag} {mg:Str→Option Value} {base:Heap} {W:List Nat} {CU CN CB aW aB:Addr} {f fI fT fO fD fC:Addr} {fd dI dT' dO dD dC:FuncData}
inductive zgi (W:List Nat) (K:PySem.W.Frag) (CN:Addr):Sp | mk {vs H Q E} (s:Str) (l:List Nat):vs=[.str s]→Lw s→cp s=sub W l→120∉l→(frm l=none→∀ H',ao H H'→E (.ref CN) none H')→(∀ g,frm l=some g→∀(H':Hp) (v:V),ao H H'→Has K H' (dFm (sF W g)) v→Q v H')→zgi W K CN vs H Q E
theorem zgn:zac ["row","cursor","formula"] ["row"] (ag zeG):=⟨rfl,rfl,rfl,by decide +kernel,rfl,by decide +kernel,by decide +kernel⟩
theorem ziI {E:XK} {i:Nat} {s z:Str} {D:zaU} {σ:St} {H:Hp} (hs:s.length≤1000) (hi:σ[i]?=some (some (.str z))) (lw:Lw z) (he:E (.ref CN) none H):zdR E CN (zbE (zdu (zbI (tRepr (zb5 i)) (zbI (tC (.str s)) jNil))) zbY) D σ H:=by
 have hr:=lw.repr
 have c0:Str.empty.length=0:=rfl
 refine⟨_,hi,z,rfl,szM (by omega),_,rfl,szM (by rw[ak,c0];omega),_,rfl,szM (by simp only[ak,c0];omega),szM (by simp only[ak,c0];omega),(by show 1≤sizeLine;decide),he⟩
theorem ok_fmd (gw:GW W) (F:Fun K "formed" "formed" zeG f fd) (Z:TxC K mg CU) (TN:TxN K mg CN CB) (TW:TxW K mg aW aB) (mI:Mk K CU fI) (oI:FnOk P w K mg base CX0 1 fI dI ["self","text"] (zeB CU)) (bI:aq K dI ["self","text"] []) (gI:mg "Cursor"=some (.ref CU))
  (BF:FB P w K mg base (CX1 P w) 86 "take_formula" fT dT' ["cursor","left"] (zbU W K CU CN 20 (pF 20))) (oO:FnOk P w K mg base CX0 1 fO dO ["self"] (zei CU)) (bO:aq K dO ["self"] []) (mO:zbQ K CU "is_over" fO)
  (BD:FB P w K mg base CX0 62 "depth" fD dD ["formula"] (ze4 K 41)) (BC:FB P w K mg base (CX1 P w) 41 "ask_counts" fC dC ["formula"] (zdV W K CN 20)):FnOk P w K mg base (CX1 P w) 87 f fd ["row"] (zgi W K CN):=by
 refine Fun.okX F zgn (fun vs H Q E h=>?_) (fun cdv A outer s0 H vs Q E hr h=>?_)
 ·obtain⟨z,_,rfl,_⟩:=h
  rfl
 obtain⟨z,l,rfl,lw,hc,hx,qE,q⟩:=h
 have lz:=lw.ln
 have hr1:zai 1 _:=hr.mono (by decide)
 have hr2:zai 2 _:=hr.mono (by decide)
 have hr41:zai 41 _:=hr.mono (by decide)
 have hr62:zai 62 _:=hr.mono (by decide)
 obtain⟨t1,e1⟩:=TW.dpst
 refine⟨_,(ai (zat (i:=1) zgn.nd rfl (Or.inl rfl) (zkE mI oI hr2 rfl gI bI .nil zao (aa (pv 0) ac)))
  (ai (zat (i:=2) zgn.nd rfl (Or.inl rfl) (zab BF.ok hr rfl BF.m BF.kp BF.b .nil (zax xe1) (aa (pv 1) (aa (zam (v:=.int 20) rfl e1 ⟨_,rfl⟩) ac))))
  (ai (zaz (zbV (zaV (zeI (pv 1) Z.cl mO oO hr1 bO .nil zao)))
   (ae (zaP (C:=CN) xe1 rfl rfl TN.np PySem.F.excBase_ValueError TN.xn (aa (zbk (zaB (ziQ (pv 0)) (zaB ah zb9))) ac)))
   zaf)
  (ai (zaz (zak zeW (zab BD.ok hr62 rfl BD.m BD.kp BD.b .nil zao (aa (pv 2) ac)) (zam (v:=.int 20) rfl e1 ⟨_,rfl⟩) (zau _))
   (ae (zaP (C:=CN) xe1 rfl rfl TN.np PySem.F.excBase_ValueError TN.xn (aa (zbk (zaB ah (zaB (zc1 (zam (v:=.int 20) rfl e1 ⟨_,rfl⟩)) zb9))) ac)))
   zaf)
  (ai (za6 (zab BC.ok hr41 rfl BC.m BC.kp BC.b .nil (zax xe1) (aa (pv 2) ac)))
  (ae (zae (pv 2)))))))),?_⟩
 try dsimp only [Cx.nox,Cx.wish,zaj]
 refine⟨_,rfl,fun c dx hc0 hdx ne=>⟨c,dx,z,rfl,zaa,by omega,fun H1 C1 f1=>⟨rfl,?_⟩⟩⟩
 have s1:∀ {H'},FrC H1 H' c→ao H H':=fun {H'} f2 b o e=>by
  have nb:b≠c:=fun x=>by rw[x,hc0]at e;cases e
  have nd:b≠dx:=fun x=>by rw[x,hdx]at e;cases e
  exact f2 b o (f1 b o (by rw[zag nb,zag nd];exact e) nb) nb
 have A1:At W CU H1 c z l:=⟨0,C1,by rw[List.drop_zero,hc],hx⟩
 have ll:=A1.len gw
 unfold frm at qE q
 refine⟨_,rfl,c,z,l,rfl,A1,fun e H2 f2=>qE (by rw[e]) H2 (s1 f2),fun g r eg H2 v A2 f2 h2=>?_⟩
 have R:=zeV 20 hx eg
 rw[eg]at qE q
 dsimp only at qE q
 obtain⟨i2,C2,d2,_⟩:=id A2
 obtain⟨⟨dx2,hc2⟩,i2l,_⟩:=id C2
 refine⟨_,rfl,c,dx2,_,rfl,hc2,zfj _ _,c,z,i2,rfl,C2,_,rfl,?_⟩
 by_cases r0:r=[]
 ·have ei:i2=z.length:=by
   have e:=congrArg List.length d2
   rw[r0,List.length_drop,zaw]at e
   simp only[sub,List.length_nil]at e
   omega
  rw[decide_eq_true ei]
  have gd:Gd (sF W g):=⟨zds R.ok,ze0 R.td,by rw[zf8];have:=R.nf;omega⟩
  refine za8 ⟨_,rfl,sF W g,v,rfl,h2,gd,by rw[zdq];exact R.fd,fun H3 s3=>⟨_,_,rfl,rfl,_,rfl,zaI (fun cc=>?_) (fun cc=>?_)⟩⟩
  ·have cc':(20:Int) < ((fdd (sF W g):Nat):Int):=of_decide_eq_true cc
   rw[zdq]at cc'
   exact zgR (by decide +kernel) (qE (if_neg (fun h=>by have:=h.2.1;omega)) H3 ((s1 f2).trans s3))
  have cc':¬(20:Int) < ((fdd (sF W g):Nat):Int):=fun h=>cc (decide_eq_true h)
  rw[zdq]at cc'
  refine⟨_,rfl,g,v,rfl,h2.keep s3.kt (zay _),R.ok,R.td,R.nx,R.fp,fun e H4 s4=>⟨_,rfl,?_⟩,fun e H4 s4=>?_⟩
  ·exact q g (if_pos ⟨r0,by omega,e⟩) H4 v (((s1 f2).trans s3).trans s4) ((h2.keep s3.kt (zay _)).keep s4.kt (zay _))
  ·exact qE (if_neg (fun h=>by rw[e]at h;exact absurd h.2.2 Bool.false_ne_true)) H4 (((s1 f2).trans s3).trans s4)
 ·have ei:¬i2=z.length:=fun e=>by
   have e2:=congrArg List.length d2
   rw[e,List.length_drop,zaw,Nat.sub_self]at e2
   exact r0 ((zeg gw).mp (List.length_eq_zero_iff.mp e2.symm))
  rw[decide_eq_false ei]
  exact zbD (ziI (by decide +kernel) rfl lw (qE (if_neg (fun h=>r0 h.1)) H2 (s1 f2)))
end
end K73
namespace K73
open PySem L2
open F73 (Tr Fm dTr zar dFm FOk fdp dp dps zaq au zaO zay zah za0 zbd zbB zbX szM ak zaS zbe hdF tlF zcB zaQ)
def zcO (z:Str):List Bool:=z.cps.toList.map fun c=>isL ⟨#[c]⟩
def zdE:List V:=[.str "or",.str "and",.str "not",.str "never",.str "always",.str "then",.str "as",.str "unlike"]
def zeR (z:Str):Bool:=decide ((0:Int) < (z.length:Int))&&(zcO z).all id
def zbx (z:Str):Bool:=zeR z&&(decide ((z.length:Int)≤8)&&!inV (.str z) zdE)
theorem ziv:zdE.all zb8=true:=by decide +kernel
theorem zg0 (z:Str):(zcO z).length=z.length:=by simp [zcO,Str.length]
theorem zjK {z:Str} {i ch:Nat} (hch:z.cps[i]?=some ch):(zcO z).take (i+1)=(zcO z).take i++[isL ⟨#[ch]⟩]:=by
 have hb:(zcO z)[i]?=some (isL ⟨#[ch]⟩):=by
  unfold zcO
  rw[List.getElem?_map,Array.getElem?_toList,hch]
  rfl
 rw[List.take_add_one,hb]
 rfl
theorem zjP {H:Hp} {p:Addr} (h:H p=none) (o:HO):ao H (upd H p o):=fun b u q=>by rw[zag (zaF q h)];exact q
inductive zeD:Sp | mk {vs H Q E9} (z:Str):vs=[.str z]→z.length≤20000→(∀ H',ao H H'→Q (.bl (zeR z)) H')→zeD vs H Q E9
inductive zeE:Sp | mk {vs H Q E9} (z:Str):vs=[.str z]→z.length≤20000→(∀ H',ao H H'→Q (.bl (zbx z)) H')→zeE vs H Q E9
structure TxK (K:PySem.W.Frag) (mg:Str→Option Value) (aK:Addr):Prop where
 small:∃ t,mg "SMALL_LETTERS"=some (.str abc t)
 longest:∃ t,mg "LONGEST_NAME"=some (.int 8 t)
 kept:mg "KEPT_WORDS"=some (.ref aK)
 tup:∀ H,SqT K H aK zdE
 len:mg "len"=none
 all:mg "all"=none
section
variable {P:Program} {w:World} {K:PySem.W.Frag} {mg:Str→Option Value} {base:Heap} {aK CN CB:Addr} {f fT fI fJ fN:Addr} {fd dT' dI dJ dN:FuncData}
theorem scIW:zac ["text"] ["text"] (ag zd1):=⟨rfl,rfl,rfl,by decide +kernel,rfl,by decide +kernel,by decide +kernel⟩
theorem zjp (F:Fun K "is_word" "is_word" zd1 f fd) (T:TxK K mg aK):FnOk P w K mg base CX0 1 f fd ["text"] zeD:=by
 obtain⟨t1,e1⟩:=T.small
 refine F.ok scIW (fun vs H Q E h=>?_) (fun cdv A outer s H vs Q E hr h=>?_)
 ·obtain⟨z,rfl,_⟩:=h
  rfl
 obtain⟨z,rfl,hz,q⟩:=h
 refine⟨_,ae (zae (zgw (zcH zeW (zaL zcd rfl T.len PySem.boot_len (aa (pv 0) ac)) ad (zau _))
  (ziP (zaL (zfG rfl) rfl T.all PyProof.Rows.Boot.all (aa
   (zf5 (N':=["letter"]) (ix:=[]) rfl rfl (by decide +kernel) (by decide +kernel) rfl (fun _=>⟨[],zcl (by decide +kernel) (by decide +kernel)⟩) (by decide +kernel) rfl rfl (fun j i h=>by simp at h)
    (pi_str (pv 0)) (fun cl fp s₃ H₃=>zcH zfO (pv 0) (zam (v:=.str abc) rfl e1 ⟨_,rfl⟩) rfl)) ac))))),?_⟩
 refine⟨_,rfl,z,rfl,szM (by omega),_,_,rfl,rfl,_,rfl,?_⟩
 refine zaI (fun c=>?_) (fun c=>?_)
 ·have c':(0:Int) < (z.length:Int):=of_decide_eq_true c
  refine⟨_,rfl,z,rfl,fun D hD=>⟨fun i m ys H'=>m=z.length - i∧i≤z.length∧ys=((zcO z).take i).map V.bl∧H'=upd H D (.lst ys),⟨z.length,rfl,Nat.zero_le _,rfl,rfl⟩,?_⟩⟩
  rintro i m ys H' ⟨rfl,hi,rfl,rfl⟩
  refine⟨zaa,?_⟩
  by_cases hlt:i < z.length
  ·refine .inr ⟨hlt,fun x H'' y=>?_⟩
   obtain⟨rfl,ch,hch,rfl⟩:=y
   have et:=zjK hch
   refine⟨_,rfl,_,_,rfl,rfl,zaa,?_,z.length - (i+1),by omega,rfl,hlt,?_,zko⟩
   ·rw[List.length_map,List.length_take,zg0]
    exact Nat.lt_of_le_of_lt (Nat.le_trans (Nat.min_le_right _ _) hz) (by decide)
   ·rw[et,List.map_append]
    rfl
  ·have hi':i=z.length:=by omega
   subst hi'
   refine .inl ⟨Nat.le_refl _,D,zcO z,rfl,SqL.of (by rw[zaa,List.take_of_length_le (by rw[zg0];exact Nat.le_refl _)]),?_⟩
   have:=q _ (zjP hD (.lst (((zcO z).take z.length).map V.bl)))
   unfold zeR at this
   rw[c,Bool.true_and]at this
   exact this
 ·have:=q H (ao.refl H)
  unfold zeR at this
  rw[Bool.eq_false_iff.mpr c,Bool.false_and]at this
  exact this
theorem scIN:zac ["word"] ["word"] (ag zd2):=⟨rfl,rfl,rfl,by decide +kernel,rfl,by decide +kernel,by decide +kernel⟩
theorem zjq {g:Addr} {gd:FuncData} (F:Fun K "is_name" "is_name" zd2 f fd) (T:TxK K mg aK) (G:FnOk P w K mg base CX0 1 g gd ["text"] zeD) (bG:aq K gd ["text"] []) (kG:PySem.W.keepIn K (.ref g)=true) (mG:mg "is_word"=some (.ref g)) :
  FnOk P w K mg base CX0 2 f fd ["word"] zeE:=by
 obtain⟨t2,e2⟩:=T.longest
 refine F.ok scIN (fun vs H Q E h=>?_) (fun cdv A outer s H vs Q E hr h=>?_)
 ·obtain⟨z,rfl,_⟩:=h
  rfl
 obtain⟨z,rfl,hz,q⟩:=h
 refine⟨_,ae (zae (zgw (zab G hr rfl mG kG bG .nil zao (aa (pv 0) ac)) (zgw (zcH op_le (zaL zcd rfl T.len PySem.boot_len (aa (pv 0) ac)) (zam (v:=.int 8) rfl e2 ⟨_,rfl⟩) (zau _))
  (ziP (zcH zg9 (pv 0) (zam (v:=.ref aK) rfl T.kept rfl) rfl))))),?_⟩
 refine⟨_,rfl,z,rfl,hz,fun H1 s1=>⟨_,rfl,?_⟩⟩
 refine zaI (fun c=>?_) (fun c=>?_)
 ·refine⟨_,rfl,z,rfl,szM (by omega),_,_,rfl,rfl,_,rfl,?_⟩
  refine zaI (fun c2=>?_) (fun c2=>?_)
  ·refine⟨_,rfl,aK,zdE,rfl,.inr (T.tup H1),rfl,ziv,?_⟩
   have:=q H1 s1
   unfold zbx at this
   rw[c,c2,Bool.true_and,Bool.true_and]at this
   exact this
  ·have:=q H1 s1
   unfold zbx at this
   rw[c,Bool.eq_false_iff.mpr c2,Bool.true_and,Bool.false_and]at this
   exact this
 ·have:=q H1 s1
  unfold zbx at this
  rw[Bool.eq_false_iff.mpr c,Bool.false_and]at this
  exact this
theorem scAN:zac ["word"] ["word"] (ag zdK):=⟨rfl,rfl,rfl,by decide +kernel,rfl,by decide +kernel,by decide +kernel⟩
inductive ze7 (CB:Addr):Sp | mk {vs H Q E} (z:Str):vs=[.str z]→Lw z→an CB (zbx z) H Q E→ze7 CB vs H Q E
theorem ok_ann (F:Fun K "ask_name" "ask_name" zdK f fd) (TN:TxN K mg CN CB) (BN:FB P w K mg base CX0 2 "is_name" fN dN ["word"] zeE):FnOk P w K mg base (CX1 P w) 3 f fd ["word"] (ze7 CB):=by
 refine Fun.okX F scAN (fun vs H Q E h=>?_) (fun cdv A outer s0 H vs Q E hr h=>?_)
 ·obtain⟨z,rfl,_⟩:=h
  rfl
 obtain⟨z,rfl,lw,q,qE⟩:=h
 refine⟨_,(ae (zaz (zbV (zaV (zab BN.ok hr rfl BN.m BN.kp BN.b .nil zao (aa (pv 0) ac)))) (ae (zaP (C:=CB) xe1 rfl rfl TN.bn PySem.F.excBase_ValueError TN.xb (aa (zbk (zaB (ziQ (pv 0)) (zaB ah zb9))) ac))) zaf)),?_⟩
 try dsimp only [Cx.nox,Cx.wish,zaj]
 refine⟨_,rfl,z,rfl,lw.ln,fun H1 s1=>⟨_,rfl,?_⟩⟩
 cases e:zbx z with
 | true=>exact za8 (q e H1 s1)
 | false=>exact zbD (ziI (by decide +kernel) rfl lw (qE e H1 s1))
mutual
def bT:Tr→Bool
 | .node n ts=>zbx n&&bTs ts
def bTs:List Tr→Bool
 | []=>true
 | t :: ts=>bT t&&bTs ts
end
theorem zfE:∀ ts:List Tr,bTs ts=ts.all bT
 | []=>by simp [bTs]
 | t :: ts=>by simp [bTs,zfE ts]
def bF:Fm→Bool
 | .plain z=>zbx z
 | .bare _=>true
 | .same a b=>bT a&&bT b
 | .unlike ts=>bTs ts
 | .not f=>bF f
 | .bin _ f g=>bF f&&bF g
def bP:Fm→Bool
 | .plain z=>zbx z
 | _=>true
theorem bF_eq (g:Fm):bF g=(bP g&&((zaq g).all bT&&(au g).all bF)):=by
 cases g <;> simp [bF,bP,zaq,au,zfE]
mutual
def LwT:Tr→Prop
 | .node n ts=>Lw n∧zex ts
def zex:List Tr→Prop
 | []=>True
 | t :: ts=>LwT t∧zex ts
end
theorem zeP:∀ {ts:List Tr},zex ts→∀ t∈ts,LwT t
 | t :: ts,h,u,hu=>by
  simp only[zex]at h
  rcases List.mem_cons.mp hu with rfl | hu
  ·exact h.1
  ·exact zeP h.2 u hu
def LwF:Fm→Prop
 | .plain z=>Lw z
 | .bare _=>True
 | .same a b=>LwT a∧LwT b
 | .unlike ts=>zex ts
 | .not f=>LwF f
 | .bin _ f g=>LwF f∧LwF g
theorem zlc {g:Fm} (h:LwF g):∀ t∈zaq g,LwT t:=by
 cases g with
 | same a b =>
  intro t ht
  simp only[LwF]at h
  simp only[zaq,List.mem_cons,List.not_mem_nil,or_false]at ht
  rcases ht with rfl | rfl
  ·exact h.1
  ·exact h.2
 | unlike ts=>exact zeP h
 | _=>intro t ht;simp [zaq]at ht
theorem zld {g:Fm} (h:LwF g):∀ u∈au g,LwF u:=by
 cases g with
 | not f=>intro u hu;simp only[au,List.mem_singleton]at hu;subst hu;exact h
 | bin k f g =>
  intro u hu
  simp only[au,List.mem_cons,List.not_mem_nil,or_false]at hu
  rcases hu with rfl | rfl
  ·exact h.1
  ·exact h.2
 | _=>intro u hu;simp [au]at hu
inductive zdS (K:PySem.W.Frag) (CB:Addr) (n:Nat):Sp | mk {vs H Q E} (t:Tr) (v:V):vs=[v]→Has K H (dTr t) v→LwT t→dp t≤n→an CB (bT t) H Q E→zdS K CB n vs H Q E
theorem ziC:zac ["tree","part"] ["tree"] (ag zb2):=⟨rfl,rfl,rfl,by decide +kernel,rfl,by decide +kernel,by decide +kernel⟩
theorem ziR (F:Fun K "ask_tree_names" "ask_tree_names" zb2 f fd) (BN:FB P w K mg base (CX1 P w) 3 "ask_name" fN dN ["word"] (ze7 CB)) (b:aq K fd ["tree"] []) (kp:PySem.W.keepIn K (.ref f)=true) (m:mg "ask_tree_names"=some (.ref f)):∀ n,FnOk P w K mg base (CX1 P w) (n+3) f fd ["tree"] (zdS K CB n)
 | 0=>F73.FnOk.no fun _ _ _ _ ⟨t,v,_,_,_,h,_⟩=>by
  cases t
  simp only[dp]at h
  omega
 | n+1=>by
  have IH:=ziR F BN b kp m n
  refine Fun.okX (k:=n+3) F ziC (fun vs H Q E h=>?_) (fun cdv A outer s0 H vs Q E hr h=>?_)
  ·obtain⟨t,v,rfl,_⟩:=h
   rfl
  obtain⟨⟨nm,ts⟩,v,rfl,ht,lt,hd,q,qE⟩:=h
  have hr3:zai 3 _:=hr.mono (by omega)
  refine⟨_,(ai (za6 (zab BN.ok hr3 rfl BN.m BN.kp BN.b .nil (zax xe1) (aa (zaG za3 (pv 0) ad (fun _ _=>rfl)) ac)))
   (ae (zbF PassesOwn.leaving rfl (zfb (zaG za3 (pv 0) ad (fun _ _=>rfl))) (zaY (i:=1) ziC.nd rfl (Or.inl rfl))
    (ae (za6 (zab IH hr rfl m kp b .nil (zax xe1) (aa (pv 1) ac))))))),?_⟩
  try dsimp only [Cx.nox,Cx.wish,zaj]
  obtain⟨p,r,xs,rfl,hp,hq,hx⟩:=zbX ht
  have xl:xs.length=ts.length:=by rw[←hx.length,zaT]
  simp only[dp]at hd
  simp only[LwT]at lt
  simp only[bT]at q qE
  rw[zfE]at q qE
  refine⟨_,rfl,p,_,_,_,rfl,rfl,hp,rfl,nm,rfl,lt.1,fun e H1 s1=>?_,fun e H1 s1=>qE (by rw[e,Bool.false_and]) H1 s1⟩
  rw[e,Bool.true_and]at q qE
  have hq1:=s1.tup hq
  refine⟨_,rfl,p,_,_,_,rfl,rfl,s1.tup hp,rfl,r,rfl,⟨_,hq1⟩,zca ze2 (fun i σ H'=>∃ v:Option V,σ=[some (.ref p),v]∧ao H1 H'∧(ts.take i).all bT=true) (fun i σ H' ⟨_,_,s2,_⟩=>s2.tup hq1) ⟨none,rfl,ao.refl H1,rfl⟩ ?_ ?_⟩
  ·rintro i σ H2 x H3 hi ⟨v,rfl,s2,al⟩ ⟨rfl,hy⟩
   obtain⟨u,hu,hux⟩:=zbd (hx.keep (s1.trans s2).kt (zah _)) (hy _ (s2.tup hq1))
   have um:=List.mem_of_getElem? hu
   refine⟨_,rfl,u,_,rfl,hux,zeP lt.2 u um,F73.dps_le (by omega) u um,fun e H5 s5=>⟨_,rfl,s2.trans s5,?_⟩,fun e H5 s5=>qE ?_ H5 ((s1.trans s2).trans s5)⟩
   ·rw[zaR hu,List.all_append,al]
    simp [e]
   ·rw[List.all_eq_false]
    exact⟨u,um,by rw[e];exact Bool.false_ne_true⟩
  ·rintro σ H2 ⟨v,rfl,s2,al⟩
   exact q (by rw[xl,List.take_length]at al;exact al) H2 (s1.trans s2)
inductive zdU (K:PySem.W.Frag) (CB:Addr) (n:Nat):Sp | mk {vs H Q E} (g:Fm) (v:V):vs=[v]→Has K H (dFm g) v→FOk g→TD g→LwF g→fdp g≤n→an CB (bF g) H Q E→zdU K CB n vs H Q E
theorem zgp:zac ["formula","tree","inner"] ["formula"] (ag zde):=⟨rfl,rfl,rfl,by decide +kernel,rfl,by decide +kernel,by decide +kernel⟩
theorem ziU (F:Fun K "ask_names" "ask_names" zde f fd) (b:aq K fd ["formula"] []) (kp:PySem.W.keepIn K (.ref f)=true) (m:mg "ask_names"=some (.ref f))
  (BT:FB P w K mg base (CX1 P w) 24 "ask_tree_names" fT dT' ["tree"] (zdS K CB 21)) (BN:FB P w K mg base (CX1 P w) 3 "ask_name" fN dN ["word"] (ze7 CB)) (BI:FB P w K mg base CX0 1 "inner_trees" fI dI ["formula"] (zaS K)) (BJ:FB P w K mg base CX0 1 "inner_formulas" fJ dJ ["formula"] (zbe K)):∀ n,FnOk P w K mg base (CX1 P w) (n+24) f fd ["formula"] (zdU K CB n)
 | 0=>F73.FnOk.no fun _ _ _ _ ⟨g,v,_,_,_,_,_,h,_⟩=>by
  have:=F73.fdp_pos g
  omega
 | n+1=>by
  have IH:=ziU F b kp m BT BN BI BJ n
  refine Fun.okX (k:=n+24) F zgp (fun vs H Q E h=>?_) (fun cdv A outer s0 H vs Q E hr h=>?_)
  ·obtain⟨t,v,rfl,_⟩:=h
   rfl
  obtain⟨g,v,rfl,hg,ok,td,lf,hd,q,qE⟩:=h
  have hr1:zai 1 _:=hr.mono (by omega)
  have hr3:zai 3 _:=hr.mono (by omega)
  have hr24:zai 24 _:=hr.mono (by omega)
  refine⟨_,(ai (zaz (zak za1 (zaG za3 (pv 0) ad (fun _ _=>rfl)) ah (zau _))
    (ae (za6 (zab BN.ok hr3 rfl BN.m BN.kp BN.b .nil (zax xe1) (aa (zaG za3 (pv 0) ad (fun _ _=>rfl)) ac))))
    zaf)
   (ai (zbF PassesOwn.leaving rfl (zbL (zab BI.ok hr1 rfl BI.m BI.kp BI.b .nil zao (aa (pv 0) ac))) (zaY (i:=1) zgp.nd rfl (Or.inl rfl))
    (ae (za6 (zab BT.ok hr24 rfl BT.m BT.kp BT.b .nil (zax xe1) (aa (pv 1) ac)))))
   (ae (zbF PassesOwn.leaving rfl (zbL (zab BJ.ok hr1 rfl BJ.m BJ.kp BJ.b .nil zao (aa (pv 0) ac))) (zaY (i:=2) zgp.nd rfl (Or.inl rfl))
    (ae (za6 (zab IH hr rfl m kp b .nil (zax xe1) (aa (pv 2) ac)))))))),?_⟩
  try dsimp only [Cx.nox,Cx.wish,zaj]
  obtain⟨p,xs,rfl,hp,hx⟩:=zcB hg
  have a0:atI (V.str (hdF g) :: xs) 0=some (.str (hdF g)):=zaM (j:=0) rfl
  have ec:=bF_eq g
  refine⟨_,rfl,p,_,_,_,rfl,rfl,hp,a0,rfl,_,rfl,?_⟩
  have zaH:bP g=true→∀ H0,ao H H0→zes (tFor (zeY K (zcA (zaS K) [] E0 (zbE (zb5 0) zbY))) (zbi 1) (zeS (zcA (zdS K CB 21) [] E (zbE (zb5 1) zbY)))) (tFor (zeY K (zcA (zbe K) [] E0 (zbE (zb5 0) zbY))) (zbi 2) (zeS (zcA (zdU K CB n) [] E (zbE (zb5 2) zbY)))) { nx:=fun _ H'=>Q .non H',rt:=Q } [some (.ref p),none,none] H0:=fun eu H0 s0=>by
   rw[eu,Bool.true_and]at ec
   rw[ec]at q qE
   have hg0:=hg.keep s0.kt (zay _)
   refine⟨_,rfl,g,_,rfl,hg0,ok,fun H1 l ys s1 hl hl1 hy=>⟨l,rfl,⟨_,SqL.of hl1⟩,zca zbK (fun i σ H'=>∃ v:Option V,σ=[some (.ref p),v,none]∧ao H1 H'∧((zaq g).take i).all bT=true) (fun i σ H' ⟨_,_,s2,_⟩=>SqL.of (s2 _ _ hl1)) ⟨none,rfl,ao.refl H1,rfl⟩ ?_ ?_⟩⟩
   ·rintro i σ H2 x H3 hi ⟨v,rfl,s2,al⟩ ⟨rfl,hz⟩
    obtain⟨u,hu,hux⟩:=zbd (hy.keep s2.kt (zah _)) (hz _ (SqL.of (s2 _ _ hl1)))
    have um:=List.mem_of_getElem? hu
    refine⟨_,rfl,u,_,rfl,hux,zlc lf u um,F73.dps_le (zjc td) u um,fun e H5 s5=>⟨_,rfl,s2.trans s5,?_⟩,fun e H5 s5=>qE ?_ H5 (((s0.trans s1).trans s2).trans s5)⟩
    ·rw[zaR hu,List.all_append,al]
     simp [e]
    ·have:(zaq g).all bT=false:=by
      rw[List.all_eq_false]
      exact⟨u,um,by rw[e];exact Bool.false_ne_true⟩
     rw[this,Bool.false_and]
   ·rintro σ H2 ⟨v,rfl,s2,al⟩
    have yl:ys.length=(zaq g).length:=by rw[←hy.length,zaT]
    rw[yl,List.take_length]at al
    rw[al,Bool.true_and]at q qE
    have s02:=(s0.trans s1).trans s2
    have hg2:=hg.keep s02.kt (zay _)
    refine⟨_,rfl,g,_,rfl,hg2,ok,fun H3 l2 zs s3 hl2 hl3 hz=>⟨l2,rfl,⟨_,SqL.of hl3⟩,zca zbK (fun i σ H'=>∃ v2:Option V,σ=[some (.ref p),v,v2]∧ao H3 H'∧((au g).take i).all bF=true) (fun i σ H' ⟨_,_,s4,_⟩=>SqL.of (s4 _ _ hl3)) ⟨none,rfl,ao.refl H3,rfl⟩ ?_ ?_⟩⟩
    ·rintro i σ H4 x H5 hi ⟨v2,rfl,s4,al2⟩ ⟨rfl,hz'⟩
     obtain⟨u,hu,hux⟩:=zbB (hz.keep s4.kt (za0 _)) (hz' _ (SqL.of (s4 _ _ hl3)))
     have um:=List.mem_of_getElem? hu
     obtain⟨o1,o2⟩:=zhX ok u um
     refine⟨_,rfl,u,_,rfl,hux,o1,zjd td u um,zld lf u um,by omega,fun e H6 s6=>⟨_,rfl,s4.trans s6,?_⟩,fun e H6 s6=>qE ?_ H6 ((s02.trans s3).trans (s4.trans s6))⟩
     ·rw[zaR hu,List.all_append,al2]
      simp [e]
     ·rw[List.all_eq_false]
      exact⟨u,um,by rw[e];exact Bool.false_ne_true⟩
    ·rintro σ H4 ⟨v2,rfl,s4,al2⟩
     have zl:zs.length=(au g).length:=by rw[←hz.length,List.length_map]
     rw[zl,List.take_length]at al2
     exact q al2 H4 ((s02.trans s3).trans s4)
  refine zaI (fun c=>?_) (fun c=>?_)
  ·obtain⟨z,rfl⟩:=F73.hd_plain ok (by have:=of_decide_eq_true c;injection this)
   simp only[tlF,am,Has]at hx
   obtain⟨va,r1,rfl,rfl,rfl⟩:=hx
   simp only[bP]at ec zaH
   exact⟨_,rfl,p,_,_,_,rfl,rfl,hp,rfl,z,rfl,lf,fun e H0 s0=>zaH e H0 s0,fun e H0 s0=>qE (by rw[ec,e];rfl) H0 s0⟩
  ·refine zaH ?_ H (ao.refl H)
   cases g with
   | plain z=>exact absurd (decide_eq_true rfl) c
   | _=>rfl
end
end K73
namespace K73
open PySem L2
open F73 (Tr Fm dTr zar dFm FOk fdp dp dps zaq au zaO zay zah za0 zbd zbB zbX szM ak zaS zbe hdF tlF zcB zaQ)
mutual
def NmT (B:Nat):Tr→Prop
 | .node n ts=>((∀ c∈cp n,isW c=true)∧(cp n).length≤B)∧zew B ts
def zew (B:Nat):List Tr→Prop
 | []=>True
 | t :: ts=>NmT B t∧zew B ts
end
def NmF (B:Nat):Fm→Prop
 | .plain n=>(∀ c∈cp n,isW c=true)∧(cp n).length≤B
 | .bare _=>True
 | .same a b=>NmT B a∧NmT B b
 | .unlike ts=>zew B ts
 | .not f=>NmF B f
 | .bin _ f g=>NmF B f∧NmF B g
def Nmf (B:Nat) (f:PT'):Prop:=∀ l t r,l.length≤B→f l=some (t,r)→NmT B t∧r.length≤B
theorem zhF {B:Nat} {f:PT'} (hf:Nmf B f):∀(n:Nat) {r:List Nat} {ts:List Tr} {r2:List Nat},r.length≤B→zaD f n r=some (ts,r2)→zew B ts∧r2.length≤B
 | 0,r,ts,r2,_,h=>by cases h
 | n+1,r,ts,r2,hx,h=>by
  simp only[zaD]at h
  by_cases h1:pre [44,32] r=true
  ·rw[if_pos h1]at h
   cases e:f (r.drop 2) with
   | none=>rw[e]at h;cases h
   | some x =>
    obtain⟨t,r'⟩:=x
    rw[e]at h
    dsimp only at h
    obtain⟨n1,n2⟩:=hf _ _ _ (Nat.le_trans (by rw[List.length_drop];omega) hx) e
    cases e2:zaD f n r' with
    | none=>rw[e2]at h;cases h
    | some y =>
     obtain⟨us,r3⟩:=y
     rw[e2]at h
     dsimp only at h
     cases h
     obtain⟨n3,n4⟩:=zhF hf n n2 e2
     exact⟨⟨n1,n3⟩,n4⟩
  ·rw[if_neg h1]at h
   by_cases h2:pre [41] r=true
   ·rw[if_pos h2]at h
    cases h
    exact⟨trivial,(Nat.le_trans (by rw[List.length_drop];omega) hx)⟩
   ·rw[if_neg h2]at h;cases h
theorem zgJ {B:Nat} {f:PT'} (hf:Nmf B f) {l:List Nat} {ts:List Tr} {r:List Nat} (hx:l.length≤B) (h:zaJ f l=some (ts,r)):zew B ts∧r.length≤B:=by
 unfold zaJ at h
 cases e:f l with
 | none=>rw[e]at h;cases h
 | some x =>
  obtain⟨t,r1⟩:=x
  rw[e]at h
  dsimp only at h
  obtain⟨n1,n2⟩:=hf _ _ _ hx e
  cases e2:zaD f (l.length+1) r1 with
  | none=>rw[e2]at h;cases h
  | some y =>
   obtain⟨us,r3⟩:=y
   rw[e2]at h
   dsimp only at h
   cases h
   obtain⟨n3,n4⟩:=zhF hf _ n2 e2
   exact⟨⟨n1,n3⟩,n4⟩
theorem zee {B:Nat}:∀ b,Nmf B (zap b)
 | 0=>fun l t r hx h=>by
  by_cases h1:l.takeWhile isW=[]
  ·rw[zb1 h1]at h;cases h
  by_cases h2:pre [40] (l.dropWhile isW)=true
  ·rw[zc4 h2]at h;cases h
  rw[zbH h1 (Bool.eq_false_iff.mpr h2)]at h
  cases h
  exact⟨⟨⟨by rw[zaK];exact zdQ,by rw[zaK];have:=zbT l;omega⟩,trivial⟩,by have:=zbT l;omega⟩
 | b+1=>fun l t r hx h=>by
  by_cases h1:l.takeWhile isW=[]
  ·rw[zb1 h1]at h;cases h
  by_cases h2:pre [40] (l.dropWhile isW)=true
  ·rw[zef h1 h2]at h
   cases e:zaJ (zap b) ((l.dropWhile isW).drop 1) with
   | none=>rw[e]at h;cases h
   | some x =>
    obtain⟨ts,r2⟩:=x
    rw[e]at h
    dsimp only at h
    cases h
    obtain⟨n1,n2⟩:=zgJ (B:=B) (zee b) (by rw[List.length_drop];have:=zbT l;omega) e
    exact⟨⟨⟨by rw[zaK];exact zdQ,by rw[zaK];have:=zbT l;omega⟩,n1⟩,n2⟩
  rw[zbH h1 (Bool.eq_false_iff.mpr h2)]at h
  cases h
  exact⟨⟨⟨by rw[zaK];exact zdQ,by rw[zaK];have:=zbT l;omega⟩,trivial⟩,by have:=zbT l;omega⟩
theorem pS_nm {B:Nat} {l:List Nat} {g:Fm} {r:List Nat} (hx:l.length≤B) (h:pS l=some (g,r)):NmF B g∧r.length≤B:=by
 unfold pS at h
 cases e:zap 20 l with
 | none=>rw[e]at h;cases h
 | some x =>
  obtain⟨t,r1⟩:=x
  rw[e]at h
  dsimp only at h
  obtain⟨x1,x2⟩:=zee 20 _ _ _ hx e
  by_cases c:pre [32,61,32] r1=true
  ·rw[if_pos c]at h
   cases e2:zap 20 (r1.drop 3) with
   | none=>rw[e2]at h;cases h
   | some y =>
    obtain⟨t2,r2⟩:=y
    rw[e2]at h
    dsimp only at h
    cases h
    obtain⟨x3,x4⟩:=zee 20 _ _ _ (by rw[List.length_drop];omega:(r1.drop 3).length≤B) e2
    exact⟨⟨x1,x3⟩,x4⟩
  ·rw[if_neg c]at h
   cases t with
   | node n ts =>
   cases ts with
   | cons a b=>simp only[mkS]at h;cases h
   | nil =>
    simp only[mkS]at h
    cases h
    refine⟨?_,x2⟩
    by_cases hb:n="always"∨n="never"
    ·rw[if_pos hb];trivial
    ·rw[if_neg hb];exact x1.1
theorem zf7 {B:Nat}:∀(n:Nat) {l:List Nat} {g:Fm} {r:List Nat},l.length≤B→pF n l=some (g,r)→NmF B g∧r.length≤B
 | 0,l,g,r,_,h=>by cases h
 | n+1,l,g,r,hx,h=>by
  simp only[pF]at h
  have dl:∀ k,(l.drop k).length≤B:=fun k=>by rw[List.length_drop];omega
  by_cases c1:pre [110,111,116,32] l=true
  ·rw[if_pos c1]at h
   cases e:pF n (l.drop 4) with
   | none=>rw[e]at h;cases h
   | some x =>
    obtain⟨a,r1⟩:=x
    rw[e]at h
    dsimp only at h
    cases h
    have h4:=zf7 n (dl 4) e
    exact⟨h4.1,h4.2⟩
  rw[if_neg c1]at h
  by_cases c2:pre [117,110,108,105,107,101,40] l=true
  ·rw[if_pos c2]at h
   cases e:zaJ (zap 20) (l.drop 7) with
   | none=>rw[e]at h;cases h
   | some x =>
    obtain⟨ts,r1⟩:=x
    rw[e]at h
    dsimp only at h
    cases h
    have h4:=zgJ (zee 20) (dl 7) e
    exact⟨h4.1,h4.2⟩
  rw[if_neg c2]at h
  by_cases c3:pre [40] l=true
  ·rw[if_pos c3]at h
   unfold zet at h
   cases e:pF n (l.drop 1) with
   | none=>rw[e]at h;cases h
   | some x =>
    obtain⟨a,r1⟩:=x
    rw[e]at h
    dsimp only at h
    obtain⟨n1,n2⟩:=zf7 n (dl 1) e
    cases e2:pB r1 with
    | none=>rw[e2]at h;cases h
    | some y =>
     obtain⟨k,r2⟩:=y
     rw[e2]at h
     dsimp only at h
     obtain⟨hk,rfl⟩:=pB_ok e2
     cases e3:pF n (r1.drop (k.length+2)) with
     | none=>rw[e3]at h;cases h
     | some z =>
      obtain⟨b,r3⟩:=z
      rw[e3]at h
      dsimp only at h
      obtain⟨n3,n4⟩:=zf7 n (by rw[List.length_drop];omega:(r1.drop (k.length+2)).length≤B) e3
      by_cases c4:pre [41] r3=true
      ·rw[if_pos c4]at h
       cases h
       exact⟨⟨n1,n3⟩,by rw[List.length_drop];omega⟩
      ·rw[if_neg c4]at h;cases h
  ·rw[if_neg c3]at h
   exact pS_nm hx h
theorem sN_lw {W:List Nat} (g:GW W) {n:Str} (h1:∀ c∈cp n,isW c=true) (h2:(cp n).length≤2000):Lw (sN W n):=by
 have e:cp (sN W n)=sub W (cp n):=by unfold sN;rw[zaK]
 refine⟨?_,fun c hc=>?_⟩
 ·rw[←zaw,e]
  have:=zeh g (cp n)
  omega
 ·rw[e]at hc
  have:=zdx.mp (zge g h1 c hc)
  omega
mutual
theorem zh3 {W:List Nat} (g:GW W):∀ {t:Tr},NmT 2000 t→LwT (sT W t)
 | .node n ts,h=>by
  simp only[NmT]at h
  simp only[sT,LwT]
  exact⟨sN_lw g h.1.1 h.1.2,zgr g h.2⟩
theorem zgr {W:List Nat} (g:GW W):∀ {ts:List Tr},zew 2000 ts→zex (sTs W ts)
 | [],_=>trivial
 | t :: ts,h=>by
  simp only[zew]at h
  simp only[sTs,zex]
  exact⟨zh3 g h.1,zgr g h.2⟩
end
theorem zf3 {W:List Nat} (g:GW W):∀ {f:Fm},NmF 2000 f→LwF (sF W f)
 | .plain z,h=>sN_lw g h.1 h.2
 | .bare _,_=>trivial
 | .same a b,h=>⟨zh3 g h.1,zh3 g h.2⟩
 | .unlike ts,h=>zgr g h
 | .not f,h=>zf3 g (f:=f) h
 | .bin k f f',h=>⟨zf3 g h.1,zf3 g h.2⟩
abbrev cl (x:Str):List Nat:=x.cps.toList
theorem zi8 {a b:Str} (h:cl a=cl b):a=b:=Str.ext' (Array.toList_inj.mp h)
theorem zi9 (a b:Str):cl (a++b)=cl a++cl b:=Array.toList_append
theorem zik {x:Str} (h:1≤x.length):cl (Txt.slice x none (some (-1)))=(cl x).take (x.length - 1):=by
 have e:=eq_of_beq (PyProof.Rows.slice_closes_to_neg (x:=x) (j:=-1) (k:=-1+x.length) (by decide) (by omega) rfl)
 rw[e]
 have e2:(-1+(x.length:Int) - 0).toNat=x.length - 1:=by omega
 rw[e2]
 simp [cl]
theorem zgY {m:Nat}:∀ {a a' r r':List Nat},a++m :: r=a'++m :: r'→m∉a→m∉a'→a=a'∧r=r'
 | [],[],r,r',h,_,_=>⟨rfl,(List.cons.inj h).2⟩
 | [],y :: a',r,r',h,_,h2=>absurd (by rw[(List.cons.inj h).1];exact List.mem_cons_self ..) h2
 | x :: a,[],r,r',h,h1,_=>absurd (by rw[←(List.cons.inj h).1];exact List.mem_cons_self ..) h1
 | x :: a,y :: a',r,r',h,h1,h2=>by
  obtain⟨e1,e2⟩:=List.cons.inj h
  obtain⟨e3,e4⟩:=zgY e2 (fun z=>h1 (List.mem_cons_of_mem _ z)) (fun z=>h2 (List.mem_cons_of_mem _ z))
  exact⟨by rw[e1,e3],e4⟩
theorem zcN (c:Nat) (p q:Str) (r:List Str):cl (Str.join ⟨#[c]⟩ (p :: q :: r))=cl p++c :: cl (Str.join ⟨#[c]⟩ (q :: r)):=by
 show cl (p++⟨#[c]⟩++Str.join ⟨#[c]⟩ (q :: r))=_
 rw[zi9,zi9,List.append_assoc]
 rfl
theorem zg2 {c:Nat}:∀ {ps qs:List Str},ps≠[]→qs≠[]→(∀ p∈ps,c∉cl p)→(∀ q∈qs,c∉cl q)→Str.join ⟨#[c]⟩ ps=Str.join ⟨#[c]⟩ qs→ps=qs
 | [],_,h,_,_,_,_=>absurd rfl h
 | _,[],_,h,_,_,_=>absurd rfl h
 | [p],[q],_,_,_,_,e=>by rw[show p=q from e]
 | [p],q :: q' :: r,_,_,hp,_,e=>by
  have e':cl p=cl (Str.join ⟨#[c]⟩ (q :: q' :: r)):=congrArg cl e
  rw[zcN]at e'
  exact absurd (by rw[e'];simp) (hp p (List.mem_cons_self ..))
 | p :: p' :: r,[q],_,_,_,hq,e=>by
  have e':cl (Str.join ⟨#[c]⟩ (p :: p' :: r))=cl q:=congrArg cl e
  rw[zcN]at e'
  exact absurd (by rw[←e'];simp) (hq q (List.mem_cons_self ..))
 | p :: p' :: r,q :: q' :: r',_,_,hp,hq,e=>by
  have e':=congrArg cl e
  rw[zcN,zcN]at e'
  obtain⟨e1,e2⟩:=zgY e' (hp p (List.mem_cons_self ..)) (hq q (List.mem_cons_self ..))
  rw[zi8 e1,zg2 (c:=c) (by simp) (by simp) (fun x hx=>hp x (List.mem_cons_of_mem _ hx)) (fun x hx=>hq x (List.mem_cons_of_mem _ hx)) (zi8 e2)]
theorem zgL (x y:Str):Txt.split x y≠[]:=by
 unfold Txt.split
 split
 ·simp
 ·split
  ·simp
  ·rw[StrLaws.partsBetween_eq]
   obtain⟨p,r,e⟩:=StrLaws.partsFrom_ne x y.length 0 (Builtin.Str.occurrences x y 0 x.length (x.length+1))
   rw[e]
   simp
theorem zii {c:Nat} {ps:List Str} (h:ps≠[]) (hf:∀ p∈ps,c∉cl p):Txt.split (Str.join ⟨#[c]⟩ ps) ⟨#[c]⟩=ps :=
 zg2 (c:=c) (zgL _ _) h (StrLaws.split_free _ c) hf (StrLaws.join_split _ _)
theorem zjx (c:Nat):∀ {ps:List Str},ps≠[]→Str.join ⟨#[c]⟩ (ps++[Str.empty])=Str.join ⟨#[c]⟩ ps++⟨#[c]⟩
 | [],h=>absurd rfl h
 | [p],_=>Str.append_empty _
 | p :: q :: r,_=>by
  show p++⟨#[c]⟩++Str.join ⟨#[c]⟩ ((q :: r)++[Str.empty])=p++⟨#[c]⟩++Str.join ⟨#[c]⟩ (q :: r)++⟨#[c]⟩
  rw[zjx c (ps:=q :: r) (by simp),←Str.append_assoc]
theorem e10:("\n":Str)=⟨#[10]⟩:=by decide +kernel
theorem ew {t:Str} (h1:1≤t.length):PySem.Txt.endswith t "\n"=decide ((cl t)[t.length - 1]?=some 10):=by
 rw[e10]
 unfold PySem.Txt.endswith
 have h:=StrLaws.subAt_one t 10 (t.length - 1)
 rw[Bool.eq_iff_iff,Bool.and_eq_true,decide_eq_true_eq,decide_eq_true_eq,←h]
 refine⟨fun z=>⟨?_,z.2⟩,fun z=>⟨?_,z.2⟩⟩
 ·show t.length - 1+1≤t.length
  omega
 ·show 0+1≤t.length
  omega
theorem cl_cp (x:Str):cl x=cp x:=rfl
def za5 (rs:List Str):List Nat:=rs.flatMap fun r=>cp r++[10]
theorem zfh:∀ {rs:List Str},rs≠[]→za5 rs=cp (Str.join ⟨#[10]⟩ rs)++[10]
 | [],h=>absurd rfl h
 | [r],_=>by
  show cp r++[10]++[]=cp r++[10]
  simp
 | r :: q :: l,_=>by
  have ih:=zfh (rs:=q :: l) (by simp)
  have e:za5 (r :: q :: l)=(cp r++[10])++za5 (q :: l):=rfl
  have e2:cp (Str.join ⟨#[10]⟩ (r :: q :: l))=cp r++10 :: cp (Str.join ⟨#[10]⟩ (q :: l)):=zcN 10 r q l
  rw[e,ih,e2]
  simp
theorem zjL {s:Str} {rs:List Str} (ne:rs≠[]) (h:cp s=za5 rs) (hf:∀ r∈rs,10∉cp r):1≤s.length∧PySem.Txt.endswith s "\n"=true∧PySem.Txt.split (PySem.Txt.slice s none (some (-1))) "\n"=rs:=by
 rw[zfh ne]at h
 have sl:=zaw s
 have l1:s.length=(cp (Str.join ⟨#[10]⟩ rs)).length+1:=by rw[←sl,h,List.length_append];rfl
 have h1:1≤s.length:=by omega
 refine⟨h1,?_,?_⟩
 ·rw[ew h1]
  refine decide_eq_true ?_
  show(cp s)[s.length - 1]?=some 10
  rw[h,List.getElem?_append_right (by omega),l1]
  simp
 ·have e:PySem.Txt.slice s none (some (-1))=Str.join ⟨#[10]⟩ rs:=by
   apply zcs
   have:=zik h1
   rw[cl_cp,cl_cp]at this
   rw[this,h,List.take_append_of_le_length (by omega),List.take_of_length_le (by omega)]
  rw[e]
  exact zii (c:=10) ne hf
structure zda (l:List Nat):Prop where
 nx:120∉l
 nl:10∉l
 ln:l.length≤2000
 lo:∀ c∈l,c < 1000
def zcx (W l:List Nat):Str:=nmS (sub W l)
structure Rws (W:List Nat) (s:Str) (ls:List (List Nat)):Prop where
 tx:cp s=za5 (ls.map (zcx W))
 row:∀ l∈ls,zda l
 ln:ls.length≤10
def Bad (W:List Nat) (s:Str) (b:Bool):Prop:=match b with
 | true=>(∃ t,cp s=t++[98])∨∃ ls,Rws W s ls∧∃ l∈ls,frm l=none
 | false=>∃ ls,Rws W s ls∧(∀ l∈ls,frm l≠none)∧∃ l∈ls,∃ g,frm l=some g∧bF (sF W g)=false
theorem row_lw {W:List Nat} (g:GW W) {l:List Nat} (h:zda l):Lw (zcx W l):=by
 refine⟨?_,fun c hc=>?_⟩
 ·rw[←zaw,zcx,zaK]
  have:=zeh g l
  have:=h.ln
  omega
 ·rw[zcx,zaK]at hc
  have key:∀ l:List Nat,(∀ c∈l,c < 1000)→∀ c∈sub W l,c < 1000:=fun l=>by
   induction l with
   | nil=>intro _ c hc;cases hc
   | cons d l ih =>
    intro h c hc
    simp only[sub]at hc
    by_cases e:d=64
    ·rw[if_pos e]at hc
     rcases List.mem_append.mp hc with z | z
     ·have:=zdx.mp (g.ab c z);omega
     ·exact ih (fun c hc=>h c (List.mem_cons_of_mem _ hc)) c z
    ·rw[if_neg e]at hc
     rcases List.mem_cons.mp hc with rfl | z
     ·exact h c (by simp)
     ·exact ih (fun c hc=>h c (List.mem_cons_of_mem _ hc)) c z
  exact key l h.lo c hc
theorem row_nl {W:List Nat} (g:GW W) {l:List Nat} (h:10∉l):10∉sub W l:=by
 induction l with
 | nil=>exact h
 | cons d l ih =>
  have ih':=ih fun z=>h (List.mem_cons_of_mem _ z)
  simp only[sub]
  by_cases e:d=64
  ·rw[if_pos e]
   intro z
   rcases List.mem_append.mp z with z | z
   ·have:=zdx.mp (g.ab 10 z);omega
   ·exact ih' z
  ·rw[if_neg e]
   intro z
   rcases List.mem_cons.mp z with z | z
   ·exact h (by rw[z];simp)
   ·exact ih' z
section
variable {P:Program} {w:World} {K:PySem.W.Frag} {mg:Str→Option Value} {base:Heap} {W:List Nat} {CN CB:Addr} {f fR fM fN:Addr} {fd dR dM dN:FuncData}
inductive zgh (CN:Addr):Sp | mk {vs H Q E} (s:Str):vs=[.str s]→s.length≤1000000→(((∃ t,cp s=t++[98])∧∀ H',ao H H'→E (.ref CN) none H')∨∃ rs:List Str,cp s=za5 rs∧(∀ r∈rs,10∉cp r)∧∀(H':Hp) (p:Addr),ao H H'→H p=none→H' p=some (.lst (rs.map V.str))→Q (.ref p) H')→zgh CN vs H Q E
theorem sc_trw:zac ["text"] ["text"] (ag zdd):=⟨rfl,rfl,rfl,by decide +kernel,rfl,by decide +kernel,by decide +kernel⟩
theorem ok_trw (F:Fun K "text_rows" "text_rows" zdd f fd) (TN:TxN K mg CN CB):FnOk P w K mg base (CX1 P w) 1 f fd ["text"] (zgh CN):=by
 refine Fun.okX F sc_trw (fun vs H Q E h=>?_) (fun cdv A outer s0 H vs Q E hr h=>?_)
 ·obtain⟨z,rfl,_⟩:=h
  rfl
 obtain⟨z,rfl,lz,alt⟩:=h
 refine⟨_,(ai (zaz (zak za1 (pv 0) ah (zau _))
   (ae (zae (za7 ac)))
   zaf)
  (ai (zaz (zbV (zaV (zea PySem.F.plainAttrs_str PySem.F.slot_str_endswith PySem.F.type_str_endswith zkS (pv 0) (aa ah ac))))
   (ae (zaP (C:=CN) xe1 rfl rfl TN.np PySem.F.excBase_ValueError TN.xn (aa ah ac)))
   zaf)
  (ae (zae (zea PySem.F.plainAttrs_str PySem.F.slot_str_split PySem.F.type_str_split zj5 (zcj zgl (pv 0) zdw (zcg (pe_un un_neg ad))) (aa ah ac)))))),?_⟩
 try dsimp only [Cx.nox,Cx.wish,zaj]
 have c0:(("":Str)).length=0:=by decide +kernel
 rcases alt with ⟨⟨t,ht⟩,qE⟩ | ⟨rs,hc,hf,q⟩
 ·have l1:1≤z.length:=by rw[←zaw,ht,List.length_append];simp
  refine⟨_,rfl,rfl,_,rfl,zaI (fun c=>?_) (fun c=>?_)⟩
  ·have e:z="":=by
    have:=of_decide_eq_true c
    injection this
   rw[e,c0]at l1
   omega
  refine⟨_,rfl,rfl,_,_,rfl,rfl,_,rfl,?_⟩
  have e2:PySem.Txt.endswith z "\n"=false:=by
   rw[ew l1]
   refine decide_eq_false ?_
   show ¬(cp z)[z.length - 1]?=some 10
   have l2:z.length=t.length+1:=by rw[←zaw,ht,List.length_append];rfl
   rw[ht,l2,List.getElem?_append_right (by omega)]
   simp
  rw[e2]
  exact zbD ⟨(by show 1≤sizeLine;decide),qE H (ao.refl H)⟩
 refine⟨_,rfl,rfl,_,rfl,zaI (fun c=>?_) (fun c=>?_)⟩
 ·have e:z="":=by
   have:=of_decide_eq_true c
   injection this
  subst e
  have e:rs=[]:=by
   cases rs with
   | nil=>rfl
   | cons r rs =>
    have:=congrArg List.length hc
    rw[zaw,c0]at this
    simp [za5]at this
  subst e
  exact⟨lS0,fun p hp=>q _ p (zad hp _) hp zaa⟩
 ·have ne:rs≠[]:=fun e=>c (by
   subst e
   have e:z="":=zcs (by rw[hc];rfl)
   subst e
   decide +kernel)
  obtain⟨h1,h2,h3⟩:=zjL ne hc hf
  refine⟨_,rfl,rfl,_,_,rfl,rfl,_,rfl,?_⟩
  rw[h2]
  refine za8 ⟨_,rfl,_,rfl,_,rfl,z,rfl,szM (by omega),rfl,_,_,rfl,rfl,(by decide +kernel),Nat.le_trans (PySem.Txt.slice_le z _ _) lz,fun p hp=>?_⟩
  have e3:PySem.Txt.split (PySem.Txt.slice z none (some (-(1:Int)))) "\n"=rs:=h3
  rw[e3]
  exact q _ p (zad hp _) hp zaa
inductive zgg (W:List Nat) (CN CB:Addr):Sp | mk {vs H e2_ E} (s:Str) (b:Bool):vs=[.str s]→s.length≤1000000→Bad W s b→(∀ H',ao H H'→E (.ref (if b=true then CN else CB)) none H')→zgg W CN CB vs H e2_ E
theorem zgm:zac ["text","formulas","formula"] ["text"] (ag zcV):=⟨rfl,rfl,rfl,by decide +kernel,rfl,by decide +kernel,by decide +kernel⟩
theorem ok_und (g:GW W) (F:Fun K "understood" "understood" zcV f fd) (BR:FB P w K mg base (CX1 P w) 1 "text_rows" fR dR ["text"] (zgh CN)) (BM:FB P w K mg base (CX1 P w) 87 "formed" fM dM ["row"] (zgi W K CN)) (BN:FB P w K mg base (CX1 P w) 44 "ask_names" fN dN ["formula"] (zdU K CB 20)):FnOk P w K mg base (CX1 P w) 88 f fd ["text"] (zgg W CN CB):=by
 refine Fun.okX F zgm (fun vs H Q E h=>?_) (fun cdv A outer s0 H vs Q E hr h=>?_)
 ·obtain⟨_,_,rfl,_⟩:=h
  rfl
 obtain⟨s,b,rfl,lz,hb,qE⟩:=h
 have hr1:zai 1 _:=hr.mono (by decide)
 have hr44:zai 44 _:=hr.mono (by decide)
 refine⟨_,(ai (zjm (i:=1) (N':=["row"]) (ix:=[]) xe1 zgm.nd rfl (Or.inl rfl) rfl rfl (by decide +kernel) (by decide +kernel) rfl (fun _=>⟨[],zcl (by decide +kernel) (by decide +kernel)⟩) (by decide +kernel) rfl rfl (fun j i h=>by simp at h) (zbL (zab BR.ok hr1 rfl BR.m BR.kp BR.b .nil (zax xe1) (aa (pv 0) ac))) (fun _ _ _ _ _ hp=>(zab BM.ok hr rfl BM.m BM.kp BM.b .nil hp (aa (pv 0) ac))))
  (ai (zbF PassesOwn.leaving rfl (zbL (pv 1)) (zaY (i:=2) zgm.nd rfl (Or.inl rfl))
   (ae (za6 (zab BN.ok hr44 rfl BN.m BN.kp BN.b .nil (zax xe1) (aa (pv 2) ac)))))
  (ae (zae (pv 1))))),?_⟩
 try dsimp only [Cx.nox,Cx.wish,zaj]
 have key:(b=true∧∃ t,cp s=t++[98])∨∃ ls,Rws W s ls∧((b=true∧∃ l∈ls,frm l=none)∨(b=false∧(∀ l∈ls,frm l≠none)∧∃ l∈ls,∃ g,frm l=some g∧bF (sF W g)=false)):=by
  cases b with
  | true =>
   rcases hb with h | ⟨ls,R,h⟩
   ·exact .inl ⟨rfl,h⟩
   ·exact .inr ⟨ls,R,.inl ⟨rfl,h⟩⟩
  | false =>
   obtain⟨ls,R,h⟩:=hb
   exact .inr ⟨ls,R,.inr ⟨rfl,h⟩⟩
 rcases key with ⟨rfl,ht⟩ | ⟨ls,R,alt⟩
 ·exact⟨_,rfl,s,rfl,lz,.inl ⟨ht,fun H1 s1=>qE H1 s1⟩⟩
 refine⟨_,rfl,s,rfl,lz,.inr ⟨ls.map (zcx W),R.tx,fun r hr'=>?_,fun H1 l s1 hl hl1=>⟨l,rfl,⟨_,SqL.of hl1⟩,fun D hD=>zeb zbK (fun i us H'=>ao H1 H'∧∃ gs:List Fm,(ls.take i).map frm=gs.map some∧am K H' (gs.map fun g=>dFm (sF W g)) us) (fun i us H' ⟨s4,_⟩=>SqL.of (s4 _ _ hl1)) ⟨zad hD _,[],rfl,am.nil⟩ ?_ ?_⟩⟩⟩
 ·obtain⟨l,hl,rfl⟩:=List.mem_map.mp hr'
  rw[zcx,zaK]
  exact row_nl g (R.row l hl).nl
 ·rintro i us H8 x H4 hi hly hDs ⟨s4,gs,egs,hus⟩ ⟨rfl,hx'⟩
  have hx:=hx' _ (SqL.of (s4 _ _ hl1))
  rw[List.map_map,List.getElem?_map]at hx
  obtain⟨t,ht,rfl⟩:=Option.map_eq_some_iff.mp hx
  have tm:=List.mem_of_getElem? ht
  have T:=R.row t tm
  refine⟨_,rfl,zcx W t,t,rfl,row_lw g T,by rw[zcx,zaK],T.nx,fun e H5 s5=>?_,fun u eu H5 v s5 hv=>zcL (szM (by have:=R.ln;simp only[List.length_map];omega)) hi hly (s5 _ _ hDs) ⟨(s4.trans s5).upd hD,gs++[u],?_,?_⟩⟩
  ·rcases alt with ⟨rfl,_⟩ | ⟨_,ha,_⟩
   ·exact qE H5 ((s1.trans s4).trans s5)
   ·exact absurd e (ha t tm)
  ·rw[zaR ht,List.map_append,List.map_append,egs]
   simp [eu]
  ·have kt:=zbb.lst (ys:=us++[v]) (s5 _ _ hDs)
   rw[List.map_append]
   have hn:zb6 (gs.map fun g=>dFm (sF W g))=true:=by
    have:=za0 (gs.map (sF W))
    rw[List.map_map]at this
    exact this
   exact am.append (hus.keep (s5.kt.trans kt) hn) (am.one (hv.keep kt (zay _)))
 rintro us H4 hDs ⟨s4,gs,egs,hus⟩
 rw[List.length_map,List.length_map,List.take_length]at egs
 have s14:=s1.trans s4
 have hus':am K H4 ((gs.map (sF W)).map dFm) us:=by rw[List.map_map];exact hus
 have glen:gs.length=ls.length:=by
  have:=congrArg List.length egs
  rw[List.length_map,List.length_map]at this
  exact this.symm
 have gof:∀(i:Nat) (u:Fm),gs[i]?=some u→∃ l∈ls,frm l=some u:=fun i u hu=>by
  have e:=congrArg (fun z=>z[i]?) egs
  simp only[List.getElem?_map,hu]at e
  cases hl:ls[i]? with
  | none=>rw[hl]at e;cases e
  | some l =>
   rw[hl]at e
   exact⟨l,List.mem_of_getElem? hl,Option.some.inj e⟩
 have alt':b=false∧∃ u∈gs,bF (sF W u)=false:=by
  rcases alt with ⟨_,l,hl,e⟩ | ⟨hb',_,l,hl,u,eu,e⟩
  ·have:frm l∈gs.map some:=by rw[←egs];exact List.mem_map.mpr ⟨l,hl,rfl⟩
   rw[e]at this
   obtain⟨_,_,h⟩:=List.mem_map.mp this
   cases h
  ·have:frm l∈gs.map some:=by rw[←egs];exact List.mem_map.mpr ⟨l,hl,rfl⟩
   rw[eu]at this
   obtain⟨u',hu',h⟩:=List.mem_map.mp this
   cases h
   exact⟨hb',u,hu',e⟩
 obtain⟨rfl,bad⟩:=alt'
 refine⟨_,rfl,D,rfl,⟨_,SqL.of hDs⟩,zca zbK (fun i σ H'=>∃ v:Option V,σ=[some (.str s),some (.ref D),v]∧ao H4 H'∧∀ u∈gs.take i,bF (sF W u)=true) (fun i σ H' ⟨_,_,s2,_⟩=>SqL.of (s2 _ _ hDs)) ⟨none,rfl,ao.refl H4,by simp⟩ ?_ ?_⟩
 ·rintro i σ H5 x H6 hi ⟨v,rfl,s5,al⟩ ⟨rfl,hz⟩
  obtain⟨u',hu',hux⟩:=zbB (hus'.keep s5.kt (za0 _)) (hz _ (SqL.of (s5 _ _ hDs)))
  rw[List.getElem?_map]at hu'
  obtain⟨u,hu,rfl⟩:=Option.map_eq_some_iff.mp hu'
  obtain⟨l',hl',el⟩:=gof i u hu
  have T:=R.row l' hl'
  unfold frm at el
  cases ep:pF 20 l' with
  | none=>rw[ep]at el;cases el
  | some y =>
   obtain⟨g',r'⟩:=y
   rw[ep]at el
   dsimp only at el
   by_cases cc:r'=[]∧fdd g'≤20∧cF g'=true
   ·rw[if_pos cc]at el
    cases el
    have RF:=zeV 20 T.nx ep
    have NM:=(zf7 20 T.ln ep).1
    refine⟨_,rfl,sF W u,_,rfl,hux,zds RF.ok,ze0 RF.td,zf3 g NM,?_,fun e H7 s7=>⟨_,rfl,s5.trans s7,fun u2 hu2=>?_⟩,fun e H7 s7=>qE H7 ((s14.trans s5).trans s7)⟩
    ·have fs:∀ g:Fm,fdp (sF W g)=fdp g:=fun g=>by
      induction g with
      | not f ih=>simp only[sF,fdp,ih]
      | bin k f g ih1 ih2=>simp only[sF,fdp,ih1,ih2]
      | _=>rfl
     rw[fs]
     exact RF.fp
    ·rw[zaR hu]at hu2
     rcases List.mem_append.mp hu2 with h | h
     ·exact al u2 h
     ·rw[List.mem_singleton.mp h];exact e
   ·rw[if_neg cc]at el;cases el
 ·rintro σ H5 ⟨v,rfl,s5,al⟩
  obtain⟨u,hu,e⟩:=bad
  have ul:us.length=gs.length:=by rw[←hus'.length,List.length_map,List.length_map]
  rw[ul,List.take_length]at al
  rw[al u hu]at e
  cases e
end
end K73
namespace L2
open PySem PySem.Spec PySem.Calls PyProof.Rows PySem.W PySem.Builtin PySem.Builtin.ObjectAttr PySem.Builtin.Getset_descriptor
section
variable {prog:Program} {w:World} {A:Around} {E:Value→Shared→Prop} {s:Shared} {K:Frag} {x C:Addr}
theorem xc_get {tp:Value} {R:Result→Shared→Prop} (X:K.In s.heap) (I:zbj x C s.heap) (hm:mroIn K C (.type "object")=some true)
  (h:R (.ok (.ret (.ref C))) s):codeAny (model prog w) A (.call (.builtin "getset_descriptor.__get__") ⟨[.builtin "object.__class__",.ref x,tp],[]⟩) R s:=by
 obtain⟨hh,g,dr,t,os⟩:=s
 obtain⟨oe,he,hc⟩:=I
 have L0:Looks (model prog w) hh (typeOf (.ref x)) (.ref C):=hc ▸ (Looks.ld he).andThen .now
 have L1:=looks_mroIn (M:=model prog w) X hm
 refine codeAny_call_builtin KF.slot_gs.plain KF.entry_gs (KF.slot_gs.check _ _ _ _ _ _ _ _ KF.type_class (KF.args_gs _ _ _) ?_)
 unfold Builtin.«getset_descriptor.__get__» descrGet
 rw[dga_obj]
 refine wpAny_bind (wpAny_pure ?_)
 unfold descrGetter descrCheckInstance descrNameAndClass isInstance
 simp only[KF.owner_class]
 repeat lk
 refine⟨Code.quiet_builtin _ (by decide +kernel),codeAny_builtin KF.entry_class ?_⟩
 unfold Builtin.«object.__class__» shownTypeOf
 repeat lk
 exact h
structure XcK (K:Frag) (C:Addr):Prop where
 c:(clsIn K C).isSome=true
 ga:findIn K (.ref C) "__getattribute__"=some (some (.builtin "BaseException.__getattribute__"))
 gn:findIn K (.ref C) "__getattr__"=some none
 cl:findIn K (.ref C) "__class__"=some (some (.builtin "object.__class__"))
 get:specialIn K (.builtin "object.__class__") "__get__"=some (some (.builtin "getset_descriptor.__get__"))
 tk:takesIn K (.builtin "object.__class__")=some true
 mo:mroIn K C (.type "object")=some true
 mb:mroIn K C (.type "BaseException")=some true
theorem zkl {M:Model} {h:Heap} (X:K.In h) (k:XcK K C):Looks M h (find (.ref x) (.ref C) "__class__") (.bind (.builtin "getset_descriptor.__get__") (.builtin "object.__class__")):=by
 have L1:=looks_findIn (M:=M) X k.cl
 have L2:Looks M h (getOf (some (.builtin "object.__class__"))) (some (.builtin "getset_descriptor.__get__")):=looks_specialIn X k.get
 have L3:=looks_takesIn (M:=M) X k.tk
 intro A Q E s kk q
 unfold find
 refine wpAny_bind ((L1.keeps kk).here ?_)
 refine wpAny_bind ((L2.keeps kk).here ?_)
 unfold dataDescriptor?
 refine wpAny_bind (wpAny_bind ((L3.keeps kk).here ?_))
 exact wpAny_pure (wpAny_bind (wpAny_rule (wpAny_pure q)))
theorem zjF {tk:Tok} {Q:Fin→Shared→Prop} (X:K.In s.heap) (I:zbj x C s.heap) (k:XcK K C) (h:Q (.done (.ret (.ref C))) s) :
  wpAny (model prog w) A (Builtin.«object.__getattribute__» ⟨[.ref x,.str "__class__" tk],[]⟩) Q E s:=by
 obtain⟨hh,g,dr,t,os⟩:=s
 have I0:=I
 obtain⟨oe,he,hc⟩:=I
 have L0:Looks (model prog w) hh (typeOf (.ref x)) (.ref C):=hc ▸ (Looks.ld he).andThen .now
 have LF:=zkl (M:=model prog w) (x:=x) X k
 unfold Builtin.«object.__getattribute__»
 refine wpAny_bind (wpAny_pure ?_)
 refine wpAny_bind (wpAny_pure ?_)
 refine wpAny_bind (L0.at ?_)
 refine wpAny_bind (LF.at ?_)
 show wpAny _ _ (holding [_] (call _ _) >>= ret) _ _ _
 exact wpAny_bind (wpAny_holding (wpAny_call (xc_get (s:=⟨hh,g,dr,t,os⟩) X I0 k.mo (wpAny_pure h))))
theorem zjG {nameV:Value} {M:Model} {Q:Unit→Shared→Prop} (X:K.In s.heap) (I:zbj x C s.heap) (k:XcK K C) (hq:Q () s):wpAny M A (checkBuiltinCall "BaseException.__getattribute__" ⟨[.ref x,nameV],[]⟩) Q E s:=by
 obtain⟨hh,g,dr,t,os⟩:=s
 obtain⟨oe,he,hc⟩:=I
 have L0:Looks M hh (typeOf (.ref x)) (.ref C):=hc ▸ (Looks.ld he).andThen .now
 have LB:=looks_mroIn (M:=M) X k.mb
 have hk:builtinKind "BaseException.__getattribute__"=some .slot:=by decide +kernel
 have hsplit:splitId "BaseException.__getattribute__"=some ("BaseException","__getattribute__"):=by decide +kernel
 have ha:=F.args_bexc_ga (.ref x) nameV
 simp only[checkBuiltinCall,hk,hsplit]
 refine wpAny_bind ?_
 unfold isInstance
 refine wpAny_bind (L0.at (LB.at ?_))
 repeat wp_step
 exact hq
theorem zkm {Q:Option Value→Shared→Prop} (X:K.In s.heap) (I:zbj x C s.heap) (k:XcK K C) (h:Q (some (.ref C)) { s with toks:=s.toks+1 }):wpAny (model prog w) A (getAttr? (.ref x) "__class__") Q E s:=by
 obtain⟨hh,g,d,t,os⟩:=s
 have I0:=I
 obtain⟨oe,he,hc⟩:=I
 have L0:Looks (model prog w) hh (typeOf (.ref x)) (.ref C):=hc ▸ (Looks.ld he).andThen .now
 have L1:=looks_findIn (M:=model prog w) X k.ga
 have L2:=looks_findIn (M:=model prog w) X k.gn
 unfold getAttr? getAttrBy? getAttrBy
 refine wpAny_bind (wpAny_mkText (wpAny_bind (wpAny_attempt (wpAny_holding (wpAny_bind (L0.at (wpAny_bind (L1.at ?_))))))))
 show wpAny _ _ (getAttrByItsOwn _ _ _ _ _ _) _ _ _
 unfold getAttrByItsOwn
 refine wpAny_bind (L2.at ?_)
 refine wpAny_bind (wpAny_attempt (wpAny_holding ?_))
 show wpAny _ _ (boundAndCalled _ _ _) _ _ _
 unfold boundAndCalled
 have f3:=F.excAttr_ValueError.ga.bind (.ref x)
 rw[f3]
 refine wpAny_bind (wpAny_pure ?_)
 refine wpAny_call (codeAny_call_builtin F.excAttr_ValueError.ga.plain F.entry_bexc_ga (zjG (s:=⟨hh,g,d,t+1,os⟩) X I0 k (zjF (s:=⟨hh,g,d,t+1,os⟩) X I0 k ?_)))
 exact handed_on rfl (wpAny_pure h)
theorem zhH (k:XcK K C):KitX K (.ref x) (.ref C) (fun h=>zbj x C h) where
 ty:=fun M h _ I=>by
  obtain⟨oe,he,hc⟩:=I
  exact hc ▸ (Looks.ld he).andThen .now
 it:=fun _ _ X _=>by
  obtain⟨cdD,hcD⟩:=Option.isSome_iff_exists.mp k.c
  unfold clsIn at hcD
  split at hcD
  ·rename_i c' d' cd' sl' ho
   intro A' Q' E' s' k q
   unfold isType loadHead
   exact wpAny_bind (wpAny_loadPart (k _ _ (X _ _ ho)) (wpAny_pure q))
  ·cases hcD
 ne:=fun h tp dd its n sl X htp=>by
  obtain⟨cdD,hcD⟩:=Option.isSome_iff_exists.mp k.c
  refine Bool.eq_false_iff.mpr fun q=>?_
  have e:C=tp:=Value.ref.inj (beq_iff_eq.mp q)
  subst e
  unfold clsIn at hcD
  split at hcD
  ·rename_i c' d' cd' sl' ho
   have z:=(X _ _ ho).symm.trans htp
   cases z
  ·cases hcD
 ca:=fun X I kk=>zkm X I k kk
end
section
variable {X:Cx}
inductive zf4 (K:Frag):List V→Hp→VK→Prop | mk {xs H Q} (ea C tp:Addr) (cs:List Addr) (b:Bool):xs=[.ref ea,.ref tp]→H ea=some (.ext (zbj ea C))→XcK K C→SqT K H tp (cs.map V.ref)→kitAny K (.ref C) (cs.map Value.ref)=some b→Q (.bl b) H→zf4 K xs H Q
theorem zgQ:∀ {cs:List Addr} {ws:List Value},ap (cs.map V.ref) ws→ws=cs.map Value.ref
 | [],_,h=>by cases h;rfl
 | c :: cs,_,h=>by
  cases h with
  | cons a b =>
   cases a
   rw[zgQ b];rfl
theorem zfV:zby X (.builtin "isinstance") (zf4 X.K):=by
 intro pins s σ H xs us Q I r h
 obtain⟨ea,C,tp,cs,b,rfl,hH,hk,ht,hb,q⟩:=h
 obtain⟨u,w',rfl,rx,ry⟩:=zh0 r
 cases (show w'=Value.ref tp from ry)
 cases (show u=Value.ref ea from rx)
 obtain⟨hx,_⟩:=I.hok ea _ hH
 obtain⟨its,rl,p,_⟩:=I.tuple ht
 have e:=zgQ rl
 subst e
 obtain⟨o,ho,hcl,n,hdt⟩:=p
 obtain⟨oc,od,oda,osl⟩:=o
 cases hcl
 cases hdt
 exact kia_tup (zhH hk) I.kIn hx ho hb (fun z=>nomatch z) fun tk=>⟨.bl b,H,I.tok _,rfl,q⟩
inductive zeU (K:Frag):List V→Hp→VK→Prop | mk {xs H Q} (ea C D:Addr) (b:Bool):xs=[.ref ea,.ref D]→H ea=some (.ext (zbj ea C))→XcK K C→kitOne K (.ref C) (.ref D)=some b→Q (.bl b) H→zeU K xs H Q
theorem zd8:zby X (.builtin "isinstance") (zeU X.K):=by
 intro pins s σ H xs us Q I r h
 obtain⟨ea,C,D,b,rfl,hH,hk,hb,q⟩:=h
 obtain⟨u,w',rfl,rx,ry⟩:=zh0 r
 cases (show w'=Value.ref D from ry)
 cases (show u=Value.ref ea from rx)
 obtain⟨hx,_⟩:=I.hok ea _ hH
 exact kia_one (zhH hk) I.kIn hx hb (fun z=>nomatch z) fun tk=>⟨.bl b,H,I.tok _,rfl,q⟩
end
end L2
namespace K73
open PySem L2
open F73 (szM ak)
inductive zej (K:PySem.W.Frag):Sp | mk {vs H Q E9} (a:Addr) (ns:List Int) (k:Int):vs=[.ref a,.int k]→SqL K H a (ns.map V.int)→ns.length≤63→0≤k→(∀ i:Int,Q (.int i) H)→zej K vs H Q E9
inductive zeA:Sp | mk {vs H Q E9} (c n:Int):vs=[.int c,.int n]→0≤n→n < 10→(∀ y:Str,y.length=n.toNat→(∀ d∈y.cps.toList,d∈abc.cps.toList)→Q (.str y) H)→zeA vs H Q E9
theorem zhw (c:Nat):(⟨#[c]⟩:Str).length=1:=rfl
theorem zla:abc.cps.toList.length=26:=by decide +kernel
theorem zk4 (a b:Str):(a++b).cps.toList=a.cps.toList++b.cps.toList:=zaW a b
theorem at_in {α:Type} {xs:List α} {i:Int} (h0:0≤i) (h1:i < (xs.length:Int)):∃ c,atI xs i=some c:=by
 have hk:i.toNat < xs.length:=by omega
 have e:i=((i.toNat:Nat):Int):=by omega
 have q:atI xs ((i.toNat:Nat):Int)=some xs[i.toNat]:=zaM (List.getElem?_eq_getElem hk)
 rw[←e]at q
 exact⟨_,q⟩
section
variable {P:Program} {w:World} {K:PySem.W.Frag} {mg:Str→Option Value} {base:Heap} {W:List Nat} {CN CB CE C1 C2 C3 C4 C5 C6:Addr} {f fU:Addr} {fd dU:FuncData}
theorem zkA:zac ["_law_script","_law_k"] ["_law_script","_law_k"] (ag zcn):=⟨rfl,rfl,rfl,by decide +kernel,rfl,by decide +kernel,by decide +kernel⟩
theorem zkN (F:Fun K "_law_cell_at" "_law_cell_at" zcn f fd) (len:mg "len"=none):FnOk P w K mg base CX0 1 f fd ["_law_script","_law_k"] (zej K):=by
 refine F.ok zkA (fun vs H Q E h=>?_) (fun cdv A outer s H vs Q E hr h=>?_)
 ·obtain⟨a,ns,k,rfl,_⟩:=h
  rfl
 obtain⟨a,ns,k,rfl,hS,h63,h0,q⟩:=h
 refine⟨_,ai (zaz (zak op_lt (pv 1) (zaL zbv rfl len PySem.boot_len (aa (pv 0) ac)) rfl) (ae (zae (zaG zbN (pv 0) (pv 1) (fun _ _=>rfl)))) zaf) (ae (zae ad)),?_⟩
 refine⟨_,rfl,_,rfl,a,_,rfl,.inl hS,_,_,rfl,rfl,_,rfl,?_⟩
 refine zaI (fun c=>?_) (fun c=>?_)
 ·have c':k < (((ns.map V.int).length:Nat):Int):=of_decide_eq_true c
  rw[List.length_map]at c'
  have hk:k.toNat < ns.length:=by omega
  have ek:k=((k.toNat:Nat):Int):=by omega
  have hat:atI (ns.map V.int) ((k.toNat:Nat):Int)=some (.int ns[k.toNat]):=zaM (by rw[List.getElem?_map,List.getElem?_eq_getElem hk] <;> rfl)
  rw[←ek]at hat
  exact⟨_,rfl,_,rfl,a,_,_,_,rfl,rfl,hS,hat,q _⟩
 ·exact q 0
theorem scW:zac ["_law_cell","_law_size","_law_letters","_law_word_here","_law_k"] ["_law_cell","_law_size"] (ag zdf):=⟨rfl,rfl,rfl,by decide +kernel,rfl,by decide +kernel,by decide +kernel⟩
theorem at_mem {α:Type} {xs:List α} {i:Int} {c:α} (h:atI xs i=some c):c∈xs:=by
 obtain⟨j,_,h2,_⟩:=zen h
 exact List.mem_of_getElem? h2
theorem zjZ {f:Addr} {fd:FuncData} (F:Fun K "_law_word" "_law_word" zdf f fd) (TR:mg "range"=none):FnOk P w K mg base CX0 1 f fd ["_law_cell","_law_size"] zeA:=by
 refine F.ok scW (fun vs H Q E h=>?_) (fun cdv A outer s H vs Q E hr h=>?_)
 ·obtain⟨c,n,rfl,_⟩:=h
  rfl
 obtain⟨c,n,rfl,h0,h1,q⟩:=h
 refine⟨_,ai (zat (i:=2) scW.nd rfl (Or.inl rfl) ah) (ai (zat (i:=3) scW.nd rfl (Or.inl rfl) ah)
  (ai (zbF PassesOwn.never rfl (zd4 rfl TR (aa (pv 1) ac)) (zaY (i:=4) scW.nd rfl (Or.inl rfl))
   (ai (zat (i:=0) scW.nd rfl (Or.inl rfl) (aj zaE (aj zbA (aj zdW (pv 0) ad) ad) ad))
   (ae (zat (i:=3) scW.nd rfl (Or.inl rfl) (aj zal (pv 3) (zaG zi0 (pv 2) (aj zaE (aj zbh (pv 0) ad) ad) (fun _ _=>rfl)))))))
  (ae (zae (pv 3))))),?_⟩
 refine⟨_,rfl,n,rfl,by omega,by omega,zfS (lo:=0) (n:=n.toNat) (fun i σ H'=>H'=H∧∃(c:Int) (y:Str) (k:Option V),σ=[some (.int c),some (.int n),some (.str abc),some (.str y),k]∧y.length=i∧∀ d∈y.cps.toList,d∈abc.cps.toList)
  ⟨rfl,c,"",none,rfl,by decide +kernel,by decide +kernel⟩ ?_ ?_⟩
 ·rintro i σ H' hi ⟨rfl,c,y,k,rfl,hy,hab⟩
  refine⟨_,rfl,_,_,rfl,rfl,.inr ⟨by decide,by decide⟩,_,_,rfl,rfl,_,_,rfl,rfl,(by show(0:Int) < 2147483647;decide),?_⟩
  have m0:=Int.emod_nonneg ((c * 48271+11) % 2147483647 / 7) (show(26:Int)≠0 by decide)
  have m1:=Int.emod_lt_of_pos ((c * 48271+11) % 2147483647 / 7) (show(0:Int) < 26 by decide)
  obtain⟨ch,hch⟩:=at_in (xs:=abc.cps.toList) m0 (by rw[zla];exact m1)
  refine⟨_,rfl,_,rfl,_,rfl,_,_,rfl,rfl,⟨by decide,by decide⟩,_,_,rfl,rfl,(by show(0:Int) < 26;decide),abc,_,ch,rfl,rfl,F73.sz _ (by decide +kernel),hch,y,_,rfl,rfl,F73.sz _ (by rw[zhw];omega),?_⟩
  refine⟨rfl,_,_,_,rfl,by rw[ak,zhw,hy],fun d hd=>?_⟩
  rw[zk4]at hd
  rcases List.mem_append.mp hd with hd | hd
  ·exact hab d hd
  ·have e:d=ch:=by simpa using hd
   rw[e]
   exact at_mem hch
 ·rintro σ H' ⟨rfl,c,y,k,rfl,hy,hab⟩
  exact⟨_,rfl,q y (by omega) hab⟩
structure XF (K:PySem.W.Frag) (mg:Str→Option Value) (CN CB CE C1 C2 C3 C4 C5 C6:Addr):Prop where
 isi:mg "isinstance"=none
 ve:mg "ValueError"=none
 int:mg "int"=none
 ce:mg "ChoiceError"=some (.ref CE)
 c1:mg "BadTerm"=some (.ref C1)
 c2:mg "BadPart"=some (.ref C2)
 c3:mg "TooMany"=some (.ref C3)
 c4:mg "NotJoined"=some (.ref C4)
 c5:mg "TooLong"=some (.ref C5)
 c6:mg "BadPaper"=some (.ref C6)
 xn:XcK K CN
 xb:XcK K CB
 en:PySem.W.exmOne K (.ref CN) (.ref CE)=some true
 eb:PySem.W.exmOne K (.ref CB) (.ref CE)=some true
 an:PySem.W.kitAny K (.ref CN) ([C1,C2,C3].map Value.ref)=some false
 ab:PySem.W.kitAny K (.ref CB) ([C1,C2,C3].map Value.ref)=some false
 a2n:PySem.W.kitAny K (.ref CN) ([C4,C5,C6].map Value.ref)=some false
 a2b:PySem.W.kitAny K (.ref CB) ([C4,C5,C6].map Value.ref)=some false
 vn:PySem.W.kitCls K (.ref CN) (.type "ValueError")=some true
 vb:PySem.W.kitCls K (.ref CB) (.type "ValueError")=some true
 nn:PySem.W.kitOne K (.ref CN) (.ref CN)=some true
 nb:PySem.W.kitOne K (.ref CN) (.ref CB)=some false
 bn:PySem.W.kitOne K (.ref CB) (.ref CN)=some false
 bb:PySem.W.kitOne K (.ref CB) (.ref CB)=some true
structure XG (K:PySem.W.Frag) (CE CN CB C:Addr) (C1 C2 C3 C4 C5 C6:Addr) (b:Bool):Prop where
 x:XcK K C
 e:PySem.W.exmOne K (.ref C) (.ref CE)=some true
 a:PySem.W.kitAny K (.ref C) ([C1,C2,C3].map Value.ref)=some false
 a2:PySem.W.kitAny K (.ref C) ([C4,C5,C6].map Value.ref)=some false
 v:PySem.W.kitCls K (.ref C) (.type "ValueError")=some true
 n:PySem.W.kitOne K (.ref C) (.ref CN)=some b
 m:PySem.W.kitOne K (.ref C) (.ref CB)=some (!b)
theorem XF.g (T:XF K mg CN CB CE C1 C2 C3 C4 C5 C6) (b:Bool):XG K CE CN CB (if b=true then CN else CB) C1 C2 C3 C4 C5 C6 b:=by
 cases b with
 | true=>exact⟨T.xn,T.en,T.an,T.a2n,T.vn,T.nn,T.nb⟩
 | false=>exact⟨T.xb,T.eb,T.ab,T.a2b,T.vb,T.bn,T.bb⟩
inductive zdv (W:List Nat):Sp | mk {vs H Q E9} (s:Str) (b:Bool):vs=[.str s]→s.length≤1000000→Bad W s b→(∀ H',ao H H'→Q (.str (if b=true then "form" else "name")) H')→zdv W vs H Q E9
theorem zhj:zac ["_law_text","e"] ["_law_text"] (ag zdg):=⟨rfl,rfl,rfl,by decide +kernel,rfl,by decide +kernel,by decide +kernel⟩
theorem zkI (F:Fun K "_law_said" "_law_said" zdg f fd) (TN:TxN K mg CN CB) (T:XF K mg CN CB CE C1 C2 C3 C4 C5 C6) (BU:FB P w K mg base (CX1 P w) 88 "understood" fU dU ["text"] (zgg W CN CB)):FnOk P w K mg base CX0 89 f fd ["_law_text"] (zdv W):=by
 refine F.ok zhj (fun vs H Q E h=>?_) (fun cdv A outer s0 H vs Q E hr h=>?_)
 ·obtain⟨s,b,rfl,_⟩:=h
  rfl
 obtain⟨s,b,rfl,lz,hb,q⟩:=h
 have G:=T.g b
 refine⟨_,(ai (ps_try rfl rfl (fun pins E1 Eb hp=>ae (za6 (zab BU.ok hr rfl BU.m BU.kp BU.b .nil hp (aa (pv 0) ac))))
  (ph_as (i:=1) rfl T.ce zhj.nd rfl rfl rfl (fun ea=>ai (zaz (PW.pt (zh6 (zaV (zaL (r:=zf4 K) zfV rfl T.isi PyProof.Rows.Boot.isinstance (aa (pv 1) (aa (zbG (aa (zam (v:=.ref C1) rfl T.c1 rfl) (aa (zam (v:=.ref C2) rfl T.c2 rfl) (aa (zam (v:=.ref C3) rfl T.c3 rfl) ac)))) ac)))) (zgv (zaV (zaL (r:=zf4 K) zfV rfl T.isi PyProof.Rows.Boot.isinstance (aa (pv 1) (aa (zbG (aa (zam (v:=.ref C4) rfl T.c4 rfl) (aa (zam (v:=.ref C5) rfl T.c5 rfl) (aa (zam (v:=.ref C6) rfl T.c6 rfl) ac)))) ac)))))))
    (ae (zae ah)) zaf)
   (ai (zaz (PW.pt (zh6 (zbV (zaV (zaL (r:=zh5 K) zjC rfl T.isi PyProof.Rows.Boot.isinstance (aa (pv 1) (aa (zkF (v:=.ty "ValueError") rfl T.ve PyProof.Rows.Boot.ValueError rfl) ac))))) (zgv (zak za1 (zaL (r:=zeU K) zd8 rfl T.isi PyProof.Rows.Boot.isinstance (aa (pv 1) (aa (zam (v:=.ref CN) rfl TN.np rfl) ac))) (zaL (r:=zeU K) zd8 rfl T.isi PyProof.Rows.Boot.isinstance (aa (pv 1) (aa (zam (v:=.ref CB) rfl TN.bn rfl) ac))) (zau _)))))
    (ae (zae ah)) zaf)
   (ae (zae (zaG (r:=rIxL K) zbN (za7 (aa ah (aa ah ac))) (zcu zjD rfl T.int PyProof.Rows.Boot.int (aa (zaL (r:=zeU K) zd8 rfl T.isi PyProof.Rows.Boot.isinstance (aa (pv 1) (aa (zam (v:=.ref CN) rfl TN.np rfl) ac))) ac)) (fun _ _=>rfl)))))) zjW)) (ae (zae ah))),?_⟩
 try dsimp only [Cx.nox,Cx.wish,zaj]
 refine⟨_,rfl,s,b,rfl,lz,hb,fun H1 s1=>?_⟩
 generalize (if b=true then CN else CB)=C at G
 refine⟨C,rfl,fun σ1 h2=>⟨true,G.e,zbD fun ea hea=>?_⟩⟩
 have hg:(σ1.set 1 (some (V.ref ea)))[1]?=some (some (V.ref ea)):=List.getElem?_set_self (by rw[h2];show 1 < 2;decide)
 have s2:ao H1 (upd H1 ea (.ext (zbj ea C))):=zad hea _
 have n2:=zaa (H:=H1) (a:=ea) (o:=.ext (zbj ea C))
 generalize upd H1 ea (.ext (zbj ea C))=H2 at s2 n2
 refine⟨_,hg,lS3,fun t4 ht4=>?_⟩
 have s3:ao H2 (upd H2 t4 (.tup [.ref C1,.ref C2,.ref C3])):=zad ht4 _
 refine⟨ea,C,t4,[C1,C2,C3],false,rfl,s3 _ _ n2,G.x,SqT.of (zaa ..),G.a,_,rfl,?_⟩
 have n3:=s3 _ _ n2
 generalize upd H2 t4 (.tup [.ref C1,.ref C2,.ref C3])=H3 at s3 n3
 refine za8 ⟨_,hg,lS3,fun t5 ht5=>?_⟩
 have s4:ao H3 (upd H3 t5 (.tup [.ref C4,.ref C5,.ref C6])):=zad ht5 _
 refine⟨ea,C,t5,[C4,C5,C6],false,rfl,s4 _ _ n3,G.x,SqT.of (zaa ..),G.a2,_,rfl,za8 ?_⟩
 have n4:=s4 _ _ n3
 generalize upd H3 t5 (.tup [.ref C4,.ref C5,.ref C6])=H4 at s4 n4
 have s14:=((s1.trans s2).trans s3).trans s4
 refine⟨_,hg,ea,C,"ValueError",rfl,n4,G.v,_,rfl,za8 ⟨_,hg,ea,C,CN,b,rfl,n4,G.x,G.n,_,hg,ea,C,CB,!b,rfl,n4,G.x,G.m,rfl,_,rfl,?_⟩⟩
 have eb:decide (V.bl b=V.bl (!b))=false:=by cases b <;> decide
 rw[eb]
 refine za8 ⟨lS2,fun p hp=>?_⟩
 have s5:ao H4 (upd H4 p (.lst [.str "name",.str "form"])):=zad hp _
 have n5:=zaa (H:=H4) (a:=p) (o:=.lst [V.str "name",V.str "form"])
 have n5e:=s5 _ _ n4
 generalize upd H4 p (.lst [V.str "name",V.str "form"])=H5 at s5 n5 n5e
 have hat:atI [V.str "name",V.str "form"] (if b=true then 1 else 0)=some (.str (if b=true then "form" else "name")):=by cases b <;> rfl
 exact⟨_,hg,ea,C,CN,b,rfl,n5e,G.x,G.n,.inr ⟨b,rfl,p,_,_,_,rfl,rfl,SqL.of n5,hat,q H5 (s14.trans s5)⟩⟩
end
end K73
namespace L2
open PySem PySem.Spec PyProof.Rows
def zbP (z:Str) (k:Nat):Str:=⟨(List.replicate k z.cps).foldl (·++·) #[]⟩
theorem zg4 (a:Array Nat):∀(k:Nat) (acc:Array Nat),((List.replicate k a).foldl (·++·) acc).toList=acc.toList++(List.replicate k a.toList).flatten
 | 0,acc=>by simp
 | k+1,acc=>by
  rw[List.replicate_succ,List.foldl_cons,zg4 a k,List.replicate_succ,List.flatten_cons,Array.toList_append,List.append_assoc]
theorem zkh (z:Str) (k:Nat):(zbP z k).cps.toList=(List.replicate k z.cps.toList).flatten:=by
 unfold zbP
 rw[zg4]
 rfl
theorem zbf (z:Str) (k:Nat):(zbP z k).length=k * z.length:=by
 have h:=congrArg List.length (zkh z k)
 rw[zkW]at h
 simpa [Str.length] using h
section
variable {X:Cx}
inductive rRepS:R2 | mk {x y H Q} (z:Str) (n:Int):x=.str z→y=.int n→1≤n→n≤1000→z.length≤1000→z.length≠0→Q (.str (zbP z n.toNat)) H→rRepS x y H Q
theorem zkG:OpR X (binaryOp .Mult) rRepS:=by
 intro pins s σ H x y v u Q I rx ry h
 obtain⟨z,n,rfl,rfl,h1,h2,h3,h4,q⟩:=h
 obtain⟨t,rfl⟩:=rx
 obtain⟨t',rfl⟩:=ry
 have ll:z.length * n.toNat≤1000 * 1000:=Nat.mul_le_mul h3 (by omega)
 refine PySem.P.mul_str (by rw[decide_eq_false (by omega),decide_eq_false (by omega)];rfl) (fun _ _=>?_) (fun _ _=>?_) ?_
 ·have:(1000000000:Int)≤(2 ^ 63 - 1) / n:=by
   refine Int.le_ediv_of_mul_le (by omega) ?_
   omega
  omega
 ·have hz:z.length * n.toNat≤sizeLine:=Nat.le_trans ll (by decide)
  unfold Builtin.Str.tooLong
  exact decide_eq_false (by omega)
 ·rw[if_neg (by omega)]
  by_cases e:n=1
  ·subst e
   rw[if_pos (by simp)]
   have ez:zbP z (1:Int).toNat=z:=by
    unfold zbP
    show(⟨#[]++z.cps⟩:Str)=z
    rw[Array.empty_append]
   rw[ez]at q
   exact⟨.str z,H,I,⟨_,rfl⟩,q⟩
  ·rw[if_neg (by simp [e,h4])]
   refine⟨?_,.str _,H,I.tok _,⟨_,rfl⟩,q⟩
   have:=zbf z n.toNat
   unfold zbP at this
   rw[this,Nat.mul_comm]
   exact Nat.le_trans ll (by decide)
end
end L2
namespace L2
open PySem PySem.Spec PyProof.Rows
inductive rRep0:R2 | mk {x y H Q} (z:Str) (n:Int):x=.str z→y=.int n→0≤n→n≤1000→z.length≤1000→z.length≠0→Q (.str (zbP z n.toNat)) H→rRep0 x y H Q
theorem zb4 {X:Cx}:OpR X (binaryOp .Mult) rRep0:=by
 intro pins s σ H x y v u Q I rx ry h
 obtain⟨z,n,rfl,rfl,h1,h2,h3,h4,q⟩:=h
 by_cases n0:n=0
 ·subst n0
  obtain⟨t,rfl⟩:=rx
  obtain⟨t',rfl⟩:=ry
  exact PySem.P.mul_str_none (by omega) (by omega) ⟨.str _,H,I.tok _,⟨_,rfl⟩,q⟩
 ·exact zkG pins s σ H _ _ v u Q I rx ry ⟨z,n,rfl,rfl,by omega,h2,h3,h4,q⟩
end L2
namespace K73
open PySem L2
open F73 (szM ak Fm)
def rowB (l:List Nat):Bool:=!l.contains 120&&!l.contains 10&&decide (l.length≤2000)&&l.all fun c=>decide (c < 1000)
theorem zfv {l:List Nat} (h:rowB l=true):zda l:=by
 unfold rowB at h
 simp only[Bool.and_eq_true,Bool.not_eq_true',decide_eq_true_eq,List.all_eq_true]at h
 obtain⟨⟨⟨h1,h2⟩,h3⟩,h4⟩:=h
 exact⟨by simpa using h1,by simpa using h2,h3,h4⟩
def zb7 (W:List Nat) (z:Str):Prop:=∃ l,cp z=sub W l∧zda l∧frm l=none
def badB (l:List Nat):Bool:=rowB l&&(frm l).isNone
theorem zem {W:List Nat} {z:Str} {l:List Nat} (h:badB l=true) (e:cp z=sub W l):zb7 W z:=by
 unfold badB at h
 rw[Bool.and_eq_true]at h
 exact⟨l,e,zfv h.1,Option.isNone_iff_eq_none.mp h.2⟩
def zcp (d:Nat):Str:=zbP "f(" d++"b"++zbP ")" d
def zib (k d:Nat):Str:=match k with
 | 0=>"c = "++zcp d
 | 1=>zcp d++" = c"
 | _=>"unlike(c, "++zcp d++", d)"
def dT3 (m k d:Nat):Str:=zbP "not " (m - (d+1))++zib k d
def dT0 (m:Nat):Str:=zbP "not " m++"b"
def dT1 (m:Nat):Str:=zbP "(" m++"b"++zbP " and b)" m
def dT2 (m:Nat):Str:="b = "++zbP "f(" (m - 1)++"b"++zbP ")" (m - 1)
def zdB (z:Str):Bool:=badB (cp z)&&!(cp z).contains 64&&decide (z.length≤2000)
theorem zcJ {W:List Nat} {z:Str} (h:zdB z=true):zb7 W z:=by
 unfold zdB at h
 simp only[Bool.and_eq_true,Bool.not_eq_true']at h
 exact zem h.1.1 (zcq W (by simpa using h.1.2)).symm
theorem deep3:∀ m∈[20,29],∀ d < 19,∀ k < 3,zdB (dT3 m k d)=true:=by decide +kernel
theorem deep0:∀ m∈[20,29],zdB (dT0 m)=true∧zdB (dT1 m)=true∧zdB (dT2 m)=true:=by decide +kernel
end K73
namespace K73
open PySem L2
open F73 (szM ak Fm)
section
variable {P:Program} {w:World} {K:PySem.W.Frag} {mg:Str→Option Value} {base:Heap} {W:List Nat} {f:Addr} {fd:FuncData}
inductive zfs (W:List Nat):Sp | mk {vs H Q E9} (c:Int) (m:Nat):vs=[.int c,.int m]→m∈[20,29]→(∀(z:Str) (H':Hp),zb7 W z→z.length≤2000→ao H H'→Q (.str z) H')→zfs W vs H Q E9
theorem zek:zac ["_law_kind","_law_many","_law_deep_here","_law_tree","_law_atom"] ["_law_kind","_law_many"] (ag zdj):=⟨rfl,rfl,rfl,by decide +kernel,rfl,by decide +kernel,by decide +kernel⟩
theorem zcS {z:Str} (h:zdB z=true):z.length≤2000:=by
 unfold zdB at h
 simp only[Bool.and_eq_true,decide_eq_true_eq]at h
 exact h.2
set_option maxHeartbeats 1000000 in
theorem zkM (F:Fun K "_law_deep" "_law_deep" zdj f fd):FnOk P w K mg base CX0 1 f fd ["_law_kind","_law_many"] (zfs W):=by
 refine F.ok zek (fun vs H Q E h=>?_) (fun cdv A outer s0 H vs Q E hr h=>?_)
 ·obtain⟨c,m,rfl,_⟩:=h
  rfl
 obtain⟨c,m,rfl,hm,q⟩:=h
 have m29:20≤m∧m≤29:=by
  simp only[List.mem_cons,List.not_mem_nil,or_false]at hm
  omega
 refine⟨_,(ai (zaz (zak za1 (aj zaE (pv 0) ad) ad (zau _))
   (ai (zat (i:=2) zek.nd rfl (Or.inl rfl) (aj zbA ad (aj zaE (aj zbh (pv 0) ad) ad)))
   (ai (zat (i:=3) zek.nd rfl (Or.inl rfl) (aj zal (aj zal (aj zb4 ah (aj zcr (pv 2) ad)) ah) (aj zb4 ah (aj zcr (pv 2) ad))))
   (ai (zat (i:=4) zek.nd rfl (Or.inl rfl) (zaG zbN (za7 (aa (aj zal ah (pv 3)) (aa (aj zal (pv 3) ah) (aa (aj zal (aj zal ah (pv 3)) ah) ac)))) (aj zaE (aj zbh (pv 0) ad) ad) (fun _ _=>rfl)))
   (ae (zae (aj zal (aj zb4 ah (aj zcr (pv 1) (pv 2))) (pv 4)))))))
   zaf)
  (ai (zaz (zak za1 (aj zaE (pv 0) ad) ad (zau _))
   (ae (zae (aj zal (aj zb4 ah (pv 1)) ah)))
   zaf)
  (ai (zaz (zak za1 (aj zaE (pv 0) ad) ad (zau _))
   (ae (zae (aj zal (aj zal (aj zb4 ah (pv 1)) ah) (aj zb4 ah (pv 1)))))
   zaf)
  (ae (zae (aj zal (aj zal (aj zal ah (aj zb4 ah (aj zcr (pv 1) ad))) ah) (aj zb4 ah (aj zcr (pv 1) ad)))))))),?_⟩
 try dsimp only [Cx.nox,Cx.wish,zaj]
 have l1:(("f(":Str)).length=2:=by decide +kernel
 have l2:(("b":Str)).length=1:=by decide +kernel
 have l3:((")":Str)).length=1:=by decide +kernel
 have l4:(("c = ":Str)).length=4:=by decide +kernel
 have l5:((" = c":Str)).length=4:=by decide +kernel
 have l6:(("unlike(c, ":Str)).length=10:=by decide +kernel
 have l7:((", d)":Str)).length=4:=by decide +kernel
 have l8:(("not ":Str)).length=4:=by decide +kernel
 have l9:(("(":Str)).length=1:=by decide +kernel
 have l10:((" and b)":Str)).length=7:=by decide +kernel
 have l11:(("b = ":Str)).length=4:=by decide +kernel
 have d0:=deep0 m hm
 refine⟨_,rfl,_,_,rfl,rfl,(by show(0:Int) < 4;decide),rfl,_,rfl,zaI (fun cc=>?_) (fun cc=>?_)⟩
 ·have e0:0≤c / 4 % 19:=Int.emod_nonneg _ (by decide)
  have e1:c / 4 % 19 < 19:=Int.emod_lt_of_pos _ (by decide)
  have f0:0≤c / 76 % 3:=Int.emod_nonneg _ (by decide)
  have f1:c / 76 % 3 < 3:=Int.emod_lt_of_pos _ (by decide)
  obtain⟨d,hd⟩:∃ d:Nat,c / 4 % 19=d:=⟨(c / 4 % 19).toNat,by omega⟩
  obtain⟨k,hk⟩:∃ k:Nat,c / 76 % 3=k:=⟨(c / 76 % 3).toNat,by omega⟩
  have t3:=deep3 m hm d (by omega) k (by omega)
  refine⟨_,rfl,_,_,rfl,rfl,⟨by decide,by decide⟩,_,_,rfl,rfl,(by show(0:Int) < 19;decide),_,_,rfl,rfl,?_⟩
  rw[hd]
  have ed:(1+(d:Int)) - 1=(d:Nat):=by omega
  have er:((d:Int)).toNat=d:=by omega
  refine⟨_,rfl,_,_,rfl,rfl,_,_,rfl,rfl,(by show 0≤(1+(d:Int)) - 1;omega),(by show(1+(d:Int)) - 1≤1000;omega),by rw[l1];decide,by rw[l1];decide,?_⟩
  rw[ed,er]
  refine⟨_,_,rfl,rfl,szM (by simp only[ak,zbf,l1,l2];omega),_,rfl,_,_,rfl,rfl,_,_,rfl,rfl,(by show 0≤(1+(d:Int)) - 1;omega),(by show(1+(d:Int)) - 1≤1000;omega),by rw[l3];decide,by rw[l3];decide,?_⟩
  rw[ed,er]
  refine⟨_,_,rfl,rfl,szM (by simp only[ak,zbf,l1,l2,l3];omega),?_⟩
  have lt:(zcp d).length≤100:=by unfold zcp;simp only[ak,zbf,l1,l2,l3];omega
  show zes _ _ _ [some (.int c),some (.int (m:Nat)),some (.int (1+(d:Int))),some (.str (zcp d)),none] H
  generalize hdt:zcp d=dt at lt
  refine⟨_,rfl,_,_,rfl,rfl,szM (by omega),_,rfl,_,_,rfl,rfl,szM (by omega),_,rfl,_,_,rfl,rfl,szM (by omega),_,_,rfl,rfl,szM (by simp only[ak];omega),lS3,fun p hp=>?_⟩
  have s1:=zad hp (.lst [V.str ("c = "++dt),V.str (dt++" = c"),V.str ("unlike(c, "++dt++", d)")])
  have n1:=zaa (H:=H) (a:=p) (o:=.lst [V.str ("c = "++dt),V.str (dt++" = c"),V.str ("unlike(c, "++dt++", d)")])
  generalize upd H p (.lst [V.str ("c = "++dt),V.str (dt++" = c"),V.str ("unlike(c, "++dt++", d)")])=H1 at s1 n1
  have hat:atI [V.str ("c = "++dt),V.str (dt++" = c"),V.str ("unlike(c, "++dt++", d)")] ((k:Nat):Int)=some (.str (zib k d)):=by
   have k3:k=0∨k=1∨k=2:=by omega
   rw[←hdt]
   rcases k3 with rfl | rfl | rfl
   ·exact zaM (j:=0) rfl
   ·exact zaM (j:=1) rfl
   ·exact zaM (j:=2) rfl
  have la:(zib k d).length≤200:=by
   have k3:k=0∨k=1∨k=2:=by omega
   rcases k3 with rfl | rfl | rfl
   ·show("c = "++zcp d).length≤200
    rw[hdt,ak];omega
   ·show(zcp d++" = c").length≤200
    rw[hdt,ak];omega
   ·show("unlike(c, "++zcp d++", d)").length≤200
    rw[hdt,ak,ak];omega
  refine⟨_,rfl,_,_,rfl,rfl,⟨by decide,by decide⟩,_,_,rfl,rfl,(by show(0:Int) < 3;decide),p,_,_,_,rfl,rfl,SqL.of n1,by rw[hk];exact hat,?_⟩
  have em:((m:Nat):Int) - (1+(d:Int))=((m - (d+1):Nat):Int):=by omega
  have em2:(((m - (d+1):Nat):Int)).toNat=m - (d+1):=by omega
  refine⟨_,rfl,_,rfl,_,_,rfl,rfl,_,_,rfl,rfl,(by show 0≤((m:Nat):Int) - (1+(d:Int));omega),(by show((m:Nat):Int) - (1+(d:Int))≤1000;omega),by rw[l8];decide,by rw[l8];decide,?_⟩
  rw[em,em2]
  exact⟨_,rfl,_,_,rfl,rfl,szM (by rw[zbf,l8];omega),q (dT3 m k d) H1 (zcJ t3) (zcS t3) s1⟩
 have mi:(((m:Nat):Int)).toNat=m:=by omega
 refine⟨_,rfl,_,_,rfl,rfl,(by show(0:Int) < 4;decide),rfl,_,rfl,zaI (fun cc=>?_) (fun cc=>?_)⟩
 ·refine⟨_,rfl,_,_,rfl,rfl,(by omega),(by omega),by rw[l8];decide,by rw[l8];decide,?_⟩
  rw[mi]
  exact⟨_,_,rfl,rfl,szM (by rw[zbf,l8,l2];omega),q (dT0 m) H (zcJ d0.1) (zcS d0.1) (ao.refl H)⟩
 refine⟨_,rfl,_,_,rfl,rfl,(by show(0:Int) < 4;decide),rfl,_,rfl,zaI (fun cc=>?_) (fun cc=>?_)⟩
 ·refine⟨_,rfl,_,_,rfl,rfl,(by omega),(by omega),by rw[l9];decide,by rw[l9];decide,?_⟩
  rw[mi]
  refine⟨_,_,rfl,rfl,szM (by rw[zbf,l9,l2];omega),_,rfl,_,_,rfl,rfl,(by omega),(by omega),by rw[l10];decide,by rw[l10];decide,?_⟩
  rw[mi]
  exact⟨_,_,rfl,rfl,szM (by simp only[ak,zbf,l9,l2,l10];omega),q (dT1 m) H (zcJ d0.2.1) (zcS d0.2.1) (ao.refl H)⟩
 have em:((m:Nat):Int) - 1=((m - 1:Nat):Int):=by omega
 have em2:(((m - 1:Nat):Int)).toNat=m - 1:=by omega
 refine⟨_,rfl,_,_,rfl,rfl,_,_,rfl,rfl,(by show 0≤((m:Nat):Int) - 1;omega),(by show((m:Nat):Int) - 1≤1000;omega),by rw[l1];decide,by rw[l1];decide,?_⟩
 rw[em,em2]
 refine⟨_,_,rfl,rfl,szM (by rw[zbf,l1,l11];omega),_,_,rfl,rfl,szM (by simp only[ak,zbf,l1,l11,l2];omega),_,rfl,_,_,rfl,rfl,_,_,rfl,rfl,(by show 0≤((m:Nat):Int) - 1;omega),(by show((m:Nat):Int) - 1≤1000;omega),by rw[l3];decide,by rw[l3];decide,?_⟩
 rw[em,em2]
 exact⟨_,_,rfl,rfl,szM (by simp only[ak,zbf,l1,l11,l2,l3];omega),q (dT2 m) H (zcJ d0.2.2) (zcS d0.2.2) (ao.refl H)⟩
end
end K73
namespace K73
open PySem L2
open F73 (szM ak Fm Tr)
theorem at64:("@":Str)=⟨#[64]⟩:=by decide +kernel
theorem zg1 (z:Str):∀ {ps:List Str},(∀ p∈ps,64∉cp p)→ps≠[]→cp (Str.join z ps)=sub (cp z) (cp (Str.join ⟨#[64]⟩ ps))
 | [],_,h=>absurd rfl h
 | [p],h,_=>(zcq _ (h p (by simp))).symm
 | p :: q :: r,h,_=>by
  have ih:=zg1 z (ps:=q :: r) (fun x hx=>h x (List.mem_cons_of_mem _ hx)) (by simp)
  have e1:cp (Str.join z (p :: q :: r))=cp p++(cp z++cp (Str.join z (q :: r))):=by
   show cp (p++z++Str.join z (q :: r))=_
   rw[zaW,zaW,List.append_assoc]
  have e2:cp (Str.join ⟨#[64]⟩ (p :: q :: r))=cp p++64 :: cp (Str.join ⟨#[64]⟩ (q :: r)):=zcN 64 p q r
  rw[e1,e2,zcF,zcq _ (h p (by simp)),ih]
  simp only[sub,if_true]
theorem zel (x z:Str):cp (Txt.replace x "@" z)=sub (cp z) (cp x):=by
 rw[at64,StrLaws.replace_one,zg1 z (StrLaws.split_free x 64) (zgL _ _),StrLaws.join_split]
def gn (n:Str):Bool:=(cp n == [64])||(!(cp n).contains 64&&zbx n)
def xn (n:Str):Bool:=!(cp n).contains 64&&!zbx n
mutual
def gT:Tr→Bool
 | .node n ts=>gn n&&gTs ts
def gTs:List Tr→Bool
 | []=>true
 | t :: ts=>gT t&&gTs ts
end
mutual
def xT:Tr→Bool
 | .node n ts=>xn n||xTs ts
def xTs:List Tr→Bool
 | []=>false
 | t :: ts=>xT t||xTs ts
end
def gF:Fm→Bool
 | .plain z=>gn z
 | .bare _=>true
 | .same a b=>gT a&&gT b
 | .unlike ts=>gTs ts
 | .not f=>gF f
 | .bin _ f g=>gF f&&gF g
def xF:Fm→Bool
 | .plain z=>xn z
 | .bare _=>false
 | .same a b=>xT a||xT b
 | .unlike ts=>xTs ts
 | .not f=>xF f
 | .bin _ f g=>xF f||xF g
theorem kept_x:∀ v∈zdE,∀ z:Str,v=.str z→120∉cp z:=by
 intro v hv z e
 subst e
 have:∀ z∈(["or","and","not","never","always","then","as","unlike"]:List Str),120∉cp z:=by decide +kernel
 refine this z ?_
 have hk:zdE=(["or","and","not","never","always","then","as","unlike"]:List Str).map V.str:=rfl
 rw[hk]at hv
 obtain⟨y,hy,e⟩:=List.mem_map.mp hv
 cases e
 exact hy
theorem zjf {W:List Nat} (g:GW W):zbx (nmS W)=true:=by
 obtain⟨t,ht⟩:=g.hd
 have hl:(nmS W).length=W.length:=by rw[←zaw,zaK]
 have l1:1≤W.length:=by rw[ht];simp
 have l7:=g.ln
 unfold zbx zeR
 rw[decide_eq_true (by omega:(0:Int) < ((nmS W).length:Int)),decide_eq_true (by omega:((nmS W).length:Int)≤8),Bool.true_and,Bool.true_and,Bool.and_eq_true]
 refine⟨?_,?_⟩
 ·unfold zcO
  rw[List.all_map,List.all_eq_true]
  intro c hc
  have hc':c∈W:=by
   have:c∈cp (nmS W):=hc
   rw[zaK]at this
   exact this
  exact zhW c (g.ab c hc')
 ·rw[Bool.not_eq_true',Bool.eq_false_iff]
  intro h
  have hk:zdE=(["or","and","not","never","always","then","as","unlike"]:List Str).map V.str:=rfl
  rw[hk,F73.inV_strs]at h
  have:=kept_x (.str (nmS W)) (by rw[hk];exact List.mem_map.mpr ⟨_,h,rfl⟩) _ rfl
  rw[zaK,ht]at this
  exact this (by simp)
theorem gn_ok {W:List Nat} (g:GW W) {n:Str} (h:gn n=true):zbx (sN W n)=true:=by
 unfold gn at h
 rw[Bool.or_eq_true]at h
 rcases h with h | h
 ·have e:cp n=[64]:=eq_of_beq h
  unfold sN
  rw[e]
  have:sub W [64]=W:=by simp [sub]
  rw[this]
  exact zjf g
 ·simp only[Bool.and_eq_true,Bool.not_eq_true']at h
  rw[zdm n (by simpa using h.1)]
  exact h.2
theorem xn_ok {W:List Nat} {n:Str} (h:xn n=true):zbx (sN W n)=false:=by
 unfold xn at h
 simp only[Bool.and_eq_true,Bool.not_eq_true']at h
 rw[zdm n (by simpa using h.1)]
 exact h.2
mutual
theorem zh9 {W:List Nat} (g:GW W):∀ {t:Tr},gT t=true→bT (sT W t)=true
 | .node n ts,h=>by
  simp only[gT,Bool.and_eq_true]at h
  simp only[sT,bT,gn_ok g h.1,zgz g h.2,Bool.and_self]
theorem zgz {W:List Nat} (g:GW W):∀ {ts:List Tr},gTs ts=true→bTs (sTs W ts)=true
 | [],_=>rfl
 | t :: ts,h=>by
  simp only[gTs,Bool.and_eq_true]at h
  simp only[sTs,bTs,zh9 g h.1,zgz g h.2,Bool.and_self]
end
theorem zf9 {W:List Nat} (g:GW W):∀ {f:Fm},gF f=true→bF (sF W f)=true
 | .plain z,h=>gn_ok g h
 | .bare _,_=>rfl
 | .same a b,h=>by
  simp only[gF,Bool.and_eq_true]at h
  simp only[sF,bF,zh9 g h.1,zh9 g h.2,Bool.and_self]
 | .unlike ts,h=>zgz g h
 | .not f,h=>zf9 g (f:=f) h
 | .bin k f f',h=>by
  simp only[gF,Bool.and_eq_true]at h
  simp only[sF,bF,zf9 g h.1,zf9 g h.2,Bool.and_self]
mutual
theorem zhZ {W:List Nat}:∀ {t:Tr},xT t=true→bT (sT W t)=false
 | .node n ts,h=>by
  simp only[xT,Bool.or_eq_true]at h
  simp only[sT,bT]
  rcases h with h | h
  ·rw[xn_ok h,Bool.false_and]
  ·rw[zgb h,Bool.and_false]
theorem zgb {W:List Nat}:∀ {ts:List Tr},xTs ts=true→bTs (sTs W ts)=false
 | [],h=>by cases h
 | t :: ts,h=>by
  simp only[xTs,Bool.or_eq_true]at h
  simp only[sTs,bTs]
  rcases h with h | h
  ·rw[zhZ h,Bool.false_and]
  ·rw[zgb h,Bool.and_false]
end
theorem zf1 {W:List Nat}:∀ {f:Fm},xF f=true→bF (sF W f)=false
 | .plain z,h=>xn_ok h
 | .bare _,h=>by cases h
 | .same a b,h=>by
  simp only[xF,Bool.or_eq_true]at h
  simp only[sF,bF]
  rcases h with h | h
  ·rw[zhZ h,Bool.false_and]
  ·rw[zhZ h,Bool.and_false]
 | .unlike ts,h=>zgb h
 | .not f,h=>zf1 (f:=f) h
 | .bin k f f',h=>by
  simp only[xF,Bool.or_eq_true]at h
  simp only[sF,bF]
  rcases h with h | h
  ·rw[zf1 h,Bool.false_and]
  ·rw[zf1 h,Bool.and_false]
def zdF (W:List Nat) (z:Str):Prop:=∃ l g,cp z=sub W l∧zda l∧frm l=some g∧bF (sF W g)=true
def ze1 (W:List Nat) (z:Str):Prop:=∃ l g,cp z=sub W l∧zda l∧frm l=some g∧bF (sF W g)=false
def frmB (p:Fm→Bool) (l:List Nat):Bool:=match frm l with
 | none=>false
 | some g=>p g
theorem zhL {p:Fm→Bool} {l:List Nat} (h:frmB p l=true):∃ g,frm l=some g∧p g=true:=by
 unfold frmB at h
 cases e:frm l with
 | none=>rw[e]at h;cases h
 | some g=>rw[e]at h;exact⟨g,rfl,h⟩
def zec:List Str:=["@","not @","(@ or b)","(not @ as never)","unlike(@, f(@), c)","f(@, b, c) = g(@)","always"]
def zfc:List Str:=["or","ninelettr","(@ and or)","f(not) = @","unlike = @","f(@, as) = b","always = @"]
def zgx:List Str:=["(then then then)","unlike(@, g(and))","not never = never"]
def nameT:List Str:=zfc++zgx
def zcQ:List Str:=[""," ","@ "," @","(@ and @","@ and @","(@ and @))","(@  and @)","(@ and  @)","(@ nand @)"]
def zdp:List Str:=["(@and @)","(@ and @ and @)","()","(@)","not","not  @","not (@)","f(@)","f() = @"]
def zdY:List Str:=["@ = ","= @","@=@","@ = @ = @","f(@,@) = @","f(@, @ = @","f(@, @, @, @) = @"]
def zfd:List Str:=["unlike(@)","unlike()","unlike(@, @)","unlike(b, f(@), f(@))","unlike(a, b, c, d, e, f)"]
def zgA:List Str:=["unlike(@, not b)","unlike @, b","(@ or never","@_","@B","[@]","(@\tor @)"]
def zga:List Str:=zcQ++zdp++zdY++zfd++zgA
theorem zk0:∀ t∈zec,rowB (cp t)=true∧frmB gF (cp t)=true∧t.length≤100:=by decide +kernel
theorem zkQ:∀ t∈nameT,rowB (cp t)=true∧frmB xF (cp t)=true∧t.length≤100:=by decide +kernel
theorem zhM:∀ t∈zga,t≠"not"→badB (cp t)=true∧t.length≤100∧(cp t≠[]→badB (cp ("(always then "++t++")"))=true∧((cp t).take 1≠[61]→badB (cp ("not "++t))=true)):=by decide +kernel
theorem ziW:zdB "(not)"=true:=by decide +kernel
end K73
namespace K73
open PySem L2
open F73 (szM ak Fm Tr)
def zgf:List Expr→Option (List Str)
 | []=>some []
 | .Constant (.str z) _ _ :: es=>(zgf es).bind fun zs=>some (z :: zs)
 | _ :: _=>none
def zf2 (zs:List Str):TA:=fun _ H Q=>Q (zs.map V.str) H
theorem zbM {X:Cx}:∀ {es:List Expr} {zs:List Str},zgf es=some zs→PA X es (zf2 zs)
 | [],zs,h=>by
  cases h
  exact ac
 | e :: es,zs,h=>by
  cases e with
  | Constant c j p =>
   cases c with
   | str z =>
    rw[zgf]at h
    obtain⟨ys,h1,h⟩:=Option.bind_eq_some_iff.mp h
    cases h
    exact aa ah (zbM h1)
   | _=>cases h
  | _=>cases h
theorem zgE {zs:List Str} {n:Nat} {c:Int} (h:zs.length=n) (hn:0 < n):∃ t∈zs,atI (zs.map V.str) (c % (n:Int))=some (.str t):=by
 have h0:0≤c % (n:Int):=Int.emod_nonneg _ (by omega)
 have h1:c % (n:Int) < n:=Int.emod_lt_of_pos _ (by omega)
 obtain⟨m,hm⟩:∃ m:Nat,c % (n:Int)=m:=⟨(c % (n:Int)).toNat,by omega⟩
 have hl:m < zs.length:=by omega
 refine⟨zs[m],List.getElem_mem _,?_⟩
 rw[hm]
 refine zaM ?_
 rw[List.getElem?_map,List.getElem?_eq_getElem hl]
 rfl
theorem zic {W:List Nat} (g:GW W) {z:Str} (h:cp z=W):(("@":Str) == z)=false:=by
 rw[beq_eq_false_iff_ne]
 intro e
 obtain⟨t,ht⟩:=g.hd
 rw[←e,ht]at h
 have:cp "@"=[64]:=by decide +kernel
 rw[this]at h
 cases h
theorem zgt {x z:Str} (hx:x.length≤100) (hz:z.length≤7):x.length+(x.length+1) * z.length≤16777216:=by
 have:=Nat.mul_le_mul (show x.length+1≤101 by omega) hz
 omega
theorem zfu {W:List Nat} (g:GW W) {x z:Str} (hx:x.length≤100) (hz:cp z=W):(Txt.replace x "@" z).length≤700:=by
 rw[←zaw,zel,hz]
 have:=zeh g (cp x)
 rw[zaw]at this
 omega
section
variable {P:Program} {w:World} {K:PySem.W.Frag} {mg:Str→Option Value} {base:Heap} {W:List Nat} {f fD:Addr} {fd dD:FuncData}
inductive zdT (W:List Nat) (R:Str→Prop):Sp | mk {vs H Q E9} (c:Int) (y:Str):vs=[.int c,.str y]→cp y=W→(∀(z:Str) (H':Hp),R z→z.length≤5000→ao H H'→Q (.str z) H')→zdT W R vs H Q E9
theorem zkz:zac ["_law_cell","_law_word_here","_law_good_here"] ["_law_cell","_law_word_here"] (ag zdi):=⟨rfl,rfl,rfl,by decide +kernel,rfl,by decide +kernel,by decide +kernel⟩
theorem zkP:(["_law_cell","%","_law_good_here"]:List Str).Nodup:=by decide +kernel
set_option maxHeartbeats 2000000 in
theorem zkL (g:GW W) (F:Fun K "_law_good" "_law_good" zdi f fd):FnT P w K mg base CX0 1 f fd ["_law_cell","_law_word_here"] 1 (zdT W (zdF W)):=by
 refine F.okT (j:=1) (y:="_law_word_here") zkz rfl (by decide +kernel) (by decide +kernel) (fun vs H Q E h=>?_) (fun cdv A outer s0 H vs Q E z tk hr h hz t0 tl=>?_)
 ·obtain⟨c,y,rfl,_⟩:=h
  rfl
 obtain⟨c,y,rfl,hy,q⟩:=h
 obtain rfl:y=z:=by
  have hz':some (V.str y)=some (V.str z):=hz
  cases hz'
  rfl
 have yl:y.length≤7:=by rw[←zaw,hy];exact g.ln
 refine⟨_,(zan (PS.k (zat (i:=2) zkP rfl (Or.inl rfl) (za7 (zbM (zs:=zec) (by kernel_rfl)))))
  (zdI (zho (zdk (zaG zbN (pv 2) (aj zaE (pv 0) ad) (fun _ _=>rfl)) (.head _) t0 tl (zic g hy) (hd:=by decide +kernel) (hcd:=by decide +kernel))))),?_⟩
 refine⟨(by show 7≤sizeLine;decide),fun p hp=>?_⟩
 have s1:=zad hp (.lst (zec.map V.str))
 have n1:=zaa (H:=H) (a:=p) (o:=.lst (zec.map V.str))
 generalize upd H p (.lst (zec.map V.str))=H1 at s1 n1
 obtain⟨t,ht,hat⟩:=zgE (zs:=zec) (n:=7) (c:=c) rfl (by decide)
 obtain⟨r1,r2,r3⟩:=zk0 t ht
 obtain⟨gg,e1,e2⟩:=zhL r2
 refine⟨_,rfl,_,rfl,_,_,rfl,rfl,(by show(0:Int) < 7;decide),p,_,_,_,rfl,rfl,SqL.of n1,hat,t,rfl,zgt r3 yl,?_⟩
 exact q _ H1 ⟨cp t,gg,by rw[zel,hy],zfv r1,e1,zf9 g e2⟩ (Nat.le_trans (zfu g r3 hy) (by decide)) s1
end
end K73
namespace K73
open PySem L2
open F73 (szM ak Fm Tr)
theorem zki {H:Hp} {p q:Addr} {A B:List Str} {Q:VK} (hA:H p=some (.lst (A.map V.str))) (hB:H q=some (.lst (B.map V.str))) (hl:A.length+B.length≤1000) (h:∀ r,H r=none→Q (.ref r) (upd H r (.lst ((A++B).map V.str)))):rCat (.ref p) (.ref q) H Q :=
 ⟨p,q,_,_,rfl,rfl,hA,hB,Nat.le_of_lt (zct (by rw[List.length_map,List.length_map];exact hl)),fun r hr=>by rw[←List.map_append];exact h r hr⟩
theorem zgZ {H:Hp} {σ:St} {A:List Str} {Q:VK} (hl:A.length≤1000) (h:∀ r,H r=none→Q (.ref r) (upd H r (.lst (A.map V.str)))):tLst (zf2 A) σ H Q:=⟨Nat.le_of_lt (zct (by rw[List.length_map];exact hl)),h⟩
theorem zcv {H:Hp} {σ:St} {i:Nat} {p:Addr} {A B:List Str} {Q:VK} (hi:σ[i]?=some (some (.ref p))) (hA:H p=some (.lst (A.map V.str))) (hl:A.length+B.length≤1000) (h:∀ r H',ao H H'→H' r=some (.lst ((A++B).map V.str))→Q (.ref r) H'):tOp rCat (zb5 i) (tLst (zf2 B)) σ H Q :=
 ⟨.ref p,hi,zgZ (by omega) fun b hb=>zki (zad hb _ _ _ hA) zaa hl fun r hr=>h r _ ((zad hb _).trans (zad hr _)) zaa⟩
theorem zgT {H:Hp} {σ:St} {A:List Str} {Q:VK} (hl:A.length≤1000) (h:∀ r H',ao H H'→H' r=some (.lst (A.map V.str))→Q (.ref r) H'):tLst (zf2 A) σ H Q:=zgZ hl fun r hr=>h r _ (zad hr _) zaa
section
variable {P:Program} {w:World} {K:PySem.W.Frag} {mg:Str→Option Value} {base:Heap} {W:List Nat} {f fD:Addr} {fd dD:FuncData}
theorem zky:zac ["_law_cell","_law_word_here","_law_names"] ["_law_cell","_law_word_here"] (ag zdh):=⟨rfl,rfl,rfl,by decide +kernel,rfl,by decide +kernel,by decide +kernel⟩
theorem zhA:(["_law_cell","%","_law_names"]:List Str).Nodup:=by decide +kernel
set_option maxHeartbeats 4000000 in
theorem zkK (g:GW W) (F:Fun K "_law_name" "_law_name" zdh f fd):FnT P w K mg base CX0 1 f fd ["_law_cell","_law_word_here"] 1 (zdT W (ze1 W)):=by
 refine F.okT (j:=1) (y:="_law_word_here") zky rfl (by decide +kernel) (by decide +kernel) (fun vs H Q E h=>?_) (fun cdv A outer s0 H vs Q E z tk hr h hz t0 tl=>?_)
 ·obtain⟨c,y,rfl,_⟩:=h
  rfl
 obtain⟨c,y,rfl,hy,q⟩:=h
 obtain rfl:y=z:=by
  have hz':some (V.str y)=some (V.str z):=hz
  cases hz'
  rfl
 have yl:y.length≤7:=by rw[←zaw,hy];exact g.ln
 refine⟨_,(zan (PS.k (zat (i:=2) zhA rfl (Or.inl rfl) (za7 (zbM (zs:=zfc) (by kernel_rfl)))))
  (zan (PS.k (zat (i:=2) zhA rfl (Or.inl rfl) (aj zdX (pv 2) (za7 (zbM (zs:=zgx) (by kernel_rfl))))))
  (zdI (zho (zdk (zaG zbN (pv 2) (aj zaE (pv 0) ad) (fun _ _=>rfl)) (.head _) t0 tl (zic g hy) (hd:=by decide +kernel) (hcd:=by decide +kernel)))))),?_⟩
 dsimp only [zes,zdO,zbi]
 refine zgT (A:=zfc) (by decide) fun p H1 s1 n1=>?_
 refine zcv (i:=2) (A:=zfc) (B:=zgx) rfl n1 (by decide) fun p2 H2 s2 n2=>?_
 obtain⟨t,ht,hat⟩:=zgE (zs:=nameT) (n:=10) (c:=c) rfl (by decide)
 obtain⟨r1,r2,r3⟩:=zkQ t ht
 obtain⟨gg,e1,e2⟩:=zhL r2
 refine⟨_,rfl,_,rfl,_,_,rfl,rfl,(by show(0:Int) < 10;decide),p2,_,_,_,rfl,rfl,SqL.of n2,hat,t,rfl,zgt r3 yl,?_⟩
 exact q _ H2 ⟨cp t,gg,by rw[zel,hy],zfv r1,e1,zf1 e2⟩ (Nat.le_trans (zfu g r3 hy) (by decide)) (s1.trans s2)
theorem zjN:zac ["_law_cell","_law_word_here","_law_forms","_law_found"] ["_law_cell","_law_word_here"] (ag zbq):=⟨rfl,rfl,rfl,by decide +kernel,rfl,by decide +kernel,by decide +kernel⟩
theorem zcI:(["_law_cell","%","_law_forms","_law_found"]:List Str).Nodup:=by decide +kernel
structure Fnd (W:List Nat) (z:Str):Prop where
 ln:z.length≤700
 self:zb7 W z
 par:z≠""→zb7 W ("(always then "++z++")")
 neg:z≠""→Txt.slice z none (some 1)≠"="→zb7 W ("not "++z)
theorem fnd_of {W:List Nat} (g:GW W) {t z:Str} (ht:t∈zga) (hn:t≠"not") (hz:cp z=sub W (cp t)) (hl:z.length≤700):Fnd W z:=by
 obtain⟨b1,_,b3⟩:=zhM t ht hn
 have n0:z≠""→cp t≠[]:=fun h e=>h (zcs (by rw[hz,e];show []=cp "";decide +kernel))
 have c1:cp "(always then "=sub W (cp "(always then "):=(zcq W (by decide +kernel)).symm
 have c2:cp ")"=sub W (cp ")"):=(zcq W (by decide +kernel)).symm
 have c3:cp "not "=sub W (cp "not "):=(zcq W (by decide +kernel)).symm
 refine⟨hl,zem b1 hz,fun h=>zem (b3 (n0 h)).1 ?_,fun h h2=>zem ((b3 (n0 h)).2 ?_) ?_⟩
 ·rw[zaW,zaW,zaW,zaW,zcF,zcF,←c1,←c2,hz]
 ·intro e
  refine h2 ?_
  have hne:=n0 h
  have z1:1≤z.length:=by
   rcases Nat.eq_zero_or_pos z.length with e0 | e0
   ·have ez:cp z=[]:=List.length_eq_zero_iff.mp (by rw[zaw];exact e0)
    exact absurd (zcs (by rw[ez];decide +kernel)) h
   ·exact e0
  have es:=eq_of_beq (PyProof.Rows.slice_closes_toL (x:=z) (j:=1) (by decide) (by omega))
  rw[es]
  refine zcs ?_
  show((z.cps.toList.drop (0:Int).toNat).take ((1:Int) - 0).toNat).toArray.toList=cp "="
  rw[List.toList_toArray,show(0:Int).toNat=0 from rfl,List.drop_zero,show((1:Int) - 0).toNat=1 from rfl]
  show(cp z).take 1=cp "="
  rw[hz,show cp "="=[61] by decide +kernel]
  cases ct:cp t with
  | nil=>rw[ct]at hne;exact absurd rfl hne
  | cons a r =>
   rw[ct]at e
   have ea:a=61:=by simpa using e
   subst ea
   simp [sub]
 ·rw[zaW,zaW,zcF,←c3,hz]
set_option maxHeartbeats 8000000 in
theorem zj0 (g:GW W) (F:Fun K "_law_form" "_law_form" zbq f fd) (BD:FB P w K mg base CX0 1 "_law_deep" fD dD ["_law_kind","_law_many"] (zfs W)):FnT P w K mg base CX0 2 f fd ["_law_cell","_law_word_here"] 1 (zdT W (zb7 W)):=by
 refine F.okT (j:=1) (y:="_law_word_here") zjN rfl (by decide +kernel) (by decide +kernel) (fun vs H Q E h=>?_) (fun cdv A outer s0 H vs Q E z tk hr h hz t0 tl=>?_)
 ·obtain⟨c,y,rfl,_⟩:=h
  rfl
 obtain⟨c,y,rfl,hy,q⟩:=h
 obtain rfl:y=z:=by
  have hz':some (V.str y)=some (V.str z):=hz
  cases hz'
  rfl
 have yl:y.length≤7:=by rw[←zaw,hy];exact g.ln
 have l1:(("not ":Str)).length=4:=by decide +kernel
 have l2:(("(always then ":Str)).length=13:=by decide +kernel
 have l3:((")":Str)).length=1:=by decide +kernel
 generalize hX:(zaj CX0 P w K mg base ["_law_cell","_law_word_here","_law_forms","_law_found"] "_law_form" (ag zbq) f cdv A outer s0 H E).nox.put 1 "_law_word_here" (.str y tk)=X
 have t9:∃ t,PSs X ((zaC zbq).drop 9) t∧∀(z:Str) (p:Addr) (H1:Hp) (D:zaU),D.rt=Q→Fnd W z→ao H H1→t D [some (.int c),none,some (.ref p),some (.str z)] H1:=by
  subst hX
  refine⟨_,(ai (zaz (PW.pt (ze9 (zak zh7 (pv 3) ah (zau _)) (zfx (zak za1 (aj zaE (aj zbh (pv 0) ad) ad) ad (zau _)))))
    (ae (zae (aj zal (aj zal ah (pv 3)) ah)))
    zaf)
   (ae (zae (pv 3)))),?_⟩
  try dsimp only [Cx.nox,Cx.wish,zaj]
  intro z p H1 D eD fz s1
  have zl:=fz.ln
  have fin:tRet (zb5 3) D [some (.int c),none,some (.ref p),some (.str z)] H1:=⟨_,rfl,by rw[eD];exact q z H1 fz.self (by omega) s1⟩
  refine⟨_,rfl,rfl,_,rfl,zaI (fun c1=>?_) (fun _=>za8 fin)⟩
  have ne:z≠"":=fun e=>by
   rw[e]at c1
   exact absurd c1 (by decide +kernel)
  refine⟨_,rfl,_,_,rfl,rfl,⟨by decide,by decide⟩,_,_,rfl,rfl,(by show(0:Int) < 3;decide),rfl,_,rfl,zaI (fun _=>?_) (fun _=>fin)⟩
  exact⟨_,rfl,_,_,rfl,rfl,szM (by rw[l2];omega),_,_,rfl,rfl,szM (by simp only[ak,l2,l3];omega),by rw[eD];exact q _ H1 (fz.par ne) (by simp only[ak,l2,l3];omega) s1⟩
 obtain⟨r9,p9,q9⟩:=t9
 have t8:∃ t,PSs X ((zaC zbq).drop 8) t∧∀(z:Str) (p:Addr) (H1:Hp) (D:zaU),D.rt=Q→Fnd W z→ao H H1→t D [some (.int c),none,some (.ref p),some (.str z)] H1:=by
  subst hX
  refine⟨_,(ai (zaz (PW.pt (ze9 (zak zh7 (pv 3) ah (zau _)) (ze9 (zak zh7 (zcj zgl (pv 3) zdw (zcg ad)) ah (zau _)) (zfx (zak za1 (aj zaE (aj zbh (pv 0) ad) ad) ad (zau _))))))
    (ae (zae (aj zal ah (pv 3))))
    zaf) p9),?_⟩
  try dsimp only [Cx.nox,Cx.wish,zaj]
  intro z p H1 D eD fz s1
  have zl:=fz.ln
  have fin:=q9 z p H1 D eD fz s1
  refine⟨_,rfl,rfl,_,rfl,zaI (fun c1=>?_) (fun _=>za8 fin)⟩
  have ne:z≠"":=fun e=>by
   rw[e]at c1
   exact absurd c1 (by decide +kernel)
  refine⟨_,rfl,_,rfl,z,rfl,szM (by omega),rfl,_,rfl,zaI (fun c2=>?_) (fun _=>za8 fin)⟩
  have ne2:Txt.slice z none (some 1)≠"=":=fun e=>by
   rw[e]at c2
   exact absurd c2 (by decide +kernel)
  refine⟨_,rfl,_,_,rfl,rfl,⟨by decide,by decide⟩,_,_,rfl,rfl,(by show(0:Int) < 3;decide),rfl,_,rfl,zaI (fun _=>?_) (fun _=>fin)⟩
  exact⟨_,rfl,_,_,rfl,rfl,szM (by rw[l1];omega),by rw[eD];exact q _ H1 (fz.neg ne ne2) (by simp only[ak,l1];omega) s1⟩
 obtain⟨r8,p8,q8⟩:=t8
 have t5:∃ t,za9 X s0.toks ((zaC zbq).drop 5) t∧∀(p:Addr) (H1:Hp) (D:zaU),D.rt=Q→H1 p=some (.lst (zga.map V.str))→ao H H1→t D [some (.int c),none,some (.ref p),none] H1:=by
  subst hX
  refine⟨_,(zan (PS.k (zaz (zak za1 (aj zaE (pv 0) ad) ad (zau _))
    (ae (zae (zab BD.ok hr rfl BD.m BD.kp BD.b .nil zao (aa (aj zbh (pv 0) ad) (aa (zaG zbN (za7 (aa ad (aa ad ac))) (aj zaE (aj zbh (pv 0) ad) ad) (fun _ _=>rfl)) ac)))))
    zaf))
   (zan (PS.k (zaz (zak za1 (zaG zbN (pv 2) (aj zaE (aj zbh (pv 0) ad) ad) (fun _ _=>rfl)) ah (zau _))
    (ae (zae ah))
    zaf))
   (zan (zhn (i:=3) zcI rfl (Or.inl rfl) (zdk (zaG zbN (pv 2) (aj zaE (aj zbh (pv 0) ad) ad) (fun _ _=>rfl)) (.head _) t0 tl (zic g hy) (hd:=by decide +kernel) (hcd:=by decide +kernel))) (PSs.k p8)))),?_⟩
  intro p H1 D eD n1 s1
  refine⟨_,rfl,_,_,rfl,rfl,(by show(0:Int) < 8;decide),rfl,_,rfl,zaI (fun _=>?_) (fun _=>?_)⟩
  ·have f0:0≤c / 24 % 2:=Int.emod_nonneg _ (by decide)
   have f1:c / 24 % 2 < 2:=Int.emod_lt_of_pos _ (by decide)
   obtain⟨k,hk⟩:∃ k:Nat,c / 24 % 2=k:=⟨(c / 24 % 2).toNat,by omega⟩
   refine⟨_,rfl,_,_,rfl,rfl,⟨by decide,by decide⟩,lS2,fun b hb=>?_⟩
   have s2:=zad hb (.lst [V.int 20,V.int 29])
   have n2:=zaa (H:=H1) (a:=b) (o:=.lst [V.int 20,V.int 29])
   generalize upd H1 b (.lst [V.int 20,V.int 29])=H2 at s2 n2
   obtain⟨m,hm,hat⟩:∃ m:Nat,m∈[20,29]∧atI [V.int 20,V.int 29] ((k:Nat):Int)=some (.int (m:Nat)):=by
    have k2:k=0∨k=1:=by omega
    rcases k2 with rfl | rfl
    ·exact⟨20,by decide,zaM (j:=0) rfl⟩
    ·exact⟨29,by decide,zaM (j:=1) rfl⟩
   exact⟨_,rfl,_,_,rfl,rfl,⟨by decide,by decide⟩,_,_,rfl,rfl,(by show(0:Int) < 2;decide),b,_,_,_,rfl,rfl,SqL.of n2,by rw[hk];exact hat,c / 8,m,rfl,hm,fun z H3 bz zl s3=>by rw[eD];exact q z H3 bz (by omega) ((s1.trans s2).trans s3)⟩
  obtain⟨t,ht,hat⟩:=zgE (zs:=zga) (n:=38) (c:=c / 8) rfl (by decide)
  refine⟨_,rfl,_,rfl,_,_,rfl,rfl,⟨by decide,by decide⟩,_,_,rfl,rfl,(by show(0:Int) < 38;decide),p,_,_,_,rfl,rfl,SqL.of n1,hat,rfl,_,rfl,zaI (fun _=>?_) (fun cn=>?_)⟩
  ·show D.rt (.str "(not)") H1
   rw[eD]
   exact q _ H1 (zcJ ziW) (Nat.le_trans (zcS ziW) (by decide)) s1
  have tn:t≠"not":=fun e=>cn (by rw[e];decide +kernel)
  have t100:=(zhM t ht tn).2.1
  refine⟨_,rfl,_,rfl,_,_,rfl,rfl,⟨by decide,by decide⟩,_,_,rfl,rfl,(by show(0:Int) < 38;decide),p,_,_,_,rfl,rfl,SqL.of n1,hat,t,rfl,zgt t100 yl,?_⟩
  exact q8 _ p H1 _ eD (fnd_of g ht tn (by rw[zel,hy]) (zfu g t100 hy)) s1
 obtain⟨r5,p5,q5⟩:=t5
 subst hX
 refine⟨_,(zan (PS.k (zat (i:=2) zcI rfl (Or.inl rfl) (za7 (zbM (zs:=zcQ) (by kernel_rfl)))))
  (zan (PS.k (zat (i:=2) zcI rfl (Or.inl rfl) (aj zdX (pv 2) (za7 (zbM (zs:=zdp) (by kernel_rfl))))))
  (zan (PS.k (zat (i:=2) zcI rfl (Or.inl rfl) (aj zdX (pv 2) (za7 (zbM (zs:=zdY) (by kernel_rfl))))))
  (zan (PS.k (zat (i:=2) zcI rfl (Or.inl rfl) (aj zdX (pv 2) (za7 (zbM (zs:=zfd) (by kernel_rfl))))))
  (zan (PS.k (zat (i:=2) zcI rfl (Or.inl rfl) (aj zdX (pv 2) (za7 (zbM (zs:=zgA) (by kernel_rfl)))))) p5))))),?_⟩
 dsimp only [zes,zdO,zbi]
 refine zgT (A:=zcQ) (by decide) fun p1 H1 s1 n1=>?_
 refine zcv (i:=2) (A:=zcQ) (B:=zdp) rfl n1 (by decide) fun p2 H2 s2 n2=>?_
 refine zcv (i:=2) (A:=zcQ++zdp) (B:=zdY) rfl n2 (by decide) fun p3 H3 s3 n3=>?_
 refine zcv (i:=2) (A:=zcQ++zdp++zdY) (B:=zfd) rfl n3 (by decide) fun p4 H4 s4 n4=>?_
 refine zcv (i:=2) (A:=zcQ++zdp++zdY++zfd) (B:=zgA) rfl n4 (by decide) fun p5' H5 s5 n5=>?_
 exact q5 p5' H5 _ rfl n5 ((((s1.trans s2).trans s3).trans s4).trans s5)
end
end K73
namespace K73
open PySem L2
open F73 (szM ak Fm Tr)
theorem ixN_in {n:Nat} {k:Int} (h0:0≤k) (h1:k < (n:Int)):∃ j,ixN n k=some j∧j < n:=by
 refine⟨k.toNat,?_,by omega⟩
 unfold ixN
 rw[if_pos h0,if_pos h1]
theorem zg6 (sep:Str):∀(p:Str) (ps:List Str),cp (Builtin.Str.glued sep (p :: ps))=cp p++ps.flatMap (fun q=>cp sep++cp q)
 | p,[]=>by
  rw[zjA]
  simp
 | p,q :: r=>by
  have ih:=zg6 sep q r
  rw[StrLaws.glued_eq_join]at ih ⊢
  show cp (p++sep++Str.join sep (q :: r))=_
  rw[zaW,zaW,ih,List.flatMap_cons]
  simp only[List.append_assoc]
def zc3 (z:Str):Str:=z++"\n"
theorem c10:cp "\n"=[10]:=by decide +kernel
theorem zk5 (zs:List Str):cp (Builtin.Str.glued "" (zs.map zc3))=za5 zs:=by
 cases zs with
 | nil=>rfl
 | cons z zs =>
  rw[List.map_cons,zg6]
  show cp (z++"\n")++_=(cp z++[10])++za5 zs
  rw[zaW,c10]
  congr 1
  induction zs with
  | nil=>rfl
  | cons y ys ih =>
   rw[List.map_cons,List.flatMap_cons,ih,show cp ""=[] by decide +kernel]
   show []++cp (y++"\n")++_=(cp y++[10])++za5 ys
   rw[zaW,c10]
   rfl
theorem zfL:∀ {zs:List Str},(∀ z∈zs,z.length≤5000)→(za5 zs).length≤5001 * zs.length
 | [],_=>Nat.le_refl _
 | z :: zs,h=>by
  have h1:=zfL (zs:=zs) fun y hy=>h y (List.mem_cons_of_mem _ hy)
  have h2:=h z (List.mem_cons_self ..)
  show((cp z++[10])++za5 zs).length≤5001 * (zs.length+1)
  rw[List.length_append,List.length_append,zaw]
  show z.length+1+_≤_
  omega
theorem zfQ:∀ {zs:List Str},(∀ z∈zs,z.length≤5000)→zcy (zs.map zc3)≤5001 * zs.length
 | [],_=>Nat.le_refl _
 | z :: zs,h=>by
  have h1:=zfQ (zs:=zs) fun y hy=>h y (List.mem_cons_of_mem _ hy)
  have h2:=h z (List.mem_cons_self ..)
  have h3:(zc3 z).length=z.length+1:=by
   unfold zc3
   rw[ak]
   rfl
  have e:zcy ((z :: zs).map zc3)=(zc3 z).length+zcy (zs.map zc3):=rfl
  rw[e,h3]
  show _≤5001 * (zs.length+1)
  omega
def DueR (W:List Nat) (b:Bool) (z:Str):Prop:=match b with
 | true=>zb7 W z
 | false=>ze1 W z
structure zid (W:List Nat) (zs:List Str):Prop where
 l4:zs.length≤4
 ln:∀ z∈zs,z.length≤5000
 ok:∀ z∈zs,zdF W z
structure MixZ (W:List Nat) (zs:List Str) (b:Bool):Prop where
 l4:zs.length≤4
 ln:∀ z∈zs,z.length≤5000
 ls:∃ ls:List (List Nat),zs.map cp=ls.map (sub W)∧(∀ l∈ls,zda l)∧match b with
  | true=>∃ l∈ls,frm l=none
  | false=>(∀ l∈ls,frm l≠none)∧∃ l∈ls,∃ g,frm l=some g∧bF (sF W g)=false
theorem goods {W:List Nat}:∀ {zs:List Str},(∀ z∈zs,zdF W z)→∃ ls:List (List Nat),zs.map cp=ls.map (sub W)∧∀ l∈ls,zda l∧frm l≠none
 | [],_=>⟨[],rfl,fun l hl=>nomatch hl⟩
 | z :: zs,h=>by
  obtain⟨l,g,e1,e2,e3,_⟩:=h z (List.mem_cons_self ..)
  obtain⟨ls,e4,e5⟩:=goods (zs:=zs) fun y hy=>h y (List.mem_cons_of_mem _ hy)
  refine⟨l :: ls,by rw[List.map_cons,List.map_cons,e1,e4],fun x hx=>?_⟩
  rcases List.mem_cons.mp hx with rfl | hx
  ·exact⟨e2,by rw[e3];simp⟩
  ·exact e5 x hx
theorem zfC {α:Type} {xs:List α} {j:Nat} {y x:α} (h:x∈xs.set j y):x=y∨x∈xs:=by
 rcases List.mem_or_eq_of_mem_set h with h | h
 ·exact .inr h
 ·exact .inl h
theorem zhB {W:List Nat} {zs:List Str} {j:Nat} {y:Str} {b:Bool} (g:zid W zs) (hj:j < zs.length) (hy:DueR W b y) (yl:y.length≤5000):MixZ W (zs.set j y) b:=by
 refine⟨by rw[List.length_set];exact g.l4,fun z hz=>?_,?_⟩
 ·rcases zfC hz with rfl | hz
  ·exact yl
  ·exact g.ln z hz
 obtain⟨ls,e1,e2⟩:=goods g.ok
 have el:ls.length=zs.length:=by
  have:=congrArg List.length e1
  rw[List.length_map,List.length_map]at this
  exact this.symm
 have key:∀ l:List Nat,cp y=sub W l→zda l→(zs.set j y).map cp=(ls.set j l).map (sub W)∧∀ x∈ls.set j l,zda x:=fun l e r=>by
  refine⟨by rw[List.map_set,List.map_set,e1,e],fun x hx=>?_⟩
  rcases zfC hx with rfl | hx
  ·exact r
  ·exact(e2 x hx).1
 have here:∀ l:List Nat,l∈ls.set j l:=fun l=>by
  refine List.mem_of_getElem? (i:=j) ?_
  rw[List.getElem?_set_self (by rw[el];exact hj)]
 cases b with
 | true =>
  obtain⟨l,e,r,n⟩:=hy
  obtain⟨k1,k2⟩:=key l e r
  exact⟨_,k1,k2,l,here l,n⟩
 | false =>
  obtain⟨l,f,e,r,n,v⟩:=hy
  obtain⟨k1,k2⟩:=key l e r
  refine⟨_,k1,k2,fun x hx=>?_,l,here l,f,n,v⟩
  rcases zfC hx with rfl | hx
  ·rw[n];simp
  ·exact(e2 x hx).2
theorem zd3 {W:List Nat}:∀ {zs:List Str} {ls:List (List Nat)},zs.map cp=ls.map (sub W)→za5 zs=za5 (ls.map (zcx W))
 | [],[],_=>rfl
 | z :: zs,l :: ls,h=>by
  rw[List.map_cons,List.map_cons]at h
  obtain⟨h1,h2⟩:=List.cons.inj h
  show(cp z++[10])++za5 zs=(cp (zcx W l)++[10])++za5 (ls.map (zcx W))
  rw[zd3 h2,h1,zcx,zaK]
theorem zhC {W:List Nat} {zs:List Str} {ls:List (List Nat)} (h:zs.map cp=ls.map (sub W)):ls.length=zs.length:=by
 have:=congrArg List.length h
 rw[List.length_map,List.length_map]at this
 exact this.symm
theorem zkT {W:List Nat} {zs:List Str} {b:Bool} {s:Str} (m:MixZ W zs b) (h:cp s=za5 zs):Bad W s b:=by
 obtain⟨ls,e1,e2,e3⟩:=m.ls
 have R:Rws W s ls:=⟨h.trans (zd3 e1),e2,by rw[zhC e1];have:=m.l4;omega⟩
 cases b with
 | true=>exact .inr ⟨ls,R,e3⟩
 | false=>exact⟨ls,R,e3⟩
theorem zgX {W:List Nat} {zs:List Str} {b:Bool} {s y:Str} (m:MixZ W zs b) (hy:zb7 W y) (h:cp s=za5 zs++(cp y++[10])):Bad W s true:=by
 obtain⟨ls,e1,e2,_⟩:=m.ls
 obtain⟨l,e,r,n⟩:=hy
 refine .inr ⟨ls++[l],⟨?_,fun x hx=>?_,?_⟩,l,by simp,n⟩
 ·have k:(zs++[y]).map cp=(ls++[l]).map (sub W):=by rw[List.map_append,List.map_append,e1];simp [e]
  rw[←zd3 k,h]
  simp [za5,List.flatMap_append]
 ·rcases List.mem_append.mp hx with hx | hx
  ·exact e2 x hx
  ·rw[List.mem_singleton.mp hx];exact r
 ·rw[List.length_append,zhC e1]
  have:=m.l4
  show _+1≤10
  omega
theorem sp_bad (W:List Nat):zb7 W " ":=zcJ (by decide +kernel)
theorem zkn {y:Str} {n:Nat} (hl:y.length=n) (hn:n≤6) (h:∀ d∈y.cps.toList,d∈abc.cps.toList):GW (cp ("x"++y)):=by
 have e:cp ("x"++y)=120 :: cp y:=by rw[zaW];rfl
 refine⟨⟨_,e⟩,fun c hc=>?_,?_⟩
 ·rw[e]at hc
  rcases List.mem_cons.mp hc with rfl | hc
  ·decide +kernel
  ·exact h c hc
 ·rw[e,List.length_cons,zaw]
  omega
end K73
namespace K73
open PySem L2
open F73 (szM ak Fm Tr)
structure FW (P:Program) (w:World) (K:PySem.W.Frag) (mg:Str→Option Value) (base:Heap) (k:Nat) (x:Str) (f:Addr) (fd:FuncData) (R:List Nat→Str→Prop):Prop where
 ok:∀ W,GW W→FnT P w K mg base CX0 k f fd ["_law_cell","_law_word_here"] 1 (zdT W (R W))
 b:aq K fd ["_law_cell","_law_word_here"] []
 kp:PySem.W.keepIn K (.ref f)=true
 m:mg x=some (.ref f)
inductive zeC (K:PySem.W.Frag):Sp | mk {vs H Q E9} (a:Addr) (ns:List Int) (t:Int):vs=[.ref a,.int t]→SqL K H a (ns.map V.int)→ns.length≤63→(∀ H',ao H H'→Q (.bl true) H')→zeC K vs H Q E9
def NA:List Str:=["_law_script","_law_turn","_law_word_here","_law_rows","_law_at","_law_cell","_law_due","_law_text","_law_last"]
section
variable {P:Program} {w:World} {K:PySem.W.Frag} {mg:Str→Option Value} {base:Heap} {f fC fW fG fN fF fS:Addr} {fd dC dW dG dN dF dS:FuncData}
theorem zgP:zac NA ["_law_script","_law_turn"] (ag zas):=⟨rfl,rfl,rfl,by decide +kernel,rfl,by decide +kernel,by decide +kernel⟩
theorem zbo:(["_law_script","_law_turn","%","_law_rows","_law_at","_law_cell","_law_due","_law_text","_law_last"]:List Str).Nodup:=by decide +kernel
def SA (a:Addr) (t:Int) (p at' c d s l:Option V):St:=[some (.ref a),some (.int t),none,p,at',c,d,s,l]
set_option maxHeartbeats 8000000 in
theorem zih (BC:FB P w K mg base CX0 1 "_law_cell_at" fC dC ["_law_script","_law_k"] (zej K)) (BG:FW P w K mg base 1 "_law_good" fG dG zdF) (BN:FW P w K mg base 1 "_law_name" fN dN ze1) (BF:FW P w K mg base 2 "_law_form" fF dF zb7)
  (BS:∀ W,GW W→FB P w K mg base CX0 89 "_law_said" fS dS ["_law_text"] (zdv W)) (len:mg "len"=none) (TR:mg "range"=none)
  {cdv:Value} {A:Around} {outer:List Env} {s0:Shared} {H:Hp} {Q:VK} {E:XK} (hr:zai 89 (A.deeper (PyProof.Rows.envOfC "_law_asked" (ag zas) s0.heap.objs.size f cdv))) {a:Addr} {ns:List Int} {t:Int} (hS:SqL K H a (ns.map V.int)) (h63:ns.length≤63) (q:∀ H',ao H H'→Q (.bl true) H')
  {z:Str} {k:Nat} (k0:k≠0) (g:GW (cp z)):∃ u,za9 ((zaj CX0 P w K mg base NA "_law_asked" (ag zas) f cdv A outer s0 H E).nox.put 2 "_law_word_here" (.str z k)) (k+1) ((zaC zas).drop 1) u∧∀(H1:Hp) (D:zaU),D.rt=Q→ao H H1→u D (SA a t none none none none none none) H1:=by
 have hr1:zai 1 _:=hr.mono (by decide)
 have hr2:zai 2 _:=hr.mono (by decide)
 have kb:k < k+1:=Nat.lt_succ_self k
 have zl:z.length≤7:=by rw[←zaw];exact g.ln
 have BG':=BG.ok _ g
 have BN':=BN.ok _ g
 have BF':=BF.ok _ g
 have BS':=BS _ g
 generalize hW:cp z=W at g BG' BN' BF' BS'
 generalize hX:(zaj CX0 P w K mg base NA "_law_asked" (ag zas) f cdv A outer s0 H E).nox.put 2 "_law_word_here" (.str z k)=X
 have t10:∃ u,PSs X ((zaC zas).drop 10) u∧∀(s:Str) (b:Bool) (p at' c l:Option V) (H1:Hp) (D:zaU),D.rt=Q→s.length≤1000000→Bad W s b→ao H H1→u D (SA a t p at' c (some (.str (if b=true then "form" else "name"))) (some (.str s)) l) H1:=by
  subst hX
  refine⟨_,(ae (zae (zcH za1 (zab BS'.ok hr rfl BS'.m BS'.kp BS'.b .nil zao (aa (pv 7) ac)) (pv 6) (zau _)))),?_⟩
  try dsimp only [Cx.nox,Cx.wish,zaj]
  try dsimp only [Cx.nox,Cx.wish,zaj]
  intro s b p at' c l H1 D eD sl bd s1
  refine⟨_,rfl,s,b,rfl,sl,bd,fun H2 s2=>⟨_,rfl,rfl,?_⟩⟩
  rw[eD,decide_eq_true rfl]
  exact q H2 (s1.trans s2)
 obtain⟨r10,p10,q10⟩:=t10
 have t9:∃ u,za9 X (k+1) ((zaC zas).drop 9) u∧∀(zs:List Str) (s:Str) (b:Bool) (p at' c:Option V) (H1:Hp) (D:zaU),D.rt=Q→MixZ W zs b→cp s=za5 zs→ao H H1→u D (SA a t p at' c (some (.str (if b=true then "form" else "name"))) (some (.str s)) none) H1:=by
  subst hX
  refine⟨_,(zan (ziK (zak za1 (aj zaE (aj zbA (aj zbh (zab BC.ok hr1 rfl BC.m BC.kp BC.b .nil zao (aa (pv 0) (aa ad ac))) ad) (pv 1)) ad) ad (zau _))
    (zan (zhn (i:=8) zbo rfl (Or.inl rfl) (pek_op zal (zc6 BF' hr2 rfl BF.m BF.kp BF.b zao (aj zaE (aj zbA (aj zdW (zab BC.ok hr1 rfl BC.m BC.kp BC.b .nil zao (aa (pv 0) (aa ad ac))) ad) ad) ad) (.head _) k0 kb) ah))
    (zan (PS.k (zat (i:=7) zbo rfl (Or.inl rfl) (aj zal (pv 7) (zaG zbN (za7 (aa (pv 8) (aa ah (aa ah ac)))) (aj zaE (aj zbh (zab BC.ok hr1 rfl BC.m BC.kp BC.b .nil zao (aa (pv 0) (aa ad ac))) ad) ad) (fun _ _=>rfl)))))
    (zdI (PS.k (zat (i:=6) zbo rfl (Or.inl rfl) ah)))))
    (PSs.k zaf)) (PSs.k p10)),?_⟩
  try dsimp only [Cx.nox,Cx.wish,zaj]
  intro zs s b p at' c H1 D eD mz hs s1
  have sl:s.length≤20004:=by
   rw[←zaw,hs]
   have:=zfL mz.ln
   have:=mz.l4
   omega
  refine⟨_,rfl,a,ns,_,rfl,s1.seq hS,h63,by decide,fun i4=>⟨_,_,rfl,rfl,⟨by decide,by decide⟩,_,rfl,_,_,rfl,rfl,_,_,rfl,rfl,(by show(0:Int) < 3;decide),rfl,_,rfl,zaI (fun _=>?_) (fun _=>?_)⟩⟩
  ·refine⟨_,rfl,a,ns,_,rfl,s1.seq hS,h63,by decide,fun i5=>⟨_,_,rfl,rfl,.inr ⟨by decide,by decide⟩,_,_,rfl,rfl,_,_,rfl,rfl,(by show(0:Int) < 2147483647;decide),_,z,rfl,hW,fun y H2 by' yl s2=>?_⟩⟩
   have l1:(("\n":Str)).length=1:=by decide +kernel
   have l2:(("b":Str)).length=1:=by decide +kernel
   have l3:((" \n":Str)).length=2:=by decide +kernel
   refine⟨_,_,rfl,rfl,szM (by rw[l1];omega),_,rfl,_,rfl,lS3,fun b9 hb9=>?_⟩
   have s3:=zad hb9 (.lst [V.str (y++"\n"),V.str "b",V.str " \n"])
   have n3:=zaa (H:=H2) (a:=b9) (o:=.lst [V.str (y++"\n"),V.str "b",V.str " \n"])
   generalize upd H2 b9 (.lst [V.str (y++"\n"),V.str "b",V.str " \n"])=H3 at s3 n3
   have s13:=(s1.trans s2).trans s3
   refine⟨_,rfl,a,ns,_,rfl,s13.seq hS,h63,by decide,fun i6=>?_⟩
   have m0:=Int.emod_nonneg (i6 / 12) (show(3:Int)≠0 by decide)
   have m1:=Int.emod_lt_of_pos (i6 / 12) (show(0:Int) < 3 by decide)
   have alt:∃ y':Str,atI [V.str (y++"\n"),V.str "b",V.str " \n"] (i6 / 12 % 3)=some (.str y')∧y'.length≤5001∧Bad W (s++y') true:=by
    have h3:i6 / 12 % 3=0∨i6 / 12 % 3=1∨i6 / 12 % 3=2:=by omega
    rcases h3 with h3 | h3 | h3
    ·exact⟨_,by rw[h3];exact zaM (j:=0) rfl,by rw[ak,l1];omega,zgX mz by' (by rw[zaW,zaW,hs,c10])⟩
    ·exact⟨_,by rw[h3];exact zaM (j:=1) rfl,by rw[l2];omega,.inl ⟨_,by rw[zaW,show cp "b"=[98] by decide +kernel]⟩⟩
    ·exact⟨_,by rw[h3];exact zaM (j:=2) rfl,by rw[l3];omega,zgX mz (sp_bad W) (by rw[zaW,hs,show cp " \n"=cp " "++[10] by decide +kernel])⟩
   obtain⟨y',hat,y'l,bd⟩:=alt
   refine⟨_,_,rfl,rfl,⟨by decide,by decide⟩,_,_,rfl,rfl,(by show(0:Int) < 3;decide),b9,_,_,_,rfl,rfl,SqL.of n3,hat,s,y',rfl,rfl,szM (by omega),?_⟩
   exact q10 (s++y') true p at' c _ H3 D eD (by rw[ak];omega) bd s13
  ·exact q10 s b p at' c none H1 D eD (by omega) (zkT mz hs) s1
 obtain⟨r9,p9,q9⟩:=t9
 have t8:∃ u,za9 X (k+1) ((zaC zas).drop 8) u∧∀(zs:List Str) (b:Bool) (p:Addr) (at' c:Option V) (H1:Hp) (D:zaU),D.rt=Q→MixZ W zs b→H1 p=some (.lst (zs.map V.str))→ao H H1→u D (SA a t (some (.ref p)) at' c (some (.str (if b=true then "form" else "name"))) none none) H1:=by
  subst hX
  refine⟨_,(zan (PS.k (zat (i:=7) zbo rfl (Or.inl rfl) (zea PySem.F.plainAttrs_str PySem.F.slot_str_join PySem.F.type_str_join zkR ah (aa (zf5 (N':=["_law_row"]) (ix:=[]) rfl rfl (by decide +kernel) (by decide +kernel) rfl (fun _=>⟨[],zcl (by decide +kernel) (by decide +kernel)⟩) (by decide +kernel) rfl rfl (fun j i h=>by simp at h) (zbL (pv 3)) (fun _ _ _ _=>(aj zal (pv 0) ah))) ac)))) p9),?_⟩
  try dsimp only [Cx.nox,Cx.wish,zaj]
  intro zs b p at' c H1 D eD mz hp s1
  refine⟨rfl,_,rfl,p,rfl,⟨_,SqL.of hp⟩,fun J hJ=>?_⟩
  refine zeb zbK (fun i us H'=>ao H1 H'∧us=((zs.take i).map zc3).map V.str) (fun i us H' ⟨s',_⟩=>SqL.of (s' _ _ hp)) ⟨zad hJ _,rfl⟩ ?_ ?_
  ·rintro i us H8 x H4 hi hly hDs ⟨s4,rfl⟩ ⟨rfl,hx⟩
   have hx4:=hx _ (SqL.of (s4 _ _ hp))
   rw[List.getElem?_map]at hx4
   cases er:zs[i]? with
   | none=>rw[er]at hx4;cases hx4
   | some y =>
    rw[er]at hx4
    cases hx4
    have yl:=mz.ln y (List.mem_of_getElem? er)
    have l1:(("\n":Str)).length=1:=by decide +kernel
    have l4:=mz.l4
    refine⟨_,rfl,_,_,rfl,rfl,szM (by rw[l1];omega),zcL (szM (by rw[List.length_map];omega)) hi hly hDs ⟨s4.upd hJ,?_⟩⟩
    rw[zaR er,List.map_append,List.map_append]
    rfl
  ·rintro us H4 hDs ⟨s4,rfl⟩
   rw[List.length_map,List.take_of_length_le (Nat.le_refl _)]at hDs
   have l1:=zfQ mz.ln
   have l4:=mz.l4
   have c0:(("":Str)).length=0:=by decide +kernel
   exact⟨"",J,_,rfl,rfl,SqL.of hDs,szM (by rw[c0];omega),q9 zs _ b _ at' c H4 D eD mz (zk5 zs) (s1.trans s4)⟩
 obtain⟨r8,p8,q8⟩:=t8
 have t7:∃ u,za9 X (k+1) ((zaC zas).drop 7) u∧∀(zs:List Str) (y:Str) (p:Addr) (j:Nat) (i c:Int) (H1:Hp) (D:zaU),D.rt=Q→zid W zs→ixN zs.length i=some j→j < zs.length→zb7 W y→y.length≤5000→H p=none→H1 p=some (.lst ((zs.set j y).map V.str))→ao H H1→u D (SA a t (some (.ref p)) (some (.int i)) (some (.int c)) (some (.str "form")) none none) H1:=by
  subst hX
  refine⟨_,(zan (ziK (zak za1 (aj zaE (aj zbA (zab BC.ok hr1 rfl BC.m BC.kp BC.b .nil zao (aa (pv 0) (aa ad ac))) (pv 1)) ad) ad (zau _))
    (zan (zhp (zc6 BN' hr1 rfl BN.m BN.kp BN.b zao (pv 5) (.head _) k0 kb) (ziN (pv 3) (pv 4) zgN))
    (zdI (PS.k (zat (i:=6) zbo rfl (Or.inl rfl) ah))))
    (PSs.k zaf)) p8),?_⟩
  try dsimp only [Cx.nox,Cx.wish,zaj]
  intro zs y p j i c H1 D eD gz hj jl by' yl np hp s1
  refine⟨_,rfl,a,ns,_,rfl,s1.seq hS,h63,by decide,fun i4=>⟨_,rfl,_,_,rfl,rfl,_,_,rfl,rfl,(by show(0:Int) < 4;decide),rfl,_,rfl,zaI (fun _=>?_) (fun _=>?_)⟩⟩
  ·refine⟨_,rfl,c,z,rfl,hW,fun y2 H2 ny y2l s2=>?_⟩
   have hp2:=s2 _ _ hp
   refine⟨_,rfl,_,rfl,p,_,i,j,rfl,rfl,hp2,by rw[List.length_map,List.length_set];exact hj,?_⟩
   refine q8 (zs.set j y2) false p _ _ _ D eD (zhB gz jl ny y2l) ?_ ((s1.trans s2).upd np)
   rw[zaa,←List.map_set (f:=V.str),List.set_set]
  ·exact q8 (zs.set j y) true p _ _ H1 D eD (zhB gz jl by' yl) hp s1
 obtain⟨r7,p7,q7⟩:=t7
 have t2:∃ u,za9 X (k+1) ((zaC zas).drop 2) u∧∀(zs:List Str) (p:Addr) (H1:Hp) (D:zaU),D.rt=Q→zid W zs→0 < zs.length→H p=none→H1 p=some (.lst (zs.map V.str))→ao H H1→u D (SA a t (some (.ref p)) none none none none none) H1:=by
  subst hX
  refine⟨_,(zan (PS.k (zat (i:=4) zbo rfl (Or.inl rfl) (aj zaE (aj zbA (zab BC.ok hr1 rfl BC.m BC.kp BC.b .nil zao (aa (pv 0) (aa ad ac))) (pv 1)) (zaL zbv rfl len PySem.boot_len (aa (pv 3) ac)))))
   (zan (PS.k (zat (i:=5) zbo rfl (Or.inl rfl) (aj zaE (aj zbA (aj zbA (aj zdW (zab BC.ok hr1 rfl BC.m BC.kp BC.b .nil zao (aa (pv 0) (aa ad ac))) ad) (aj zdW ad (pv 1))) ad) ad)))
   (zan (PS.k (zat (i:=5) zbo rfl (Or.inl rfl) (aj zaE (aj zdW (pv 5) ad) ad)))
   (zan (PS.k (zat (i:=6) zbo rfl (Or.inl rfl) ah))
   (zan (zhp (zc6 BF' hr2 rfl BF.m BF.kp BF.b zao (pv 5) (.head _) k0 kb) (ziN (pv 3) (pv 4) zgN)) p7))))),?_⟩
  try dsimp only [Cx.nox,Cx.wish,zaj]
  intro zs p H1 D eD gz z0 np hp s1
  refine⟨_,rfl,a,ns,_,rfl,s1.seq hS,h63,by decide,fun i2=>⟨_,rfl,_,_,rfl,rfl,_,rfl,p,_,rfl,.inl (SqL.of hp),_,_,rfl,rfl,(by rw[List.length_map];omega),?_⟩⟩
  obtain⟨j,hj,jl⟩:=ixN_in (n:=zs.length) (k:=(i2+t) % ((zs.map V.str).length:Int)) (Int.emod_nonneg _ (by rw[List.length_map];omega)) (by have:=Int.emod_lt_of_pos (i2+t) (b:=((zs.map V.str).length:Int)) (by rw[List.length_map];omega);rw[List.length_map]at this ⊢;exact this)
  refine⟨_,rfl,a,ns,_,rfl,s1.seq hS,h63,by decide,fun i3=>⟨_,_,rfl,rfl,.inr ⟨by decide,by decide⟩,_,rfl,_,_,rfl,rfl,.inl ⟨by decide,by decide⟩,_,_,rfl,rfl,_,_,rfl,rfl,_,_,rfl,rfl,(by show(0:Int) < 2147483647;decide),?_⟩⟩
  refine⟨_,rfl,_,_,rfl,rfl,.inr ⟨by decide,by decide⟩,_,_,rfl,rfl,(by show(0:Int) < 2147483647;decide),?_⟩
  refine⟨_,rfl,_,z,rfl,hW,fun y H2 by' yl s2=>?_⟩
  refine⟨_,rfl,_,rfl,p,_,_,j,rfl,rfl,s2 _ _ hp,by rw[List.length_map]at hj ⊢;exact hj,?_⟩
  refine q7 zs y p j _ _ _ D eD gz hj jl by' yl np ?_ ((s1.trans s2).upd np)
  rw[zaa,←List.map_set (f:=V.str)]
 obtain⟨r2,p2,q2⟩:=t2
 subst hX
 refine⟨_,(zan (zjl (i:=3) (N':=["_law_k","_law_script"]) (ix:=[0]) (fun p hp=>by
   obtain rfl:p=_:=by simpa using hp
   exact⟨(by show("_law_word_here":Str)∉(["_law_k","_law_script"]:List Str);decide +kernel),.inl rfl,.inl rfl⟩) zbo rfl (Or.inl rfl) rfl rfl (by decide +kernel) (by decide +kernel) rfl (fun ok=>clo_of (sc:=ag zas) ok rfl (by decide +kernel) (by decide +kernel)) (by decide +kernel) rfl rfl (fun j i h=>match j,h with | 0,h=>by cases h;exact⟨_,rfl,rfl,.inl rfl,.inl rfl⟩ | n+1,h=>by simp at h)
   (zd4 rfl TR (aa (aj zbA ad (aj zaE (zab BC.ok hr1 rfl BC.m BC.kp BC.b .nil zao (aa (pv 0) (aa ad ac))) ad)) ac))
   (fun _ _ _ _=>(zc6 BG' hr1 rfl BG.m BG.kp BG.b zao (aj zbh (zab BC.ok hr1 rfl BC.m BC.kp BC.b .nil zao (aa (pv 1) (aa ad ac))) (aj zbA (pv 0) ad)) (.head _) k0 kb))) p2),?_⟩
 try dsimp only [Cx.nox,Cx.wish,zaj]
 intro H1 D eD s1
 refine⟨_,rfl,a,ns,_,rfl,s1.seq hS,h63,by decide,fun i1=>?_⟩
 have m0:=Int.emod_nonneg i1 (show(4:Int)≠0 by decide)
 have m1:=Int.emod_lt_of_pos i1 (show(0:Int) < 4 by decide)
 refine⟨_,_,rfl,rfl,(by show(0:Int) < 4;decide),_,_,rfl,rfl,_,rfl,(by show -(2 ^ 62)≤1+i1 % 4;omega),(by show 1+i1 % 4 < 2 ^ 62;omega),fun J hJ=>?_⟩
 refine zeb zjH (fun i us H'=>ao H1 H'∧∃ zs:List Str,us=zs.map V.str∧zs.length=i∧∀ y∈zs,y.length≤5000∧zdF W y) (fun _ _ _ _=>trivial) ⟨zad hJ _,[],rfl,rfl,fun y hy=>nomatch hy⟩ ?_ ?_
 ·rintro i us H8 x H4 hi hly hDs ⟨s4,zs,rfl,zl',hz⟩ ⟨rfl,rfl⟩
  refine⟨_,rfl,a,ns,_,rfl,(s1.trans s4).seq hS,h63,by decide,fun i5=>⟨_,rfl,_,_,rfl,rfl,_,_,rfl,rfl,⟨(by show(0:Int) < 0+i+1;omega),(by show(0:Int)+i+1 < 1073741824;omega)⟩,_,z,rfl,hW,fun y H5 gy yl s5=>?_⟩⟩
  refine zcL (szM (by omega)) hi hly (s5 _ _ hDs) ⟨(s4.trans s5).upd hJ,zs++[y],by rw[List.map_append];rfl,by rw[List.length_append,zl'];rfl,fun y' hy'=>?_⟩
  rcases List.mem_append.mp hy' with hy' | hy'
  ·exact hz y' hy'
  ·rw[List.mem_singleton.mp hy'];exact⟨yl,gy⟩
 ·rintro us H4 hDs ⟨s4,zs,rfl,zl',hz⟩
  have nJ:H J=none:=by
   cases e:H J with
   | none=>rfl
   | some o=>rw[s1 _ _ e]at hJ;cases hJ
  exact q2 zs J H4 D eD ⟨by omega,fun y hy=>(hz y hy).1,fun y hy=>(hz y hy).2⟩ (by omega) nJ hDs (s1.trans s4)
end
end K73
namespace K73
open PySem L2
open F73 (szM ak Fm Tr)
section
variable {P:Program} {w:World} {K:PySem.W.Frag} {mg:Str→Option Value} {base:Heap} {f fC fW fG fN fF fS fA:Addr} {fd dC dW dG dN dF dS dA:FuncData}
theorem zkV:(ag zas).names.lookup ("_law_word_here":Str)=some NameKind.cell:=by decide +kernel
set_option maxHeartbeats 4000000 in
theorem zj2 (F:Fun K "_law_asked" "_law_asked" zas f fd) (BC:FB P w K mg base CX0 1 "_law_cell_at" fC dC ["_law_script","_law_k"] (zej K)) (BW:FB P w K mg base CX0 1 "_law_word" fW dW ["_law_cell","_law_size"] zeA) (BG:FW P w K mg base 1 "_law_good" fG dG zdF) (BN:FW P w K mg base 1 "_law_name" fN dN ze1) (BF:FW P w K mg base 2 "_law_form" fF dF zb7)
  (BS:∀ W,GW W→FB P w K mg base CX0 89 "_law_said" fS dS ["_law_text"] (zdv W)) (len:mg "len"=none) (TR:mg "range"=none):FnOk P w K mg base CX0 90 f fd ["_law_script","_law_turn"] (zeC K):=by
 refine Fun.ok1 F (j:=1) (y:="_law_turn") zgP rfl (by decide +kernel) (fun vs H Q E h=>?_) (fun cdv A outer s0 H vs Q E hr h=>?_)
 ·obtain⟨a,ns,t,rfl,_⟩:=h
  rfl
 obtain⟨a,ns,t,rfl,hS,h63,q⟩:=h
 have hr1:zai 1 _:=hr.mono (by decide)
 have tail:∀(z:Str) (k:Nat),∃ u,k≠0→za9 ((zaj CX0 P w K mg base NA "_law_asked" (ag zas) f cdv A outer s0 H E).nox.put 2 "_law_word_here" (.str z k)) (k+1) ((zaC zas).drop 1) u∧(GW (cp z)→∀(H1:Hp) (D:zaU),D.rt=Q→ao H H1→u D (SA a t none none none none none none) H1):=fun z k=>by
  by_cases k0:k=0
  ·exact⟨fun _ _ _=>False,fun h=>absurd k0 h⟩
  by_cases g:GW (cp z)
  ·obtain⟨u,h1,h2⟩:=zih (P:=P) (w:=w) (K:=K) (mg:=mg) (base:=base) (E:=E) (outer:=outer) BC BG BN BF BS len TR hr hS h63 q (k:=k) k0 g
   exact⟨u,fun _=>⟨h1,fun _=>h2⟩⟩
  ·exact⟨fun _ _ _=>False,fun _=>⟨⟨fun _ _ _ _ _ _ _ h=>h.elim⟩,fun h=>absurd h g⟩⟩
 refine⟨_,zjk (i:=2) zgP.nd rfl (by decide +kernel) zkV rfl rfl (zkD (zab BW.ok hr1 rfl BW.m BW.kp BW.b .nil zao (aa (zab BC.ok hr1 rfl BC.m BC.kp BC.b .nil zao (aa (pv 0) (aa ad ac))) (aa (aj zaE (zab BC.ok hr1 rfl BC.m BC.kp BC.b .nil zao (aa (pv 0) (aa ad ac))) ad) ac)))) (u:=fun z k=>Classical.choose (tail z k)) (fun z k k0=>((Classical.choose_spec (tail z k)) k0).1),?_⟩
 have l1:(("x":Str)).length=1:=by decide +kernel
 refine⟨_,rfl,a,ns,_,rfl,hS,h63,by decide,fun i=>⟨_,rfl,a,ns,_,rfl,hS,h63,by decide,fun i2=>?_⟩⟩
 have m0:=Int.emod_nonneg i2 (show(7:Int)≠0 by decide)
 have m1:=Int.emod_lt_of_pos i2 (show(0:Int) < 7 by decide)
 refine⟨_,_,rfl,rfl,(by show(0:Int) < 7;decide),i,i2 % 7,rfl,m0,by omega,fun y yl yab=>⟨y,rfl,by rw[l1];decide,szM (by rw[ak,l1];omega),fun z ez k k0=>?_⟩⟩
 cases ez
 exact((Classical.choose_spec (tail _ k)) k0).2 (zkn yl (by omega) yab) H _ rfl (ao.refl H)
inductive zeT (K:PySem.W.Frag):Sp | mk {vs H Q E9} (a:Addr) (ns:List Int):vs=[.ref a]→SqL K H a (ns.map V.int)→ns.length≤63→(∀ H',Q (.bl true) H')→zeT K vs H Q E9
theorem ziE:zac ["_law_script","_law_turn"] ["_law_script"] (ag zh2):=⟨rfl,rfl,rfl,by decide +kernel,rfl,by decide +kernel,by decide +kernel⟩
theorem ok_law (F:Fun K "law" "law" zh2 f fd) (BA:FB P w K mg base CX0 90 "_law_asked" fA dA ["_law_script","_law_turn"] (zeC K)) (TR:mg "range"=none):FnOk P w K mg base CX0 91 f fd ["_law_script"] (zeT K):=by
 refine F.ok ziE (fun vs H Q E h=>?_) (fun cdv A outer s0 H vs Q E hr h=>?_)
 ·obtain⟨a,ns,rfl,_⟩:=h
  rfl
 obtain⟨a,ns,rfl,hS,h63,q⟩:=h
 refine⟨_,(ai (zbF PassesOwn.never rfl (zd4 rfl TR (aa ad ac)) (zaY (i:=1) ziE.nd rfl (Or.inl rfl))
   (ae (zaz (zbV (zaV (zab BA.ok hr rfl BA.m BA.kp BA.b .nil zao (aa (pv 0) (aa (pv 1) ac)))))
    (ae (zae zf6))
    zaf)))
  (ae (zae zf6))),?_⟩
 try dsimp only [Cx.nox,Cx.wish,zaj]
 try dsimp only [Cx.nox,Cx.wish,zaj]
 refine⟨4,rfl,by decide,by decide,zfS (lo:=0) (n:=4) (fun i σ H'=>ao H H'∧∃ v:Option V,σ=[some (.ref a),v]) ⟨ao.refl H,none,rfl⟩ ?_ ?_⟩
 ·rintro i σ H' hi ⟨s1,v,rfl⟩
  refine⟨_,rfl,_,rfl,a,ns,_,rfl,s1.seq hS,h63,fun H2 s2=>⟨_,rfl,za8 ?_⟩⟩
  exact⟨s1.trans s2,_,rfl⟩
 ·rintro σ H' ⟨s1,v,rfl⟩
  exact q H'
end
theorem zfk {K:PySem.W.Frag} {D:Addr} (h:PySem.W.kitOne K (.ref D) (.type "ValueError")=some true):PySem.W.kitCls K (.ref D) (.type "ValueError")=some true:=by
 unfold PySem.W.kitOne at h
 rw[if_neg (show ¬(Value.ref D == Value.type "ValueError")=true from by intro z;cases z)]at h
 exact h
end K73
namespace K73
open PySem L2
set_option maxHeartbeats 4000000 in
theorem all_mk {l:PySem.W.OpenLaw} {w:World} {K:PySem.W.Frag} {h:Heap} {mg:Str→Option Value} {fa aB aO aK aW CU CN CB CE C1 C2 C3 C4 C5 C6 f1 f2 f3 f4 f5 f6 f7 f8 f9 f10 f11 f12 f13 f14 f15 f16 f17 f18 f19 f20 f21 f22 f23 f24 f25 f26 f27 f28 f29 f30 f31 f32 f33 f34:Addr} (X:K.In h) (G:h.Ns mainGlobals mg) (hfa:mg "law"=some (.ref fa))
  {d1 d2 d3 d4 d5 d6 d7 d8 d9 d10 d11 d12 d13 d14 d15 d16 d17 d18 d19 d20 d21 d22 d23 d24 d25 d26 d27 d28 d29 d30 d31 d32 d33 d34:FuncData} {cdN cdB:ClassData} {slB slO slK slW:Array (Option Value)} {t1 t2 t3 t4 t5 t6 t7 t8 t9 u1 u2 u3 u4 u5 w1 w2 w3 w4 w5 w6 w7 w8 q1 q2 q3 q4:Tok} {nB nO nK nW:Nat}
  (aC:PySem.W.nsIn K mainGlobals "Cursor"=some (some (.ref CU)))
  (xCN:PySem.W.nsIn K mainGlobals "NoProblem"=some (some (.ref CN)))
  (xCB:PySem.W.nsIn K mainGlobals "BadName"=some (some (.ref CB)))
  (xCE:PySem.W.nsIn K mainGlobals "ChoiceError"=some (some (.ref CE)))
  (xC1:PySem.W.nsIn K mainGlobals "BadTerm"=some (some (.ref C1)))
  (xC2:PySem.W.nsIn K mainGlobals "BadPart"=some (some (.ref C2)))
  (xC3:PySem.W.nsIn K mainGlobals "TooMany"=some (some (.ref C3)))
  (xC4:PySem.W.nsIn K mainGlobals "NotJoined"=some (some (.ref C4)))
  (xC5:PySem.W.nsIn K mainGlobals "TooLong"=some (some (.ref C5)))
  (xC6:PySem.W.nsIn K mainGlobals "BadPaper"=some (some (.ref C6)))
  (y1:FT K "inner_trees" "inner_trees" F73.s_inner_trees f1 d1)
  (y2:FT K "inner_formulas" "inner_formulas" F73.s_inner_formulas f2 d2)
  (y3:FT K "is_word" "is_word" zd1 f3 d3)
  (y4:FT K "is_name" "is_name" zd2 f4 d4)
  (y5:FT K "ask_name" "ask_name" zdK f5 d5)
  (y6:FT K "text_rows" "text_rows" zdd f6 d6)
  (y7:FT K "take_between" "take_between" zcm f7 d7)
  (y8:FT K "take_two" "take_two" zcC f8 d8)
  (y9:FT K "take_simple" "take_simple" zcz f9 d9)
  (y10:FT K "take_formula" "take_formula" zbw f10 d10)
  (y11:FT K "tree_depth" "tree_depth" zcW f11 d11)
  (y12:FT K "depth" "depth" zft f12 d12)
  (y13:FT K "ask_tree" "ask_tree" zdJ f13 d13)
  (y14:FT K "ask_unlike" "ask_unlike" zcX f14 d14)
  (y15:FT K "ask_counts" "ask_counts" zcY f15 d15)
  (y16:FT K "formed" "formed" zeG f16 d16)
  (y17:FT K "ask_tree_names" "ask_tree_names" zb2 f17 d17)
  (y18:FT K "ask_names" "ask_names" zde f18 d18)
  (y19:FT K "understood" "understood" zcV f19 d19)
  (y20:FT K "_law_cell_at" "_law_cell_at" zcn f20 d20)
  (y21:FT K "_law_word" "_law_word" zdf f21 d21)
  (y22:FT K "_law_said" "_law_said" zdg f22 d22)
  (y23:FT K "_law_deep" "_law_deep" zdj f23 d23)
  (y24:FT K "_law_form" "_law_form" zbq f24 d24)
  (y25:FT K "_law_name" "_law_name" zdh f25 d25)
  (y26:FT K "_law_good" "_law_good" zdi f26 d26)
  (y27:FT K "_law_asked" "_law_asked" zas f27 d27)
  (y28:FT K "law" "law" zh2 f28 d28)
  (y29:FM K CU "__init__" "Cursor.__init__" zbS f29 d29)
  (y30:FM K CU "is_over" "Cursor.is_over" zb3 f30 d30)
  (y31:FM K CU "takes" "Cursor.takes" zco f31 d31)
  (y32:FM K CU "take_word" "Cursor.take_word" za4 f32 d32)
  (y33:FM K CU "take_tree" "Cursor.take_tree" zbn f33 d33)
  (y34:FM K CU "take_trees" "Cursor.take_trees" zbg f34 d34)
  (s1:PySem.W.nsIn K mainGlobals "BARE"=some (some (.ref aB)))
  (s2:K.lookup aB=some ⟨.type "tuple",none,.seq #[.str "always" t1,.str "never" t2] nB,slB⟩)
  (s3:PySem.W.nsIn K mainGlobals "OF_FORMULAS"=some (some (.ref aO)))
  (s4:K.lookup aO=some ⟨.type "tuple",none,.seq #[.str "not" u1,.str "and" u2,.str "or" u3,.str "then" u4,.str "as" u5] nO,slO⟩)
  (s5:PySem.W.nsIn K mainGlobals "KEPT_WORDS"=some (some (.ref aK)))
  (s6:K.lookup aK=some ⟨.type "tuple",none,.seq #[.str "or" w1,.str "and" w2,.str "not" w3,.str "never" w4,.str "always" w5,.str "then" w6,.str "as" w7,.str "unlike" w8] nK,slK⟩)
  (s7:PySem.W.nsIn K mainGlobals "BETWEEN"=some (some (.ref aW)))
  (s8:K.lookup aW=some ⟨.type "tuple",none,.seq #[.str "and" q1,.str "or" q2,.str "then" q3,.str "as" q4] nW,slW⟩)
  (g1:PySem.W.nsIn K mainGlobals "SMALL_LETTERS"=some (some (.str abc t3)))
  (g2:PySem.W.nsIn K mainGlobals "LONGEST_NAME"=some (some (.int 8 t4)))
  (g3:PySem.W.nsIn K mainGlobals "MOST_TERM_PARTS"=some (some (.int 3 t5)))
  (g4:PySem.W.nsIn K mainGlobals "MOST_BRACKETS"=some (some (.int 20 t6)))
  (g5:PySem.W.nsIn K mainGlobals "DEEPEST"=some (some (.int 20 t7)))
  (g6:PySem.W.nsIn K mainGlobals "LEAST_UNLIKE"=some (some (.int 2 t8)))
  (g7:PySem.W.nsIn K mainGlobals "MOST_UNLIKE"=some (some (.int 5 t9)))
  (z_len:PySem.W.nsIn K mainGlobals "len"=some none)
  (z_list:PySem.W.nsIn K mainGlobals "list"=some none)
  (z_tuple:PySem.W.nsIn K mainGlobals "tuple"=some none)
  (z_range:PySem.W.nsIn K mainGlobals "range"=some none)
  (z_int:PySem.W.nsIn K mainGlobals "int"=some none)
  (z_isinstance:PySem.W.nsIn K mainGlobals "isinstance"=some none)
  (z_str:PySem.W.nsIn K mainGlobals "str"=some none)
  (z_all:PySem.W.nsIn K mainGlobals "all"=some none)
  (z_max:PySem.W.nsIn K mainGlobals "max"=some none)
  (z_enumerate:PySem.W.nsIn K mainGlobals "enumerate"=some none)
  (z_ValueError:PySem.W.nsIn K mainGlobals "ValueError"=some none)
  (zg:PySem.W.plainGet K CU Str.empty=true)
  (zd:PySem.W.hasDictIn K CU=true)
  (zo:PySem.W.plainOver K CU=true)
  (zs:PySem.W.findIn K (.ref CU) "__setattr__"=some (some (.builtin "object.__setattr__")))
  (zm:PySem.W.makesIn K CU=true)
  (zk:PySem.W.keepIn K (.ref CU)=true)
  (zp:PySem.W.findIn K (.ref CU) "place"=some none)
  (zt:PySem.W.findIn K (.ref CU) "text"=some none)
  (e1CN:PySem.W.excIn K CN bmV "ValueError.__new__"=true)
  (e2CN:PySem.W.exmOne K (.ref CN) (.ref CE)=some true)
  (e3CN:PySem.W.kitOne K (.ref CN) (.type "ValueError")=some true)
  (e4CNCN:PySem.W.kitOne K (.ref CN) (.ref CN)=some true)
  (e4CNCB:PySem.W.kitOne K (.ref CN) (.ref CB)=some false)
  (e5CN:PySem.W.kitAny K (.ref CN) [.ref C1,.ref C2,.ref C3]=some false)
  (e6CN:PySem.W.kitAny K (.ref CN) [.ref C4,.ref C5,.ref C6]=some false)
  (h1CN:PySem.W.clsIn K CN=some cdN)
  (h2CN:PySem.W.findIn K (.ref CN) "__getattribute__"=some (some (.builtin "BaseException.__getattribute__")))
  (h3CN:PySem.W.findIn K (.ref CN) "__getattr__"=some none)
  (h4CN:PySem.W.findIn K (.ref CN) "__class__"=some (some (.builtin "object.__class__")))
  (h7CN:PySem.W.mroIn K CN (.type "object")=some true)
  (h8CN:PySem.W.mroIn K CN (.type "BaseException")=some true)
  (e1CB:PySem.W.excIn K CB bmV "ValueError.__new__"=true)
  (e2CB:PySem.W.exmOne K (.ref CB) (.ref CE)=some true)
  (e3CB:PySem.W.kitOne K (.ref CB) (.type "ValueError")=some true)
  (e4CBCN:PySem.W.kitOne K (.ref CB) (.ref CN)=some false)
  (e4CBCB:PySem.W.kitOne K (.ref CB) (.ref CB)=some true)
  (e5CB:PySem.W.kitAny K (.ref CB) [.ref C1,.ref C2,.ref C3]=some false)
  (e6CB:PySem.W.kitAny K (.ref CB) [.ref C4,.ref C5,.ref C6]=some false)
  (h1CB:PySem.W.clsIn K CB=some cdB)
  (h2CB:PySem.W.findIn K (.ref CB) "__getattribute__"=some (some (.builtin "BaseException.__getattribute__")))
  (h3CB:PySem.W.findIn K (.ref CB) "__getattr__"=some none)
  (h4CB:PySem.W.findIn K (.ref CB) "__class__"=some (some (.builtin "object.__class__")))
  (h7CB:PySem.W.mroIn K CB (.type "object")=some true)
  (h8CB:PySem.W.mroIn K CB (.type "BaseException")=some true)
  (h5:PySem.W.specialIn K (.builtin "object.__class__") "__get__"=some (some (.builtin "getset_descriptor.__get__")))
  (h6:PySem.W.takesIn K (.builtin "object.__class__")=some true)
  : ∃ fd:FuncData,(∀(s:Shared) (v:Value),BindsTo s fd ⟨[v],[]⟩ [("_law_script",v)])∧∀ base:Heap,K.In base→base.Ns mainGlobals mg→FnOk l.prog w K mg base CX0 91 fa fd ["_law_script"] (zeT K):=by
 have e:=hfa.symm.trans (y28.m X G)
 cases e
 have T:F73.Txt K mg aB aO:=⟨PySem.W.mg_none_of X G z_len,PySem.W.mg_none_of X G z_list,PySem.W.mg_none_of X G z_tuple,PySem.W.mg_none_of X G z_range,PySem.W.mg_none_of X G z_int,PySem.W.mg_none_of X G z_isinstance,PySem.W.mg_none_of X G z_str,PySem.W.mg_of X G s1,PySem.W.mg_of X G s3,fun H=>.inr ⟨_,_,_,s2,rfl,rfl,(by show 2≤sizeLine;decide),.cons ⟨_,rfl⟩ (.cons ⟨_,rfl⟩ .nil)⟩,fun H=>.inr ⟨_,_,_,s4,rfl,rfl,(by show 5≤sizeLine;decide),.cons ⟨_,rfl⟩ (.cons ⟨_,rfl⟩ (.cons ⟨_,rfl⟩ (.cons ⟨_,rfl⟩ (.cons ⟨_,rfl⟩ .nil))))⟩⟩
 have TW:TxW K mg aW aB:=⟨PySem.W.mg_of X G s7,fun H=>.inr ⟨_,_,_,s8,rfl,rfl,(by show 4≤sizeLine;decide),.cons ⟨_,rfl⟩ (.cons ⟨_,rfl⟩ (.cons ⟨_,rfl⟩ (.cons ⟨_,rfl⟩ .nil)))⟩,PySem.W.mg_of X G s1,fun H=>.inr ⟨_,_,_,s2,rfl,rfl,(by show 2≤sizeLine;decide),.cons ⟨_,rfl⟩ (.cons ⟨_,rfl⟩ .nil)⟩,⟨_,PySem.W.mg_of X G g4⟩,⟨_,PySem.W.mg_of X G g5⟩,⟨_,PySem.W.mg_of X G g6⟩,⟨_,PySem.W.mg_of X G g7⟩,⟨_,PySem.W.mg_of X G g3⟩,PySem.W.mg_none_of X G z_len⟩
 have TK:TxK K mg aK:=⟨⟨_,PySem.W.mg_of X G g1⟩,⟨_,PySem.W.mg_of X G g2⟩,PySem.W.mg_of X G s5,fun H=>.inr ⟨_,_,_,s6,rfl,rfl,(by show 8≤sizeLine;decide),.cons ⟨_,rfl⟩ (.cons ⟨_,rfl⟩ (.cons ⟨_,rfl⟩ (.cons ⟨_,rfl⟩ (.cons ⟨_,rfl⟩ (.cons ⟨_,rfl⟩ (.cons ⟨_,rfl⟩ (.cons ⟨_,rfl⟩ .nil)))))))⟩,PySem.W.mg_none_of X G z_len,PySem.W.mg_none_of X G z_all⟩
 have TN:TxN K mg CN CB:=⟨PySem.W.mg_of X G xCN,e1CN,PySem.W.mg_of X G xCB,e1CB⟩
 have Z:TxC K mg CU:=⟨⟨zg,zd,zo,zs⟩,zp,zt,⟨_,PySem.W.mg_of X G g1⟩,PySem.W.mg_none_of X G z_len,PySem.W.mg_none_of X G z_tuple⟩
 have XX:XF K mg CN CB CE C1 C2 C3 C4 C5 C6:=⟨PySem.W.mg_none_of X G z_isinstance,PySem.W.mg_none_of X G z_ValueError,PySem.W.mg_none_of X G z_int,PySem.W.mg_of X G xCE,PySem.W.mg_of X G xC1,PySem.W.mg_of X G xC2,PySem.W.mg_of X G xC3,PySem.W.mg_of X G xC4,PySem.W.mg_of X G xC5,PySem.W.mg_of X G xC6,⟨by rw[h1CN];rfl,h2CN,h3CN,h4CN,h5,h6,h7CN,h8CN⟩,⟨by rw[h1CB];rfl,h2CB,h3CB,h4CB,h5,h6,h7CB,h8CB⟩,e2CN,e2CB,e5CN,e5CB,e6CN,e6CB,zfk e3CN,zfk e3CB,e4CNCN,e4CNCB,e4CBCN,e4CBCB⟩
 have b1:aq K d1 ["formula"] []:=y1.F.b1 fun _ _ _ _ _ _ _=>rfl
 have b2:aq K d2 ["formula"] []:=y2.F.b1 fun _ _ _ _ _ _ _=>rfl
 have b3:aq K d3 ["text"] []:=y3.F.b1 fun _ _ _ _ _ _ _=>rfl
 have b4:aq K d4 ["word"] []:=y4.F.b1 fun _ _ _ _ _ _ _=>rfl
 have b5:aq K d5 ["word"] []:=y5.F.b1 fun _ _ _ _ _ _ _=>rfl
 have b6:aq K d6 ["text"] []:=y6.F.b1 fun _ _ _ _ _ _ _=>rfl
 have b7:aq K d7 ["cursor"] []:=y7.F.b1 fun _ _ _ _ _ _ _=>rfl
 have b8:aq K d8 ["cursor","left"] []:=y8.F.b2 fun _ _ _ _ _ _ _ _=>rfl
 have b9:aq K d9 ["cursor"] []:=y9.F.b1 fun _ _ _ _ _ _ _=>rfl
 have b10:aq K d10 ["cursor","left"] []:=y10.F.b2 fun _ _ _ _ _ _ _ _=>rfl
 have b11:aq K d11 ["tree"] []:=y11.F.b1 fun _ _ _ _ _ _ _=>rfl
 have b12:aq K d12 ["formula"] []:=y12.F.b1 fun _ _ _ _ _ _ _=>rfl
 have b13:aq K d13 ["tree"] []:=y13.F.b1 fun _ _ _ _ _ _ _=>rfl
 have b14:aq K d14 ["trees"] []:=y14.F.b1 fun _ _ _ _ _ _ _=>rfl
 have b15:aq K d15 ["formula"] []:=y15.F.b1 fun _ _ _ _ _ _ _=>rfl
 have b16:aq K d16 ["row"] []:=y16.F.b1 fun _ _ _ _ _ _ _=>rfl
 have b17:aq K d17 ["tree"] []:=y17.F.b1 fun _ _ _ _ _ _ _=>rfl
 have b18:aq K d18 ["formula"] []:=y18.F.b1 fun _ _ _ _ _ _ _=>rfl
 have b19:aq K d19 ["text"] []:=y19.F.b1 fun _ _ _ _ _ _ _=>rfl
 have b20:aq K d20 ["_law_script","_law_k"] []:=y20.F.b2 fun _ _ _ _ _ _ _ _=>rfl
 have b21:aq K d21 ["_law_cell","_law_size"] []:=y21.F.b2 fun _ _ _ _ _ _ _ _=>rfl
 have b22:aq K d22 ["_law_text"] []:=y22.F.b1 fun _ _ _ _ _ _ _=>rfl
 have b23:aq K d23 ["_law_kind","_law_many"] []:=y23.F.b2 fun _ _ _ _ _ _ _ _=>rfl
 have b24:aq K d24 ["_law_cell","_law_word_here"] []:=y24.F.b2 fun _ _ _ _ _ _ _ _=>rfl
 have b25:aq K d25 ["_law_cell","_law_word_here"] []:=y25.F.b2 fun _ _ _ _ _ _ _ _=>rfl
 have b26:aq K d26 ["_law_cell","_law_word_here"] []:=y26.F.b2 fun _ _ _ _ _ _ _ _=>rfl
 have b27:aq K d27 ["_law_script","_law_turn"] []:=y27.F.b2 fun _ _ _ _ _ _ _ _=>rfl
 have b29:aq K d29 ["self","text"] []:=y29.F.b2 fun _ _ _ _ _ _ _ _=>rfl
 have b30:aq K d30 ["self"] []:=y30.F.b1 fun _ _ _ _ _ _ _=>rfl
 have b31:aq K d31 ["self","signs"] []:=y31.F.b2 fun _ _ _ _ _ _ _ _=>rfl
 have b32:aq K d32 ["self"] []:=y32.F.b1 fun _ _ _ _ _ _ _=>rfl
 have b33:aq K d33 ["self","brackets"] []:=y33.F.b2 fun _ _ _ _ _ _ _ _=>rfl
 have b34:aq K d34 ["self","brackets"] []:=y34.F.b2 fun _ _ _ _ _ _ _ _=>rfl
 refine⟨_,y28.F.top fun _ _ _ _ _ _ _=>rfl,fun base _ _=>?_⟩
 have G1:=F73.ok_itrees (P:=l.prog) (w:=w) (base:=base) y1.F T
 have G2:=F73.ok_ifms (P:=l.prog) (w:=w) (base:=base) y2.F T
 have G29:=zj1 (P:=l.prog) (w:=w) (base:=base) y29.F Z
 have G30:=zkJ (P:=l.prog) (w:=w) (base:=base) y30.F Z
 have G31:=zjY (P:=l.prog) (w:=w) (base:=base) y31.F Z
 have G11:=zhy (P:=l.prog) (w:=w) (base:=base) y11.F (PySem.W.mg_none_of X G z_max) b11 y11.k (y11.m X G) 21
 have G12:FnOk l.prog w K mg base CX0 62 f12 _ ["formula"] (ze4 K 41):=ziS y12.F (PySem.W.mg_none_of X G z_max) b12 y12.k (y12.m X G) ⟨G11,b11,y11.k,(y11.m X G)⟩ ⟨G1,b1,y1.k,(y1.m X G)⟩ ⟨G2,b2,y2.k,(y2.m X G)⟩ 41
 have G13:=ziT (P:=l.prog) (w:=w) (base:=base) y13.F TN TW b13 y13.k (y13.m X G) 21
 have G3:=zjp (P:=l.prog) (w:=w) (base:=base) y3.F TK
 have G4:=zjq y4.F TK G3 b3 y3.k (y3.m X G)
 have G5:=ok_ann y5.F TN ⟨G4,b4,y4.k,(y4.m X G)⟩
 have G17:FnOk l.prog w K mg base (CX1 l.prog w) 24 f17 _ ["tree"] (zdS K CB 21):=ziR y17.F ⟨G5,b5,y5.k,(y5.m X G)⟩ b17 y17.k (y17.m X G) 21
 have G18:FnOk l.prog w K mg base (CX1 l.prog w) 44 f18 _ ["formula"] (zdU K CB 20):=ziU y18.F b18 y18.k (y18.m X G) ⟨G17,b17,y17.k,(y17.m X G)⟩ ⟨G5,b5,y5.k,(y5.m X G)⟩ ⟨G1,b1,y1.k,(y1.m X G)⟩ ⟨G2,b2,y2.k,(y2.m X G)⟩ 20
 have G6:=ok_trw (P:=l.prog) (w:=w) (base:=base) y6.F TN
 have MKC:Mk K CU f29:=⟨zm,y29.a,y29.i,zk⟩
 have BS:∀ W,GW W→FB l.prog w K mg base CX0 89 "_law_said" f22 _ ["_law_text"] (zdv W):=fun W gw=>by
  have O:Ow l.prog w K mg base W CU CN f31 f32 _ _:=⟨ok_tk gw G31,b31,y31.M,zkH gw y32.F Z TN G30 b30 y30.M,b32,y32.M⟩
  have G33:FnOk l.prog w K mg base (CX1 l.prog w) 44 f33 _ ["self","brackets"] (zcG W K CU CN 20):=zhx gw y33.F y34.F Z TN TW.mb O b33 y33.M b34 y34.M 20
  have G34:FnOk l.prog w K mg base (CX1 l.prog w) 45 f34 _ ["self","brackets"] (zci W K CU CN 20):=zgW gw y34.F Z TN O (by decide) G33 b33 y33.M
  have G7:=ok_btw y7.F Z TN TW O
  have G9:=ok_sim gw y9.F Z TN TW O G33 b33 y33.M
  have G10:FnOk l.prog w K mg base (CX1 l.prog w) 86 f10 _ ["cursor","left"] (zbU W K CU CN 20 (pF 20)):=zhz gw y10.F y8.F Z TN TW O ⟨G7,b7,y7.k,(y7.m X G)⟩ ⟨G9,b9,y9.k,(y9.m X G)⟩ G34 b34 y34.M b10 y10.k (y10.m X G) b8 y8.k (y8.m X G) 20
  have G14:=ok_aul (P:=l.prog) (w:=w) (base:=base) gw y14.F TN TW (PySem.W.mg_none_of X G z_enumerate)
  have G15:FnOk l.prog w K mg base (CX1 l.prog w) 41 f15 _ ["formula"] (zdV W K CN 20):=ziV gw y15.F b15 y15.k (y15.m X G) ⟨G13,b13,y13.k,(y13.m X G)⟩ ⟨G14,b14,y14.k,(y14.m X G)⟩ ⟨G1,b1,y1.k,(y1.m X G)⟩ ⟨G2,b2,y2.k,(y2.m X G)⟩ 20
  have G16:=ok_fmd gw y16.F Z TN TW MKC G29 b29 (PySem.W.mg_of X G aC) ⟨G10,b10,y10.k,(y10.m X G)⟩ G30 b30 y30.M ⟨G12,b12,y12.k,(y12.m X G)⟩ ⟨G15,b15,y15.k,(y15.m X G)⟩
  have G19:=ok_und gw y19.F ⟨G6,b6,y6.k,(y6.m X G)⟩ ⟨G16,b16,y16.k,(y16.m X G)⟩ ⟨G18,b18,y18.k,(y18.m X G)⟩
  exact⟨zkI y22.F TN XX ⟨G19,b19,y19.k,(y19.m X G)⟩,b22,y22.k,(y22.m X G)⟩
 have G20:=zkN (P:=l.prog) (w:=w) (base:=base) y20.F (PySem.W.mg_none_of X G z_len)
 have G21:=zjZ (P:=l.prog) (w:=w) (base:=base) y21.F (PySem.W.mg_none_of X G z_range)
 have BG:FW l.prog w K mg base 1 "_law_good" f26 _ zdF:=⟨fun W gw=>zkL gw y26.F,b26,y26.k,(y26.m X G)⟩
 have BN:FW l.prog w K mg base 1 "_law_name" f25 _ ze1:=⟨fun W gw=>zkK gw y25.F,b25,y25.k,(y25.m X G)⟩
 have BF:FW l.prog w K mg base 2 "_law_form" f24 _ zb7:=⟨fun W gw=>zj0 gw y24.F ⟨zkM y23.F,b23,y23.k,(y23.m X G)⟩,b24,y24.k,(y24.m X G)⟩
 have G27:=zj2 y27.F ⟨G20,b20,y20.k,(y20.m X G)⟩ ⟨G21,b21,y21.k,(y21.m X G)⟩ BG BN BF BS (PySem.W.mg_none_of X G z_len) (PySem.W.mg_none_of X G z_range)
 exact ok_law y28.F ⟨G27,b27,y27.k,(y27.m X G)⟩ (PySem.W.mg_none_of X G z_range)
theorem walk {l:PySem.W.OpenLaw} {q:Program} {loose:List Str} {XP:(Str→Option Value)→Heap→Prop} {YP:World→Heap→Prop} {d:DefRec} {K:Params→PySem.W.Frag} (hn:l.most=some 63) (hdf:d.params.defaults=[])
  (hY:∀(w:World) (h:Heap),YP w h→(K w.params).In h)
  (F:∀(w:World) (mg:Str→Option Value) (fa:Addr) (h:Heap),(K w.params).In h→h.Ns mainGlobals mg→mg d.name=some (.ref fa) →
   ∃ fd:FuncData,(∀(s:Shared) (u:Value),BindsTo s fd ⟨[u],[]⟩ [("_law_script",u)])∧∀ base:Heap,(K w.params).In base→base.Ns mainGlobals mg→FnOk l.prog w (K w.params) mg base CX0 91 fa fd ["_law_script"] (zeT (K w.params))) :
  PySem.W.WalkO q loose XP YP l.row.toRowW d [] (fun f vs=>PySem.call f vs) :=
 L2.walk_of (n:=63) (k:=91) (x:="_law_script") (CX:=fun _=>CX0) (sp:=fun w=>zeT (K w.params)) hn (by decide) hdf ⟨rfl,by decide,by decide,rfl⟩ hY F (fun _ _ a ns hl _ hS=>⟨a,ns,rfl,hS,hl,fun _=>rfl⟩) fun _ _ _ _ _ z=>z
end K73
inductive PySem.W.Fast:Prop|tw405197880445976952|tw7073703650271687713|tw13518382140611474635|tw2637703738214650391|tw824580681697087620|tw16649493269602382262|tw12472236036191403639|tw12521691619384085238|tw10620030872346598903|tw16810888368580945821|tw5596986449601430461|tw3884713437514457678|tw1273282450080809339|tw13964200978894205483|tw14373890136752128274|tw7203325219464016205|tw10717225472746412669|tw7811249363820180735|tw9965311265708223070|tw3336542818886324125|tw7772987845759193973|tw4901762583991844156|tw7209332562789716172|tw7621661326102589588|tw5204224407749017108|tw9154810200167831387|tw7910282774437623028|tw11140143789920061030|tw17294841718061914988|tw15168084860707267419|tw5345403520532307262|tw17648969654881040629|tw9269448356160751001|tw6992173182439672427|tw16845297032087686447|tw12289068918670075406|tw3691236756037857980|tw15047724338073716891|tw17645210782323882682|tw4235129461321317041|tw10846162040488290888|tw17080593326060700588|tw9522544689175226039|tw2059330989892345585|tw2714544956150475164|tw6190093690494917042|tw8599806654609143529|tw4888694118976404587|tw13902856442740634494|tw12317377720978565985|tw7642578120215822874|tw14492471752068466763|tw17092682493959678918|tw1772757245491892743|tw8502156287453240228|tw3815146707493198229|tw18005944187078937292|tw10738374275304125034|tw8250233475837876966|tw9337485810759689218|tw12721292436567437155|tw16653503979760136691|tw15990401523869081924|tw730593135542057814|tw15678174382480343239|tw7308788831445456838|tw4532912920000301072|tw9124991885797752729|tw10045147119207117661|tw9606930401815891632|tw12445469062347874727|tw17375072550871395161|tw15371051425616250104|tw13988614535992551827|tw12082398186840551649|tw13536989264966914155|tw6866411777454248796|tw5304150856272989238|tw7017735599782215416|tw3778184208781085370|tw10801293902347803399|tw4949708394604422458|tw9507040377315793532|tw10533198281815910754|tw13045793402246139665|tw15605138557431913614|tw2398764381740949219|tw5868828139062446542|tw2349020957745921414|tw10064528326346860552|tw14531194138306733091|tw3514446280071100707|tw10310009454433740958|tw13260235400777658880|tw6248056345527305312|tw15805666828986676859|tw6174570913490658738|tw7786957691857145247|tw13396417333789104679|tw11279685343823138019|tw2829153124363983557|tw6963814091645369751|tw12228057943149342631|tw2587326676463543558|tw12367589226041707832|tw4648468966996012861|tw17283941695769769695|tw9379959932208361690|tw13069506236506270698|tw6988026038118163333|tw2991767903615396731|tw639363100989997302|tw5378596475505274520|tw10758995366534874478|tw3838279654389588729|tw4027801855894607248|tw4574492805557449710|tw3590117833712310805|tw17333913565850335519|tw519925774860447914|tw3129614573634603448|tw13600015498509649413|tw12589165433027909974|tw818763274619747359|tw4754857579117459328|tw11644916214431712605|tw12982581687155792107|tw2660202823833531456|tw5049428491585479559|tw6362685616396214754|tw1950148550191675032|tw2485481945421934484|tw656897025933292274|tw14771291317941030657|tw11406189308145929901|tw14161965035018648320|tw14789765667997808914|tw18420641815369098815|tw5430010571498869416|tw6594121375874573883|tw10281763028425090388|tw16390319122250828390|tw16188142579045167371|tw4420091401741163051|tw1095817633500728600|tw14819395385815917032|tw5677467188409477226|tw9445331595794628233|tw4163939164846520321|tw8574461849967399035|tw7844813079698575952|tw6781686392137510120|tw6745687612943328486|tw5763096710202498755|tw15714414537426993558|tw16416086289601215453|tw15825412227599938542|tw1246992176654671550|tw7521862758492692104|tw2791493847995909913|tw236771430766098242|tw14785415002302449702|tw18002790622113793081|tw3738108222456132396|tw17669105424184544668|tw14430314124992133424|tw4133079737922213560|tw7050208468416355494|tw2623634220308344271|tw18067310755715057649|tw5561812665410997373|tw3404687807834236497|tw16174291394811336658|tw3269529654638675918|tw12843994779257442182|tw17647280231248166963|tw1074566153323300115|tw11900956094884858660|tw7105764782499577326|tw8065781841939617304|tw10428344074133116432|tw14626081726109917775|tw15619852540046748420|tw6550779786095496839|tw2762984109274080269|tw5356936000917013993|tw2668898968246717807|tw8932749764783199662|tw8902874584038806008|tw2440519211255270242|tw10342177463527043187|tw13457056131847098096|tw15637683234680778648|tw4167328293401668196|tw13258289117119917298|tw7460566459773974499|tw10233442618279101368|tw14622039481964457121|tw546946104442504023|tw15208325831349977406|tw8686027689752910770|tw10378573873314864338|tw3364627077027999246|tw7160115006567176985|tw1550870052670520871|tw2019215394370897568|tw844472558559061919|tw18183999724125564307|tw18257863066416404543|tw5245149937076876679|tw16877894831479567992|tw6143269842789372258|tw10539089543037514751|tw8875837839155479411|tw10028193540456138193|tw15663313712786865828|tw12339803889175893278|tw1117149028365553885|tw18182803934216031314|tw7093195006104552923|tw12003425777063136363|tw8836812039949014700|tw4637803513565501476|tw15950764934910685691|tw11985276612550045000|tw2712212761197716181|tw8442477145538704632|tw8207306898550942865|tw5703943573098269623|tw6796296785040412389|tw14236307669929990860|tw4183793669816868756|tw12688587532514974731|tw6432521532865209689|tw12770495782014217094|tw14229907825050198136|tw13376598048024714622|tw14305982926640738648|tw6582300695357108734|tw7803295734304655240|tw14277209974715708792|tw11587674670003322628|tw9964913297836185403|tw9077325167304736391|tw17469664445821895304|tw6875760963803319431|tw3083170747748609200|tw3001994960157307048|tw4546394491645118903|tw3796311333653918520|tw3912961429752919023|tw11146733826447799762|tw15144797483572528935|tw12893474162020331549|tw17614980292945210232|tw5484078613380021498|tw9119693429571608129|tw14751268168951790163|tw1362173156683637680|tw13610199213161218558|tw1770576381834419290|tw5902925957925674889|tw2101475776399006269|tw5897060160999714831|tw15770416006036219675|tw7057720938301245115|tw12001928555992583461|tw7505087696791319797|tw15532515220608056297|tw12979790163286527886|tw620479173838156373|tw3712638393765889286|tw8863017552201549679|tw17046035805642729615|tw2880055319954864637|tw12953852957077825531|tw4408761130544911046|tw6117402048767775175|tw7548783235904081766|tw12230386866146641341|tw1026008598323127213|tw270551865505767173|tw18108911669471345660|tw11281548057355804227|tw17183993263308411447|tw4123210614853259631|tw9174094672181047919|tw15281796069862202038|tw4564829789290927834|tw12395343744932495165|tw17018352895013379538|tw14286813615897763640|tw844465831413226552|tw18395556586276298542|tw1987741904560300754|tw3642988095791638120|tw3273092420610232297|tw13085655314968149650|tw14659471439061762198|tw12241339207716993963|tw306353566757471174|tw12962721433084727489|tw5006000075790033358|tw9336259343536544850|tw7785301080617119348|tw9018508037233687473|tw6361451593989375888|tw1477419063049454049|tw7500323662642147967|tw17949640472231028716|tw10252494621493062679|tw726458838882937908|tw12965704434679004489|tw7279811362458400656|tw1977467307963445606|tw7500326321213551744|tw6518749151726067322|tw6774542856786320313|tw5517285566771745890|tw5165567882397221667|tw17159476272423291285|tw18341007170914289709|tw4944743520171614415|tw10811230384275939209|tw10414665530582601469|tw10668546798003923860|tw10767787910827042687|tw12461956910588805038|tw16137414222885665356|tw17879088614532919277|tw6794281440784650510|tw7331751022165267907|tw8715495649162340697|tw2731159416531217604|tw11783989649740925010|tw16045582065509664652|tw18167524691137882118|tw6844036948334022511|tw2702451260106292437|tw14526106687018043061|tw4346351257083898680|tw11521348147716091680|tw12806170701136300624|tw15183003685430585510|tw9963565282630660377|tw3570226016330716083|tw9142232389216496327|tw5310556218360209117|tw6849676124168056550|tw14853958166441502319|tw17223099252686594049|tw2869746253851408142|tw265132016052476703|tw14441839875635989220|tw6196856614278777249|tw11760623986744424891|tw15288378972593248452|tw2309072441855552582|tw9260927844534822915|tw825255237217912168|tw10295791788584665653|tw18151680120439004780|tw16322644267387589107|tw8422709543937910110|tw8676276119002126601|tw16331667593406578256|tw6919530293796208230|tw17975142370327813462|tw16222156726214241519
open PySem PySem.W PyProof.Rows
set_option maxRecDepth 100000 in
set_option maxHeartbeats 0 in
theorem PySem.Challenge.cw_yesorno_k73_understood_refused_holds : PySem.Challenge.rw_yesorno_k73_understood_refused.Holds := by
 w_on;o_law;k_head;(case hw=>w_witness2)
 k_fill
 refine K73.walk (l:=PySem.Challenge.rw_yesorno_k73_understood_refused) rfl rfl (fun w h Y=>PySem.W.kIn_of Y) ?F
 case F =>
  intro w mg fa h KX G hmg
  refine' K73.all_mk KX G hmg ?aC ?xCN ?xCB ?xCE ?xC1 ?xC2 ?xC3 ?xC4 ?xC5 ?xC6 ?y1 ?y2 ?y3 ?y4 ?y5 ?y6 ?y7 ?y8 ?y9 ?y10 ?y11 ?y12 ?y13 ?y14 ?y15 ?y16 ?y17 ?y18 ?y19 ?y20 ?y21 ?y22 ?y23 ?y24 ?y25 ?y26 ?y27 ?y28 ?y29 ?y30 ?y31 ?y32 ?y33 ?y34 ?s1 ?s2 ?s3 ?s4 ?s5 ?s6 ?s7 ?s8 ?g1 ?g2 ?g3 ?g4 ?g5 ?g6 ?g7 ?z_len ?z_list ?z_tuple ?z_range ?z_int ?z_isinstance ?z_str ?z_all ?z_max ?z_enumerate ?z_ValueError ?zg ?zd ?zo ?zs ?zm ?zk ?zp ?zt ?e1CN ?e2CN ?e3CN ?e4CNCN ?e4CNCB ?e5CN ?e6CN ?h1CN ?h2CN ?h3CN ?h4CN ?h7CN ?h8CN ?e1CB ?e2CB ?e3CB ?e4CBCN ?e4CBCB ?e5CB ?e6CB ?h1CB ?h2CB ?h3CB ?h4CB ?h7CB ?h8CB ?h5 ?h6
  (case aC=>k_is)
  (case xCN=>k_is)
  (case xCB=>k_is)
  (case xCE=>k_is)
  (case xC1=>k_is)
  (case xC2=>k_is)
  (case xC3=>k_is)
  (case xC4=>k_is)
  (case xC5=>k_is)
  (case xC6=>k_is)
  (case y1=>exact L2.ft_in (by k_is) (by k_is) (by k_is) (by k_is))
  (case y2=>exact L2.ft_in (by k_is) (by k_is) (by k_is) (by k_is))
  (case y3=>exact L2.ft_in (by k_is) (by k_is) (by k_is) (by k_is))
  (case y4=>exact L2.ft_in (by k_is) (by k_is) (by k_is) (by k_is))
  (case y5=>exact L2.ft_in (by k_is) (by k_is) (by k_is) (by k_is))
  (case y6=>exact L2.ft_in (by k_is) (by k_is) (by k_is) (by k_is))
  (case y7=>exact L2.ft_in (by k_is) (by k_is) (by k_is) (by k_is))
  (case y8=>exact L2.ft_in (by k_is) (by k_is) (by k_is) (by k_is))
  (case y9=>exact L2.ft_in (by k_is) (by k_is) (by k_is) (by k_is))
  (case y10=>exact L2.ft_in (by k_is) (by k_is) (by k_is) (by k_is))
  (case y11=>exact L2.ft_in (by k_is) (by k_is) (by k_is) (by k_is))
  (case y12=>exact L2.ft_in (by k_is) (by k_is) (by k_is) (by k_is))
  (case y13=>exact L2.ft_in (by k_is) (by k_is) (by k_is) (by k_is))
  (case y14=>exact L2.ft_in (by k_is) (by k_is) (by k_is) (by k_is))
  (case y15=>exact L2.ft_in (by k_is) (by k_is) (by k_is) (by k_is))
  (case y16=>exact L2.ft_in (by k_is) (by k_is) (by k_is) (by k_is))
  (case y17=>exact L2.ft_in (by k_is) (by k_is) (by k_is) (by k_is))
  (case y18=>exact L2.ft_in (by k_is) (by k_is) (by k_is) (by k_is))
  (case y19=>exact L2.ft_in (by k_is) (by k_is) (by k_is) (by k_is))
  (case y20=>exact L2.ft_in (by k_is) (by k_is) (by k_is) (by k_is))
  (case y21=>exact L2.ft_in (by k_is) (by k_is) (by k_is) (by k_is))
  (case y22=>exact L2.ft_in (by k_is) (by k_is) (by k_is) (by k_is))
  (case y23=>exact L2.ft_in (by k_is) (by k_is) (by k_is) (by k_is))
  (case y24=>exact L2.ft_in (by k_is) (by k_is) (by k_is) (by k_is))
  (case y25=>exact L2.ft_in (by k_is) (by k_is) (by k_is) (by k_is))
  (case y26=>exact L2.ft_in (by k_is) (by k_is) (by k_is) (by k_is))
  (case y27=>exact L2.ft_in (by k_is) (by k_is) (by k_is) (by k_is))
  (case y28=>exact L2.ft_in (by k_is) (by k_is) (by k_is) (by k_is))
  (case y29=>exact L2.fm_in (by k_is) (by k_is) (by k_is) (by k_is) (by k_is))
  (case y30=>exact L2.fm_in (by k_is) (by k_is) (by k_is) (by k_is) (by k_is))
  (case y31=>exact L2.fm_in (by k_is) (by k_is) (by k_is) (by k_is) (by k_is))
  (case y32=>exact L2.fm_in (by k_is) (by k_is) (by k_is) (by k_is) (by k_is))
  (case y33=>exact L2.fm_in (by k_is) (by k_is) (by k_is) (by k_is) (by k_is))
  (case y34=>exact L2.fm_in (by k_is) (by k_is) (by k_is) (by k_is) (by k_is))
  (case s1=>k_is)
  (case s2=>k_is)
  (case s3=>k_is)
  (case s4=>k_is)
  (case s5=>k_is)
  (case s6=>k_is)
  (case s7=>k_is)
  (case s8=>k_is)
  (case g1=>k_is)
  (case g2=>k_is)
  (case g3=>k_is)
  (case g4=>k_is)
  (case g5=>k_is)
  (case g6=>k_is)
  (case g7=>k_is)
  (case z_len=>k_is)
  (case z_list=>k_is)
  (case z_tuple=>k_is)
  (case z_range=>k_is)
  (case z_int=>k_is)
  (case z_isinstance=>k_is)
  (case z_str=>k_is)
  (case z_all=>k_is)
  (case z_max=>k_is)
  (case z_enumerate=>k_is)
  (case z_ValueError=>k_is)
  (case zg=>k_is)
  (case zd=>k_is)
  (case zo=>k_is)
  (case zs=>k_is)
  (case zm=>k_is)
  (case zk=>k_is)
  (case zp=>k_is)
  (case zt=>k_is)
  (case e1CN=>k_exc)
  (case e2CN=>kts_exm)
  (case e3CN=>kit_is)
  (case e4CNCN=>kit_is)
  (case e4CNCB=>kit_is)
  (case e5CN=>kit_is)
  (case e6CN=>kit_is)
  (case h1CN=>k_is)
  (case h2CN=>k_is)
  (case h3CN=>k_is)
  (case h4CN=>k_is)
  (case h7CN=>k_is)
  (case h8CN=>k_is)
  (case e1CB=>k_exc)
  (case e2CB=>kts_exm)
  (case e3CB=>kit_is)
  (case e4CBCN=>kit_is)
  (case e4CBCB=>kit_is)
  (case e5CB=>kit_is)
  (case e6CB=>kit_is)
  (case h1CB=>k_is)
  (case h2CB=>k_is)
  (case h3CB=>k_is)
  (case h4CB=>k_is)
  (case h7CB=>k_is)
  (case h8CB=>k_is)
  (case h5=>k_is)
  (case h6=>k_is)
