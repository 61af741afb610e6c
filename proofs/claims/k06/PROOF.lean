import PyProof.Rows.All
import Wide.All
import OpenK.AllK
import Wide.FinOn
import Lean
import PyProof.EqAt
import PyProof.EqKinds
import PyProof.TupleCall
import PySem.Challenge.RW_yesorno_k06_read_refused
set_option Elab.async false
set_option linter.all false
set_option maxRecDepth 100000
namespace L2
open PySem PySem.Spec PyProof.Rows
abbrev Key:=Sum Int Str
def keyIs:Key→Value→Bool
  | .inl k,v=>Value.isInt k v
  | .inr x,v=>Value.isStrOf x v
def keyH (w:World):Key→Int
  | .inl k=>hashInt k
  | .inr x=>hashStr w x
theorem za6:∀ {k:Key} {v:Value},keyIs k v=true→(∃ i t,k=Sum.inl i∧v=Value.int i t)∨(∃ x t,k=Sum.inr x∧v=Value.str x t)
  | .inl i,v,h=>by
    obtain⟨t,e⟩:=Value.isInt_shape (k:=i) (v:=v) h
    exact .inl ⟨i,t,rfl,e⟩
  | .inr x,v,h=>by
    obtain⟨t,e⟩:=Value.isStrOf_shape (x:=x) (v:=v) h
    exact .inr ⟨x,t,rfl,e⟩
theorem key_ll (a b:Int):decide ((Sum.inl a:Key)=Sum.inl b)=(a == b):=by
  by_cases e:a=b
  · subst e;simp
  · have h:¬(Sum.inl a:Key)=Sum.inl b:=fun q=>e (Sum.inl.inj q)
    rw[decide_eq_false h]
    exact(beq_eq_false_iff_ne.mpr e).symm
theorem key_rr (a b:Str):decide ((Sum.inr a:Key)=Sum.inr b)=decide (a=b):=by
  by_cases e:a=b
  · subst e;simp
  · have h:¬(Sum.inr a:Key)=Sum.inr b:=fun q=>e (Sum.inr.inj q)
    rw[decide_eq_false h,decide_eq_false e]
theorem key_lr (a:Int) (b:Str):decide ((Sum.inl a:Key)=Sum.inr b)=false:=decide_eq_false (fun q=>nomatch q)
theorem key_rl (a:Str) (b:Int):decide ((Sum.inr a:Key)=Sum.inl b)=false:=decide_eq_false (fun q=>nomatch q)
def zfO (prog:Program) (w:World):PySem.KeyKind prog w Key where
  is:=keyIs
  hash:=keyH w
  inj:=fun v a b ha hb=>by
    rcases za6 ha with ⟨i,t,rfl,rfl⟩ | ⟨x,t,rfl,rfl⟩
    · rcases za6 hb with ⟨j,u,rfl,e⟩ | ⟨y,u,rfl,e⟩
      · injection e with e1 _;rw[e1]
      · exact nomatch e
    · rcases za6 hb with ⟨j,u,rfl,e⟩ | ⟨y,u,rfl,e⟩
      · exact nomatch e
      · injection e with e1 _;rw[e1]
  byValue:=fun k v h=>by
    rcases za6 h with ⟨i,t,rfl,rfl⟩ | ⟨x,t,rfl,rfl⟩ <;> rfl
  pyHash:=fun hv h=>by
    rcases za6 hv with ⟨i,t,rfl,rfl⟩ | ⟨x,t,rfl,rfl⟩
    · exact wpAny_pyHash_int h
    · exact wpAny_pyHash_str h
  eqBool:=fun hu hv h=>by
    rcases za6 hu with ⟨i,t,rfl,rfl⟩ | ⟨x,t,rfl,rfl⟩
    · rcases za6 hv with ⟨j,u,rfl,rfl⟩ | ⟨y,u,rfl,rfl⟩
      · rw[key_ll]at h;exact wpAny_eqBool_int h
      · rw[key_lr]at h;exact SeqAt.EqAt.int_str i t y u _ _ _ _ h
    · rcases za6 hv with ⟨j,u,rfl,rfl⟩ | ⟨y,u,rfl,rfl⟩
      · rw[key_rl]at h;exact SeqAt.EqAt.str_int x t j u _ _ _ _ h
      · rw[key_rr]at h;exact wpAny_eqBool_str h
  «strs»:=fun k x t v h=>by
    rcases za6 h with ⟨i,u,rfl,e⟩ | ⟨y,u,rfl,e⟩
    · exact nomatch e
    · injection e with e1 _
      subst e1
      cases v <;> rfl
end L2
namespace L2
open PySem PySem.Spec PyProof.Rows
inductive V where
  | non | bl (b:Bool) | int (i:Int) | str (x:Str) | byt (b:Array UInt8) | flt (b:UInt64) | ref (a:Addr) | ty (n:String)
  deriving DecidableEq
def ax:V→Value→Prop
  | .non,u=>u=Value.none
  | .bl b,u=>u=Value.bool b
  | .int i,u=>∃ t,u=Value.int i t
  | .str x,u=>∃ t,u=Value.str x t
  | .byt b,u=>∃ t,u=Value.bytes b t
  | .flt b,u=>∃ t,u=Value.float b t
  | .ref a,u=>u=Value.ref a
  | .ty n,u=>u=Value.type n
abbrev aw:List V→List Value→Prop:=Paired ax
theorem aw.length {xs:List V} {us:List Value} (r:aw xs us):xs.length=us.length:=Paired.length r
theorem aw.get:∀ {xs:List V} {us:List Value} {i:Nat} {x:V},aw xs us→xs[i]?=some x→∃ u,us[i]?=some u∧ax x u
  | _,_,_,_,.nil,e=>by simp at e
  | _,_,0,_,.cons r _,e=>by simp at e;subst e;exact⟨_,rfl,r⟩
  | _,_,i+1,x,.cons _ t,e=>by
    obtain⟨u,h1,h2⟩:=aw.get (i:=i) (x:=x) t (by simpa using e)
    exact⟨u,by simpa using h1,h2⟩
theorem aw.set {x:V} {u:Value} (r:ax x u):∀ {xs:List V} {us:List Value} (i:Nat),aw xs us→aw (xs.set i x) (us.set i u)
  | _,_,_,.nil=>.nil
  | _,_,0,.cons _ t=>.cons r t
  | _,_,i+1,.cons q t=>.cons q (aw.set r i t)
theorem aw.append:∀ {xs ys:List V} {us ws:List Value},aw xs us→aw ys ws→aw (xs++ys) (us++ws)
  | _,_,_,_,.nil,s=>s
  | _,_,_,_,.cons r t,s=>.cons r (aw.append t s)
theorem aw.take:∀ {xs:List V} {us:List Value} (n:Nat),aw xs us→aw (xs.take n) (us.take n)
  | _,_,0,_=>.nil
  | _,_,_+1,.nil=>.nil
  | _,_,n+1,.cons r t=>.cons r (aw.take n t)
theorem aw.drop:∀ {xs:List V} {us:List Value} (n:Nat),aw xs us→aw (xs.drop n) (us.drop n)
  | _,_,0,r=>r
  | _,_,_+1,.nil=>.nil
  | _,_,n+1,.cons _ t=>aw.drop n t
def zda:Option V→Option Value→Prop
  | some v,some u=>ax v u
  | none,none=>True
  | _,_=>False
def KV {κ:Type}:List (κ × V)→List (κ × Value)→Prop:=Paired fun(p:κ × V) (q:κ × Value)=>p.1=q.1∧ax p.2 q.2
def kV:Key→V
  | .inl i=>.int i
  | .inr x=>.str x
inductive HO where
    | lst (xs:List V)
    | tup (xs:List V)
    | dK (kvs:List (Key × V)) | dT (kvs:List (List Key × V))
    | set (S:Int→Bool) (n:Nat)
    | ins (C dx:Addr) (fs:List (Str × V))
    | own (x:Addr)
    | xd (fs:List (Str × V))
    | met (f x:Addr)
    | rng (lo hi:Int)
    | frz (o:Obj) (u:HO)
    | tbl (ps:Array Value)
    | ext (φ:Heap→Prop)
abbrev Hp:=Addr→Option HO
def upd (H:Hp) (a:Addr) (o:HO):Hp:=fun b=>if b=a then some o else H b
theorem ag {H:Hp} {a:Addr} {o:HO}:upd H a o a=some o:=by unfold upd;rw[if_pos rfl]
theorem ai {H:Hp} {a b:Addr} {o:HO} (h:b≠a):upd H a o b=H b:=by unfold upd;rw[if_neg h]
theorem zkv {H:Hp} {a:Addr} {o u:HO}:upd (upd H a o) a u=upd H a u:=by
  funext b;unfold upd;split <;> rfl
theorem zcX {H:Hp} {a b:Addr} {o u:HO} (h:H a=some o) (h':H b=some u) (d:o≠u):a≠b:=by
  intro e;subst e;rw[h]at h';exact d (Option.some.inj h')
theorem zan {H:Hp} {a b:Addr} {o:HO} (h:H a=some o) (h':H b=none):a≠b:=by
  intro e;subst e;rw[h]at h';cases h'
def zdw (h:Heap) (a:Addr) (items:Array Value):Prop:=∃ o,h.get? a=some o∧(o.cls,o.dict)=(Value.type "tuple",none)∧∃ n,o.data=.seq items n
theorem zdw.up {h:Heap} {a:Addr} {items:Array Value} (x:zdw h a items):IsTup h a items:=let ⟨o,e,c,d⟩:=x;⟨o,e,(Prod.mk.inj c).1,d⟩
theorem zdw.lt {h:Heap} {a:Addr} {items:Array Value} (x:zdw h a items):a < h.objs.size:=x.up.lt
theorem zdw.new (h:Heap) (items:Array Value):zdw (h.push { cls:=.type "tuple",data:=.seq items }) h.objs.size items:=⟨_,Heap.get?_push_size _ rfl,rfl,_,rfl⟩
section
variable (P:Program) (w:World)
def zbq (H:Hp) (h:Heap) (a:Addr):HO→Prop
  | .lst xs=>xs.length≤sizeLine∧∃(its:List Value) (n:Nat),aw xs its∧h.get? a=some { cls:=.type "list",data:=.seq its.toArray n }
  | .tup xs=>xs.length≤sizeLine∧∃ its:List Value,aw xs its∧zdw h a its.toArray
  | .dK kvs=>kvs.length≤sizeLine∧(a == sysModules)=false∧∃ vs,KV kvs vs∧h.DictOf (zfO P w) a vs
  | .dT kvs=>kvs.length≤sizeLine∧(a == sysModules)=false∧∃ xs:List (List Key × Addr × Value),
      Paired (fun(p:List Key × V) (q:List Key × Addr × Value)=>p.1=q.1∧H q.2.1=some (.tup (p.1.map kV))∧ax p.2 q.2.2) kvs xs ∧
      ∃ o es ep,h.get? a=some o∧o.ExactDict∧o.data=.dict es ep∧es.toList=xs.map (entryOfKey (tupleKind (zfO P w)))∧(xs.map (·.1)).Nodup
  | .set S n=>h.SetOf (intKind P w) a S n
  | .ins C dx fs=>H dx=some (.own a)∧fs.length≤1000∧dx≠a∧h.get? a=some (PySem.W.instObj C dx) ∧
      ∃ mA,h.Ns1 dx mA∧(∀ f,zda (fs.lookup f) (mA f))∧PySem.Within mA (fs.map (·.1))
  | .own _=>∃ o,h.get? a=some o
  | .xd fs=>∃ mA,h.Ns1 a mA∧∀ f,zda (fs.lookup f) (mA f)
  | .rng lo hi=>∃ t u v,h.get? a=some { cls:=.type "range",data:=.fields #[.int lo t,.int hi u,.int 1 v] }
  | .frz o u=>h.get? a=some o∧zbq H h a u
  | .tbl ps=>h.get? a=some { cls:=.none,data:=.fields ps }
  | .met f x=>h.get? a=some (PySem.W.methodObj (.ref f) (.ref x))
  | .ext φ=>φ h∧(∃ o,h.get? a=some o)∧∀ h1 h2:Heap,φ h1→(∀ o,h1.get? a=some o→h2.get? a=some o)→φ h2
def HOk (H:Hp) (h:Heap):Prop:=∀ a o,H a=some o→zbq P w H h a o
end
section
variable {P:Program} {w:World} {H H':Hp} {h h':Heap} {a:Addr} {o:HO}
theorem zbq.lt (x:zbq P w H h a o):a < h.objs.size:=by
  cases o with
  | lst xs=>obtain⟨_,_,_,_,e⟩:=x;exact Heap.lt_size e
  | tup xs=>obtain⟨_,_,_,p⟩:=x;exact p.lt
  | dK kvs=>obtain⟨_,_,_,_,o,_,_,e,_⟩:=x;exact Heap.lt_size e
  | dT kvs=>obtain⟨_,_,_,_,o,_,_,e,_⟩:=x;exact Heap.lt_size e
  | set S n=>obtain⟨o,_,_,_,e,_⟩:=x;exact Heap.lt_size e
  | ins C dx fs=>obtain⟨_,_,_,e,_⟩:=x;exact Heap.lt_size e
  | own y=>obtain⟨_,e⟩:=x;exact Heap.lt_size e
  | xd fs=>obtain⟨_,⟨_,_,_,e,_⟩,_⟩:=x;exact Heap.lt_size e
  | rng lo hi=>obtain⟨_,_,_,e⟩:=x;exact Heap.lt_size e
  | frz ob u=>obtain⟨e,_⟩:=x;exact Heap.lt_size e
  | tbl ps=>exact Heap.lt_size (show h.get? a=some _ from x)
  | met f y=>exact Heap.lt_size (show h.get? a=some _ from x)
  | ext φ=>obtain⟨_,⟨_,e⟩,_⟩:=x;exact Heap.lt_size e
theorem Paired.mapP {α β:Type} {F G:α→β→Prop}:∀ {l₁:List α} {l₂:List β},Paired F l₁ l₂→(∀ a b,F a b→G a b)→Paired G l₁ l₂
  | _,_,.nil,_=>.nil
  | _,_,.cons r t,f=>.cons (f _ _ r) (Paired.mapP t f)
theorem zbq.stay (x:zbq P w H h a o) (k:∀ b u,(b=a∨H b=some (.own a))→h.get? b=some u→h'.get? b=some u)
    (ho:∀ b,H b=some (.own a)→H' b=some (.own a)) (ht:∀ b xs,H b=some (.tup xs)→H' b=some (.tup xs)):zbq P w H' h' a o:=by
  induction o with
  | lst xs=>obtain⟨z,its,n,r,e⟩:=x;exact⟨z,its,n,r,k _ _ (.inl rfl) e⟩
  | tup xs=>obtain⟨z,its,r,ob,e,c⟩:=x;exact⟨z,its,r,ob,k _ _ (.inl rfl) e,c⟩
  | dK kvs=>obtain⟨z,y,vs,r,ob,es,ep,e,c⟩:=x;exact⟨z,y,vs,r,ob,es,ep,k _ _ (.inl rfl) e,c⟩
  | dT kvs =>
    obtain⟨z,y,xs,r,ob,es,ep,e,c⟩:=x
    exact⟨z,y,xs,Paired.mapP r fun p q z=>⟨z.1,ht _ _ z.2.1,z.2.2⟩,ob,es,ep,k _ _ (.inl rfl) e,c⟩
  | set S n=>obtain⟨ob,es,ep,t,e,c⟩:=x;exact⟨ob,es,ep,t,k _ _ (.inl rfl) e,c⟩
  | ins C dx fs =>
    obtain⟨d,z,ne,e,mA,⟨od,es,ep,e2,c⟩,r⟩:=x
    exact⟨ho _ d,z,ne,k _ _ (.inl rfl) e,mA,⟨od,es,ep,k _ _ (.inr d) e2,c⟩,r⟩
  | own y=>obtain⟨ob,e⟩:=x;exact⟨ob,k _ _ (.inl rfl) e⟩
  | xd fs=>obtain⟨mA,⟨od,es,ep,e,c⟩,r⟩:=x;exact⟨mA,⟨od,es,ep,k _ _ (.inl rfl) e,c⟩,r⟩
  | rng lo hi=>obtain⟨t,u,v,e⟩:=x;exact⟨t,u,v,k _ _ (.inl rfl) e⟩
  | frz ob u ih=>obtain⟨e,q⟩:=x;exact⟨k _ _ (.inl rfl) e,ih q⟩
  | tbl ps =>
    have e:h.get? a=some { cls:=.none,data:=.fields ps }:=x
    show h'.get? a=some { cls:=.none,data:=.fields ps }
    exact k a _ (.inl rfl) e
  | met f y =>
    have e:h.get? a=some (PySem.W.methodObj (.ref f) (.ref y)):=x
    show h'.get? a=some (PySem.W.methodObj (.ref f) (.ref y))
    exact k a _ (.inl rfl) e
  | ext φ=>obtain⟨p,⟨o,e⟩,st⟩:=x;exact⟨st _ _ p fun o q=>k _ _ (.inl rfl) q,⟨o,k _ _ (.inl rfl) e⟩,st⟩
theorem HOk.lt (x:HOk P w H h) (e:H a=some o):a < h.objs.size:=(x a o e).lt
theorem HOk.fresh (x:HOk P w H h) (e:h.objs.size≤a):H a=none:=by
  cases q:H a with
  | none=>rfl
  | some u=>exact absurd (Nat.lt_of_lt_of_le (x.lt q) e) (Nat.lt_irrefl _)
theorem HOk.kept (x:HOk P w H h) (k:∀ b u,h.get? b=some u→h'.get? b=some u):HOk P w H h':=fun a o e =>
  (x a o e).stay (fun b u _ q=>k b u q) (fun _ q=>q) fun _ _ q=>q
theorem HOk.laid (x:HOk P w H h) (k:∀ b u,h.get? b=some u→h'.get? b=some u) (hp:h.objs.size≤a) (new:zbq P w (upd H a o) h' a o):HOk P w (upd H a o) h':=fun b u e=>by
  have hn:=x.fresh hp
  by_cases hb:b=a
  · subst hb;rw[ag]at e;cases e;exact new
  · rw[ai hb]at e
    exact(x b u e).stay (fun c v _ q=>k c v q) (fun c q=>by rw[ai (zan q hn)];exact q) fun c xs q=>by rw[ai (zan q hn)];exact q
end
def Rd (H:Hp) (a:Addr) (u:HO):Prop:=H a=some u∨∃ o,H a=some (.frz o u)
theorem Rd.ok {P:Program} {w:World} {H:Hp} {h:Heap} {a:Addr} {u:HO} (r:Rd H a u) (x:HOk P w H h):zbq P w H h a u:=by
  rcases r with r | ⟨o,r⟩
  · exact x a u r
  · obtain⟨_,q⟩:=x a _ r
    exact q
def Mut:Option HO→Prop
  | some (.lst _)=>True
  | some (.dK _)=>True
  | some (.dT _)=>True
  | some (.set _ _)=>True
  | some (.ins _ _ _)=>True
  | some (.ext _)=>True
  | _=>False
section
variable {P:Program} {w:World} {H:Hp} {h h':Heap} {x e:Addr} {o':HO}
theorem HOk.write (ok:HOk P w H h) (mu:Mut (H x)) (he:e=x∨H e=some (.own x)) (k:∀ b u,b≠e→h.get? b=some u→h'.get? b=some u) (heo:∃ u,h'.get? e=some u)
    (new:zbq P w (upd H x o') h' x o'):HOk P w (upd H x o') h':=fun b u q=>by
  have nown:∀ c y,H c=some (.own y)→c≠x:=fun c y r z=>by subst z;rw[r]at mu;exact mu
  have ntup:∀ c xs,H c=some (.tup xs)→c≠x:=fun c xs r z=>by subst z;rw[r]at mu;exact mu
  by_cases hb:b=x
  · subst hb;rw[ag]at q;cases q;exact new
  · rw[ai hb]at q
    by_cases hbe:b=e
    · have q':H b=some (.own x):=by
        rcases he with z | z
        · exact absurd (hbe.trans z) hb
        · rw[hbe];exact z
      rw[q]at q';cases q'
      obtain⟨v,hv⟩:=heo
      exact⟨v,by rw[hbe];exact hv⟩
    · refine(ok b u q).stay (fun c v hc r=>k c v ?_ r) (fun c r=>by rw[ai (nown c b r)];exact r) fun c xs r=>by rw[ai (ntup c xs r)];exact r
      rcases hc with rfl | hc
      · exact hbe
      · rintro rfl
        rcases he with z | z
        · exact nown c b hc z
        · rw[hc]at z;cases z;exact hb rfl
end
structure Un (fs ex:List Addr) (H H':Hp) (h h':Heap):Prop where
  keep:∀ b o,h.get? b=some o→H b=none→b∉fs→b∉ex→h'.get? b=some o
  slot:∀ b o,h.get? b=some o→H b=none→b∈fs→b∉ex→∃ sl,h'.get? b=some { o with slots:=sl }
  free:∀ b o,h.get? b=some o→H b=none→b∉ex→H' b=none
  there:∀ b o,h.get? b=some o→b∉ex→∃ o',h'.get? b=some o'
  tups:∀ b xs,H b=some (.tup xs)→H' b=some (.tup xs)
  frzs:∀ b o u,H b=some (.frz o u)→H' b=some (.frz o u)
  tbls:∀ b ps,H b=some (.tbl ps)→∃ more,H' b=some (.tbl (ps++more))
section
variable {fs fs' ex ex':List Addr} {H H1 H2:Hp} {h h1 h2 h':Heap} {a x e:Addr} {o:HO}
theorem Un.any (u:Un fs ex H H1 h h1) {b:Addr} {ob:Obj} (q:h.get? b=some ob) (n:H b=none) (hx:b∉ex):∃ sl,h1.get? b=some { ob with slots:=sl }:=by
  by_cases hb:b∈fs
  · exact u.slot b ob q n hb hx
  · exact⟨ob.slots,u.keep b ob q n hb hx⟩
theorem Un.trans (a:Un fs ex H H1 h h1) (b:Un fs ex H1 H2 h1 h2):Un fs ex H H2 h h2 where
  keep:=fun c ob q n hc hx=>b.keep c ob (a.keep c ob q n hc hx) (a.free c ob q n hx) hc hx
  slot:=fun c ob q n hc hx=>by
    obtain⟨sl,e1⟩:=a.slot c ob q n hc hx
    obtain⟨sl',e2⟩:=b.slot c _ e1 (a.free c ob q n hx) hc hx
    exact⟨sl',e2⟩
  free:=fun c ob q n hx=>by
    obtain⟨o',e1⟩:=a.there c ob q hx
    exact b.free c o' e1 (a.free c ob q n hx) hx
  there:=fun c ob q hx=>by
    obtain⟨o',e1⟩:=a.there c ob q hx
    exact b.there c o' e1 hx
  tups:=fun c xs q=>b.tups c xs (a.tups c xs q)
  frzs:=fun c ob xs q=>b.frzs c ob xs (a.frzs c ob xs q)
  tbls:=fun c ps q=>by
    obtain⟨m1,e1⟩:=a.tbls c ps q
    obtain⟨m2,e2⟩:=b.tbls c _ e1
    exact⟨m1++m2,by rw[e2,Array.append_assoc]⟩
theorem Un.kept (k:∀ b u,h.get? b=some u→h'.get? b=some u):Un fs ex H H h h' :=
  ⟨fun b ob q _ _ _=>k b ob q,fun b ob q _ _ _=>⟨ob.slots,k b ob q⟩,fun _ _ _ n _=>n,fun b ob q _=>⟨ob,k b ob q⟩,fun _ _ q=>q,fun _ _ _ q=>q,fun _ ps q=>⟨#[],by rw[q];simp⟩⟩
theorem Un.refl:Un fs ex H H h h:=Un.kept fun _ _ q=>q
theorem Un.laid (k:∀ b u,h.get? b=some u→h'.get? b=some u) (hp:h.objs.size≤a) (hn:H a=none):Un fs ex H (upd H a o) h h' where
  keep:=fun b u q _ _ _=>k b u q
  slot:=fun b u q _ _ _=>⟨u.slots,k b u q⟩
  free:=fun b u q n _=>by rw[ai (Nat.ne_of_lt (Nat.lt_of_lt_of_le (Heap.lt_size q) hp))];exact n
  there:=fun b u q _=>⟨u,k b u q⟩
  tups:=fun b xs q=>by rw[ai (zan q hn)];exact q
  frzs:=fun b u xs q=>by rw[ai (zan q hn)];exact q
  tbls:=fun b ps q=>⟨#[],by rw[ai (zan q hn),q];simp⟩
theorem Un.write (mu:Mut (H x)) (he:e=x∨H e=some (.own x)) (k:∀ b u,b≠e→h.get? b=some u→h'.get? b=some u) (heo:∃ u,h'.get? e=some u):Un fs ex H (upd H x o) h h':=by
  have hx:∀ b,H b=none→b≠x:=fun b n z=>by subst z;rw[n]at mu;exact mu
  have hb:∀ b,H b=none→b≠e:=fun b n z=>by
    subst z
    rcases he with r | r
    · exact hx b n r
    · rw[n]at r;cases r
  have hm:∀ b u,H b=some u→¬Mut (some u)→b≠x:=fun b u q nm z=>by subst z;rw[q]at mu;exact nm mu
  refine⟨fun b u q n _ _=>k b u (hb b n) q,fun b u q n _ _=>⟨u.slots,k b u (hb b n) q⟩,fun b u q n _=>by rw[ai (hx b n)];exact n,fun b u q _=>?_,
    fun b xs q=>by rw[ai (hm b _ q fun z=>z)];exact q,fun b u xs q=>by rw[ai (hm b _ q fun z=>z)];exact q,fun b ps q=>⟨#[],by rw[ai (hm b _ q fun z=>z),q];simp⟩⟩
  by_cases hbe:b=e
  · subst hbe;exact heo
  · exact⟨u,k b u hbe q⟩
end
def trk (h:Heap) (H:Hp):List Addr:=(List.range h.objs.size).filter fun a=>(H a).isSome
def zdv (h:Heap) (H:Hp):Heap:=PySem.W.hideAll h (trk h H)
theorem zjJ (h:Heap) (H:Hp):(zdv h H).objs.size=h.objs.size:=PySem.W.hideAll_size _ _
theorem zki {h:Heap} {H:Hp} {b:Addr} {o:Obj} (e:h.get? b=some o) (n:H b=none):(zdv h H).get? b=some o :=
  PySem.W.hideAll_get _ e fun hm=>by
    have q:(H b).isSome=true:=(List.mem_filter.mp hm).2
    rw[n]at q;simp at q
theorem zk7 {h:Heap} {H:Hp} {b:Addr} {o:Obj} (e:(zdv h H).get? b=some o):h.get? b=some o∧H b=none:=by
  have e':h.get? b=some o:=PySem.W.of_hideAll (trk h H) e
  refine⟨e',?_⟩
  cases q:H b with
  | none=>rfl
  | some x =>
    have hm:b∈trk h H:=List.mem_filter.mpr ⟨List.mem_range.mpr (Heap.lt_size e'),by simp [q]⟩
    have z:(zdv h H).get? b=none:=PySem.W.hideAll_none (trk h H) hm
    rw[z]at e;cases e
def zlo (g h:Heap) (L:Addr):List (Addr × Obj):=(List.range h.objs.size).filterMap fun a=>if a=L∨(g.get? a).isSome=true then none else(h.get? a).map fun o=>(a,o)
def rest (g h:Heap) (L d:Addr):List (Addr × Obj):=(zlo g h L).filter fun p=>decide (p.1≠d)
end L2
namespace L2
open PySem PySem.Spec PyProof.Rows
structure Mod (K:PySem.W.Frag) (mg:Str→Option Value) (base:Heap):Prop where
  kin:K.In base
  glob:base.Ns mainGlobals mg
  blt:∃ mb,base.Ns builtinsNs mb∧∀ x:Str,x≠"__name__"→mb x=bootBuiltins x
  nolimit:base.NoLimit
structure Cx where
  prog:Program
  w:World
  K:PySem.W.Frag
  mg:Str→Option Value
  base:Heap
  A:Around
  N:List Str
  s₀:Shared
  H₀:Hp
  env:Env
  outer:List Env
  stack:List Env
  ex:List Addr
  fn:Str→Bool
  calm:Bool
  pn:List (Addr × Obj)
  xe:Value→Shared→Prop
  ext:List (Str × Value):=[]
def frs (l:List Env):List Addr:=l.filterMap (·.frame)
abbrev Cx.fs (X:Cx):List Addr:=frs X.outer
def Vis (sc:Scope) (x:Str):Prop:=sc.names.lookup x=some .local∨sc.names.lookup x=some .cell∨sc.names.lookup x=some .free
def Loc (sc:Scope) (x:Str):Prop:=sc.names.lookup x=some .local∨sc.names.lookup x=some .cell
def Look (env:Env) (h:Heap) (m:Str→Option Value) (x:Str) (u:Value):Prop :=
  (env.kindOf x=some .local∧m x=some u)∨((env.kindOf x=some .cell∨env.kindOf x=some .free)∧∃ c,env.cells.lookup x=some c∧h.IsCell c (some u))
structure Cx.Ok (X:Cx):Prop where
  mod:Mod X.K X.mg X.base
  kind:X.env.scope.kind=.function
  glob:X.env.globals=mainGlobals
  blt:X.env.builtins=builtinsNs
  above:X.s₀.heap.objs.size≤X.env.locals
  inj:∀ x y c,X.env.cells.lookup x=some c→X.env.cells.lookup y=some c→x=y
  has:∀ x,(X.env.kindOf x=some .cell∨X.env.kindOf x=some .free)→∃ c,X.env.cells.lookup x=some c
  cab:∀ x c,X.fn x=true→X.env.cells.lookup x=some c→X.s₀.heap.objs.size≤c
  hd:X.calm=true→X.A.handled=none
  frames:X.A.frames=some X.stack
  stk:X.stack=X.outer∨(X.stack=X.env :: X.outer∧X.env.frame=some X.env.locals)
  exf:∀ b∈X.ex,b≠X.env.locals∧∀ x c,X.env.cells.lookup x=some c→c≠b
  bs:∀ b o,X.base.get? b=some o→X.s₀.heap.get? b=some o∧X.H₀ b=none
  bsz:X.base.objs.size≤X.s₀.heap.objs.size
  noex:∀ b o,X.base.get? b=some o→b∉X.ex
  exfs:∀ b∈X.ex,b∉X.fs
  funs:X.s₀.heap.FunFrames X.base X.outer
  frf:∀ b∈X.fs,X.H₀ b=none
structure Inv (X:Cx) (pins:List (Addr × Obj)) (σ:List (Option V)) (H:Hp) (s:Shared):Prop where
  ok:X.Ok
  os:s.os=X.s₀.os
  bare:AllBare s.gens
  base:Un X.fs X.ex X.H₀ H X.s₀.heap s.heap
  loc:∃ m,s.heap.Ns X.env.locals m∧∀(i:Nat) (x:Str) (v:V),X.N[i]?=some x→σ[i]?=some (some v)→Vis X.env.scope x→∃ u,ax v u∧Look X.env s.heap m x u
  cell:∀ x c,X.env.cells.lookup x=some c→∃ v,s.heap.IsCell c v
  free:H X.env.locals=none
  freeC:∀ x c,X.env.cells.lookup x=some c→H c=none
  pin:∀ p∈X.pn++pins,s.heap.get? p.1=some p.2∧H p.1=none∧p.1≠X.env.locals∧p.1∉X.fs∧∀ v,p.2.data≠.cell v
  hok:HOk X.prog X.w H s.heap
  len:σ.length=X.N.length
  ext:∃ m,s.heap.Ns X.env.locals m∧∀ p∈X.ext,p.1∉X.N∧Look X.env s.heap m p.1 p.2
theorem ns_inj {h:Heap} {a:Addr} {m m':Str→Option Value} (x:h.Ns a m) (y:h.Ns a m'):m=m':=by
  obtain⟨o,es,ep,e,d,_,r⟩:=x
  obtain⟨o',es',ep',e',d',_,r'⟩:=y
  rw[e]at e';cases e'
  rw[d]at d';cases d'
  funext n
  rw[←r n,←r' n]
theorem zdr {P:Str × Value→Prop}:∀ p∈([]:List (Str × Value)),P p:=fun _ h=>nomatch h
section
variable {X:Cx} {pins:List (Addr × Obj)} {σ:List (Option V)} {H H':Hp} {s:Shared} {h':Heap}
theorem Cx.Ok.nofr (ok:X.Ok) {b:Addr} {o:Obj} (e:X.base.get? b=some o):b∉X.fs:=fun hb=>by
  have:=(ok.funs.mem hb).1
  rw[e]at this;cases this
theorem Inv.bs (I:Inv X pins σ H s):∀ b o,X.base.get? b=some o→s.heap.get? b=some o∧H b=none:=fun b o e =>
  ⟨I.base.keep b o (I.ok.bs b o e).1 (I.ok.bs b o e).2 (I.ok.nofr e) (I.ok.noex b o e),I.base.free b o (I.ok.bs b o e).1 (I.ok.bs b o e).2 (I.ok.noex b o e)⟩
theorem Inv.bk (I:Inv X pins σ H s):∀ b o,X.base.get? b=some o→s.heap.get? b=some o:=fun b o e=>(I.bs b o e).1
theorem Inv.mod (I:Inv X pins σ H s):Mod X.K X.mg X.base:=I.ok.mod
theorem Inv.kIn (I:Inv X pins σ H s):X.K.In s.heap:=I.ok.mod.kin.keeps I.bk
theorem Inv.fr (I:Inv X pins σ H s):∃ m,Fr X.base X.env.locals s.heap m :=
  let ⟨m,hn,_⟩:=I.loc
  ⟨m,hn,I.bk,Nat.le_trans I.ok.bsz I.ok.above⟩
theorem Inv.lt (I:Inv X pins σ H s):X.env.locals < s.heap.objs.size:=let ⟨_,hn,_⟩:=I.loc;hn.lt
theorem Inv.sz (I:Inv X pins σ H s):X.s₀.heap.objs.size≤s.heap.objs.size:=Nat.le_trans I.ok.above (Nat.le_of_lt I.lt)
theorem Inv.nofs (I:Inv X pins σ H s) {a:Addr} (h:s.heap.objs.size≤a):a∉X.fs:=fun hb=>by
  obtain⟨_,o,ho,_⟩:=I.ok.funs.mem hb
  exact absurd (Nat.lt_of_lt_of_le (Heap.lt_size ho) (Nat.le_trans I.sz h)) (Nat.lt_irrefl _)
theorem Inv.cne (I:Inv X pins σ H s):∀ x c,X.env.cells.lookup x=some c→c≠X.env.locals:=fun x c e z=>by
  obtain⟨v,o,ho,hd⟩:=I.cell x c e
  obtain⟨m,⟨o',es,ep,ho',hd',_⟩,_⟩:=I.loc
  rw[z,ho']at ho;cases ho;rw[hd']at hd;cases hd
theorem Inv.funs (I:Inv X pins σ H s):s.heap.FunFrames X.base X.outer:=by
  have all:∀(l:List Env),(∀ b∈frs l,b∈X.fs)→X.s₀.heap.FunFrames X.base l→s.heap.FunFrames X.base l:=by
    intro l
    induction l with
    | nil=>intro _ _;trivial
    | cons env r ih =>
      intro hs hl
      obtain⟨hk,⟨L,o,hf,hn,ho,hd⟩,hr⟩:=hl
      have hL:L∈X.fs:=hs L (by unfold frs;rw[List.filterMap_cons,hf];exact List.mem_cons_self)
      obtain⟨sl,e⟩:=I.base.slot L o ho (I.ok.frf L hL) hL fun z=>I.ok.exfs L z hL
      exact⟨hk,⟨L,_,hf,hn,e,hd⟩,ih (fun b hb=>hs b (by unfold frs;rw[List.filterMap_cons,hf];exact List.mem_cons_of_mem _ hb)) hr⟩
  exact all X.outer (fun _ hb=>hb) I.ok.funs
theorem Inv.stack (I:Inv X pins σ H s):s.heap.FunFrames X.base X.stack:=by
  rcases I.ok.stk with e | ⟨e,hf⟩
  · rw[e];exact I.funs
  · rw[e]
    obtain⟨m,hn,_⟩:=I.loc
    refine .cons (by rw[I.ok.kind];decide) hf hn ?_ I.funs
    exact Heap.get?_none_of_le (Nat.le_trans I.ok.bsz I.ok.above)
theorem Inv.stkSub (I:Inv X pins σ H s):∀ b∈frs X.stack,b∈X.env.locals :: X.fs:=fun b hb=>by
  rcases I.ok.stk with e | ⟨e,hf⟩
  · rw[e]at hb;exact List.mem_cons_of_mem _ hb
  · rw[e]at hb
    unfold frs at hb
    rw[List.filterMap_cons,hf]at hb
    exact hb
theorem Inv.stkFree (I:Inv X pins σ H s):∀ b∈frs X.stack,H b=none:=fun b hb=>by
  rcases List.mem_cons.mp (I.stkSub b hb) with e | hb
  · rw[e];exact I.free
  · obtain⟨_,o,ho,_⟩:=I.ok.funs.mem hb
    exact I.base.free b o ho (I.ok.frf b hb) fun z=>I.ok.exfs b z hb
theorem Inv.step {g':Array GenState} {t':Nat} {d':Drawn} {ch:List Addr} (I:Inv X pins σ H s)
    (hch:∀ b∈ch,(b∈X.ex∨X.s₀.heap.objs.size≤b)∧b≠X.env.locals∧(∀ x c,X.env.cells.lookup x=some c→c≠b)∧∀ p∈X.pn++pins,p.1≠b)
    (keep:∀ b o,b≠X.env.locals→b∉X.fs→b∉ch→s.heap.get? b=some o→H b=none→h'.get? b=some o)
    (slot:∀ b o,b≠X.env.locals→b∈X.fs→b∉ch→s.heap.get? b=some o→H b=none→∃ sl,h'.get? b=some { o with slots:=sl }) (free:∀ b o,b∉ch→s.heap.get? b=some o→H b=none→H' b=none)
    (there:∀ b o,b∉ch→s.heap.get? b=some o→∃ o',h'.get? b=some o')
    (tups:∀ b xs,H b=some (.tup xs)→H' b=some (.tup xs)) (frzs:∀ b o u,H b=some (.frz o u)→H' b=some (.frz o u)) (tbls:∀ b ps,H b=some (.tbl ps)→∃ more,H' b=some (.tbl (ps++more)))
    (ns:∀ m,s.heap.Ns X.env.locals m→h'.Ns X.env.locals m) (hok:HOk X.prog X.w H' h') (hg:AllBare g') :
    Inv X pins σ H' { s with heap:=h',gens:=g',drawn:=d',toks:=t' }:=by
  have neL:∀ b o,X.s₀.heap.get? b=some o→b≠X.env.locals:=fun b o e=>Nat.ne_of_lt (Nat.lt_of_lt_of_le (Heap.lt_size e) I.ok.above)
  have neC:∀ b o,X.s₀.heap.get? b=some o→b∉X.ex→b∉ch:=fun b o e hx hb=>by
    rcases(hch b hb).1 with z | z
    · exact hx z
    · exact absurd (Nat.lt_of_lt_of_le (Heap.lt_size e) z) (Nat.lt_irrefl _)
  have cellK:∀ x c,X.env.cells.lookup x=some c→∀ v,s.heap.IsCell c v→h'.IsCell c v:=fun x c e v ⟨o,ho,hd⟩=>by
    have nch:c∉ch:=fun z=>(hch c z).2.2.1 x c e rfl
    by_cases hc:c∈X.fs
    · obtain⟨sl,q⟩:=slot c o (I.cne x c e) hc nch ho (I.freeC x c e)
      exact⟨_,q,hd⟩
    · exact⟨o,keep c o (I.cne x c e) hc nch ho (I.freeC x c e),hd⟩
  refine⟨I.ok,I.os,hg,⟨fun b o e n hb hx=>?_,fun b o e n hb hx=>?_,fun b o e n hx=>?_,fun b o e hx=>?_,fun b xs e=>tups b xs (I.base.tups b xs e),fun b o xs e=>frzs b o xs (I.base.frzs b o xs e),fun b ps e=>?_⟩,?_,fun x c e=>?_,?_,fun x c e=>?_,fun p hp=>?_,hok,I.len,?_⟩
  · exact keep b o (neL b o e) hb (neC b o e hx) (I.base.keep b o e n hb hx) (I.base.free b o e n hx)
  · obtain⟨sl,e1⟩:=I.base.slot b o e n hb hx
    obtain⟨sl',e2⟩:=slot b _ (neL b o e) hb (neC b o e hx) e1 (I.base.free b o e n hx)
    exact⟨sl',e2⟩
  · obtain⟨o',e1⟩:=I.base.there b o e hx
    exact free b o' (neC b o e hx) e1 (I.base.free b o e n hx)
  · obtain⟨o',e1⟩:=I.base.there b o e hx
    exact there b o' (neC b o e hx) e1
  · obtain⟨m1,e1⟩:=I.base.tbls b ps e
    obtain⟨m2,e2⟩:=tbls b _ e1
    exact⟨m1++m2,by rw[e2,Array.append_assoc]⟩
  · obtain⟨m,hn,hl⟩:=I.loc
    refine⟨m,ns m hn,fun i x v e1 e2 e3=>?_⟩
    obtain⟨u,r,l⟩:=hl i x v e1 e2 e3
    refine⟨u,r,?_⟩
    rcases l with l | ⟨k,c,e,z⟩
    · exact .inl l
    · exact .inr ⟨k,c,e,cellK x c e _ z⟩
  · obtain⟨v,z⟩:=I.cell x c e
    exact⟨v,cellK x c e v z⟩
  · obtain⟨m,⟨o,_,_,ho,_⟩,_⟩:=I.loc
    exact free _ o (fun z=>(hch _ z).2.1 rfl) ho I.free
  · obtain⟨v,o,ho,hd⟩:=I.cell x c e
    exact free c o (fun z=>(hch c z).2.2.1 x c e rfl) ho (I.freeC x c e)
  · obtain⟨e,n,ne,nf,d⟩:=I.pin p hp
    have nch:p.1∉ch:=fun z=>(hch p.1 z).2.2.2 p hp rfl
    exact⟨keep p.1 p.2 ne nf nch e n,free p.1 p.2 nch e n,ne,nf,d⟩
  · obtain⟨m,hn,hl⟩:=I.ext
    refine⟨m,ns m hn,fun p hp=>⟨(hl p hp).1,?_⟩⟩
    rcases(hl p hp).2 with l | ⟨k,c,e,z⟩
    · exact .inl l
    · exact .inr ⟨k,c,e,cellK _ c e _ z⟩
theorem Inv.un {t':Nat} (I:Inv X pins σ H s) (u:Un X.fs [] H H' s.heap h') (hok:HOk X.prog X.w H' h'):Inv X pins σ H' { s with heap:=h',toks:=t' }:=by
  obtain⟨m,⟨o,es,ep,ho,r⟩,_⟩:=id I.loc
  obtain⟨sl,hL⟩:=u.any ho I.free (by simp)
  exact I.step (g':=s.gens) (d':=s.drawn) (ch:=[]) (fun _ z=>nomatch z) (fun b o _ hb _ e n=>u.keep b o e n hb (by simp)) (fun b o _ hb _ e n=>u.slot b o e n hb (by simp)) (fun b o _ e n=>u.free b o e n (by simp)) (fun b o _ e=>u.there b o e (by simp)) u.tups u.frzs u.tbls (fun m' hm=>by
    obtain⟨o',es',ep',ho',r'⟩:=hm
    rw[ho]at ho';cases ho'
    exact⟨_,es',ep',hL,r'⟩) hok I.bare
theorem Inv.call {g':Array GenState} {t':Nat} {d':Drawn} {ch:List Addr} (I:Inv X pins σ H s) (u:Un (frs X.stack) ch H H' s.heap h') (hok:HOk X.prog X.w H' h') (hg:AllBare g')
    (hch:∀ b∈ch,(b∈X.ex∨X.s₀.heap.objs.size≤b)∧b≠X.env.locals∧(∀ x c,X.env.cells.lookup x=some c→c≠b)∧∀ p∈X.pn++pins,p.1≠b) :
    Inv X pins σ H' { s with heap:=h',gens:=g',drawn:=d',toks:=t' }:=by
  obtain⟨m,⟨o,es,ep,ho,r⟩,_⟩:=id I.loc
  obtain⟨sl,hL⟩:=u.any ho I.free fun z=>(hch _ z).2.1 rfl
  exact I.step (ch:=ch) hch (fun b o hL hb hc e n=>u.keep b o e n (fun z=>(List.mem_cons.mp (I.stkSub b z)).elim hL hb) hc) (fun b o _ _ hc e n=>u.any e n hc) (fun b o hc e n=>u.free b o e n hc) (fun b o hc e=>u.there b o e hc) u.tups u.frzs u.tbls (fun m' hm=>by
    obtain⟨o',es',ep',ho',r'⟩:=hm
    rw[ho]at ho';cases ho'
    exact⟨_,es',ep',hL,r'⟩) hok hg
theorem Inv.turned {t':Nat} {it:Addr} (I:Inv X pins σ H s) (k:∀ b o,b≠it→s.heap.get? b=some o→h'.get? b=some o) (hn:H it=none) (hL:it≠X.env.locals)
    (h1:it∈X.ex∨X.s₀.heap.objs.size≤it) (h2:∀ x c,X.env.cells.lookup x=some c→c≠it) (h3:∀ p∈X.pn++pins,p.1≠it):Inv X pins σ H { s with heap:=h',toks:=t' }:=by
  have nit:∀ b u,H b=some u→b≠it:=fun b u e z=>by rw[z,hn]at e;cases e
  refine I.step (g':=s.gens) (d':=s.drawn) (ch:=[it]) (fun b hb=>?_) (fun b o _ _ hc e _=>k b o (fun z=>hc (by simp [z])) e) (fun b o _ _ hc e _=>⟨o.slots,k b o (fun z=>hc (by simp [z])) e⟩) (fun _ _ _ _ n=>n)
    (fun b o hc e=>⟨o,k b o (fun z=>hc (by simp [z])) e⟩) (fun _ _ e=>e) (fun _ _ _ e=>e) (fun b ps e=>⟨#[],by rw[e];simp⟩) (fun m hm=>?_) (fun b u e=>?_) I.bare
  · have e:b=it:=by simpa using hb
    subst e
    exact⟨h1,hL,h2,h3⟩
  · obtain⟨o,es,ep,ho,r⟩:=hm
    exact⟨o,es,ep,k _ o (Ne.symm hL) ho,r⟩
  · refine(I.hok b u e).stay (fun c v hc q=>k c v ?_ q) (fun _ q=>q) fun _ _ q=>q
    rcases hc with z | z
    · rw[z];exact nit b u e
    · exact nit c _ z
theorem Inv.tok (I:Inv X pins σ H s) (t:Nat):Inv X pins σ H { s with toks:=t }:=I.un (h':=s.heap) (t':=t) Un.refl I.hok
theorem Inv.kept {t':Nat} (I:Inv X pins σ H s) (k:∀ b u,s.heap.get? b=some u→h'.get? b=some u):Inv X pins σ H { s with heap:=h',toks:=t' }:=I.un (Un.kept k) (I.hok.kept k)
theorem Inv.laid {a:Addr} {o:HO} {t':Nat} (I:Inv X pins σ H s) (k:∀ b u,s.heap.get? b=some u→h'.get? b=some u) (hp:s.heap.objs.size≤a) (new:zbq X.prog X.w (upd H a o) h' a o) :
    Inv X pins σ (upd H a o) { s with heap:=h',toks:=t' }:=I.un (Un.laid k hp (I.hok.fresh hp)) (I.hok.laid k hp new)
theorem Inv.write {x e:Addr} {o:HO} {t':Nat} (I:Inv X pins σ H s) (mu:Mut (H x)) (he:e=x∨H e=some (.own x)) (k:∀ b u,b≠e→s.heap.get? b=some u→h'.get? b=some u) (heo:∃ u,h'.get? e=some u)
    (new:zbq X.prog X.w (upd H x o) h' x o):Inv X pins σ (upd H x o) { s with heap:=h',toks:=t' }:=I.un (Un.write mu he k heo) (I.hok.write mu he k heo new)
theorem Inv.pins_of {pins':List (Addr × Obj)} (I:Inv X pins σ H s) (h:∀ p∈pins',s.heap.get? p.1=some p.2∧H p.1=none∧p.1≠X.env.locals∧p.1∉X.fs∧∀ v,p.2.data≠.cell v):Inv X pins' σ H s :=
  ⟨I.ok,I.os,I.bare,I.base,I.loc,I.cell,I.free,I.freeC,fun p hp=>(List.mem_append.mp hp).elim (fun z=>I.pin p (List.mem_append_left _ z)) (h p),I.hok,I.len,I.ext⟩
theorem ze1 {N:List Str} (hN:N.Nodup) {i j:Nat} {x:Str} (a:N[i]?=some x) (b:N[j]?=some x):i=j:=by
  obtain⟨h1,e1⟩:=List.getElem?_eq_some_iff.mp a
  obtain⟨h2,e2⟩:=List.getElem?_eq_some_iff.mp b
  exact(List.getElem_inj hN).mp (e1.trans e2.symm)
theorem zf2 {M:Model} {A:Around} {E:Value→Shared→Prop} {i:Nat} {x:Str} {v:V} {u:Value} {Q:Unit→Shared→Prop} (I:Inv X pins σ H s) (hN:X.N.Nodup) (hi:X.N[i]?=some x) (hx:Loc X.env.scope x) (r:ax v u)
    (h:∀ s',Inv X pins (σ.set i (some v)) H s'→(∃ a,Heap.SameBut a s.heap s'.heap∧(a=X.env.locals∨X.env.cells.lookup x=some a))→(∃ m,s'.heap.Ns X.env.locals m∧Look X.env s'.heap m x u)→Q () s') (hf:X.fn x=true∨X.env.scope.names.lookup x=some .local:=by first | exact .inl rfl | exact .inr rfl | assumption):wpAny M A (storeName X.env x u) Q E s:=by
  obtain⟨m,hn,hl⟩:=id I.loc
  have hcls:(X.env.scope.kind == .class||(X.env.scope.kind == .module&&X.env.locals != X.env.globals))=false:=by rw[I.ok.kind];rfl
  have hiσ:i < σ.length:=by rw[I.len];exact(List.getElem?_eq_some_iff.mp hi).1
  have cne:=I.cne
  have tracked:∀ {a:Addr} {h':Heap},(∃ o,s.heap.get? a=some o∧H a=none)→Heap.SameBut a s.heap h'→HOk X.prog X.w H h':=fun {a h'} ha hs b ob e=>by
    obtain⟨_,_,hfree⟩:=ha
    refine(I.hok b ob e).stay (fun c w' hc q=>(hs.2 c ?_).trans q) (fun _ q=>q) fun _ _ q=>q
    rintro rfl
    rcases hc with rfl | hc
    · rw[hfree]at e;cases e
    · rw[hfree]at hc;cases hc
  rcases hx with hk | hk
  · refine wpAny_storeName_local hk hn (fun h' hn' hs=>?_) hcls
    obtain⟨oL,_,_,hoL,_⟩:=id hn
    refine h _ ⟨I.ok,I.os,I.bare,⟨fun b o e n hb hx=>?_,fun b o e n hb hx=>?_,I.base.free,fun b o e hx=>?_,I.base.tups,I.base.frzs,I.base.tbls⟩,⟨_,hn',fun j y v' e1 e2 e3=>?_⟩,fun y c e=>?_,I.free,I.freeC,fun p hp=>?_,tracked ⟨oL,hoL,I.free⟩ hs,by simpa using I.len,?_⟩ ⟨_,hs,.inl rfl⟩ ⟨_,hn',.inl ⟨hk,by simp⟩⟩
    · exact(hs.2 b (Nat.ne_of_lt (Nat.lt_of_lt_of_le (Heap.lt_size e) I.ok.above))).trans (I.base.keep b o e n hb hx)
    · obtain⟨sl,e1⟩:=I.base.slot b o e n hb hx
      exact⟨sl,(hs.2 b (Nat.ne_of_lt (Nat.lt_of_lt_of_le (Heap.lt_size e) I.ok.above))).trans e1⟩
    · obtain⟨o',e1⟩:=I.base.there b o e hx
      exact⟨o',(hs.2 b (Nat.ne_of_lt (Nat.lt_of_lt_of_le (Heap.lt_size e) I.ok.above))).trans e1⟩
    · by_cases hj:j=i
      · subst hj
        rw[hi]at e1;cases e1
        rw[List.getElem?_set_self hiσ]at e2
        cases e2
        exact⟨u,r,.inl ⟨hk,by simp⟩⟩
      · rw[List.getElem?_set_ne (Ne.symm hj)]at e2
        obtain⟨u',r',q⟩:=hl j y v' e1 e2 e3
        refine⟨u',r',?_⟩
        rcases q with ⟨k,e⟩ | ⟨k,c,e,z⟩
        · refine .inl ⟨k,?_⟩
          have:y≠x:=fun e=>hj (ze1 hN e1 (e ▸ hi))
          simp [this,e]
        · exact .inr ⟨k,c,e,z.sameBut hs (cne y c e)⟩
    · obtain⟨w',z⟩:=I.cell y c e
      exact⟨w',z.sameBut hs (cne y c e)⟩
    · obtain⟨e,n,ne,nf,d⟩:=I.pin p hp
      exact⟨(hs.2 p.1 ne).trans e,n,ne,nf,d⟩
    · obtain⟨m2,hn2,hl2⟩:=I.ext
      have em:=ns_inj hn2 hn
      subst em
      refine⟨_,hn',fun p hp=>⟨(hl2 p hp).1,?_⟩⟩
      rcases(hl2 p hp).2 with ⟨k,e⟩ | ⟨k,c,e,z⟩
      · refine .inl ⟨k,?_⟩
        have:p.1≠x:=fun e=>(hl2 p hp).1 (e ▸ List.mem_of_getElem? hi)
        simp [this,e]
      · exact .inr ⟨k,c,e,z.sameBut hs (cne _ c e)⟩
  · have hfn:X.fn x=true:=by
      rcases hf with z | z
      · exact z
      · rw[z]at hk;cases hk
    obtain⟨c,hc⟩:=I.ok.has x (.inl hk)
    obtain⟨w',z⟩:=I.cell x c hc
    refine wpAny_storeName_cell I.ok.kind hk hc z (fun h' hc' hs=>?_)
    obtain⟨oc,hoc,hocd⟩:=id z
    refine h { s with heap:=h' } ⟨I.ok,I.os,I.bare,⟨fun b o e n hb hx=>?_,fun b o e n hb hx=>?_,I.base.free,fun b o e hx=>?_,I.base.tups,I.base.frzs,I.base.tbls⟩,⟨m,hn.sameBut hs (Ne.symm (cne x c hc)),fun j y v' e1 e2 e3=>?_⟩,fun y c' e=>?_,I.free,I.freeC,fun p hp=>?_,tracked ⟨oc,hoc,I.freeC x c hc⟩ hs,by simpa using I.len,?_⟩ ⟨c,hs,.inr hc⟩ ⟨m,hn.sameBut hs (Ne.symm (cne x c hc)),.inr ⟨.inl hk,c,hc,hc'⟩⟩
    · exact(hs.2 b (Nat.ne_of_lt (Nat.lt_of_lt_of_le (Heap.lt_size e) (I.ok.cab x c hfn hc)))).trans (I.base.keep b o e n hb hx)
    · obtain⟨sl,e1⟩:=I.base.slot b o e n hb hx
      exact⟨sl,(hs.2 b (Nat.ne_of_lt (Nat.lt_of_lt_of_le (Heap.lt_size e) (I.ok.cab x c hfn hc)))).trans e1⟩
    · obtain⟨o',e1⟩:=I.base.there b o e hx
      exact⟨o',(hs.2 b (Nat.ne_of_lt (Nat.lt_of_lt_of_le (Heap.lt_size e) (I.ok.cab x c hfn hc)))).trans e1⟩
    · by_cases hj:j=i
      · subst hj
        rw[hi]at e1;cases e1
        rw[List.getElem?_set_self hiσ]at e2
        cases e2
        exact⟨u,r,.inr ⟨.inl hk,c,hc,hc'⟩⟩
      · rw[List.getElem?_set_ne (Ne.symm hj)]at e2
        obtain⟨u',r',q⟩:=hl j y v' e1 e2 e3
        refine⟨u',r',?_⟩
        rcases q with q | ⟨k,c',e,z'⟩
        · exact .inl q
        · refine .inr ⟨k,c',e,z'.sameBut hs ?_⟩
          rintro rfl
          exact hj (ze1 hN e1 (I.ok.inj _ _ _ e hc ▸ hi))
    · by_cases hcc:c'=c
      · subst hcc;exact⟨_,hc'⟩
      · obtain⟨w2,z2⟩:=I.cell y c' e
        exact⟨w2,z2.sameBut hs hcc⟩
    · obtain⟨e,n,ne,nf,d⟩:=I.pin p hp
      refine⟨(hs.2 p.1 ?_).trans e,n,ne,nf,d⟩
      intro q
      rw[q,hoc]at e
      have q':oc=p.2:=Option.some.inj e
      exact d w' (by rw[←q'];exact hocd)
    · obtain⟨m2,hn2,hl2⟩:=I.ext
      refine⟨m2,hn2.sameBut hs (Ne.symm (cne x c hc)),fun p hp=>⟨(hl2 p hp).1,?_⟩⟩
      rcases(hl2 p hp).2 with q | ⟨k,c',e,z'⟩
      · exact .inl q
      · refine .inr ⟨k,c',e,z'.sameBut hs ?_⟩
        rintro rfl
        exact(hl2 p hp).1 (I.ok.inj _ _ _ e hc ▸ List.mem_of_getElem? hi)
theorem zc0 {M:Model} {A:Around} {E:Value→Shared→Prop} {i:Nat} {x:Str} {v:V} {u:Value} {Q:Unit→Shared→Prop} (I:Inv X pins σ H s) (hN:X.N.Nodup) (hi:X.N[i]?=some x) (hx:Loc X.env.scope x) (r:ax v u)
    (h:∀ s',Inv X pins (σ.set i (some v)) H s'→(∃ a,Heap.SameBut a s.heap s'.heap∧(a=X.env.locals∨X.env.cells.lookup x=some a))→Q () s') (hf:X.fn x=true∨X.env.scope.names.lookup x=some .local:=by first | exact .inl rfl | exact .inr rfl | assumption):wpAny M A (storeName X.env x u) Q E s:=zf2 I hN hi hx r (fun s' I' a _=>h s' I' a) hf
theorem zdz {M:Model} {A:Around} {E:Value→Shared→Prop} {i:Nat} {x:Str} {v:V} {u:Value} {Q:Unit→Shared→Prop} (I:Inv X pins σ H s) (hN:X.N.Nodup) (hi:X.N[i]?=some x) (hx:Loc X.env.scope x) (r:ax v u)
    (h:∀ s',Inv X pins (σ.set i (some v)) H s'→Q () s') (hf:X.fn x=true∨X.env.scope.names.lookup x=some .local:=by first | exact .inl rfl | exact .inr rfl | assumption):wpAny M A (storeName X.env x u) Q E s :=
  zc0 I hN hi hx r (fun s' I' _=>h s' I') hf
theorem Inv.call' {s':Shared} {ch:List Addr} (I:Inv X pins σ H s) (ho:s'.os=s.os) (u:Un (frs X.stack) ch H H' s.heap s'.heap) (hok:HOk X.prog X.w H' s'.heap) (hg:AllBare s'.gens)
    (hch:∀ b∈ch,(b∈X.ex∨X.s₀.heap.objs.size≤b)∧b≠X.env.locals∧(∀ x c,X.env.cells.lookup x=some c→c≠b)∧∀ p∈X.pn++pins,p.1≠b):Inv X pins σ H' s':=by
  obtain⟨h',g',d',t',o'⟩:=s'
  have e:o'=s.os:=ho
  subst e
  exact I.call (g':=g') (t':=t') (d':=d') u hok hg hch
end
abbrev XK:=Value→Option Addr→Hp→Prop
abbrev St:=List (Option V)
abbrev VK:=V→Hp→Prop
abbrev TE:=St→Hp→VK→Prop
abbrev TT:=St→Hp→(Bool→Hp→Prop)→Prop
abbrev TA:=St→Hp→(List V→Hp→Prop)→Prop
structure zaM where
  nx:St→Hp→Prop
  rt:VK
  bk:St→Hp→Prop:=fun _ _=>False
  ct:St→Hp→Prop:=fun _ _=>False
abbrev TS:=zaM→St→Hp→Prop
def EP (X:Cx) (pins:List (Addr × Obj)) (σ:St) (Q:VK) (u:Value) (s':Shared):Prop:=∃ v H',Inv X pins σ H' s'∧ax v u∧Q v H'
def TP (X:Cx) (pins:List (Addr × Obj)) (σ:St) (Q:Bool→Hp→Prop) (b:Bool) (s':Shared):Prop:=∃ H',Inv X pins σ H' s'∧Q b H'
def AP (X:Cx) (pins:List (Addr × Obj)) (σ:St) (Q:List V→Hp→Prop) (us:List Value) (s':Shared):Prop:=∃ vs H',Inv X pins σ H' s'∧aw vs us∧Q vs H'
def SP (X:Cx) (pins:List (Addr × Obj)) (D:zaM) (f:Flow) (s':Shared):Prop :=
  match f with
  | .next=>∃ σ' H',Inv X pins σ' H' s'∧D.nx σ' H'
  | .brk=>∃ σ' H',Inv X pins σ' H' s'∧D.bk σ' H'
  | .cont=>∃ σ' H',Inv X pins σ' H' s'∧D.ct σ' H'
  | .ret u=>∃ v σ' H',Inv X pins σ' H' s'∧ax v u∧D.rt v H'
def PE (X:Cx) (e:Expr) (t:TE):Prop :=
  ∀(pins:List (Addr × Obj)) (s:Shared) (σ:St) (H:Hp) (Q:VK),Inv X pins σ H s→t σ H Q→wpAny (model X.prog X.w) X.A (eval e X.env) (EP X pins σ Q) X.xe s
def PT (X:Cx) (e:Expr) (t:TT):Prop :=
  ∀(pins:List (Addr × Obj)) (s:Shared) (σ:St) (H:Hp) (Q:Bool→Hp→Prop),Inv X pins σ H s→t σ H Q→wpAny (model X.prog X.w) X.A (isTrue e X.env (eval e X.env)) (TP X pins σ Q) X.xe s
def PW (X:Cx) (e:Expr) (t:TT):Prop :=
  ∀(whole:Sem Value) (pins:List (Addr × Obj)) (s:Shared) (σ:St) (H:Hp) (Q:Bool→Hp→Prop),Inv X pins σ H s→t σ H Q→wpAny (model X.prog X.w) X.A (isTrue e X.env whole) (TP X pins σ Q) X.xe s
theorem PW.pt {X:Cx} {e:Expr} {t:TT} (h:PW X e t):PT X e t:=h _
def PA (X:Cx) (es:List Expr) (t:TA):Prop :=
  ∀(pos:Pos) (pins:List (Addr × Obj)) (s:Shared) (σ:St) (H:Hp) (Q:List V→Hp→Prop),Inv X pins σ H s→t σ H Q→wpAny (model X.prog X.w) X.A (spliced (backTo pos (starEach es X.env))) (AP X pins σ Q) X.xe s
def PS (X:Cx) (st:Stmt) (t:TS):Prop :=
  ∀(pins:List (Addr × Obj)) (s:Shared) (σ:St) (H:Hp) (D:zaM),Inv X pins σ H s→t D σ H→wpAny (model X.prog X.w) X.A (exec st X.env) (SP X pins D) X.xe s
def PSs (X:Cx) (st:List Stmt) (t:TS):Prop :=
  ∀(pins:List (Addr × Obj)) (s:Shared) (σ:St) (H:Hp) (D:zaM),Inv X pins σ H s→t D σ H→wpAny (model X.prog X.w) X.A (execs st X.env) (SP X pins D) X.xe s
theorem thn {α:Type} {t:Sem α} {Q Q':α→Shared→Prop} {M:Model} {A:Around} {E:Value→Shared→Prop} {s:Shared} (h:wpAny M A t Q E s) (hQ:∀ a s,Q a s→Q' a s):wpAny M A t Q' E s:=wpAny_mono h hQ fun _ _ x=>x
end L2
namespace L2
open PySem PySem.Spec PyProof.Rows
section
variable {X:Cx}
theorem bin {a b:Expr} {ta tb:TE} (ha:PE X a ta) (hb:PE X b tb) {pins:List (Addr × Obj)} {s:Shared} {σ:St} {H:Hp} {R:V→V→Hp→Prop} (I:Inv X pins σ H s) (h:ta σ H fun x H1=>tb σ H1 fun y H2=>R x y H2)
    {α:Type} {Q:α→Shared→Prop} {f:Value→Value→Sem α}
    (hf:∀ v u s2 x y H2,Inv X pins σ H2 s2→ax x v→ax y u→R x y H2→wpAny (model X.prog X.w) X.A (f v u) Q X.xe s2) :
    wpAny (model X.prog X.w) X.A (eval a X.env) (fun v s₁=>wpAny (model X.prog X.w) X.A (eval b X.env) (fun u s₂=>wpAny (model X.prog X.w) X.A (f v u) Q X.xe s₂) X.xe s₁) X.xe s:=by
  refine thn (ha pins s σ H _ I h) fun v s1 ⟨x,H1,I1,r1,q1⟩=>?_
  refine thn (hb pins s1 σ H1 _ I1 q1) fun u s2 ⟨y,H2,I2,r2,q2⟩=>?_
  exact hf v u s2 x y H2 I2 r1 r2 q2
inductive zdK (i:Nat):TE | mk {σ H Q} v:σ[i]?=some (some v)→Q v H→zdK i σ H Q
def tC (v:V):TE:=fun _ H Q=>Q v H
theorem pe_var {i:Nat} {x:Str} {pos:Pos} (hN:X.N[i]?=some x) (hv:Vis X.env.scope x) (hd:(x == ("__debug__":Str))=false:=by decide) (hcd:(x == ("__classdict__":Str))=false:=by decide):PE X (.Name x pos) (zdK i):=by
  intro pins s σ H Q I h
  obtain⟨v,e,h⟩:=h
  obtain⟨m,hn,hl⟩:=I.loc
  obtain⟨u,r,l⟩:=hl i x v hN e hv
  have fin:EP X pins σ Q u s:=⟨v,H,I,r,h⟩
  rcases l with ⟨hk,hm⟩ | ⟨hk,c,hc,hcell⟩
  · exact wpAny_Name (wpAny_loadName_local I.ok.kind hk hn hm fin) hd
  · rcases hk with hk | hk
    · exact wpAny_Name (wpAny_loadName_cell I.ok.kind hk hc hcell fin) hd
    · exact wpAny_Name (wpAny_loadName_free I.ok.kind hk hc hcell fin hcd) hd
theorem ah {i j pos}:PE X (.Constant (.int i) j pos) (tC (.int i)):=fun _ _ _ H _ I h=>wpAny_Constant_int ⟨.int i,H,I.tok _,⟨_,rfl⟩,h⟩
theorem zdx {b j pos}:PE X (.Constant (.bool b) j pos) (tC (.bl b)):=fun _ _ _ H _ I h=>Constant_bool ⟨.bl b,H,I,rfl,h⟩
theorem ak {x j pos}:PE X (.Constant (.str x) j pos) (tC (.str x)):=fun _ _ _ H _ I h=>Calls.Constant_str ⟨.str x,H,I.tok _,⟨_,rfl⟩,h⟩
def Gl (X:Cx) (x:Str):Prop:=X.env.kindOf x=some .globalImplicit
theorem zbZ {E:Value→Shared→Prop} {pins:List (Addr × Obj)} {s:Shared} {σ:St} {H:Hp} {x:Str} {u:Value} {pos:Pos} {Q:Value→Shared→Prop} (I:Inv X pins σ H s) (hg:Gl X x) (hm:X.mg x=some u) (h:Q u s)
    (hd:(x == ("__debug__":Str))=false:=by decide):wpAny (model X.prog X.w) X.A (eval (.Name x pos) X.env) Q E s :=
  Calls.Name_function_global I.ok.kind hg (Calls.loadGlobal_global (by rw[I.ok.glob];exact I.mod.glob.keeps I.bk) hm h) hd
theorem zfn {E:Value→Shared→Prop} {pins:List (Addr × Obj)} {s:Shared} {σ:St} {H:Hp} {x:Str} {u:Value} {pos:Pos} {Q:Value→Shared→Prop} (I:Inv X pins σ H s) (hg:Gl X x) (hm:X.mg x=none) (hv:bootBuiltins x=some u) (h:Q u s)
    (hn:x≠"__name__":=by decide) (hd:(x == ("__debug__":Str))=false:=by decide):wpAny (model X.prog X.w) X.A (eval (.Name x pos) X.env) Q E s:=by
  obtain⟨mb,h1,h2⟩:=I.mod.blt
  exact Calls.Name_function_global I.ok.kind hg (Calls.loadGlobal_builtin (by rw[I.ok.glob];exact I.mod.glob.keeps I.bk) hm (by rw[I.ok.blt];exact h1.keeps I.bk) ((h2 x hn).trans hv) h) hd
theorem za0 {x:Str} {v:V} {u:Value} {pos:Pos} (hg:Gl X x) (hm:X.mg x=some u) (r:ax v u) (hd:(x == ("__debug__":Str))=false:=by decide):PE X (.Name x pos) (tC v) :=
  fun _ _ _ H _ I h=>zbZ I hg hm ⟨v,H,I,r,h⟩ hd
theorem zkV {x:Str} {v:V} {u:Value} {pos:Pos} (hg:Gl X x) (hm:X.mg x=none) (hv:bootBuiltins x=some u) (r:ax v u) (hn:x≠"__name__":=by decide) (hd:(x == ("__debug__":Str))=false:=by decide):PE X (.Name x pos) (tC v) :=
  fun _ _ _ H _ I h=>zfn I hg hm hv ⟨v,H,I,r,h⟩ hn hd
variable {a b:Expr} {ta tb:TE} {pos:Pos}
def PC (X:Cx) (op:CmpOp) (a b:Expr) (t:TE):Prop :=
  ∀(pins:List (Addr × Obj)) (s:Shared) (σ:St) (H:Hp) (Q:VK),Inv X pins σ H s→t σ H Q →
    wpAny (model X.prog X.w) X.A (eval a X.env) (fun v s₁=>wpAny (model X.prog X.w) X.A (eval b X.env) (fun u s₂=>wpAny (model X.prog X.w) X.A (compareOp op v u) (EP X pins σ Q) X.xe s₂) X.xe s₁) X.xe s
inductive isB:V→Hp→(Bool→Hp→Prop)→Prop | mk {x H Q} c:x=.bl c→Q c H→isB x H Q
def tB (t:TE):TT:=fun σ H Q=>t σ H fun x H1=>isB x H1 Q
theorem pt_cmp {op:CmpOp} {t:TE} (h:PC X op a b t) (h1:behindInMarks op b=false:=by first | exact nobehind _ (by decide) (by decide) | rfl):PT X (.Compare a [op] [b] pos) (tB t):=by
  intro pins s σ H Q I hw
  refine wpAny_isTrue_Compare1 (thn (h pins s σ H _ I hw) fun v s1 h1=>thn h1 fun u s2 h2=>thn h2 fun c s3 ⟨x,H1,I1,r1,q1⟩=>?_) h1
  obtain⟨d,rfl,q⟩:=q1
  cases r1
  exact wpAny_truthy_bool ⟨H1,I1,q⟩
theorem zbr {e:Expr} {t:TE} (h:PE X e t) (he:∀ whole,isTrue e X.env whole=(do let v ←whole;standAt e.pos;holding [v] (truthy v)):=by intro _;rfl):PT X e (tB t):=by
  intro pins s σ H Q I hw
  refine isTrue_plain (thn (h pins s σ H _ I hw) fun v s1 ⟨x,H1,I1,r1,q1⟩=>?_) (he _)
  obtain⟨d,rfl,q⟩:=q1
  cases r1
  exact wpAny_truthy_bool ⟨H1,I1,q⟩
variable {tA tB':TT} {rest:List Expr}
def tAnd (t u:TT):TT:=fun σ H Q=>t σ H fun c H1=>if c=true then u σ H1 Q else Q false H1
def tOr (t u:TT):TT:=fun σ H Q=>t σ H fun c H1=>if c=true then Q true H1 else u σ H1 Q
def tNot (t:TT):TT:=fun σ H Q=>t σ H fun c H1=>Q (!c) H1
theorem zen (ha:PT X a tA):PW X (.BoolOp .And [a] pos) tA:=by
  intro wh pins s σ H Q I h
  refine isTrue_and (thn (ha pins s σ H Q I h) fun c s1 e=>?_)
  cases c with
  | true=>exact isTrue_and_nil e
  | false=>exact e
theorem zi1 (ha:PT X a tA):PW X (.BoolOp .Or [a] pos) tA:=by
  intro wh pins s σ H Q I h
  refine isTrue_or (thn (ha pins s σ H Q I h) fun c s1 e=>?_)
  cases c with
  | false=>exact isTrue_or_nil e
  | true=>exact e
theorem zfk (ha:PT X a tA) (hb:PW X (.BoolOp .And (b :: rest) pos) tB'):PW X (.BoolOp .And (a :: b :: rest) pos) (tAnd tA tB'):=by
  intro wh pins s σ H Q I h
  refine isTrue_and (thn (ha pins s σ H _ I h) fun c s1 ⟨H1,I1,q1⟩=>?_)
  cases c with
  | true=>exact hb wh pins s1 σ H1 Q I1 q1
  | false=>exact⟨H1,I1,q1⟩
theorem pw_or (ha:PT X a tA) (hb:PW X (.BoolOp .Or (b :: rest) pos) tB'):PW X (.BoolOp .Or (a :: b :: rest) pos) (tOr tA tB'):=by
  intro wh pins s σ H Q I h
  refine isTrue_or (thn (ha pins s σ H _ I h) fun c s1 ⟨H1,I1,q1⟩=>?_)
  cases c with
  | true=>exact⟨H1,I1,q1⟩
  | false=>exact hb wh pins s1 σ H1 Q I1 q1
theorem zb3 (ha:PT X a tA):PT X (.UnaryOp .Not a pos) (tNot tA):=by
  intro pins s σ H Q I h
  exact isTrue_not (ha pins s σ H (fun c H1=>Q (!c) H1) I h)
def tAndV (ta tb:TE):TE:=fun σ H Q=>ta σ H fun x H1=>∃ c,x=.bl c∧if c=true then tb σ H1 Q else Q (.bl false) H1
theorem zgM {op} {t:TE} (h:PE X a t):PE X (.BoolOp op [a] pos) t:=fun pins s σ H Q I hw=>BoolOp_one (h pins s σ H Q I hw)
theorem zdS (ha:PE X a ta) (hb:PE X (.BoolOp .And (b :: rest) pos) tb):PE X (.BoolOp .And (a :: b :: rest) pos) (tAndV ta tb):=by
  intro pins s σ H Q I h
  refine BoolOp_and (thn (ha pins s σ H _ I h) fun v s1 ⟨x,H1,I1,r1,q1⟩=>?_)
  obtain⟨c,rfl,q1⟩:=q1
  cases r1
  refine wpAny_truthy_bool ?_
  cases c with
  | true=>exact hb pins s1 σ H1 Q I1 q1
  | false=>exact⟨.bl false,H1,I1,rfl,q1⟩
def tIf (t:TT) (ta tb:TE):TE:=fun σ H Q=>t σ H fun c H1=>if c=true then ta σ H1 Q else tb σ H1 Q
theorem zj2 {c:Expr} (hc:PT X c tA) (ha:PE X a ta) (hb:PE X b tb):PE X (.IfExp c a b pos) (tIf tA ta tb):=by
  intro pins s σ H Q I h
  refine wpAny_IfExp (thn (hc pins s σ H _ I h) fun d s1 ⟨H1,I1,q1⟩=>?_)
  cases d with
  | true=>exact ha pins s1 σ H1 Q I1 q1
  | false=>exact hb pins s1 σ H1 Q I1 q1
end
end L2
namespace L2
open PySem PySem.Spec PyProof.Rows
def SqL (K:PySem.W.Frag) (H:Hp) (a:Addr) (xs:List V):Prop :=
  Rd H a (.lst xs) ∨
    ∃(o:Obj) (its:Array Value) (n:Nat),K.lookup a=some o∧o.cls=.type "list"∧o.dict=none∧o.data=.seq its n∧its.size≤sizeLine∧aw xs its.toList
def SqT (K:PySem.W.Frag) (H:Hp) (a:Addr) (xs:List V):Prop :=
  Rd H a (.tup xs) ∨
    ∃(o:Obj) (its:Array Value) (n:Nat),K.lookup a=some o∧(o.cls,o.dict)=(Value.type "tuple",none)∧o.data=.seq its n∧its.size≤sizeLine∧aw xs its.toList
def absV:Value→Option V
  | .none=>some .non
  | .bool b=>some (.bl b)
  | .int i _=>some (.int i)
  | .str x _=>some (.str x)
  | .bytes b _=>some (.byt b)
  | .float b _=>some (.flt b)
  | .ref a=>some (.ref a)
  | .type n=>some (.ty n)
  | _=>none
theorem ax.abs {x:V} {u:Value} (r:ax x u):absV u=some x:=by
  cases x with
  | non=>cases r;rfl
  | bl _=>cases r;rfl
  | int _=>obtain⟨t,rfl⟩:=r;rfl
  | str _=>obtain⟨t,rfl⟩:=r;rfl
  | byt _=>obtain⟨t,rfl⟩:=r;rfl
  | flt _=>obtain⟨t,rfl⟩:=r;rfl
  | ref _=>cases r;rfl
  | ty _=>cases r;rfl
theorem ax.inj {x y:V} {u:Value} (r:ax x u) (q:ax y u):x=y:=Option.some.inj (r.abs.symm.trans q.abs)
theorem aw.inj:∀ {xs ys:List V} {us:List Value},aw xs us→aw ys us→xs=ys
  | _,_,_,.nil,.nil=>rfl
  | _,_,_,.cons r t,.cons r' t'=>by rw[r.inj r',aw.inj t t']
section
variable {X:Cx} {pins:List (Addr × Obj)} {σ:St} {H:Hp} {s:Shared} {a:Addr} {xs ys:List V}
theorem SqL.of {K:PySem.W.Frag} (h:H a=some (.lst xs)):SqL K H a xs:=.inl (.inl h)
theorem SqT.of {K:PySem.W.Frag} (h:H a=some (.tup xs)):SqT K H a xs:=.inl (.inl h)
theorem Inv.list (I:Inv X pins σ H s) (h:SqL X.K H a xs):∃ its:List Value,aw xs its∧PlainL s.heap a its.toArray∧xs.length≤sizeLine:=by
  rcases h with h | ⟨o,its,n,hk,hc,hd,hs,hz,r⟩
  · obtain⟨z,its,n,r,e⟩:=h.ok I.hok
    exact⟨its,r,⟨_,n,e,rfl,rfl,rfl⟩,z⟩
  · refine⟨its.toList,r,⟨o,n,I.kIn a o hk,hc,hd,by simpa using hs⟩,?_⟩
    have e:=r.length
    simp only[Array.length_toList]at e
    omega
theorem Inv.tupD (I:Inv X pins σ H s) (h:SqT X.K H a xs):∃ its:List Value,aw xs its∧zdw s.heap a its.toArray∧xs.length≤sizeLine:=by
  rcases h with h | ⟨o,its,n,hk,hc,hs,hz,r⟩
  · obtain⟨z,its,r,p⟩:=h.ok I.hok
    exact⟨its,r,p,z⟩
  · refine⟨its.toList,r,⟨o,I.kIn a o hk,hc,n,by simpa using hs⟩,?_⟩
    have e:=r.length
    simp only[Array.length_toList]at e
    omega
theorem Inv.tuple (I:Inv X pins σ H s) (h:SqT X.K H a xs):∃ its:List Value,aw xs its∧IsTup s.heap a its.toArray∧xs.length≤sizeLine:=by
  obtain⟨its,r,p,z⟩:=I.tupD h
  exact⟨its,r,p.up,z⟩
theorem Inv.list_inj (I:Inv X pins σ H s) (h:SqL X.K H a xs) (h':SqL X.K H a ys):xs=ys:=by
  obtain⟨its,r,⟨o,n,e,_,_,d⟩,_⟩:=I.list h
  obtain⟨its',r',⟨o',n',e',_,_,d'⟩,_⟩:=I.list h'
  rw[e]at e';cases e'
  rw[d]at d'
  injection d' with d1 _
  have:its=its':=by simpa using congrArg Array.toList d1
  subst this
  exact r.inj r'
theorem Inv.tuple_inj (I:Inv X pins σ H s) (h:SqT X.K H a xs) (h':SqT X.K H a ys):xs=ys:=by
  obtain⟨its,r,⟨o,e,_,n,d⟩,_⟩:=I.tuple h
  obtain⟨its',r',⟨o',e',_,n',d'⟩,_⟩:=I.tuple h'
  rw[e]at e';cases e'
  rw[d]at d'
  injection d' with d1 _
  have:its=its':=by simpa using congrArg Array.toList d1
  subst this
  exact r.inj r'
end
abbrev Cx.wish (X:Cx) (E:Value→Shared→Prop):Cx:={ X with xe:=E }
abbrev Cx.nox (X:Cx):Cx:=X.wish fun _ _=>False
theorem Cx.Ok.wish {X:Cx} (ok:X.Ok) (E:Value→Shared→Prop):(X.wish E).Ok :=
  ⟨ok.mod,ok.kind,ok.glob,ok.blt,ok.above,ok.inj,ok.has,ok.cab,ok.hd,ok.frames,ok.stk,ok.exf,ok.bs,ok.bsz,ok.noex,ok.exfs,ok.funs,ok.frf⟩
theorem Cx.Ok.unwish {X:Cx} {E:Value→Shared→Prop} (ok:(X.wish E).Ok):X.Ok :=
  ⟨ok.mod,ok.kind,ok.glob,ok.blt,ok.above,ok.inj,ok.has,ok.cab,ok.hd,ok.frames,ok.stk,ok.exf,ok.bs,ok.bsz,ok.noex,ok.exfs,ok.funs,ok.frf⟩
section
variable {X:Cx} {pins:List (Addr × Obj)} {σ:St} {H:Hp} {s:Shared} {E:Value→Shared→Prop}
theorem Inv.wish (I:Inv X pins σ H s) (E:Value→Shared→Prop):Inv (X.wish E) pins σ H s:=⟨I.ok.wish E,I.os,I.bare,I.base,I.loc,I.cell,I.free,I.freeC,I.pin,I.hok,I.len,I.ext⟩
theorem Inv.unwish (I:Inv (X.wish E) pins σ H s):Inv X pins σ H s:=⟨I.ok.unwish,I.os,I.bare,I.base,I.loc,I.cell,I.free,I.freeC,I.pin,I.hok,I.len,I.ext⟩
theorem SP.unwish {D:zaM} {f:Flow} {s':Shared} (h:SP (X.wish E) pins D f s'):SP X pins D f s':=by
  cases f with
  | next=>obtain⟨σ',H',I,q⟩:=h;exact⟨σ',H',I.unwish,q⟩
  | brk=>obtain⟨σ',H',I,q⟩:=h;exact⟨σ',H',I.unwish,q⟩
  | cont=>obtain⟨σ',H',I,q⟩:=h;exact⟨σ',H',I.unwish,q⟩
  | ret u=>obtain⟨v,σ',H',I,r,q⟩:=h;exact⟨v,σ',H',I.unwish,r,q⟩
theorem PE.nox {e:Expr} {t:TE} (h:PE X.nox e t):PE X e t:=fun pins s σ H Q I hw =>
  wpAny_mono (h pins s σ H Q (I.wish _) hw) (fun _ _ ⟨v,H',I',r,q⟩=>⟨v,H',I'.unwish,r,q⟩) fun _ _ z=>False.elim z
theorem PT.nox {e:Expr} {t:TT} (h:PT X.nox e t):PT X e t:=fun pins s σ H Q I hw =>
  wpAny_mono (h pins s σ H Q (I.wish _) hw) (fun _ _ ⟨H',I',q⟩=>⟨H',I'.unwish,q⟩) fun _ _ z=>False.elim z
theorem PSs.nox {st:List Stmt} {t:TS} (h:PSs X.nox st t):PSs X st t:=fun pins s σ H D I hw =>
  wpAny_mono (h pins s σ H D (I.wish _) hw) (fun _ _ q=>q.unwish) fun _ _ z=>False.elim z
end
section
variable {X:Cx} {st:Stmt} {rest:List Stmt} {t u:TS} {e:Expr} {te:TE} {pos:Pos}
def tNext:TS:=fun⟨n,_,_,_⟩ σ H=>n σ H
def tSeq (t u:TS):TS:=fun⟨n,r,b,c⟩ σ H=>t ⟨u ⟨n,r,b,c⟩,r,b,c⟩ σ H
theorem zag:PSs X [] tNext:=fun _ _ σ H _ I h=>wpAny_execs_nil ⟨σ,H,I,h⟩
theorem aj (h1:PS X st t) (h2:PSs X rest u):PSs X (st :: rest) (tSeq t u):=by
  intro pins s σ H D I h
  refine wpAny_execs_cons (thn (h1 pins s σ H { D with nx:=u D } I h) fun f s1 q=>?_)
  cases f with
  | next =>
    obtain⟨σ',H',I',q⟩:=q
    exact h2 pins s1 σ' H' D I' q
  | ret v=>exact q
  | brk=>exact q
  | cont=>exact q
theorem ae (h1:PS X st t):PSs X [st] t:=by
  intro pins s σ H D I h
  refine wpAny_execs_cons (thn (h1 pins s σ H D I h) fun f s1 q=>?_)
  cases f with
  | next=>exact wpAny_execs_nil q
  | ret v=>exact q
  | brk=>exact q
  | cont=>exact q
theorem Inv.quiet {pins:List (Addr × Obj)} {σ:St} {H:Hp} {s:Shared} (I:Inv X pins σ H s):interactive X.env=false:=by simp [interactive,I.ok.kind]
def tDrop (te:TE):TS:=fun⟨n,_,_,_⟩ σ H=>te σ H fun _ H1=>n σ H1
theorem zba (he:PE X e te) (hs:swapsWith e none pos.line X.env=pure false:=by rfl):PS X (.Expr e pos) (tDrop te):=by
  intro pins s σ H D I h
  exact wpAny_Expr_any (thn (he pins s σ H _ I h) fun v s1 ⟨x,H1,I1,r1,q1⟩=>⟨σ,H1,I1,q1⟩) I.quiet hs
def tRet (te:TE):TS:=fun⟨_,r,_,_⟩ σ H=>te σ H r
theorem zab (he:PE X e te):PS X (.Return (some e) pos) (tRet te):=by
  intro pins s σ H D I h
  exact wpAny_Return_some (thn (he pins s σ H _ I h) fun v s1 ⟨x,H1,I1,r1,q1⟩=>⟨x,σ,H1,I1,r1,q1⟩)
def tIfS (c:TT) (t u:TS):TS:=fun D σ H=>c σ H fun b H1=>if b=true then t D σ H1 else u D σ H1
theorem zaD {c:Expr} {a b:List Stmt} {tc:TT} (hc:PT X c tc) (ha:PSs X a t) (hb:PSs X b u):PS X (.If c a b pos) (tIfS tc t u):=by
  intro pins s σ H D I h
  refine wpAny_If (thn (hc pins s σ H _ I h) fun d s1 ⟨H1,I1,q1⟩=>?_)
  cases d with
  | true=>exact ha pins s1 σ H1 D I1 q1
  | false=>exact hb pins s1 σ H1 D I1 q1
def tNever:TS:=fun _ _ _=>False
end
abbrev TG:=V→St→Hp→(St→Hp→Prop)→Prop
def PG (X:Cx) (target:Expr) (t:TG):Prop :=
  ∀(pins:List (Addr × Obj)) (s:Shared) (σ:St) (H:Hp) (v:V) (u:Value) (Q:St→Hp→Prop),Inv X pins σ H s→ax v u→t v σ H Q →
    wpAny (model X.prog X.w) X.A (assign target X.env u) (fun _ s'=>∃ σ' H',Inv X pins σ' H' s'∧Q σ' H') X.xe s
abbrev TSet:=V→V→V→Hp→(Hp→Prop)→Prop
def PSet (X:Cx) (t:TSet):Prop :=
  ∀(pins:List (Addr × Obj)) (s:Shared) (σ:St) (H:Hp) (o i v:V) (ov iv u:Value) (Q:Hp→Prop),Inv X pins σ H s→ax o ov→ax i iv→ax v u→t o i v H Q →
    wpAny (model X.prog X.w) X.A (setItem ov iv u) (fun _ s'=>∃ H',Inv X pins σ H' s'∧Q H') X.xe s
section
variable {X:Cx} {pos:Pos}
def zbl (i:Nat):TG:=fun v σ H Q=>Q (σ.set i (some v)) H
theorem zbv {i:Nat} {x:Str} (hN:X.N.Nodup) (hi:X.N[i]?=some x) (hx:Loc X.env.scope x) (hf:X.fn x=true∨X.env.scope.names.lookup x=some .local:=by first | exact .inl rfl | exact .inr rfl | assumption):PG X (.Name x pos) (zbl i):=by
  intro pins s σ H v u Q I r h
  exact wpAny_assign_Name (zdz I hN hi hx r (fun s' I'=>⟨_,H,I',h⟩) hf)
def gSub (to ti:TE) (t:TSet):TG:=fun v σ H Q=>to σ H fun o H1=>ti σ H1 fun i H2=>t o i v H2 fun H3=>Q σ H3
theorem zdR {o i:Expr} {to ti:TE} {t:TSet} (ho:PE X o to) (hi:PE X i ti) (hs:PSet X t)
    (ha:∀ v,assign (.Subscript o i pos) X.env v=(do
      let ov ←holding [v] (eval o X.env)
      let iv ←holding [v,ov] (eval i X.env)
      standAt pos
      holding [v,ov,iv] (setItem ov iv v)
      release [v,ov,iv] []):=by intro _;rfl):PG X (.Subscript o i pos) (gSub to ti t):=by
  intro pins s σ H v u Q I r h
  rw[ha]
  refine wpAny_bind (wpAny_holding (thn (ho pins s σ H _ I h) fun ov s1 ⟨x,H1,I1,r1,q1⟩=>?_))
  refine wpAny_bind (wpAny_holding (thn (hi pins s1 σ H1 _ I1 q1) fun iv s2 ⟨y,H2,I2,r2,q2⟩=>?_))
  refine wpAny_bind (wpAny_standAt (wpAny_bind (wpAny_holding (thn (hs pins s2 σ H2 x y v ov iv u _ I2 r1 r2 r q2) fun _ s3 ⟨H3,I3,q3⟩=>?_))))
  exact wpAny_release ⟨σ,H3,I3,q3⟩
def zcq (te:TE) (g:TG):TS:=fun⟨n,_,_,_⟩ σ H=>te σ H fun x H1=>g x σ H1 n
theorem zi2 {tg e:Expr} {te:TE} {g:TG} (he:PE X e te) (hg:PG X tg g) (hs:swapsWithSole [tg] e pos.line X.env=pure false:=by rfl) (hw:swappedStores [tg] e X.env=pure none:=by rfl)
    (h1:(assignEach [tg] X.env).map (·.2)=[assign tg X.env]:=by rfl):PS X (.Assign [tg] e pos) (zcq te g):=by
  intro pins s σ H D I h
  refine wpAny_Assign_stores (thn (he pins s σ H _ I h) fun v s1 ⟨x,H1,I1,r1,q1⟩=>?_) hs hw
  rw[h1]
  exact thn (hg pins s1 σ H1 x v _ I1 r1 q1) fun _ s2 q=>q
theorem zar {i:Nat} {x:Str} {e:Expr} {te:TE} {pos':Pos} (hN:X.N.Nodup) (hi:X.N[i]?=some x) (hx:Loc X.env.scope x) (he:PE X e te) (hs:swapsWith e (some (.Name x pos')) pos.line X.env=pure false:=by rfl) (hf:X.fn x=true∨X.env.scope.names.lookup x=some .local:=by first | exact .inl rfl | exact .inr rfl | assumption) :
    PS X (.Assign [.Name x pos'] e pos) (zcq te (zbl i)):=by
  intro pins s σ H D I h
  refine wpAny_Assign_Name (thn (he pins s σ H _ I h) fun v s1 ⟨y,H1,I1,r1,q1⟩=>?_) hs
  exact zdz I1 hN hi hx r1 (fun s2 I2=>⟨_,H1,I2,q1⟩) hf
end
section
variable {X:Cx} {pos:Pos}
def tWhile (c:TT) (tb:TS):TS:=fun D σ H=>∃ W:Nat→St→Hp→Prop,(∃ m,W m σ H)∧∀ m σ H,W m σ H →
  c σ H fun b H1=>if b=true then ∃ N:St→Hp→Prop,(∀ σ' H',N σ' H'→∃ m',m' < m∧W m' σ' H')∧tb { D with nx:=N,ct:=N,bk:=D.nx } σ H1 else D.nx σ H1
theorem zg7 {c:Expr} {body:List Stmt} {tc:TT} {tb:TS} (hp:PassesOwn (model X.prog X.w) X.A X.env X.xe) (hc:PT X c tc) (hb:PSs X body tb):PS X (.While c body [] pos) (tWhile tc tb):=by
  intro pins s σ H D I h
  obtain⟨W,⟨m0,w0⟩,turn⟩:=h
  refine wpAny_While (codeAny_whileLoop (fun n s'=>∃ σ' H',Inv X pins σ' H' s'∧W n σ' H') ?_ m0 ⟨σ,H,I,w0⟩)
  rintro n s1 ⟨σ1,H1,I1,w1⟩
  refine wpAny_passesOwn hp (thn (hc pins s1 σ1 H1 _ I1 (turn n σ1 H1 w1)) fun b s2 ⟨H2,I2,q2⟩=>?_)
  cases b with
  | true =>
    obtain⟨N,hN,q2⟩:=q2
    rw[if_pos rfl]
    refine wpAny_passesOwn hp (thn (hb pins s2 σ1 H2 _ I2 q2) fun f s3 q3=>?_)
    cases f with
    | next =>
      obtain⟨σ3,H3,I3,n3⟩:=q3
      obtain⟨m',hm,w3⟩:=hN σ3 H3 n3
      exact⟨m',hm,σ3,H3,I3,w3⟩
    | cont =>
      obtain⟨σ3,H3,I3,n3⟩:=q3
      obtain⟨m',hm,w3⟩:=hN σ3 H3 n3
      exact⟨m',hm,σ3,H3,I3,w3⟩
    | brk=>exact q3
    | ret v=>exact q3
  | false =>
    rw[if_neg Bool.false_ne_true]
    exact wpAny_execs_nil ⟨σ1,H2,I2,q2⟩
end
structure It where
  go:Nat→Hp→Prop
  yld:Nat→Hp→V→Hp→Prop
  stop:Nat→Hp→Prop
def zbh (X:Cx) (pins:List (Addr × Obj)) (H:Hp) (b:Addr):Prop :=
  H b=none∧b≠X.env.locals∧b∉X.fs∧(b∈X.ex∨X.s₀.heap.objs.size≤b)∧(∀ x c,X.env.cells.lookup x=some c→c≠b)∧∀ p∈X.pn++pins,p.1≠b
theorem Inv.fpOk {X:Cx} {pins:List (Addr × Obj)} {σ:St} {H H':Hp} {s:Shared} {b:Addr} (I:Inv X pins σ H s) (hb:s.heap.objs.size≤b) (hn:H' b=none):zbh X pins H' b:=by
  refine⟨hn,Nat.ne_of_gt (Nat.lt_of_lt_of_le I.lt hb),I.nofs hb,.inr (Nat.le_trans I.sz hb),fun x c e z=>?_,fun p hp z=>?_⟩
  · obtain⟨v,q⟩:=I.cell x c e
    exact absurd (Nat.lt_of_lt_of_le q.lt (by rw[z];exact hb)) (Nat.lt_irrefl _)
  · exact absurd (Nat.lt_of_lt_of_le (Heap.lt_size (I.pin p hp).1) (by rw[z];exact hb)) (Nat.lt_irrefl _)
structure Turn (P:Program) (w:World) (K:PySem.W.Frag) (tg:Expr) (J:It) (fp:List Addr) (it:Addr) (tn:Nat→Heap→Prop):Prop where
  mem:it∈fp
  obj:∀ i h,tn i h→∀ b∈fp,∃ o,h.get? b=some o∧∀ v,o.data≠.cell v
  keep:∀ i h h',tn i h→(∀ b∈fp,∀ o,h.get? b=some o→h'.get? b=some o)→tn i h'
  item:∀(X:Cx),X.prog=P→X.w=w→X.K=K→X.calm=true→∀(i:Nat) (pins:List (Addr × Obj)) (s:Shared) (σ:St) (H:Hp) (E:Value→Shared→Prop),Inv X pins σ H s→(∀ b∈fp,zbh X pins H b)→tn i s.heap→J.go i H →
    wpAny (model P w) X.A (pyNext (.ref it)) (fun r s1=>∃ u,r=some u ∧
      wpAny (model P w) X.A (letOwnedTupleGo tg (.ref it) u) (fun _ s2=>∃ x H',Inv X pins σ H' s2∧ax x u∧J.yld i H x H'∧tn (i+1) s2.heap∧∀ b∈fp,H' b=none) E s1) E s
  done:∀(X:Cx),X.prog=P→X.w=w→X.K=K→X.calm=true→∀(i:Nat) (pins:List (Addr × Obj)) (s:Shared) (σ:St) (H:Hp) (E:Value→Shared→Prop),Inv X pins σ H s→(∀ b∈fp,zbh X pins H b)→tn i s.heap→J.stop i H →
    wpAny (model P w) X.A (pyNext (.ref it)) (fun r s1=>r=none∧Inv X pins σ H s1) E s
  self:∀(A:Around) (i:Nat) (s:Shared) (Q:Value→Shared→Prop) (E:Value→Shared→Prop),tn i s.heap→Q (.ref it) s→wpAny (model P w) A (pyIter (.ref it)) Q E s
abbrev TI:=St→Hp→(It→Hp→Prop)→Prop
def PIE (X:Cx) (pins:List (Addr × Obj)) (σ:St) (tg:Expr) (R:It→Hp→Prop) (itv:Value) (s2:Shared):Prop :=
  ∃(it:Addr) (fp:List Addr) (tn:Nat→Heap→Prop) (J:It) (H':Hp),itv=.ref it∧Inv X pins σ H' s2∧Turn X.prog X.w X.K tg J fp it tn∧tn 0 s2.heap∧(∀ b∈fp,zbh X pins H' b)∧R J H'
def PI (X:Cx) (tg iter:Expr) (wi:TI):Prop :=
  ∀(pins:List (Addr × Obj)) (s:Shared) (σ:St) (H:Hp) (R:It→Hp→Prop),Inv X pins σ H s→wi σ H R →
    wpAny (model X.prog X.w) X.A (eval iter X.env) (fun v s1=>wpAny (model X.prog X.w) X.A (pyIter v) (PIE X pins σ tg R) X.xe s1) X.xe s
theorem zfd {M:Model} {A:Around} {E:Value→Shared→Prop} {s:Shared} {tg:Expr} {it:Addr} {u:Value} {o:Obj} {n:String} {vs:Array Value} {Q:Unit→Shared→Prop} (ho:s.heap.get? it=some o) (hc:o.cls=.type n) (hd:o.data=.fields vs)
    (hn:["enumerate","zip","dict_itemiterator","dict_reverseitemiterator","odict_iterator","itertools.zip_longest","itertools.pairwise"].contains n=false) (hQ:Q () s):wpAny M A (letOwnedTupleGo tg (.ref it) u) Q E s:=by
  unfold letOwnedTupleGo
  cases tg <;> first
    | exact wpAny_pure hQ
    | (cases u <;> first
        | exact wpAny_pure hQ
        | (refine wpAny_bind (wpAny_load ho ?_)
           rw[hc,hd]
           show wpAny M A (if(["enumerate","zip","dict_itemiterator","dict_reverseitemiterator","odict_iterator","itertools.zip_longest","itertools.pairwise"].contains n&&vs[0]? == some (rawInt _))=true then _ else _) Q E s
           rw[if_neg (by intro h;rw[hn,Bool.false_and]at h;cases h)]
           exact wpAny_pure hQ))
def Itl (K:PySem.W.Frag) (a:Addr):It :=
  ⟨fun i H=>∃ xs x,SqL K H a xs∧xs[i]?=some x,fun i H x H'=>H'=H∧∀ xs,SqL K H a xs→xs[i]?=some x,fun i H=>∃ xs,SqL K H a xs∧xs.length≤i⟩
def Itt (K:PySem.W.Frag) (a:Addr):It :=
  ⟨fun i H=>∃ xs x,SqT K H a xs∧xs[i]?=some x,fun i H x H'=>H'=H∧∀ xs,SqT K H a xs→xs[i]?=some x,fun i H=>∃ xs,SqT K H a xs∧xs.length≤i⟩
def Itr (lo:Int) (n:Nat):It:=⟨fun i _=>i < n,fun i H x H'=>H'=H∧x=.int (lo+i),fun i _=>n≤i⟩
theorem zf0 {P:Program} {w:World} {K:PySem.W.Frag} {tg:Expr} (a it:Addr):Turn P w K tg (Itl K a) [it] it (fun i h=>h.IsListIter it a i) where
  mem:=by simp
  obj:=fun i h st b hb=>by
    have e:b=it:=by simpa using hb
    subst e
    obtain⟨o,e,c,d⟩:=st
    exact⟨o,e,fun v z=>by rw[d]at z;cases z⟩
  keep:=fun i h h' st k=>st.at fun o e=>k it (by simp) o e
  item:=by
    intro X hP hw hK hc i pins s σ H E I hf st hg
    subst hP hw hK
    obtain⟨xs,x,hq,hx⟩:=hg
    obtain⟨its,rv,p,hz⟩:=I.list hq
    obtain⟨u,hu,ru⟩:=rv.get hx
    obtain⟨f0,f1,f2,f3,f4,f5⟩:=hf it (by simp)
    refine wpAny_pyNext_list_item st p.isList (x:=u) (by simpa using hu) fun h' st' sb=>?_
    have I1:Inv X pins σ H { s with heap:=h' }:=I.turned (t':=s.toks) (fun b o hb e=>(sb.2 b hb).trans e) f0 f1 f3 f4 f5
    obtain⟨o,e,c,d⟩:=id st'
    exact⟨u,rfl,zfd (s:={ s with heap:=h' }) e c d (by decide) ⟨x,H,I1,ru,⟨rfl,fun ys hy=>by rw[I.list_inj hy hq];exact hx⟩,st',fun b hb=>(hf b hb).1⟩⟩
  done:=by
    intro X hP hw hK hc i pins s σ H E I hf st hg
    subst hP hw hK
    obtain⟨xs,hq,hx⟩:=hg
    obtain⟨its,rv,p,hz⟩:=I.list hq
    obtain⟨f0,f1,f2,f3,f4,f5⟩:=hf it (by simp)
    have hl:=rv.length
    exact wpAny_pyNext_list_end (I.ok.hd hc) st p.isList (by simp;omega) fun h' eb=>⟨rfl,I.turned (t':=s.toks) (fun b o hb e=>eb b o hb e) f0 f1 f3 f4 f5⟩
  self:=fun _ _ _ _ _ st h=>wpAny_pyIter_listiter st h
theorem zft {P:Program} {w:World} {K:PySem.W.Frag} {tg:Expr} (a it:Addr):Turn P w K tg (Itt K a) [it] it (fun i h=>h.IsTupleIter it a i) where
  mem:=by simp
  obj:=fun i h st b hb=>by
    have e:b=it:=by simpa using hb
    subst e
    obtain⟨o,e,c,d⟩:=st
    exact⟨o,e,fun v z=>by rw[d]at z;cases z⟩
  keep:=fun i h h' st k=>st.at fun o e=>k it (by simp) o e
  item:=by
    intro X hP hw hK hc i pins s σ H E I hf st hg
    subst hP hw hK
    obtain⟨xs,x,hq,hx⟩:=hg
    obtain⟨its,rv,p,hz⟩:=I.tuple hq
    obtain⟨u,hu,ru⟩:=rv.get hx
    obtain⟨f0,f1,f2,f3,f4,f5⟩:=hf it (by simp)
    refine wpAny_pyNext_tuple_item st (show s.heap.IsTuple a its.toArray from p) (x:=u) (by simpa using hu) fun h' st' sb=>?_
    have I1:Inv X pins σ H { s with heap:=h' }:=I.turned (t':=s.toks) (fun b o hb e=>(sb.2 b hb).trans e) f0 f1 f3 f4 f5
    obtain⟨o,e,c,d⟩:=id st'
    exact⟨u,rfl,zfd (s:={ s with heap:=h' }) e c d (by decide) ⟨x,H,I1,ru,⟨rfl,fun ys hy=>by rw[I.tuple_inj hy hq];exact hx⟩,st',fun b hb=>(hf b hb).1⟩⟩
  done:=by
    intro X hP hw hK hc i pins s σ H E I hf st hg
    subst hP hw hK
    obtain⟨xs,hq,hx⟩:=hg
    obtain⟨its,rv,p,hz⟩:=I.tuple hq
    obtain⟨f0,f1,f2,f3,f4,f5⟩:=hf it (by simp)
    have hl:=rv.length
    exact wpAny_pyNext_tuple_end (I.ok.hd hc) st (show s.heap.IsTuple a its.toArray from p) (by simp;omega) fun h' eb=>⟨rfl,I.turned (t':=s.toks) (fun b o hb e=>eb b o hb e) f0 f1 f3 f4 f5⟩
  self:=fun _ _ _ _ _ st h=>wpAny_pyIter_tupleiter st h
theorem ziv {P:Program} {w:World} {K:PySem.W.Frag} {tg:Expr} (it:Addr) (lo:Int) (n:Nat):Turn P w K tg (Itr lo n) [it] it (fun i h=>IsRangeIter h it (lo+(i:Nat) * 1) ((n:Int) - (i:Nat)) 1) where
  mem:=by simp
  obj:=fun i h st b hb=>by
    have e:b=it:=by simpa using hb
    subst e
    exact⟨_,st,fun v z=>by
      have z':Data.fields _=Data.cell v:=z
      cases z'⟩
  keep:=fun i h h' st k=>k it (by simp) _ st
  item:=by
    intro X hP hw hK hc i pins s σ H E I hf st hg
    subst hP hw hK
    obtain⟨f0,f1,f2,f3,f4,f5⟩:=hf it (by simp)
    have W:=Walks.range (prog:=X.prog) (w:=X.w) (I.ok.hd hc) it lo 1 n
    refine W.item i s _ _ hg st fun v h' tk hv st' kk=>?_
    obtain⟨t,rfl⟩:=hv
    have I1:Inv X pins σ H { s with heap:=h',toks:=tk }:=I.turned (fun b o hb e=>kk b o (by simpa using hb) e) f0 f1 f3 f4 f5
    refine⟨_,rfl,zfd (s:={ s with heap:=h',toks:=tk }) (n:="range_iterator") st' rfl rfl (by decide) ⟨.int (lo+i),H,I1,⟨t,?_⟩,⟨rfl,rfl⟩,st',fun b hb=>(hf b hb).1⟩⟩
    rw[Int.mul_one]
  done:=by
    intro X hP hw hK hc i pins s σ H E I hf st hg
    subst hP hw hK
    obtain⟨f0,f1,f2,f3,f4,f5⟩:=hf it (by simp)
    exact wpAny_pyNext_range_end (I.ok.hd hc) st (by have:n≤i:=hg;omega) fun h' eb=>⟨rfl,I.turned (t':=s.toks) (fun b o hb e=>eb b o hb e) f0 f1 f3 f4 f5⟩
  self:=fun _ _ _ _ _ st h=>wpAny_pyIter_rangeiter st h
end L2
namespace L2
open PySem PySem.Spec PyProof.Rows
section
variable {X:Cx} {tg:Expr}
inductive rItl (K:PySem.W.Frag):V→Hp→(It→Hp→Prop)→Prop | mk {x H R} a:x=.ref a→(∃ xs,SqL K H a xs)→R (Itl K a) H→rItl K x H R
inductive rItt (K:PySem.W.Frag):V→Hp→(It→Hp→Prop)→Prop | mk {x H R} a:x=.ref a→(∃ xs,SqT K H a xs)→R (Itt K a) H→rItt K x H R
def iList (K:PySem.W.Frag) (tl:TE):TI:=fun σ H R=>tl σ H fun x H1=>rItl K x H1 R
def iTup (K:PySem.W.Frag) (tl:TE):TI:=fun σ H R=>tl σ H fun x H1=>rItt K x H1 R
theorem zcF {l:Expr} {tl:TE} (hl:PE X l tl):PI X tg l (iList X.K tl):=by
  intro pins s σ H R I h
  refine thn (hl pins s σ H _ I h) fun v s1 ⟨x,H1,I1,r1,q1⟩=>?_
  obtain⟨a,e,⟨xs,hq⟩,q⟩:=q1
  subst e
  cases r1
  obtain⟨its,rv,p,hz⟩:=I1.list hq
  refine wpAny_pyIter_list p.isList ?_
  refine⟨s1.heap.objs.size,[s1.heap.objs.size],_,_,H1,rfl,I1.kept (t':=s1.toks) fun b o e=>Heap.get?_push_of_some _ e,zf0 a _,⟨_,Heap.get?_push_size _ rfl,rfl,rfl⟩,fun b hb=>?_,q⟩
  have e:b=s1.heap.objs.size:=by simpa using hb
  subst e
  exact I1.fpOk (Nat.le_refl _) (I1.hok.fresh (Nat.le_refl _))
theorem pi_tup {l:Expr} {tl:TE} (hl:PE X l tl):PI X tg l (iTup X.K tl):=by
  intro pins s σ H R I h
  refine thn (hl pins s σ H _ I h) fun v s1 ⟨x,H1,I1,r1,q1⟩=>?_
  obtain⟨a,e,⟨xs,hq⟩,q⟩:=q1
  subst e
  cases r1
  obtain⟨its,rv,p,hz⟩:=I1.tuple hq
  refine wpAny_pyIter_tuple (show s1.heap.IsTuple a its.toArray from p) ?_
  refine⟨s1.heap.objs.size,[s1.heap.objs.size],_,_,H1,rfl,I1.kept (t':=s1.toks) fun b o e=>Heap.get?_push_of_some _ e,zft a _,⟨_,Heap.get?_push_size _ rfl,rfl,rfl⟩,fun b hb=>?_,q⟩
  have e:b=s1.heap.objs.size:=by simpa using hb
  subst e
  exact I1.fpOk (Nat.le_refl _) (I1.hok.fresh (Nat.le_refl _))
theorem zjX {pins:List (Addr × Obj)} {σ:St} {H:Hp} {s:Shared} {R:It→Hp→Prop} {E:Value→Shared→Prop} {lo hi:Int} {t u v:Tok} {tk:Nat} (I:Inv X pins σ H s) (h1:-(2 ^ 62)≤lo) (h2:lo < 2 ^ 62) (h3:-(2 ^ 62)≤hi) (h4:hi < 2 ^ 62)
    (q:R (Itr lo (hi - lo).toNat) H):wpAny (model X.prog X.w) X.A (pyIter (.ref s.heap.objs.size)) (PIE X pins σ tg R) E { s with heap:=s.heap.push { cls:=.type "range",data:=.fields #[.int lo t,.int hi u,.int 1 v] },toks:=tk }:=by
  refine wpAny_pyIter_range (IsRange.new ..) (small_one h1 h2 h3 h4) ?_
  have I1:Inv X pins σ H { s with heap:=s.heap.push { cls:=.type "range",data:=.fields #[.int lo t,.int hi u,.int 1 v] },toks:=tk }:=I.kept fun b o e=>Heap.get?_push_of_some _ e
  refine⟨(s.heap.push { cls:=.type "range",data:=.fields #[.int lo t,.int hi u,.int 1 v] }).objs.size,[(s.heap.push { cls:=.type "range",data:=.fields #[.int lo t,.int hi u,.int 1 v] }).objs.size],_,_,H,rfl,
    I1.kept (t':=tk) fun b o e=>Heap.get?_push_of_some _ e,ziv _ lo (hi - lo).toNat,?_,fun b hb=>?_,q⟩
  · have e1:lo+((0:Nat):Int) * 1=lo:=by simp
    have e2:(((hi - lo).toNat:Nat):Int) - ((0:Nat):Int)=Builtin.Range.rangeSize lo hi 1:=by rw[rangeSize_one];split <;> omega
    show IsRangeIter _ _ (lo+((0:Nat):Int) * 1) ((((hi - lo).toNat:Nat):Int) - ((0:Nat):Int)) 1
    rw[e1,e2]
    exact Heap.get?_push_size _ rfl
  · have e:b=(s.heap.push { cls:=.type "range",data:=.fields #[.int lo t,.int hi u,.int 1 v] }).objs.size:=by simpa using hb
    subst e
    exact I1.fpOk (Nat.le_refl _) (I1.hok.fresh (Nat.le_refl _))
def iRng1 (ta:TA):TI:=fun σ H R=>ta σ H fun vs H1=>∃ j:Int,vs=[.int j]∧-(2 ^ 62)≤j∧j < 2 ^ 62∧R (Itr 0 j.toNat) H1
theorem zcn {a:Expr} {ta:TA} {p pos:Pos} (hg:Gl X "range") (hm:X.mg "range"=none) (ha:PA X [a] ta) (hs:starEach [a] X.env=[(false,eval a X.env)]:=by rfl):PI X tg (.Call (.Name "range" p) [a] [] pos) (iRng1 ta):=by
  intro pins s σ H R I h
  refine Call_ (zfn I hg hm boot_range (PyProof.Rows.callWith_type1 (thn (ha pos pins s σ H _ I h) fun us s1 ⟨vs,H1,I1,r1,q1⟩=>?_) hs rfl))
  obtain⟨j,e,q1,q2,q⟩:=q1
  subst e
  cases r1 with
  | cons r rr =>
    cases rr
    obtain⟨t,rfl⟩:=r
    exact call_range_1 (zjX I1 (by omega) (by omega) q1 q2 (by simpa using q))
def tFor (wi:TI) (g:TG) (tb:TS):TS:=fun D σ H=>wi σ H fun J H1=>∃ W:Nat→Nat→St→Hp→Prop,(∃ m,W 0 m σ H1)∧∀ i m σ H,W i m σ H →
  (J.stop i H∧D.nx σ H)∨(J.go i H∧∃ N:St→Hp→Prop,(∀ σ' H',N σ' H'→∃ m',m' < m∧W (i+1) m' σ' H')∧∀ x H',J.yld i H x H'→g x σ H' fun σ2 H2=>tb { D with nx:=N,ct:=N,bk:=D.nx } σ2 H2)
def zfl (fp:List Addr) (h:Heap):List (Addr × Obj):=fp.filterMap fun b=>(h.get? b).map fun o=>(b,o)
theorem za4 {fp:List Addr} {h:Heap} {b:Addr} {o:Obj} (hb:b∈fp) (e:h.get? b=some o):(b,o)∈zfl fp h:=List.mem_filterMap.mpr ⟨b,hb,by rw[e];rfl⟩
theorem zjE {fp:List Addr} {h:Heap} {p:Addr × Obj} (hp:p∈zfl fp h):p.1∈fp∧h.get? p.1=some p.2:=by
  obtain⟨b,hb,e⟩:=List.mem_filterMap.mp hp
  cases q:h.get? b with
  | none=>rw[q]at e;cases e
  | some o =>
    rw[q]at e
    have e':(b,o)=p:=Option.some.inj e
    subst e'
    exact⟨hb,q⟩
theorem Inv.pinned {pins:List (Addr × Obj)} {σ:St} {H:Hp} {s:Shared} {fp:List Addr} (I:Inv X pins σ H s) (hf:∀ b∈fp,zbh X pins H b) (ho:∀ b∈fp,∃ o,s.heap.get? b=some o∧∀ v,o.data≠.cell v):Inv X (pins++zfl fp s.heap) σ H s :=
  I.pins_of fun p hp=>(List.mem_append.mp hp).elim (fun z=>I.pin p (List.mem_append_right _ z)) fun z=>by
    obtain⟨hb,e⟩:=zjE z
    obtain⟨f0,f1,f2,_⟩:=hf p.1 hb
    obtain⟨o,e',d⟩:=ho p.1 hb
    rw[e]at e';cases e'
    exact⟨e,f0,f1,f2,d⟩
theorem Inv.unpinned {pins pl:List (Addr × Obj)} {σ:St} {H:Hp} {s:Shared} (I:Inv X (pins++pl) σ H s):Inv X pins σ H s:=I.pins_of fun p hp=>I.pin p (List.mem_append_right _ (List.mem_append_left _ hp))
theorem zdg {iter:Expr} {body:List Stmt} {wi:TI} {g:TG} {tb:TS} {pos:Pos} (hp:PassesOwn (model X.prog X.w) X.A X.env X.xe) (hc:X.calm=true) (hi:PI X tg iter wi) (hg:PG X tg g) (hb:PSs X body tb)
    (hs:∀ x,foldedSetIterable iter X.env x=pure x:=by intro _;rfl):PS X (.For tg iter body [] pos) (tFor wi g tb):=by
  intro pins s σ H D I h
  refine wpAny_For (thn (hi pins s σ H _ I h) fun v s1 h1=>thn h1 fun itv s2 h2=>?_) hs
  obtain⟨it,fp,tn,J,H2,e,I2,T,st2,f2,W,⟨m0,w0⟩,turn⟩:=h2
  subst e
  have stat:∀ {H':Hp},(∀ b∈fp,H' b=none)→∀ b∈fp,zbh X pins H' b:=fun hn b hb=>⟨hn b hb,(f2 b hb).2⟩
  refine codeAny_forLoop_any (fun n s'=>∃ i σ' H',Inv X pins σ' H' s'∧tn i s'.heap∧(∀ b∈fp,H' b=none)∧W i n σ' H') ?_ m0 ⟨0,σ,H2,I2,st2,fun b hb=>(f2 b hb).1,w0⟩
  rintro n s3 ⟨i,σ3,H3,I3,st3,fr3,w3⟩
  rcases turn i n σ3 H3 w3 with ⟨stop,qn⟩ | ⟨go,N,hN,step⟩
  · refine wpAny_passesOwn hp (thn (T.done X rfl rfl rfl hc i pins s3 σ3 H3 X.xe I3 (stat fr3) st3 stop) fun r s4 ⟨hr,I4⟩=>?_)
    subst hr
    exact wpAny_execs_nil ⟨σ3,H3,I4,qn⟩
  · refine wpAny_passesOwn hp (thn (T.item X rfl rfl rfl hc i pins s3 σ3 H3 X.xe I3 (stat fr3) st3 go) fun r s4 ⟨u,hr,h4⟩=>?_)
    subst hr
    refine wpAny_passesOwn hp (thn h4 fun _ s5 ⟨x,H5,I5,r5,y5,st5,fr5⟩=>?_)
    have I5':=I5.pinned (stat fr5) (T.obj _ _ st5)
    refine wpAny_passesOwn hp (thn (hg _ s5 σ3 H5 x u _ I5' r5 (step x H5 y5)) fun _ s6 ⟨σ6,H6,I6,q6⟩=>?_)
    refine wpAny_passesOwn hp (thn (hb _ s6 σ6 H6 _ I6 q6) fun f s7 q7=>?_)
    have again:∀ {σ7:St} {H7:Hp},Inv X (pins++zfl fp s5.heap) σ7 H7 s7→N σ7 H7→∃ m,m < n∧∃ i σ' H',Inv X pins σ' H' s7∧tn i s7.heap∧(∀ b∈fp,H' b=none)∧W i m σ' H':=fun {σ7 H7} I7 n7=>by
      obtain⟨m',hm,w7⟩:=hN σ7 H7 n7
      refine⟨m',hm,i+1,σ7,H7,I7.unpinned,T.keep _ _ _ st5 fun b hb o e=>(I7.pin (b,o) (List.mem_append_right _ (List.mem_append_right _ (za4 hb e)))).1,fun b hb=>?_,w7⟩
      obtain⟨o,e,d⟩:=T.obj _ _ st5 b hb
      exact(I7.pin (b,o) (List.mem_append_right _ (List.mem_append_right _ (za4 hb e)))).2.1
    cases f with
    | next=>obtain⟨σ7,H7,I7,n7⟩:=q7;exact again I7 n7
    | cont=>obtain⟨σ7,H7,I7,n7⟩:=q7;exact again I7 n7
    | brk=>obtain⟨σ7,H7,I7,q7⟩:=q7;exact⟨σ7,H7,I7.unpinned,q7⟩
    | ret v=>obtain⟨x7,σ7,H7,I7,r7,q7⟩:=q7;exact⟨x7,σ7,H7,I7.unpinned,r7,q7⟩
end
theorem ze5 {K:PySem.W.Frag} {a:Addr} {xs:List V} {g:TG} {tb:TS} {D:zaM} {σ:St} {H:Hp} (Pv:Nat→St→Hp→Prop) (h0:Pv 0 σ H) (hl:∀ i σ H,i≤xs.length→Pv i σ H→SqL K H a xs)
    (hs:∀ i x σ H,xs[i]?=some x→Pv i σ H→g x σ H fun σ2 H2=>tb { D with nx:=Pv (i+1),ct:=Pv (i+1),bk:=D.nx } σ2 H2) (hd:∀ σ H,Pv xs.length σ H→D.nx σ H) :
    ∃ W:Nat→Nat→St→Hp→Prop,(∃ m,W 0 m σ H)∧∀ i m σ H,W i m σ H →
      ((Itl K a).stop i H∧D.nx σ H)∨((Itl K a).go i H∧∃ N:St→Hp→Prop,(∀ σ' H',N σ' H'→∃ m',m' < m∧W (i+1) m' σ' H')∧∀ x H',(Itl K a).yld i H x H'→g x σ H' fun σ2 H2=>tb { D with nx:=N,ct:=N,bk:=D.nx } σ2 H2):=by
  refine⟨fun i m σ H=>m=xs.length - i∧i≤xs.length∧Pv i σ H,⟨xs.length,by simp,Nat.zero_le _,h0⟩,?_⟩
  rintro i m σ H ⟨rfl,hi,p⟩
  have q:=hl i σ H hi p
  by_cases hlt:i < xs.length
  · refine .inr ⟨⟨xs,xs[i],q,by simp [hlt]⟩,Pv (i+1),fun σ' H' p'=>⟨xs.length - (i+1),by omega,rfl,hlt,p'⟩,fun x H' y=>?_⟩
    obtain⟨e,y⟩:=y
    subst e
    exact hs i x σ _ (y xs q) p
  · have e:i=xs.length:=by omega
    subst e
    exact .inl ⟨⟨xs,q,Nat.le_refl _⟩,hd σ H p⟩
theorem zfR {K:PySem.W.Frag} {a:Addr} {xs:List V} {g:TG} {tb:TS} {D:zaM} {σ:St} {H:Hp} (Pv:Nat→St→Hp→Prop) (h0:Pv 0 σ H) (hl:∀ i σ H,i≤xs.length→Pv i σ H→SqT K H a xs)
    (hs:∀ i x σ H,xs[i]?=some x→Pv i σ H→g x σ H fun σ2 H2=>tb { D with nx:=Pv (i+1),ct:=Pv (i+1),bk:=D.nx } σ2 H2) (hd:∀ σ H,Pv xs.length σ H→D.nx σ H) :
    ∃ W:Nat→Nat→St→Hp→Prop,(∃ m,W 0 m σ H)∧∀ i m σ H,W i m σ H →
      ((Itt K a).stop i H∧D.nx σ H)∨((Itt K a).go i H∧∃ N:St→Hp→Prop,(∀ σ' H',N σ' H'→∃ m',m' < m∧W (i+1) m' σ' H')∧∀ x H',(Itt K a).yld i H x H'→g x σ H' fun σ2 H2=>tb { D with nx:=N,ct:=N,bk:=D.nx } σ2 H2):=by
  refine⟨fun i m σ H=>m=xs.length - i∧i≤xs.length∧Pv i σ H,⟨xs.length,by simp,Nat.zero_le _,h0⟩,?_⟩
  rintro i m σ H ⟨rfl,hi,p⟩
  have q:=hl i σ H hi p
  by_cases hlt:i < xs.length
  · refine .inr ⟨⟨xs,xs[i],q,by simp [hlt]⟩,Pv (i+1),fun σ' H' p'=>⟨xs.length - (i+1),by omega,rfl,hlt,p'⟩,fun x H' y=>?_⟩
    obtain⟨e,y⟩:=y
    subst e
    exact hs i x σ _ (y xs q) p
  · have e:i=xs.length:=by omega
    subst e
    exact .inl ⟨⟨xs,q,Nat.le_refl _⟩,hd σ H p⟩
theorem zgf {lo:Int} {n:Nat} {g:TG} {tb:TS} {D:zaM} {σ:St} {H:Hp} (Pv:Nat→St→Hp→Prop) (h0:Pv 0 σ H)
    (hs:∀ i σ H,i < n→Pv i σ H→g (.int (lo+i)) σ H fun σ2 H2=>tb { D with nx:=Pv (i+1),ct:=Pv (i+1),bk:=D.nx } σ2 H2) (hd:∀ σ H,Pv n σ H→D.nx σ H) :
    ∃ W:Nat→Nat→St→Hp→Prop,(∃ m,W 0 m σ H)∧∀ i m σ H,W i m σ H →
      ((Itr lo n).stop i H∧D.nx σ H)∨((Itr lo n).go i H∧∃ N:St→Hp→Prop,(∀ σ' H',N σ' H'→∃ m',m' < m∧W (i+1) m' σ' H')∧∀ x H',(Itr lo n).yld i H x H'→g x σ H' fun σ2 H2=>tb { D with nx:=N,ct:=N,bk:=D.nx } σ2 H2):=by
  refine⟨fun i m σ H=>m=n - i∧i≤n∧Pv i σ H,⟨n,by simp,Nat.zero_le _,h0⟩,?_⟩
  rintro i m σ H ⟨rfl,hi,p⟩
  by_cases hlt:i < n
  · refine .inr ⟨hlt,Pv (i+1),fun σ' H' p'=>⟨n - (i+1),by omega,rfl,hlt,p'⟩,fun x H' y=>?_⟩
    obtain⟨e,y⟩:=y
    subst e y
    exact hs i σ _ hlt p
  · have e:i=n:=by omega
    subst e
    exact .inl ⟨Nat.le_refl _,hd σ H p⟩
end L2
namespace L2
open PySem PySem.Spec PyProof.Rows
abbrev R2:=V→V→Hp→VK→Prop
def OpR (X:Cx) (f:Value→Value→Sem Value) (r:R2):Prop :=
  ∀(pins:List (Addr × Obj)) (s:Shared) (σ:St) (H:Hp) (x y:V) (v u:Value) (Q:VK),Inv X pins σ H s→ax x v→ax y u→r x y H Q →
    wpAny (model X.prog X.w) X.A (f v u) (EP X pins σ Q) X.xe s
def UnR (X:Cx) (f:Value→Sem Value) (r:V→Hp→VK→Prop):Prop :=
  ∀(pins:List (Addr × Obj)) (s:Shared) (σ:St) (H:Hp) (x:V) (v:Value) (Q:VK),Inv X pins σ H s→ax x v→r x H Q →
    wpAny (model X.prog X.w) X.A (f v) (EP X pins σ Q) X.xe s
def zbQ (X:Cx) (f:Value) (r:List V→Hp→VK→Prop):Prop :=
  ∀(pins:List (Addr × Obj)) (s:Shared) (σ:St) (H:Hp) (xs:List V) (us:List Value) (Q:VK),Inv X pins σ H s→aw xs us→r xs H Q →
    wpAny (model X.prog X.w) X.A (call f us) (EP X pins σ Q) X.xe s
def tOp (r:R2) (ta tb:TE):TE:=fun σ H Q=>ta σ H fun x H1=>tb σ H1 fun y H2=>r x y H2 Q
def tUn (r:V→Hp→VK→Prop) (ta:TE):TE:=fun σ H Q=>ta σ H fun x H1=>r x H1 Q
inductive rI (C:Int→Int→Prop) (g:Int→Int→V):R2 | mk {x y H Q} i j:x=.int i→y=.int j→C i j→Q (g i j) H→rI C g x y H Q
inductive rI0 (g:Int→Int→V):R2 | mk {x y H Q} i j:x=.int i→y=.int j→Q (g i j) H→rI0 g x y H Q
inductive rU (g:Int→V):V→Hp→VK→Prop | mk {x H Q} i:x=.int i→Q (g i) H→rU g x H Q
section
variable {X:Cx} {a b c:Expr} {ta tb tc:TE} {pos:Pos}
theorem binT (ha:PE X a ta) (hb:PE X b tb) {pins:List (Addr × Obj)} {s:Shared} {σ:St} {H:Hp} {R:V→V→Hp→Prop} (I:Inv X pins σ H s)
    (h:ta σ H fun x H1=>tb σ H1 fun y H2=>R x y H2) {Q:Value→Shared→Prop} {f:Value→Value→Sem Value}
    (hf:∀ v u s2 x y H2,Inv X pins σ H2 s2→ax x v→ax y u→R x y H2→wpAny (model X.prog X.w) X.A (f v u) Q X.xe s2) :
    wpAny (model X.prog X.w) X.A (eval a X.env) (fun v s₁=>wpAny (model X.prog X.w) X.A (eval b X.env) (fun u s₂=>wpAny (model X.prog X.w) X.A (f v u) Q X.xe s₂) X.xe s₁) X.xe s:=by
  refine thn (ha pins s σ H _ I h) fun v s1 ⟨x,H1,I1,r1,q1⟩=>?_
  refine thn (hb pins s1 σ H1 _ I1 q1) fun u s2 ⟨y,H2,I2,r2,q2⟩=>?_
  exact hf v u s2 x y H2 I2 r1 r2 q2
theorem ar {op:Operator} {r:R2} (ho:OpR X (binaryOp op) r) (ha:PE X a ta) (hb:PE X b tb):PE X (.BinOp a op b pos) (tOp r ta tb):=by
  intro pins s σ H Q I h
  exact wpAny_BinOp (binT ha hb I h fun v u s2 x y H2 I2 rx ry q=>ho pins s2 σ H2 x y v u Q I2 rx ry q)
theorem pe_un {op:UnaryOp} {r:V→Hp→VK→Prop} (ho:UnR X (unaryOp op) r) (ha:PE X a ta):PE X (.UnaryOp op a pos) (tUn r ta):=by
  intro pins s σ H Q I h
  exact UnaryOp_ (thn (ha pins s σ H _ I h) fun v s1 ⟨x,H1,I1,r1,q1⟩=>ho pins s1 σ H1 x v Q I1 r1 q1)
theorem opI {f:Value→Value→Sem Value} {C:Int→Int→Prop} {g:Int→Int→Int}
    (rule:∀(i j:Int) (t u:Tok) (s:Shared) (Q:Value→Shared→Prop) (E:Value→Shared→Prop),C i j→Q (.int (g i j) s.toks) { s with toks:=s.toks+1 }→wpAny (model X.prog X.w) X.A (f (.int i t) (.int j u)) Q E s) :
    OpR X f (rI C fun i j=>.int (g i j)):=by
  intro pins s σ H x y v u Q I rx ry h
  obtain⟨i,j,rfl,rfl,hc,q⟩:=h
  obtain⟨t,rfl⟩:=rx
  obtain⟨t',rfl⟩:=ry
  exact rule i j t t' s _ _ hc ⟨.int (g i j),H,I.tok _,⟨_,rfl⟩,q⟩
theorem opI0 {f:Value→Value→Sem Value} {g:Int→Int→Int}
    (rule:∀(i j:Int) (t u:Tok) (s:Shared) (Q:Value→Shared→Prop) (E:Value→Shared→Prop),Q (.int (g i j) s.toks) { s with toks:=s.toks+1 }→wpAny (model X.prog X.w) X.A (f (.int i t) (.int j u)) Q E s) :
    OpR X f (rI0 fun i j=>.int (g i j)):=by
  intro pins s σ H x y v u Q I rx ry h
  obtain⟨i,j,rfl,rfl,q⟩:=h
  obtain⟨t,rfl⟩:=rx
  obtain⟨t',rfl⟩:=ry
  exact rule i j t t' s _ _ ⟨.int (g i j),H,I.tok _,⟨_,rfl⟩,q⟩
theorem opB0 {f:Value→Value→Sem Value} {g:Int→Int→Bool}
    (rule:∀(i j:Int) (t u:Tok) (s:Shared) (Q:Value→Shared→Prop) (E:Value→Shared→Prop),Q (.bool (g i j)) s→wpAny (model X.prog X.w) X.A (f (.int i t) (.int j u)) Q E s) :
    OpR X f (rI0 fun i j=>.bl (g i j)):=by
  intro pins s σ H x y v u Q I rx ry h
  obtain⟨i,j,rfl,rfl,q⟩:=h
  obtain⟨t,rfl⟩:=rx
  obtain⟨t',rfl⟩:=ry
  exact rule i j t t' s _ _ ⟨.bl (g i j),H,I,rfl,q⟩
def CDiv (i j:Int):Prop:=0 < j∧j < 1073741824
def CPow (i j:Int):Prop:=0≤j∧j≤1000000∧i.natAbs < 2 ^ 64
def CMul (i j:Int):Prop:=(-(2 ^ 64) < i∧i < 2 ^ 64)∨(-(2 ^ 64) < j∧j < 2 ^ 64)
theorem CMul.ok {i j:Int} (h:CMul i j):IntMulOk i j:=by
  rcases h with ⟨h1,h2⟩ | ⟨h1,h2⟩
  · exact .of_left (intBits_le_64 h1 h2)
  · exact .of_right (intBits_le_64 h1 h2)
theorem zbt:OpR X (binaryOp .Add) (rI0 fun i j=>.int (i+j)):=opI0 fun _ _ _ _ _ _ _ q=>add_int q
theorem zgO:OpR X (binaryOp .Sub) (rI0 fun i j=>.int (i - j)):=opI0 fun _ _ _ _ _ _ _ q=>sub_int q
theorem zdh:OpR X (binaryOp .Mult) (rI CMul fun i j=>.int (i * j)):=opI fun _ _ _ _ _ _ _ hc q=>mul_int q hc.ok
theorem zbw:OpR X (binaryOp .FloorDiv) (rI CDiv fun i j=>.int (i / j)):=opI fun i j _ _ _ _ _ hc q=>by
  have h1:(0:Int) < j:=hc.1
  have h2:j < 1073741824:=hc.2
  exact floordiv_int (by omega) (by rw[Int.fdiv_eq_ediv_of_nonneg i (by omega)];exact q) (.inl (PyProof.noPylong_small (by omega)))
theorem zaE:OpR X (binaryOp .Mod) (rI (fun _ j=>0 < j) fun i j=>.int (i % j)):=opI fun i j _ _ _ _ _ hc q=>by
  have h1:(0:Int) < j:=hc
  exact mod_int' (by omega) (by rw[Int.fmod_eq_emod_of_nonneg i (by omega)];exact q)
theorem op_pow:OpR X (binaryOp .Pow) (rI CPow fun i j=>.int (i ^ j.toNat)):=opI fun _ _ _ _ _ _ _ hc q=>pow_int_small hc.1 hc.2.1 hc.2.2 q
theorem unI {f:Value→Sem Value} {g:Int→Int}
    (rule:∀(i:Int) (t:Tok) (s:Shared) (Q:Value→Shared→Prop) (E:Value→Shared→Prop),Q (.int (g i) s.toks) { s with toks:=s.toks+1 }→wpAny (model X.prog X.w) X.A (f (.int i t)) Q E s) :
    UnR X f (rU fun i=>.int (g i)):=by
  intro pins s σ H x v Q I rx h
  obtain⟨i,rfl,q⟩:=h
  obtain⟨t,rfl⟩:=rx
  exact rule i t s _ _ ⟨.int (g i),H,I.tok _,⟨_,rfl⟩,q⟩
theorem ziO:UnR X (unaryOp .USub) (rU fun i=>.int (-i)):=unI fun _ _ _ _ _ q=>neg_int q
end
def scal:V→V→Bool
  | .non,.non=>true | .non,.int _=>true | .int _,.non=>true | .non,.bl _=>true | .bl _,.non=>true | .non,.str _=>true | .str _,.non=>true
  | .int _,.int _=>true | .bl _,.bl _=>true | .str _,.str _=>true | .byt _,.byt _=>true
  | .int _,.str _=>true | .str _,.int _=>true | .bl _,.str _=>true | .str _,.bl _=>true
  | _,_=>false
def rEq:R2:=fun x y H Q=>scal x y=true∧Q (.bl (decide (x=y))) H
def rNe:R2:=fun x y H Q=>scal x y=true∧Q (.bl (!decide (x=y))) H
theorem zh6 {i j:Int}:decide (V.int i=V.int j)=(i == j):=by
  rw[Bool.eq_iff_iff]
  simp
theorem zjn {i j:Bool}:decide (V.bl i=V.bl j)=(i == j):=by
  rw[Bool.eq_iff_iff]
  simp
theorem zh5 {i j:Str}:decide (V.str i=V.str j)=(i == j):=by
  rw[Bool.eq_iff_iff]
  simp
theorem zh7 {i j:Array UInt8}:decide (V.byt i=V.byt j)=(i.toList == j.toList):=by
  rw[Bool.eq_iff_iff]
  cases i
  cases j
  simp
section
variable {X:Cx} {a b c:Expr} {ta tb tc:TE} {pos:Pos}
theorem zat {pins:List (Addr × Obj)} {σ:St} {H:Hp} {s:Shared} {Q:VK} {k k':Bool} (I:Inv X pins σ H s) (q:Q (.bl k) H) (e:k=k'):EP X pins σ Q (.bool k') s:=by
  subst e
  exact⟨.bl k,H,I,rfl,q⟩
theorem zbc:OpR X (compareOp .Eq) rEq:=by
  intro pins s σ H x y v u Q I rx ry h
  obtain⟨hs,q⟩:=h
  cases x with
  | non =>
    cases rx
    cases y with
    | non=>cases ry;exact PySem.EqNone.eq_none_none (zat I q (by simp))
    | bl j=>cases ry;exact PySem.EqNone.eq_none_bool (zat I q (by simp))
    | int j=>obtain⟨t',rfl⟩:=ry;exact PySem.EqNone.eq_none_int (zat I q (by simp))
    | str j=>obtain⟨t',rfl⟩:=ry;exact PySem.EqNone.eq_none_str (zat I q (by simp))
    | _=>exact absurd (show false=true from hs) Bool.false_ne_true
  | bl i =>
    cases rx
    cases y with
    | non=>cases ry;exact PySem.EqNone.eq_bool_none (zat I q (by simp))
    | bl j=>cases ry;exact eq_bool (zat I q zjn)
    | str j=>obtain⟨t',rfl⟩:=ry;exact PySem.EqMixed.eq_bool_str (zat I q (by simp))
    | _=>exact absurd (show false=true from hs) Bool.false_ne_true
  | int i =>
    obtain⟨t,rfl⟩:=rx
    cases y with
    | non=>cases ry;exact PySem.EqNone.eq_int_none (zat I q (by simp))
    | int j=>obtain⟨t',rfl⟩:=ry;exact eq_int (zat I q zh6)
    | str j=>obtain⟨t',rfl⟩:=ry;exact PySem.EqMixed.eq_int_str (zat I q (by simp))
    | _=>exact absurd (show false=true from hs) Bool.false_ne_true
  | str i =>
    obtain⟨t,rfl⟩:=rx
    cases y with
    | non=>cases ry;exact PySem.EqNone.eq_str_none (zat I q (by simp))
    | bl j=>cases ry;exact PySem.EqMixed.eq_str_bool (zat I q (by simp))
    | int j=>obtain⟨t',rfl⟩:=ry;exact PySem.EqMixed.eq_str_int (zat I q (by simp))
    | str j=>obtain⟨t',rfl⟩:=ry;exact eq_str (zat I q zh5)
    | _=>exact absurd (show false=true from hs) Bool.false_ne_true
  | byt i =>
    obtain⟨t,rfl⟩:=rx
    cases y with
    | byt j=>obtain⟨t',rfl⟩:=ry;exact PySem.W.eq_bytes (zat I q zh7)
    | _=>exact absurd (show false=true from hs) Bool.false_ne_true
  | _=>cases y <;> exact absurd (show false=true from hs) Bool.false_ne_true
theorem op_ne:OpR X (compareOp .NotEq) rNe:=by
  intro pins s σ H x y v u Q I rx ry h
  obtain⟨hs,q⟩:=h
  cases x with
  | non =>
    cases rx
    cases y with
    | non=>cases ry;exact PySem.EqNone.ne_none_none (zat I q (by simp))
    | bl j=>cases ry;exact PySem.EqNone.ne_none_bool (zat I q (by simp))
    | int j=>obtain⟨t',rfl⟩:=ry;exact PySem.EqNone.ne_none_int (zat I q (by simp))
    | str j=>obtain⟨t',rfl⟩:=ry;exact PySem.EqNone.ne_none_str (zat I q (by simp))
    | _=>exact absurd (show false=true from hs) Bool.false_ne_true
  | bl i =>
    cases rx
    cases y with
    | non=>cases ry;exact PySem.EqNone.ne_bool_none (zat I q (by simp))
    | bl j=>cases ry;exact ne_bool (zat I q (congrArg not zjn))
    | str j=>obtain⟨t',rfl⟩:=ry;exact PySem.EqMixed.ne_bool_str (zat I q (by simp))
    | _=>exact absurd (show false=true from hs) Bool.false_ne_true
  | int i =>
    obtain⟨t,rfl⟩:=rx
    cases y with
    | non=>cases ry;exact PySem.EqNone.ne_int_none (zat I q (by simp))
    | int j=>obtain⟨t',rfl⟩:=ry;exact ne_int (zat I q (congrArg not zh6))
    | str j=>obtain⟨t',rfl⟩:=ry;exact PySem.EqMixed.ne_int_str (zat I q (by simp))
    | _=>exact absurd (show false=true from hs) Bool.false_ne_true
  | str i =>
    obtain⟨t,rfl⟩:=rx
    cases y with
    | non=>cases ry;exact PySem.EqNone.ne_str_none (zat I q (by simp))
    | bl j=>cases ry;exact PySem.EqMixed.ne_str_bool (zat I q (by simp))
    | int j=>obtain⟨t',rfl⟩:=ry;exact PySem.EqMixed.ne_str_int (zat I q (by simp))
    | str j=>obtain⟨t',rfl⟩:=ry;exact ne_str (zat I q (congrArg not zh5))
    | _=>exact absurd (show false=true from hs) Bool.false_ne_true
  | byt i =>
    obtain⟨t,rfl⟩:=rx
    cases y with
    | byt j=>obtain⟨t',rfl⟩:=ry;exact PySem.W.ne_bytes (zat I q (congrArg not zh7))
    | _=>exact absurd (show false=true from hs) Bool.false_ne_true
  | _=>cases y <;> exact absurd (show false=true from hs) Bool.false_ne_true
theorem zim:OpR X (compareOp .Lt) (rI0 fun i j=>.bl (decide (i < j))):=opB0 fun _ _ _ _ _ _ _ q=>lt_int q
theorem op_le:OpR X (compareOp .LtE) (rI0 fun i j=>.bl (decide (i≤j))):=opB0 fun _ _ _ _ _ _ _ q=>le_int q
theorem zfb:OpR X (compareOp .Gt) (rI0 fun i j=>.bl (decide (j < i))):=opB0 fun _ _ _ _ _ _ _ q=>gt_int q
theorem zin:OpR X (compareOp .GtE) (rI0 fun i j=>.bl (decide (j≤i))):=opB0 fun _ _ _ _ _ _ _ q=>ge_int q
theorem zf7:OpR X (compareOp .In) (fun x y H Q=>∃ i j,x=.str i∧y=.str j∧Q (.bl (!(Builtin.Str.occurrences j i 0 j.length 1).isEmpty)) H):=by
  intro pins s σ H x y v u Q I rx ry h
  obtain⟨i,j,rfl,rfl,q⟩:=h
  obtain⟨t,rfl⟩:=rx
  obtain⟨t',rfl⟩:=ry
  exact in_str (zat I q rfl)
theorem OpR.or {f:Value→Value→Sem Value} {r r':R2} (h:OpR X f r) (h':OpR X f r'):OpR X f (fun x y H Q=>r x y H Q∨r' x y H Q):=by
  intro pins s σ H x y v u Q I rx ry q
  rcases q with q | q
  · exact h pins s σ H x y v u Q I rx ry q
  · exact h' pins s σ H x y v u Q I rx ry q
theorem zas (b:Expr) {op:CmpOp} (h:op≠.In:=by decide) (h2:op≠.NotIn:=by decide):behindInMarks op b=false:=by
  have e1:(op == CmpOp.In)=false:=by cases op <;> first | rfl | exact absurd rfl h
  have e2:(op == CmpOp.NotIn)=false:=by cases op <;> first | rfl | exact absurd rfl h2
  cases b <;> simp [behindInMarks,e1,e2]
theorem zca {op:CmpOp} {r:R2} (ho:OpR X (compareOp op) r) (ha:PE X a ta) (hb:PE X b tb) (hm:behindInMarks op b=false):PE X (.Compare a [op] [b] pos) (tOp r ta tb):=by
  intro pins s σ H Q I h
  exact wpAny_Compare1 (binT ha hb I h fun v u s2 x y H2 I2 rx ry q=>ho pins s2 σ H2 x y v u Q I2 rx ry q) hm
def tTest (t:TE):TT:=fun σ H Q=>t σ H fun x H'=>isB x H' Q
theorem zal {op:CmpOp} {r:R2} (ho:OpR X (compareOp op) r) (ha:PE X a ta) (hb:PE X b tb) (hm:behindInMarks op b=false):PT X (.Compare a [op] [b] pos) (tTest (tOp r ta tb)):=by
  intro pins s σ H Q I h
  refine wpAny_isTrue_Compare1 (thn (ha pins s σ H _ I h) fun v s1 ⟨x,H1,I1,r1,q1⟩=>thn (hb pins s1 σ H1 _ I1 q1) fun u s2 ⟨y,H2,I2,r2,q2⟩ =>
    thn (ho pins s2 σ H2 x y v u _ I2 r1 r2 q2) fun c s3 ⟨z,H3,I3,r3,k,e,q3⟩=>?_) hm
  subst e
  cases r3
  exact wpAny_truthy_bool ⟨H3,I3,q3⟩
theorem zdj:(sizeLine:Nat) < 2 ^ 63:=by rw[sizeLine_eq];decide
theorem zaf:OpR X (binaryOp .Add) (fun x y H Q=>∃ i j,x=.str i∧y=.str j∧i.length+j.length≤sizeLine∧Q (.str (i++j)) H):=by
  intro pins s σ H x y v u Q I rx ry h
  obtain⟨i,j,rfl,rfl,hz,q⟩:=h
  obtain⟨t,rfl⟩:=rx
  obtain⟨t',rfl⟩:=ry
  exact add_str (fun t' tk=>⟨.str (i++j),H,I.tok _,⟨_,rfl⟩,q⟩) hz
theorem ze7 {x:V} {us:List Value} (r:aw [x] us):∃ u,us=[u]∧ax x u:=by
  cases r with
  | cons r1 r2=>cases r2;exact⟨_,rfl,r1⟩
theorem vals2 {x y:V} {us:List Value} (r:aw [x,y] us):∃ u w',us=[u,w']∧ax x u∧ax y w':=by
  cases r with
  | cons r1 r2 =>
    cases r2 with
    | cons r3 r4=>cases r4;exact⟨_,_,rfl,r1,r3⟩
theorem zkp:zbQ X (.builtin "abs") (fun xs H Q=>∃ i,xs=[.int i]∧Q (.int (if i < 0 then -i else i)) H):=by
  intro pins s σ H xs us Q I r h
  obtain⟨i,rfl,q⟩:=h
  obtain⟨u,rfl,t,rfl⟩:=ze7 r
  exact call_abs_int fun u tk=>⟨.int (if i < 0 then -i else i),H,I.tok _,⟨_,rfl⟩,q⟩
end
end L2
namespace L2
open PySem PySem.Spec PyProof.Rows
structure zeD (h:Heap) (x dx C:Addr) (mA:Str→Option Value):Prop where
  obj:h.get? x=some (PySem.W.instObj C dx)
  ns:h.Ns1 dx mA
  ne:dx≠x
theorem zjG {h:Heap} {dx:Addr} {mA:Str→Option Value} (n:h.Ns1 dx mA):∃ od,h.get? dx=some od∧∀ name,PySem.W.lookIn name od=some (mA name):=by
  obtain⟨o,es,ep,ho,hd,hk,_,hm⟩:=n
  refine⟨o,ho,fun name=>?_⟩
  have e:=hm name
  unfold nsFind findBy at e
  rw[←Array.find?_toList]at e
  unfold PySem.W.lookIn
  rw[hd]
  dsimp only
  split
  · rename_i y q
    rw[q]at e
    exact congrArg some e
  · rename_i q
    rw[q]at e
    have a:es.toList.any (·.refKey)=false:=by
      rw[List.any_eq_false]
      intro y hy
      obtain⟨z,t,hkey⟩:=hk y (Array.mem_toList_iff.mp hy)
      simp [DictEntry.refKey,hkey]
    have a':¬es.toList.any (·.refKey)=true:=by rw[a];exact Bool.false_ne_true
    rw[if_neg a']
    exact congrArg some e
theorem zeD.look {h:Heap} {x dx C:Addr} {mA:Str→Option Value} (I:zeD h x dx C mA):∃ od,PySem.W.InstAt h x (PySem.W.instObj C dx) C (some od)∧∀ name,PySem.W.lookIn name od=some (mA name) :=
  let ⟨od,ho,hl⟩:=zjG I.ns
  ⟨od,⟨I.obj,rfl,rfl,ho⟩,hl⟩
section
variable {prog:Program} {w:World} {A:Around} {E:Value→Shared→Prop} {s:Shared} {K:PySem.W.Frag} {x dx C f:Addr} {mA:Str→Option Value} {name:Str} {v:Value}
theorem zli {expr:Bool} {Q:Value→Shared→Prop} (X:K.In s.heap) (I:zeD s.heap x dx C mA) (hg:PySem.W.plainGet K C name=true) (hh:PySem.W.hasDictIn K C=true)
    (ha:PySem.W.findIn K (.ref C) name=some none) (hv:mA name=some v) (hv':PySem.W.handedIn v=true) (h:Q v { s with toks:=s.toks+1 }) :
    wpAny (model prog w) A (getAttr (.ref x) name expr) Q E s:=by
  obtain⟨od,J,hl⟩:=I.look
  exact PySem.W.get_value X J (PySem.W.plainGet_of hg).1 (PySem.W.findObj_own hh ha rfl (by rw[hl,hv])) hv' h
theorem zkj {pl:Sem Bool} {Q:Value × List Value→Shared→Prop} (X:K.In s.heap) (I:zeD s.heap x dx C mA) (hg:PySem.W.plainGet K C name=true)
    (hf:PySem.W.findIn K (.ref C) name=some (some (.ref f))) (ht:PySem.W.isFn K (.ref f)=true) (hv:mA name=none) (h:Q (.ref f,[.ref x]) s) :
    wpAny (model prog w) A (getMethod (.ref x) name pl) Q E s:=by
  obtain⟨od,J,hl⟩:=I.look
  exact PySem.W.method_fn X J (PySem.W.plainGet_of hg).1 (PySem.W.plainGet_of hg).2 hf (beq_iff_eq.mp ht) (by show(PySem.W.lookIn name od).map (·.isSome)=some false;rw[hl,hv];rfl) h
theorem zkG {ns:List Str} {Q:Unit→Shared→Prop} (X:K.In s.heap) (I:zeD s.heap x dx C mA)
    (hs:PySem.W.findIn K (.ref C) "__setattr__"=some (some (.builtin "object.__setattr__"))) (hp:PySem.W.plainOver K C=true) (ht:PySem.W.takerIn K C name=some none) (hh:PySem.W.hasDictIn K C=true)
    (hw:PySem.Within mA ns) (hsz:ns.length≤sizeLine)
    (h:∀ h',zeD h' x dx C (fun y=>if y=name then some v else mA y)→Heap.SameBut dx s.heap h'→Q () { s with heap:=h',toks:=s.toks+2 }) :
    wpAny (model prog w) A (setAttr (.ref x) name v) Q E s:=by
  obtain⟨od,J,hl⟩:=I.look
  refine PySem.W.set_plain X J hs (PySem.W.osa_open (s:={ s with toks:=s.toks+1 }) (r:=none) X J hp ht fun b=>?_)
  obtain⟨cd,hc,hd'⟩:=PySem.W.any_some hh
  have hx:s.heap.get? x=some ⟨.ref C,some dx,.plain,#[]⟩:=I.obj
  refine wpAny_bind (wpAny_pure (wpAny_bind (wpAny_bind (wpAny_loadPart hx (wpAny_bind (PySem.W.Looks.here (s:={ s with toks:=s.toks+1 }) (PySem.W.looks_clsIn X hc) ?_))))))
  rw[hd']
  refine wpAny_pure (a:=some dx) (wpAny_bind (wpAny_pure (wpAny_bind ?_)))
  refine wpAny_nsSet1 (s:={ s with toks:=s.toks+1 }) I.ns fun h' hn2 hs2=>?_
  obtain⟨oD,esD,epD,hoD,hdD,hcD⟩:=hn2.count (PySem.Within.cons name v hw)
  refine wpAny_bind (wpAny_lookBehind hoD (by rw[hdD];exact pastItsLine_dict (Nat.le_trans hcD (by rw[List.length_cons];omega))) ?_)
  exact wpAny_pure (h _ ⟨(hs2.2 _ (Ne.symm I.ne)).trans I.obj,hn2,I.ne⟩ hs2)
theorem zkd {R:Result→Shared→Prop} {vs:List Value} {kw:List (Str × Value)} (X:K.In s.heap) (hm:PySem.W.makesIn K C=true)
    (hi:PySem.W.findIn K (.ref C) "__init__"=some (some (.ref f))) (hf:PySem.W.typeIn K (.ref f)=some (.type "function"))
    (h:codeAny (model prog w) (A.under (.builtin "type.__call__" ⟨.ref C :: vs,kw⟩)) (.call (.ref f) ⟨.ref (s.heap.objs.size+1) :: vs,kw⟩) (PySem.W.InitBack (s.heap.objs.size+1) R)
      { s with heap:=(s.heap.push PySem.W.emptyDict).push (PySem.W.instObj C s.heap.objs.size) }) :
    codeAny (model prog w) A (.call (.ref C) ⟨vs,kw⟩) R s:=by
  obtain⟨hh,g,d,t,os⟩:=s
  exact PySem.W.make_core (PySem.W.makes_of X hm) (PySem.W.looks_findIn X hi) (fun self=>PySem.W.bind_fn X self hf) (.inl rfl) h
end
def zaF (f:Str) (v:V):List (Str × V)→List (Str × V)
  | []=>[(f,v)]
  | (g,x) :: r=>if g=f then(g,v) :: r else(g,x) :: zaF f v r
theorem zav (f g:Str) (v:V):∀ fs:List (Str × V),(zaF f v fs).lookup g=if g=f then some v else fs.lookup g
  | []=>by
    show List.lookup g [(f,v)]=_
    by_cases h:g=f
    · have hb:(g == f)=true:=beq_iff_eq.mpr h
      simp only[List.lookup,hb,if_pos h]
    · have hb:(g == f)=false:=beq_eq_false_iff_ne.mpr h
      simp only[List.lookup,hb,if_neg h]
  | (k,x) :: r=>by
    have ih:=zav f g v r
    rw[show zaF f v ((k,x) :: r)=(if k=f then(k,v) :: r else(k,x) :: zaF f v r) from rfl]
    by_cases hk:k=f
    · rw[if_pos hk]
      by_cases h:g=k
      · have hb:(g == k)=true:=beq_iff_eq.mpr h
        simp only[List.lookup,hb,if_pos (h.trans hk)]
      · have hb:(g == k)=false:=beq_eq_false_iff_ne.mpr h
        simp only[List.lookup,hb,if_neg (fun e:g=f=>h (e.trans hk.symm))]
    · rw[if_neg hk]
      by_cases h:g=k
      · have hb:(g == k)=true:=beq_iff_eq.mpr h
        simp only[List.lookup,hb,if_neg (fun e:g=f=>hk (h.symm.trans e))]
      · have hb:(g == k)=false:=beq_eq_false_iff_ne.mpr h
        simp only[List.lookup,hb]
        exact ih
theorem zd7 (f:Str) (v:V):∀ fs:List (Str × V),f∈(zaF f v fs).map (·.1)∧∀ g,g∈fs.map (·.1)→g∈(zaF f v fs).map (·.1)
  | []=>⟨by simp [zaF],fun g h=>by simp at h⟩
  | (k,x) :: r=>by
    obtain⟨i1,i2⟩:=zd7 f v r
    rw[show zaF f v ((k,x) :: r)=(if k=f then(k,v) :: r else(k,x) :: zaF f v r) from rfl]
    by_cases hk:k=f
    · rw[if_pos hk]
      subst hk
      exact⟨by simp,fun g h=>by simpa using h⟩
    · rw[if_neg hk]
      refine⟨?_,fun g h=>?_⟩
      · rw[List.map_cons]
        exact List.mem_cons_of_mem _ i1
      · rw[List.map_cons]at h ⊢
        rcases List.mem_cons.mp h with e | e
        · exact List.mem_cons.mpr (.inl e)
        · exact List.mem_cons_of_mem _ (i2 g e)
theorem zey (f:Str) (v:V):∀ fs:List (Str × V),(zaF f v fs).length≤fs.length+1
  | []=>by simp [zaF]
  | (k,x) :: r=>by
    have ih:=zey f v r
    rw[show zaF f v ((k,x) :: r)=(if k=f then(k,v) :: r else(k,x) :: zaF f v r) from rfl]
    by_cases hk:k=f
    · rw[if_pos hk,List.length_cons,List.length_cons];omega
    · rw[if_neg hk,List.length_cons,List.length_cons];omega
theorem zda.some_of {v:V} {o:Option Value} (r:zda (some v) o):∃ u,o=some u∧ax v u:=by
  cases o with
  | none=>exact(show False from r).elim
  | some u=>exact⟨u,rfl,r⟩
theorem zda.none_of {o:Option Value} (r:zda none o):o=none:=by
  cases o with
  | none=>rfl
  | some u=>exact(show False from r).elim
theorem zjK {v:V} {u:Value} (r:ax v u):PySem.W.handedIn u=true:=by
  cases v with
  | non=>cases (show u=Value.none from r);rfl
  | bl b=>cases (show u=Value.bool b from r);rfl
  | int i=>obtain⟨t,e⟩:=(show ∃ t,u=Value.int i t from r);cases e;rfl
  | str x=>obtain⟨t,e⟩:=(show ∃ t,u=Value.str x t from r);cases e;rfl
  | byt b=>obtain⟨t,e⟩:=(show ∃ t,u=Value.bytes b t from r);cases e;rfl
  | flt b=>obtain⟨t,e⟩:=(show ∃ t,u=Value.float b t from r);cases e;rfl
  | ref a=>cases (show u=Value.ref a from r);rfl
  | ty n=>cases (show u=Value.type n from r);rfl
section
variable {P:Program} {w:World} {H H':Hp} {h h':Heap} {a C dx:Addr} {fs fs':List (Str × V)}
theorem zfP (hok:HOk P w H h) (e:H a=some (.ins C dx fs)):∃ mA,zeD h a dx C mA∧(∀ f,zda (fs.lookup f) (mA f))∧PySem.Within mA (fs.map (·.1))∧fs.length≤1000∧H dx=some (.own a):=by
  obtain⟨d,z,ne,ob,mA,n,r,q⟩:=(show zbq P w H h a (.ins C dx fs) from hok a _ e)
  exact⟨mA,⟨ob,n,ne⟩,r,q,z,d⟩
end
structure Cls (K:PySem.W.Frag) (C:Addr):Prop where
  pg:PySem.W.plainGet K C Str.empty=true
  hd:PySem.W.hasDictIn K C=true
  po:PySem.W.plainOver K C=true
  sa:PySem.W.findIn K (.ref C) "__setattr__"=some (some (.builtin "object.__setattr__"))
theorem Cls.get {K:PySem.W.Frag} {C:Addr} (c:Cls K C) (f:Str):PySem.W.plainGet K C f=true:=c.pg
def zbu (K:PySem.W.Frag) (C:Addr) (f:Str):Prop:=PySem.W.findIn K (.ref C) f=some none
theorem zbu.taker {K:PySem.W.Frag} {C:Addr} {f:Str} (n:zbu K C f):PySem.W.takerIn K C f=some none:=by
  unfold PySem.W.takerIn
  rw[show PySem.W.findIn K (.ref C) f=some none from n]
  rfl
structure zbp (K:PySem.W.Frag) (C:Addr) (m:Str) (f:Addr):Prop where
  at_:PySem.W.findIn K (.ref C) m=some (some (.ref f))
  fn:PySem.W.isFn K (.ref f)=true
  kp:PySem.W.keepIn K (.ref f)=true
section
variable {X:Cx} {pins:List (Addr × Obj)} {σ:St} {H:Hp} {s:Shared} {a C dx:Addr} {fs:List (Str × V)} {f:Str} {v:V} {A:Around} {E:Value→Shared→Prop}
theorem zfA {b:Bool} {Q:Value→Shared→Prop} (I:Inv X pins σ H s) (e:H a=some (.ins C dx fs)) (c:Cls X.K C) (n:zbu X.K C f) (l:fs.lookup f=some v)
    (h:∀ u s',Inv X pins σ H s'→ax v u→Q u s'):wpAny (model X.prog X.w) A (getAttr (.ref a) f b) Q E s:=by
  obtain⟨mA,O,r,_,_,_⟩:=zfP I.hok e
  obtain⟨u,hu,ru⟩:=zda.some_of (v:=v) (o:=mA f) (by rw[←l];exact r f)
  exact zli I.kIn O (c.get f) c.hd n hu (zjK ru) (h u _ (I.tok _) ru)
theorem zdI {m:Str} {g:Addr} {pl:Sem Bool} {Q:Value × List Value→Shared→Prop} (I:Inv X pins σ H s) (e:H a=some (.ins C dx fs)) (c:Cls X.K C) (k:zbp X.K C m g) (l:fs.lookup m=none)
    (h:Q (.ref g,[.ref a]) s):wpAny (model X.prog X.w) A (getMethod (.ref a) m pl) Q E s:=by
  obtain⟨mA,O,r,_,_,_⟩:=zfP I.hok e
  have hn:mA m=none:=zda.none_of (by rw[←l];exact r m)
  exact zkj I.kIn O (c.get m) k.at_ k.fn hn h
theorem zfv {y:V} {u:Value} {Q:Unit→Shared→Prop} (I:Inv X pins σ H s) (e:H a=some (.ins C dx fs)) (c:Cls X.K C) (n:zbu X.K C f) (hl:fs.length < 1000) (ry:ax y u)
    (h:∀ s',Inv X pins σ (upd H a (.ins C dx (zaF f y fs))) s'→Q () s'):wpAny (model X.prog X.w) A (setAttr (.ref a) f u) Q E s:=by
  obtain⟨mA,O,r,wi,_,ho⟩:=zfP I.hok e
  have hz:(fs.map (·.1)).length≤sizeLine:=by rw[List.length_map,sizeLine_eq];omega
  refine zkG I.kIn O c.sa c.po n.taker c.hd wi hz fun h' O' sb=>h _ ?_
  have hd:∃ o,h'.get? dx=some o:=let ⟨o,_,_,e',_⟩:=O'.ns;⟨o,e'⟩
  refine I.write (x:=a) (e:=dx) (by rw[e];exact True.intro) (.inr ho) (fun b q hb z=>(sb.2 b hb).trans z) hd ?_
  refine⟨by rw[ai O.ne];exact ho,?_,O.ne,O'.obj,_,O'.ns,fun g=>?_,fun g hg=>?_⟩
  · have:=zey f y fs;omega
  · show zda ((zaF f y fs).lookup g) (if g=f then some u else mA g)
    rw[zav]
    by_cases q:g=f
    · rw[if_pos q,if_pos q];exact ry
    · rw[if_neg q,if_neg q];exact r g
  · by_cases q:g=f
    · rw[q];exact(zd7 f y fs).1
    · refine(zd7 f y fs).2 g (wi g fun z=>hg ?_)
      show(if g=f then some u else mA g)=none
      rw[if_neg q];exact z
theorem Inv.made (I:Inv X pins σ H s):Inv X pins σ (upd (upd H s.heap.objs.size (.own (s.heap.objs.size+1))) (s.heap.objs.size+1) (.ins C s.heap.objs.size []))
    { s with heap:=(s.heap.push PySem.W.emptyDict).push (PySem.W.instObj C s.heap.objs.size) }:=by
  have e1:(s.heap.push PySem.W.emptyDict).get? s.heap.objs.size=some PySem.W.emptyDict:=Heap.get?_push_size s.heap rfl
  have e2:((s.heap.push PySem.W.emptyDict).push (PySem.W.instObj C s.heap.objs.size)).get? (s.heap.objs.size+1)=some (PySem.W.instObj C s.heap.objs.size):=by
    have:=Heap.get?_push_size (s.heap.push PySem.W.emptyDict) (o:=PySem.W.instObj C s.heap.objs.size) rfl
    rwa [Heap.size_push]at this
  have e3:(s.heap.push PySem.W.emptyDict).Ns s.heap.objs.size (fun _=>none):=⟨PySem.W.emptyDict,#[],_,e1,rfl,(fun e he=>absurd he (by simp)),fun _=>rfl⟩
  have I1:=I.laid (a:=s.heap.objs.size) (o:=.own (s.heap.objs.size+1)) (h':=s.heap.push PySem.W.emptyDict) (t':=s.toks) (fun b u q=>Heap.get?_push_of_some _ q) (Nat.le_refl _) ⟨_,e1⟩
  refine I1.laid (a:=s.heap.objs.size+1) (o:=.ins C s.heap.objs.size []) (t':=s.toks) (fun b u q=>Heap.get?_push_of_some _ q) (Nat.le_of_eq (Heap.size_push _ _)) ?_
  have ne:s.heap.objs.size≠s.heap.objs.size+1:=Nat.ne_of_lt (Nat.lt_succ_self _)
  refine⟨by rw[ai ne,ag],Nat.zero_le _,ne,e2,fun _=>none,(Heap.Ns1.of_empty e3).at fun o q=>Heap.get?_push_of_some _ q,fun _=>True.intro,fun y hy=>absurd rfl hy⟩
theorem zln {prog:Program} {w:World} {env:Env} {e:Expr} {f:Str} {pos:Pos} {s:Shared} {Q:Value→Shared→Prop} (hb:attributeBase e f env (eval e env)=eval e env)
    (h:wpAny (model prog w) A (eval e env) (fun o s₁=>wpAny (model prog w) A (getAttr o f true) Q E s₁) E s):wpAny (model prog w) A (eval (.Attribute e f pos) env) Q E s :=
  Attribute_any_ h (by rw[arm_eval_Attribute,hb])
end
inductive rFld (K:PySem.W.Frag) (f:Str):V→Hp→VK→Prop | mk {x H Q} a C dx fs v:x=.ref a→H a=some (.ins C dx fs)→Cls K C→zbu K C f→fs.lookup f=some v→Q v H→rFld K f x H Q
def tFld (K:PySem.W.Frag) (ta:TE) (f:Str):TE:=fun σ H Q=>ta σ H fun x H1=>rFld K f x H1 Q
def sFld (K:PySem.W.Frag) (ta tv:TE) (f:Str):TS:=fun D σ H=>tv σ H fun y H1=>ta σ H1 fun x H2=>∃ a C dx fs,x=.ref a∧H2 a=some (.ins C dx fs)∧Cls K C∧zbu K C f∧fs.length < 1000 ∧
  D.nx σ (upd H2 a (.ins C dx (zaF f y fs)))
def InOp (X:Cx) (op:Operator) (rd:V→V→Hp→VK→Prop):Prop :=
  ∀(pins:List (Addr × Obj)) (s:Shared) (σ:St) (H:Hp) (x y:V) (u v:Value) (Q:VK),Inv X pins σ H s→ax x u→ax y v→rd x y H Q→wpAny (model X.prog X.w) X.A (inplaceOp op u v) (EP X pins σ Q) X.xe s
def zkO (K:PySem.W.Frag) (ta tv:TE) (rd:V→V→Hp→VK→Prop) (f:Str):TS:=fun D σ H=>ta σ H fun x H1=>∃ a C dx fs v,x=.ref a∧H1 a=some (.ins C dx fs)∧Cls K C∧zbu K C f∧fs.lookup f=some v ∧
  tv σ H1 fun y H2=>rd v y H2 fun z H3=>∃ dx' fs',H3 a=some (.ins C dx' fs')∧fs'.length < 1000∧D.nx σ (upd H3 a (.ins C dx' (zaF f z fs')))
section
variable {X:Cx} {o e value:Expr} {f:Str} {pos pos' tpos:Pos} {ta tv:TE}
theorem zaS (he:PE X e ta) (hb:attributeBase e f X.env (eval e X.env)=eval e X.env):PE X (.Attribute e f pos) (tFld X.K ta f):=by
  intro pins s σ H Q I h
  refine zln hb (thn (he pins s σ H _ I h) fun u s1 ⟨x,H1,I1,rx,a,C,dx,fs,v,ex,ea,c,n,l,q⟩=>?_)
  subst ex
  obtain rfl:u=Value.ref a:=rx
  exact zfA I1 ea c n l fun u' s2 I2 ru=>⟨v,H1,I2,ru,q⟩
theorem zdQ (ha:PE X o ta) (hv:PE X value tv) (hs:swapsWith value (some (.Attribute o f pos')) pos.line X.env=pure false):PS X (.Assign [.Attribute o f pos'] value pos) (sFld X.K ta tv f):=by
  intro pins s σ H D I h
  refine plainObj_wpAny_Assign_Attribute (thn (hv pins s σ H _ I h) fun u s1 ⟨y,H1,I1,ry,q⟩=>thn (ha pins s1 σ H1 _ I1 q) fun ov s2 ⟨x,H2,I2,rx,a,C,dx,fs,ex,ea,c,n,l,q2⟩=>?_) hs
  subst ex
  obtain rfl:ov=Value.ref a:=rx
  exact zfv I2 ea c n l ry fun s3 I3=>⟨σ,_,I3,q2⟩
theorem zf5 {op:Operator} {rd:V→V→Hp→VK→Prop} (ha:PE X o ta) (hv:PE X value tv) (hop:InOp X op rd):PS X (.AugAssign (.Attribute o f tpos) op value pos) (zkO X.K ta tv rd f):=by
  intro pins s σ H D I h
  refine wpAny_AugAssign_AttributeAny (thn (ha pins s σ H _ I h) fun ov s1 ⟨x,H1,I1,rx,a,C,dx,fs,v,ex,ea,c,n,l,q⟩=>?_)
  subst ex
  obtain rfl:ov=Value.ref a:=rx
  refine zfA I1 ea c n l fun u s2 I2 ru=>thn (hv pins s2 σ H1 _ I2 q) fun w3 s3 ⟨y,H2,I3,ry,q3⟩=>thn (hop pins s3 σ H2 v y u w3 _ I3 ru ry q3) fun w4 s4 ⟨z,H3,I4,rz,dx',fs',ea',l',q4⟩=>?_
  exact zfv I4 ea' c n l' rz fun s5 I5=>⟨σ,_,I5,q4⟩
inductive rAdd:V→V→Hp→VK→Prop | mk {x y H Q} i j:x=.int i→y=.int j→Q (.int (i+j)) H→rAdd x y H Q
theorem zjg:InOp X .Add rAdd:=by
  rintro pins s σ H x y u v Q I rx ry ⟨i,j,rfl,rfl,q⟩
  obtain⟨t,rfl⟩:=(show ∃ t,u=Value.int i t from rx)
  obtain⟨t',rfl⟩:=(show ∃ t',v=Value.int j t' from ry)
  exact PyProof.Rows.iadd_int ⟨.int (i+j),H,I.tok _,⟨_,rfl⟩,q⟩
theorem zlr {pl:Sem Bool} {m:Str} {apos:Pos} {args:List Expr} {pins:List (Addr × Obj)} {s:Shared} {σ:St} {H:Hp} {Q:Value→Shared→Prop} {te:TE} (he:PE X e te) (I:Inv X pins σ H s)
    (h:te σ H fun x H1=>∃ a C dx fs g,x=.ref a∧H1 a=some (.ins C dx fs)∧Cls X.K C∧zbp X.K C m g∧fs.lookup m=none ∧
      ∀ s1,Inv X pins σ H1 s1→wpAny (model X.prog X.w) X.A (callWith pos (.ref g) [.ref a] (backTo pos (starEach args X.env)) (backToKw pos (keywordEach [] X.env))) Q X.xe s1)
    (ht:eval (.Call (.Attribute e m apos) args [] pos) X.env=(do
      let ov ←eval e X.env
      standAt apos.atName
      let (f,first) ←holding [ov] (getMethod ov m pl)
      callWith pos f first (backTo pos (starEach args X.env)) (backToKw pos (keywordEach [] X.env)))) :
    wpAny (model X.prog X.w) X.A (eval (.Call (.Attribute e m apos) args [] pos) X.env) Q X.xe s:=by
  refine PySem.W.methodCall_KW (pl:=pl) (thn (he pins s σ H _ I h) fun u s1 ⟨x,H1,I1,rx,a,C,dx,fs,g,ex,ea,c,k,l,q⟩=>?_) ht
  subst ex
  obtain rfl:u=Value.ref a:=rx
  exact zdI I1 ea c k l (q s1 I1)
end
section
variable {X:Cx} {pins:List (Addr × Obj)} {σ:St} {H:Hp} {s:Shared} {A:Around} {E:Value→Shared→Prop} {Q:Value→Shared→Prop} {c:Value} {b:Bool}
end
end L2
namespace L2
open PySem PySem.Spec PyProof.Rows
structure zai (k:Nat) (A:Around):Prop where
  hd:A.handled=none
  dp:A.depth+3 * k+5 < recursionLimit
  un:A.units+16 * k+200 < cLine
  gd:A.guards=some []
theorem zai.mono {j k:Nat} {A:Around} (r:zai k A) (h:j≤k):zai j A:=⟨r.hd,by have:=r.dp;omega,by have:=r.un;omega,r.gd⟩
theorem zai.deeper {k:Nat} {A:Around} (r:zai (k+1) A) (env:Env):zai k (A.deeper env) :=
  ⟨r.hd,by have:=r.dp;show A.depth+1+3 * k+5 < _;omega,by have:=r.un;show A.units+3+16 * k+200 < _;omega,r.gd⟩
theorem ziJ {A:Around} {C:Addr} {us:List Value} {kw:List (Str × Value)}:(A.under (.builtin "type.__call__" ⟨.ref C :: us,kw⟩)).depth=A.depth+1:=by
  first | rfl | simp [Around.under,Code.weight,Code.isCreation,Code.isGuard,Code.isCaller,Code.frames,Code.isFrame,guardIds]
theorem ziI {A:Around} {C:Addr} {us:List Value} {kw:List (Str × Value)}:(A.under (.builtin "type.__call__" ⟨.ref C :: us,kw⟩)).units=A.units+1:=by
  first | rfl | simp [Around.under,Code.cUnits,Code.frames,Code.isFrame]
theorem zhE {A:Around} {C:Addr} {us:List Value} {kw:List (Str × Value)} (h:A.guards=some []):(A.under (.builtin "type.__call__" ⟨.ref C :: us,kw⟩)).guards=some []:=by
  first | exact h | simp [Around.under,Code.guards,Code.isGuard,guardIds,pushGuards,h]
theorem zai.make {k:Nat} {A:Around} (r:zai (k+1) A) (C:Addr) (us:List Value) (kw:List (Str × Value)):zai k (A.under (.builtin "type.__call__" ⟨.ref C :: us,kw⟩)) :=
  ⟨r.hd,by have:=r.dp;rw[ziJ];omega,by have:=r.un;rw[ziI];omega,zhE r.gd⟩
theorem zai.depth {k:Nat} {A:Around} (r:zai k A):A.depth < recursionLimit:=by have:=r.dp;omega
theorem zai.units {k:Nat} {A:Around} (r:zai k A):A.units+64 < cLine:=by have:=r.un;omega
def tNil:TA:=fun _ H Q=>Q [] H
def zee (ta:TE) (tr:TA):TA:=fun σ H Q=>ta σ H fun x H1=>tr σ H1 fun xs H2=>Q (x :: xs) H2
section
variable {X:Cx} {e:Expr} {es:List Expr} {te:TE} {t:TA} {pos:Pos}
theorem ac:PA X [] tNil:=fun _ _ _ _ H Q I h=>Calls.spliced_nil ⟨[],H,I,.nil,h⟩
theorem aa (ha:PE X e te) (hr:PA X es t) (hs:starEach (e :: es) X.env=(false,eval e X.env) :: starEach es X.env:=by rfl):PA X (e :: es) (zee te t):=by
  intro pos pins s σ H Q I h
  rw[hs]
  show wpAny _ _ (spliced ((false,eval e X.env) :: backTo pos (starEach es X.env))) _ _ s
  refine Calls.spliced_cons (thn (ha pins s σ H _ I h) fun u s1 ⟨x,H1,I1,r1,q1⟩=>?_)
  exact thn (hr pos pins s1 σ H1 _ I1 q1) fun us s2 ⟨xs,H2,I2,r2,q2⟩=>⟨x :: xs,H2,I2,.cons r1 r2,q2⟩
def tTup (t:TA):TE:=fun σ H Q=>t σ H fun xs H1=>xs.length≤sizeLine∧∀ p,H1 p=none→Q (.ref p) (upd H1 p (.tup xs))
def zeA (t:TA):TE:=fun σ H Q=>t σ H fun xs H1=>xs.length≤sizeLine∧∀ p,H1 p=none→Q (.ref p) (upd H1 p (.lst xs))
theorem zbA {x1} (h:PA X es t):PE X (.Tuple es x1 pos) (tTup t):=by
  intro pins s σ H Q I hq
  refine wpAny_Tuple_spliced (thn (h pos pins s σ H _ I hq) fun us s1 ⟨xs,H1,I1,r,z,q⟩=>⟨by rw[←r.length];exact z,?_⟩)
  have hf:H1 s1.heap.objs.size=none:=I1.hok.fresh (Nat.le_refl _)
  refine⟨.ref s1.heap.objs.size,upd H1 s1.heap.objs.size (.tup xs),I1.laid (t':=s1.toks) (fun b u e=>Heap.get?_push_of_some _ e) (Nat.le_refl _) ?_,rfl,q _ hf⟩
  exact⟨z,us,r,⟨_,Heap.get?_push_size _ rfl,rfl,_,rfl⟩⟩
theorem za8 (h:PA X es t):PE X (.List es pos) (zeA t):=by
  intro pins s σ H Q I hq
  refine wpAny_List_spliced (thn (h pos pins s σ H _ I hq) fun us s1 ⟨xs,H1,I1,r,z,q⟩=>⟨by rw[←r.length];exact z,?_⟩)
  have hf:H1 s1.heap.objs.size=none:=I1.hok.fresh (Nat.le_refl _)
  refine⟨.ref s1.heap.objs.size,upd H1 s1.heap.objs.size (.lst xs),I1.laid (t':=s1.toks) (fun b u e=>Heap.get?_push_of_some _ e) (Nat.le_refl _) ?_,rfl,q _ hf⟩
  exact⟨z,us,0,r,Heap.get?_push_size _ rfl⟩
end
abbrev Sp:=List V→Hp→VK→XK→Prop
abbrev CXT:=List Env→Hp→Shared→XK→Value→Shared→Prop
structure zdM (P:Program) (w:World) (K:PySem.W.Frag) (mg:Str→Option Value) (base:Heap) (A:Around) (outer:List Env) (s:Shared) (H:Hp):Prop where
  frames:A.frames=some outer
  mod:Mod K mg base
  bs:∀ b o,base.get? b=some o→s.heap.get? b=some o∧H b=none
  bsz:base.objs.size≤s.heap.objs.size
  funs:s.heap.FunFrames base outer
  frf:∀ b∈frs outer,H b=none
  hok:HOk P w H s.heap
  bare:AllBare s.gens
def CE (outer:List Env) (P:Program) (w:World) (H:Hp) (s:Shared) (Q:VK) (u:Value) (s':Shared):Prop :=
  ∃ v H',s'.os=s.os∧AllBare s'.gens∧Un (frs outer) [] H H' s.heap s'.heap∧HOk P w H' s'.heap∧ax v u∧Q v H'
def CR (CX:CXT) (outer:List Env) (P:Program) (w:World) (H:Hp) (s:Shared) (Q:VK) (E:XK) (r:Result) (s':Shared):Prop :=
  match r with
  | .ok (.ret u)=>CE outer P w H s Q u s'
  | .ok _=>False
  | .error e=>CX outer H s E e s'
structure FnOk (P:Program) (w:World) (K:PySem.W.Frag) (mg:Str→Option Value) (base:Heap) (CX:CXT) (k:Nat) (f:Addr) (fd:FuncData) (ps:List Str) (sp:Sp):Prop where
  len:∀ vs H Q E,sp vs H Q E→vs.length=ps.length
  run:∀(A:Around) (outer:List Env) (s:Shared) (H:Hp) (args:Args) (us:List Value) (vs:List V) (Q:VK) (E:XK),zai k A→zdM P w K mg base A outer s H→BindsTo s fd args (ps.zip us)→aw vs us→sp vs H Q E →
    codeAny (model P w) A (.call (.ref f) args) (CR CX outer P w H s Q E) s
theorem FnOk.mono {P:Program} {w:World} {K:PySem.W.Frag} {mg:Str→Option Value} {base:Heap} {CX:CXT} {j k:Nat} {f:Addr} {fd:FuncData} {ps:List Str} {sp:Sp} (F:FnOk P w K mg base CX j f fd ps sp) (h:j≤k) :
    FnOk P w K mg base CX k f fd ps sp:=⟨F.len,fun A outer s H args us vs Q E hr=>F.run A outer s H args us vs Q E (hr.mono h)⟩
theorem FnOk.imp {P:Program} {w:World} {K:PySem.W.Frag} {mg:Str→Option Value} {base:Heap} {CX:CXT} {k:Nat} {f:Addr} {fd:FuncData} {ps:List Str} {sp sp':Sp} (F:FnOk P w K mg base CX k f fd ps sp)
    (h:∀ vs H Q E,sp' vs H Q E→sp vs H Q E):FnOk P w K mg base CX k f fd ps sp' :=
  ⟨fun vs H Q E q=>F.len vs H Q E (h _ _ _ _ q),fun A outer s H args us vs Q E hr he hb hv hs=>F.run A outer s H args us vs Q E hr he hb hv (h _ _ _ _ hs)⟩
theorem zdM.make {P:Program} {w:World} {K:PySem.W.Frag} {mg:Str→Option Value} {base:Heap} {A:Around} {outer:List Env} {s:Shared} {H:Hp} (e:zdM P w K mg base A outer s H) (C:Addr) (us:List Value) (kw:List (Str × Value)) :
    zdM P w K mg base (A.under (.builtin "type.__call__" ⟨.ref C :: us,kw⟩)) outer s H:=⟨by first | exact e.frames | (simpa [Around.under,Code.envs,Code.isFrame,pushEnvs] using e.frames),e.mod,e.bs,e.bsz,e.funs,e.frf,e.hok,e.bare⟩
section
variable {X:Cx} {pins:List (Addr × Obj)} {σ:St} {H:Hp} {s s':Shared}
theorem Inv.env0 (I:Inv X pins σ H s):zdM X.prog X.w X.K X.mg X.base X.A X.stack s H :=
  ⟨I.ok.frames,I.ok.mod,I.bs,Nat.le_trans I.ok.bsz I.sz,I.stack,I.stkFree,I.hok,I.bare⟩
theorem Inv.after {Q:VK} {u:Value} (I:Inv X pins σ H s) (h:CE X.stack X.prog X.w H s Q u s'):EP X pins σ Q u s':=by
  obtain⟨v,H',os,bare,un,hok,r,q⟩:=h
  obtain⟨hh,g,d,t,os'⟩:=s'
  obtain rfl:os'=s.os:=os
  exact⟨v,H',I.call (h':=hh) (g':=g) (d':=d) (t':=t) (ch:=[]) un hok bare (fun b z=>absurd z (by simp)),r,q⟩
end
def tCall (sp:Sp) (dvs:List V) (E:XK) (t:TA):TE:=fun σ H Q=>t σ H fun vs H1=>sp (vs++dvs) H1 Q E
inductive isO (C:Addr) (m:Str):V→Hp→Prop→Prop | mk {x H R} a dx fs:x=.ref a→H a=some (.ins C dx fs)→fs.lookup m=none→R→isO C m x H R
def tMeth (C:Addr) (m:Str) (sp:Sp) (dvs:List V) (E:XK) (ta:TE) (t:TA):TE:=fun σ H Q=>ta σ H fun x H1=>isO C m x H1 <| t σ H1 fun vs H2=>sp (x :: (vs++dvs)) H2 Q E
def tMake (C:Addr) (sp:Sp) (dvs:List V) (E:XK) (t:TA):TE:=fun σ H Q=>t σ H fun vs H1=>∀ x dx,H1 x=none→H1 dx=none→dx≠x →
  sp (.ref x :: (vs++dvs)) (upd (upd H1 dx (.own x)) x (.ins C dx [])) (fun v H2=>v=.non∧Q (.ref x) H2) E
def au (K:PySem.W.Frag) (fd:FuncData) (ps:List Str) (ds:List Value):Prop :=
  ∀(s:Shared) (us:List Value),K.In s.heap→(us++ds).length=ps.length→BindsTo s fd ⟨us,[]⟩ (ps.zip (us++ds))
theorem au.all {K:PySem.W.Frag} {fd:FuncData} {ps:List Str} (h:∀ us:List Value,us.length=ps.length→bindArgs fd ⟨us,[]⟩=pure (ps.zip us)):au K fd ps []:=fun s us _ hl=>by
  rw[List.append_nil]at hl ⊢
  exact .of_eq (h us hl)
def zbg (CX:CXT) (X:Cx) (E:XK):Prop:=∀(pins:List (Addr × Obj)) (σ:St) (H:Hp) (s:Shared) (e:Value) (s':Shared),Inv X pins σ H s→CX X.stack H s E e s'→X.xe e s'
section
variable {X:Cx} {CX:CXT} {k:Nat} {f C:Addr} {fd:FuncData} {ps:List Str} {sp:Sp} {dvs:List V} {ds:List Value} {E:XK} {x m:Str} {p pos apos:Pos} {e o:Expr} {es:List Expr} {ta:TE} {t:TA}
theorem zgF {pins:List (Addr × Obj)} {σ:St} {H:Hp} {s:Shared} {Q:VK} {us:List Value} {vs:List V} (F:FnOk X.prog X.w X.K X.mg X.base CX k f fd ps sp) (hr:zai k X.A) (hb:au X.K fd ps ds) (hd:aw dvs ds) (hx:zbg CX X E)
    (I:Inv X pins σ H s) (r:aw vs us) (h:sp (vs++dvs) H Q E):wpAny (model X.prog X.w) X.A (call (.ref f) us) (EP X pins σ Q) X.xe s:=by
  have r2:aw (vs++dvs) (us++ds):=r.append hd
  have hl:(us++ds).length=ps.length:=by rw[←r2.length];exact F.len _ _ _ _ h
  refine wpAny_call (codeAny_mono (F.run X.A X.stack s H ⟨us,[]⟩ (us++ds) (vs++dvs) Q E hr I.env0 (hb s us I.kIn hl) r2 h) fun r s' hq=>?_)
  cases r with
  | error e=>exact hx pins σ H s e s' I hq
  | ok fl =>
    cases fl with
    | ret u=>exact I.after hq
    | next=>exact False.elim hq
    | brk=>exact False.elim hq
    | cont=>exact False.elim hq
theorem zad (F:FnOk X.prog X.w X.K X.mg X.base CX k f fd ps sp) (hr:zai k X.A) (hg:Gl X x) (hm:X.mg x=some (.ref f)) (hk:PySem.W.keepIn X.K (.ref f)=true) (hb:au X.K fd ps ds) (hd:aw dvs ds) (hx:zbg CX X E)
    (ha:PA X (e :: es) t) (hdb:(x == ("__debug__":Str))=false:=by decide) (he:starEach (e :: es) X.env=(false,eval e X.env) :: starEach es X.env:=by rfl) (hpl:(backTo pos (starEach es X.env)).any (·.1)=false:=by rfl) :
    PE X (.Call (.Name x p) (e :: es) [] pos) (tCall sp dvs E t):=by
  intro pins s σ H Q I h
  refine wpAny_Call_Name_kw (zbZ I hg hm ?_ hdb)
  refine PySem.W.callWith_K (h₀:=X.base) I.ok.mod.kin hk (thn (ha pos pins s σ H _ I h) fun us s1 ⟨vs,H1,I1,r,q⟩=>⟨I1.kIn,?_⟩) he hpl
  exact zgF F hr hb hd hx I1 r q
theorem zaZ {pl:Sem Bool} (he:PE X o ta) (c:Cls X.K C) (hm:zbp X.K C m f) (F:FnOk X.prog X.w X.K X.mg X.base CX k f fd ps sp) (hr:zai k X.A) (hb:au X.K fd ps ds) (hd:aw dvs ds) (hx:zbg CX X E) (ha:PA X (e :: es) t)
    (hst:starEach (e :: es) X.env=(false,eval e X.env) :: starEach es X.env:=by rfl) (hpl:(backTo pos (starEach es X.env)).any (·.1)=false:=by rfl)
    (ht:eval (.Call (.Attribute o m apos) (e :: es) [] pos) X.env=(do
      let ov ←eval o X.env
      standAt apos.atName
      let (f,first) ←holding [ov] (getMethod ov m pl)
      callWith pos f first (backTo pos (starEach (e :: es) X.env)) (backToKw pos (keywordEach [] X.env))):=by rfl) :
    PE X (.Call (.Attribute o m apos) (e :: es) [] pos) (tMeth C m sp dvs E ta t):=by
  intro pins s σ H Q I h
  refine PySem.W.methodCall_KW (pl:=pl) (thn (he pins s σ H _ I h) fun u s1 ⟨x,H1,I1,rx,a,dx,fs,ex,ea,l,q⟩=>?_) ht
  subst ex
  obtain rfl:u=Value.ref a:=rx
  refine zdI I1 ea c hm l ?_
  refine PySem.W.callWith_K (first:=[.ref a]) (h₀:=X.base) I.ok.mod.kin hm.kp (thn (ha pos pins s1 σ H1 _ I1 q) fun us s2 ⟨vs,H2,I2,r,q2⟩=>⟨I2.kIn,?_⟩) hst hpl
  exact zgF (us:=.ref a :: us) (vs:=.ref a :: vs) F hr hb hd hx I2 (.cons rfl r) q2
theorem zeZ {pl:Sem Bool} (he:PE X o ta) (c:Cls X.K C) (hm:zbp X.K C m f) (F:FnOk X.prog X.w X.K X.mg X.base CX k f fd ps sp) (hr:zai k X.A) (hb:au X.K fd ps ds) (hd:aw dvs ds) (hx:zbg CX X E)
    (ht:eval (.Call (.Attribute o m apos) [] [] pos) X.env=(do
      let ov ←eval o X.env
      standAt apos.atName
      let (f,first) ←holding [ov] (getMethod ov m pl)
      callWith pos f first (backTo pos (starEach [] X.env)) (backToKw pos (keywordEach [] X.env))):=by rfl) :
    PE X (.Call (.Attribute o m apos) [] [] pos) (tMeth C m sp dvs E ta tNil):=by
  intro pins s σ H Q I h
  refine PySem.W.methodCall_KW (pl:=pl) (thn (he pins s σ H _ I h) fun u s1 ⟨x,H1,I1,rx,a,dx,fs,ex,ea,l,q⟩=>?_) ht
  subst ex
  obtain rfl:u=Value.ref a:=rx
  refine zdI I1 ea c hm l ?_
  exact PySem.W.callWith_K0 (first:=[.ref a]) I1.kIn hm.kp (zgF (us:=[.ref a]) (vs:=[.ref a]) F hr hb hd hx I1 (.cons rfl .nil) q)
structure Mk (K:PySem.W.Frag) (C f:Addr):Prop where
  makes:PySem.W.makesIn K C=true
  init:PySem.W.findIn K (.ref C) "__init__"=some (some (.ref f))
  fn:PySem.W.isFn K (.ref f)=true
  kp:PySem.W.keepIn K (.ref C)=true
theorem zg4 {pins:List (Addr × Obj)} {σ:St} {H:Hp} {s:Shared} {Q:VK} {us:List Value} {vs:List V} (M:Mk X.K C f) (F:FnOk X.prog X.w X.K X.mg X.base CX k f fd ps sp) (hr:zai (k+1) X.A) (hb:au X.K fd ps ds) (hd:aw dvs ds)
    (hx:zbg CX X E) (I:Inv X pins σ H s) (r:aw vs us)
    (h:∀ x dx,H x=none→H dx=none→dx≠x→sp (.ref x :: (vs++dvs)) (upd (upd H dx (.own x)) x (.ins C dx [])) (fun v H2=>v=.non∧Q (.ref x) H2) E) :
    wpAny (model X.prog X.w) X.A (call (.ref C) us) (EP X pins σ Q) X.xe s:=by
  have hq:=h (s.heap.objs.size+1) s.heap.objs.size (I.hok.fresh (Nat.le_succ _)) (I.hok.fresh (Nat.le_refl _)) (Nat.ne_of_lt (Nat.lt_succ_self _))
  have I2:=Inv.made (C:=C) I
  have r2:aw (V.ref (s.heap.objs.size+1) :: (vs++dvs)) (Value.ref (s.heap.objs.size+1) :: (us++ds)):=.cons rfl (r.append hd)
  have hl:(Value.ref (s.heap.objs.size+1) :: us++ds).length=ps.length:=by
    have e:=r2.length
    rw[F.len _ _ _ _ hq]at e
    exact e.symm
  refine wpAny_call (zkd (f:=f) I.kIn M.makes M.init (beq_iff_eq.mp M.fn) (codeAny_mono (F.run _ X.stack _ _ ⟨Value.ref (s.heap.objs.size+1) :: us,[]⟩ (Value.ref (s.heap.objs.size+1) :: (us++ds)) _ _ E (hr.make C us [])
    (I2.env0.make C us []) (hb _ (Value.ref (s.heap.objs.size+1) :: us) I2.kIn hl) r2 hq) fun r s' hq'=>?_))
  cases r with
  | error e=>exact hx pins σ _ _ e s' I2 hq'
  | ok fl =>
    cases fl with
    | ret u =>
      obtain⟨v,H',I3,rv,ev,q3⟩:=I2.after hq'
      subst ev
      exact⟨rv,⟨V.ref (s.heap.objs.size+1),H',I3,rfl,q3⟩⟩
    | next=>exact False.elim hq'
    | brk=>exact False.elim hq'
    | cont=>exact False.elim hq'
theorem zkU (M:Mk X.K C f) (F:FnOk X.prog X.w X.K X.mg X.base CX k f fd ps sp) (hr:zai (k+1) X.A) (hg:Gl X x) (hm:X.mg x=some (.ref C)) (hb:au X.K fd ps ds) (hd:aw dvs ds) (hx:zbg CX X E)
    (ha:PA X (e :: es) t) (hdb:(x == ("__debug__":Str))=false:=by decide) (he:starEach (e :: es) X.env=(false,eval e X.env) :: starEach es X.env:=by rfl) (hpl:(backTo pos (starEach es X.env)).any (·.1)=false:=by rfl) :
    PE X (.Call (.Name x p) (e :: es) [] pos) (tMake C sp dvs E t):=by
  intro pins s σ H Q I h
  refine wpAny_Call_Name_kw (zbZ I hg hm ?_ hdb)
  refine PySem.W.callWith_K (h₀:=X.base) I.ok.mod.kin M.kp (thn (ha pos pins s σ H _ I h) fun us s1 ⟨vs,H1,I1,r,q⟩=>⟨I1.kIn,?_⟩) he hpl
  exact zg4 M F hr hb hd hx I1 r q
theorem zj1 (M:Mk X.K C f) (F:FnOk X.prog X.w X.K X.mg X.base CX k f fd ps sp) (hr:zai (k+1) X.A) (hg:Gl X x) (hm:X.mg x=some (.ref C)) (hb:au X.K fd ps ds) (hd:aw dvs ds) (hx:zbg CX X E)
    (hdb:(x == ("__debug__":Str))=false:=by decide):PE X (.Call (.Name x p) [] [] pos) (tMake C sp dvs E tNil):=by
  intro pins s σ H Q I h
  refine wpAny_Call_Name_kw (zbZ I hg hm ?_ hdb)
  exact PySem.W.callWith_K0 I.kIn M.kp (zg4 (us:=[]) M F hr hb hd hx I .nil h)
end
section
variable {X:Cx} {CX:CXT} {k:Nat} {f C:Addr} {fd:FuncData} {ps ks:List Str} {sp:Sp} {E:XK} {x m:Str} {p pos apos kpos:Pos} {e o:Expr} {es:List Expr} {kws:List Keyword} {te ta:TE} {t tk:TA} {nm:Option Str}
variable {g:List Value→List Value→List Value} {gV:List V→List V→List V}
end
structure zaa (N P:List Str) (sc:Scope):Prop where
  kind:sc.kind=.function
  co:sc.isCoroutine=false
  gen:sc.isGenerator=false
  nd:N.Nodup
  pre:N.take P.length=P
  par:∀ x∈P,sc.names.lookup x=some .local∨sc.names.lookup x=some .cell
  nofree:∀ y∈sc.names,y.2≠.free
theorem zgj {kindOf:Str→Option NameKind} {x:Str}:∀ {binds:List (Str × Value)} {m:Str→Option Value},(∀ v,(x,v)∉binds)→bindL kindOf binds m x=m x
  | [],_,_=>rfl
  | (n,v) :: r,m,h=>by
    unfold bindL
    rw[zgj fun w hw=>h w (List.mem_cons_of_mem _ hw)]
    split
    · have:x≠n:=by rintro rfl;exact h v List.mem_cons_self
      simp [this]
    · rfl
theorem zgk {kindOf:Str→Option NameKind} {x:Str}:∀ {binds:List (Str × Value)} {m:Str→Option Value},(∀ v,(x,v)∉binds)→bindC kindOf binds m x=m x
  | [],_,_=>rfl
  | (n,v) :: r,m,h=>by
    unfold bindC
    rw[zgk fun w hw=>h w (List.mem_cons_of_mem _ hw)]
    split
    · rfl
    · have:x≠n:=by rintro rfl;exact h v List.mem_cons_self
      simp [this]
theorem zeb {kindOf:Str→Option NameKind} {x:Str} {v:Value}:∀ {P:List Str} {vs:List Value} {i:Nat} {m:Str→Option Value},P.Nodup→P[i]?=some x→vs[i]?=some v→kindOf x=some .local →
    bindL kindOf (P.zip vs) m x=some v
  | [],_,_,_,_,h,_,_=>by simp at h
  | _ :: _,[],_,_,_,_,h,_=>by simp at h
  | p :: P,w :: vs,0,m,nd,h1,h2,hk=>by
    simp at h1 h2;subst h1;subst h2
    show bindL kindOf ((p,w) :: P.zip vs) m p=_
    unfold bindL
    rw[zgj fun v hv=>(List.nodup_cons.mp nd).1 (List.of_mem_zip hv).1,if_pos hk]
    simp
  | p :: P,w :: vs,i+1,m,nd,h1,h2,hk=>by
    show bindL kindOf ((p,w) :: P.zip vs) m x=_
    unfold bindL
    exact zeb (i:=i) (List.nodup_cons.mp nd).2 (by simpa using h1) (by simpa using h2) hk
theorem zgl {kindOf:Str→Option NameKind} {x:Str} {v:Value}:∀ {P:List Str} {vs:List Value} {i:Nat} {m:Str→Option Value},P.Nodup→P[i]?=some x→vs[i]?=some v→kindOf x≠some .local →
    bindC kindOf (P.zip vs) m x=some v
  | [],_,_,_,_,h,_,_=>by simp at h
  | _ :: _,[],_,_,_,_,h,_=>by simp at h
  | p :: P,w :: vs,0,m,nd,h1,h2,hk=>by
    simp at h1 h2;subst h1;subst h2
    show bindC kindOf ((p,w) :: P.zip vs) m p=_
    unfold bindC
    rw[zgk fun v hv=>(List.nodup_cons.mp nd).1 (List.of_mem_zip hv).1,if_neg hk]
    simp
  | p :: P,w :: vs,i+1,m,nd,h1,h2,hk=>by
    show bindC kindOf ((p,w) :: P.zip vs) m x=_
    unfold bindC
    exact zgl (i:=i) (List.nodup_cons.mp nd).2 (by simpa using h1) (by simpa using h2) hk
def zbj (N:List Str) (vs:List V):St:=vs.map some++List.replicate (N.length - vs.length) none
def zak (CX:CXT) (P:Program) (w:World) (K:PySem.W.Frag) (mg:Str→Option Value) (base:Heap) (N:List Str) (qual:Str) (scope:Scope) (f:Addr) (cd:Value) (A:Around) (outer:List Env) (s:Shared) (H:Hp) (E:XK):Cx where
  prog:=P
  w:=w
  K:=K
  mg:=mg
  base:=base
  A:=A.deeper (envOfC qual scope s.heap.objs.size f cd)
  N:=N
  s₀:=s
  H₀:=H
  env:=envOfC qual scope s.heap.objs.size f cd
  outer:=outer
  stack:=envOfC qual scope s.heap.objs.size f cd :: outer
  ex:=[]
  calm:=true
  fn:=fun _=>true
  pn:=[]
  xe:=fun e s'=>wpAny (model P w) (A.deeper (envOfC qual scope s.heap.objs.size f cd)) (leaving (envOfC qual scope s.heap.objs.size f cd) e) (fun _ s''=>CX outer H s E e s'') (fun e' s''=>CX outer H s E e' s'') s'
theorem zhq {sc:Scope} {n:Nat} {x:Str} (h:sc.names.lookup x=some .cell):∃ c,(cellsFrom n sc.names []).lookup x=some c:=by
  have q:=PySem.W.cellsFrom_some sc.names n [] (.inl h)
  exact Option.isSome_iff_exists.mp q
theorem zd8 {CX:CXT} {P:Program} {w:World} {K:PySem.W.Frag} {mg:Str→Option Value} {base:Heap} {N ps:List Str} {qual:Str} {scope:Scope} {f:Addr} {cd:Value} {A:Around} {outer:List Env} {s s1:Shared} {H:Hp} {E:XK} {us:List Value} {vs:List V}
    (S:zaa N ps scope) (hd:A.handled=none) (e0:zdM P w K mg base A outer s H) (hl:vs.length=ps.length) (r:aw vs us)
    (x:InCallC s s.heap.objs.size (bindL (envOfC qual scope s.heap.objs.size f cd).kindOf (ps.zip us) fun _=>none) (cellsFrom (s.heap.objs.size+1) scope.names []) (bindC (envOfC qual scope s.heap.objs.size f cd).kindOf (ps.zip us) fun _=>none) s1) :
    Inv (zak CX P w K mg base N qual scope f cd A outer s H E) [] (zbj N vs) H s1:=by
  have hpl:ps.length≤N.length:=by have:=congrArg List.length S.pre;rw[List.length_take]at this;omega
  obtain⟨h1,tk,rfl,hk⟩:=x.done
  have noA:∀ b:Addr,b∉(zak CX P w K mg base N qual scope f cd A outer s H E).ex:=fun b z=>absurd (show b∈([]:List Addr) from z) (by simp)
  refine⟨⟨e0.mod,S.kind,rfl,rfl,Nat.le_refl _,fun y z c h1 h2=>?_,fun y hy=>?_,fun y c _ h=>?_,fun _=>hd,Around.frames_deeper e0.frames,.inr ⟨rfl,rfl⟩,fun b z=>absurd z (noA b),e0.bs,e0.bsz,fun b _ _=>noA b,fun b z=>absurd z (noA b),e0.funs,e0.frf⟩,
    rfl,e0.bare,Un.kept hk,⟨_,x.toInCall.ns,fun i y v h1 h2 h3=>?_⟩,fun y c h=>⟨_,x.cell y c h⟩,e0.hok.fresh (Nat.le_refl _),fun y c h=>?_,fun p hp=>absurd (show p∈([]:List (Addr × Obj)) from hp) (by simp),e0.hok.kept hk,?_,⟨_,x.toInCall.ns,zdr⟩⟩
  · exact name_of_addr x.apart (PySem.mem_of_lookup h1) (PySem.mem_of_lookup h2)
  · have hy:scope.names.lookup y=some .cell∨scope.names.lookup y=some .free:=hy
    rcases hy with hy | hy
    · exact zhq hy
    · exact absurd rfl (S.nofree _ (PySem.mem_of_lookup hy))
  · exact Nat.le_of_lt (x.above y c (PySem.mem_of_lookup h))
  · have hi:i < vs.length:=by
      unfold zbj at h2
      by_cases hi:i < vs.length
      · exact hi
      · rw[List.getElem?_append_right (by simpa using hi)]at h2
        rw[List.getElem?_replicate]at h2
        split at h2 <;> cases h2
    have ha:vs[i]?=some v:=by
      unfold zbj at h2
      rw[List.getElem?_append_left (by simpa using hi),List.getElem?_map]at h2
      cases e:vs[i]? with
      | none=>rw[e]at h2;cases h2
      | some a=>rw[e]at h2;cases h2;rfl
    obtain⟨u,hu,rv⟩:=r.get ha
    have hp:ps[i]?=some y:=by
      rw[←S.pre,List.getElem?_take_of_lt (by omega)];exact h1
    have ndP:ps.Nodup:=by rw[←S.pre];exact S.nd.sublist (List.take_sublist _ _)
    refine⟨u,rv,?_⟩
    rcases S.par y (List.mem_of_getElem? hp) with k | k
    · exact .inl ⟨k,zeb ndP hp hu k⟩
    · obtain⟨c,e⟩:=zhq (n:=s.heap.objs.size+1) k
      refine .inr ⟨.inl k,c,e,?_⟩
      have q:=x.cell y c e
      rw[zgl ndP hp hu (by show scope.names.lookup y≠_;rw[k];decide)]at q
      exact q
  · exact e0.hok.fresh (Nat.le_of_lt (x.above y c (PySem.mem_of_lookup h)))
  · unfold zbj
    show _=N.length
    rw[List.length_append,List.length_map,List.length_replicate]
    omega
theorem ziu {CX:CXT} {P:Program} {w:World} {K:PySem.W.Frag} {mg:Str→Option Value} {base:Heap} {k:Nat} {f:Addr} {name qual:Str} {params:Arguments} {body:List Stmt} {scope:Scope} {dV kV doc pm cdv ct oc:Value} {an od:Option Addr}
    {osl:Array (Option Value)} {N ps:List Str} {sp:Sp} (lk:K.lookup f=some ⟨oc,od,.func (PySem.W.fnOf name qual params body scope dV kV doc pm an cdv ct),osl⟩) (hcd:PySem.W.codeIn K cdv qual=true) (S:zaa N ps scope)
    (len:∀ vs H Q E,sp vs H Q E→vs.length=ps.length)
    (hbody:∀(A:Around) (outer:List Env) (s:Shared) (H:Hp) (vs:List V) (Q:VK) (E:XK),zai k (A.deeper (envOfC qual scope s.heap.objs.size f cdv))→sp vs H Q E →
      ∃ t,PSs (zak CX P w K mg base N qual scope f cdv A outer s H E) body t∧t { nx:=fun _ H'=>Q .non H',rt:=Q } (zbj N vs) H) :
    FnOk P w K mg base CX (k+1) f (PySem.W.fnOf name qual params body scope dV kV doc pm an cdv ct) ps sp:=by
  refine⟨len,fun A outer s H args us vs Q E hr e0 hb r hsp=>?_⟩
  have hl:=len _ _ _ _ hsp
  have KX:K.In s.heap:=e0.mod.kin.keeps fun b o e=>(e0.bs b o e).1
  have lim:s.heap.NoLimit:=e0.mod.nolimit.keeps fun b o e=>(e0.bs b o e).1
  have hkind:∀ y∈ps.zip us,scope.names.lookup y.1=some .local∨(scope.names.lookup y.1=some .cell∧((cellsFrom (s.heap.objs.size+1) scope.names []).lookup y.1).isSome=true):=fun⟨n,v⟩ hy=>by
    rcases S.par n (List.of_mem_zip hy).1 with q | q
    · exact .inl q
    · exact .inr ⟨q,PySem.W.cellsFrom_some _ _ _ (.inl q)⟩
  refine codeAny_call_function hr.depth (KX _ _ lk) rfl S.co S.gen rfl (PySem.W.codeRec_of KX hcd) (hb _ _ _ _ ?_)
  refine wpAny_newFunctionEnv_cells S.kind hkind fun env he s1 x=>?_
  subst he
  refine⟨lim.keeps x.toInCall.keep,codeAny_func ?_⟩
  obtain⟨t,ht,hq⟩:=hbody A outer s H vs Q E (hr.deeper _) hsp
  have I:Inv (zak CX P w K mg base N qual scope f cdv A outer s H E) [] (zbj N vs) H s1:=zd8 S hr.hd e0 hl r x
  refine wpAny_mono (ht [] s1 (zbj N vs) H _ I hq) (fun fl s' hs=>?_) fun e s' hs=>hs
  have fin:∀ {σ':St} {H':Hp} {v:V} {u:Value},Inv (zak CX P w K mg base N qual scope f cdv A outer s H E) [] σ' H' s'→ax v u→Q v H'→CE outer P w H s Q u s' :=
    fun {σ' H' v u} J rv q=>⟨v,H',J.os,J.bare,J.base,J.hok,rv,q⟩
  cases fl with
  | ret u =>
    obtain⟨v,σ',H',J,rv,q⟩:=hs
    exact fin J rv q
  | next =>
    obtain⟨σ',H',J,q⟩:=hs
    exact fin (v:=V.non) (u:=Value.none) J rfl q
  | brk =>
    obtain⟨_,_,_,q⟩:=hs
    exact False.elim q
  | cont =>
    obtain⟨_,_,_,q⟩:=hs
    exact False.elim q
end L2
namespace L2
open PySem PySem.Spec PyProof.Rows
section
variable {X:Cx} {x:Str} {p pos:Pos} {e:Expr} {es:List Expr} {t:TA} {id T:String} {r:List V→Hp→VK→Prop}
def tCB (r:List V→Hp→VK→Prop) (t:TA):TE:=fun σ H Q=>t σ H fun vs H1=>r vs H1 Q
theorem zaw (hc:zbQ X (.builtin id) r) (hg:Gl X x) (hm:X.mg x=none) (hv:bootBuiltins x=some (.builtin id)) (ha:PA X (e :: es) t) (hn:x≠"__name__":=by decide) (hdb:(x == ("__debug__":Str))=false:=by decide)
    (he:starEach (e :: es) X.env=(false,eval e X.env) :: starEach es X.env:=by rfl) (hpl:(backTo pos (starEach es X.env)).any (·.1)=false:=by rfl):PE X (.Call (.Name x p) (e :: es) [] pos) (tCB r t):=by
  intro pins s σ H Q I h
  refine wpAny_Call_Name_kw (zfn I hg hm hv ?_ hn hdb)
  exact PyProof.Rows.callWith_builtin1 (thn (ha pos pins s σ H _ I h) fun us s1 ⟨vs,H1,I1,r1,q1⟩=>hc pins s1 σ H1 vs us Q I1 r1 q1) he hpl
theorem zd5 (hc:zbQ X (.type T) r) (hg:Gl X x) (hm:X.mg x=none) (hv:bootBuiltins x=some (.type T)) (ha:PA X (e :: es) t) (hn:x≠"__name__":=by decide) (hdb:(x == ("__debug__":Str))=false:=by decide)
    (he:starEach (e :: es) X.env=(false,eval e X.env) :: starEach es X.env:=by rfl) (hpl:(backTo pos (starEach es X.env)).any (·.1)=false:=by rfl):PE X (.Call (.Name x p) (e :: es) [] pos) (tCB r t):=by
  intro pins s σ H Q I h
  refine wpAny_Call_Name_kw (zfn I hg hm hv ?_ hn hdb)
  exact PyProof.Rows.callWith_type1 (thn (ha pos pins s σ H _ I h) fun us s1 ⟨vs,H1,I1,r1,q1⟩=>hc pins s1 σ H1 vs us Q I1 r1 q1) he hpl
end
end L2
namespace HT
open PySem PyProof.Rows
section
open PySem.SeqAt
open PySem.AutoSeq1 (wpAny_loadPart')
open PySem.MeetsSeq PySem.MeetsSeq2 PySem.MeetsSeq3
end
section
variable {prog:Program} {w:World} {A:Around} {E:Value→Shared→Prop} {s:Shared}
def sIx (n d:Nat):Option Int→Nat
  | none=>d
  | some v=>if v < 0 then(v+(n:Int)).toNat else min v.toNat n
end
end HT
namespace L2
open PySem PySem.Spec PyProof.Rows
abbrev TO:=St→Hp→(Option Int→Hp→Prop)→Prop
def PO (X:Cx) (e:Option Expr) (t:TO):Prop :=
  ∀(pins:List (Addr × Obj)) (s:Shared) (σ:St) (H:Hp) (Q:Option Int→Hp→Prop),Inv X pins σ H s→t σ H Q →
    wpAny (model X.prog X.w) X.A (evalPart e X.env) (fun u s'=>∃ o H',Inv X pins σ H' s'∧IsPart u o∧Q o H') X.xe s
def zkz:TO:=fun _ H Q=>Q none H
def tPart (t:TE):TO:=fun σ H Q=>t σ H fun x H1=>∃ i,x=.int i∧Q (some i) H1
section
variable {X:Cx} {e:Expr} {te:TE} {lo hi:Option Expr} {tl th:TO} {pos p2:Pos}
theorem zfK:PO X none zkz:=by
  intro pins s σ H Q I h
  rw[evalPart_none]
  exact wpAny_pure ⟨none,H,I,.none,h⟩
theorem zdq (h:PE X e te):PO X (some e) (tPart te):=by
  intro pins s σ H Q I hw
  rw[evalPart_some]
  refine thn (h pins s σ H _ I hw) fun u s1 ⟨x,H1,I1,r1,q1⟩=>?_
  obtain⟨i,rfl,q⟩:=q1
  obtain⟨t,rfl⟩:=r1
  exact⟨some i,H1,I1,.int i t,q⟩
def SlR (X:Cx) (r:V→Option Int→Option Int→Hp→VK→Prop):Prop :=
  ∀(pins:List (Addr × Obj)) (s:Shared) (σ:St) (H:Hp) (x:V) (v vl vu:Value) (lo hi:Option Int) (sl:Addr) (Q:VK),Inv X pins σ H s→ax x v→s.heap.IsSliceOf sl vl vu .none→IsPart vl lo→IsPart vu hi→r x lo hi H Q →
    ∃ T id,typeLookup (.type T) "__getitem__"=pure (some (.builtin id))∧s.TypeIs v T∧wpAny (model X.prog X.w) X.A (getItem v (.ref sl)) (EP X pins σ Q) X.xe s
theorem SlR.or {r r':V→Option Int→Option Int→Hp→VK→Prop} (h:SlR X r) (h':SlR X r'):SlR X (fun x lo hi H Q=>r x lo hi H Q∨r' x lo hi H Q):=by
  intro pins s σ H x v vl vu lo hi sl Q I rx hs pl pu q
  rcases q with q | q
  · exact h pins s σ H x v vl vu lo hi sl Q I rx hs pl pu q
  · exact h' pins s σ H x v vl vu lo hi sl Q I rx hs pl pu q
def tSl (r:V→Option Int→Option Int→Hp→VK→Prop) (te:TE) (tl th:TO):TE:=fun σ H Q=>te σ H fun x H1=>tl σ H1 fun l H2=>th σ H2 fun u H3=>r x l u H3 Q
theorem zdC {r:V→Option Int→Option Int→Hp→VK→Prop} (hr:SlR X r) (he:PE X e te) (hl:PO X lo tl) (hu:PO X hi th):PE X (.Subscript e (.Slice lo hi none p2) pos) (tSl r te tl th):=by
  intro pins s σ H Q I h
  refine Subscript_ (thn (he pins s σ H _ I h) fun v s1 ⟨x,H1,I1,r1,q1⟩=>?_)
  refine wpAny_Slice (thn (hl pins s1 σ H1 _ I1 q1) fun vl s2 ⟨l,H2,I2,pl,q2⟩=>thn (hu pins s2 σ H2 _ I2 q2) fun vu s3 ⟨u,H3,I3,pu,q3⟩=>?_)
  rw[evalPart_none]
  refine wpAny_pure ?_
  have I4:Inv X pins σ H3 { s3 with heap:=s3.heap.push { cls:=.type "slice",data:=.fields #[vl,vu,.none] } }:=I3.kept (t':=s3.toks) fun b ob q=>Heap.get?_push_of_some _ q
  obtain⟨T,id,hT,ht,hg⟩:=hr pins { s3 with heap:=s3.heap.push { cls:=.type "slice",data:=.fields #[vl,vu,.none] } } σ H3 x v vl vu l u s3.heap.objs.size Q I4 r1 (Heap.IsSliceOf.new ..) pl pu q3
  show wpAny (model X.prog X.w) X.A (subscriptTail e (.Slice lo hi none p2) v (.ref s3.heap.objs.size)) (EP X pins σ Q) X.xe { s3 with heap:=s3.heap.push { cls:=.type "slice",data:=.fields #[vl,vu,.none] } }
  exact tail_any (ops:=[.ref s3.heap.objs.size,v]) ht hT hg (by with_unfolding_all rfl)
def cutV (xs:List V) (lo hi:Option Int):List V:=(xs.drop (HT.sIx xs.length 0 lo)).take (HT.sIx xs.length xs.length hi - HT.sIx xs.length 0 lo)
theorem zhG (xs:List V) (lo hi:Option Int):(cutV xs lo hi).length≤xs.length:=by
  unfold cutV
  rw[List.length_take,List.length_drop]
  omega
end
end L2
namespace L2
open PySem PySem.Spec PyProof.Rows
def ixN (n:Nat) (i:Int):Option Nat:=if 0≤i then(if i < n then some i.toNat else none) else if -(n:Int)≤i then some (i+n).toNat else none
def atI {α:Type} (xs:List α) (i:Int):Option α:=(ixN xs.length i).bind fun j=>xs[j]?
theorem zh0 {n:Nat} {i:Int} {j:Nat} (h:ixN n i=some j):seqIndex? i n=some j∧j < n∧-(n:Int)≤i∧i < n:=by
  unfold ixN at h
  by_cases h0:0≤i
  · rw[if_pos h0]at h
    by_cases h1:i < n
    · rw[if_pos h1]at h
      have e:i.toNat=j:=Option.some.inj h
      exact⟨by rw[seqIndex_of h0 h1,e],by omega,by omega,h1⟩
    · rw[if_neg h1]at h;cases h
  · rw[if_neg h0]at h
    by_cases h1:-(n:Int)≤i
    · rw[if_pos h1]at h
      have e:(i+n).toNat=j:=Option.some.inj h
      exact⟨by rw[seqIndex_neg (by omega) h1,e],by omega,h1,by omega⟩
    · rw[if_neg h1]at h;cases h
theorem zeu {α:Type} {xs:List α} {i:Int} {v:α} (h:atI xs i=some v):∃ j,seqIndex? i xs.length=some j∧xs[j]?=some v∧j < xs.length∧-(xs.length:Int)≤i∧i < xs.length:=by
  unfold atI at h
  cases e:ixN xs.length i with
  | none=>rw[e]at h;cases h
  | some j =>
    rw[e]at h
    obtain⟨h1,h2,h3,h4⟩:=zh0 e
    exact⟨j,h1,h,h2,h3,h4⟩
theorem zax {α:Type} {xs:List α} {j:Nat} {v:α} (h:xs[j]?=some v):atI xs (j:Int)=some v:=by
  have hj:j < xs.length:=(List.getElem?_eq_some_iff.mp h).1
  have e:ixN xs.length (j:Int)=some j:=by
    unfold ixN
    rw[if_pos (by omega),if_pos (by omega)];simp
  unfold atI;rw[e];exact h
def zib (b:Expr):Prop:=∀ o i,subscripted b false o i=operate [o,i] (getItem o i)
def IxR (X:Cx) (r:R2):Prop :=
  ∀(value slice:Expr) (pins:List (Addr × Obj)) (s:Shared) (σ:St) (H:Hp) (x y:V) (v u:Value) (Q:VK),Inv X pins σ H s→ax x v→ax y u→r x y H Q →
    subscripted slice false v u=operate [v,u] (getItem v u)→wpAny (model X.prog X.w) X.A (subscriptTail value slice v u) (EP X pins σ Q) X.xe s
def MtR (X:Cx) (id:String) (r:V→List V→Hp→VK→Prop):Prop :=
  ∀(pins:List (Addr × Obj)) (s:Shared) (σ:St) (H:Hp) (x:V) (xs:List V) (v:Value) (us:List Value) (Q:VK),Inv X pins σ H s→ax x v→aw xs us→r x xs H Q →
    wpAny (model X.prog X.w) X.A (call (.builtin id) (v :: us)) (EP X pins σ Q) X.xe s
section
variable {X:Cx} {a b:Expr} {ta tb:TE} {pos:Pos}
theorem IxR.or {r r':R2} (h:IxR X r) (h':IxR X r'):IxR X (fun x y H Q=>r x y H Q∨r' x y H Q):=by
  intro value slice pins s σ H x y v u Q I rx ry q hs
  rcases q with q | q
  · exact h value slice pins s σ H x y v u Q I rx ry q hs
  · exact h' value slice pins s σ H x y v u Q I rx ry q hs
theorem MtR.or {id:String} {r r':V→List V→Hp→VK→Prop} (h:MtR X id r) (h':MtR X id r'):MtR X id (fun x xs H Q=>r x xs H Q∨r' x xs H Q):=by
  intro pins s σ H x xs v us Q I rx rs q
  rcases q with q | q
  · exact h pins s σ H x xs v us Q I rx rs q
  · exact h' pins s σ H x xs v us Q I rx rs q
theorem zaJ {r:R2} (hr:IxR X r) (ha:PE X a ta) (hb:PE X b tb) (hs:zib b):PE X (.Subscript a b pos) (tOp r ta tb):=by
  intro pins s σ H Q I h
  exact Subscript_ (binT ha hb I h fun v u s2 x y H2 I2 rx ry q=>hr a b pins s2 σ H2 x y v u Q I2 rx ry q (hs _ _))
inductive rIxL (K:PySem.W.Frag):R2 | mk {x y H Q} p xs i v:x=.ref p→y=.int i→SqL K H p xs→atI xs i=some v→Q v H→rIxL K x y H Q
inductive rIxT (K:PySem.W.Frag):R2 | mk {x y H Q} p xs i v:x=.ref p→y=.int i→SqT K H p xs→atI xs i=some v→Q v H→rIxT K x y H Q
inductive rIxS:R2 | mk {x y H Q} z i c:x=.str z→y=.int i→z.length≤sizeLine→atI z.cps.toList i=some c→Q (.str ⟨#[c]⟩) H→rIxS x y H Q
theorem zaT:IxR X (rIxL X.K):=by
  intro value slice pins s σ H x y v u Q I rx ry h hs
  obtain⟨p,xs,i,z,rfl,rfl,hq,he,q⟩:=h
  cases rx
  obtain⟨t,rfl⟩:=ry
  obtain⟨its,r,pl,hz⟩:=I.list hq
  obtain⟨j,h1,h2,h3,h4,h5⟩:=zeu he
  obtain⟨w,ew,rw'⟩:=r.get h2
  have hl:=r.length
  have hn:=zdj
  have fin:EP X pins σ Q w s:=⟨z,H,I,rw',q⟩
  by_cases h0:0≤i
  · have hj:i.toNat=j:=by
      rw[seqIndex_of h0 h5]at h1
      exact Option.some.inj h1
    exact item_listR pl.isList h0 (by omega) (by rw[hj];simpa using ew) fin hs
  · have hj:(i+(its.toArray.size:Int)).toNat=j:=by
      rw[seqIndex_neg (by omega) h4]at h1
      rw[List.size_toArray,←hl]
      exact Option.some.inj h1
    exact subscriptTail_builtinR (x:=w) pl.isList.typeIs slot_list_getitem.lookup
      (wpAny_getItem_list_neg (Q:=fun r s'=>r=w∧EP X pins σ Q r s') pl.isList (by omega) (by rw[List.size_toArray] <;> omega) (by omega) (by rw[hj];simpa using ew) ⟨rfl,fin⟩) hs
theorem zcl:IxR X (rIxT X.K):=by
  intro value slice pins s σ H x y v u Q I rx ry h hs
  obtain⟨p,xs,i,z,rfl,rfl,hq,he,q⟩:=h
  cases rx
  obtain⟨t,rfl⟩:=ry
  obtain⟨its,r,pl,hz⟩:=I.tuple hq
  obtain⟨j,h1,h2,h3,h4,h5⟩:=zeu he
  obtain⟨w,ew,rw'⟩:=r.get h2
  have hl:=r.length
  have hn:=zdj
  have fin:EP X pins σ Q w s:=⟨z,H,I,rw',q⟩
  exact subscriptTail_builtinR (x:=w) pl.typeIs slot_tuple_getitem.lookup
    (getItem_tuple (j:=j) (Q:=fun r s'=>r=w∧EP X pins σ Q r s') pl (by omega) (by omega) (by rw[List.size_toArray,←hl];exact h1) (by simpa using ew) ⟨rfl,fin⟩) hs
theorem zfo:IxR X rIxS:=by
  intro value slice pins s σ H x y v u Q I rx ry h hs
  obtain⟨z,i,c,rfl,rfl,hz,he,q⟩:=h
  obtain⟨t,rfl⟩:=rx
  obtain⟨t',rfl⟩:=ry
  obtain⟨j,h1,h2,h3,h4,h5⟩:=zeu he
  have hl:z.cps.toList.length=z.length:=by simp [Str.length]
  rw[hl]at h1 h4 h5
  have hn:=zdj
  exact tail_any (typeIs_str s z t) slot_str_getitem.lookup (getItem_str (c:=c) (by
    have e1:decide (i < -(2 ^ 63:Int))=false:=decide_eq_false (by omega)
    have e2:decide (i≥2 ^ 63)=false:=decide_eq_false (by omega)
    rw[e1,e2,Bool.or_false]) (by rw[h1];simpa using h2) ⟨.str ⟨#[c]⟩,H,I.tok _,⟨_,rfl⟩,q⟩) hs
theorem ziH (its:List Value) (n j:Nat) (u:Value):Obj.mapSeq (·.setIfInBounds j u) { cls:=.type "list",data:=.seq its.toArray n }={ cls:=.type "list",data:=.seq (its.set j u).toArray n }:=by
  simp [Obj.mapSeq]
theorem Inv.lst {pins:List (Addr × Obj)} {σ:St} {H:Hp} {s:Shared} {p:Addr} {xs:List V} (I:Inv X pins σ H s) (h:H p=some (.lst xs)) :
    ∃(its:List Value) (n:Nat),aw xs its∧s.heap.get? p=some { cls:=.type "list",data:=.seq its.toArray n }∧xs.length≤sizeLine:=by
  obtain⟨z,its,n,r,e⟩:=I.hok p _ h
  exact⟨its,n,r,e,z⟩
theorem Inv.lstUpd {pins:List (Addr × Obj)} {σ:St} {H:Hp} {s:Shared} {p:Addr} {xs ys:List V} {its its':List Value} {n n':Nat} {f:Obj→Obj} (I:Inv X pins σ H s) (h:H p=some (.lst xs))
    (ho:s.heap.get? p=some { cls:=.type "list",data:=.seq its.toArray n }) (hf:f { cls:=.type "list",data:=.seq its.toArray n }={ cls:=.type "list",data:=.seq its'.toArray n' }) (r:aw ys its') (hz:ys.length≤sizeLine) (t:Nat) :
    Inv X pins σ (upd H p (.lst ys)) { s with heap:=s.heap.update p f,toks:=t }:=by
  have e:(s.heap.update p f).get? p=some { cls:=.type "list",data:=.seq its'.toArray n' }:=by
    rw[Heap.get?_update_self f ho (by rw[hf] <;> rfl),hf]
  refine I.write (x:=p) (e:=p) (by rw[h];trivial) (.inl rfl) (fun b u hb q=>(Heap.get?_update_other _ _ (Ne.symm hb)).trans q) ⟨_,e⟩ ?_
  exact⟨hz,its',n',r,e⟩
inductive rSetL:V→V→V→Hp→(Hp→Prop)→Prop | mk {o i v H Q} p xs k j:o=.ref p→i=.int k→H p=some (.lst xs)→ixN xs.length k=some j→Q (upd H p (.lst (xs.set j v)))→rSetL o i v H Q
theorem zcO:PSet X rSetL:=by
  intro pins s σ H o i v ov iv u Q I ro ri rv h
  obtain⟨p,xs,k,j,rfl,rfl,hp,hj,q⟩:=h
  cases ro
  obtain⟨t,rfl⟩:=ri
  obtain⟨its,n,r,ho,hz⟩:=I.lst hp
  obtain⟨h1,h2,h3,h4⟩:=zh0 hj
  have hl:=r.length
  have hn:=zdj
  have I':Inv X pins σ (upd H p (.lst (xs.set j v))) { s with heap:=s.heap.update p (Obj.mapSeq (·.setIfInBounds j u)) } :=
    I.lstUpd hp ho (ziH its n j u) (r.set rv j) (by rw[List.length_set];exact hz) s.toks
  by_cases h0:0≤k
  · have hk:k.toNat=j:=by
      rw[seqIndex_of h0 h4]at h1
      exact Option.some.inj h1
    exact PySem.W.ki_setAt ho h0 (by omega) (by rw[List.size_toArray,←hl];exact h4) (by rw[hk];exact⟨_,I',q⟩)
  · have hk:(k+(its.toArray.size:Int)).toNat=j:=by
      rw[seqIndex_neg (by omega) h3]at h1
      rw[List.size_toArray,←hl]
      exact Option.some.inj h1
    exact PySem.W.ki_setBack ho (by omega) (by rw[List.size_toArray,←hl];exact h3) (by omega) (by rw[hk];exact⟨_,I',q⟩)
theorem zhu (lo hi:Option Int) (n:Nat):(sliceBounds lo hi none n).1=((HT.sIx n 0 lo:Nat):Int)∧(sliceBounds lo hi none n).2.1=((HT.sIx n n hi:Nat):Int)∧(sliceBounds lo hi none n).2.2=1:=by
  refine⟨?_,?_,rfl⟩
  · cases lo with
    | none=>simp [sliceBounds,HT.sIx]
    | some i =>
      simp only[sliceBounds,HT.sIx,Option.getD_none,show(1:Int) > 0 by decide,if_true]
      by_cases h:i < 0
      · simp only[h,if_true] <;> omega
      · simp only[h,if_false] <;> omega
  · cases hi with
    | none=>simp [sliceBounds,HT.sIx]
    | some i =>
      simp only[sliceBounds,HT.sIx,Option.getD_none,show(1:Int) > 0 by decide,if_true]
      by_cases h:i < 0
      · simp only[h,if_true] <;> omega
      · simp only[h,if_false] <;> omega
theorem zgm (its:List Value) (lo hi:Option Int):slicePick its.toArray lo hi none=((its.drop (HT.sIx its.length 0 lo)).take (HT.sIx its.length its.length hi - HT.sIx its.length 0 lo)).toArray:=by
  obtain⟨h1,h2,h3⟩:=zhu lo hi its.toArray.size
  unfold slicePick
  rw[h1,h2,h3]
  simp only[sliceRange_one,pick_run,List.size_toArray] <;> rfl
inductive rSlL (K:PySem.W.Frag):V→Option Int→Option Int→Hp→VK→Prop | mk {x lo hi H Q} a xs:x=.ref a→SqL K H a xs→(∀ p,H p=none→Q (.ref p) (upd H p (.lst (cutV xs lo hi))))→rSlL K x lo hi H Q
theorem zkF:SlR X (rSlL X.K):=by
  intro pins s σ H x v vl vu lo hi sl Q I rx hs pl pu h
  obtain⟨a,xs,rfl,hx,q⟩:=h
  cases rx
  obtain⟨its,r,ht,hz⟩:=I.list hx
  have hlen:=r.length
  refine⟨"list",_,slot_list_getitem.lookup,ht.isList.typeIs,?_⟩
  refine wpAny_getItem_list_slice ht.isList hs pl pu .none (by simp) ?_ (by rw[List.size_toArray] <;> omega)
  rw[zgm,←hlen]
  refine⟨.ref s.heap.objs.size,_,I.laid (t':=s.toks) (o:=.lst (cutV xs lo hi)) (fun b ob q=>Heap.get?_push_of_some _ q) (Nat.le_refl _) ?_,rfl,q _ (I.hok.fresh (Nat.le_refl _))⟩
  exact⟨Nat.le_trans (zhG xs lo hi) hz,_,0,(r.drop (HT.sIx xs.length 0 lo)).take (HT.sIx xs.length xs.length hi - HT.sIx xs.length 0 lo),Heap.get?_push_size _ rfl⟩
def zcw:V→Bool
  | .non=>true
  | .bl _=>true
  | .int _=>true
  | .str _=>true
  | _=>false
def eqV:V→V→Bool
  | .non,.non=>true
  | .bl a,.bl b=>a == b
  | .bl a,.int b=>(if a then 1 else 0) == b
  | .int a,.bl b=>a == (if b then 1 else 0)
  | .int a,.int b=>a == b
  | .str a,.str b=>a == b
  | _,_=>false
theorem zdV {A:Around} {s:Shared} {y x:V} {u v:Value} (ry:ax y u) (rx:ax x v) (fy:zcw y=true) (fx:zcw x=true):SeqAt.EqAt A s u v (eqV y x):=by
  cases y with
  | non =>
    cases ry
    cases x with
    | non=>cases rx;exact SeqAt.EqAt.same _
    | bl b=>cases rx;exact SeqAt.EqAt.none_bool b
    | int b=>obtain⟨t,rfl⟩:=rx;exact SeqAt.EqAt.none_int b t
    | str b=>obtain⟨t,rfl⟩:=rx;exact SeqAt.EqAt.none_str b t
    | _=>exact absurd (show false=true from fx) Bool.false_ne_true
  | bl a =>
    cases ry
    cases x with
    | non=>cases rx;exact SeqAt.EqAt.bool_none a
    | bl b=>cases rx;exact SeqAt.EqAt.bool_bool a b
    | int b=>obtain⟨t,rfl⟩:=rx;exact SeqAt.EqAt.bool_int a b t
    | str b=>obtain⟨t,rfl⟩:=rx;exact SeqAt.EqAt.bool_str a b t
    | _=>exact absurd (show false=true from fx) Bool.false_ne_true
  | int a =>
    obtain⟨t',rfl⟩:=ry
    cases x with
    | non=>cases rx;exact SeqAt.EqAt.int_none a t'
    | bl b=>cases rx;exact SeqAt.EqAt.int_bool a t' b
    | int b=>obtain⟨t,rfl⟩:=rx;exact SeqAt.EqAt.int_int a t' b t
    | str b=>obtain⟨t,rfl⟩:=rx;exact SeqAt.EqAt.int_str a t' b t
    | _=>exact absurd (show false=true from fx) Bool.false_ne_true
  | str a =>
    obtain⟨t',rfl⟩:=ry
    cases x with
    | non=>cases rx;exact SeqAt.EqAt.str_none a t'
    | bl b=>cases rx;exact SeqAt.EqAt.str_bool a t' b
    | int b=>obtain⟨t,rfl⟩:=rx;exact SeqAt.EqAt.str_int a t' b t
    | str b=>obtain⟨t,rfl⟩:=rx;exact SeqAt.EqAt.str_str a t' b t
    | _=>exact absurd (show false=true from fx) Bool.false_ne_true
  | _=>exact absurd (show false=true from fy) Bool.false_ne_true
def eqU (x:V) (u:Value):Bool:=match u with
  | .none=>eqV .non x
  | .bool b=>eqV (.bl b) x
  | .int i _=>eqV (.int i) x
  | .str z _=>eqV (.str z) x
  | _=>false
theorem zjk {x y:V} {u:Value} (r:ax y u) (f:zcw y=true):eqU x u=eqV y x:=by
  cases y with
  | non=>cases r;rfl
  | bl b=>cases r;rfl
  | int i=>obtain⟨t,rfl⟩:=r;rfl
  | str z=>obtain⟨t,rfl⟩:=r;rfl
  | _=>exact absurd (show false=true from f) Bool.false_ne_true
theorem zfU {x:V}:∀ {xs:List V} {us:List Value},aw xs us→xs.all zcw=true→us.any (eqU x)=xs.any fun y=>eqV y x
  | _,_,.nil,_=>rfl
  | y :: xs,u :: us,.cons r t,f=>by
    rw[List.all_cons,Bool.and_eq_true]at f
    rw[List.any_cons,List.any_cons,zjk r f.1,zfU t f.2]
theorem ze4 {A:Around} {s:Shared} {x:V} {v:Value} (rx:ax x v) (fx:zcw x=true):∀ {xs:List V} {us:List Value},aw xs us→xs.all zcw=true→∀ u∈us,SeqAt.EqAt A s u v (eqU x u)
  | _,_,.nil,_=>fun u hu=>by cases hu
  | y :: xs,u :: us,.cons r t,f=>fun u' hu=>by
    rw[List.all_cons,Bool.and_eq_true]at f
    rcases List.mem_cons.mp hu with rfl | hu
    · rw[zjk r f.1];exact zdV r rx f.1 fx
    · exact ze4 rx fx t f.2 u' hu
def inV (x:V) (xs:List V):Bool:=xs.any fun y=>eqV y x
inductive rIn (K:PySem.W.Frag) (neg:Bool):R2 | mk {x y H Q} p xs:y=.ref p→(SqL K H p xs∨SqT K H p xs)→zcw x=true→xs.all zcw=true→Q (.bl (if neg then !inV x xs else inV x xs)) H→rIn K neg x y H Q
theorem zhv:OpR X (compareOp .NotIn) (rIn X.K true):=by
  intro pins s σ H x y v u Q I rx ry h
  obtain⟨p,xs,rfl,hq,fx,fs,q⟩:=h
  cases ry
  rcases hq with hq | hq
  · obtain⟨its,r,pl,hz⟩:=I.list hq
    refine SeqAt.notIn_listAt (eqU x) pl.isList (fun w hw=>ze4 rx fx r fs w (by simpa using hw)) ⟨.bl _,H,I,rfl,?_⟩
    rw[show its.toArray.any (eqU x)=its.any (eqU x) by simp,zfU r fs]
    exact q
  · obtain⟨its,r,pl,hz⟩:=I.tuple hq
    refine SeqAt.notIn_tupleAt (eqU x) pl (fun w hw=>ze4 rx fx r fs w (by simpa using hw)) ⟨.bl _,H,I,rfl,?_⟩
    rw[show its.toArray.any (eqU x)=its.any (eqU x) by simp,zfU r fs]
    exact q
inductive rLenS (K:PySem.W.Frag):List V→Hp→VK→Prop | mk {xs H Q} p ys:xs=[.ref p]→(SqL K H p ys∨SqT K H p ys)→Q (.int ys.length) H→rLenS K xs H Q
theorem zaB:zbQ X (.builtin "len") (rLenS X.K):=by
  intro pins s σ H xs us Q I r h
  obtain⟨p,ys,rfl,hq,q⟩:=h
  obtain⟨u,rfl,rx⟩:=ze7 r
  cases rx
  have hn:=zdj
  rcases hq with hq | hq
  · obtain⟨its,r',pl,hz⟩:=I.list hq
    have hlen:=r'.length
    exact Calls.call_len_list pl.isList (by simp only[List.size_toArray] <;> omega) ⟨.int ys.length,H,I.tok _,⟨s.toks+1,by rw[List.size_toArray,hlen]⟩,q⟩
  · obtain⟨its,r',pl,hz⟩:=I.tuple hq
    have hlen:=r'.length
    exact len_tuple pl (by simp only[List.size_toArray] <;> omega) ⟨.int ys.length,H,I.tok _,⟨s.toks+1,by rw[List.size_toArray,hlen]⟩,q⟩
theorem zbD:zbQ X (.builtin "len") (fun xs H Q=>∃ z,xs=[.str z]∧z.length≤sizeLine∧Q (.int z.length) H):=by
  intro pins s σ H xs us Q I r h
  obtain⟨z,rfl,hz,q⟩:=h
  obtain⟨u,rfl,t,rfl⟩:=ze7 r
  have hn:=zdj
  exact len_str (by omega) ⟨.int z.length,H,I.tok _,⟨_,rfl⟩,q⟩
theorem zbQ.or {f:Value} {r r':List V→Hp→VK→Prop} (h:zbQ X f r) (h':zbQ X f r'):zbQ X f (fun xs H Q=>r xs H Q∨r' xs H Q):=by
  intro pins s σ H xs us Q I rs q
  rcases q with q | q
  · exact h pins s σ H xs us Q I rs q
  · exact h' pins s σ H xs us Q I rs q
inductive rTpO (K:PySem.W.Frag):List V→Hp→VK→Prop | mk {xs H Q} p ys:xs=[.ref p]→((SqL K H p ys∧∀ l,H l=none→Q (.ref l) (upd H l (.tup ys)))∨(SqT K H p ys∧Q (.ref p) H))→rTpO K xs H Q
theorem zcs:zbQ X (.type "tuple") (rTpO X.K):=by
  intro pins s σ H xs us Q I r h
  obtain⟨p,ys,rfl,h⟩:=h
  obtain⟨u,rfl,rx⟩:=ze7 r
  cases rx
  rcases h with ⟨hq,q⟩ | ⟨hq,q⟩
  · obtain⟨its,r',pl,hz⟩:=I.list hq
    have hlen:=r'.length
    refine call_tuple_list pl.isList (fun h' kp=>?_) (by simp only[List.size_toArray] <;> omega)
    have I1:Inv X pins σ H { s with heap:=h' }:=I.kept (t':=s.toks) kp
    have I2:Inv X pins σ (upd H h'.objs.size (.tup ys)) { s with heap:=h'.push { cls:=.type "tuple",data:=.seq its.toArray } } :=
      I1.laid (t':=s.toks) (fun b o e=>Heap.get?_push_of_some _ e) (Nat.le_refl _) (show zbq X.prog X.w _ _ _ (.tup ys) from⟨hz,its,r',zdw.new _ _⟩)
    exact⟨.ref h'.objs.size,_,I2,rfl,q _ (I1.hok.fresh (Nat.le_refl _))⟩
  · obtain⟨its,r',pl,hz⟩:=I.tuple hq
    exact call_tuple_same pl ⟨.ref p,H,I,rfl,q⟩
def tyV (K:PySem.W.Frag) (T:String) (x:V) (H:Hp):Prop:=match x with
  | .str _=>T="str"
  | .int _=>T="int"
  | .ref p=>(T="list"∧∃ xs,SqL K H p xs)∨(T="tuple"∧∃ o,K.lookup p=some o∧o.cls=.type "tuple"∧o.dict=none) ∨
      (T="dict"∧((∃ kvs,H p=some (.dK kvs))∨∃ kvs,H p=some (.dT kvs)))∨(T="set"∧∃ S n,H p=some (.set S n))∨(T="tuple"∧∃ xs,SqT K H p xs)
  | _=>False
theorem ziP {pins:List (Addr × Obj)} {σ:St} {H:Hp} {s:Shared} {T:String} {x:V} {v:Value} (I:Inv X pins σ H s) (r:ax x v) (ty:tyV X.K T x H) :
    s.TypeIs v T∧∀ a,v=.ref a→∃ ob,s.heap.get? a=some ob∧ob.dict=none:=by
  cases x with
  | str z =>
    obtain⟨t,rfl⟩:=r
    cases (show T="str" from ty)
    exact⟨typeIs_str s z t,fun _ e=>nomatch e⟩
  | int i =>
    obtain⟨t,rfl⟩:=r
    cases (show T="int" from ty)
    exact⟨typeIs_int s i t,fun _ e=>nomatch e⟩
  | ref p =>
    cases r
    rcases ty with ⟨rfl,xs,hq⟩ | ⟨rfl,o,hk,hc,hd⟩ | ⟨rfl,hk⟩ | ⟨rfl,S,n,hk⟩ | ⟨rfl,xs,hk⟩
    · obtain⟨its,_,pl,_⟩:=I.list hq
      refine⟨pl.isList.typeIs,fun a e=>?_⟩
      cases e
      obtain⟨o,n,e,c,hd,_⟩:=pl
      exact⟨o,e,hd⟩
    · refine⟨⟨o,I.kIn p o hk,hc⟩,fun a e=>?_⟩
      cases e
      exact⟨o,I.kIn _ o hk,hd⟩
    · have z:∃ o,s.heap.get? p=some o∧o.ExactDict:=by
        rcases hk with ⟨kvs,hk⟩ | ⟨kvs,hk⟩
        · obtain⟨_,_,_,_,o,_,_,e,ex,_⟩:=I.hok p _ hk
          exact⟨o,e,ex⟩
        · obtain⟨_,_,_,_,o,_,_,e,ex,_⟩:=I.hok p _ hk
          exact⟨o,e,ex⟩
      obtain⟨o,e,ex⟩:=z
      refine⟨⟨o,e,ex.1⟩,fun a e2=>?_⟩
      cases e2
      exact⟨o,e,ex.2.1⟩
    · obtain⟨o,_,_,_,e,ex,_⟩:=I.hok p _ hk
      refine⟨⟨o,e,ex.1⟩,fun a e2=>?_⟩
      cases e2
      exact⟨o,e,ex.2.1⟩
    · obtain⟨its,_,⟨o,e,c,_⟩,_⟩:=I.tupD hk
      refine⟨⟨o,e,(Prod.mk.inj c).1⟩,fun a e2=>?_⟩
      cases e2
      exact⟨o,e,(Prod.mk.inj c).2⟩
  | _=>exact False.elim ty
def tBM (K:PySem.W.Frag) (T:String) (r:V→List V→Hp→VK→Prop) (to:TE) (t:TA):TE:=fun σ H Q=>to σ H fun x H1=>tyV K T x H1∧t σ H1 fun xs H2=>r x xs H2 Q
variable {o e:Expr} {es:List Expr} {to:TE} {t:TA} {name:Str} {apos cpos:Pos} {T id:String} {r:V→List V→Hp→VK→Prop}
theorem zbk (pa:PlainAttrs T) (slot:Slot T name id) (hty:typeOf (.builtin id)=pure (.type "method_descriptor")) (hm:MtR X id r) (ho:PE X o to) (ha:PA X (e :: es) t)
    (hbase:attributeBase o name X.env (eval o X.env)=eval o X.env:=by rfl)
    (hfew:((backTo cpos (starEach (e :: es) X.env)).all (fun x=>!x.1)&&(backToKw cpos (keywordEach [] X.env)).all (fun x=>x.1.isSome)
      && decide ((e :: es).length+([]:List Keyword).length+(if([]:List Keyword).isEmpty then 0 else 1) < 30))=true:=by rfl)
    (hline:(apos.endLine == cpos.line)=true:=by rfl) (hs:starEach (e :: es) X.env=(false,eval e X.env) :: starEach es X.env:=by rfl) (hplain:(backTo cpos (starEach es X.env)).any (·.1)=false:=by rfl) :
    PE X (.Call (.Attribute o name apos) (e :: es) [] cpos) (tBM X.K T r to t):=by
  intro pins s σ H Q I h
  refine wpAny_Call_method_late hbase hfew hline rfl (thn (ho pins s σ H _ I h) fun v s1 ⟨x,H1,I1,r1,ty,q1⟩=>?_)
  obtain⟨h1,h2⟩:=ziP I1 r1 ty
  refine⟨T,id,pa,slot,hty,h1,h2,?_⟩
  have hA:=ha cpos pins s1 σ H1 _ I1 q1
  rw[hs]at hA ⊢
  refine Calls.callWith_builtin (by show(false||(backTo cpos (starEach es X.env)).any (·.1))=false;rw[hplain] <;> rfl) (Calls.evalArgs_plain ?_)
  exact thn hA fun us s2 ⟨vs,H2,I2,r2,q2⟩=>hm pins s2 σ H2 x vs v us Q I2 r1 r2 q2
end
end L2
namespace L2
open PySem PySem.Spec PyProof.Rows
def MtM (X:Cx) (id:String) (r:V→List V→Hp→VK→Prop):Prop :=
  ∀(pins:List (Addr × Obj)) (s:Shared) (σ:St) (H:Hp) (x:V) (xs:List V) (v:Value) (us:List Value) (Q:VK),Inv X pins σ H s→ax x v→aw xs us→r x xs H Q →
    wpAny (model X.prog X.w) X.A (call (.builtin id) (v :: us)) (EP X pins σ Q) X.xe s
theorem aw.one {x:V} {us:List Value} (h:aw [x] us):∃ u,us=[u]∧ax x u:=by
  cases h with
  | cons r h=>cases h;exact⟨_,rfl,r⟩
theorem aw.two {x y:V} {us:List Value} (h:aw [x,y] us):∃ u v,us=[u,v]∧ax x u∧ax y v:=by
  cases h with
  | cons r h=>cases h with
    | cons q h=>cases h;exact⟨_,_,rfl,r,q⟩
theorem aw.zero:∀ {us:List Value},aw [] us→us=[]
  | _,.nil=>rfl
theorem aw.rep {xs:List V} {us:List Value} (h:aw xs us):∀ k:Nat,aw (List.replicate k xs).flatten (List.replicate k us).flatten
  | 0=>.nil
  | k+1=>by
    rw[List.replicate_succ,List.replicate_succ,List.flatten_cons,List.flatten_cons]
    exact aw.append h (aw.rep h k)
theorem zgg (its:List Value):∀(k:Nat) (acc:List Value),
    List.foldl (fun x1 x2=>x1++x2) acc.toArray (List.replicate k its.toArray)=(acc++(List.replicate k its).flatten).toArray
  | 0,acc=>by simp
  | k+1,acc=>by
    have e:acc.toArray++its.toArray=(acc++its).toArray:=by simp
    have e2:(acc++its)++(List.replicate k its).flatten=acc++(List.replicate (k+1) its).flatten:=by
      rw[List.replicate_succ,List.flatten_cons,List.append_assoc]
    rw[←e2,←zgg its k (acc++its),←e,List.replicate_succ,List.foldl_cons]
section
variable {X:Cx} {pins:List (Addr × Obj)} {σ:St} {H:Hp} {s:Shared} {l b:Addr} {xs ys zs:List V}
theorem Inv.lset {its its':List Value} {n:Nat} {f:Array Value→Array Value} {t':Nat} (I:Inv X pins σ H s) (hH:H l=some (.lst xs))
    (e:s.heap.get? l=some { cls:=.type "list",data:=.seq its.toArray n }) (hf:f its.toArray=its'.toArray) (hv:aw ys its') (hz:ys.length≤sizeLine) :
    Inv X pins σ (upd H l (.lst ys)) { s with heap:=s.heap.update l (Obj.mapSeq f),toks:=t' }:=by
  have q:=PySem.IsL.update e f
  rw[hf]at q
  refine I.write (x:=l) (e:=l) (by rw[hH];exact trivial) (.inl rfl) (fun b' u hb hu=>(Heap.get?_update_other s.heap (Obj.mapSeq f) (Ne.symm hb)).trans hu) ⟨_,q⟩ ?_
  exact⟨hz,its',_,hv,q⟩
theorem Inv.lnew {its:List Value} {t':Nat} (I:Inv X pins σ H s) (hv:aw ys its) (hz:ys.length≤sizeLine) :
    Inv X pins σ (upd H s.heap.objs.size (.lst ys)) { s with heap:=s.heap.push { cls:=.type "list",data:=.seq its.toArray },toks:=t' } :=
  I.laid (fun _ _ q=>Heap.get?_push_of_some _ q) (Nat.le_refl _) ⟨hz,its,0,hv,Heap.get?_push_size _ rfl⟩
theorem Inv.fresh (I:Inv X pins σ H s):H s.heap.objs.size=none:=I.hok.fresh (Nat.le_refl _)
theorem Inv.lstM (I:Inv X pins σ H s) (hH:H l=some (.lst xs)):xs.length≤sizeLine∧∃(its:List Value) (n:Nat),aw xs its∧xs.length=its.length∧s.heap.get? l=some { cls:=.type "list",data:=.seq its.toArray n }:=by
  obtain⟨z,its,n,r,e⟩:=I.hok l _ hH
  exact⟨z,its,n,r,r.length,e⟩
theorem zha {n:Nat} (h:n≤sizeLine):Builtin.List.listTooLong n=false:=by
  unfold Builtin.List.listTooLong
  exact decide_eq_false (by omega)
end
section
variable {X:Cx}
inductive zhS:V→List V→Hp→VK→Prop | mk {x vs H Q} l xs y:x=.ref l→vs=[y]→H l=some (.lst xs)→xs.length < sizeLine→Q .non (upd H l (.lst (xs++[y])))→zhS x vs H Q
theorem zbs:MtM X "list.append" zhS:=by
  intro pins s σ H x vs v us Q I rx rv h
  obtain⟨l,xs,y,rfl,rfl,hH,hz,q⟩:=h
  cases rx
  obtain⟨u,rfl,ru⟩:=rv.one
  obtain⟨z,its,n,r,hl,e⟩:=I.lstM hH
  refine call_meets F.slot_list_append ⟨_,e,rfl⟩ F.entry_list_append (F.args_list_append_2 _ _) (PySem.list_append l its.toArray n u (by rw[List.size_toArray];omega)) ⟨e,?_⟩
  refine⟨.non,_,I.lset (its':=its++[u]) hH e (by simp) (r.append (.cons ru .nil)) ?_,rfl,q⟩
  rw[List.length_append,List.length_singleton]
  omega
inductive zhR:V→List V→Hp→VK→Prop | mk {x vs H Q} l b xs zs:x=.ref l→vs=[.ref b]→H l=some (.lst xs)→H b=some (.lst zs)→xs.length+zs.length≤sizeLine→Q .non (upd H l (.lst (xs++zs)))→zhR x vs H Q
theorem mt_extend:MtM X "list.extend" zhR:=by
  intro pins s σ H x vs v us Q I rx rv h
  obtain⟨l,b,xs,zs,rfl,rfl,hH,hB,hz,q⟩:=h
  cases rx
  obtain⟨u,rfl,ru⟩:=rv.one
  cases ru
  obtain⟨z,its,n,r,hl,e⟩:=I.lstM hH
  obtain⟨z2,its2,n2,r2,hl2,e2⟩:=I.lstM hB
  have hsz:its.toArray.size+its2.toArray.size≤sizeLine:=by rw[List.size_toArray,List.size_toArray];omega
  have hlong:¬(!its.toArray.isEmpty&&Builtin.List.listTooLong (its.toArray.size+its2.toArray.size))=true:=by
    rw[zha hsz,Bool.and_false]
    exact Bool.false_ne_true
  refine call_meets F.slot_list_extend ⟨_,e,rfl⟩ F.entry_list_extend (F.args_list_extend_2 _ _)
    (AutoSeq1.list_extend_list_list_0 l its.toArray n b its2.toArray n2 hlong (by rw[List.size_toArray];omega) (by omega)) ⟨e,e2,?_⟩
  refine⟨.non,_,I.lset (its':=its++its2) hH e (by simp) (r.append r2) ?_,rfl,q⟩
  rw[List.length_append]
  omega
inductive rCat:R2 | mk {x y H Q} l b xs zs:x=.ref l→y=.ref b→H l=some (.lst xs)→H b=some (.lst zs)→xs.length+zs.length≤sizeLine→(∀ p,H p=none→Q (.ref p) (upd H p (.lst (xs++zs))))→rCat x y H Q
theorem zgP:OpR X (binaryOp .Add) rCat:=by
  intro pins s σ H x y v u Q I rx ry h
  obtain⟨l,b,xs,zs,rfl,rfl,hH,hB,hz,q⟩:=h
  cases rx
  cases ry
  obtain⟨z,its,n,r,hl,e⟩:=I.lstM hH
  obtain⟨z2,its2,n2,r2,hl2,e2⟩:=I.lstM hB
  refine PySem.P.add_list e e2 ?_ (by rw[List.size_toArray,List.size_toArray];omega)
  have ea:its.toArray++its2.toArray=(its++its2).toArray:=by simp
  rw[ea]
  exact⟨.ref _,_,I.lnew (t':=s.toks) (r.append r2) (by rw[List.length_append];omega),rfl,q _ I.fresh⟩
inductive rRep:R2 | mk {x y H Q} l k xs:x=.ref l→y=.int k→H l=some (.lst xs)→-(2 ^ 63)≤k→k < 2 ^ 63→xs.length * k.toNat≤sizeLine→(∀ p,H p=none→Q (.ref p) (upd H p (.lst (List.replicate k.toNat xs).flatten)))→rRep x y H Q
theorem zhY {α:Type} (xs:List α) (k:Nat):(List.replicate k xs).flatten.length=k * xs.length:=by
  induction k with
  | zero=>simp
  | succ k ih=>rw[List.replicate_succ,List.flatten_cons,List.length_append,ih,Nat.succ_mul,Nat.add_comm]
theorem op_rep:OpR X (binaryOp .Mult) rRep:=by
  intro pins s σ H x y v u Q I rx ry h
  obtain⟨l,k,xs,rfl,rfl,hH,h1,h2,hz,q⟩:=h
  cases rx
  obtain⟨t,rfl⟩:=ry
  obtain⟨z,its,n,r,hl,e⟩:=I.lstM hH
  have hlen:its.toArray.size * k.toNat≤sizeLine:=by rw[List.size_toArray,←hl];exact hz
  have hcap:¬its.toArray.size * k.toNat > (2 ^ 63 - 1) / 8:=by
    have:(sizeLine:Nat)≤(2 ^ 63 - 1) / 8:=by decide
    omega
  have hfit:¬(!Builtin.List.listFitsIndex k)=true:=by
    rw[fitsIndex_both h1 h2]
    exact Bool.false_ne_true
  have hlong:¬Builtin.List.listTooLong (its.toArray.size * k.toNat)=true:=by
    rw[zha hlen]
    exact Bool.false_ne_true
  have hnew:List.foldl (fun x1 x2=>x1++x2) #[] (List.replicate (if its.toArray.isEmpty=true then 0 else k.toNat) its.toArray)=(List.replicate k.toNat its).flatten.toArray:=by
    have f0:∀ m:Nat,List.foldl (fun x1 x2=>x1++x2) #[] (List.replicate m its.toArray)=(List.replicate m its).flatten.toArray:=fun m=>by
      have:=zgg its m []
      rw[List.nil_append]at this
      exact this
    rw[f0]
    cases its with
    | nil=>simp
    | cons a r'=>rw[if_neg (by simp)]
  refine wpAny_binaryOp_repeat_ref (T:="list") (U:="int") (by decide) ⟨_,e,rfl⟩ (fun s'=>typeIs_int s' k t) noFill_list_mul F.fills_int_mul F.slot_int_rmul repeat_list F.slot_int_index.lookup
    (call_meets F.slot_int_rmul (typeIs_int s k t) F.entry_int_rmul (F.args_int_rmul_2 _ _) (int___rmul___int_list k t l its.toArray n)
      ⟨e,rfl,⟨_,e,rfl⟩,call_meets F.slot_list_mul ⟨_,e,rfl⟩ F.entry_list_mul (F.args_list_mul_2 _ _) (AutoListH.list___mul___list_int_3 l its.toArray n k t hfit hcap hlong) ⟨e,?_⟩⟩)
  rw[hnew]
  exact⟨.ref _,_,I.lnew (t':=s.toks) (r.rep k.toNat) (by rw[zhY,Nat.mul_comm];exact hz),rfl,q _ I.fresh⟩
end
section
variable {prog:Program} {w:World} {A:Around} {E:Value→Shared→Prop} {s:Shared}
end
section
variable {X:Cx}
end
end L2
namespace Att
open PySem PySem.W PySem.Calls PyProof.Rows
theorem zfC {P:Params} {h:Heap}:∀(ns:List Int) (vs:List Value),WellAll P h vs (ns.map WData.int)→IntsAre vs ns:=by
  intro ns
  induction ns with
  | nil =>
    intro vs w
    rw[List.map_nil]at w
    cases w
    exact .nil
  | cons n ns ih =>
    intro vs w
    rw[List.map_cons]at w
    cases w with
    | cons a b =>
      cases a
      exact .cons _ _ (ih _ b)
theorem zjw {l:OpenLaw} {n:Nat} (hn:l.most=some n) {P:Params} {h:Heap} {args:List WData} {vals:List Value}
    (hpre:l.row.toRowW.claim.pre args=true) (hwl:WellAll P h vals args) :
    ∃ a vs ns,vals=[Value.ref a]∧args=[WData.list (ns.map WData.int)]∧h.get? a=some { cls:=.type "list",data:=.seq vs.toArray }∧IntsAre vs ns∧ns.length≤n:=by
  have hsh:WShape.hasAll [] args [.list .int]=true:=(pre_splitW hpre).1
  have hc:l.pre.holds [] { args:=args }=true:=(pre_splitW hpre).2
  obtain⟨d,r,rfl,h1,h2⟩:=hasAllW_cons hsh
  obtain rfl:=hasAllW_nil h2
  obtain⟨xs,rfl,h3⟩:=hasW_list h1
  obtain⟨ns,rfl⟩:=items_int h3
  have hlen:ns.length≤n:=by
    unfold OpenLaw.pre at hc
    have h4:(WTm.not (.lt (.lit (.int (n:Int))) (.len (.arg 0)))).holds [] { args:=[.list (ns.map .int)] }=true:=by
      have h4:=(holds_andW hc).1
      rw[hn]at h4
      exact h4
    have h5:=condW_of h4 (w_not (w_lt w_lit (w_len_list (w_arg rfl))))
    rw[List.length_map]at h5
    refine Nat.le_of_not_lt fun q=>?_
    have q':(n:Int) < ((ns.length:Nat):Int):=by omega
    first
      | (rw[decide_eq_true q']at h5;exact absurd h5 (by decide))
      | (simp at h5;omega)
  cases hwl with
  | cons w1 w2 =>
    cases w2
    cases w1 with
    | list ho hall=>exact⟨_,_,ns,rfl,rfl,ho,zfC ns _ hall,hlen⟩
theorem zjz (l:OpenLaw) (args:List WData):l.row.toRowW.claim.post args (.bool true) args=true :=
  postW_of (r:=l.row.toRowW) (X:=(true == true))
    (show WShape.has [] (.bool true) .bool=true by first | rfl | decide | simp [WShape.has,WShape.arms,WShape.armsAll])
    (show(WTm.eq .res (.lit (.bool true))).value [] { args:=args,res:=some (.bool true),after:=args }=some (.bool (true == true)) from w_eq_bool (w_res rfl) w_lit) rfl
theorem attach_call {l:OpenLaw} {n:Nat} {q:Program} {loose:List Str} {XP:(Str→Option Value)→Heap→Prop} {YP:World→Heap→Prop} {d:DefRec}
    (hn:l.most=some n) (hdf:d.params.defaults=[])
    (call:∀(w:World) (s₀ s₁:Shared) (mg mb:Str→Option Value) (fa:Addr) (o:Obj) (pm cd doc:Value) (a:Addr) (vs:List Value) (ns:List Int),
      Ground q loose [] XP w s₀ mg mb s₁.heap→YP w s₁.heap →
      s₁.heap.get? fa=some o→o.data=.func (docDef d.name d.params d.body d.scope pm cd doc)→s₁.heap.CodeRec cd d.name→mg d.name=some (.ref fa) →
      s₁.heap.get? a=some { cls:=.type "list",data:=.seq vs.toArray }→IntsAre vs ns→ns.length≤n→s₁.gens=#[] →
      codeAny (model l.prog w) callerA (.call (.ref fa) ⟨[.ref a],[]⟩) (fun r s'=>r=.ok (.ret (.bool true))∧OldK s₁.heap s'.heap∧s'.os=s₁.os∧AllBare s'.gens) s₁) :
    WalkO q loose XP YP l.row.toRowW d [] (fun f vs=>PySem.call f vs):=by
  intro w s₀ s₁ mg mb G Y fa o pm cd doc dV kV ho hd hcd hD hmg hg args vals as hpre hlay hrd hwl hlo
  obtain rfl:dV=.none:=Dflts.none hD hdf
  obtain rfl:kV=.none:=Dflts.noKw hD
  obtain⟨a,vs,ns,rfl,rfl,hobj,hints,hlen⟩:=zjw hn hpre hwl
  refine enter_call (codeAny_mono (call w s₀ s₁ mg mb fa o pm cd doc a vs ns G Y ho (fd_plain hd) hcd hmg hobj hints hlen hg) fun r s' hq=>?_)
  obtain⟨rfl,h2,h3,h4⟩:=hq
  exact⟨.inl ⟨.bool true,.bool true,[],rfl,fun _=>rfl,.bool true,zjz l _,fun _=>⟨List.Pairwise.nil,fun _ hm=>(nomatch hm)⟩⟩,h2,h3,h4⟩
section
variable {prog:Program} {w:World} {A:Around} {E:Value→Shared→Prop} {s:Shared} {K:Frag}
def ledger (h:Heap) (L d:Addr):List (Addr × Obj):=(List.range h.objs.size).filterMap fun a=>if a=L∨a=d then none else(h.get? a).map fun o=>(a,o)
end
end Att
namespace L2
open PySem PySem.Spec PyProof.Rows
theorem zfZ:∀ {vs:List Value} {ns:List Int},IntsAre vs ns→aw (ns.map V.int) vs
  | _,_,.nil=>.nil
  | _,_,.cons n t h=>.cons ⟨t,rfl⟩ (zfZ h)
def Only (H:Hp):Prop:=∀ b,H b=none∨∃ o xs,H b=some (.frz o (.lst xs))
theorem zkg {P:Program} {w:World} {K:PySem.W.Frag} {mg mb:Str→Option Value} {CX:CXT} {k:Nat} {fa a:Addr} {fd:FuncData} {x:Str} {sp:Sp} {s₁:Shared} {vs:List Value} {ns:List Int}
    (KX:K.In s₁.heap) (hns:s₁.heap.Ns mainGlobals mg) (hb:s₁.heap.Ns builtinsNs mb) (hbb:∀ x:Str,x≠"__name__"→mb x=bootBuiltins x) (hlim:s₁.heap.NoLimit) (hg:s₁.gens=#[])
    (ha:s₁.heap.get? a=some { cls:=.type "list",data:=.seq vs.toArray }) (hi:IntsAre vs ns) (hl:ns.length≤sizeLine) (hr:zai k callerA)
    (F:∀ base:Heap,K.In base→base.Ns mainGlobals mg→FnOk P w K mg base CX k fa fd [x] sp) (hbind:∀(s:Shared) (u:Value),BindsTo s fd ⟨[u],[]⟩ [(x,u)])
    (hsp:∀ H:Hp,Only H→SqL K H a (ns.map V.int)→sp [.ref a] H (fun v _=>v=.bl true) fun _ _ _=>False)
    (hCX:∀ H e s',CX [] H s₁ (fun _ _ _=>False) e s'→False) :
    codeAny (model P w) callerA (.call (.ref fa) ⟨[.ref a],[]⟩) (fun r s'=>r=.ok (.ret (.bool true))∧OldK s₁.heap s'.heap∧s'.os=s₁.os∧AllBare s'.gens) s₁:=by
  have rv:=zfZ hi
  have lenV:=hi.length
  have core:∀ H:Hp,Only H→SqL K H a (ns.map V.int)→HOk P w H s₁.heap→(∀ b,H b≠none→b=a)→(H a≠none→K.lookup a=none) →
      codeAny (model P w) callerA (.call (.ref fa) ⟨[.ref a],[]⟩) (fun r s'=>r=.ok (.ret (.bool true))∧OldK s₁.heap s'.heap∧s'.os=s₁.os∧AllBare s'.gens) s₁:=by
    intro H hO hS hok hA hK
    have base_of:∀ {b:Addr} {o:Obj},s₁.heap.get? b=some o→H b=none→(zdv s₁.heap H).get? b=some o:=fun e n=>zki e n
    have noA:∀ {b:Addr} {o:Obj} {es:Array DictEntry} {ep:Nat},s₁.heap.get? b=some o→o.data=.dict es ep→H b=none:=fun {b o es ep} e d=>by
      cases q:H b with
      | none=>rfl
      | some u =>
        have e':b=a:=hA b (by rw[q];simp)
        subst e'
        rw[ha]at e;cases e
        have d':Data.seq vs.toArray _=Data.dict es ep:=d
        cases d'
    have nsK:∀ {b:Addr} {m:Str→Option Value},s₁.heap.Ns b m→(zdv s₁.heap H).Ns b m:=fun {b m} ⟨o,es,ep,e,d,r⟩=>⟨o,es,ep,base_of e (noA e d),d,r⟩
    have hKb:K.In (zdv s₁.heap H):=fun b o e=>base_of (KX b o e) (by
      cases q:H b with
      | none=>rfl
      | some u =>
        have e':b=a:=hA b (by rw[q];simp)
        subst e'
        rw[hK (by rw[q];simp)]at e;cases e)
    have hM:Mod K mg (zdv s₁.heap H):=⟨hKb,nsK hns,⟨mb,nsK hb,hbb⟩,let ⟨mc,h1,h2⟩:=hlim;⟨mc,nsK h1,h2⟩⟩
    have e0:zdM P w K mg (zdv s₁.heap H) callerA [] s₁ H:=⟨rfl,hM,fun b o e=>zk7 e,Nat.le_of_eq (zjJ _ _),trivial,fun b hb=>absurd (show b∈([]:List Addr) from hb) (by simp),hok,.of_eq hg⟩
    refine codeAny_mono ((F _ hKb (nsK hns)).run callerA [] s₁ H ⟨[.ref a],[]⟩ [.ref a] [.ref a] _ _ hr e0 (hbind s₁ (.ref a)) (.cons rfl .nil) (hsp H hO hS)) fun r s' h=>?_
    cases r with
    | error e=>exact(hCX H e s' h).elim
    | ok fl =>
      cases fl with
      | next=>exact False.elim h
      | brk=>exact False.elim h
      | cont=>exact False.elim h
      | ret u =>
        obtain⟨v,H',os,bare,un,hok',r',q⟩:=h
        have q':v=.bl true:=q
        subst q'
        obtain rfl:u=Value.bool true:=r'
        refine⟨rfl,OldK.of_keep fun b o e=>?_,os,bare⟩
        cases q:H b with
        | none=>exact un.keep b o e q (by intro z;exact absurd (show b∈([]:List Addr) from z) (by simp)) (by simp)
        | some u =>
          rcases hO b with z | ⟨ob,xs,z⟩
          · rw[q]at z;cases z
          · have z2:=un.frzs b ob _ z
            obtain⟨e1,_⟩:=hok b _ z
            obtain⟨e2,_⟩:=hok' b _ z2
            rw[e]at e1;cases e1
            exact e2
  cases hk:K.lookup a with
  | some o =>
    have e:=KX a o hk
    rw[ha]at e
    cases e
    refine core (fun _=>none) (fun _=>.inl rfl) (.inr ⟨_,vs.toArray,_,hk,rfl,rfl,rfl,by rw[List.size_toArray,lenV];exact hl,by simpa using rv⟩) (fun b u z=>by have z':(none:Option HO)=some u:=z;cases z') (fun b z=>absurd rfl z) fun z=>absurd rfl z
  | none =>
    refine core (fun b=>if b=a then some (.frz { cls:=.type "list",data:=.seq vs.toArray } (.lst (ns.map V.int))) else none) (fun b=>?_) (.inl (.inr ⟨{ cls:=.type "list",data:=.seq vs.toArray },if_pos rfl⟩)) (fun b u z=>?_) (fun b z=>?_) fun _=>hk
    · by_cases hb:b=a
      · exact .inr ⟨_,_,if_pos hb⟩
      · exact .inl (if_neg hb)
    · by_cases hb:b=a
      · have z':=(if_pos hb).symm.trans z
        cases z'
        subst hb
        exact⟨ha,by rw[List.length_map];exact hl,vs,_,rv,ha⟩
      · have z':=(if_neg hb).symm.trans z
        cases z'
    · by_cases hb:b=a
      · exact hb
      · exact absurd (if_neg hb) z
end L2
namespace L2
open PySem PySem.Spec PyProof.Rows
abbrev KOf {K:PySem.W.Frag} {h:Heap} (_:K.In h):PySem.W.Frag:=K
theorem walk_of {l:PySem.W.OpenLaw} {n k:Nat} {q:Program} {loose:List Str} {XP:(Str→Option Value)→Heap→Prop} {YP:World→Heap→Prop} {d:DefRec} {K:Params→PySem.W.Frag} {CX:World→CXT} {sp:World→Sp} {x:Str}
    (hn:l.most=some n) (hn2:n≤sizeLine) (hdf:d.params.defaults=[]) (hr:zai k callerA)
    (hY:∀(w:World) (h:Heap),YP w h→(K w.params).In h)
    (F:∀(w:World) (mg:Str→Option Value) (fa:Addr) (h:Heap),(K w.params).In h→h.Ns mainGlobals mg→mg d.name=some (.ref fa) →
      ∃ fd:FuncData,(∀(s:Shared) (u:Value),BindsTo s fd ⟨[u],[]⟩ [(x,u)]) ∧
        ∀ base:Heap,(K w.params).In base→base.Ns mainGlobals mg→FnOk l.prog w (K w.params) mg base (CX w) k fa fd [x] (sp w))
    (hsp:∀(w:World) (H:Hp) (a:Addr) (ns:List Int),ns.length≤n→Only H→SqL (K w.params) H a (ns.map V.int)→sp w [.ref a] H (fun v _=>v=.bl true) fun _ _ _=>False)
    (hCX:∀(w:World) (H:Hp) (s:Shared) (e:Value) (s':Shared),CX w [] H s (fun _ _ _=>False) e s'→False) :
    PySem.W.WalkO q loose XP YP l.row.toRowW d [] (fun f vs=>PySem.call f vs):=by
  refine Att.attach_call hn hdf fun w s₀ s₁ mg mb fa o pm cd doc a vs ns G Y ho hd hcd hmg hobj hints hlen hg=>?_
  have KX:=hY w _ Y
  obtain⟨fd,hb,hF⟩:=F w mg fa _ KX G.T.g hmg
  exact zkg KX G.T.g G.T.b G.T.builtins G.T.nolimit hg hobj hints (Nat.le_trans hlen hn2) hr hF hb (fun H hO hS=>hsp w H a ns hlen hO hS) fun H e s'=>hCX w H s₁ e s'
end L2
namespace L2
open PySem PySem.Spec PyProof.Rows
def zaL (s:Stmt) (j:Nat):Stmt:=match s with
  | .ClassDef _ _ _ body _ _ _ _ _ _ _=>body.getD j (.Pass ⟨0,0,0,0⟩)
  | _=>.Pass ⟨0,0,0,0⟩
def zbI (s:Stmt):Arguments:=match s with
  | .FunctionDef _ a _ _ _ _ _ _ _ _=>a
  | _=>{ posonlyargs:=[],args:=[],vararg:=none,kwonlyargs:=[],kw_defaults:=[],kwarg:=none,defaults:=[] }
def zam (s:Stmt):List Stmt:=match s with
  | .FunctionDef _ _ b _ _ _ _ _ _ _=>b
  | _=>[]
def ad (s:Stmt):Scope:=match s with
  | .FunctionDef _ _ _ _ _ _ sc _ _ _=>sc
  | _=>{ kind:=.function,names:=[],isGenerator:=false,isCoroutine:=false }
abbrev CX0:CXT:=fun _ _ _ _ _ _=>False
abbrev E0:XK:=fun _ _ _=>False
theorem zaz {X:Cx}:zbg CX0 X E0:=fun _ _ _ _ _ _ _ h=>h.elim
structure Fun (K:PySem.W.Frag) (x qual:Str) (st:Stmt) (f:Addr) (fd:FuncData):Prop where
  ex:∃(oc:Value) (od:Option Addr) (kV doc pm:Value) (an:Option Addr) (cdv ct:Value) (osl:Array (Option Value)),
    fd=PySem.W.fnOf x qual (zbI st) (zam st) (ad st) .none kV doc pm an cdv ct∧K.lookup f=some ⟨oc,od,.func fd,osl⟩∧PySem.W.codeIn K cdv qual=true
  kp:PySem.W.keepIn K (.ref f)=true
section
variable {P:Program} {w:World} {K:PySem.W.Frag} {mg:Str→Option Value} {base:Heap}
theorem Fun.ok {x qual:Str} {st:Stmt} {f:Addr} {fd:FuncData} {N ps:List Str} {k:Nat} {sp:Sp} (F:Fun K x qual st f fd) (S:zaa N ps (ad st)) (len:∀ vs H Q E,sp vs H Q E→vs.length=ps.length)
    (hbody:∀(cdv:Value) (A:Around) (outer:List Env) (s:Shared) (H:Hp) (vs:List V) (Q:VK) (E:XK),zai k (A.deeper (envOfC qual (ad st) s.heap.objs.size f cdv))→sp vs H Q E →
      ∃ t,PSs (zak CX0 P w K mg base N qual (ad st) f cdv A outer s H E).nox (zam st) t∧t { nx:=fun _ H'=>Q .non H',rt:=Q } (zbj N vs) H):FnOk P w K mg base CX0 (k+1) f fd ps sp:=by
  obtain⟨oc,od,kV,doc,pm,an,cdv,ct,osl,rfl,lk,hcd⟩:=F.ex
  refine ziu lk hcd S len fun A outer s H vs Q E hr hsp=>?_
  obtain⟨t,h,q⟩:=hbody cdv A outer s H vs Q E hr hsp
  exact⟨t,h.nox,q⟩
theorem Fun.binds {x qual:Str} {st:Stmt} {f:Addr} {fd:FuncData} {ps:List Str} (F:Fun K x qual st f fd)
    (h:∀(kV doc pm:Value) (an:Option Addr) (cdv ct:Value) (us:List Value),us.length=ps.length→bindArgs (PySem.W.fnOf x qual (zbI st) (zam st) (ad st) .none kV doc pm an cdv ct) ⟨us,[]⟩=pure (ps.zip us)):au K fd ps []:=by
  obtain⟨oc,od,kV,doc,pm,an,cdv,ct,osl,rfl,lk,hcd⟩:=F.ex
  exact .all (h kV doc pm an cdv ct)
theorem zjj {x qual:Str} {st:Stmt} {f:Addr} {oc:Value} {od an:Option Addr} {osl:Array (Option Value)} {kV doc pm cdv ct:Value} (l:K.lookup f=some ⟨oc,od,.func (PySem.W.fnOf x qual (zbI st) (zam st) (ad st) .none kV doc pm an cdv ct),osl⟩)
    (c:PySem.W.codeIn K cdv qual=true) (k:PySem.W.keepIn K (.ref f)=true):Fun K x qual st f (PySem.W.fnOf x qual (zbI st) (zam st) (ad st) .none kV doc pm an cdv ct):=⟨⟨oc,od,kV,doc,pm,an,cdv,ct,osl,rfl,l,c⟩,k⟩
end
theorem zcm {n:Nat} (h:n≤1000):n < sizeLine:=Nat.lt_of_le_of_lt h (by decide)
section
variable {X:Cx}
theorem pv (i:Nat) {x:Str} {pos:Pos} (hN:X.N[i]?=some x:=by rfl) (hv:Vis X.env.scope x:=by first | exact Or.inl rfl | exact Or.inr (Or.inl rfl) | exact Or.inr (Or.inr rfl)) (hd:(x == ("__debug__":Str))=false:=by decide)
    (hcd:(x == ("__classdict__":Str))=false:=by decide):PE X (.Name x pos) (zdK i):=pe_var hN hv hd hcd
end
theorem zaX {A B:Prop} (h:B):if false=true then A else B:=by
  rw[if_neg Bool.false_ne_true]
  exact h
theorem za7 {A B:Prop} (h:A):if true=true then A else B:=by
  rw[if_pos rfl]
  exact h
theorem zay {c A B:Prop} [Decidable c] (h1:c→A) (h2:¬c→B):if c then A else B:=by
  by_cases h:c
  · rw[if_pos h]
    exact h1 h
  · rw[if_neg h]
    exact h2 h
def ao (H H':Hp):Prop:=∀ b o,H b=some o→H' b=some o
theorem ao.refl (H:Hp):ao H H:=fun _ _ h=>h
theorem ao.trans {H H1 H2:Hp} (a:ao H H1) (b:ao H1 H2):ao H H2:=fun c o h=>b c o (a c o h)
theorem ao.free {H H':Hp} (e:ao H H') {l:Addr} (h:H' l=Option.none):H l=Option.none:=by
  cases q:H l with
  | none=>rfl
  | some o =>
    rw[e l o q]at h
    cases h
theorem ao.seq {K:PySem.W.Frag} {H H':Hp} {a:Addr} {xs:List V} (e:ao H H') (h:SqL K H a xs):SqL K H' a xs:=by
  rcases h with (h | ⟨o,h⟩) | h
  · exact .inl (.inl (e _ _ h))
  · exact .inl (.inr ⟨o,e _ _ h⟩)
  · exact .inr h
end L2
theorem lS0:0≤PySem.sizeLine:=by decide
theorem lS1:1≤PySem.sizeLine:=by decide
theorem lS2:2≤PySem.sizeLine:=by decide
theorem lS3:3≤PySem.sizeLine:=by decide
theorem lS4:4≤PySem.sizeLine:=by decide
namespace L2
open PySem PySem.Spec PyProof.Rows
section
variable {X:Cx} {e l:Expr} {te tl:TE} {pos:Pos} {tg:Expr}
inductive rSlS:V→Option Int→Option Int→Hp→VK→Prop | mk {x lo hi H Q} z:x=.str z→z.length≤sizeLine→Q (.str (Txt.slice z lo hi)) H→rSlS x lo hi H Q
theorem zhV {v:Value} {o:Option Int} (p:IsPart v o):∃ q:Option (Int × Tok),v=partValue q∧q.map (·.1)=o:=by
 cases p with
 | none=>exact⟨none,rfl,rfl⟩
 | int i t=>exact⟨some (i,t),rfl,rfl⟩
theorem zgA:SlR X rSlS:=by
 intro pins s σ H x v vl vu lo hi sl Q I rx hs pl pu h
 obtain⟨z,rfl,hz,q⟩:=h
 obtain⟨t,rfl⟩:=rx
 obtain⟨ql,rfl,rfl⟩:=zhV pl
 obtain⟨qu,rfl,rfl⟩:=zhV pu
 obtain⟨o,ho,hc,hd⟩:=hs
 refine⟨"str",_,F.slot_str_getitem.lookup,typeIs_str _ _ _,?_⟩
 refine wpAny_getItem_str_slice (l:=ql) (u:=qu) (st:=none) ⟨o,ho,hc,hd⟩ rfl ?_
 exact post_val_or_str ⟨Nat.le_trans (Txt.slice_le z _ _) hz,fun t' k=>⟨.str (Txt.slice z (ql.map (·.1)) (qu.map (·.1))),H,I.tok _,⟨_,rfl⟩,q⟩⟩
def Its (z:Str):It:=⟨fun i _=>i < z.length,fun i H x H'=>H'=H∧∃ c,z.cps[i]?=some c∧x=.str ⟨#[c]⟩,fun i _=>z.length≤i⟩
theorem zgZ {P:Program} {w:World} {K:W.Frag} {ty:String} (hty:ty="str_ascii_iterator"∨ty="str_iterator") (it:Addr) (z:Str) (t:Tok):Turn P w K tg (Its z) [it] it (fun i h=>h.IsStrIter it ty z t i) where
 mem:=by simp
 obj:=fun i h st b hb=>by
  have e:b=it:=by simpa using hb
  subst e
  obtain⟨o,e,c,d⟩:=st
  exact⟨o,e,fun v z=>by rw[d]at z;cases z⟩
 keep:=fun i h h' st k=>by
  obtain⟨o,e,r⟩:=st
  exact⟨o,k it (by simp) o e,r⟩
 item:=by
  intro X hP hw hK hc i pins s σ H E I hf st hg
  subst hP hw hK
  have hi:i < z.cps.size:=hg
  have hx:z.cps[i]?=some z.cps[i]:=by simp [hi]
  obtain⟨f0,f1,f2,f3,f4,f5⟩:=hf it (by simp)
  rcases hty with rfl | rfl
  ·refine wpAny_pyNext_ascii_item st hx fun h' st' sb=>?_
   have I1:Inv X pins σ H { s with heap:=h',toks:=s.toks+1 }:=I.turned (t':=s.toks+1) (fun b o hb e=>(sb.2 b hb).trans e) f0 f1 f3 f4 f5
   obtain⟨o,e,c,d⟩:=id st'
   exact⟨_,rfl,zfd (s:={ s with heap:=h',toks:=s.toks+1 }) e c d (by decide) ⟨.str ⟨#[z.cps[i]]⟩,H,I1,⟨_,rfl⟩,⟨rfl,_,hx,rfl⟩,st',fun b hb=>(hf b hb).1⟩⟩
  ·refine wpAny_pyNext_wide_item st hx fun h' st' sb=>?_
   have I1:Inv X pins σ H { s with heap:=h',toks:=s.toks+1 }:=I.turned (t':=s.toks+1) (fun b o hb e=>(sb.2 b hb).trans e) f0 f1 f3 f4 f5
   obtain⟨o,e,c,d⟩:=id st'
   exact⟨_,rfl,zfd (s:={ s with heap:=h',toks:=s.toks+1 }) e c d (by decide) ⟨.str ⟨#[z.cps[i]]⟩,H,I1,⟨_,rfl⟩,⟨rfl,_,hx,rfl⟩,st',fun b hb=>(hf b hb).1⟩⟩
 done:=by
  intro X hP hw hK hc i pins s σ H E I hf st hg
  subst hP hw hK
  have hi:z.cps.size≤i:=hg
  have hx:z.cps[i]?=none:=by simp [hi]
  obtain⟨f0,f1,f2,f3,f4,f5⟩:=hf it (by simp)
  rcases hty with rfl | rfl
  ·exact wpAny_pyNext_ascii_end (I.ok.hd hc) st hx fun h' eb=>⟨rfl,I.turned (t':=s.toks) (fun b o hb e=>eb b o hb e) f0 f1 f3 f4 f5⟩
  ·exact wpAny_pyNext_wide_end (I.ok.hd hc) st hx fun h' eb=>⟨rfl,I.turned (t':=s.toks) (fun b o hb e=>eb b o hb e) f0 f1 f3 f4 f5⟩
 self:=fun _ _ _ _ _ st h=>by
  rcases hty with rfl | rfl
  ·exact wpAny_pyIter_striter_ascii st h
  ·exact wpAny_pyIter_striter_wide st h
def iStr (tl:TE):TI:=fun σ H R=>tl σ H fun x H1=>∃ z,x=.str z∧R (Its z) H1
theorem pi_str (hl:PE X l tl):PI X tg l (iStr tl):=by
 intro pins s σ H R I h
 refine thn (hl pins s σ H _ I h) fun v s1 ⟨x,H1,I1,r1,q1⟩=>?_
 obtain⟨z,e,q⟩:=q1
 subst e
 obtain⟨t,rfl⟩:=r1
 have fp:∀ b∈[s1.heap.objs.size],zbh X pins H1 b:=fun b hb=>by
  have e:b=s1.heap.objs.size:=by simpa using hb
  subst e
  exact I1.fpOk (Nat.le_refl _) (I1.hok.fresh (Nat.le_refl _))
 cases ha:z.cps.all (· < 128) with
 | true =>
  refine wpAny_pyIter_ascii ha ?_
  exact⟨s1.heap.objs.size,[s1.heap.objs.size],_,_,H1,rfl,I1.kept (t':=s1.toks) fun b o e=>Heap.get?_push_of_some _ e,zgZ (.inl rfl) _ z t,⟨_,Heap.get?_push_size _ rfl,rfl,rfl⟩,fp,q⟩
 | false =>
  refine wpAny_pyIter_wide ha ?_
  exact⟨s1.heap.objs.size,[s1.heap.objs.size],_,_,H1,rfl,I1.kept (t':=s1.toks) fun b o e=>Heap.get?_push_of_some _ e,zgZ (.inr rfl) _ z t,⟨_,Heap.get?_push_size _ rfl,rfl,rfl⟩,fp,q⟩
theorem zfW (hc:X.calm=true):zbQ X (.builtin "all") (fun xs H Q=>∃(p:Addr) (bs:List Bool),xs=[.ref p]∧SqL X.K H p (bs.map V.bl)∧Q (.bl (bs.all id)) H):=by
 intro pins s σ H xs us Q I r h
 obtain⟨p,bs,rfl,hq,q⟩:=h
 obtain⟨u,rfl,rx⟩:=ze7 r
 cases rx
 obtain⟨its,rv,pl,hz⟩:=I.list hq
 have hl:=rv.length
 rw[List.length_map]at hl
 have hp:p < s.heap.objs.size:=by
  obtain⟨o,ho,_⟩:=pl.isList
  exact Heap.lt_size ho
 have hne:p≠s.heap.objs.size:=Nat.ne_of_lt hp
 refine call_all_walk (wpAny_pyIter_list pl.isList ?_)
 refine⟨s.heap.objs.size,[s.heap.objs.size,p],[s.heap.objs.size],its.toArray.size,_,_,fun i=>bs.getD i true,rfl,Walks.list (show X.A.in1.handled=none from I.ok.hd hc) _ p hne its.toArray,⟨⟨_,Heap.get?_push_size _ rfl,rfl,rfl⟩,pl.isList.push _⟩,?_,fun h' tk hk=>?_⟩
 ·intro i v s' Q' E' hv hQ
  have hv':its[i]?=some v:=by simpa using hv
  have hi:i < its.length:=(List.getElem?_eq_some_iff.mp hv').1
  have hb:bs[i]?=some (bs.getD i true):=by
   rw[List.getD_eq_getElem?_getD,List.getElem?_eq_getElem (by omega)]
   rfl
  obtain⟨w',e1,e2⟩:=rv.get (i:=i) (x:=.bl (bs.getD i true)) (by rw[List.getElem?_map,hb];rfl)
  rw[hv']at e1
  cases e1
  cases (show v=Value.bool _ from e2)
  exact wpAny_truthy_bool hQ
 ·have e:(List.range its.toArray.size).all (fun i=>bs.getD i true)=bs.all id:=by
   rw[Bool.eq_iff_iff,List.all_eq_true,List.all_eq_true]
   constructor
   ·intro h x hx
    obtain⟨i,hi,rfl⟩:=List.mem_iff_getElem.mp hx
    have:=h i (List.mem_range.mpr (by simp only[List.size_toArray];omega))
    rw[List.getD_eq_getElem?_getD,List.getElem?_eq_getElem hi]at this
    exact this
   ·intro h i hi
    have hi':i < bs.length:=by have:=List.mem_range.mp hi;simp only[List.size_toArray]at this;omega
    rw[List.getD_eq_getElem?_getD,List.getElem?_eq_getElem hi']
    exact h _ (List.getElem_mem hi')
  refine⟨.bl (bs.all id),H,I.kept (t':=tk) fun b o eb=>hk b o ?_ (Heap.get?_push_of_some _ eb),congrArg Value.bool e,q⟩
  intro hm
  have:b=s.heap.objs.size:=by simpa using hm
  exact absurd (Heap.lt_size eb) (by rw[this];exact Nat.lt_irrefl _)
end
structure Clo (X:Cx) (scope:Scope) (cl:List (Str × Addr)):Prop where
 eq:closureFor scope X.env=pure cl
 sub:∀ y c,cl.lookup y=some c→X.env.cells.lookup y=some c
 has:∀ y,((relabel scope X.env).names.lookup y=some .cell∨(relabel scope X.env).names.lookup y=some .free)→∃ c,cl.lookup y=some c
theorem zcQ {X:Cx} {scope:Scope} (hfree:∀ x∈scope.names,x.2≠.free) (hcell:∀ x∈scope.names,x.2≠.cell):Clo X scope []:=by
 refine⟨closureFor_none hfree,fun y c h=>by simp at h,fun y h=>?_⟩
 have e:(relabel scope X.env).names=scope.names:=by
  unfold relabel
  refine map_eq_self (fun x hx=>?_)
  obtain⟨n,k⟩:=x
  have:(k == NameKind.free)=false:=by simpa using hfree _ hx
  simp [this]
 rw[e]at h
 rcases h with h | h
 ·exact absurd rfl (hcell _ (PySem.mem_of_lookup h))
 ·exact absurd rfl (hfree _ (PySem.mem_of_lookup h))
def zaj (X:Cx) (N':List Str) (scope:Scope) (cl:List (Str × Addr)) (fp:List Addr) (s₃:Shared) (H₃:Hp):Cx where
 prog:=X.prog
 w:=X.w
 K:=X.K
 mg:=X.mg
 base:=X.base
 A:=X.A
 N:=N'
 s₀:=s₃
 H₀:=H₃
 env:=compEnvC scope cl s₃.heap.objs.size X.env
 outer:=X.stack
 stack:=X.stack
 ex:=fp
 calm:=X.calm
 fn:=fun _=>false
 pn:=[]
 xe:=fun _ _=>False
def fvs (σ:St) (ix:List Nat):St:=ix.map fun i=>(σ[i]?).join
def tLC (wi:TI) (ix:List Nat) (te:TE):TE:=fun σ H Q=>wi σ H fun J H1=>∀ D,H1 D=none →
 ∃ W:Nat→Nat→List V→Hp→Prop,(∃ m,W 0 m [] (upd H1 D (.lst []))) ∧
  ∀ i m ys H',W i m ys H'→H' D=some (.lst ys) ∧
   ((J.stop i H'∧Q (.ref D) H')∨(J.go i H'∧∀ x H'',J.yld i H' x H''→te (some x :: fvs σ ix) H'' fun y H3 =>
    H3 D=some (.lst ys)∧ys.length < sizeLine∧∃ m',m' < m∧W (i+1) m' (ys++[y]) (upd H3 D (.lst (ys++[y])))))
theorem zcj {prog:Program} {w:World} {A:Around} {R:Result→Shared→Prop} {s:Shared} {elt target iter:Expr} {scope:Scope} {pos:Pos} {it acc:Value} {env:Env} (I:Nat→Shared→Prop)
  (turn:∀ n s,I n s→wpAny (model prog w) A (pyNext it) (fun r s₁=>match r with
   | none=>R (.ok .next) s₁
   | some v=>wpAny (model prog w) A (letOwnedTupleGo target it v) (fun _ s₁'=>wpAny (model prog w) A (assign target env v) (fun _ s₂=>wpAny (model prog w) A (eval elt env) (fun x s₃ =>
     wpAny (model prog w) A (call (.builtin "list.append") [acc,x]) (fun _ s₄=>∃ m,m < n∧I m s₄) (notedBy (model prog w) A env fun e s'=>R (.error e) s') s₃)
     (notedBy (model prog w) A env fun e s'=>R (.error e) s') s₂) (notedBy (model prog w) A env fun e s'=>R (.error e) s') s₁') (notedBy (model prog w) A env fun e s'=>R (.error e) s') s₁) (notedBy (model prog w) A env fun e s'=>R (.error e) s') s)
  (n:Nat) (h:I n s) :
  codeAny (model prog w) A (.compLoop (.ListComp elt [⟨target,iter,[],0⟩] scope pos) 0 it acc env) R s:=by
 refine codeAny_loop rfl I (fun n s hI=>?_) n h
 show wpAny _ _ ((compTurn (.ListComp elt [⟨target,iter,[],0⟩] scope pos) 0 it acc env).onRaise (fun x=>do noteFrame x env;theTreesLotGoes x)) _ _ s
 refine wpAny_noted ?_
 rw[compTurn_list1]
 refine wpAny_bind (wpAny_standAt (wpAny_bind (wpAny_mono (turn n s hI) (fun r s₁ h₁=>?_) fun _ _ h'=>h')))
 cases r with
 | none=>exact wpAny_pure h₁
 | some v =>
  refine wpAny_bind (wpAny_mono h₁ (fun _ s₁' h₁'=>?_) fun _ _ h'=>h')
  exact wpAny_bind (wpAny_mono h₁' (fun _ s₂ h₂=>wpAny_bind (wpAny_bind (wpAny_mono h₂ (fun x s₃ h₃=>wpAny_bind (wpAny_mono h₃
   (fun _ s₄ h₄=>wpAny_pure (wpAny_pure ⟨rfl,h₄⟩)) fun _ _ h'=>h')) fun _ _ h'=>h'))) fun _ _ h'=>h')
section
variable {X:Cx} {N':List Str} {scope:Scope} {cl:List (Str × Addr)} {fp:List Addr} {pins:List (Addr × Obj)} {σ:St} {H:Hp} {s:Shared}
theorem zbJ (I:Inv X pins σ H s) (C:Clo X scope cl) (hkind:scope.kind=.function) (hf:∀ b∈fp,zbh X pins H b) (hlt:∀ b∈fp,b < s.heap.objs.size):(zaj X N' scope cl fp s H).Ok where
 mod:=I.ok.mod
 kind:=hkind
 glob:=I.ok.glob
 blt:=I.ok.blt
 above:=Nat.le_refl _
 inj:=fun x y c h1 h2=>I.ok.inj x y c (C.sub x c h1) (C.sub y c h2)
 has:=fun x h=>C.has x h
 cab:=fun x c h=>by cases (show false=true from h)
 hd:=I.ok.hd
 frames:=I.ok.frames
 stk:=.inl rfl
 exf:=fun b hb=>⟨Nat.ne_of_lt (hlt b hb),fun x c h=>(hf b hb).2.2.2.2.1 x c (C.sub x c h)⟩
 bs:=fun b o h=>I.bs b o h
 bsz:=Nat.le_trans I.ok.bsz I.sz
 noex:=fun b o h hb=>by
  rcases(hf b hb).2.2.2.1 with z | z
  ·exact I.ok.noex b o h z
  ·exact absurd (Nat.lt_of_lt_of_le (Heap.lt_size h) (Nat.le_trans I.ok.bsz z)) (Nat.lt_irrefl _)
 exfs:=fun b hb hs=>by
  rcases List.mem_cons.mp (I.stkSub b hs) with z | z
  ·exact(hf b hb).2.1 z
  ·exact(hf b hb).2.2.1 z
 funs:=I.stack
 frf:=I.stkFree
theorem zcB {ix:List Nat} {h₁:Heap} {t':Nat} {m:Str→Option Value} (I:Inv X pins σ H s) (C:Clo X scope cl) (hkind:scope.kind=.function) (hf:∀ b∈fp,zbh X pins H b) (hlt:∀ b∈fp,b < s.heap.objs.size)
  (hlen:N'.length=ix.length+1) (hix:∀(j i:Nat),ix[j]?=some i→∃ y,X.N[i]?=some y∧N'[j+1]?=some y∧(X.env.kindOf y=some .cell∨X.env.kindOf y=some .free)∧((relabel scope X.env).names.lookup y=some .cell∨(relabel scope X.env).names.lookup y=some .free))
  (hn:h₁.Ns s.heap.objs.size m) (hk:∀ b o,s.heap.get? b=some o→h₁.get? b=some o):Inv (zaj X N' scope cl fp s H) [] (none :: fvs σ ix) H { s with heap:=h₁,toks:=t' }:=by
 have cellK:∀ x c,cl.lookup x=some c→∃ v,h₁.IsCell c v:=fun x c h=>by
  obtain⟨v,o,ho,hd⟩:=I.cell x c (C.sub x c h)
  exact⟨v,o,hk c o ho,hd⟩
 refine⟨zbJ I C hkind hf hlt,rfl,I.bare,Un.kept hk,⟨m,hn,fun i y v h1 h2 h3=>?_⟩,cellK,I.hok.fresh (Nat.le_refl _),fun x c h=>I.freeC x c (C.sub x c h),fun p hp=>absurd (show p∈([]:List (Addr × Obj)) from hp) (by simp),I.hok.kept hk,?_,⟨m,hn,zdr⟩⟩
 ·cases i with
  | zero=>cases (show some (none:Option V)=some (some v) from h2)
  | succ j =>
   have h2':(fvs σ ix)[j]?=some (some v):=h2
   unfold fvs at h2'
   rw[List.getElem?_map]at h2'
   cases e:ix[j]? with
   | none=>rw[e]at h2';cases h2'
   | some i =>
    rw[e]at h2'
    have h4:(σ[i]?).join=some v:=Option.some.inj h2'
    have h5:σ[i]?=some (some v):=by
     cases e':σ[i]? with
     | none=>rw[e']at h4;cases h4
     | some q =>
      rw[e']at h4
      have h6:q=some v:=h4
      rw[h6]
    obtain⟨y',n1,n2,k1,k2⟩:=hix j i e
    have ey:y'=y:=Option.some.inj (n2.symm.trans h1)
    subst ey
    obtain⟨m0,hn0,hl0⟩:=I.loc
    have hv0:Vis X.env.scope y':=k1.elim (fun z=>.inr (.inl z)) fun z=>.inr (.inr z)
    obtain⟨u,ru,l⟩:=hl0 i y' v n1 h5 hv0
    refine⟨u,ru,.inr ⟨k2,?_⟩⟩
    rcases l with ⟨k,_⟩ | ⟨_,c,ec,o,ho,hd⟩
    ·rcases k1 with z | z
     ·rw[z]at k;cases k
     ·rw[z]at k;cases k
    ·obtain⟨c',ec'⟩:=C.has y' k2
     have:c'=c:=Option.some.inj ((C.sub _ _ ec').symm.trans ec)
     subst this
     exact⟨c',ec',o,hk c' o ho,hd⟩
 ·show(none :: fvs σ ix:St).length=N'.length
  rw[hlen]
  simp [fvs]
theorem zcg {σ':St} {H':Hp} {s':Shared} {h':Heap} (I:Inv X pins σ H s) (J:Inv (zaj X N' scope cl fp s H) [] σ' H' s') (hf:∀ b∈fp,zbh X pins H b) (hs:Heap.SameBut s.heap.objs.size s'.heap h'):Inv X pins σ H' { s' with heap:=h' }:=by
 have ne:∀ b o,s.heap.get? b=some o→b≠s.heap.objs.size:=fun b o e=>Nat.ne_of_lt (Heap.lt_size e)
 have eq:∀ b,b≠s.heap.objs.size→h'.get? b=s'.heap.get? b:=fun b hb=>hs.2 b hb
 have B:=J.base
 have u:Un (frs X.stack) fp H H' s.heap h' :=
  ⟨fun b o e n h1 h2=>(eq b (ne b o e)).trans (B.keep b o e n h1 h2),fun b o e n h1 h2=>by
   obtain⟨sl,q⟩:=B.slot b o e n h1 h2
   exact⟨sl,(eq b (ne b o e)).trans q⟩,fun b o e n h1=>B.free b o e n h1,fun b o e h1=>by
   obtain⟨o',q⟩:=B.there b o e h1
   exact⟨o',(eq b (ne b o e)).trans q⟩,B.tups,B.frzs,B.tbls⟩
 have hfree:H' s.heap.objs.size=none:=J.free
 have hok:HOk X.prog X.w H' h':=fun b ob e=>by
  refine(J.hok b ob e).stay (fun c w' hc q=>(eq c ?_).trans q) (fun _ q=>q) fun _ _ q=>q
  rintro rfl
  rcases hc with z | z
  ·rw[←z,hfree]at e;cases e
  ·rw[hfree]at z;cases z
 exact I.call' (s':={ s' with heap:=h' }) (ch:=fp) J.os u hok J.bare fun b hb=>⟨(hf b hb).2.2.2.1,(hf b hb).2.1,(hf b hb).2.2.2.2.1,(hf b hb).2.2.2.2.2⟩
end
section
variable {X:Cx} {N':List Str} {scope:Scope} {elt iter:Expr} {x:Str} {px pos:Pos} {wi:TI} {te:TE} {ix:List Nat}
theorem zhZ (hc:X.calm=true) (hkind:scope.kind=.function) (hcell:∀ y∈scope.names,y.2≠.cell) (hnames:∀ y∈scope.names,y.2=.local→scope.names.lookup y.1=some .local) (hx:scope.names.lookup x=some .local)
  (hclo:X.Ok→∃ cl,Clo X scope cl) (hN:N'.Nodup) (hN0:N'[0]?=some x) (hlen:N'.length=ix.length+1)
  (hix:∀(j i:Nat),ix[j]?=some i→∃ y,X.N[i]?=some y∧N'[j+1]?=some y∧(X.env.kindOf y=some .cell∨X.env.kindOf y=some .free)∧((relabel scope X.env).names.lookup y=some .cell∨(relabel scope X.env).names.lookup y=some .free))
  (hi:PI X (.Name x px) iter wi) (he:∀ cl fp s₃ H₃,PE (zaj X N' scope cl fp s₃ H₃) elt te) (hs:∀ v,foldedSetIterable iter X.env v=pure v) {use:Option (Value→Sem Unit)} {Qf:Value→Shared→Prop} {pins:List (Addr × Obj)} {s:Shared} {σ:St} {H:Hp} {Q:VK} {cp:Pos} (I:Inv X pins σ H s) (h:tLC wi ix te σ H Q)
  (fin:∀(cl:List (Str × Addr)) (fp:List Addr) (s3 s6:Shared) (H3 H5:Hp) (σ6:St) (D:Addr),Inv X pins σ H3 s3→Inv (zaj X N' scope cl fp s3 H3) [] σ6 H5 s6→(∀ b∈fp,zbh X pins H3 b)→Q (.ref D) H5→compPost (model X.prog X.w) X.A X.xe use Qf (.ref D) s3.heap.objs.size (.ok .next) s6) :
  wpAny (model X.prog X.w) X.A (comprehension (.ListComp elt [⟨.Name x px,iter,[],0⟩] scope pos) scope X.env cp (newList []) false (eval iter X.env) use) Qf X.xe s:=by
 obtain⟨cl,C⟩:=hclo I.ok
 refine wpAny_comprehension_free rfl hs C.eq hkind hnames (thn (hi pins s σ H _ I h) fun v s1 h1=>thn h1 fun itv s2 h2=>?_)
 obtain⟨it,fp,tn,J,H2,e,I2,T,st2,f2,q2⟩:=h2
 subst e
 have hD:H2 s2.heap.objs.size=none:=I2.fresh
 obtain⟨W,⟨m0,w0⟩,turn⟩:=q2 s2.heap.objs.size hD
 refine wpAny_newObj_type (wpAny_newFunctionEnv hcell (by intro y hy;simp at hy) (fun h₁ hns₁ hsb₁=>?_) hkind)
 dsimp only at hns₁ hsb₁ ⊢
 have I3:Inv X pins σ (upd H2 s2.heap.objs.size (.lst [])) { s2 with heap:=s2.heap.push { cls:=.type "list",data:=.seq ([]:List Value).toArray },toks:=s2.toks }:=I2.lnew .nil (Nat.zero_le _)
 generalize hs3:({ s2 with heap:=s2.heap.push { cls:=.type "list",data:=.seq ([]:List Value).toArray },toks:=s2.toks }:Shared)=s3 at I3
 have e3:s3.heap=s2.heap.push { cls:=.type "list",data:=.seq ([]:List Value).toArray }:=by rw[←hs3]
 generalize hDD:s2.heap.objs.size=D at *
 generalize hH3:upd H2 D (.lst [])=H3 at *
 have lt2:∀ b∈fp,b < s2.heap.objs.size:=fun b hb=>by
  obtain⟨o,ho,_⟩:=T.obj 0 _ st2 b hb
  exact Heap.lt_size ho
 have neD:∀ b∈fp,b≠D:=fun b hb=>by rw[←hDD];exact Nat.ne_of_lt (lt2 b hb)
 have f3:∀ b∈fp,zbh X pins H3 b:=fun b hb=>⟨by rw[←hH3,ai (neD b hb)];exact(f2 b hb).1,(f2 b hb).2⟩
 have sz3:s3.heap.objs.size=D+1:=by rw[e3,Heap.size_push,hDD]
 have lt3:∀ b∈fp,b < s3.heap.objs.size:=fun b hb=>by have q:=lt2 b hb;rw[sz3];rw[hDD]at q;exact Nat.lt_succ_of_lt q
 have old:∀ b o,s3.heap.get? b=some o→h₁.get? b=some o:=fun b o eb=>by
  have hb:b < D+1:=by rw[←sz3];exact Heap.lt_size eb
  refine hsb₁.extBut b o ?_ (Heap.get?_push_of_some _ (by rw[←e3];exact eb))
  rw[Heap.size_push,hDD]
  exact Nat.ne_of_lt hb
 have szC:(s2.heap.push { cls:=.type "list",data:=.seq ([]:List Value).toArray }).objs.size=s3.heap.objs.size:=by rw[e3]
 have os3:s3.os=s2.os:=by rw[←hs3]
 rw[szC]at hns₁ hsb₁
 have I4:Inv (zaj X N' scope cl fp s3 H3) [] (none :: fvs σ ix) H3 { s3 with heap:=h₁,toks:=s2.toks+([]:List (Str × Value)).length }:=zcB I3 C hkind f3 lt3 hlen hix hns₁ old
 have st4:tn 0 h₁:=T.keep 0 _ _ st2 fun b hb o eb=>old b o (by rw[e3];exact Heap.get?_push_of_some _ eb)
 have stat:∀ {H':Hp},(∀ b∈fp,H' b=none)→∀ b∈fp,zbh (zaj X N' scope cl fp s3 H3) [] H' b:=fun hn b hb =>
  ⟨hn b hb,Nat.ne_of_lt (lt3 b hb),fun hs'=>(zbJ (N':=N') I3 C hkind f3 lt3).exfs b hb hs',.inl hb,fun y c hy=>((zbJ (N':=N') I3 C hkind f3 lt3).exf b hb).2 y c hy,fun p hp=>absurd (show p∈([]:List (Addr × Obj)) from hp) (by simp)⟩
 have loop:∀ s4:Shared,s4={ s3 with heap:=h₁,toks:=s2.toks+([]:List (Str × Value)).length } →
   codeAny (model X.prog X.w) X.A (.compLoop (.ListComp elt [⟨.Name x px,iter,[],0⟩] scope pos) 0 (.ref it) (.ref D) (compEnvC scope cl s3.heap.objs.size X.env))
    (compPost (model X.prog X.w) X.A X.xe use Qf (.ref D) s3.heap.objs.size) s4:=by
  rintro s4 rfl
  refine zcj (fun n s'=>∃ i σ0 H' ys,Inv (zaj X N' scope cl fp s3 H3) [] (σ0 :: fvs σ ix) H' s'∧tn i s'.heap∧(∀ b∈fp,H' b=none)∧W i n ys H') ?_ m0 ⟨0,none,H3,[],I4,st4,fun b hb=>(f3 b hb).1,w0⟩
  rintro n s5 ⟨i,σ0,H5,ys,I5,st5,fr5,w5⟩
  obtain⟨hD5,alt⟩:=turn i n ys H5 w5
  rcases alt with ⟨stop,q⟩ | ⟨go,step⟩
  ·refine thn (T.done (zaj X N' scope cl fp s3 H3) rfl rfl rfl hc i [] s5 _ H5 _ I5 (stat fr5) st5 stop) fun r s6 ⟨hr,I6⟩=>?_
   subst hr
   exact fin cl fp s3 s6 H3 H5 _ D I3 I6 f3 q
  ·refine thn (T.item (zaj X N' scope cl fp s3 H3) rfl rfl rfl hc i [] s5 _ H5 _ I5 (stat fr5) st5 go) fun r s6 ⟨u,hr,h6⟩=>?_
   subst hr
   refine thn h6 fun _ s7 ⟨y7,H7,I7,r7,yl7,st7,fr7⟩=>?_
   have I7':=I7.pinned (stat fr7) (T.obj _ _ st7)
   have G:PG (zaj X N' scope cl fp s3 H3) (.Name x px) (zbl 0):=zbv hN hN0 (.inl (lookup_relabel_local hx)) (.inr (lookup_relabel_local hx))
   refine wpAny_mono (G _ s7 _ H7 y7 u (fun σ' H'=>σ'=some y7 :: fvs σ ix∧H'=H7) I7' r7 ⟨rfl,rfl⟩) (fun _ s8 h8=>?_) fun _ _ f=>False.elim f
   obtain⟨σ8,H8,I8,rfl,rfl⟩:=h8
   refine wpAny_mono (he cl fp s3 H3 _ s8 _ H8 _ I8 (step y7 H8 yl7)) (fun yv s9 h9=>?_) fun _ _ f=>False.elim f
   obtain⟨y9,H9,I9,r9,hD9,hl9,m',hm',w9⟩:=h9
   refine wpAny_mono (zbs (X:=zaj X N' scope cl fp s3 H3) _ s9 _ H9 (.ref D) [y9] (.ref D) [yv] (fun _ H'=>H'=upd H9 D (.lst (ys++[y9]))) I9 rfl (.cons r9 .nil) ⟨D,ys,y9,rfl,rfl,hD9,hl9,rfl⟩) (fun _ s10 h10=>?_) fun _ _ f=>False.elim f
   obtain⟨_,H10,I10,_,rfl⟩:=h10
   refine⟨m',hm',i+1,some y7,_,ys++[y9],I10.unpinned,T.keep _ _ _ st7 fun b hb o eb=>(I10.pin (b,o) (List.mem_append_right _ (List.mem_append_right _ (za4 hb eb)))).1,fun b hb=>?_,w9⟩
   obtain⟨o,eb,d⟩:=T.obj _ _ st7 b hb
   exact(I10.pin (b,o) (List.mem_append_right _ (List.mem_append_right _ (za4 hb eb)))).2.1
 subst hs3
 have fin':=codeAny_compStart_list (loop _ rfl) (T.self X.A 0 _ _ _ st4 (loop _ rfl))
 exact fin'
theorem zgq (hc:X.calm=true) (hkind:scope.kind=.function) (hcell:∀ y∈scope.names,y.2≠.cell) (hnames:∀ y∈scope.names,y.2=.local→scope.names.lookup y.1=some .local) (hx:scope.names.lookup x=some .local)
  (hclo:X.Ok→∃ cl,Clo X scope cl) (hN:N'.Nodup) (hN0:N'[0]?=some x) (hlen:N'.length=ix.length+1)
  (hix:∀(j i:Nat),ix[j]?=some i→∃ y,X.N[i]?=some y∧N'[j+1]?=some y∧(X.env.kindOf y=some .cell∨X.env.kindOf y=some .free)∧((relabel scope X.env).names.lookup y=some .cell∨(relabel scope X.env).names.lookup y=some .free))
  (hi:PI X (.Name x px) iter wi) (he:∀ cl fp s₃ H₃,PE (zaj X N' scope cl fp s₃ H₃) elt te) (hs:∀ v,foldedSetIterable iter X.env v=pure v:=by intro _;rfl) :
  PE X (.ListComp elt [⟨.Name x px,iter,[],0⟩] scope pos) (tLC wi ix te):=by
 intro pins s σ H Q I h
 rw[eval_ListComp]
 refine zhZ hc hkind hcell hnames hx hclo hN hN0 hlen hix hi he hs I h fun cl fp s3 s6 H3 H5 σ6 D I3 I6 f3 q=>?_
 obtain⟨m,hn,_⟩:=I6.loc
 exact⟨m,hn,fun h' hsb=>⟨.ref D,H5,zcg I3 I6 f3 hsb,rfl,q⟩⟩
end
end L2
namespace L2
open PySem PySem.Spec PyProof.Rows
section
variable {X:Cx} {e l:Expr} {es:List Expr} {te tl:TE} {pos:Pos} {tg:Expr}
def tFmt (te:TE):TE:=fun σ H Q=>te σ H fun x H1=>(∃ z,x=.str z∧z.length≤sizeLine∧Q (.str z) H1)∨∃ i:Int,x=.int i∧i.natAbs.log2 < 1920∧Q (.str (toString i)) H1
theorem zct (he:PE X e te):PE X (.FormattedValue e (-1) none pos) (tFmt te):=by
 intro pins s σ H Q I h
 refine FormattedValue_plain (thn (he pins s σ H _ I h) fun v s1 ⟨x,H1,I1,r1,q1⟩=>?_)
 rcases q1 with ⟨z,rfl,hz,q⟩ | ⟨i,rfl,hi,q⟩
 ·obtain⟨t,rfl⟩:=r1
  exact formatField_str (fun t' tk=>⟨.str z,H1,I1.tok _,⟨_,rfl⟩,q⟩) hz
 ·obtain⟨t,rfl⟩:=r1
  exact formatField_int_small hi ⟨.str _,H1,I1.tok _,⟨_,rfl⟩,q⟩
def tRepr (te:TE):TE:=fun σ H Q=>te σ H fun x H1=>∃ z,x=.str z∧(reprText z).length≤sizeLine∧Q (.str (reprText z)) H1
theorem zgN (he:PE X e te):PE X (.FormattedValue e 114 none pos) (tRepr te):=by
 intro pins s σ H Q I h
 refine wpAny_FormattedValue_repr (thn (he pins s σ H _ I h) fun v s1 ⟨x,H1,I1,r1,q1⟩=>?_)
 obtain⟨z,rfl,hz,q⟩:=q1
 obtain⟨t,rfl⟩:=r1
 refine wpAny_pyReprObj_str ?_ hz
 exact formatField_str (fun t' tk=>⟨.str (reprText z),H1,I1.tok _,⟨_,rfl⟩,q⟩) hz
abbrev TJ:=St→Hp→Str→(Str→Hp→Prop)→Prop
def PJ (X:Cx) (es:List Expr) (t:TJ):Prop :=
 ∀(pins:List (Addr × Obj)) (s:Shared) (σ:St) (H:Hp) (acc:Str) (Q:Str→Hp→Prop) (R:Str→Shared→Prop),Inv X pins σ H s→t σ H acc Q→(∀ out s1 H1,Inv X pins σ H1 s1→Q out H1→R out s1)→Joins (model X.prog X.w) X.A X.xe (evalEach es X.env) acc R s
def jNil:TJ:=fun _ H acc Q=>Q acc H
def zir (te:TE) (t:TJ):TJ:=fun σ H acc Q=>te σ H fun x H1=>∃ y,x=.str y∧(acc++y).length≤sizeLine∧t σ H1 (acc++y) Q
theorem zbz:PJ X [] jNil:=fun _ _ _ _ _ _ _ I h k=>k _ _ _ I h
theorem zaq {t:TJ} (he:PE X e te) (hr:PJ X es t):PJ X (e :: es) (zir te t):=by
 intro pins s σ H acc Q R I h k
 refine thn (he pins s σ H _ I h) fun v s1 ⟨x,H1,I1,r1,q1⟩=>?_
 obtain⟨y,rfl,hz,q⟩:=q1
 obtain⟨t,rfl⟩:=r1
 exact⟨y,_,rfl,hz,hr pins s1 σ H1 _ Q R I1 q k⟩
def zhI (t:TJ):TE:=fun σ H Q=>t σ H Str.empty fun out H1=>out.length≤sizeLine∧Q (.str out) H1
theorem za9 {v1 v2:Expr} {t:TJ} (h:PJ X (v1 :: v2 :: es) t):PE X (.JoinedStr (v1 :: v2 :: es) pos) (zhI t):=by
 intro pins s σ H Q I hw
 exact wpAny_JoinedStr (h pins s σ H _ _ _ I hw fun out s1 H1 I1 q=>⟨q.1,.str out,H1,I1.tok _,⟨_,rfl⟩,q.2⟩)
def iSeq (K:W.Frag) (tl:TE):TI:=fun σ H R=>tl σ H fun x H1=>∃ a,x=.ref a∧(((∃ xs,SqL K H1 a xs)∧R (Itl K a) H1)∨((∃ xs,SqT K H1 a xs)∧R (Itt K a) H1))
theorem zgJ (hl:PE X l tl):PI X tg l (iSeq X.K tl):=by
 intro pins s σ H R I h
 refine thn (hl pins s σ H _ I h) fun v s1 ⟨x,H1,I1,r1,q1⟩=>?_
 obtain⟨a,rfl,q⟩:=q1
 cases r1
 have fp:∀ b∈[s1.heap.objs.size],zbh X pins H1 b:=fun b hb=>by
  have e:b=s1.heap.objs.size:=by simpa using hb
  subst e
  exact I1.fpOk (Nat.le_refl _) (I1.hok.fresh (Nat.le_refl _))
 rcases q with ⟨⟨xs,hq⟩,q⟩ | ⟨⟨xs,hq⟩,q⟩
 ·obtain⟨its,rv,p,hz⟩:=I1.list hq
  refine wpAny_pyIter_list p.isList ?_
  exact⟨s1.heap.objs.size,[s1.heap.objs.size],_,_,H1,rfl,I1.kept (t':=s1.toks) fun b o e=>Heap.get?_push_of_some _ e,zf0 a _,⟨_,Heap.get?_push_size _ rfl,rfl,rfl⟩,fp,q⟩
 ·obtain⟨its,rv,p,hz⟩:=I1.tuple hq
  refine wpAny_pyIter_tuple (show s1.heap.IsTuple a its.toArray from p) ?_
  exact⟨s1.heap.objs.size,[s1.heap.objs.size],_,_,H1,rfl,I1.kept (t':=s1.toks) fun b o e=>Heap.get?_push_of_some _ e,zft a _,⟨_,Heap.get?_push_size _ rfl,rfl,rfl⟩,fp,q⟩
end
theorem ze6 {env:Env}:∀(l:List (Str × NameKind)) (acc:List (Str × Addr)),(∀ y∈l,y.2=.free→∃ c,env.cells.lookup y.1=some c) →
  ∃ cl,(forIn l acc (fun(y:Str × NameKind) cs=>if(y.2 == NameKind.free)=true then do let c ←cellOf env y.1;pure (ForInStep.yield ((y.1,c) :: cs)) else pure (ForInStep.yield cs)):Sem (List (Str × Addr)))=pure cl ∧
   (∀ y c,cl.lookup y=some c→acc.lookup y=some c∨env.cells.lookup y=some c)∧∀ y,((y,NameKind.free)∈l∨∃ c,acc.lookup y=some c)→∃ c,cl.lookup y=some c
 | [],acc,_=>⟨acc,rfl,fun _ _ h=>.inl h,fun y h=>h.elim (fun z=>by cases z) fun z=>z⟩
 | (n,k) :: r,acc,hf=>by
  by_cases hk:k=.free
  ·subst hk
   obtain⟨c,hc⟩:=hf (n,.free) List.mem_cons_self rfl
   obtain⟨cl,e1,e2,e3⟩:=ze6 r ((n,c) :: acc) fun y hy=>hf y (List.mem_cons_of_mem _ hy)
   refine⟨cl,?_,fun y d h=>?_,fun y h=>?_⟩
   ·rw[List.forIn_cons]
    have ec:cellOf env n=pure c:=by unfold cellOf;rw[show env.cells.lookup n=some c from hc]
    have eb:(NameKind.free == NameKind.free)=true:=rfl
    simp only[eb,if_true,ec,pure_bind]
    exact e1
   ·rcases e2 y d h with z | z
    ·by_cases hy:y=n
     ·subst hy
      rw[List.lookup_cons,beq_self_eq_true]at z
      cases z
      exact .inr hc
     ·rw[List.lookup_cons,beq_eq_false_iff_ne.mpr hy]at z
      exact .inl z
    ·exact .inr z
   ·refine e3 y ?_
    by_cases hy:y=n
    ·subst hy
     exact .inr ⟨c,by rw[List.lookup_cons,beq_self_eq_true]⟩
    ·rcases h with z | ⟨d,z⟩
     ·rcases List.mem_cons.mp z with z | z
      ·exact absurd (congrArg Prod.fst z) hy
      ·exact .inl z
     ·exact .inr ⟨d,by rw[List.lookup_cons,beq_eq_false_iff_ne.mpr hy];exact z⟩
  ·obtain⟨cl,e1,e2,e3⟩:=ze6 r acc fun y hy=>hf y (List.mem_cons_of_mem _ hy)
   refine⟨cl,?_,e2,fun y h=>e3 y ?_⟩
   ·rw[List.forIn_cons]
    have hb:(k == NameKind.free)=false:=by simpa using hk
    simp only[hb,Bool.false_eq_true,if_false,pure_bind]
    exact e1
   ·rcases h with z | z
    ·rcases List.mem_cons.mp z with z | z
     ·exact absurd (congrArg Prod.snd z).symm hk
     ·exact .inl z
    ·exact .inr z
theorem zdX {X:Cx} {scope sc:Scope} (ok:X.Ok) (hsc:X.env.scope=sc) (hcell:∀ x∈scope.names,x.2≠.cell)
  (hf:∀ y∈scope.names,y.2=.free→sc.names.lookup y.1=some .cell∨sc.names.lookup y.1=some .free):∃ cl,Clo X scope cl:=by
 obtain⟨cl,e1,e2,e3⟩:=ze6 (env:=X.env) scope.names [] fun y hy h=>ok.has y.1 (by
  show X.env.scope.names.lookup y.1=_∨X.env.scope.names.lookup y.1=_
  rw[hsc]
  exact hf y hy h)
 refine⟨cl,?_,fun y c h=>(e2 y c h).elim (fun z=>by cases z) fun z=>z,fun y h=>e3 y (.inl ?_)⟩
 ·unfold closureFor
  have e0:(forIn scope.names ([]:List (Str × Addr)) (fun(x:Str × NameKind) cs=>match x with
    | (name,kind)=>if(kind == NameKind.free)=true then do let c ←cellOf X.env name;pure (ForInStep.yield ((name,c) :: cs)) else pure (ForInStep.yield cs)):Sem (List (Str × Addr)))=pure cl:=e1
  show(forIn scope.names ([]:List (Str × Addr)) _ >>= fun z=>pure z)=pure cl
  rw[bind_pure]
  exact e0
 ·have m:∃ k,(k=.cell∨k=.free)∧(y,k)∈(relabel scope X.env).names:=by
   rcases h with h | h
   ·exact⟨_,.inl rfl,PySem.mem_of_lookup h⟩
   ·exact⟨_,.inr rfl,PySem.mem_of_lookup h⟩
  obtain⟨k,hk,hm⟩:=m
  unfold relabel at hm
  obtain⟨⟨n0,k0⟩,h0,ez⟩:=List.mem_map.mp hm
  by_cases hc:(k0 == NameKind.free&&X.env.scope.kind == .function&&X.env.kindOf n0 == some .cell)=true
  ·dsimp only at ez
   rw[if_pos hc]at ez
   have en:n0=y:=congrArg Prod.fst ez
   have ef:k0=.free:=by
    rw[Bool.and_eq_true,Bool.and_eq_true]at hc
    simpa using hc.1.1
   rw[en,ef]at h0
   exact h0
  ·dsimp only at ez
   rw[if_neg hc]at ez
   have en:n0=y:=congrArg Prod.fst ez
   have ek:k0=k:=congrArg Prod.snd ez
   rw[en,ek]at h0
   rcases hk with z | z
   ·exact absurd z (hcell _ h0)
   ·rw[z]at h0
    exact h0
section
variable {X:Cx} {N':List Str} {scope:Scope} {elt iter c:Expr} {x:Str} {px pos:Pos} {wi:TI} {tc:TT} {te:TE} {ix:List Nat}
end
end L2
namespace L2
open PySem PySem.Spec PyProof.Rows
theorem Inv.skip {X:Cx} {pins:List (Addr × Obj)} {σ:St} {H:Hp} {s:Shared} {h':Heap} {C:Addr} (I:Inv X pins σ H s) (hs:Heap.SameBut C s.heap h') (hC:X.s₀.heap.objs.size≤C) (hl:C≠X.env.locals) (hcl:∀ x c,X.env.cells.lookup x=some c→c≠C) (hp:∀ p∈X.pn++pins,p.1≠C) (hf:H C=none) :
  Inv X pins σ H { s with heap:=h' }:=by
 have eq:∀ b,b≠C→h'.get? b=s.heap.get? b:=fun b hb=>hs.2 b hb
 have nm:∀ {b:Addr},b∉[C]→b≠C:=fun h z=>h (by rw[z];exact List.mem_cons_self)
 have u:Un (frs X.stack) [C] H H s.heap h':=⟨fun b o e _ _ h2=>(eq b (nm h2)).trans e,fun b o e _ _ h2=>⟨o.slots,(eq b (nm h2)).trans e⟩,fun b o e n _=>n,fun b o e h1=>⟨o,(eq b (nm h1)).trans e⟩,fun _ _ q=>q,fun _ _ _ q=>q,fun _ ps q=>⟨#[],by rw[q];simp⟩⟩
 have hok:HOk X.prog X.w H h':=fun b ob e=>by
  refine(I.hok b ob e).stay (fun c w' hq q=>(eq c ?_).trans q) (fun _ q=>q) fun _ _ q=>q
  rintro rfl
  rcases hq with z | z
  ·rw[←z,hf]at e;cases e
  ·rw[hf]at z;cases z
 refine I.call' (s':={ s with heap:=h' }) (ch:=[C]) rfl u hok I.bare fun b hb=>?_
 have e:b=C:=List.mem_singleton.mp hb
 subst e
 exact⟨.inr hC,hl,hcl,hp⟩
section
variable {X:Cx} {N':List Str} {scope:Scope} {elt iter:Expr} {x:Str} {px pos:Pos} {wi:TI} {te:TE} {ix:List Nat}
theorem zjZ {i:Nat} {y0:Str} {py spos:Pos} (hNy:X.N.Nodup) (hiy:X.N[i]?=some y0) (hy:Loc X.env.scope y0) (hc:X.calm=true) (hkind:scope.kind=.function) (hcell:∀ y∈scope.names,y.2≠.cell) (hnames:∀ y∈scope.names,y.2=.local→scope.names.lookup y.1=some .local) (hx:scope.names.lookup x=some .local)
  (hclo:X.Ok→∃ cl,Clo X scope cl) (hN:N'.Nodup) (hN0:N'[0]?=some x) (hlen:N'.length=ix.length+1)
  (hix:∀(j i:Nat),ix[j]?=some i→∃ y,X.N[i]?=some y∧N'[j+1]?=some y∧(X.env.kindOf y=some .cell∨X.env.kindOf y=some .free)∧((relabel scope X.env).names.lookup y=some .cell∨(relabel scope X.env).names.lookup y=some .free))
  (hi:PI X (.Name x px) iter wi) (he:∀ cl fp s₃ H₃,PE (zaj X N' scope cl fp s₃ H₃) elt te) (hsw:swapsWith (.ListComp elt [⟨.Name x px,iter,[],0⟩] scope pos) (some (.Name y0 py)) spos.line X.env=pure true:=by rfl)
  (hf:X.fn y0=true∨X.env.scope.names.lookup y0=some .local:=by first | exact .inl rfl | exact .inr rfl | assumption) (hs:∀ v,foldedSetIterable iter X.env v=pure v:=by intro _;rfl) :
  PS X (.Assign [.Name y0 py] (.ListComp elt [⟨.Name x px,iter,[],0⟩] scope pos) spos) (zcq (tLC wi ix te) (zbl i)):=by
 intro pins s σ H Dn I h
 rw[exec_Assign_Name_used _ _ _ _ hsw]
 refine wpAny_bind (wpAny_standAt (wpAny_bind ?_))
 rw[arm_evalThenUse_ListComp]
 refine wpAny_bind (wpAny_mono (zhZ (use:=some (assign (.Name y0 py) X.env)) (Qf:=fun _ s'=>∃ σ' H',Inv X pins σ' H' s'∧Dn.nx σ' H') (Q:=fun x H1=>zbl i x σ H1 Dn.nx) hc hkind hcell hnames hx hclo hN hN0 hlen hix hi he hs I h fun cl fp s3 s6 H3 H5 σ6 D I3 I6 f3 q=>?_) (fun _ s' h'=>wpAny_pure (wpAny_pure h')) fun _ _ z=>z)
 obtain⟨m,hn,_⟩:=I6.loc
 have Io:Inv X pins σ H5 s6:=zcg (h':=s6.heap) I3 I6 f3 ⟨rfl,fun _ _=>rfl⟩
 refine wpAny_assign_Name (zc0 (v:=.ref D) Io hNy hiy hy rfl (fun s7 I7 ⟨a,sb,ha⟩=>?_) hf)
 have ltC:∀ x c,X.env.cells.lookup x=some c→c < s3.heap.objs.size:=fun x c e=>by
  obtain⟨v,hv⟩:=I3.cell x c e
  exact hv.lt
 have hCa:s3.heap.objs.size≠a:=by
  rintro rfl
  rcases ha with z | z
  ·exact absurd I3.lt (by rw[←z];exact Nat.lt_irrefl _)
  ·exact absurd (ltC _ _ z) (Nat.lt_irrefl _)
 refine⟨m,hn.sameBut sb hCa,fun h' hsb=>⟨_,H5,?_,q⟩⟩
 exact I7.skip hsb I3.sz (Nat.ne_of_gt I3.lt) (fun x c e=>Nat.ne_of_lt (ltC x c e)) (fun p hp=>Nat.ne_of_lt (Heap.lt_size (I3.pin p hp).1)) I6.free
end
section
variable {X:Cx} {N':List Str} {scope:Scope} {elt iter c:Expr} {x:Str} {px pos:Pos} {wi:TI} {tc:TT} {te:TE} {ix:List Nat}
end
end L2
namespace L2
open PySem PySem.Spec PyProof.Rows
inductive Dt where
 | non | bl (b:Bool) | int (i:Int) | str (x:Str) | tup (xs:List Dt) | lst (xs:List Dt)
mutual
def peq:Dt→Dt→Bool
 | .non,.non=>true
 | .bl a,.bl b=>a == b
 | .bl a,.int b=>(if a then 1 else 0) == b
 | .int a,.bl b=>a == (if b then 1 else 0)
 | .int a,.int b=>a == b
 | .str a,.str b=>a == b
 | .tup xs,.tup ys=>zbo xs ys
 | .lst xs,.lst ys=>zbo xs ys
 | _,_=>false
def zbo:List Dt→List Dt→Bool
 | [],[]=>true
 | x :: xs,y :: ys=>peq x y&&zbo xs ys
 | _,_=>false
end
mutual
def dep:Dt→Nat
 | .tup xs=>zaP xs+1
 | .lst xs=>zaP xs+1
 | _=>0
def zaP:List Dt→Nat
 | []=>0
 | x :: xs=>max (dep x) (zaP xs)
end
mutual
def nob:Dt→Bool
 | .bl _=>false
 | .tup xs=>zcH xs
 | .lst xs=>zcH xs
 | _=>true
def zcH:List Dt→Bool
 | []=>true
 | x :: xs=>nob x&&zcH xs
end
mutual
theorem zbT:∀ d:Dt,peq d d=true
 | .non=>rfl
 | .bl _=>by simp [peq]
 | .int _=>by simp [peq]
 | .str _=>by simp [peq]
 | .tup xs=>by simp only[peq];exact zd4 xs
 | .lst xs=>by simp only[peq];exact zd4 xs
theorem zd4:∀ d:List Dt,zbo d d=true
 | []=>by simp [zbo]
 | x :: xs=>by simp only[zbo,zbT x,zd4 xs,Bool.and_self]
end
mutual
theorem zgK:∀ d e:Dt,nob d=true→nob e=true→peq d e=true→d=e
 | .non,e,_,_,h=>by cases e <;> first | rfl | (simp [peq]at h)
 | .bl _,e,h,_,_=>by simp [nob]at h
 | .int _,e,_,h2,h=>by cases e <;> first | (simp [nob]at h2;done) | (simp [peq]at h;done) | (simp [peq]at h;rw[h])
 | .str _,e,_,h2,h=>by cases e <;> first | (simp [peq]at h;done) | (simp [peq]at h;rw[h])
 | .tup xs,e,h1,h2,h=>by
  cases e with
  | tup ys=>simp only[peq]at h;simp only[nob]at h1 h2;rw[zfL xs ys h1 h2 h]
  | _=>simp [peq]at h
 | .lst xs,e,h1,h2,h=>by
  cases e with
  | lst ys=>simp only[peq]at h;simp only[nob]at h1 h2;rw[zfL xs ys h1 h2 h]
  | _=>simp [peq]at h
theorem zfL:∀ d e:List Dt,zcH d=true→zcH e=true→zbo d e=true→d=e
 | [],e,_,_,h=>by cases e <;> first | rfl | (simp [zbo]at h)
 | x :: xs,e,h1,h2,h=>by
  cases e with
  | nil=>simp [zbo]at h
  | cons y ys =>
   simp only[zbo,Bool.and_eq_true]at h
   simp only[zcH,Bool.and_eq_true]at h1 h2
   rw[zgK x y h1.1 h2.1 h.1,zfL xs ys h1.2 h2.2 h.2]
end
mutual
def Has (K:W.Frag) (H:Hp):Dt→V→Prop
 | .non,v=>v=.non
 | .bl b,v=>v=.bl b
 | .int i,v=>v=.int i
 | .str x,v=>v=.str x
 | .tup ds,v=>∃ a xs,v=.ref a∧SqT K H a xs∧aq K H ds xs
 | .lst ds,v=>∃ a xs,v=.ref a∧SqL K H a xs∧aq K H ds xs
def aq (K:W.Frag) (H:Hp):List Dt→List V→Prop
 | [],vs=>vs=[]
 | d :: ds,vs=>∃ v r,vs=v :: r∧Has K H d v∧aq K H ds r
end
theorem aq.length {K:W.Frag} {H:Hp}:∀ {ds:List Dt} {vs:List V},aq K H ds vs→ds.length=vs.length
 | [],vs,h=>by simp only[aq]at h;rw[h];rfl
 | d :: ds,vs,h=>by
  simp only[aq]at h
  obtain⟨v,r,rfl,_,h2⟩:=h
  rw[List.length_cons,List.length_cons,aq.length h2]
theorem aq.get {K:W.Frag} {H:Hp}:∀ {ds:List Dt} {vs:List V} {i:Nat} {v:V},aq K H ds vs→vs[i]?=some v→∃ d,ds[i]?=some d∧Has K H d v
 | [],vs,i,v,h,e=>by simp only[aq]at h;rw[h]at e;simp at e
 | d :: ds,vs,i,v,h,e=>by
  simp only[aq]at h
  obtain⟨v0,r,rfl,h1,h2⟩:=h
  cases i with
  | zero=>simp at e;subst e;exact⟨d,rfl,h1⟩
  | succ i =>
   obtain⟨d',e1,e2⟩:=aq.get (i:=i) h2 (by simpa using e)
   exact⟨d',by simpa using e1,e2⟩
theorem aq.getD {K:W.Frag} {H:Hp}:∀ {ds:List Dt} {vs:List V} {i:Nat} {d:Dt},aq K H ds vs→ds[i]?=some d→∃ v,vs[i]?=some v∧Has K H d v
 | [],vs,i,d,h,e=>by simp at e
 | d0 :: ds,vs,i,d,h,e=>by
  simp only[aq]at h
  obtain⟨v0,r,rfl,h1,h2⟩:=h
  cases i with
  | zero=>simp at e;subst e;exact⟨v0,rfl,h1⟩
  | succ i =>
   obtain⟨v,e1,e2⟩:=aq.getD (i:=i) h2 (by simpa using e)
   exact⟨v,by simpa using e1,e2⟩
theorem aq.append {K:W.Frag} {H:Hp}:∀ {ds es:List Dt} {vs ws:List V},aq K H ds vs→aq K H es ws→aq K H (ds++es) (vs++ws)
 | [],es,vs,ws,h,h'=>by simp only[aq]at h;rw[h];exact h'
 | d :: ds,es,vs,ws,h,h'=>by
  simp only[aq]at h
  obtain⟨v,r,rfl,h1,h2⟩:=h
  show aq K H (d :: (ds++es)) (v :: (r++ws))
  simp only[aq]
  exact⟨v,r++ws,rfl,h1,aq.append h2 h'⟩
theorem aq.one {K:W.Frag} {H:Hp} {d:Dt} {v:V} (h:Has K H d v):aq K H [d] [v]:=by
 simp only[aq]
 exact⟨v,[],rfl,h,rfl⟩
theorem aq.ints {K:W.Frag} {H:Hp}:∀ ns:List Int,aq K H (ns.map Dt.int) (ns.map V.int)
 | []=>by simp [aq]
 | n :: ns=>by
  simp only[List.map_cons,aq]
  exact⟨_,_,rfl,by simp only[Has],aq.ints ns⟩
mutual
def nol:Dt→Bool
 | .lst _=>false
 | .tup xs=>zbf xs
 | _=>true
def zbf:List Dt→Bool
 | []=>true
 | x :: xs=>nol x&&zbf xs
end
def KeepT (H H':Hp):Prop:=∀ b xs,Rd H b (.tup xs)→Rd H' b (.tup xs)
theorem KeepT.sq {K:W.Frag} {H H':Hp} {a:Addr} {xs:List V} (k:KeepT H H') (h:SqT K H a xs):SqT K H' a xs:=h.elim (fun z=>.inl (k a xs z)) .inr
theorem KeepT.trans {H H1 H2:Hp} (a:KeepT H H1) (b:KeepT H1 H2):KeepT H H2:=fun c xs h=>b c xs (a c xs h)
theorem KeepT.of_same {H H':Hp} (e:ao H H'):KeepT H H':=fun b xs h=>by
 rcases h with h | ⟨o,h⟩
 ·exact .inl (e _ _ h)
 ·exact .inr ⟨o,e _ _ h⟩
theorem KeepT.lst {H:Hp} {l:Addr} {xs ys:List V} (h:H l=some (.lst xs)):KeepT H (upd H l (.lst ys)):=fun b zs q=>by
 rcases q with q | ⟨o,q⟩
 ·exact .inl (by rw[ai (zcX q h (fun z=>by cases z))];exact q)
 ·exact .inr ⟨o,by rw[ai (zcX q h (fun z=>by cases z))];exact q⟩
mutual
theorem Has.keep {K:W.Frag} {H H':Hp} (k:KeepT H H'):∀ {d:Dt} {v:V},nol d=true→Has K H d v→Has K H' d v
 | .non,v,_,h=>by simp only[Has]at h ⊢;exact h
 | .bl _,v,_,h=>by simp only[Has]at h ⊢;exact h
 | .int _,v,_,h=>by simp only[Has]at h ⊢;exact h
 | .str _,v,_,h=>by simp only[Has]at h ⊢;exact h
 | .tup ds,v,n,h=>by
  simp only[Has]at h ⊢
  simp only[nol]at n
  obtain⟨a,xs,e,h1,h2⟩:=h
  exact⟨a,xs,e,k.sq h1,aq.keep k n h2⟩
 | .lst _,v,n,h=>by simp [nol]at n
theorem aq.keep {K:W.Frag} {H H':Hp} (k:KeepT H H'):∀ {ds:List Dt} {vs:List V},zbf ds=true→aq K H ds vs→aq K H' ds vs
 | [],vs,_,h=>by simp only[aq]at h ⊢;exact h
 | d :: ds,vs,n,h=>by
  simp only[aq]at h ⊢
  simp only[zbf,Bool.and_eq_true]at n
  obtain⟨v,r,e,h1,h2⟩:=h
  exact⟨v,r,e,Has.keep k n.1 h1,aq.keep k n.2 h2⟩
end
section
variable {X:Cx} {pins:List (Addr × Obj)} {σ:St} {H:Hp} {s:Shared}
theorem zg0 (I:Inv X pins σ H s) {a:Addr} {xs ys:List V} (h:SqL X.K H a xs) (h':SqT X.K H a ys):False:=by
 obtain⟨its,_,p,_⟩:=I.list h
 obtain⟨jts,_,q,_⟩:=I.tuple h'
 obtain⟨o,e,c,_⟩:=p.isList
 obtain⟨o',e',c',_⟩:=q
 rw[e]at e'
 cases e'
 rw[c]at c'
 exact absurd (Value.type.inj c') (by decide)
mutual
theorem Has.inj (I:Inv X pins σ H s):∀(d e:Dt) (v:V),Has X.K H d v→Has X.K H e v→d=e
 | .non,e,v,h,h'=>by
  simp only[Has]at h
  subst h
  cases e <;> simp only[Has]at h' <;> first | rfl | (cases h';done) | (obtain⟨_,_,z,_⟩:=h';cases z)
 | .bl b,e,v,h,h'=>by
  simp only[Has]at h
  subst h
  cases e <;> simp only[Has]at h' <;> first | (cases h';done) | (cases h';rfl) | (obtain⟨_,_,z,_⟩:=h';cases z)
 | .int b,e,v,h,h'=>by
  simp only[Has]at h
  subst h
  cases e <;> simp only[Has]at h' <;> first | (cases h';done) | (cases h';rfl) | (obtain⟨_,_,z,_⟩:=h';cases z)
 | .str b,e,v,h,h'=>by
  simp only[Has]at h
  subst h
  cases e <;> simp only[Has]at h' <;> first | (cases h';done) | (cases h';rfl) | (obtain⟨_,_,z,_⟩:=h';cases z)
 | .tup ds,e,v,h,h'=>by
  simp only[Has]at h
  obtain⟨a,xs,rfl,h1,h2⟩:=h
  cases e with
  | tup es =>
   simp only[Has]at h'
   obtain⟨a',ys,z,h3,h4⟩:=h'
   cases z
   rw[I.tuple_inj h3 h1]at h4
   rw[aq.inj I ds es xs h2 h4]
  | lst es =>
   simp only[Has]at h'
   obtain⟨a',ys,z,h3,h4⟩:=h'
   cases z
   exact(zg0 I h3 h1).elim
  | _=>simp only[Has]at h';cases h'
 | .lst ds,e,v,h,h'=>by
  simp only[Has]at h
  obtain⟨a,xs,rfl,h1,h2⟩:=h
  cases e with
  | lst es =>
   simp only[Has]at h'
   obtain⟨a',ys,z,h3,h4⟩:=h'
   cases z
   rw[I.list_inj h3 h1]at h4
   rw[aq.inj I ds es xs h2 h4]
  | tup es =>
   simp only[Has]at h'
   obtain⟨a',ys,z,h3,h4⟩:=h'
   cases z
   exact(zg0 I h1 h3).elim
  | _=>simp only[Has]at h';cases h'
theorem aq.inj (I:Inv X pins σ H s):∀(ds es:List Dt) (vs:List V),aq X.K H ds vs→aq X.K H es vs→ds=es
 | [],es,vs,h,h'=>by
  simp only[aq]at h
  subst h
  cases es with
  | nil=>rfl
  | cons e es=>simp only[aq]at h';obtain⟨_,_,z,_⟩:=h';cases z
 | d :: ds,es,vs,h,h'=>by
  simp only[aq]at h
  obtain⟨v,r,rfl,h1,h2⟩:=h
  cases es with
  | nil=>simp only[aq]at h';cases h'
  | cons e es =>
   simp only[aq]at h'
   obtain⟨v',r',z,h3,h4⟩:=h'
   cases z
   rw[Has.inj I d e v h1 h3,aq.inj I ds es r h2 h4]
end
def zbF (ds es:List Dt) (j:Nat):Bool:=match ds[j]?,es[j]? with
 | some d,some e=>peq d e
 | _,_=>true
theorem ziN (d e:Dt) (ds es:List Dt):zbF (d :: ds) (e :: es) 0=peq d e:=rfl
theorem zev:∀(ds es:List Dt),((List.range (min ds.length es.length)).all (zbF ds es)&&ds.length == es.length)=zbo ds es
 | [],[]=>by simp [zbo]
 | [],e :: es=>by simp [zbo]
 | d :: ds,[]=>by simp [zbo]
 | d :: ds,e :: es=>by
  have ih:=zev ds es
  have e1:min (d :: ds).length (e :: es).length=min ds.length es.length+1:=by simp only[List.length_cons];omega
  rw[e1,List.range_succ_eq_map,List.all_cons,ziN,List.all_map]
  have e2:(zbF (d :: ds) (e :: es) ∘ Nat.succ)=zbF ds es:=by funext j;rfl
  rw[e2,List.length_cons,List.length_cons]
  simp only[zbo]
  rw[←ih,Bool.and_assoc]
  congr 2
  simp
theorem zkq {ds es:List Dt} (h:ds.length=es.length):(List.range ds.length).all (zbF ds es)=zbo ds es:=by
 rw[←zev,←h,Nat.min_self]
 simp
theorem zj0 {ds es:List Dt} (h:ds.length≠es.length):zbo ds es=false:=by
 rw[←zev]
 have:(ds.length == es.length)=false:=by simpa using h
 rw[this,Bool.and_false]
theorem zcW (I:Inv X pins σ H s) {a:Addr} {xs:List V} {ds:List Dt} (h:SqT X.K H a xs) (g:aq X.K H ds xs):∃ its:List Value,aw xs its∧s.heap.IsTuple a its.toArray∧its.toArray.size=ds.length:=by
 obtain⟨its,r,p,_⟩:=I.tuple h
 exact⟨its,r,p,by rw[List.size_toArray,←r.length,←g.length]⟩
theorem zcY (I:Inv X pins σ H s) {a:Addr} {xs:List V} {ds:List Dt} (h:SqL X.K H a xs) (g:aq X.K H ds xs):∃ its:List Value,aw xs its∧s.heap.IsList a its.toArray∧its.toArray.size=ds.length:=by
 obtain⟨its,r,p,_⟩:=I.list h
 exact⟨its,r,p.isList,by rw[List.size_toArray,←r.length,←g.length]⟩
def zic (s:Shared) (A:Around) (ds es:List Dt) (xs ys:List V):Prop :=
 ∀(us zs:List Value),aw xs us→aw ys zs→∀(j:Nat) (u z:Value),us[j]?=some u→zs[j]?=some z→SeqAt.EqAt A.in1 s u z (zbF ds es j)
theorem rcTT (I:Inv X pins σ H s) {A:Around} {a b:Addr} {xs ys:List V} {ds es:List Dt} (h1:SqT X.K H a xs) (g1:aq X.K H ds xs) (h2:SqT X.K H b ys) (g2:aq X.K H es ys) (hu:A.units < cLine)
  (he:zic s A ds es xs ys):SeqAt.RcAt A s (.ref a) (.ref b) (zbo ds es)∧SeqAt.RcNeAt A s (.ref a) (.ref b) (!zbo ds es):=by
 obtain⟨its,r1,p1,z1⟩:=zcW I h1 g1
 obtain⟨jts,r2,p2,z2⟩:=zcW I h2 g2
 have q:∀ j (k1:j < its.toArray.size) (k2:j < jts.toArray.size),SeqAt.EqAt A.in1 s its.toArray[j] jts.toArray[j] (zbF ds es j):=fun j k1 k2=>he its jts r1 r2 j _ _ (by simp at k1 ⊢) (by simp at k2 ⊢)
 have t1:=SeqAt.RcAt.tuples (e:=zbF ds es) p1 p2 hu q
 have t2:=SeqAt.RcNeAt.tuples (e:=zbF ds es) p1 p2 hu q
 rw[z1,z2,zev]at t1 t2
 exact⟨t1,t2⟩
theorem rcLL (I:Inv X pins σ H s) {A:Around} {a b:Addr} {xs ys:List V} {ds es:List Dt} (h1:SqL X.K H a xs) (g1:aq X.K H ds xs) (h2:SqL X.K H b ys) (g2:aq X.K H es ys) (hu:A.units < cLine)
  (he:zic s A ds es xs ys):SeqAt.RcAt A s (.ref a) (.ref b) (zbo ds es)∧SeqAt.RcNeAt A s (.ref a) (.ref b) (!zbo ds es):=by
 obtain⟨its,r1,p1,z1⟩:=zcY I h1 g1
 obtain⟨jts,r2,p2,z2⟩:=zcY I h2 g2
 by_cases hl:ds.length=es.length
 ·have q:∀ j (k1:j < its.toArray.size) (k2:j < jts.toArray.size),SeqAt.EqAt A.in1 s its.toArray[j] jts.toArray[j] (zbF ds es j):=fun j k1 k2=>he its jts r1 r2 j _ _ (by simp at k1 ⊢) (by simp at k2 ⊢)
  have t1:=SeqAt.RcAt.lists (e:=zbF ds es) p1 p2 (by rw[z1,z2,hl]) hu q
  have t2:=SeqAt.RcNeAt.lists (e:=zbF ds es) p1 p2 (by rw[z1,z2,hl]) hu q
  rw[z1,zkq hl]at t1 t2
  exact⟨t1,t2⟩
 ·have hne:(its.toArray.size != jts.toArray.size)=true:=by rw[z1,z2];simpa using hl
  rw[zj0 hl]
  exact⟨SeqAt.RcAt.lists_lengths p1 p2 hne hu,SeqAt.RcNeAt.lists_lengths p1 p2 hne hu⟩
theorem zcD {A:Around} {d:Dt} (h:A.units+dep d < cLine):A.units < cLine:=Nat.lt_of_le_of_lt (Nat.le_add_right _ _) h
mutual
theorem zjl (I:Inv X pins σ H s):∀(d e:Dt) (v w:V) (u z:Value) (A:Around),Has X.K H d v→Has X.K H e w→ax v u→ax w z→A.units+dep d < cLine→SeqAt.EqAt A s u z (peq d e)
 | .non,e,v,w,u,z,A,h,h',r,r',hu=>by
  have hu':=zcD hu
  simp only[Has]at h
  subst h
  cases e with
  | tup es =>
   simp only[Has]at h'
   obtain⟨b,ys,rfl,h3,h4⟩:=h'
   obtain⟨_,_,p,_⟩:=zcW I h3 h4
   cases (show z=Value.ref b from r')
   cases (show u=Value.none from r)
   exact SeqAt.EqAt.none_tuple p hu'
  | lst es =>
   simp only[Has]at h'
   obtain⟨b,ys,rfl,h3,h4⟩:=h'
   obtain⟨_,_,p,_⟩:=zcY I h3 h4
   cases (show z=Value.ref b from r')
   cases (show u=Value.none from r)
   exact SeqAt.EqAt.none_list p hu'
  | _=>simp only[Has]at h';subst h';exact zdV r r' rfl rfl
 | .bl k,e,v,w,u,z,A,h,h',r,r',hu=>by
  have hu':=zcD hu
  simp only[Has]at h
  subst h
  cases e with
  | tup es =>
   simp only[Has]at h'
   obtain⟨b,ys,rfl,h3,h4⟩:=h'
   obtain⟨_,_,p,_⟩:=zcW I h3 h4
   cases (show z=Value.ref b from r')
   cases (show u=Value.bool k from r)
   exact SeqAt.EqAt.bool_tuple k p hu'
  | lst es =>
   simp only[Has]at h'
   obtain⟨b,ys,rfl,h3,h4⟩:=h'
   obtain⟨_,_,p,_⟩:=zcY I h3 h4
   cases (show z=Value.ref b from r')
   cases (show u=Value.bool k from r)
   exact SeqAt.EqAt.bool_list k p hu'
  | _=>simp only[Has]at h';subst h';exact zdV r r' rfl rfl
 | .int k,e,v,w,u,z,A,h,h',r,r',hu=>by
  have hu':=zcD hu
  simp only[Has]at h
  subst h
  cases e with
  | tup es =>
   simp only[Has]at h'
   obtain⟨b,ys,rfl,h3,h4⟩:=h'
   obtain⟨_,_,p,_⟩:=zcW I h3 h4
   cases (show z=Value.ref b from r')
   obtain⟨t,rfl⟩:=r
   exact SeqAt.EqAt.int_tuple k t p hu'
  | lst es =>
   simp only[Has]at h'
   obtain⟨b,ys,rfl,h3,h4⟩:=h'
   obtain⟨_,_,p,_⟩:=zcY I h3 h4
   cases (show z=Value.ref b from r')
   obtain⟨t,rfl⟩:=r
   exact SeqAt.EqAt.int_list k t p hu'
  | _=>simp only[Has]at h';subst h';exact zdV r r' rfl rfl
 | .str k,e,v,w,u,z,A,h,h',r,r',hu=>by
  have hu':=zcD hu
  simp only[Has]at h
  subst h
  cases e with
  | tup es =>
   simp only[Has]at h'
   obtain⟨b,ys,rfl,h3,h4⟩:=h'
   obtain⟨_,_,p,_⟩:=zcW I h3 h4
   cases (show z=Value.ref b from r')
   obtain⟨t,rfl⟩:=r
   exact SeqAt.EqAt.str_tuple k t p hu'
  | lst es =>
   simp only[Has]at h'
   obtain⟨b,ys,rfl,h3,h4⟩:=h'
   obtain⟨_,_,p,_⟩:=zcY I h3 h4
   cases (show z=Value.ref b from r')
   obtain⟨t,rfl⟩:=r
   exact SeqAt.EqAt.str_list k t p hu'
  | _=>simp only[Has]at h';subst h';exact zdV r r' rfl rfl
 | .tup ds,e,v,w,u,z,A,h,h',r,r',hu=>by
  have hu':=zcD hu
  have hd:=h
  simp only[Has]at h
  obtain⟨a,xs,rfl,h1,h2⟩:=h
  cases (show u=Value.ref a from r)
  obtain⟨_,_,p,_⟩:=zcW I h1 h2
  have hi:A.in1.units+zaP ds < cLine:=by simp only[dep]at hu;rw[Around.in1_units];omega
  cases e with
  | tup es =>
   have he:=h'
   simp only[Has]at h'
   obtain⟨b,ys,rfl,h3,h4⟩:=h'
   cases (show z=Value.ref b from r')
   by_cases hab:a=b
   ·subst hab
    rw[Has.inj I _ _ _ hd he,zbT]
    exact SeqAt.EqAt.same _
   ·have q:=(rcTT I h1 h2 h3 h4 hu' fun us zs ru rz j u z e1 e2=>zgU I ds es xs ys us zs A.in1 h2 h4 ru rz hi j u z e1 e2).1
    simp only[peq]
    exact SeqAt.EqAt.of_refs hab q
  | lst es =>
   simp only[Has]at h'
   obtain⟨b,ys,rfl,h3,h4⟩:=h'
   cases (show z=Value.ref b from r')
   obtain⟨_,_,p',_⟩:=zcY I h3 h4
   exact SeqAt.EqAt.tuple_list p p' hu'
  | non=>simp only[Has]at h';subst h';cases (show z=Value.none from r');exact SeqAt.EqAt.tuple_none p hu'
  | bl k=>simp only[Has]at h';subst h';cases (show z=Value.bool k from r');exact SeqAt.EqAt.tuple_bool k p hu'
  | int k=>simp only[Has]at h';subst h';obtain⟨t,rfl⟩:=r';exact SeqAt.EqAt.tuple_int k t p hu'
  | str k=>simp only[Has]at h';subst h';obtain⟨t,rfl⟩:=r';exact SeqAt.EqAt.tuple_str k t p hu'
 | .lst ds,e,v,w,u,z,A,h,h',r,r',hu=>by
  have hu':=zcD hu
  have hd:=h
  simp only[Has]at h
  obtain⟨a,xs,rfl,h1,h2⟩:=h
  cases (show u=Value.ref a from r)
  obtain⟨_,_,p,_⟩:=zcY I h1 h2
  have hi:A.in1.units+zaP ds < cLine:=by simp only[dep]at hu;rw[Around.in1_units];omega
  cases e with
  | lst es =>
   have he:=h'
   simp only[Has]at h'
   obtain⟨b,ys,rfl,h3,h4⟩:=h'
   cases (show z=Value.ref b from r')
   by_cases hab:a=b
   ·subst hab
    rw[Has.inj I _ _ _ hd he,zbT]
    exact SeqAt.EqAt.same _
   ·have q:=(rcLL I h1 h2 h3 h4 hu' fun us zs ru rz j u z e1 e2=>zgU I ds es xs ys us zs A.in1 h2 h4 ru rz hi j u z e1 e2).1
    simp only[peq]
    exact SeqAt.EqAt.of_refs hab q
  | tup es =>
   simp only[Has]at h'
   obtain⟨b,ys,rfl,h3,h4⟩:=h'
   cases (show z=Value.ref b from r')
   obtain⟨_,_,p',_⟩:=zcW I h3 h4
   exact SeqAt.EqAt.list_tuple p p' hu'
  | non=>simp only[Has]at h';subst h';cases (show z=Value.none from r');exact SeqAt.EqAt.list_none p hu'
  | bl k=>simp only[Has]at h';subst h';cases (show z=Value.bool k from r');exact SeqAt.EqAt.list_bool k p hu'
  | int k=>simp only[Has]at h';subst h';obtain⟨t,rfl⟩:=r';exact SeqAt.EqAt.list_int k t p hu'
  | str k=>simp only[Has]at h';subst h';obtain⟨t,rfl⟩:=r';exact SeqAt.EqAt.list_str k t p hu'
theorem zgU (I:Inv X pins σ H s):∀(ds es:List Dt) (vs ws:List V) (us zs:List Value) (A:Around),aq X.K H ds vs→aq X.K H es ws→aw vs us→aw ws zs→A.units+zaP ds < cLine →
  ∀(j:Nat) (u z:Value),us[j]?=some u→zs[j]?=some z→SeqAt.EqAt A s u z (zbF ds es j)
 | [],es,vs,ws,us,zs,A,h,h',r,r',hu,j,u,z,e1,e2=>by
  simp only[aq]at h
  subst h
  cases r
  simp at e1
 | d :: ds,es,vs,ws,us,zs,A,h,h',r,r',hu,j,u,z,e1,e2=>by
  simp only[aq]at h
  obtain⟨v,rs,rfl,h1,h2⟩:=h
  cases r with
  | cons r1 r2 =>
   cases es with
   | nil =>
    simp only[aq]at h'
    subst h'
    cases r'
    simp at e2
   | cons e es =>
    simp only[aq]at h'
    obtain⟨w,rt,rfl,h3,h4⟩:=h'
    simp only[zaP]at hu
    cases r' with
    | cons r3 r4 =>
     cases j with
     | zero =>
      simp at e1 e2
      subst e1 e2
      exact zjl I d e v w _ _ A h1 h3 r1 r3 (by omega)
     | succ j=>exact zgU I ds es rs rt _ _ A h2 h4 r2 r4 (by omega) j u z (by simpa using e1) (by simpa using e2)
end
end
end L2
namespace L2
open PySem PySem.Spec PyProof.Rows
section
variable {X:Cx} {pins:List (Addr × Obj)} {σ:St} {H:Hp} {s:Shared}
open Classical in
noncomputable def hitD (K:W.Frag) (H:Hp) (d:Dt) (u:Value):Bool:=decide (∃(v:V) (d':Dt),ax v u∧Has K H d' v∧peq d' d=true)
open Classical in
theorem zfQ (I:Inv X pins σ H s) {d d':Dt} {v:V} {u:Value} (r:ax v u) (h:Has X.K H d' v):hitD X.K H d u=peq d' d:=by
 unfold hitD
 cases e:peq d' d with
 | true=>exact decide_eq_true ⟨v,d',r,h,e⟩
 | false =>
  refine decide_eq_false fun⟨v',d2,r',h',e'⟩=>?_
  rw[r'.inj r]at h'
  rw[Has.inj I _ _ _ h' h,e]at e'
  cases e'
theorem zcS (I:Inv X pins σ H s) {d:Dt}:∀ {ds:List Dt} {vs:List V} {us:List Value},aq X.K H ds vs→aw vs us→us.any (hitD X.K H d)=ds.any fun d'=>peq d' d
 | [],vs,us,h,r=>by
  simp only[aq]at h
  subst h
  cases r
  rfl
 | d' :: ds,vs,us,h,r=>by
  simp only[aq]at h
  obtain⟨v,rs,rfl,h1,h2⟩:=h
  cases r with
  | cons r1 r2=>rw[List.any_cons,List.any_cons,zfQ I r1 h1,zcS I h2 r2]
theorem zcf (I:Inv X pins σ H s) {A:Around} {d:Dt} {x:V} {ux:Value} (hx:Has X.K H d x) (rx:ax x ux):∀ {ds:List Dt} {vs:List V} {us:List Value},aq X.K H ds vs→aw vs us→A.units+zaP ds < cLine→∀ u∈us,SeqAt.EqAt A s u ux (hitD X.K H d u)
 | [],vs,us,h,r,hu,u,hm=>by
  simp only[aq]at h
  subst h
  cases r
  cases hm
 | d' :: ds,vs,us,h,r,hu,u,hm=>by
  simp only[aq]at h
  obtain⟨v,rs,rfl,h1,h2⟩:=h
  simp only[zaP]at hu
  cases r with
  | cons r1 r2 =>
   rcases List.mem_cons.mp hm with rfl | hm
   ·rw[zfQ I r1 h1]
    exact zjl I d' d v x _ _ A h1 hx r1 rx (by omega)
   ·exact zcf I hx rx h2 r2 (by omega) u hm
inductive rInD (K:W.Frag) (neg:Bool):R2 | mk {x y H Q} p xs ds d:y=.ref p→(SqL K H p xs∨SqT K H p xs)→aq K H ds xs→Has K H d x→zaP ds≤60→Q (.bl (if neg then !(ds.any fun d'=>peq d' d) else ds.any fun d'=>peq d' d)) H→rInD K neg x y H Q
theorem zi5 (hu:X.A.units+64 < cLine):OpR X (compareOp .In) (rInD X.K false):=by
 intro pins s σ H x y v u Q I rx ry h
 obtain⟨p,xs,ds,d,rfl,hq,hs,hx,hd,q⟩:=h
 cases ry
 have hin:X.A.in1.units+zaP ds < cLine:=by rw[Around.in1_units];omega
 rcases hq with hq | hq
 ·obtain⟨its,r,pl,hz⟩:=I.list hq
  refine SeqAt.in_listAt (hitD X.K H d) pl.isList (fun w hw=>zcf I hx rx hs r hin w (by simpa using hw)) ⟨.bl _,H,I,rfl,?_⟩
  rw[show its.toArray.any (hitD X.K H d)=its.any (hitD X.K H d) by simp,zcS I hs r]
  exact q
 ·obtain⟨its,r,pl,hz⟩:=I.tuple hq
  refine SeqAt.in_tupleAt (hitD X.K H d) pl (fun w hw=>zcf I hx rx hs r hin w (by simpa using hw)) ⟨.bl _,H,I,rfl,?_⟩
  rw[show its.toArray.any (hitD X.K H d)=its.any (hitD X.K H d) by simp,zcS I hs r]
  exact q
theorem zjB (hu:X.A.units+64 < cLine):OpR X (compareOp .NotIn) (rInD X.K true):=by
 intro pins s σ H x y v u Q I rx ry h
 obtain⟨p,xs,ds,d,rfl,hq,hs,hx,hd,q⟩:=h
 cases ry
 have hin:X.A.in1.units+zaP ds < cLine:=by rw[Around.in1_units];omega
 rcases hq with hq | hq
 ·obtain⟨its,r,pl,hz⟩:=I.list hq
  refine SeqAt.notIn_listAt (hitD X.K H d) pl.isList (fun w hw=>zcf I hx rx hs r hin w (by simpa using hw)) ⟨.bl _,H,I,rfl,?_⟩
  rw[show its.toArray.any (hitD X.K H d)=its.any (hitD X.K H d) by simp,zcS I hs r]
  exact q
 ·obtain⟨its,r,pl,hz⟩:=I.tuple hq
  refine SeqAt.notIn_tupleAt (hitD X.K H d) pl (fun w hw=>zcf I hx rx hs r hin w (by simpa using hw)) ⟨.bl _,H,I,rfl,?_⟩
  rw[show its.toArray.any (hitD X.K H d)=its.any (hitD X.K H d) by simp,zcS I hs r]
  exact q
inductive zhQ (K:W.Frag):V→List V→Hp→VK→Prop | mk {x vs H Q} l xs ds y d j:x=.ref l→vs=[y]→H l=some (.lst xs)→aq K H ds xs→Has K H d y→zaP ds≤60→(∃ dj,ds[j]?=some dj∧peq dj d=true)→(∀ m dm,m < j→ds[m]?=some dm→peq dm d=false)→Q (.int (j:Nat)) H→zhQ K x vs H Q
theorem zgc (hu:X.A.units+64 < cLine):MtM X "list.index" (zhQ X.K):=by
 intro pins s σ H x vs v us Q I rx rv h
 obtain⟨l,xs,ds,y,d,j,rfl,rfl,hH,hs,hy,hd,⟨dj,ej,hj⟩,hno,q⟩:=h
 cases rx
 obtain⟨u,rfl,ru⟩:=rv.one
 obtain⟨z,its,n,r,hl,e⟩:=I.lstM hH
 have hlen:=hs.length
 have hjl:j < ds.length:=(List.getElem?_eq_some_iff.mp ej).1
 have hin:X.A.in1.units+zaP ds < cLine:=by rw[Around.in1_units];omega
 have at_:∀ m (hm:m < its.toArray.size),∃ dm,ds[m]?=some dm∧hitD X.K H d its.toArray[m]=peq dm d:=fun m hm=>by
  have hm':m < ds.length:=by rw[List.size_toArray]at hm;omega
  obtain⟨w,e1,e2⟩:=hs.getD (List.getElem?_eq_getElem hm')
  obtain⟨wv,e3,e4⟩:=r.get e1
  have e5:its.toArray[m]=wv:=by
   have:its[m]?=some wv:=e3
   simp only[List.getElem_toArray]
   rw[List.getElem?_eq_getElem (by rw[List.size_toArray]at hm;exact hm)]at this
   exact Option.some.inj this
  exact⟨_,List.getElem?_eq_getElem hm',by rw[e5];exact zfQ I e4 e2⟩
 have hjs:j < its.toArray.size:=by rw[List.size_toArray];omega
 have hsm:(j:Int) < 2 ^ 63 - 1:=by
  have:=sizeLine_eq
  omega
 refine call_meets F.slot_list_index ⟨_,e,rfl⟩ F.entry_list_index (F.args_list_index_2 _ _) (SeqAt.list_indexAt l its.toArray n none #[] u (hitD X.K H d) j hjs hsm ?_ ?_) ⟨e,?_,?_⟩
 ·obtain⟨dm,e1,e2⟩:=at_ j hjs
  rw[ej]at e1
  cases e1
  rw[e2,hj]
 ·intro m hm hlt
  obtain⟨dm,e1,e2⟩:=at_ m hm
  rw[e2,hno m dm hlt e1]
 ·intro w hw
  exact zcf I hy ru hs r hin w (by simpa using hw)
 ·exact⟨.int (j:Nat),H,I.tok _,⟨_,rfl⟩,q⟩
end
end L2
namespace L2
open PySem PySem.Spec PyProof.Rows
structure FB (P:Program) (w:World) (K:W.Frag) (mg:Str→Option Value) (base:Heap) (CX:CXT) (k:Nat) (x:Str) (f:Addr) (fd:FuncData) (ps:List Str) (sp:Sp):Prop where
 ok:FnOk P w K mg base CX k f fd ps sp
 b:au K fd ps []
 kp:W.keepIn K (.ref f)=true
 m:mg x=some (.ref f)
theorem bsz (n:Nat) (h:n≤1000):n≤sizeLine:=Nat.le_of_lt (zcm h)
theorem zd0 {α:Type} {xs:List α} {i:Nat} {x:α} (h:xs[i]?=some x):xs.take (i+1)=xs.take i++[x]:=by
 rw[List.take_add_one,h]
 rfl
theorem zae {H:Hp} {p:Addr} (h:H p=none) (o:HO):ao H (upd H p o):=fun b u q=>by rw[ai (zan q h)];exact q
theorem ao.upd {H0 H:Hp} {l:Addr} {o:HO} (s:ao H0 H) (h:H0 l=none):ao H0 (upd H l o):=fun b u q=>by rw[ai (zan q h)];exact s b u q
theorem ao.kt {H H':Hp} (s:ao H H'):KeepT H H':=KeepT.of_same s
theorem ao.tup {K:W.Frag} {H H':Hp} {a:Addr} {xs:List V} (s:ao H H') (h:SqT K H a xs):SqT K H' a xs:=s.kt.sq h
structure Wk (J:It) (n:Nat) (Ok:Hp→Prop):Prop where
 stop:∀ i H,Ok H→n≤i→J.stop i H
 go:∀ i H,Ok H→i < n→J.go i H
theorem zeG {lo:Int} {n:Nat}:Wk (Itr lo n) n (fun _=>True):=⟨fun _ _ _ h=>h,fun _ _ _ h=>h⟩
theorem zcC {K:W.Frag} {a:Addr} {xs:List V}:Wk (Itl K a) xs.length (fun H=>SqL K H a xs):=⟨fun _ _ h hi=>⟨xs,h,hi⟩,fun i _ h hi=>⟨xs,xs[i],h,by simp [hi]⟩⟩
theorem wk_tup {K:W.Frag} {a:Addr} {xs:List V}:Wk (Itt K a) xs.length (fun H=>SqT K H a xs):=⟨fun _ _ h hi=>⟨xs,h,hi⟩,fun i _ h hi=>⟨xs,xs[i],h,by simp [hi]⟩⟩
def LcW (n:Nat) (D:Addr) (Pv:Nat→List V→Hp→Prop) (i m:Nat) (ys:List V) (H:Hp):Prop:=m=n - i∧i≤n∧ys.length≤i∧H D=some (.lst ys)∧Pv i ys H
def zjs (n:Nat) (D:Addr) (Pv:Nat→List V→Hp→Prop) (i:Nat) (ys:List V):VK:=fun y H3=>H3 D=some (.lst ys)∧ys.length < sizeLine∧∃ m',m' < n - i∧LcW n D Pv (i+1) m' (ys++[y]) (upd H3 D (.lst (ys++[y])))
theorem zbH {n:Nat} {D:Addr} {Pv:Nat→List V→Hp→Prop} {i:Nat} {ys:List V} {y:V} {H3:Hp} (hn:n≤sizeLine) (hi:i < n) (hl:ys.length≤i) (hD:H3 D=some (.lst ys)) (p:Pv (i+1) (ys++[y]) (upd H3 D (.lst (ys++[y])))):zjs n D Pv i ys y H3 :=
 ⟨hD,by omega,n - (i+1),by omega,rfl,hi,by rw[List.length_append,List.length_singleton];omega,ag,p⟩
theorem zcv {J:It} {n:Nat} {Ok:Hp→Prop} {te:TE} {fv:St} {H1:Hp} {D:Addr} {R:Hp→Prop} (W:Wk J n Ok) (Pv:Nat→List V→Hp→Prop) (hok:∀ i ys H,Pv i ys H→Ok H) (h0:Pv 0 [] (upd H1 D (.lst [])))
  (hs:∀ i ys H' x H'',i < n→ys.length≤i→H' D=some (.lst ys)→Pv i ys H'→J.yld i H' x H''→te (some x :: fv) H'' (zjs n D Pv i ys)) (hd:∀ ys H',H' D=some (.lst ys)→Pv n ys H'→R H') :
  ∃ W:Nat→Nat→List V→Hp→Prop,(∃ m,W 0 m [] (upd H1 D (.lst [])))∧∀ i m ys H',W i m ys H'→H' D=some (.lst ys) ∧
   ((J.stop i H'∧R H')∨(J.go i H'∧∀ x H'',J.yld i H' x H''→te (some x :: fv) H'' fun y H3=>H3 D=some (.lst ys)∧ys.length < sizeLine∧∃ m',m' < m∧W (i+1) m' (ys++[y]) (upd H3 D (.lst (ys++[y]))))):=by
 refine⟨LcW n D Pv,⟨n,rfl,Nat.zero_le _,Nat.zero_le _,ag,h0⟩,?_⟩
 rintro i m ys H' ⟨rfl,hi,hl,hD,p⟩
 refine⟨hD,?_⟩
 by_cases hlt:i < n
 ·exact .inr ⟨W.go i H' (hok _ _ _ p) hlt,fun x H'' y=>hs i ys H' x H'' hlt hl hD p y⟩
 ·have e:i=n:=by omega
  subst e
  exact .inl ⟨W.stop i H' (hok _ _ _ p) (Nat.le_refl _),hd ys H' hD p⟩
theorem for_by {J:It} {n:Nat} {Ok:Hp→Prop} {g:TG} {tb:TS} {D:zaM} {σ:St} {H:Hp} (W:Wk J n Ok) (Pv:Nat→St→Hp→Prop) (hok:∀ i σ H,Pv i σ H→Ok H) (h0:Pv 0 σ H)
  (hs:∀ i σ H x H',i < n→Pv i σ H→J.yld i H x H'→g x σ H' fun σ2 H2=>tb { D with nx:=Pv (i+1),ct:=Pv (i+1),bk:=D.nx } σ2 H2) (hd:∀ σ H,Pv n σ H→D.nx σ H) :
  ∃ W:Nat→Nat→St→Hp→Prop,(∃ m,W 0 m σ H)∧∀ i m σ H,W i m σ H →
   (J.stop i H∧D.nx σ H)∨(J.go i H∧∃ N:St→Hp→Prop,(∀ σ' H',N σ' H'→∃ m',m' < m∧W (i+1) m' σ' H')∧∀ x H',J.yld i H x H'→g x σ H' fun σ2 H2=>tb { D with nx:=N,ct:=N,bk:=D.nx } σ2 H2):=by
 refine⟨fun i m σ H=>m=n - i∧i≤n∧Pv i σ H,⟨n,by simp,Nat.zero_le _,h0⟩,?_⟩
 rintro i m σ H ⟨rfl,hi,p⟩
 by_cases hlt:i < n
 ·exact .inr ⟨W.go i H (hok _ _ _ p) hlt,Pv (i+1),fun σ' H' p'=>⟨n - (i+1),by omega,rfl,hlt,p'⟩,fun x H' y=>hs i σ H x H' hlt p y⟩
 ·have e:i=n:=by omega
  subst e
  exact .inl ⟨W.stop i H (hok _ _ _ p) (Nat.le_refl _),hd σ H p⟩
theorem Has.str' {K:W.Frag} {H:Hp} {x:Str}:Has K H (.str x) (.str x):=by simp only[Has]
theorem aq.nil {K:W.Frag} {H:Hp}:aq K H [] []:=by simp only[aq]
theorem aq.cons {K:W.Frag} {H:Hp} {d:Dt} {ds:List Dt} {v:V} {vs:List V} (h:Has K H d v) (r:aq K H ds vs):aq K H (d :: ds) (v :: vs):=by
 simp only[aq]
 exact⟨v,vs,rfl,h,r⟩
theorem Has.tup' {K:W.Frag} {H:Hp} {ds:List Dt} {a:Addr} {xs:List V} (h:SqT K H a xs) (r:aq K H ds xs):Has K H (.tup ds) (.ref a):=by
 simp only[Has]
 exact⟨a,xs,rfl,h,r⟩
def dP (t:Int × Int):Dt:=.tup [.int t.1,.int t.2]
end L2
namespace PySem
open Sem (wp)
namespace F
end F
section
variable {prog:Program} {w:World} {K:Type} [DecidableEq K] {knd:KeyKind prog w K} {A:Around}
end
end PySem
namespace L2
open PySem PySem.Spec PyProof.Rows
section
variable {κ:Type} [DecidableEq κ]
def valV (kvs:List (κ × V)) (k:κ):Option V:=(kvs.find? fun kv=>decide (kv.1=k)).map (·.2)
def putK (kvs:List (κ × V)) (k:κ) (v:V):List (κ × V) :=
 if(kvs.any fun kv=>decide (kv.1=k))=true then kvs.map (fun kv=>if kv.1=k then(kv.1,v) else kv) else kvs++[(k,v)]
theorem KV.any {kvs:List (κ × V)} {vs:List (κ × Value)} (r:KV kvs vs) (k:κ):(kvs.any fun kv=>decide (kv.1=k))=vs.any fun kv=>decide (kv.1=k):=by
 unfold KV at r
 induction r with
 | nil=>rfl
 | cons h t ih=>rw[List.any_cons,List.any_cons,ih,h.1]
theorem KV.length {kvs:List (κ × V)} {vs:List (κ × Value)} (r:KV kvs vs):kvs.length=vs.length:=Paired.length r
end
section
variable {P:Program} {w:World} {H:Hp} {h:Heap} {a:Addr}
end
def DGet (H:Hp) (a:Addr) (y:V) (r:Option V):Prop :=
 (∃ kvs k,Rd H a (.dK kvs)∧y=kV k∧r=valV kvs k)∨∃ kvs k b,Rd H a (.dT kvs)∧y=.ref b∧H b=some (.tup (k.map kV))∧r=valV kvs k
def DPut (H:Hp) (a:Addr) (y v:V) (H':Hp):Prop :=
 (∃ kvs k,H a=some (.dK kvs)∧y=kV k∧kvs.length < sizeLine∧H'=upd H a (.dK (putK kvs k v))) ∨
 ∃ kvs k b,H a=some (.dT kvs)∧y=.ref b∧H b=some (.tup (k.map kV))∧kvs.length < sizeLine∧H'=upd H a (.dT (putK kvs k v))
theorem DGet.k {H:Hp} {a:Addr} {kvs:List (Key × V)} {k:Key} (e:H a=some (.dK kvs)):DGet H a (kV k) (valV kvs k):=.inl ⟨kvs,k,.inl e,rfl,rfl⟩
theorem DGet.t {H:Hp} {a b:Addr} {kvs:List (List Key × V)} {k:List Key} (e:H a=some (.dT kvs)) (eb:H b=some (.tup (k.map kV))):DGet H a (.ref b) (valV kvs k):=.inr ⟨kvs,k,b,.inl e,rfl,eb,rfl⟩
theorem DPut.k {H:Hp} {a:Addr} {kvs:List (Key × V)} {k:Key} {v:V} (e:H a=some (.dK kvs)) (hl:kvs.length < sizeLine):DPut H a (kV k) v (upd H a (.dK (putK kvs k v))):=.inl ⟨kvs,k,e,rfl,hl,rfl⟩
theorem DPut.t {H:Hp} {a b:Addr} {kvs:List (List Key × V)} {k:List Key} {v:V} (e:H a=some (.dT kvs)) (eb:H b=some (.tup (k.map kV))) (hl:kvs.length < sizeLine) :
  DPut H a (.ref b) v (upd H a (.dT (putK kvs k v))):=.inr ⟨kvs,k,b,e,rfl,eb,hl,rfl⟩
section
variable {X:Cx} {pins:List (Addr × Obj)} {σ:St} {H:Hp} {s:Shared} {a:Addr} {y v:V} {u r:Value} {o:Option V} {A:Around} {E:Value→Shared→Prop}
end
section
variable {X:Cx} {pins:List (Addr × Obj)} {σ:St} {H:Hp} {s:Shared} {a:Addr} {kvs:List (Key × V)} {k:Key} {u:Value} {A:Around} {E:Value→Shared→Prop}
end
section
variable {X:Cx} {o i e value:Expr} {pos pos' tpos:Pos} {td ty tv:TE}
end
section
variable {X:Cx} {pos:Pos}
end
section
variable {X:Cx} {pins:List (Addr × Obj)} {σ:St} {H:Hp} {s:Shared} {a:Addr} {y d:V} {u r:Value} {o:Option V} {A:Around} {E:Value→Shared→Prop}
end
section
variable {X:Cx} {o e f:Expr} {apos cpos:Pos} {td ty tx:TE}
end
section
variable {X:Cx} {pins:List (Addr × Obj)} {σ:St} {H:Hp} {s:Shared} {a:Addr} {kvs:List (Key × V)} {A:Around} {E:Value→Shared→Prop}
end
section
variable {X:Cx} {pins:List (Addr × Obj)} {σ:St} {H:Hp} {s:Shared} {a:Addr} {y:V} {u:Value} {A:Around} {E:Value→Shared→Prop}
end
end L2
namespace L2
open PySem PySem.Spec PyProof.Rows
section
variable {X:Cx}
end
section
variable {κ:Type} [DecidableEq κ]
end
end L2
namespace L2
open PySem PySem.Spec PyProof.Rows
section
variable {X:Cx}
end
end L2
namespace L2
open PySem PySem.Spec PyProof.Rows
def zaG:List Int→List Int→List Int
 | acc,[]=>acc
 | acc,p :: ps=>zaG (if p∈acc then acc else acc++[p]) ps
def nf (row held:List Int):List Int:=zaG [] (row.filter fun p=>decide (-p∉held))
end L2
namespace L2
open PySem PySem.Spec PyProof.Rows
section
variable {X:Cx}
end
end L2
namespace L2
open PySem PySem.Spec PyProof.Rows
section
variable {X:Cx} {N':List Str} {scope:Scope} {cl:List (Str × Addr)} {fp:List Addr} {pins:List (Addr × Obj)} {σ:St} {H:Hp} {s:Shared}
end
section
variable {X:Cx} {N':List Str} {scope:Scope} {elt iter tg:Expr} {L:Nat} {pos:Pos} {wi:TI} {g:TG} {te:TE} {ix:List Nat}
end
section
variable {X:Cx} {N':List Str} {scope:Scope} {elt iter c tg:Expr} {L:Nat} {pos:Pos} {wi:TI} {g:TG} {tc:TT} {te:TE} {ix:List Nat}
end
end L2
namespace L2
open PySem PySem.Spec PyProof.Rows
section
variable {X:Cx}
end
end L2
namespace L2
open PySem PySem.Spec PyProof.Rows
theorem zjL (sep x:Str):Builtin.Str.glued sep [x]=x:=rfl
def zb7 (xs:List Str):Nat:=(xs.map Str.length).sum
theorem zhn (sep:Str):∀(xs:List Str) (a:Array Nat),(xs.foldl (fun acc p=>acc++sep.cps++p.cps) a).size≤a.size+zb7 xs+xs.length * sep.length
 | [],a=>by simp [zb7]
 | x :: xs,a=>by
  rw[List.foldl_cons]
  refine Nat.le_trans (zhn sep xs _) ?_
  rw[Array.size_append,Array.size_append]
  simp only[zb7,List.map_cons,List.sum_cons,List.length_cons,Nat.add_mul,Nat.one_mul]
  show a.size+sep.length+x.length+_+_≤_
  omega
theorem zge (sep:Str):∀ xs:List Str,(Builtin.Str.glued sep xs).length≤zb7 xs+xs.length * sep.length
 | []=>Nat.zero_le _
 | x :: xs=>by
  refine Nat.le_trans (zhn sep xs x.cps) ?_
  simp only[zb7,List.map_cons,List.sum_cons,List.length_cons,Nat.add_mul,Nat.one_mul]
  show x.length+_+_≤_
  omega
section
variable {X:Cx}
theorem zhK:∀ {xs:List Str} {us:List Value},aw (xs.map V.str) us→∃ l:List (Str × Tok),us=strValues l∧l.map (·.1)=xs
 | [],us,r=>by
  have e:us=[]:=aw.zero r
  exact⟨[],by rw[e];rfl,rfl⟩
 | x :: xs,us,r=>by
  cases r with
  | cons r1 rr =>
   obtain⟨l,e1,e2⟩:=zhK rr
   obtain⟨t,e3⟩:=r1
   refine⟨(x,t) :: l,?_,by rw[List.map_cons,e2]⟩
   rw[e3,e1]
   rfl
theorem zgh (k:Nat):∀(xs:List Str) (a:Nat),xs.foldl (fun n x=>n+x.length+k) a=a+zb7 xs+xs.length * k
 | [],a=>by simp [zb7]
 | x :: xs,a=>by
  rw[List.foldl_cons,zgh k xs]
  simp only[zb7,List.map_cons,List.sum_cons,List.length_cons,Nat.add_mul,Nat.one_mul]
  omega
inductive rJoin (K:W.Frag):V→List V→Hp→VK→Prop | mk {x vs H Q} sep p xs:x=.str sep→vs=[.ref p]→SqL K H p (xs.map V.str)→zb7 xs+xs.length * sep.length≤sizeLine→Q (.str (Builtin.Str.glued sep xs)) H→rJoin K x vs H Q
theorem zer:MtR X "str.join" (rJoin X.K):=by
 intro pins s σ H x vs v us Q I rx rv h
 obtain⟨sep,p,xs,rfl,rfl,hq,hz,q⟩:=h
 obtain⟨t,rfl⟩:=rx
 obtain⟨u,rfl,ru⟩:=rv.one
 cases ru
 obtain⟨its,r,pl,hz2⟩:=I.list hq
 obtain⟨l,rfl,e2⟩:=zhK r
 have hl:Builtin.Str.tooLong ((l.map (·.1)).toArray.foldl (·+·.length+sep.length) 0)=false:=by
  rw[e2]
  unfold Builtin.Str.tooLong
  rw[List.foldl_toArray,zgh]
  exact decide_eq_false (by omega)
 refine call_meets F.slot_str_join (typeIs_str s sep t) F.entry_str_join (F.args_str_join_2 _ _) (meets_str_join_list sep t p l hl) ⟨pl.isList,?_⟩
 match l,e2 with
 | [],e2 =>
  subst e2
  exact⟨Nat.le_trans (zge _ _) hz,.str (Builtin.Str.glued sep []),H,I.tok _,⟨_,rfl⟩,q⟩
 | [a],e2 =>
  subst e2
  exact⟨.str a.1,H,I,⟨_,rfl⟩,q⟩
 | a :: b :: c,e2 =>
  subst e2
  exact⟨Nat.le_trans (zge _ _) hz,.str _,H,I.tok _,⟨_,rfl⟩,q⟩
end
end L2
namespace L2
open PySem PySem.Spec PyProof.Rows
section
variable {X:Cx} {tg:Expr}
end
end L2
namespace L2
open PySem PySem.Spec PyProof.Rows
set_option maxRecDepth 100000
section
variable {prog:Program} {w:World} {A:Around} {E:Value→Shared→Prop} {s:Shared} {J:Addr} {fp wr:List Addr} {G:Array GenState→Array GenState→Prop} {n:Nat} {P:Nat→Value→Prop} {St:Nat→Shared→Prop}
end
end L2
namespace L2
open PySem PySem.Spec PyProof.Rows
set_option maxRecDepth 100000
section
variable {prog:Program} {w:World} {A:Around} {R:Result→Shared→Prop} {J:Addr} {fp wr:List Addr} {n:Nat} {P:Nat→Value→Prop} {St:Nat→Heap→Prop} {kw:List (Str × Value)}
end
section
variable {prog:Program} {w:World} {A:Around} {E:Value→Shared→Prop} {s:Shared}
end
section
variable {X:Cx}
end
end L2
namespace HT
open PySem PyProof.Rows
section
variable {prog:Program} {w:World} {A:Around} {E:Value→Shared→Prop} {s:Shared}
end
end HT
namespace L2
open PySem PySem.Spec PyProof.Rows
section
variable {X:Cx}
end
end L2
namespace L2
open PySem PySem.Spec PyProof.Rows
section
variable {X:Cx} {tg:Expr}
end
end L2
namespace L2
open PySem PySem.Spec PyProof.Rows
set_option maxRecDepth 100000
section
variable {X:Cx}
end
end L2
namespace L2
open PySem PySem.Spec PyProof.Rows
set_option maxRecDepth 100000
section
variable {X:Cx}
end
end L2
namespace L2
open PySem PySem.Spec PyProof.Rows
section
variable {P:Program} {w:World}
abbrev Sgn:=Str × List Key
def zgX (P:Program) (w:World) (h:Heap) (k:Sgn) (a:Addr):Prop :=
 ∃(o:Obj) (t:Tok) (q:Addr) (n:Nat),h.get? a=some o∧o.cls=.type "tuple"∧o.data=.seq #[.str k.1 t,.ref q] n∧IsTupleKey (zfO P w) h k.2 q
theorem zgX.inj {h:Heap} {a:Addr} {x y:Sgn} (hx:zgX P w h x a) (hy:zgX P w h y a):x=y:=by
 obtain⟨o,t,q,n,ho,_,hd,hi⟩:=hx
 obtain⟨o',t',q',n',ho',_,hd',hi'⟩:=hy
 cases ho.symm.trans ho'
 have e:=hd.symm.trans hd'
 injection e with e _
 have e2:[Value.str x.1 t,.ref q]=[Value.str y.1 t',.ref q']:=congrArg Array.toList e
 injection e2 with e3 e4
 injection e3 with e5 _
 injection e4 with e6 _
 injection e6 with e7
 subst e7
 exact Prod.ext e5 (hi.inj hi')
variable {A:Around} {E:Value→Shared→Prop} {s:Shared}
end
section
variable {prog:Program} {w:World} {K:Type} [DecidableEq K] {knd:HeapKind prog w K} {A:Around} {E:Value→Shared→Prop} {s:Shared}
end
end L2
namespace L2
open PySem PySem.Spec PyProof.Rows
section
variable {X:Cx}
end
end L2
namespace HT
open PySem PySem.Spec PyProof.Rows
section
variable {prog:Program} {w:World} {A:Around} {E:Value→Shared→Prop} {s:Shared}
end
end HT
namespace L2
open PySem PySem.Spec PyProof.Rows
section
variable {X:Cx} {e st:Expr} {te ts:TE} {pos p2:Pos}
end
end L2
namespace L2
open PySem PySem.Spec PyProof.Rows
section
variable {prog:Program} {w:World} {A:Around} {E:Value→Shared→Prop} {s:Shared}
def TuI (h:Heap) (it t:Addr) (i:Nat) (xs:Array Value):Prop:=h.IsTupleIter it t i∧h.IsTuple t xs
theorem TuI.ext {h h':Heap} {it t b:Addr} {i:Nat} {xs:Array Value} (x:TuI h it t i xs) (hs:Heap.ExtBut b h h') (h1:it≠b) (h2:t≠b):TuI h' it t i xs:=⟨x.1.extBut hs h1,x.2.extBut hs h2⟩
end
section
variable {prog:Program} {w:World} {A:Around} {E:Value→Shared→Prop} {s:Shared}
end
end L2
namespace L2
open PySem PySem.Spec PyProof.Rows
section
variable {X:Cx}
end
end L2
namespace L2
open PySem PySem.Spec PyProof.Rows
section
variable {X:Cx}
end
end L2
namespace L2
open PySem PySem.Spec PyProof.Rows
section
variable {prog:Program} {w:World} {A:Around} {E:Value→Shared→Prop} {s:Shared}
end
end L2
namespace L2
open PySem PySem.Spec PyProof.Rows
end L2
namespace L2
open PySem PySem.Spec PyProof.Rows
section
variable {prog:Program} {w:World} {A:Around} {E:Value→Shared→Prop} {s:Shared}
end
end L2
namespace L2
open PySem PySem.Spec PyProof.Rows
section
variable {X:Cx}
theorem zhj {n:Int} (h:n.natAbs < 1000000000):((toString n:String):Str).length≤10:=by
 have e:=int_text_length_le10 (a:=n) (k:=9) (by decide) h
 show(Str.ofString (toString n)).length≤10
 rw[PySem.ofString_length]
 exact e
theorem zkh {n:Int} (h:n.natAbs < 1000000000):n.natAbs.log2 < 1920:=by
 by_cases h0:n.natAbs=0
 ·rw[h0];decide
 ·exact Nat.lt_of_lt_of_le ((Nat.log2_lt h0 (k:=30)).mpr (Nat.lt_of_lt_of_le h (by decide))) (by decide)
end
end L2
namespace L2
open PySem PySem.Spec PyProof.Rows
section
variable {P:Program} {w:World} {H H':Hp} {h h' B:Heap} {a:Addr} {o:HO}
theorem zbq.there (x:zbq P w H h a o):∃ ob,h.get? a=some ob:=by
 cases o with
 | lst xs=>obtain⟨_,_,_,_,q⟩:=x;exact⟨_,q⟩
 | tup xs=>obtain⟨_,_,_,ob,q,_⟩:=x;exact⟨_,q⟩
 | dK kvs=>obtain⟨_,_,_,_,o,_,_,q,_⟩:=x;exact⟨_,q⟩
 | dT kvs=>obtain⟨_,_,_,_,o,_,_,q,_⟩:=x;exact⟨_,q⟩
 | set S n=>obtain⟨o,_,_,_,q,_⟩:=x;exact⟨_,q⟩
 | ins C dx fs=>obtain⟨_,_,_,q,_⟩:=x;exact⟨_,q⟩
 | own y=>exact x
 | xd fs=>obtain⟨_,⟨_,_,_,q,_⟩,_⟩:=x;exact⟨_,q⟩
 | rng lo hi=>obtain⟨_,_,_,q⟩:=x;exact⟨_,q⟩
 | frz ob u=>exact⟨_,x.1⟩
 | tbl ps=>exact⟨_,(show h.get? a=some _ from x)⟩
 | met f y=>exact⟨_,(show h.get? a=some _ from x)⟩
 | ext φ=>exact x.2.1
def Trk (H:Hp) (h B:Heap):Prop:=∀ b ob,H b≠none→h.get? b=some ob→B.get? b=some ob
def Old (fs:List Addr) (H:Hp) (h B:Heap):Prop:=∀ b ob,h.get? b=some ob→b∉fs→∃ ob',B.get? b=some ob'∧(H b=none→ob'=ob)
theorem HOk.stays (ok:HOk P w H h) (t:Trk H h B) (k:B.StaysIn h'):HOk P w H h':=fun a o e =>
 (ok a o e).stay (fun b u hb q=>k b u (t b u (hb.elim (fun z=>by rw[z,e];exact nofun) fun z=>by rw[z];exact nofun) q)) (fun _ q=>q) fun _ _ q=>q
theorem Trk.stays (ok:HOk P w H h) (t:Trk H h B) (k:B.StaysIn h'):Trk H h' B:=fun b ob hb e=>by
 cases q:H b with
 | none=>exact absurd q hb
 | some u =>
  obtain⟨ob1,e1⟩:=(ok b u q).there
  have z:=t b ob1 hb e1
  have z2:=k b ob1 z
  rw[e]at z2
  cases z2
  exact z
end
def CX1 (P:Program) (w:World):CXT:=fun outer H s E e s'=>∃(ea C:Addr) (H':Hp) (B:Heap) (a0:Value),e=.ref ea∧s'.os=s.os∧AllBare s'.gens∧Un (frs outer) [] H H' s.heap s'.heap∧HOk P w H' s'.heap ∧
 Heap.FlyingW B outer ea (.ref C) a0 s'.heap∧Trk H' s'.heap B∧Old (frs outer) H s.heap B∧E (.ref C) none H'
structure Xe1 (X:Cx) (E:XK):Prop where
 xe:X.xe=fun e s'=>wpAny (model X.prog X.w) X.A (leaving X.env e) (fun _ s''=>CX1 X.prog X.w X.outer X.H₀ X.s₀ E e s'') (fun e' s''=>CX1 X.prog X.w X.outer X.H₀ X.s₀ E e' s'') s'
 stk:X.stack=X.env :: X.outer
 fr:X.env.frame=some X.env.locals
 ex:X.ex=[]
section
variable {X:Cx} {E:XK} {pins:List (Addr × Obj)} {σ:St} {H H':Hp} {s s':Shared} {B:Heap} {ea C:Addr} {a0:Value}
theorem zh8 (hx:Xe1 X E) (I:Inv X pins σ H s) {s'':Shared} (os:s''.os=s.os) (bare:AllBare s''.gens) (u:Un (frs X.stack) [] H H' s.heap s'.heap) (ok:HOk X.prog X.w H' s'.heap)
  (fl:Heap.FlyingW B X.outer ea (.ref C) a0 s''.heap) (sm:s'.heap.UpToSlots s''.heap) (trk:Trk H' s'.heap B) (old:Old (frs X.stack) H s.heap B) (hE:E (.ref C) none H') :
  CX1 X.prog X.w X.outer X.H₀ X.s₀ E (.ref ea) s'':=by
 have hfs:frs X.stack=X.env.locals :: X.fs:=by
  rw[hx.stk]
  unfold frs
  rw[List.filterMap_cons,hx.fr]
  rfl
 have nx:∀ b,b∉X.ex:=fun b hb=>by rw[hx.ex]at hb;cases hb
 have nf:∀ b ob,X.s₀.heap.get? b=some ob→b∉X.fs→b∉frs X.stack:=fun b ob e hb z=>by
  rw[hfs]at z
  rcases List.mem_cons.mp z with z | z
  ·exact absurd (Nat.lt_of_lt_of_le (Heap.lt_size e) I.ok.above) (by rw[z];exact Nat.lt_irrefl _)
  ·exact hb z
 have st:B.StaysIn s''.heap:=fl.1
 have U:=I.base
 have old':Old X.fs X.H₀ X.s₀.heap B:=fun b ob e hb=>by
  obtain⟨o1,e1⟩:=U.there b ob e (nx b)
  obtain⟨o',eB,hB⟩:=old b o1 e1 (nf b ob e hb)
  refine⟨o',eB,fun n=>?_⟩
  have k:=U.keep b ob e n hb (nx b)
  rw[e1]at k
  cases k
  exact hB (U.free b ob e n (nx b))
 have slot:∀ b ob,X.s₀.heap.get? b=some ob→X.H₀ b=none→b∈X.fs→∃ sl,s''.heap.get? b=some { ob with slots:=sl }:=fun b ob e n hb=>by
  obtain⟨sl,k⟩:=U.slot b ob e n hb (nx b)
  obtain⟨sl2,k2⟩:=u.any k (U.free b ob e n (nx b)) (by simp)
  obtain⟨_,o3,e3,hd⟩:=I.ok.funs.mem hb
  rw[e]at e3
  cases e3
  obtain⟨sl3,k3⟩:=sm b _ k2 fun vs q=>hd vs q
  exact⟨sl3,k3⟩
 refine⟨ea,C,H',B,a0,rfl,os.trans I.os,bare,⟨fun b ob e n hb _=>?_,fun b ob e n hb _=>slot b ob e n hb,fun b ob e n _=>?_,fun b ob e _=>?_,fun b xs q=>u.tups b xs (U.tups b xs q),fun b ob xs q=>u.frzs b ob xs (U.frzs b ob xs q),fun b ps q=>?_⟩,
  ok.stays trk st,fl,Trk.stays ok trk st,old',hE⟩
 ·obtain⟨o',eB,hB⟩:=old' b ob e hb
  rw[hB n]at eB
  exact st b ob eB
 ·obtain⟨o1,e1⟩:=U.there b ob e (nx b)
  exact u.free b o1 e1 (U.free b ob e n (nx b)) (by simp)
 ·by_cases hb:b∈X.fs
  ·obtain⟨sl,k⟩:=slot b ob e (I.ok.frf b hb) hb
   exact⟨_,k⟩
  ·obtain⟨o',eB,_⟩:=old' b ob e hb
   exact⟨o',st b o' eB⟩
 ·obtain⟨m1,e1⟩:=U.tbls b ps q
  obtain⟨m2,e2⟩:=u.tbls b _ e1
  exact⟨m1++m2,by rw[e2,Array.append_assoc]⟩
theorem zau (hx:Xe1 X E):zbg (CX1 X.prog X.w) X E:=by
 intro pins σ H s e s' I h
 obtain⟨ea,C,H',B,a0,rfl,os,bare,u,ok,fl,trk,old,hE⟩:=h
 rw[hx.xe]
 have fl2:=fl
 rw[hx.stk]at fl2
 have hfr:X.A.frames=some (X.env :: X.outer):=by rw[I.ok.frames,hx.stk]
 exact wpAny_leaves_onW hfr hx.fr fl2 fun h' fl' sm=>zh8 hx I os bare u ok fl' sm trk old hE
theorem zks {h':Heap} {vs:List Value} (hx:Xe1 X E) (I:Inv X pins σ H s) (m:Heap.MadeExcOf s.heap h' ea (.ref C) vs) (hE:E (.ref C) none H):X.xe (.ref ea) { s with heap:=h' }:=by
 rw[hx.xe]
 have hl:s.heap.FunFrames (W.hideAll s.heap (frs X.stack)) X.stack:=W.funFrames_hide I.stack fun env he a ha=>List.mem_filterMap.mpr ⟨env,he,ha⟩
 have hl2:s.heap.FunFrames (W.hideAll s.heap (frs X.stack)) (X.env :: X.outer):=by
  have z:=hl
  rw[show X.stack=X.env :: X.outer from hx.stk]at z ⊢
  exact z
 have hfr:X.A.frames=some (X.env :: X.outer):=by rw[I.ok.frames,hx.stk]
 refine wpAny_leaves_madeW (base:=W.hideAll s.heap (frs X.stack)) (h:=s.heap) hfr hx.fr (fun b ob q=>W.of_hideAll _ q) hl2 m fun h'' t fl _ _ sm=>?_
 refine zh8 (s':={ s with heap:=h' }) hx I rfl I.bare (Un.kept m.keeps) (I.hok.kept m.keeps) fl sm (fun b ob hb q=>?_) (fun b ob q hb=>⟨ob,W.hideAll_get _ q hb,fun _=>rfl⟩) hE
 cases z:H b with
 | none=>exact absurd z hb
 | some v =>
  obtain⟨o1,e1⟩:=(I.hok b v z).there
  have e2:=m.keeps b o1 e1
  have q':h'.get? b=some ob:=q
  rw[q']at e2
  cases e2
  exact W.hideAll_get _ e1 fun y=>hb (I.stkFree b y)
theorem own_at {K:W.Frag} {hp:Heap} {bmB:List Value} {newId:String} (XI:K.In hp) (q:W.excIn K C bmB newId=true) :
  ∃ bm N nm qn bs hdct sn sub ab col dd k0 k1 k2 k3 k5 mN,hp.get? C=some (excClassObj nm qn C N bs bm hdct sn sub ab col dd k0 k1 k2 k3 k5 newId)∧hp.Ns N mN∧mN "__init__"=none∧OwnTail hp bmB bm:=by
 unfold W.excIn at q
 split at q
 ·rename_i d1 c1 l1 hC1
  split at q
  ·rename_i C2 bm2 y0 y1 y2 y3 n2 y5 hm2 hs2
   simp only[Bool.and_eq_true,beq_iff_eq,Bool.not_eq_true']at q
   obtain⟨⟨⟨⟨⟨rfl,rfl⟩,hdl⟩,htl⟩,hno⟩,hin⟩:=q
   obtain⟨nm,bs,mro,ns,qn,hd,sn,sub,ab,col,del⟩:=c1
   dsimp only at hm2 hdl hno hin
   subst hm2 hdl
   have hsl:l1=#[y0,y1,y2,y3,some (.builtin n2),y5]:=by
    obtain⟨l⟩:=l1
    simp only at hs2
    rw[hs2]
   subst hsl
   exact⟨bm2,ns,nm,qn,bs,hd,sn,sub,ab,col,d1,y0,y1,y2,y3,y5,_,XI _ _ hC1,.of_isNs (W.isNs_of_in XI hno),W.nsMap_none_of_in XI hno hin,W.tail_of_in XI htl⟩
  ·cases q
 ·cases q
variable {e0:Expr} {rest:List Expr} {t:TA} {x:Str} {np cpos pos:Pos} {Bn newId initId:String} {bm:List Value}
def ziS (E:XK) (C:Addr) (t:TA):TS:=fun _ σ H=>t σ H fun vs H1=>vs.length≤sizeLine∧E (.ref C) none H1
theorem za1 (hx:Xe1 X E) (hc:X.calm=true) (hg:Gl X x) (hm:X.mg x=some (.ref C)) (F:ExcBaseFacts Bn newId initId bm) (q:W.excIn X.K C bm newId=true) (ha:PA X (e0 :: rest) t)
  (hdb:(x == ("__debug__":Str))=false:=by decide) (hse:starEach (e0 :: rest) X.env=(false,eval e0 X.env) :: starEach rest X.env:=by rfl) (hpl:(backTo cpos (starEach rest X.env)).any (·.1)=false:=by rfl) :
  PS X (.Raise (some (.Call (.Name x np) (e0 :: rest) [] cpos)) none pos) (ziS E C t):=by
 intro pins s σ H D I h
 obtain⟨tl,N,nm,qn,bs,hdct,sn,sub,ab,col,dd,k0,k1,k2,k3,k5,mN,hC,hN,hni,T⟩:=own_at (C:=C) I.mod.kin q
 refine wpAny_Raise_call_subT (C:=C) (nm:=nm) (q:=qn) (N:=N) (bs:=bs) (bm:=tl) (hdct:=hdct) (sn:=sn) (sub:=sub) (ab:=ab) (col:=col) (dd:=dd) (k0:=k0) (k1:=k1) (k2:=k2) (k3:=k3) (k5:=k5) F (mN:=mN)
  (T.hasType F.hasBase) (I.ok.hd hc) (by rw[hse];show(false||(backTo cpos (starEach rest X.env)).any (·.1))=false;rw[hpl];rfl) hni (zbZ I hg hm ⟨rfl,?_⟩ hdb)
 have g:=ha cpos pins s σ H _ I h
 rw[hse]at g ⊢
 refine Calls.evalArgs_plain (wpAny_mono g (fun vs s2 ⟨ws,H2,I2,r2,hz,hE⟩=>?_) fun _ _ y=>y)
 exact⟨rfl,by rw[←r2.length];exact hz,I2.bk _ _ hC,hN.keeps I2.bk,T.keeps I2.bk,fun h' ea m=>zks hx I2 m hE⟩
end
end L2
namespace L2
open PySem PySem.Spec PyProof.Rows
abbrev Cx.susp (X:Cx) (ea:Addr):Cx:={ X with A:=X.A.mark (some (.ref ea)),calm:=false,xe:=fun _ _=>False }
abbrev Cx.tryc (X:Cx) (pins:List (Addr × Obj)) (E1:Value→Shared→Prop):Cx:={ X with pn:=X.pn++pins,xe:=E1 }
section
variable {X:Cx} {pins:List (Addr × Obj)} {σ:St} {H H':Hp} {s s':Shared} {B:Heap} {ea C:Addr} {a0:Value} {D:zaM} {f:Flow} {E1:Value→Shared→Prop}
theorem Inv.susp (I:Inv X pins σ H s) (ea:Addr):Inv (X.susp ea) pins σ H s :=
 ⟨⟨I.ok.mod,I.ok.kind,I.ok.glob,I.ok.blt,I.ok.above,I.ok.inj,I.ok.has,I.ok.cab,fun z=>(by cases z),I.ok.frames,I.ok.stk,I.ok.exf,I.ok.bs,I.ok.bsz,I.ok.noex,I.ok.exfs,I.ok.funs,I.ok.frf⟩,I.os,I.bare,I.base,I.loc,I.cell,I.free,I.freeC,I.pin,I.hok,I.len,I.ext⟩
theorem Inv.unsusp (ok:X.Ok) (I:Inv (X.susp ea) pins σ H s):Inv X pins σ H s:=⟨ok,I.os,I.bare,I.base,I.loc,I.cell,I.free,I.freeC,I.pin,I.hok,I.len,I.ext⟩
theorem SP.unsusp (ok:X.Ok) (h:SP (X.susp ea) pins D f s):SP X pins D f s:=by
 cases f with
 | next=>obtain⟨a,b,I,q⟩:=h;exact⟨a,b,I.unsusp ok,q⟩
 | brk=>obtain⟨a,b,I,q⟩:=h;exact⟨a,b,I.unsusp ok,q⟩
 | cont=>obtain⟨a,b,I,q⟩:=h;exact⟨a,b,I.unsusp ok,q⟩
 | ret u=>obtain⟨v,a,b,I,r,q⟩:=h;exact⟨v,a,b,I.unsusp ok,r,q⟩
theorem Inv.tryc (I:Inv X pins σ H s) (E1:Value→Shared→Prop):Inv (X.tryc pins E1) [] σ H s :=
 ⟨⟨I.ok.mod,I.ok.kind,I.ok.glob,I.ok.blt,I.ok.above,I.ok.inj,I.ok.has,I.ok.cab,I.ok.hd,I.ok.frames,I.ok.stk,I.ok.exf,I.ok.bs,I.ok.bsz,I.ok.noex,I.ok.exfs,I.ok.funs,I.ok.frf⟩,I.os,I.bare,I.base,I.loc,I.cell,I.free,I.freeC,
  fun p hp=>I.pin p (by simpa using hp),I.hok,I.len,I.ext⟩
theorem Inv.untryc {pins1:List (Addr × Obj)} (ok:X.Ok) (I:Inv (X.tryc pins E1) pins1 σ H s):Inv X pins σ H s :=
 ⟨ok,I.os,I.bare,I.base,I.loc,I.cell,I.free,I.freeC,fun p hp=>I.pin p (List.mem_append_left _ hp),I.hok,I.len,I.ext⟩
theorem SP.untryc {pins1:List (Addr × Obj)} (ok:X.Ok) (h:SP (X.tryc pins E1) pins1 D f s):SP X pins D f s:=by
 cases f with
 | next=>obtain⟨a,b,I,q⟩:=h;exact⟨a,b,I.untryc ok,q⟩
 | brk=>obtain⟨a,b,I,q⟩:=h;exact⟨a,b,I.untryc ok,q⟩
 | cont=>obtain⟨a,b,I,q⟩:=h;exact⟨a,b,I.untryc ok,q⟩
 | ret u=>obtain⟨v,a,b,I,r,q⟩:=h;exact⟨v,a,b,I.untryc ok,r,q⟩
structure zeF (X:Cx) (pins:List (Addr × Obj)) (σ:St) (H:Hp) (s:Shared) (H':Hp) (B:Heap) (s':Shared):Prop where
 I:Inv X pins σ H s
 os:s'.os=s.os
 bare:AllBare s'.gens
 u:Un (frs X.stack) [] H H' s.heap s'.heap
 ok:HOk X.prog X.w H' s'.heap
 trk:Trk H' s'.heap B
 old:Old (frs X.stack) H s.heap B
theorem zeF.inv (c:zeF X pins σ H s H' B s') {h':Heap} (st:B.StaysIn h') (sm:s'.heap.UpToSlots h'):Inv X pins σ H' { s' with heap:=h' }:=by
 have slot:∀ b ob,s.heap.get? b=some ob→H b=none→b∈frs X.stack→∃ sl,h'.get? b=some { ob with slots:=sl }:=fun b ob e n hb=>by
  obtain⟨sl,k⟩:=c.u.slot b ob e n hb (by simp)
  obtain⟨_,o3,e3,hd⟩:=c.I.stack.mem hb
  rw[e]at e3
  cases e3
  obtain⟨sl3,k3⟩:=sm b _ k fun vs q=>hd vs q
  exact⟨sl3,k3⟩
 refine c.I.call' (s':={ s' with heap:=h' }) (ch:=[]) c.os ⟨fun b ob e n hb _=>?_,fun b ob e n hb _=>slot b ob e n hb,fun b ob e n _=>c.u.free b ob e n (by simp),fun b ob e _=>?_,c.u.tups,c.u.frzs,c.u.tbls⟩ (c.ok.stays c.trk st) c.bare (fun b hb=>by cases hb)
 ·obtain⟨o',eB,hB⟩:=c.old b ob e hb
  rw[hB n]at eB
  exact st b ob eB
 ·by_cases hb:b∈frs X.stack
  ·obtain⟨sl,k⟩:=slot b ob e (c.I.stkFree b hb) hb
   exact⟨_,k⟩
  ·obtain⟨o',eB,_⟩:=c.old b ob e hb
   exact⟨o',st b o' eB⟩
def PH (X:Cx) (hs:List ExceptHandler) (th:Addr→TS):Prop :=
 ∀(pins:List (Addr × Obj)) (σ:St) (H:Hp) (s:Shared) (H':Hp) (B:Heap) (s':Shared) (D:zaM) (ea C:Addr) (a0:Value) (h':Heap),zeF X pins σ H s H' B s'→Heap.FlyingW B X.stack ea (.ref C) a0 h'→s'.heap.UpToSlots h'→th C D σ H' →
  wpAny (model X.prog X.w) X.A (handleBy (.ref ea) X.env hs) (SP X pins D) X.xe { s' with heap:=h' }
theorem zeY {hs:List ExceptHandler}:PH X hs (fun _=>tNever):=fun _ _ _ _ _ _ _ _ _ _ _ _ _ _ _ z=>z.elim
def tExc (K:W.Frag) (C1:Addr) (ts:TS) (th:Addr→TS):Addr→TS:=fun C D σ H=>∃ b,W.exmOne K (.ref C) (.ref C1)=some b∧if b=true then ts D σ H else th C D σ H
theorem zbX {x:Str} {np pos:Pos} {b0:Stmt} {suite:List Stmt} {rest:List ExceptHandler} {C1:Addr} {ts:TS} {th:Addr→TS} (hg:Gl X x) (hm:X.mg x=some (.ref C1)) (hs:∀ ea,PSs (X.susp ea) (b0 :: suite) ts) (hr:PH X rest th)
  (hdb:(x == ("__debug__":Str))=false:=by decide):PH X (.ExceptHandler (some (.Name x np)) none (b0 :: suite) pos :: rest) (tExc X.K C1 ts th):=by
 intro pins σ H s H' B s' D ea C a0 h' c fl sm h
 obtain⟨b,hb,h⟩:=h
 have I:=c.inv fl.1 sm
 have I':=I.susp ea
 obtain⟨oe,he,hcl⟩:=fl.there
 have LT:W.Looks (model X.prog X.w) h' (typeOf (.ref ea)) (.ref C):=hcl ▸ (W.Looks.ld he).andThen .now
 refine wpAny_handleBy_cons (codeAny_handlers_test (zbZ (X:=X.susp ea) I' hg hm ?_ hdb)) (by intro q;cases q)
 refine W.exm_one (M:=model X.prog X.w) (K:=X.K) (h:=h') I.kIn LT hb _ _ _ _ (fun _ _ q=>q) ?_
 cases b with
 | true =>
  refine codeAny_handlers_suite (lands_againW fl fun h2 fl2 sm2=>?_)
  have I2:=(c.inv fl2.1 (sm.trans sm2)).susp ea
  exact wpAny_mono (hs ea pins _ σ H' D I2 h) (fun f s2 q=>q.unsusp I.ok) fun _ _ q=>q.elim
 | false=>exact hr pins σ H s H' B s' D ea C a0 h' c fl sm h
def tTry (n:Nat) (tb:XK→TS) (th:Addr→TS):TS:=fun D σ H=>tb (fun c _ H'=>∃ C,c=.ref C∧∀ σ1:St,σ1.length=n→th C D σ1 H') D σ H
theorem zgH {body:List Stmt} {h0:ExceptHandler} {hs:List ExceptHandler} {pos:Pos} {tb:XK→TS} {th:Addr→TS} (hst:X.stack=X.env :: X.outer) (hfr:X.env.frame=some X.env.locals)
  (hb:∀(pins:List (Addr × Obj)) (E1:Value→Shared→Prop) (Eb:XK),zbg (CX1 X.prog X.w) (X.tryc pins E1) Eb→PSs (X.tryc pins E1) body (tb Eb)) (hh:PH X (h0 :: hs) th) :
  PS X (.Try body (h0 :: hs) [] [] pos) (tTry X.N.length tb th):=by
 intro pins s σ H D I h
 refine wpAny_Try_except ?_
 have hp:zbg (CX1 X.prog X.w) (X.tryc pins (fun e s1=>wpAny (model X.prog X.w) X.A (noteFrame e X.env) (fun _ s2=>wpAny (model X.prog X.w) X.A (setFlight e none) (fun _ s3=>wpAny (model X.prog X.w) X.A (handleBy e X.env (h0 :: hs)) (SP X pins D) X.xe s3) X.xe s2) X.xe s1))
   (fun c _ H'=>∃ C,c=.ref C∧∀ σ1:St,σ1.length=X.N.length→th C D σ1 H'):=by
  intro pins1 σ1 H1 s1 e s' I1 hcx
  obtain⟨ea,C,H',B,a0,rfl,os,bare,u,ok,fl,trk,old,C',ec,hE⟩:=hcx
  cases ec
  have c:zeF X pins σ1 H1 s1 H' B s':=⟨I1.untryc I.ok,os,bare,u,ok,trk,old⟩
  have fl':Heap.FlyingW B (X.env :: X.outer) ea (.ref C) a0 s'.heap:=by
   have z:=fl
   rw[show(X.tryc pins _).stack=X.env :: X.outer from hst]at z
   exact z
  have hfs:X.A.frames=some (X.env :: X.outer):=by rw[I.ok.frames,hst]
  refine wpAny_looks_onW hfs hfr fl' fun h2 fl2 sm2=>?_
  refine wpAny_landsW fl2 fun h3 fl3 sm3=>?_
  rw[←hst]at fl3
  exact hh pins σ1 H1 s1 H' B s' D ea C a0 h3 c fl3 (sm2.trans sm3) (hE σ1 I1.len)
 refine wpAny_mono (hb pins _ _ hp [] s σ H D (I.tryc _) h) (fun f s1 q=>?_) fun e s1 q=>q
 have q':SP X pins D f s1:=q.untryc I.ok
 cases f with
 | next=>exact wpAny_execs_nil q'
 | brk=>exact q'
 | cont=>exact q'
 | ret u=>exact q'
end
end L2
namespace L2
open PySem PySem.Spec PyProof.Rows
def zdy (ea C:Addr) (h:Heap):Prop:=∃ oe,h.get? ea=some oe∧oe.cls=.ref C
section
variable {X:Cx} {pins:List (Addr × Obj)} {σ:St} {H H':Hp} {s s':Shared} {B:Heap} {ea C:Addr} {a0:Value} {D:zaM} {f:Flow}
theorem Inv.adopt (I:Inv X pins σ H s) (hx:zdy ea C s.heap) (n0:X.s₀.heap.get? ea=none) (nL:ea≠X.env.locals) (nC:∀ x c,X.env.cells.lookup x=some c→c≠ea) (nP:∀ p∈X.pn++pins,p.1≠ea) (hH:H ea=none) :
  Inv X pins σ (upd H ea (.ext (zdy ea C))) s:=by
 have up:∀ b u,H b=some u→upd H ea (.ext (zdy ea C)) b=some u:=fun b u e=>by rw[ai (zan e hH)];exact e
 have un:∀ b,b≠ea→H b=none→upd H ea (.ext (zdy ea C)) b=none:=fun b hb e=>by rw[ai hb];exact e
 have U:=I.base
 refine⟨I.ok,I.os,I.bare,⟨U.keep,U.slot,fun b ob e n hb=>un b (fun z=>by rw[z,n0]at e;cases e) (U.free b ob e n hb),U.there,fun b xs q=>up _ _ (U.tups b xs q),fun b ob xs q=>up _ _ (U.frzs b ob xs q),fun b ps q=>?_⟩,I.loc,I.cell,un _ (Ne.symm nL) I.free,
  fun x c e=>un _ (nC x c e) (I.freeC x c e),fun p hp=>?_,fun b u e=>?_,I.len,I.ext⟩
 ·obtain⟨m,e⟩:=U.tbls b ps q
  exact⟨m,up _ _ e⟩
 ·obtain⟨e,n,a,b,c⟩:=I.pin p hp
  exact⟨e,un _ (nP p hp) n,a,b,c⟩
 ·by_cases hb:b=ea
  ·subst hb
   rw[ag]at e
   cases e
   obtain⟨oe,e1,e2⟩:=hx
   refine⟨⟨oe,e1,e2⟩,⟨oe,e1⟩,fun h1 h2 p k=>?_⟩
   obtain⟨o2,q1,q2⟩:=p
   exact⟨o2,k o2 q1,q2⟩
  ·rw[ai hb]at e
   exact(I.hok b u e).stay (fun _ _ _ q=>q) (fun c q=>up c _ q) fun c xs q=>up c _ q
theorem Inv.forget {h':Heap} {m':Str→Option Value} {t':Nat} (hxe:X.ext=[]) (I:Inv X pins σ H s) (hn:h'.Ns X.env.locals m') (hs:Heap.SameBut X.env.locals s.heap h'):Inv X pins (List.replicate X.N.length none) H { s with heap:=h',toks:=t' }:=by
 have neL:∀ b o,X.s₀.heap.get? b=some o→b≠X.env.locals:=fun b o e=>Nat.ne_of_lt (Nat.lt_of_lt_of_le (Heap.lt_size e) I.ok.above)
 have U:=I.base
 refine⟨I.ok,I.os,I.bare,⟨fun b ob e n hb hx=>(hs.2 b (neL b ob e)).trans (U.keep b ob e n hb hx),fun b ob e n hb hx=>?_,U.free,fun b ob e hx=>?_,U.tups,U.frzs,U.tbls⟩,⟨m',hn,fun i x v _ e2 _=>?_⟩,fun x c e=>?_,I.free,I.freeC,fun p hp=>?_,fun b u e=>?_,by simp,⟨m',hn,by rw[hxe];exact zdr⟩⟩
 ·obtain⟨sl,q⟩:=U.slot b ob e n hb hx
  exact⟨sl,(hs.2 b (neL b ob e)).trans q⟩
 ·obtain⟨o',q⟩:=U.there b ob e hx
  exact⟨o',(hs.2 b (neL b ob e)).trans q⟩
 ·rw[List.getElem?_replicate]at e2
  split at e2 <;> cases e2
 ·obtain⟨v,o,ho,hd⟩:=I.cell x c e
  exact⟨v,o,(hs.2 c (I.cne x c e)).trans ho,hd⟩
 ·obtain⟨e,n,a,b,c⟩:=I.pin p hp
  exact⟨(hs.2 p.1 a).trans e,n,a,b,c⟩
 ·refine(I.hok b u e).stay (fun c w' hc q=>(hs.2 c ?_).trans q) (fun _ q=>q) fun _ _ q=>q
  rintro rfl
  rcases hc with z | z
  ·rw[←z,I.free]at e;cases e
  ·rw[I.free]at z;cases z
theorem zeF.apart (c:zeF X pins σ H s H' B s') {h':Heap} (fl:Heap.FlyingW B X.stack ea (.ref C) a0 h'):s.heap.get? ea=none:=by
 cases q:s.heap.get? ea with
 | none=>rfl
 | some ob =>
  by_cases hb:ea∈frs X.stack
  ·obtain⟨_,_,ff,oe,vs,_,_,_,he,_,hd,_⟩:=fl
   obtain⟨_,o,ho,hnf⟩:=ff.mem hb
   rw[he]at ho
   cases ho
   exact absurd hd (hnf vs)
  ·obtain⟨o',eB,_⟩:=c.old ea ob q hb
   rw[fl.2.1]at eB
   cases eB
def tExcAs (K:W.Frag) (C1:Addr) (i nN:Nat) (ts:TS) (th:Addr→TS):Addr→TS:=fun C D σ H=>∃ b,W.exmOne K (.ref C) (.ref C1)=some b ∧
 if b=true then ∀ ea,H ea=none→ts { nx:=fun _ H1=>D.nx (List.replicate nN none) H1,rt:=D.rt,bk:=fun _ H1=>D.bk (List.replicate nN none) H1,ct:=fun _ H1=>D.ct (List.replicate nN none) H1 } (σ.set i (some (.ref ea))) (upd H ea (.ext (zdy ea C))) else th C D σ H
theorem ph_as {x n:Str} {np pos:Pos} {b0:Stmt} {suite:List Stmt} {rest:List ExceptHandler} {C1:Addr} {i:Nat} {ts:TS} {th:Addr→TS} (hg:Gl X x) (hm:X.mg x=some (.ref C1)) (hN:X.N.Nodup) (hi:X.N[i]?=some n)
  (hl:X.env.scope.names.lookup n=some .local) (hex:X.ex=[]) (hs:∀ ea,PSs (X.susp ea) (b0 :: suite) ts) (hr:PH X rest th) (hdb:(x == ("__debug__":Str))=false:=by decide) (hxe:X.ext=[]:=by rfl) :
  PH X (.ExceptHandler (some (.Name x np)) (some n) (b0 :: suite) pos :: rest) (tExcAs X.K C1 i X.N.length ts th):=by
 intro pins σ H s H' B s' D ea C a0 h' c fl sm h
 obtain⟨b,hb,h⟩:=h
 have I:=c.inv fl.1 sm
 have I':=I.susp ea
 obtain⟨oe,he,hcl⟩:=fl.there
 have LT:W.Looks (model X.prog X.w) h' (typeOf (.ref ea)) (.ref C):=hcl ▸ (W.Looks.ld he).andThen .now
 refine wpAny_handleBy_cons (codeAny_handlers_test (zbZ (X:=X.susp ea) I' hg hm ?_ hdb)) (by intro q;cases q)
 refine W.exm_one (M:=model X.prog X.w) (K:=X.K) (h:=h') I.kIn LT hb _ _ _ _ (fun _ _ q=>q) ?_
 cases b with
 | false=>exact hr pins σ H s H' B s' D ea C a0 h' c fl sm h
 | true =>
  have hp:(X.env.scope.kind == .class||(X.env.scope.kind == .module&&X.env.locals != X.env.globals))=false:=by rw[I.ok.kind];rfl
  refine codeAny_handlers_suite_as (lands_againW fl fun h2 fl2 sm2=>?_)
  have I2:=c.inv fl2.1 (sm.trans sm2)
  have q0:=c.apart fl2
  obtain⟨oe2,he2,hcl2⟩:=fl2.there
  have nB:B.get? ea=none:=fl2.2.1
  have hH:H' ea=none:=by
   cases q:H' ea with
   | none=>rfl
   | some u =>
    have z:=Trk.stays c.ok c.trk fl2.1 ea oe2 (by rw[q];exact nofun) he2
    rw[nB]at z
    cases z
  have J:=I2.adopt (ea:=ea) (C:=C) ⟨oe2,he2,hcl2⟩ (by
   cases q:X.s₀.heap.get? ea with
   | none=>rfl
   | some o =>
    by_cases hx:ea∈X.ex
    ·rw[hex]at hx
     cases hx
    ·obtain⟨o',e'⟩:=c.I.base.there ea o q hx
     rw[q0]at e'
     cases e') (by
   rintro rfl
   obtain⟨m,⟨o,_,_,ho,_⟩,_⟩:=c.I.loc
   rw[q0]at ho
   cases ho) (fun y d e z=>by
   obtain⟨v,o,ho,_⟩:=c.I.cell y d e
   rw[z,q0]at ho
   cases ho) (fun p hp z=>by
   have e:=(c.I.pin p hp).1
   rw[z,q0]at e
   cases e) hH
  refine wpAny_mono (zdz (X:=X.susp ea) (i:=i) (v:=.ref ea) (J.susp ea) hN hi (.inl hl) rfl (Q:=fun _ s3=>Inv (X.susp ea) pins (σ.set i (some (.ref ea))) (upd H' ea (.ext (zdy ea C))) s3) (fun s3 I3=>I3) (.inr hl)) (fun _ s3 I3=>?_) fun _ _ q=>False.elim q
  refine wpAny_mono (hs ea pins s3 _ _ _ I3 (h ea hH)) (fun fl4 s4 q4=>?_) fun _ _ q=>False.elim q
  have go:∀ {σ4:St} {H4:Hp},Inv (X.susp ea) pins σ4 H4 s4→∀ {R:Unit→Shared→Prop},(∀ s5,Inv X pins (List.replicate X.N.length none) H4 s5→R () s5)→wpAny (model X.prog X.w) X.A (do bindName X.env n .none;unbindBehindTheSuite X.env n pos) R X.xe s4:=fun {σ4 H4} I4 {R} k=>by
   obtain⟨m,hn,_⟩:=I4.loc
   exact wpAny_nameGoes hl hn hp fun h5 m5 hn5 hs5=>k _ (Inv.forget hxe (I4.unsusp I.ok) hn5 hs5)
  cases fl4 with
  | next=>obtain⟨σ4,H4,I4,q⟩:=q4;exact go I4 fun s5 I5=>⟨_,H4,I5,q⟩
  | brk=>obtain⟨σ4,H4,I4,q⟩:=q4;exact go I4 fun s5 I5=>⟨_,H4,I5,q⟩
  | cont=>obtain⟨σ4,H4,I4,q⟩:=q4;exact go I4 fun s5 I5=>⟨_,H4,I5,q⟩
  | ret u=>obtain⟨v,σ4,H4,I4,r,q⟩:=q4;exact go I4 fun s5 I5=>⟨v,_,H4,I5,r,q⟩
theorem zle {prog:Program} {w:World} {A:Around} {E:Value→Shared→Prop} {K:W.Frag} {x:Addr} {t c:Value} {Q:Value→Shared→Prop} (LT:W.Looks (model prog w) s.heap (typeOf (.ref x)) t) (XI:K.In s.heap) (ne:(t == c)=false)
  (e:W.kitCls K t c=some true) (h:Q (.bool true) s):wpAny (model prog w) A (call (.builtin "isinstance") [.ref x,c]) Q E s:=by
 obtain⟨hp,g,d,tt,os⟩:=s
 refine call_isinstance_of ?_ (fun z=>nomatch z)
 unfold Builtin.«isinstance.nested»
 refine wpAny_bind (LT.at ?_)
 rw[if_neg (fun q=>by rw[ne]at q;exact Bool.noConfusion q)]
 obtain⟨hty,his,hsub⟩:=W.kit_cls (M:=model prog w) XI e
 have LI:W.Looks (model prog w) hp (isInstance (.ref x) c) true:=LT.andThen hsub
 refine wpAny_bind (hty.at ?_)
 rw[if_pos (by decide)]
 k_delta "plainIsInstance"
 refine wpAny_bind (wpAny_bind (his.at ?_))
 simp only[Bool.not_true,Bool.false_eq_true,if_false]
 refine wpAny_bind (LI.at ?_)
 first
  | exact wpAny_pure (wpAny_pure h)
  | (simp only[if_true];first | exact wpAny_pure (wpAny_pure h) | exact wpAny_pure h | exact wpAny_bind (wpAny_pure (wpAny_pure h)))
inductive zil (K:W.Frag):List V→Hp→VK→Prop | mk {xs H Q} ea C n:xs=[.ref ea,.ty n]→H ea=some (.ext (zdy ea C))→W.kitCls K (.ref C) (.type n)=some true→Q (.bl true) H→zil K xs H Q
theorem zjO:zbQ X (.builtin "isinstance") (zil X.K):=by
 intro pins s σ H xs us Q I r h
 obtain⟨ea,C,n,rfl,hH,hk,q⟩:=h
 obtain⟨u,w',rfl,rx,ry⟩:=vals2 r
 cases (show w'=Value.type n from ry)
 cases (show u=Value.ref ea from rx)
 obtain⟨⟨oe,he,hcl⟩,_⟩:=I.hok ea _ hH
 have LT:W.Looks (model X.prog X.w) s.heap (typeOf (.ref ea)) (.ref C):=hcl ▸ (W.Looks.ld he).andThen .now
 exact zle LT I.kIn rfl hk ⟨.bl true,H,I,rfl,q⟩
end
end L2
namespace L2
open PySem
end L2
namespace L2
open PySem PySem.Spec PyProof.Rows
section
variable {M:Model} {A:Around} {E:Value→Shared→Prop} {s:Shared}
theorem ziM {base:Heap} {l:List Env} {e:Addr} {cls a0 fl:Value} {fo:Option Addr} {Q:Unit→Shared→Prop} (st:base.StaysIn s.heap) (fr:s.heap.FunFrames base l) (tr:s.heap.TracedAtW base e cls a0 fl)
  (k:∀ h',base.StaysIn h'→h'.FunFrames base l→h'.TracedAtW base e cls a0 (fo.elim .none fun f=>rawInt f)→(∀ b o,s.heap.get? b=some o→(∀ vs,o.data≠.fields vs)→h'.get? b=some o)→Q () { s with heap:=h' }) :
  wpAny M A (setFlight (.ref e) fo) Q E s:=by
 obtain⟨oe,vs,T,oT,ts,ge,gcls,gd,g1,gnT,gTe,gT,gdT,g3⟩:=tr
 have lt3:=(Array.getElem?_eq_some_iff.mp g3).1
 have oth:∀ b,b≠T→(s.heap.update T (Obj.mapFields (·.setIfInBounds 3 (fo.elim Value.none fun f=>rawInt f)))).get? b=s.heap.get? b:=fun b nb=>Heap.get?_update_other _ _ (Ne.symm nb)
 have nr:∀ b o,s.heap.get? b=some o→(∀ vs,o.data≠.fields vs)→b≠T:=by
  intro b o hb hnf q
  rw[q,gT]at hb
  cases hb
  exact hnf ts gdT
 unfold setFlight
 refine wpAny_bind (wpAny_field ge gd g1 ?_)
 rw[if_pos (by simp)]
 refine wpAny_setField gT gdT lt3 (k _ ?_ ?_ ?_ ?_)
 ·intro b o q
  rw[oth b fun z=>by rw[z,gnT]at q;cases q]
  exact st b o q
 ·exact fr.of_keeps fun b o hb hnf=>⟨o,(oth b (nr b o hb hnf)).trans hb,rfl⟩
 ·exact⟨oe,vs,T,_,_,(oth e (Ne.symm gTe)).trans ge,gcls,gd,g1,gnT,gTe,Heap.get?_update_self _ gT (Obj.isFreed_of_fields (Obj.data_mapFields gdT _)),Obj.data_mapFields gdT _,by simp [lt3]⟩
 ·exact fun b o hb hnf=>(oth b (nr b o hb hnf)).trans hb
theorem ziK {base:Heap} {env:Env} {outer:List Env} {L e:Addr} {cls a0 fl:Value} {Q:Unit→Shared→Prop} (af:A.frames=some (env :: outer)) (ef:env.frame=some L) (st:base.StaysIn s.heap) (hen:base.get? e=none)
  (fr:s.heap.FunFrames base (env :: outer)) (tr:s.heap.TracedAtW base e cls a0 fl) (k:∀ h',Heap.FlyingW base outer e cls a0 h'→s.heap.UpToSlots h'→Q () { s with heap:=h' }):wpAny M A (leaving env (.ref e)) Q E s:=by
 by_cases hz:fl=rawInt L
 ·subst hz
  unfold leaving
  refine wpAny_bind (wpAny_noteFrame_againW ef tr ?_)
  refine wpAny_landsW ⟨st,hen,fr,tr⟩ fun h' hfl sm=>?_
  obtain⟨k1,k2,⟨_,_,k3⟩,k4⟩:=hfl
  exact k h' ⟨k1,k2,k3,k4⟩ sm
 ·obtain⟨oe,vs,T,oT,ts,ge,⟨gc,g0⟩,gd,g1,gnT,gTe,gT,gdT,g3⟩:=tr
  subst gc
  have oth:∀ b,b≠T→(s.heap.update T (Obj.mapFields (·.setIfInBounds 3 Value.none))).get? b=s.heap.get? b:=fun b nb=>Heap.get?_update_other _ _ (Ne.symm nb)
  have nr:∀ b o,s.heap.get? b=some o→(∀ vs,o.data≠.fields vs)→b≠T:=by
   intro b o hb hnf q
   rw[q,gT]at hb
   cases hb
   exact hnf ts gdT
  unfold leaving noteFrame
  simp only[ef]
  refine wpAny_bind (wpAny_bind (wpAny_field ge gd g1 ?_))
  rw[if_pos (by simp)]
  refine wpAny_bind (wpAny_field gT gdT g3 ?_)
  rw[if_neg (by simpa using hz)]
  refine wpAny_bind (wpAny_setField gT gdT (Array.getElem?_eq_some_iff.mp g3).1 ?_)
  refine wpAny_newEntryW af (fr.of_keeps fun b o hb hnf=>⟨o,(oth b (nr b o hb hnf)).trans hb,rfl⟩) ef ((oth e (Ne.symm gTe)).trans ge) (fun b o q=>(oth b fun z=>by rw[z,gnT]at q;cases q).trans (st b o q)) hen gd (Array.getElem?_eq_some_iff.mp g1).1 g0 fun h' hL=>?_
  obtain⟨k1,⟨_,_,k2⟩,k3,k4⟩:=hL
  exact k h' ⟨k1,hen,k2,k3⟩ fun b o hb hnf=>k4 b o ((oth b (nr b o hb hnf)).trans hb) hnf
theorem zfB {h h' base base':Heap} {c:Addr} (sb:Heap.SameBut c h h') (hb:∀ b,base.get? b=none→base'.get? b=none):∀ {l:List Env},h.FunFrames base l→(∀ env∈l,env.frame≠some c)→h'.FunFrames base' l
 | [],_,_=>trivial
 | env :: l,⟨hk,⟨L,o,e1,e2,e3,e4⟩,r⟩,hc=>by
  have nL:L≠c:=fun z=>hc env (List.mem_cons_self ..) (by rw[e1,z])
  exact⟨hk,⟨L,o,e1,hb L e2,(sb.2 L nL).trans e3,e4⟩,zfB sb hb r fun env' he=>hc env' (List.mem_cons_of_mem _ he)⟩
end
section
variable {X:Cx} {E:XK} {pins:List (Addr × Obj)} {σ:St} {H H':Hp} {s s':Shared} {B:Heap} {ea C:Addr} {a0:Value}
theorem Xe1.frs (hx:Xe1 X E):L2.frs X.stack=X.env.locals :: X.fs:=by
 rw[hx.stk]
 unfold L2.frs
 rw[List.filterMap_cons,hx.fr]
 rfl
theorem zkn (hx:Xe1 X E) (I:Inv X pins σ H s) {s'':Shared} {c:Addr} (hc:X.s₀.heap.objs.size≤c) (hcf:c∉X.fs) (os:s''.os=s.os) (bare:AllBare s''.gens) (u:Un (frs X.stack) [] H H' s.heap s'.heap) (ok:HOk X.prog X.w H' s'.heap)
  (fl:Heap.FlyingW B X.outer ea (.ref C) a0 s''.heap) (sm:∀ b o,b≠c→s'.heap.get? b=some o→(∀ vs,o.data≠.fields vs)→∃ sl,s''.heap.get? b=some { o with slots:=sl }) (trk:Trk H' s'.heap B)
  (old:∀ b ob,b≠c→s.heap.get? b=some ob→b∉frs X.stack→∃ ob',B.get? b=some ob'∧(H b=none→ob'=ob)) (hE:E (.ref C) none H') :
  CX1 X.prog X.w X.outer X.H₀ X.s₀ E (.ref ea) s'':=by
 have hfs:=hx.frs
 have nx:∀ b,b∉X.ex:=fun b hb=>by rw[hx.ex]at hb;cases hb
 have nc:∀ b ob,X.s₀.heap.get? b=some ob→b≠c:=fun b ob e z=>absurd (z ▸ Heap.lt_size e) (Nat.not_lt.mpr hc)
 have nf:∀ b ob,X.s₀.heap.get? b=some ob→b∉X.fs→b∉frs X.stack:=fun b ob e hb z=>by
  rw[hfs]at z
  rcases List.mem_cons.mp z with z | z
  ·exact absurd (Nat.lt_of_lt_of_le (Heap.lt_size e) I.ok.above) (by rw[z];exact Nat.lt_irrefl _)
  ·exact hb z
 have st:B.StaysIn s''.heap:=fl.1
 have U:=I.base
 have old':Old X.fs X.H₀ X.s₀.heap B:=fun b ob e hb=>by
  obtain⟨o1,e1⟩:=U.there b ob e (nx b)
  obtain⟨o',eB,hB⟩:=old b o1 (nc b ob e) e1 (nf b ob e hb)
  refine⟨o',eB,fun n=>?_⟩
  have k:=U.keep b ob e n hb (nx b)
  rw[e1]at k
  cases k
  exact hB (U.free b ob e n (nx b))
 have slot:∀ b ob,X.s₀.heap.get? b=some ob→X.H₀ b=none→b∈X.fs→∃ sl,s''.heap.get? b=some { ob with slots:=sl }:=fun b ob e n hb=>by
  obtain⟨sl,k⟩:=U.slot b ob e n hb (nx b)
  obtain⟨sl2,k2⟩:=u.any k (U.free b ob e n (nx b)) (by simp)
  obtain⟨_,o3,e3,hd⟩:=I.ok.funs.mem hb
  rw[e]at e3
  cases e3
  obtain⟨sl3,k3⟩:=sm b _ (fun z=>hcf (z ▸ hb)) k2 fun vs q=>hd vs q
  exact⟨sl3,k3⟩
 refine⟨ea,C,H',B,a0,rfl,os.trans I.os,bare,⟨fun b ob e n hb _=>?_,fun b ob e n hb _=>slot b ob e n hb,fun b ob e n _=>?_,fun b ob e _=>?_,fun b xs q=>u.tups b xs (U.tups b xs q),fun b ob xs q=>u.frzs b ob xs (U.frzs b ob xs q),fun b ps q=>?_⟩,
  ok.stays trk st,fl,Trk.stays ok trk st,old',hE⟩
 ·obtain⟨o',eB,hB⟩:=old' b ob e hb
  rw[hB n]at eB
  exact st b ob eB
 ·obtain⟨o1,e1⟩:=U.there b ob e (nx b)
  exact u.free b o1 e1 (U.free b ob e n (nx b)) (by simp)
 ·by_cases hb:b∈X.fs
  ·obtain⟨sl,k⟩:=slot b ob e (I.ok.frf b hb) hb
   exact⟨_,k⟩
  ·obtain⟨o',eB,_⟩:=old' b ob e hb
   exact⟨o',st b o' eB⟩
 ·obtain⟨m1,e1⟩:=U.tbls b ps q
  obtain⟨m2,e2⟩:=u.tbls b _ e1
  exact⟨m1++m2,by rw[e2,Array.append_assoc]⟩
theorem zez {N':List Str} {scope:Scope} {cl:List (Str × Addr)} {fp:List Addr} {Qc:Value→Shared→Prop} {acc:Value} (hx:Xe1 X E) (I:Inv X pins σ H s) (f3:∀ b∈fp,zbh X pins H b) :
  zbg (CX1 X.prog X.w) ((zaj X N' scope cl fp s H).wish (notedBy (model X.prog X.w) X.A (compEnvC scope cl s.heap.objs.size X.env) fun e s'=>compPost (model X.prog X.w) X.A X.xe none Qc acc s.heap.objs.size (.error e) s')) E:=by
 intro pins' σ' H5 s5 e s' J5 h
 obtain⟨ea,Cc,H',B,a0,rfl,os,bare,u,ok,fl,trk,old,hE⟩:=h
 have J5':Inv (zaj X N' scope cl fp s H) pins' σ' H5 s5:=J5.unwish
 have fl2:Heap.FlyingW B (X.env :: X.outer) ea (.ref Cc) a0 s'.heap:=hx.stk ▸ (show Heap.FlyingW B X.stack ea (.ref Cc) a0 s'.heap from fl)
 have af:X.A.frames=some (X.env :: X.outer):=by rw[I.ok.frames,hx.stk]
 show wpAny (model X.prog X.w) X.A (noteFrame (.ref ea) X.env) (fun _ s''=>compPost (model X.prog X.w) X.A X.xe none Qc acc s.heap.objs.size (.error (.ref ea)) s'') (fun e s''=>compPost (model X.prog X.w) X.A X.xe none Qc acc s.heap.objs.size (.error e) s'') s'
 refine wpAny_looks_onW af hx.fr fl2 fun h1 held sm1=>?_
 have cm:zeF (zaj X N' scope cl fp s H) pins' σ' H5 s5 H' B s':=⟨J5',os,bare,u,ok,trk,old⟩
 have J6:=cm.inv held.1 sm1
 obtain⟨m,hn,_⟩:=J6.loc
 have hn':h1.Ns s.heap.objs.size m:=hn
 have Hc:H' s.heap.objs.size=none:=J6.free
 refine⟨m,hn',fun h2 hsb cenv' _=>?_⟩
 have I5:Inv X pins σ H5 s5:=zcg I (J5'.pins_of (pins':=[]) (fun p hp=>by cases hp)) f3 (Heap.SameBut.refl _ _)
 generalize hcc:s.heap.objs.size=c at *
 have hcs:X.s₀.heap.objs.size≤c:=hcc ▸ I.sz
 have hcf:c∉X.fs:=I.nofs (Nat.le_of_eq hcc)
 have hcl:X.env.locals≠c:=hcc ▸ Nat.ne_of_lt I.lt
 have hcn:c∉frs X.stack:=by
  rw[hx.frs]
  intro z
  rcases List.mem_cons.mp z with z | z
  ·exact hcl z.symm
  ·exact hcf z
 obtain⟨oe,vs,T,oT,ts,ge,gc,gd,g1,gnT,gTe,gT,gdT,g3⟩:=held.2.2.2
 have nd:∀ b o ws,h1.get? b=some o→o.data=.fields ws→b≠c:=by
  intro b o ws e1 e2 z
  obtain⟨o',es,ep,e3,e4,_⟩:=hn'
  rw[z,e3]at e1
  cases e1
  rw[e4]at e2
  cases e2
 have hen':(W.hideAll B [c]).get? ea=none:=by
  cases z:(W.hideAll B [c]).get? ea with
  | none=>rfl
  | some o =>
   have:=W.of_hideAll _ z
   rw[held.2.1]at this
   cases this
 have hnn:∀ b,B.get? b=none→(W.hideAll B [c]).get? b=none:=by
  intro b q
  cases z:(W.hideAll B [c]).get? b with
  | none=>rfl
  | some o =>
   have:=W.of_hideAll _ z
   rw[q]at this
   cases this
 have st':(W.hideAll B [c]).StaysIn h2:=by
  intro b o q
  have nb:b≠c:=by
   intro z
   rw[z,W.hideAll_none [c] (by simp)]at q
   cases q
  exact(hsb.2 b nb).trans (held.1 b o (W.of_hideAll _ q))
 have fr':h2.FunFrames (W.hideAll B [c]) (X.env :: X.outer):=by
  refine zfB hsb hnn held.2.2.1 fun env he z=>hcn ?_
  rw[hx.stk]
  exact List.mem_filterMap.mpr ⟨env,he,z⟩
 have tr':h2.TracedAtW (W.hideAll B [c]) ea (.ref Cc) a0 (rawInt X.env.locals) :=
  ⟨oe,vs,T,oT,ts,(hsb.2 _ (nd _ _ _ ge gd)).trans ge,gc,gd,g1,hnn T gnT,gTe,(hsb.2 _ (nd _ _ _ gT gdT)).trans gT,gdT,g3⟩
 unfold PySem.passOn
 refine wpAny_bind (wpAny_field ((hsb.2 _ (nd _ _ _ ge gd)).trans ge) gd g1 ?_)
 rw[if_neg (by simp)]
 refine wpAny_bind (ziM st' fr' tr' fun h3 k1 k2 k3 k4=>?_)
 refine wpAny_throw ?_
 rw[hx.xe]
 refine ziK af hx.fr k1 hen' k2 k3 fun h4 hfl sm4=>?_
 refine zkn (s':=s') hx I5 hcs hcf os bare u ok hfl (fun b o nb e hnf=>?_) (fun b ob hb e=>W.hideAll_get _ (trk b ob hb e) fun z=>hb ?_) (fun b ob nb e hb=>?_) hE
 ·obtain⟨sl1,e1⟩:=sm1 b o e hnf
  obtain⟨sl2,e2⟩:=sm4 b _ (k4 b _ ((hsb.2 b nb).trans e1) hnf) hnf
  exact⟨sl2,e2⟩
 ·rw[List.mem_singleton.mp z]
  exact Hc
 ·obtain⟨ob',eB,hB⟩:=old b ob e hb
  exact⟨ob',W.hideAll_get _ eB (by simpa using nb),hB⟩
end
section
variable {X:Cx} {N':List Str} {scope:Scope} {elt iter:Expr} {x:Str} {px pos:Pos} {wi:TI} {te:TE} {ix:List Nat} {E:XK}
theorem zi4 (hx1:Xe1 X E) (hc:X.calm=true) (hkind:scope.kind=.function) (hcell:∀ y∈scope.names,y.2≠.cell) (hnames:∀ y∈scope.names,y.2=.local→scope.names.lookup y.1=some .local) (hx:scope.names.lookup x=some .local)
  (hclo:X.Ok→∃ cl,Clo X scope cl) (hN:N'.Nodup) (hN0:N'[0]?=some x) (hlen:N'.length=ix.length+1)
  (hix:∀(j i:Nat),ix[j]?=some i→∃ y,X.N[i]?=some y∧N'[j+1]?=some y∧(X.env.kindOf y=some .cell∨X.env.kindOf y=some .free)∧((relabel scope X.env).names.lookup y=some .cell∨(relabel scope X.env).names.lookup y=some .free))
  (hi:PI X (.Name x px) iter wi) (he:∀ cl fp s₃ H₃ xe0,zbg (CX1 X.prog X.w) ((zaj X N' scope cl fp s₃ H₃).wish xe0) E→PE ((zaj X N' scope cl fp s₃ H₃).wish xe0) elt te) (hs:∀ v,foldedSetIterable iter X.env v=pure v:=by intro _;rfl) :
  PE X (.ListComp elt [⟨.Name x px,iter,[],0⟩] scope pos) (tLC wi ix te):=by
 intro pins s σ H Q I h
 obtain⟨cl,C⟩:=hclo I.ok
 rw[eval_ListComp]
 refine wpAny_comprehension_free (use:=none) rfl hs C.eq hkind hnames (thn (hi pins s σ H _ I h) fun v s1 h1=>thn h1 fun itv s2 h2=>?_)
 obtain⟨it,fp,tn,J,H2,e,I2,T,st2,f2,q2⟩:=h2
 subst e
 have hD:H2 s2.heap.objs.size=none:=I2.fresh
 obtain⟨W,⟨m0,w0⟩,turn⟩:=q2 s2.heap.objs.size hD
 refine wpAny_newObj_type (wpAny_newFunctionEnv hcell (by intro y hy;simp at hy) (fun h₁ hns₁ hsb₁=>?_) hkind)
 dsimp only at hns₁ hsb₁ ⊢
 have I3:Inv X pins σ (upd H2 s2.heap.objs.size (.lst [])) { s2 with heap:=s2.heap.push { cls:=.type "list",data:=.seq ([]:List Value).toArray },toks:=s2.toks }:=I2.lnew .nil (Nat.zero_le _)
 generalize hs3:({ s2 with heap:=s2.heap.push { cls:=.type "list",data:=.seq ([]:List Value).toArray },toks:=s2.toks }:Shared)=s3 at I3
 have e3:s3.heap=s2.heap.push { cls:=.type "list",data:=.seq ([]:List Value).toArray }:=by rw[←hs3]
 generalize hDD:s2.heap.objs.size=D at *
 generalize hH3:upd H2 D (.lst [])=H3 at *
 have lt2:∀ b∈fp,b < s2.heap.objs.size:=fun b hb=>by
  obtain⟨o,ho,_⟩:=T.obj 0 _ st2 b hb
  exact Heap.lt_size ho
 have neD:∀ b∈fp,b≠D:=fun b hb=>by rw[←hDD];exact Nat.ne_of_lt (lt2 b hb)
 have f3:∀ b∈fp,zbh X pins H3 b:=fun b hb=>⟨by rw[←hH3,ai (neD b hb)];exact(f2 b hb).1,(f2 b hb).2⟩
 have sz3:s3.heap.objs.size=D+1:=by rw[e3,Heap.size_push,hDD]
 have lt3:∀ b∈fp,b < s3.heap.objs.size:=fun b hb=>by have q:=lt2 b hb;rw[sz3];rw[hDD]at q;exact Nat.lt_succ_of_lt q
 have old:∀ b o,s3.heap.get? b=some o→h₁.get? b=some o:=fun b o eb=>by
  have hb:b < D+1:=by rw[←sz3];exact Heap.lt_size eb
  refine hsb₁.extBut b o ?_ (Heap.get?_push_of_some _ (by rw[←e3];exact eb))
  rw[Heap.size_push,hDD]
  exact Nat.ne_of_lt hb
 have szC:(s2.heap.push { cls:=.type "list",data:=.seq ([]:List Value).toArray }).objs.size=s3.heap.objs.size:=by rw[e3]
 have os3:s3.os=s2.os:=by rw[←hs3]
 rw[szC]at hns₁ hsb₁
 have I4:Inv (zaj X N' scope cl fp s3 H3) [] (none :: fvs σ ix) H3 { s3 with heap:=h₁,toks:=s2.toks+([]:List (Str × Value)).length }:=zcB I3 C hkind f3 lt3 hlen hix hns₁ old
 have st4:tn 0 h₁:=T.keep 0 _ _ st2 fun b hb o eb=>old b o (by rw[e3];exact Heap.get?_push_of_some _ eb)
 have stat:∀ {H':Hp},(∀ b∈fp,H' b=none)→∀ b∈fp,zbh (zaj X N' scope cl fp s3 H3) [] H' b:=fun hn b hb =>
  ⟨hn b hb,Nat.ne_of_lt (lt3 b hb),fun hs'=>(zbJ (N':=N') I3 C hkind f3 lt3).exfs b hb hs',.inl hb,fun y c hy=>((zbJ (N':=N') I3 C hkind f3 lt3).exf b hb).2 y c hy,fun p hp=>absurd (show p∈([]:List (Addr × Obj)) from hp) (by simp)⟩
 have loop:∀ s4:Shared,s4={ s3 with heap:=h₁,toks:=s2.toks+([]:List (Str × Value)).length } →
   codeAny (model X.prog X.w) X.A (.compLoop (.ListComp elt [⟨.Name x px,iter,[],0⟩] scope pos) 0 (.ref it) (.ref D) (compEnvC scope cl s3.heap.objs.size X.env))
    (compPost (model X.prog X.w) X.A X.xe none (EP X pins σ Q) (.ref D) s3.heap.objs.size) s4:=by
  rintro s4 rfl
  refine zcj (fun n s'=>∃ i σ0 H' ys,Inv (zaj X N' scope cl fp s3 H3) [] (σ0 :: fvs σ ix) H' s'∧tn i s'.heap∧(∀ b∈fp,H' b=none)∧W i n ys H') ?_ m0 ⟨0,none,H3,[],I4,st4,fun b hb=>(f3 b hb).1,w0⟩
  rintro n s5 ⟨i,σ0,H5,ys,I5,st5,fr5,w5⟩
  obtain⟨hD5,alt⟩:=turn i n ys H5 w5
  rcases alt with ⟨stop,q⟩ | ⟨go,step⟩
  ·refine thn (T.done (zaj X N' scope cl fp s3 H3) rfl rfl rfl hc i [] s5 _ H5 _ I5 (stat fr5) st5 stop) fun r s6 ⟨hr,I6⟩=>?_
   subst hr
   obtain⟨m,hn,_⟩:=I6.loc
   exact⟨m,hn,fun h' hsb=>⟨.ref D,H5,zcg I3 I6 f3 hsb,rfl,q⟩⟩
  ·refine thn (T.item (zaj X N' scope cl fp s3 H3) rfl rfl rfl hc i [] s5 _ H5 _ I5 (stat fr5) st5 go) fun r s6 ⟨u,hr,h6⟩=>?_
   subst hr
   refine thn h6 fun _ s7 ⟨y7,H7,I7,r7,yl7,st7,fr7⟩=>?_
   have I7':=I7.pinned (stat fr7) (T.obj _ _ st7)
   have G:PG (zaj X N' scope cl fp s3 H3) (.Name x px) (zbl 0):=zbv hN hN0 (.inl (lookup_relabel_local hx)) (.inr (lookup_relabel_local hx))
   refine wpAny_mono (G _ s7 _ H7 y7 u (fun σ' H'=>σ'=some y7 :: fvs σ ix∧H'=H7) I7' r7 ⟨rfl,rfl⟩) (fun _ s8 h8=>?_) fun _ _ f=>False.elim f
   obtain⟨σ8,H8,I8,rfl,rfl⟩:=h8
   refine wpAny_mono (he cl fp s3 H3 _ (zez (Qc:=EP X pins σ Q) (acc:=.ref D) hx1 I3 f3) _ s8 _ H8 _ (I8.wish _) (step y7 H8 yl7)) (fun yv s9 h9=>?_) fun _ _ f=>f
   obtain⟨y9,H9,I9w,r9,hD9,hl9,m',hm',w9⟩:=h9
   have I9:=I9w.unwish
   refine wpAny_mono (zbs (X:=zaj X N' scope cl fp s3 H3) _ s9 _ H9 (.ref D) [y9] (.ref D) [yv] (fun _ H'=>H'=upd H9 D (.lst (ys++[y9]))) I9 rfl (.cons r9 .nil) ⟨D,ys,y9,rfl,rfl,hD9,hl9,rfl⟩) (fun _ s10 h10=>?_) fun _ _ f=>False.elim f
   obtain⟨_,H10,I10,_,rfl⟩:=h10
   refine⟨m',hm',i+1,some y7,_,ys++[y9],I10.unpinned,T.keep _ _ _ st7 fun b hb o eb=>(I10.pin (b,o) (List.mem_append_right _ (List.mem_append_right _ (za4 hb eb)))).1,fun b hb=>?_,w9⟩
   obtain⟨o,eb,d⟩:=T.obj _ _ st7 b hb
   exact(I10.pin (b,o) (List.mem_append_right _ (List.mem_append_right _ (za4 hb eb)))).2.1
 subst hs3
 have fin:=codeAny_compStart_list (loop _ rfl) (T.self X.A 0 _ _ _ st4 (loop _ rfl))
 exact fin
end
end L2
namespace L2
open PySem PySem.Spec PyProof.Rows
section
variable {X:Cx}
theorem zfY:∀ l:List (Str × Tok),aw (l.map fun a=>V.str a.1) (strValues l)
 | []=>.nil
 | a :: l=>.cons ⟨_,rfl⟩ (zfY l)
theorem zjv (x y:Str):(Builtin.Str.partsBetween x (Builtin.Str.occurrences x y 0 x.length (x.length+1)) y.length).length≤x.length+2:=by
 have:=StrLaws.occ_length_le x y 0 x.length (x.length+1)
 simp only[Builtin.Str.partsBetween,List.length_map,List.length_zip,List.length_cons,List.length_append,List.length_nil]
 omega
inductive zi0:V→List V→Hp→VK→Prop | mk {x vs H Q} z y:x=.str z→vs=[.str y]→(y.length == 0)=false→z.length≤1000000→(∀ p,H p=none→Q (.ref p) (upd H p (.lst ((Txt.split z y).map V.str))))→zi0 x vs H Q
theorem ze3:MtR X "str.split" zi0:=by
 intro pins s σ H x vs v us Q I rx rv h
 obtain⟨z,y,rfl,rfl,hy,hz,q⟩:=h
 obtain⟨t,rfl⟩:=rx
 obtain⟨u,rfl,ru⟩:=rv.one
 obtain⟨tu,rfl⟩:=ru
 have hsz:z.length≤sizeLine:=Nat.le_trans hz (by rw[sizeLine_eq];decide)
 have hn:(Builtin.Str.partsBetween z (Builtin.Str.occurrences z y 0 z.length (z.length+1)) y.length).length≤sizeLine:=Nat.le_trans (zjv z y) (by rw[sizeLine_eq];omega)
 have one:∀ e:Txt.split z y=[z],wants (EP X pins σ Q) X.xe (.ok (.ret (.ref s.heap.objs.size))) { s with heap:=s.heap.push { cls:=.type "list",data:=.seq [Value.str z t].toArray } }:=fun e=>by
  have I1:=I.lnew (ys:=[.str z]) (its:=[Value.str z t]) (t':=s.toks) (.cons ⟨_,rfl⟩ .nil) (by show 1≤sizeLine;decide)
  refine⟨.ref s.heap.objs.size,_,I1,rfl,?_⟩
  have:=q _ I.fresh
  rw[e]at this
  exact this
 cases h1:(decide (z.length < y.length)||decide (Builtin.Str.strKind z < Builtin.Str.strKind y))
 ·cases hf:(Builtin.Str.occurrences z y 0 z.length (z.length+1)).isEmpty
  ·refine call_meets F.slot_str_split (typeIs_str s z t) F.entry_str_split (F.args_str_split_2 _ _) (meets_str_split_sep z y t tu h1 hy hf hsz hn) ?_
   have e:Txt.split z y=Builtin.Str.partsBetween z (Builtin.Str.occurrences z y 0 z.length (z.length+1)) y.length:=(if_neg (ne_true_of_eq_false h1)).trans (if_neg (ne_true_of_eq_false hf))
   rw[strsFrom_eq]
   have ev:((numbered s.toks (Builtin.Str.partsBetween z (Builtin.Str.occurrences z y 0 z.length (z.length+1)) y.length)).map fun a=>V.str a.1)=(Txt.split z y).map V.str:=by
    rw[e]
    conv=>rhs;rw[←numbered_texts s.toks (Builtin.Str.partsBetween z (Builtin.Str.occurrences z y 0 z.length (z.length+1)) y.length)]
    rw[List.map_map]
    rfl
   have I1:=I.lnew (ys:=(Txt.split z y).map V.str) (its:=strValues (numbered s.toks (Builtin.Str.partsBetween z (Builtin.Str.occurrences z y 0 z.length (z.length+1)) y.length))) (t':=s.toks+(Builtin.Str.partsBetween z (Builtin.Str.occurrences z y 0 z.length (z.length+1)) y.length).length) (by rw[←ev];exact zfY _) (by rw[List.length_map,e];exact hn)
   exact⟨.ref s.heap.objs.size,_,I1,rfl,q _ I.fresh⟩
  ·exact call_meets F.slot_str_split (typeIs_str s z t) F.entry_str_split (F.args_str_split_2 _ _) (meets_str_split_not_found z y t tu h1 hy hf) (one ((if_neg (ne_true_of_eq_false h1)).trans (if_pos hf)))
 ·exact call_meets F.slot_str_split (typeIs_str s z t) F.entry_str_split (F.args_str_split_2 _ _) (meets_str_split_cannot_occur z y t tu h1) (one (if_pos h1))
inductive zhP:V→List V→Hp→VK→Prop | mk {x vs H Q} z y:x=.str z→vs=[.str y]→Q (.bl (Txt.startswith z y)) H→zhP x vs H Q
theorem zgb:MtR X "str.startswith" zhP:=by
 intro pins s σ H x vs v us Q I rx rv h
 obtain⟨z,y,rfl,rfl,q⟩:=h
 obtain⟨t,rfl⟩:=rx
 obtain⟨u,rfl,ru⟩:=rv.one
 obtain⟨tu,rfl⟩:=ru
 exact call_gives F.slot_str_startswith (typeIs_str _ _ _) F.entry_str_startswith (F.args_str_startswith_2 _ _) (gives_str_startswith z y t tu) ⟨.bl _,H,I,rfl,q⟩
inductive rEnds:V→List V→Hp→VK→Prop | mk {x vs H Q} z y:x=.str z→vs=[.str y]→Q (.bl (Txt.endswith z y)) H→rEnds x vs H Q
theorem zk9:MtR X "str.endswith" rEnds:=by
 intro pins s σ H x vs v us Q I rx rv h
 obtain⟨z,y,rfl,rfl,q⟩:=h
 obtain⟨t,rfl⟩:=rx
 obtain⟨u,rfl,ru⟩:=rv.one
 obtain⟨tu,rfl⟩:=ru
 exact call_gives F.slot_str_endswith (typeIs_str _ _ _) F.entry_str_endswith (F.args_str_endswith_2 _ _) (gives_str_endswith z y t tu) ⟨.bl _,H,I,rfl,q⟩
end
end L2
namespace L2
open PySem PySem.Spec PyProof.Rows PySem.Builtin.Str
theorem zkB (s sub:Str) (i:Nat):subAt s sub i=((s.cps.toList.drop i).take sub.length == sub.cps.toList):=by
 have e:(s.cps.extract i (i+sub.length)).toList=(s.cps.toList.drop i).take sub.length:=by simp
 unfold subAt
 rw[Bool.eq_iff_iff,beq_iff_eq,beq_iff_eq,←e]
 exact⟨fun h=>congrArg Array.toList h,fun h=>Array.ext' h⟩
def zb5 (z y:Str) (i:Nat):Bool:=(z.cps.toList.drop i).take y.length == y.cps.toList
theorem zkD {z y:Str} {i:Nat} (h:i≤z.length):(decide (i+y.length≤z.length)&&subAt z y i)=zb5 z y i:=by
 rw[zkB]
 unfold zb5
 by_cases c:((z.cps.toList.drop i).take y.length == y.cps.toList)=true
 ·rw[c,Bool.and_true]
  have e:=congrArg List.length (eq_of_beq c)
  rw[List.length_take,List.length_drop]at e
  have e1:z.cps.toList.length=z.length:=by simp [Str.length]
  have e2:y.cps.toList.length=y.length:=by simp [Str.length]
  rw[e1,e2]at e
  exact decide_eq_true (by omega)
 ·rw[Bool.eq_false_iff.mpr c,Bool.and_false]
section
variable {X:Cx}
inductive zg6:V→List V→Hp→VK→Prop | mk {x vs H Q} (z y:Str) (i:Nat):x=.str z→vs=[.str y,.int i]→i≤z.length→Q (.bl (zb5 z y i)) H→zg6 x vs H Q
theorem ziG:MtR X "str.startswith" zg6:=by
 intro pins s σ H x vs v us Q I rx rv h
 obtain⟨z,y,i,rfl,rfl,hi,q⟩:=h
 obtain⟨t,rfl⟩:=rx
 obtain⟨u,u2,rfl,ru,ru2⟩:=rv.two
 obtain⟨tu,rfl⟩:=ru
 obtain⟨tv,rfl⟩:=ru2
 refine call_gives F.slot_str_startswith (typeIs_str _ _ _) F.entry_str_startswith (F.args_str_startswith_3 _ _ _) (gives_str_startswith_from z y i t tu tv) ⟨.bl _,H,I,rfl,?_⟩
 have e:fromIndex z.length (i:Int)=i:=by
  unfold fromIndex
  rw[if_neg (by omega)]
  omega
 rw[e,zkD hi]
 exact q
end
end L2
namespace L2
open PySem PySem.Spec PyProof.Rows
section
variable {prog:Program} {w:World} {A:Around} {E:Value→Shared→Prop} {s:Shared}
end
section
variable {X:Cx}
end
end L2
namespace L2
open PySem PySem.Spec PyProof.Rows
theorem thk {α:Type} {t:Sem α} {Q Q':α→Shared→Prop} {M:Model} {A:Around} {E:Value→Shared→Prop} {s:Shared} {b:Nat} (hb:b≤s.toks) (h:wpAny M A t Q E s) (hQ:∀ a s',Q a s'→b≤s'.toks→Q' a s'):wpAny M A t Q' E s :=
 wpAny_mono (wpAny_toks_of hb h) (fun a s' q=>hQ a s' q.2 q.1) fun _ _ x=>x.2
structure PEk (X:Cx) (b:Nat) (e:Expr) (t:TE):Prop where
 run:∀(pins:List (Addr × Obj)) (s:Shared) (σ:St) (H:Hp) (Q:VK),Inv X pins σ H s→b≤s.toks→t σ H Q→wpAny (model X.prog X.w) X.A (eval e X.env) (EP X pins σ Q) X.xe s
structure PSk (X:Cx) (b:Nat) (st:Stmt) (t:TS):Prop where
 run:∀(pins:List (Addr × Obj)) (s:Shared) (σ:St) (H:Hp) (D:zaM),Inv X pins σ H s→b≤s.toks→t D σ H→wpAny (model X.prog X.w) X.A (exec st X.env) (SP X pins D) X.xe s
structure zaV (X:Cx) (b:Nat) (st:List Stmt) (t:TS):Prop where
 run:∀(pins:List (Addr × Obj)) (s:Shared) (σ:St) (H:Hp) (D:zaM),Inv X pins σ H s→b≤s.toks→t D σ H→wpAny (model X.prog X.w) X.A (execs st X.env) (SP X pins D) X.xe s
section
variable {X:Cx} {b:Nat} {e a c:Expr} {st:Stmt} {ss rest:List Stmt} {te ta tc:TE} {t u:TS} {pos:Pos}
theorem PE.k (h:PE X e te):PEk X b e te:=⟨fun pins s σ H Q I _ q=>h pins s σ H Q I q⟩
theorem PS.k (h:PS X st t):PSk X b st t:=⟨fun pins s σ H D I _ q=>h pins s σ H D I q⟩
theorem PSs.k (h:PSs X ss t):zaV X b ss t:=⟨fun pins s σ H D I _ q=>h pins s σ H D I q⟩
theorem zah (h1:PSk X b st t) (h2:zaV X b rest u):zaV X b (st :: rest) (tSeq t u):=by
 refine⟨fun pins s σ H D I hb h=>?_⟩
 refine wpAny_execs_cons (thk hb (h1.run pins s σ H { D with nx:=u D } I hb h) fun f s1 q hb1=>?_)
 cases f with
 | next =>
  obtain⟨σ',H',I',q⟩:=q
  exact h2.run pins s1 σ' H' D I' hb1 q
 | ret v=>exact q
 | brk=>exact q
 | cont=>exact q
theorem zbB (h1:PSk X b st t):zaV X b [st] t:=by
 refine⟨fun pins s σ H D I hb h=>?_⟩
 refine wpAny_execs_cons (thn (h1.run pins s σ H D I hb h) fun f s1 q=>?_)
 cases f with
 | next=>exact wpAny_execs_nil q
 | ret v=>exact q
 | brk=>exact q
 | cont=>exact q
theorem zfI (he:PEk X b e te):PSk X b (.Return (some e) pos) (tRet te):=by
 refine⟨fun pins s σ H D I hb h=>?_⟩
 exact wpAny_Return_some (thn (he.run pins s σ H _ I hb h) fun v s1 ⟨x,H1,I1,r1,q1⟩=>⟨x,σ,H1,I1,r1,q1⟩)
theorem zdP {cd:TT} {xs ys:List Stmt} (hc:PT X c cd) (ha:zaV X b xs t) (hb:zaV X b ys u):PSk X b (.If c xs ys pos) (tIfS cd t u):=by
 refine⟨fun pins s σ H D I hk h=>?_⟩
 refine wpAny_If (thk hk (hc pins s σ H _ I h) fun d s1 ⟨H1,I1,q1⟩ hk1=>?_)
 cases d with
 | true=>exact ha.run pins s1 σ H1 D I1 hk1 q1
 | false=>exact hb.run pins s1 σ H1 D I1 hk1 q1
theorem zeo {i:Nat} {x:Str} {pos':Pos} (hN:X.N.Nodup) (hi:X.N[i]?=some x) (hx:Loc X.env.scope x) (he:PEk X b e te) (hs:swapsWith e (some (.Name x pos')) pos.line X.env=pure false:=by rfl) (hf:X.fn x=true∨X.env.scope.names.lookup x=some .local:=by first | exact .inl rfl | exact .inr rfl | assumption) :
  PSk X b (.Assign [.Name x pos'] e pos) (zcq te (zbl i)):=by
 refine⟨fun pins s σ H D I hb h=>?_⟩
 refine wpAny_Assign_Name (thn (he.run pins s σ H _ I hb h) fun v s1 ⟨y,H1,I1,r1,q1⟩=>?_) hs
 exact zdz I1 hN hi hx r1 (fun s2 I2=>⟨_,H1,I2,q1⟩) hf
theorem zgL {op:Operator} {r:R2} (ho:OpR X (binaryOp op) r) (ha:PEk X b a ta) (hc:PE X c tc):PEk X b (.BinOp a op c pos) (tOp r ta tc):=by
 refine⟨fun pins s σ H Q I hb h=>?_⟩
 refine wpAny_BinOp ?_
 refine thn (ha.run pins s σ H _ I hb h) fun v s1 ⟨x,H1,I1,r1,q1⟩=>?_
 refine thn (hc pins s1 σ H1 _ I1 q1) fun u s2 ⟨y,H2,I2,r2,q2⟩=>?_
 exact ho pins s2 σ H2 x y v u Q I2 r1 r2 q2
abbrev Cx.put (X:Cx) (i:Nat) (y:Str) (u:Value):Cx:={ X with N:=X.N.set i "%",ext:=[(y,u)] }
theorem Cx.Ok.put (ok:X.Ok) (i:Nat) (y:Str) (u:Value):(X.put i y u).Ok:=⟨ok.mod,ok.kind,ok.glob,ok.blt,ok.above,ok.inj,ok.has,ok.cab,ok.hd,ok.frames,ok.stk,ok.exf,ok.bs,ok.bsz,ok.noex,ok.exfs,ok.funs,ok.frf⟩
theorem zg1 {α:Type} {l:List (Option α)} {i j:Nat} {v:α} (h:(l.set i none)[j]?=some (some v)):j≠i∧l[j]?=some (some v):=by
 by_cases e:j=i
 ·subst e
  rw[List.getElem?_set_self']at h
  cases q:l[j]? with
  | none=>rw[q]at h;cases h
  | some w=>rw[q]at h;cases h
 ·rw[List.getElem?_set_ne (Ne.symm e)]at h
  exact⟨e,h⟩
theorem Inv.put {pins:List (Addr × Obj)} {σ:St} {H:Hp} {s:Shared} {i:Nat} {y:Str} {u:Value} (I:Inv X pins σ H s) (hN:X.N.Nodup) (hi:X.N[i]?=some y) (hy:y≠"%") (hu:∃ m,s.heap.Ns X.env.locals m∧Look X.env s.heap m y u):Inv (X.put i y u) pins (σ.set i none) H s:=by
 refine⟨I.ok.put i y u,I.os,I.bare,I.base,?_,I.cell,I.free,I.freeC,I.pin,I.hok,?_,?_⟩
 ·obtain⟨m,hn,hl⟩:=I.loc
  refine⟨m,hn,fun j x v e1 e2 e3=>?_⟩
  obtain⟨ne,e2⟩:=zg1 e2
  have e1':(X.N.set i "%")[j]?=some x:=e1
  rw[List.getElem?_set_ne (Ne.symm ne)]at e1'
  exact hl j x v e1' e2 e3
 ·show(σ.set i none).length=(X.N.set i "%").length
  rw[List.length_set,List.length_set]
  exact I.len
 ·obtain⟨m,hn,l⟩:=hu
  refine⟨m,hn,fun p hp=>?_⟩
  obtain rfl:p=(y,u):=by simpa using hp
  refine⟨fun hm=>?_,l⟩
  obtain⟨j,hj⟩:=List.getElem?_of_mem (show y∈X.N.set i "%" from hm)
  by_cases e:j=i
  ·subst e
   rw[List.getElem?_set_self (by exact(List.getElem?_eq_some_iff.mp hi).1)]at hj
   exact hy (Option.some.inj hj).symm
  ·rw[List.getElem?_set_ne (Ne.symm e)]at hj
   exact e (ze1 hN hj hi)
theorem Inv.unput {pins:List (Addr × Obj)} {σ:St} {H:Hp} {s:Shared} {i:Nat} {y:Str} {u:Value} (ok:X.Ok) (hx:X.ext=[]) (I:Inv (X.put i y u) pins σ H s):Inv X pins (σ.set i none) H s:=by
 refine⟨ok,I.os,I.bare,I.base,?_,I.cell,I.free,I.freeC,I.pin,I.hok,?_,?_⟩
 ·obtain⟨m,hn,hl⟩:=I.loc
  refine⟨m,hn,fun j x v e1 e2 e3=>?_⟩
  obtain⟨ne,e2⟩:=zg1 e2
  refine hl j x v ?_ e2 e3
  show(X.N.set i "%")[j]?=some x
  rw[List.getElem?_set_ne (Ne.symm ne)]
  exact e1
 ·have e:σ.length=(X.N.set i "%").length:=I.len
  rw[List.length_set]at e
  rw[List.length_set]
  exact e
 ·obtain⟨m,hn,_⟩:=I.loc
  exact⟨m,hn,by rw[hx];exact zdr⟩
theorem zgR {pins:List (Addr × Obj)} {σ:St} {H:Hp} {s:Shared} {y:Str} {w:Value} {Q:Value→Shared→Prop} {E:Value→Shared→Prop} (I:Inv X pins σ H s) (hp:(y,w)∈X.ext) (q:Q w s) (hd:(y == ("__debug__":Str))=false:=by decide) (hcd:(y == ("__classdict__":Str))=false:=by decide) :
  wpAny (model X.prog X.w) X.A (eval (.Name y pos) X.env) Q E s:=by
 obtain⟨m,hn,hl⟩:=I.ext
 rcases(hl _ hp).2 with ⟨hk,hm⟩ | ⟨hk,c,hc,hcell⟩
 ·exact wpAny_Name (wpAny_loadName_local I.ok.kind hk hn hm q) hd
 ·rcases hk with hk | hk
  ·exact wpAny_Name (wpAny_loadName_cell I.ok.kind hk hc hcell q) hd
  ·exact wpAny_Name (wpAny_loadName_free I.ok.kind hk hc hcell q hcd) hd
theorem pe_ext {y:Str} {z:Str} {k:Nat} (hp:(y,Value.str z k)∈X.ext) (hd:(y == ("__debug__":Str))=false:=by decide) (hcd:(y == ("__classdict__":Str))=false:=by decide):PE X (.Name y pos) (tC (.str z)) :=
 fun _ _ _ H _ I h=>zgR I hp ⟨.str z,H,I,⟨k,rfl⟩,h⟩ hd hcd
def tRpl (c z:Str) (to:TE):TE:=fun σ H Q=>to σ H fun v H1=>∃ x:Str,v=.str x∧x.length+(x.length+1) * z.length≤16777216∧Q (.str (Txt.replace x c z)) H1
theorem zci {o:Expr} {to:TE} {y c z:Str} {k j:Nat} {apos cpos p1 p2:Pos} (ho:PE X o to) (hp:(y,Value.str z k)∈X.ext) (h0:k≠0) (hb:k < b) (hz:(c == z)=false)
  (hbase:attributeBase o "replace" X.env (eval o X.env)=eval o X.env:=by rfl)
  (hfew:((backTo cpos (starEach [.Constant (.str c) j p1,.Name y p2] X.env)).all (fun x=>!x.1)&&(backToKw cpos (keywordEach [] X.env)).all (fun x=>x.1.isSome)
   && decide (([.Constant (.str c) j p1,.Name y p2]:List Expr).length+([]:List Keyword).length+(if([]:List Keyword).isEmpty then 0 else 1) < 30))=true:=by rfl)
  (hline:(apos.endLine == cpos.line)=true:=by rfl) (hd:(y == ("__debug__":Str))=false:=by decide) (hcd:(y == ("__classdict__":Str))=false:=by decide) :
  PEk X b (.Call (.Attribute o "replace" apos) [.Constant (.str c) j p1,.Name y p2] [] cpos) (tRpl c z to):=by
 refine⟨fun pins s σ H Q I hs h=>?_⟩
 refine wpAny_Call_method_late hbase hfew hline rfl (thk hs (ho pins s σ H _ I h) fun v s1 ⟨x,H1,I1,r1,xt,ex,hl,q1⟩ hb1=>?_)
 subst ex
 obtain⟨h1,h2⟩:=ziP I1 r1 (show tyV X.K "str" (.str xt) H1 from rfl)
 obtain⟨t1,rfl⟩:=r1
 refine⟨"str","str.replace",PySem.F.plainAttrs_str,PySem.F.slot_str_replace,PySem.F.type_str_replace,h1,h2,?_⟩
 have hs1:starEach [.Constant (.str c) j p1,.Name y p2] X.env=[(false,eval (.Constant (.str c) j p1) X.env),(false,eval (.Name y p2) X.env)]:=rfl
 rw[hs1]
 refine Calls.callWith_builtin rfl (Calls.evalArgs_plain ?_)
 refine Calls.spliced_cons (Calls.Constant_str (k:=j) (pos:=p1) ?_)
 refine Calls.spliced_cons (zgR (pos:=p2) (s:={ s1 with toks:=s1.toks+1 }) (I1.tok _) hp ?_ hd hcd)
 refine Calls.spliced_nil ?_
 have n0:s1.toks≠0:=by omega
 have n1:s1.toks≠k:=by omega
 refine PySem.SC.replace n0 h0 n1 hz hl fun t' k'=>⟨.str _,H1,I1.tok _,⟨_,rfl⟩,q1⟩
end
end L2
namespace L2
open PySem PySem.Spec PyProof.Rows
theorem zaV.nox {X:Cx} {b:Nat} {st:List Stmt} {t:TS} (h:zaV X.nox b st t):zaV X b st t:=⟨fun pins s σ H D I hb hw =>
 wpAny_mono (h.run pins s σ H D (I.wish _) hb hw) (fun _ _ q=>q.unwish) fun _ _ z=>False.elim z⟩
structure FnT (P:Program) (w:World) (K:W.Frag) (mg:Str→Option Value) (base:Heap) (CX:CXT) (k:Nat) (f:Addr) (fd:FuncData) (ps:List Str) (j:Nat) (sp:Sp):Prop where
 len:∀ vs H Q E,sp vs H Q E→vs.length=ps.length
 run:∀(A:Around) (outer:List Env) (s:Shared) (H:Hp) (args:Args) (us:List Value) (vs:List V) (Q:VK) (E:XK) (z:Str) (t:Nat),zai k A→zdM P w K mg base A outer s H→BindsTo s fd args (ps.zip us)→aw vs us→us[j]?=some (.str z t)→t≠0→t < s.toks→sp vs H Q E →
  codeAny (model P w) A (.call (.ref f) args) (CR CX outer P w H s Q E) s
theorem aw.str_at:∀ {vs:List V} {us:List Value} {j:Nat} {z:Str} {t:Nat},aw vs us→us[j]?=some (.str z t)→vs[j]?=some (.str z)
 | _,_,j,z,t,.nil,e=>by simp at e
 | _,_,0,z,t,.cons (a:=a) r _,e=>by
  simp at e
  subst e
  cases a with
  | str x=>obtain⟨t',h⟩:=r;cases h;rfl
  | int x=>obtain⟨t',h⟩:=r;cases h
  | byt x=>obtain⟨t',h⟩:=r;cases h
  | flt x=>obtain⟨t',h⟩:=r;cases h
  | _=>cases r
 | _,_,j+1,z,t,.cons _ r,e=>by
  simp only[List.getElem?_cons_succ]at e ⊢
  exact aw.str_at r e
theorem fn_ofT {CX:CXT} {P:Program} {w:World} {K:W.Frag} {mg:Str→Option Value} {base:Heap} {k:Nat} {f:Addr} {name qual:Str} {params:Arguments} {body:List Stmt} {scope:Scope} {dV kV doc pm cdv ct oc:Value} {an od:Option Addr}
  {osl:Array (Option Value)} {N ps:List Str} {sp:Sp} {j:Nat} {y:Str} (lk:K.lookup f=some ⟨oc,od,.func (W.fnOf name qual params body scope dV kV doc pm an cdv ct),osl⟩) (hcd:W.codeIn K cdv qual=true) (S:zaa N ps scope)
  (hj:ps[j]?=some y) (hy:y≠"%") (hyl:scope.names.lookup y=some .local) (len:∀ vs H Q E,sp vs H Q E→vs.length=ps.length)
  (hbody:∀(A:Around) (outer:List Env) (s:Shared) (H:Hp) (vs:List V) (Q:VK) (E:XK) (z:Str) (t:Nat),zai k (A.deeper (envOfC qual scope s.heap.objs.size f cdv))→sp vs H Q E→vs[j]?=some (.str z)→t≠0→t < s.toks →
   ∃ r,zaV ((zak CX P w K mg base N qual scope f cdv A outer s H E).put j y (.str z t)) s.toks body r∧r { nx:=fun _ H'=>Q .non H',rt:=Q } ((zbj N vs).set j none) H) :
  FnT P w K mg base CX (k+1) f (W.fnOf name qual params body scope dV kV doc pm an cdv ct) ps j sp:=by
 refine⟨len,fun A outer s H args us vs Q E z tk hr e0 hb r ej t0 tl hsp=>?_⟩
 have hl:=len _ _ _ _ hsp
 have KX:K.In s.heap:=e0.mod.kin.keeps fun b o e=>(e0.bs b o e).1
 have lim:s.heap.NoLimit:=e0.mod.nolimit.keeps fun b o e=>(e0.bs b o e).1
 have hkind:∀ y∈ps.zip us,scope.names.lookup y.1=some .local∨(scope.names.lookup y.1=some .cell∧((cellsFrom (s.heap.objs.size+1) scope.names []).lookup y.1).isSome=true):=fun⟨n,v⟩ hy=>by
  rcases S.par n (List.of_mem_zip hy).1 with q | q
  ·exact .inl q
  ·exact .inr ⟨q,W.cellsFrom_some _ _ _ (.inl q)⟩
 refine codeAny_call_function hr.depth (KX _ _ lk) rfl S.co S.gen rfl (W.codeRec_of KX hcd) (hb _ _ _ _ ?_)
 refine wpAny_mono (wpAny_toks (wpAny_newFunctionEnv_cells (Q:=fun env s1=>env=newEnv scope s.heap.objs.size mainGlobals (cellsFrom (s.heap.objs.size+1) scope.names []) (qual++".<locals>.") (some f) cdv none builtinsNs∧InCallC s env.locals (bindL env.kindOf (ps.zip us) fun _=>none) env.cells (bindC env.kindOf (ps.zip us) fun _=>none) s1) S.kind hkind fun env he s1 x=>⟨he,x⟩)) (fun env s1 h1=>?_) (fun _ _ h=>h.2)
 obtain⟨hb1,he,x⟩:=h1
 subst he
 refine⟨lim.keeps x.toInCall.keep,codeAny_func ?_⟩
 have I:Inv (zak CX P w K mg base N qual scope f cdv A outer s H E) [] (zbj N vs) H s1:=zd8 S hr.hd e0 hl r x
 have hpl:ps.length≤N.length:=by have:=congrArg List.length S.pre;rw[List.length_take]at this;omega
 have hNj:N[j]?=some y:=by
  have hjl:=(List.getElem?_eq_some_iff.mp hj).1
  rw[←S.pre,List.getElem?_take_of_lt (by omega)]at hj
  exact hj
 have ndP:ps.Nodup:=by rw[←S.pre];exact S.nd.sublist (List.take_sublist _ _)
 obtain⟨rt,ht,hq⟩:=hbody A outer s H vs Q E z tk (hr.deeper _) hsp (r.str_at ej) t0 tl
 have IP:=I.put (i:=j) (y:=y) (u:=.str z tk) S.nd hNj hy ⟨_,x.toInCall.ns,.inl ⟨hyl,zeb ndP hj ej hyl⟩⟩
 refine wpAny_mono (ht.run [] s1 _ H _ IP hb1 hq) (fun fl s' hs=>?_) fun e s' hs=>hs
 have fin:∀ {σ':St} {H':Hp} {v:V} {u:Value},Inv ((zak CX P w K mg base N qual scope f cdv A outer s H E).put j y (.str z tk)) [] σ' H' s'→ax v u→Q v H'→CE outer P w H s Q u s' :=
  fun {σ' H' v u} J rv q=>⟨v,H',J.os,J.bare,J.base,J.hok,rv,q⟩
 cases fl with
 | ret u =>
  obtain⟨v,σ',H',J,rv,q⟩:=hs
  exact fin J rv q
 | next =>
  obtain⟨σ',H',J,q⟩:=hs
  exact fin (v:=V.non) (u:=Value.none) J rfl q
 | brk =>
  obtain⟨_,_,_,q⟩:=hs
  exact False.elim q
 | cont =>
  obtain⟨_,_,_,q⟩:=hs
  exact False.elim q
section
variable {P:Program} {w:World} {K:W.Frag} {mg:Str→Option Value} {base:Heap}
theorem Fun.okT {x qual:Str} {st:Stmt} {f:Addr} {fd:FuncData} {N ps:List Str} {k:Nat} {sp:Sp} {j:Nat} {y:Str} (F:Fun K x qual st f fd) (S:zaa N ps (ad st)) (hj:ps[j]?=some y) (hy:y≠"%") (hyl:(ad st).names.lookup y=some .local) (len:∀ vs H Q E,sp vs H Q E→vs.length=ps.length)
  (hbody:∀(cdv:Value) (A:Around) (outer:List Env) (s:Shared) (H:Hp) (vs:List V) (Q:VK) (E:XK) (z:Str) (t:Nat),zai k (A.deeper (envOfC qual (ad st) s.heap.objs.size f cdv))→sp vs H Q E→vs[j]?=some (.str z)→t≠0→t < s.toks →
   ∃ r,zaV ((zak CX0 P w K mg base N qual (ad st) f cdv A outer s H E).nox.put j y (.str z t)) s.toks (zam st) r∧r { nx:=fun _ H'=>Q .non H',rt:=Q } ((zbj N vs).set j none) H):FnT P w K mg base CX0 (k+1) f fd ps j sp:=by
 obtain⟨oc,od,kV,doc,pm,an,cdv,ct,osl,rfl,lk,hcd⟩:=F.ex
 refine fn_ofT lk hcd S hj hy hyl len fun A outer s H vs Q E z t hr hsp hz t0 tl=>?_
 obtain⟨r,h,q⟩:=hbody cdv A outer s H vs Q E z t hr hsp hz t0 tl
 exact⟨r,zaV.nox h,q⟩
end
section
variable {X:Cx} {CX:CXT} {k b:Nat} {f:Addr} {fd:FuncData} {ps:List Str} {sp:Sp} {E:XK} {x y z:Str} {p q pos:Pos} {e:Expr} {te:TE} {tk:Nat}
def tCallT (sp:Sp) (E:XK) (z:Str) (te:TE):TE:=fun σ H Q=>te σ H fun v H1=>sp [v,.str z] H1 Q E
theorem zco (F:FnT X.prog X.w X.K X.mg X.base CX k f fd ps 1 sp) (hr:zai k X.A) (hg:Gl X x) (hm:X.mg x=some (.ref f)) (hk:W.keepIn X.K (.ref f)=true) (hbi:au X.K fd ps []) (hx:zbg CX X E)
  (he:PE X e te) (hp:(y,Value.str z tk)∈X.ext) (h0:tk≠0) (hb:tk < b) (hdb:(x == ("__debug__":Str))=false:=by decide)
  (hs:starEach [e,.Name y q] X.env=[(false,eval e X.env),(false,eval (.Name y q) X.env)]:=by rfl) (hd:(y == ("__debug__":Str))=false:=by decide) (hcd:(y == ("__classdict__":Str))=false:=by decide) :
  PEk X b (.Call (.Name x p) [e,.Name y q] [] pos) (tCallT sp E z te):=by
 refine⟨fun pins s σ H Q I hbs h=>?_⟩
 refine wpAny_Call_Name_kw (zbZ I hg hm ?_ hdb)
 refine W.callWith_K (h₀:=X.base) I.ok.mod.kin hk ?_ hs rfl
 rw[hs]
 refine Calls.spliced_cons (thk hbs (he pins s σ H _ I h) fun v s1 ⟨x1,H1,I1,r1,q1⟩ hb1=>?_)
 refine Calls.spliced_cons (zgR (pos:=q) I1 hp ?_ hd hcd)
 refine Calls.spliced_nil ⟨I1.kIn,?_⟩
 have r2:aw [x1,.str z] [v,.str z tk]:=.cons r1 (.cons ⟨tk,rfl⟩ .nil)
 have hl:[v,Value.str z tk].length=ps.length:=by rw[←r2.length];exact F.len _ _ _ _ q1
 have bi:=hbi s1 [v,.str z tk] I1.kIn (by rw[List.append_nil];exact hl)
 rw[List.append_nil]at bi
 refine wpAny_call (codeAny_mono (F.run X.A X.stack s1 H1 ⟨[v,.str z tk],[]⟩ [v,.str z tk] [x1,.str z] Q E z tk hr I1.env0 bi r2 rfl h0 (Nat.lt_of_lt_of_le hb hb1) q1) fun r s' hq=>?_)
 cases r with
 | error e=>exact hx pins σ H1 s1 e s' I1 hq
 | ok fl =>
  cases fl with
  | ret u=>exact I1.after hq
  | next=>exact False.elim hq
  | brk=>exact False.elim hq
  | cont=>exact False.elim hq
end
end L2
namespace L2
open PySem PySem.Spec PyProof.Rows
abbrev Cx.withE (X:Cx) (l:List (Str × Value)):Cx:={ X with ext:=l }
theorem Cx.Ok.withE {X:Cx} (ok:X.Ok) (l:List (Str × Value)):(X.withE l).Ok:=⟨ok.mod,ok.kind,ok.glob,ok.blt,ok.above,ok.inj,ok.has,ok.cab,ok.hd,ok.frames,ok.stk,ok.exf,ok.bs,ok.bsz,ok.noex,ok.exfs,ok.funs,ok.frf⟩
theorem Cx.Ok.dropE {X:Cx} {l:List (Str × Value)} (ok:(X.withE l).Ok):X.Ok:=⟨ok.mod,ok.kind,ok.glob,ok.blt,ok.above,ok.inj,ok.has,ok.cab,ok.hd,ok.frames,ok.stk,ok.exf,ok.bs,ok.bsz,ok.noex,ok.exfs,ok.funs,ok.frf⟩
section
variable {X:Cx} {pins:List (Addr × Obj)} {σ:St} {H:Hp} {s:Shared} {l:List (Str × Value)}
theorem Inv.withE (I:Inv X pins σ H s) (h:∃ m,s.heap.Ns X.env.locals m∧∀ p∈l,p.1∉X.N∧Look X.env s.heap m p.1 p.2):Inv (X.withE l) pins σ H s:=⟨I.ok.withE l,I.os,I.bare,I.base,I.loc,I.cell,I.free,I.freeC,I.pin,I.hok,I.len,h⟩
theorem Inv.dropE (hx:X.ext=[]) (I:Inv (X.withE l) pins σ H s):Inv X pins σ H s:=⟨I.ok.dropE,I.os,I.bare,I.base,I.loc,I.cell,I.free,I.freeC,I.pin,I.hok,I.len,by
 obtain⟨m,hn,_⟩:=I.loc
 exact⟨m,hn,by rw[hx];exact zdr⟩⟩
end
abbrev zbx (X:Cx) (N':List Str) (scope:Scope) (cl:List (Str × Addr)) (fp:List Addr) (s₃:Shared) (H₃:Hp):Cx:=(zaj X N' scope cl fp s₃ H₃).withE X.ext
section
variable {X:Cx} {N':List Str} {scope:Scope} {cl:List (Str × Addr)} {fp:List Addr} {pins:List (Addr × Obj)} {σ σ':St} {H:Hp} {s:Shared}
theorem zhH {h₁:Heap} {t':Nat} (hxe:∀ p∈X.ext,p.1∉N'∧(X.env.kindOf p.1=some .cell∨X.env.kindOf p.1=some .free)∧((relabel scope X.env).names.lookup p.1=some .cell∨(relabel scope X.env).names.lookup p.1=some .free))
  (I:Inv X pins σ H s) (C:Clo X scope cl) (J:Inv (zaj X N' scope cl fp s H) [] σ' H { s with heap:=h₁,toks:=t' }) (hk:∀ b o,s.heap.get? b=some o→h₁.get? b=some o):Inv (zbx X N' scope cl fp s H) [] σ' H { s with heap:=h₁,toks:=t' }:=by
 obtain⟨m,hn,_⟩:=id J.loc
 refine J.withE ⟨m,hn,fun p hp=>?_⟩
 obtain⟨n1,k1,k2⟩:=hxe p hp
 refine⟨n1,.inr ⟨k2,?_⟩⟩
 obtain⟨_,_,hl⟩:=I.ext
 rcases(hl p hp).2 with ⟨k,_⟩ | ⟨_,c,ec,o,ho,hd⟩
 ·rcases k1 with z | z
  ·rw[z]at k;cases k
  ·rw[z]at k;cases k
 ·obtain⟨c',ec'⟩:=C.has _ k2
  have:c'=c:=Option.some.inj ((C.sub _ _ ec').symm.trans ec)
  subst this
  exact⟨c',ec',o,hk c' o ho,hd⟩
end
section
variable {X:Cx} {N':List Str} {scope:Scope} {elt iter:Expr} {x:Str} {px pos:Pos} {wi:TI} {te:TE} {ix:List Nat}
theorem zkf {b:Nat} (hxe:∀ p∈X.ext,p.1∉N'∧(X.env.kindOf p.1=some .cell∨X.env.kindOf p.1=some .free)∧((relabel scope X.env).names.lookup p.1=some .cell∨(relabel scope X.env).names.lookup p.1=some .free)) (hc:X.calm=true) (hkind:scope.kind=.function) (hcell:∀ y∈scope.names,y.2≠.cell) (hnames:∀ y∈scope.names,y.2=.local→scope.names.lookup y.1=some .local) (hx:scope.names.lookup x=some .local)
  (hclo:X.Ok→∃ cl,Clo X scope cl) (hN:N'.Nodup) (hN0:N'[0]?=some x) (hlen:N'.length=ix.length+1)
  (hix:∀(j i:Nat),ix[j]?=some i→∃ y,X.N[i]?=some y∧N'[j+1]?=some y∧(X.env.kindOf y=some .cell∨X.env.kindOf y=some .free)∧((relabel scope X.env).names.lookup y=some .cell∨(relabel scope X.env).names.lookup y=some .free))
  (hi:PI X (.Name x px) iter wi) (he:∀ cl fp s₃ H₃,PEk (zbx X N' scope cl fp s₃ H₃) b elt te) (hs:∀ v,foldedSetIterable iter X.env v=pure v) {use:Option (Value→Sem Unit)} {Qf:Value→Shared→Prop} {pins:List (Addr × Obj)} {s:Shared} {σ:St} {H:Hp} {Q:VK} {cp:Pos} (I:Inv X pins σ H s) (hbs:b≤s.toks) (h:tLC wi ix te σ H Q)
  (fin:∀(cl:List (Str × Addr)) (fp:List Addr) (s3 s6:Shared) (H3 H5:Hp) (σ6:St) (D:Addr),Inv X pins σ H3 s3→Inv (zaj X N' scope cl fp s3 H3) [] σ6 H5 s6→(∀ b∈fp,zbh X pins H3 b)→Q (.ref D) H5→compPost (model X.prog X.w) X.A X.xe use Qf (.ref D) s3.heap.objs.size (.ok .next) s6) :
  wpAny (model X.prog X.w) X.A (comprehension (.ListComp elt [⟨.Name x px,iter,[],0⟩] scope pos) scope X.env cp (newList []) false (eval iter X.env) use) Qf X.xe s:=by
 obtain⟨cl,C⟩:=hclo I.ok
 refine wpAny_comprehension_free rfl hs C.eq hkind hnames (thk hbs (hi pins s σ H _ I h) fun v s1 h1 hb1=>thk hb1 h1 fun itv s2 h2 hb2=>?_)
 obtain⟨it,fp,tn,J,H2,e,I2,T,st2,f2,q2⟩:=h2
 subst e
 have hD:H2 s2.heap.objs.size=none:=I2.fresh
 obtain⟨W,⟨m0,w0⟩,turn⟩:=q2 s2.heap.objs.size hD
 refine wpAny_newObj_type (wpAny_newFunctionEnv hcell (by intro y hy;simp at hy) (fun h₁ hns₁ hsb₁=>?_) hkind)
 dsimp only at hns₁ hsb₁ ⊢
 have I3:Inv X pins σ (upd H2 s2.heap.objs.size (.lst [])) { s2 with heap:=s2.heap.push { cls:=.type "list",data:=.seq ([]:List Value).toArray },toks:=s2.toks }:=I2.lnew .nil (Nat.zero_le _)
 generalize hs3:({ s2 with heap:=s2.heap.push { cls:=.type "list",data:=.seq ([]:List Value).toArray },toks:=s2.toks }:Shared)=s3 at I3
 have e3:s3.heap=s2.heap.push { cls:=.type "list",data:=.seq ([]:List Value).toArray }:=by rw[←hs3]
 generalize hDD:s2.heap.objs.size=D at *
 generalize hH3:upd H2 D (.lst [])=H3 at *
 have lt2:∀ b∈fp,b < s2.heap.objs.size:=fun b hb=>by
  obtain⟨o,ho,_⟩:=T.obj 0 _ st2 b hb
  exact Heap.lt_size ho
 have neD:∀ b∈fp,b≠D:=fun b hb=>by rw[←hDD];exact Nat.ne_of_lt (lt2 b hb)
 have f3:∀ b∈fp,zbh X pins H3 b:=fun b hb=>⟨by rw[←hH3,ai (neD b hb)];exact(f2 b hb).1,(f2 b hb).2⟩
 have sz3:s3.heap.objs.size=D+1:=by rw[e3,Heap.size_push,hDD]
 have lt3:∀ b∈fp,b < s3.heap.objs.size:=fun b hb=>by have q:=lt2 b hb;rw[sz3];rw[hDD]at q;exact Nat.lt_succ_of_lt q
 have old:∀ b o,s3.heap.get? b=some o→h₁.get? b=some o:=fun b o eb=>by
  have hb:b < D+1:=by rw[←sz3];exact Heap.lt_size eb
  refine hsb₁.extBut b o ?_ (Heap.get?_push_of_some _ (by rw[←e3];exact eb))
  rw[Heap.size_push,hDD]
  exact Nat.ne_of_lt hb
 have szC:(s2.heap.push { cls:=.type "list",data:=.seq ([]:List Value).toArray }).objs.size=s3.heap.objs.size:=by rw[e3]
 have os3:s3.os=s2.os:=by rw[←hs3]
 rw[szC]at hns₁ hsb₁
 have I4:Inv (zbx X N' scope cl fp s3 H3) [] (none :: fvs σ ix) H3 { s3 with heap:=h₁,toks:=s2.toks+([]:List (Str × Value)).length }:=zhH hxe I3 C (zcB I3 C hkind f3 lt3 hlen hix hns₁ old) old
 have st4:tn 0 h₁:=T.keep 0 _ _ st2 fun b hb o eb=>old b o (by rw[e3];exact Heap.get?_push_of_some _ eb)
 have stat:∀ {H':Hp},(∀ b∈fp,H' b=none)→∀ b∈fp,zbh (zbx X N' scope cl fp s3 H3) [] H' b:=fun hn b hb =>
  ⟨hn b hb,Nat.ne_of_lt (lt3 b hb),fun hs'=>(zbJ (N':=N') I3 C hkind f3 lt3).exfs b hb hs',.inl hb,fun y c hy=>((zbJ (N':=N') I3 C hkind f3 lt3).exf b hb).2 y c hy,fun p hp=>absurd (show p∈([]:List (Addr × Obj)) from hp) (by simp)⟩
 have loop:∀ s4:Shared,s4={ s3 with heap:=h₁,toks:=s2.toks+([]:List (Str × Value)).length } →
   codeAny (model X.prog X.w) X.A (.compLoop (.ListComp elt [⟨.Name x px,iter,[],0⟩] scope pos) 0 (.ref it) (.ref D) (compEnvC scope cl s3.heap.objs.size X.env))
    (compPost (model X.prog X.w) X.A X.xe use Qf (.ref D) s3.heap.objs.size) s4:=by
  rintro s4 rfl
  refine zcj (fun n s'=>∃ i σ0 H' ys,Inv (zbx X N' scope cl fp s3 H3) [] (σ0 :: fvs σ ix) H' s'∧tn i s'.heap∧(∀ b∈fp,H' b=none)∧W i n ys H'∧b≤s'.toks) ?_ m0 ⟨0,none,H3,[],I4,st4,fun b hb=>(f3 b hb).1,w0,by rw[←hs3]at *;exact hb2⟩
  rintro n s5 ⟨i,σ0,H5,ys,I5,st5,fr5,w5,hb5⟩
  obtain⟨hD5,alt⟩:=turn i n ys H5 w5
  rcases alt with ⟨stop,q⟩ | ⟨go,step⟩
  ·refine thn (T.done (zbx X N' scope cl fp s3 H3) rfl rfl rfl hc i [] s5 _ H5 _ I5 (stat fr5) st5 stop) fun r s6 ⟨hr,I6⟩=>?_
   subst hr
   exact fin cl fp s3 s6 H3 H5 _ D I3 (I6.dropE rfl) f3 q
  ·refine thk hb5 (T.item (zbx X N' scope cl fp s3 H3) rfl rfl rfl hc i [] s5 _ H5 _ I5 (stat fr5) st5 go) fun r s6 ⟨u,hr,h6⟩ hb6=>?_
   subst hr
   refine thk hb6 h6 fun _ s7 ⟨y7,H7,I7,r7,yl7,st7,fr7⟩ hb7=>?_
   have I7':=I7.pinned (stat fr7) (T.obj _ _ st7)
   have G:PG (zbx X N' scope cl fp s3 H3) (.Name x px) (zbl 0):=zbv hN hN0 (.inl (lookup_relabel_local hx)) (.inr (lookup_relabel_local hx))
   refine wpAny_mono (wpAny_toks_of hb7 (G _ s7 _ H7 y7 u (fun σ' H'=>σ'=some y7 :: fvs σ ix∧H'=H7) I7' r7 ⟨rfl,rfl⟩)) (fun _ s8 h8=>?_) fun _ _ f=>False.elim f.2
   obtain⟨hb8,σ8,H8,I8,rfl,rfl⟩:=h8
   refine wpAny_mono (wpAny_toks_of hb8 ((he cl fp s3 H3).run _ s8 _ H8 _ I8 hb8 (step y7 H8 yl7))) (fun yv s9 h9=>?_) fun _ _ f=>False.elim f.2
   obtain⟨hb9,y9,H9,I9,r9,hD9,hl9,m',hm',w9⟩:=h9
   refine wpAny_mono (wpAny_toks_of hb9 (zbs (X:=zbx X N' scope cl fp s3 H3) _ s9 _ H9 (.ref D) [y9] (.ref D) [yv] (fun _ H'=>H'=upd H9 D (.lst (ys++[y9]))) I9 rfl (.cons r9 .nil) ⟨D,ys,y9,rfl,rfl,hD9,hl9,rfl⟩)) (fun _ s10 h10=>?_) fun _ _ f=>False.elim f.2
   obtain⟨hb10,_,H10,I10,_,rfl⟩:=h10
   refine⟨m',hm',i+1,some y7,_,ys++[y9],I10.unpinned,T.keep _ _ _ st7 fun b hb o eb=>(I10.pin (b,o) (List.mem_append_right _ (List.mem_append_right _ (za4 hb eb)))).1,fun b hb=>?_,w9,hb10⟩
   obtain⟨o,eb,d⟩:=T.obj _ _ st7 b hb
   exact(I10.pin (b,o) (List.mem_append_right _ (List.mem_append_right _ (za4 hb eb)))).2.1
 subst hs3
 have fin':=codeAny_compStart_list (loop _ rfl) (T.self X.A 0 _ _ _ st4 (loop _ rfl))
 exact fin'
theorem zjy {b:Nat} (hxe:∀ p∈X.ext,p.1∉N'∧(X.env.kindOf p.1=some .cell∨X.env.kindOf p.1=some .free)∧((relabel scope X.env).names.lookup p.1=some .cell∨(relabel scope X.env).names.lookup p.1=some .free)) {i:Nat} {y0:Str} {py spos:Pos} (hNy:X.N.Nodup) (hiy:X.N[i]?=some y0) (hy:Loc X.env.scope y0) (hc:X.calm=true) (hkind:scope.kind=.function) (hcell:∀ y∈scope.names,y.2≠.cell) (hnames:∀ y∈scope.names,y.2=.local→scope.names.lookup y.1=some .local) (hx:scope.names.lookup x=some .local)
  (hclo:X.Ok→∃ cl,Clo X scope cl) (hN:N'.Nodup) (hN0:N'[0]?=some x) (hlen:N'.length=ix.length+1)
  (hix:∀(j i:Nat),ix[j]?=some i→∃ y,X.N[i]?=some y∧N'[j+1]?=some y∧(X.env.kindOf y=some .cell∨X.env.kindOf y=some .free)∧((relabel scope X.env).names.lookup y=some .cell∨(relabel scope X.env).names.lookup y=some .free))
  (hi:PI X (.Name x px) iter wi) (he:∀ cl fp s₃ H₃,PEk (zbx X N' scope cl fp s₃ H₃) b elt te) (hsw:swapsWith (.ListComp elt [⟨.Name x px,iter,[],0⟩] scope pos) (some (.Name y0 py)) spos.line X.env=pure true:=by rfl)
  (hf:X.fn y0=true∨X.env.scope.names.lookup y0=some .local:=by first | exact .inl rfl | exact .inr rfl | assumption) (hs:∀ v,foldedSetIterable iter X.env v=pure v:=by intro _;rfl) :
  PSk X b (.Assign [.Name y0 py] (.ListComp elt [⟨.Name x px,iter,[],0⟩] scope pos) spos) (zcq (tLC wi ix te) (zbl i)):=by
 refine⟨fun pins s σ H Dn I hbs h=>?_⟩
 rw[exec_Assign_Name_used _ _ _ _ hsw]
 refine wpAny_bind (wpAny_standAt (wpAny_bind ?_))
 rw[arm_evalThenUse_ListComp]
 refine wpAny_bind (wpAny_mono (zkf hxe (use:=some (assign (.Name y0 py) X.env)) (Qf:=fun _ s'=>∃ σ' H',Inv X pins σ' H' s'∧Dn.nx σ' H') (Q:=fun x H1=>zbl i x σ H1 Dn.nx) hc hkind hcell hnames hx hclo hN hN0 hlen hix hi he hs I hbs h fun cl fp s3 s6 H3 H5 σ6 D I3 I6 f3 q=>?_) (fun _ s' h'=>wpAny_pure (wpAny_pure h')) fun _ _ z=>z)
 obtain⟨m,hn,_⟩:=I6.loc
 have Io:Inv X pins σ H5 s6:=zcg (h':=s6.heap) I3 I6 f3 ⟨rfl,fun _ _=>rfl⟩
 refine wpAny_assign_Name (zc0 (v:=.ref D) Io hNy hiy hy rfl (fun s7 I7 ⟨a,sb,ha⟩=>?_) hf)
 have ltC:∀ x c,X.env.cells.lookup x=some c→c < s3.heap.objs.size:=fun x c e=>by
  obtain⟨v,hv⟩:=I3.cell x c e
  exact hv.lt
 have hCa:s3.heap.objs.size≠a:=by
  rintro rfl
  rcases ha with z | z
  ·exact absurd I3.lt (by rw[←z];exact Nat.lt_irrefl _)
  ·exact absurd (ltC _ _ z) (Nat.lt_irrefl _)
 refine⟨m,hn.sameBut sb hCa,fun h' hsb=>⟨_,H5,?_,q⟩⟩
 exact I7.skip hsb I3.sz (Nat.ne_of_gt I3.lt) (fun x c e=>Nat.ne_of_lt (ltC x c e)) (fun p hp=>Nat.ne_of_lt (Heap.lt_size (I3.pin p hp).1)) I6.free
end
section
variable {X:Cx} {b:Nat} {e:Expr} {st:Stmt} {rest:List Stmt} {te:TE} {t u:TS} {pos:Pos}
theorem zfJ {tg:Expr} {g:TG} (he:PEk X b e te) (hg:PG X tg g) (hs:swapsWithSole [tg] e pos.line X.env=pure false:=by rfl) (hw:swappedStores [tg] e X.env=pure none:=by rfl)
  (h1:(assignEach [tg] X.env).map (·.2)=[assign tg X.env]:=by rfl):PSk X b (.Assign [tg] e pos) (zcq te g):=by
 refine⟨fun pins s σ H D I hb h=>?_⟩
 refine wpAny_Assign_stores (thn (he.run pins s σ H _ I hb h) fun v s1 ⟨x,H1,I1,r1,q1⟩=>?_) hs hw
 rw[h1]
 exact thn (hg pins s1 σ H1 x v _ I1 r1 q1) fun _ s2 q=>q
def PEm (X:Cx) (b:Nat) (e:Expr) (t:TE):Prop :=
 ∀(pins:List (Addr × Obj)) (s:Shared) (σ:St) (H:Hp) (Q:VK),Inv X pins σ H s→b≤s.toks→t σ H Q →
  wpAny (model X.prog X.w) X.A (eval e X.env) (fun v s'=>∃(z:Str) (k:Nat) (H':Hp),v=.str z k∧k≠0∧k < s'.toks∧Inv X pins σ H' s'∧Q (.str z) H') X.xe s
theorem zkR {c:Str} {j:Nat} {p1 p2:Pos} (he:PE X e te):PEm X 1 (.BinOp (.Constant (.str c) j p1) .Add e p2) (fun σ H Q=>te σ H fun v H1=>∃ y:Str,v=.str y∧c.length≠0∧(c++y).length≤sizeLine∧Q (.str (c++y)) H1):=by
 intro pins s σ H Q I hb h
 refine wpAny_BinOp (Calls.Constant_str (k:=j) (pos:=p1) ?_)
 refine thk (b:=s.toks+1) (s:={ s with toks:=s.toks+1 }) (Nat.le_refl _) (he pins _ σ H _ (I.tok _) h) fun u s1 ⟨v,H1,I1,r1,y,ev,c0,hz,q⟩ hb1=>?_
 subst ev
 obtain⟨t1,rfl⟩:=r1
 refine PySem.P.add_str ?_
 rw[if_neg (by simpa using c0)]
 by_cases y0:y.length=0
 ·rw[if_pos (by simpa using y0)]
  have e:c++y=c:=by
   have:y=⟨#[]⟩:=by
    cases y with | mk a=>exact congrArg Str.mk (Array.eq_empty_of_size_eq_zero y0)
   subst this
   show Str.mk (c.cps++#[])=c
   rw[Array.append_empty]
  rw[e]at q
  exact⟨c,s.toks,H1,rfl,by omega,by omega,I1,q⟩
 ·rw[if_neg (by simpa using y0)]
  exact⟨hz,_,s1.toks,H1,rfl,by omega,Nat.lt_succ_self _,I1.tok _,q⟩
end
end L2
namespace PySem
section
variable {M:Model} {A:Around} {s₀:Shared} {env:Env}
theorem zbK (f:Str × Value→PUnit→Sem (ForInStep PUnit)) (hf:∀ n v u,f (n,v) u=(do storeName env n v;pure (.yield ⟨⟩))) (hk:env.scope.kind=.function) :
  ∀(binds:List (Str × Value)) (m cm:Str→Option Value) (s:Shared) (Q:PUnit→Shared→Prop) (E:Value→Shared→Prop),InCallC s₀ env.locals m env.cells cm s →
   (∀ x∈binds,env.kindOf x.1=some .local∨(env.kindOf x.1=some .cell∧(env.cells.lookup x.1).isSome=true)) →
   (∀ s',InCallC s₀ env.locals (bindL env.kindOf binds m) env.cells (bindC env.kindOf binds cm) s'→((∃ x∈binds,env.kindOf x.1=some .local)→1≤s'.toks)→Q ⟨⟩ s')→wpAny M A (forIn binds ⟨⟩ f) Q E s
 | [],m,cm,s,Q,E,x,_,h=>by rw[List.forIn_nil];exact wpAny_pure (h s x fun⟨_,z,_⟩=>nomatch z)
 | (n,v) :: r,m,cm,s,Q,E,x,hkind,h=>by
  rw[List.forIn_cons,hf]
  have hr:∀ y∈r,env.kindOf y.1=some .local∨(env.kindOf y.1=some .cell∧(env.cells.lookup y.1).isSome=true):=fun y hy=>hkind y (List.mem_cons_of_mem _ hy)
  rcases hkind (n,v) List.mem_cons_self with hl | ⟨hl,hc⟩
  ·refine wpAny_bind (wpAny_bind (wpAny_storeName_local hl x.toInCall.ns (fun h' hn' hs'=>wpAny_pure ?_) (by rw[hk];rfl)))
   have x':InCallC s₀ env.locals (fun y=>if y=n then some v else m y) env.cells cm { s with heap:=h',toks:=s.toks+1 }:=by
    refine⟨⟨?_,hn',fun b o e=>?_,x.toInCall.fresh⟩,fun k c hc=>?_,x.apart,x.above⟩
    ·obtain⟨h₁,tk,rfl⟩:=x.toInCall.same
     exact⟨h',_,rfl⟩
    ·exact hs'.extBut b o (Nat.ne_of_lt (Nat.lt_of_lt_of_le (Heap.lt_size e) x.toInCall.fresh)) (x.toInCall.keep b o e)
    ·exact(x.cell k c hc).sameBut hs' (Nat.ne_of_gt (x.above k c (mem_of_lookup hc)))
   refine wpAny_with_toks (n:=1) (Nat.le_add_left 1 _) (zbK f hf hk r _ _ _ _ _ x' hr fun s'' x'' _ h1=>h s'' ?_ fun _=>h1)
   unfold bindL bindC;rw[if_pos hl,if_pos hl];exact x''
  ·obtain⟨c,hc⟩:=Option.isSome_iff_exists.mp hc
   have hnl:¬env.kindOf n=some .local:=by rw[hl];decide
   refine wpAny_bind (wpAny_bind (stCC x hk hl hc fun s' x'=>wpAny_pure (zbK f hf hk r _ _ s' Q E x' hr fun s'' x'' ht=>h s'' ?_ ?_)))
   ·unfold bindL bindC;rw[if_neg hnl,if_neg hnl];exact x''
   ·rintro ⟨y,hy,hyl⟩
    rcases List.mem_cons.mp hy with rfl | hy
    ·exact absurd hyl hnl
    ·exact ht ⟨y,hy,hyl⟩
variable {E:Value→Shared→Prop} {s:Shared}
theorem zcp {scope:Scope} {globals:Addr} {binds:List (Str × Value)} {qual:Str} {func:Option Addr} {code:Value} {builtins:Addr} {Q:Env→Shared→Prop}
  (hk:scope.kind=.function)
  (hkind:∀ x∈binds,scope.names.lookup x.1=some .local∨(scope.names.lookup x.1=some .cell∧((cellsFrom (s.heap.objs.size+1) scope.names []).lookup x.1).isSome=true))
  (hQ:∀ env,env=newEnv scope s.heap.objs.size globals (cellsFrom (s.heap.objs.size+1) scope.names []) qual func code none builtins →
   ∀ s',InCallC s env.locals (bindL env.kindOf binds fun _=>none) env.cells (bindC env.kindOf binds fun _=>none) s'→((∃ x∈binds,env.kindOf x.1=some .local)→1≤s'.toks)→Q env s') :
  wpAny M A (newFunctionEnv scope globals [] binds qual func code none builtins) Q E s:=by
 simp only[newFunctionEnv,Option.isSome_none,Bool.false_eq_true,if_false]
 refine wpAny_bind (wpAny_alloc ?_)
 refine wpAny_bind (wpAny_layCells _ (fun name kind cells=>by cases hkc:kind == NameKind.cell <;> simp [hkc]) _ _ _ _ ?_)
 have ok:=cellsFrom_ok scope.names (s.heap.push { cls:=.type "frame",data:=.dict #[] }) (s.heap.objs.size+1) [] ⟨fun _ _ hm=>(nomatch hm),List.Pairwise.nil⟩ (by rw[Heap.size_push];exact Nat.le_refl _)
 rw[Heap.size_push]at ok
 rw[show({ s with heap:=s.heap.push { cls:=.type "frame",data:=.dict #[] } }:Shared).heap.objs.size=s.heap.objs.size+1 from Heap.size_push ..]
 refine wpAny_bind (zbK (s₀:=s) (env:=newEnv scope s.heap.objs.size globals (cellsFrom (s.heap.objs.size+1) scope.names []) qual func code none builtins)
  _ (fun _ _ _=>rfl) hk binds (fun _=>none) (fun _=>none) _ _ _
  ⟨⟨⟨_,_,rfl⟩,(Heap.Ns.new s.heap (.type "frame")).keeps (pushCells_keeps _ _),fun b o e=>pushCells_keeps _ _ b o (Heap.get?_push_of_some _ e),Nat.le_refl _⟩,
   fun n c hc=>(ok.empty n c (mem_of_lookup hc)).1,ok.apart,fun n c hm=>(ok.empty n c hm).2⟩
  hkind fun s' x h1=>wpAny_pure (hQ _ rfl s' x h1))
end
end PySem
namespace L2
open PySem PySem.Spec PyProof.Rows
theorem fn_of1 {CX:CXT} {P:Program} {w:World} {K:W.Frag} {mg:Str→Option Value} {base:Heap} {k:Nat} {f:Addr} {name qual:Str} {params:Arguments} {body:List Stmt} {scope:Scope} {dV kV doc pm cdv ct oc:Value} {an od:Option Addr}
  {osl:Array (Option Value)} {N ps:List Str} {sp:Sp} {j:Nat} {y:Str} (lk:K.lookup f=some ⟨oc,od,.func (W.fnOf name qual params body scope dV kV doc pm an cdv ct),osl⟩) (hcd:W.codeIn K cdv qual=true) (S:zaa N ps scope)
  (hj:ps[j]?=some y) (hyl:scope.names.lookup y=some .local) (len:∀ vs H Q E,sp vs H Q E→vs.length=ps.length)
  (hbody:∀(A:Around) (outer:List Env) (s:Shared) (H:Hp) (vs:List V) (Q:VK) (E:XK),zai k (A.deeper (envOfC qual scope s.heap.objs.size f cdv))→sp vs H Q E →
   ∃ t,zaV (zak CX P w K mg base N qual scope f cdv A outer s H E) 1 body t∧t { nx:=fun _ H'=>Q .non H',rt:=Q } (zbj N vs) H) :
  FnOk P w K mg base CX (k+1) f (W.fnOf name qual params body scope dV kV doc pm an cdv ct) ps sp:=by
 refine⟨len,fun A outer s H args us vs Q E hr e0 hb r hsp=>?_⟩
 have hl:=len _ _ _ _ hsp
 have KX:K.In s.heap:=e0.mod.kin.keeps fun b o e=>(e0.bs b o e).1
 have lim:s.heap.NoLimit:=e0.mod.nolimit.keeps fun b o e=>(e0.bs b o e).1
 have hkind:∀ y∈ps.zip us,scope.names.lookup y.1=some .local∨(scope.names.lookup y.1=some .cell∧((cellsFrom (s.heap.objs.size+1) scope.names []).lookup y.1).isSome=true):=fun⟨n,v⟩ hy=>by
  rcases S.par n (List.of_mem_zip hy).1 with q | q
  ·exact .inl q
  ·exact .inr ⟨q,W.cellsFrom_some _ _ _ (.inl q)⟩
 refine codeAny_call_function hr.depth (KX _ _ lk) rfl S.co S.gen rfl (W.codeRec_of KX hcd) (hb _ _ _ _ ?_)
 refine zcp S.kind hkind fun env he s1 x h1=>?_
 subst he
 refine⟨lim.keeps x.toInCall.keep,codeAny_func ?_⟩
 obtain⟨t,ht,hq⟩:=hbody A outer s H vs Q E (hr.deeper _) hsp
 have I:Inv (zak CX P w K mg base N qual scope f cdv A outer s H E) [] (zbj N vs) H s1:=zd8 S hr.hd e0 hl r x
 have ul:us.length=ps.length:=by rw[←r.length];exact hl
 have hb1:1≤s1.toks:=by
  refine h1 ?_
  obtain⟨hjl,ej⟩:=List.getElem?_eq_some_iff.mp hj
  refine⟨(y,us[j]'(by omega)),?_,hyl⟩
  have:(ps.zip us)[j]?=some (y,us[j]'(by omega)):=by
   rw[List.getElem?_zip_eq_some]
   exact⟨hj,List.getElem?_eq_getElem _⟩
  exact List.mem_of_getElem? this
 refine wpAny_mono (ht.run [] s1 (zbj N vs) H _ I hb1 hq) (fun fl s' hs=>?_) fun e s' hs=>hs
 have fin:∀ {σ':St} {H':Hp} {v:V} {u:Value},Inv (zak CX P w K mg base N qual scope f cdv A outer s H E) [] σ' H' s'→ax v u→Q v H'→CE outer P w H s Q u s' :=
  fun {σ' H' v u} J rv q=>⟨v,H',J.os,J.bare,J.base,J.hok,rv,q⟩
 cases fl with
 | ret u =>
  obtain⟨v,σ',H',J,rv,q⟩:=hs
  exact fin J rv q
 | next =>
  obtain⟨σ',H',J,q⟩:=hs
  exact fin (v:=V.non) (u:=Value.none) J rfl q
 | brk =>
  obtain⟨_,_,_,q⟩:=hs
  exact False.elim q
 | cont =>
  obtain⟨_,_,_,q⟩:=hs
  exact False.elim q
theorem Fun.ok1 {P:Program} {w:World} {K:W.Frag} {mg:Str→Option Value} {base:Heap} {x qual:Str} {st:Stmt} {f:Addr} {fd:FuncData} {N ps:List Str} {k:Nat} {sp:Sp} {j:Nat} {y:Str} (F:Fun K x qual st f fd) (S:zaa N ps (ad st)) (hj:ps[j]?=some y) (hyl:(ad st).names.lookup y=some .local) (len:∀ vs H Q E,sp vs H Q E→vs.length=ps.length)
  (hbody:∀(cdv:Value) (A:Around) (outer:List Env) (s:Shared) (H:Hp) (vs:List V) (Q:VK) (E:XK),zai k (A.deeper (envOfC qual (ad st) s.heap.objs.size f cdv))→sp vs H Q E →
   ∃ t,zaV (zak CX0 P w K mg base N qual (ad st) f cdv A outer s H E).nox 1 (zam st) t∧t { nx:=fun _ H'=>Q .non H',rt:=Q } (zbj N vs) H):FnOk P w K mg base CX0 (k+1) f fd ps sp:=by
 obtain⟨oc,od,kV,doc,pm,an,cdv,ct,osl,rfl,lk,hcd⟩:=F.ex
 refine fn_of1 lk hcd S hj hyl len fun A outer s H vs Q E hr hsp=>?_
 obtain⟨t,h,q⟩:=hbody cdv A outer s H vs Q E hr hsp
 exact⟨t,zaV.nox h,q⟩
section
variable {X:Cx} {b:Nat} {e:Expr} {rest:List Stmt} {te:TE} {pos:Pos}
def tMade (i:Nat) (te:TE) (u:Str→Nat→TS):TS:=fun D σ H=>te σ H fun v H1=>∀ z,v=.str z→∀ k,k≠0→u z k { nx:=fun _ _=>False,rt:=D.rt } (σ.set i none) H1
theorem SP.unput {pins:List (Addr × Obj)} {D:zaM} {f:Flow} {s:Shared} {i:Nat} {y:Str} {u:Value} (ok:X.Ok) (hx:X.ext=[]) (h:SP (X.put i y u) pins { nx:=fun _ _=>False,rt:=D.rt } f s):SP X pins D f s:=by
 cases f with
 | next=>obtain⟨_,_,_,q⟩:=h;exact q.elim
 | brk=>obtain⟨_,_,_,q⟩:=h;exact(show False from q).elim
 | cont=>obtain⟨_,_,_,q⟩:=h;exact(show False from q).elim
 | ret u=>obtain⟨v,σ',H',I,r,q⟩:=h;exact⟨v,_,H',I.unput ok hx,r,q⟩
theorem zjx {i:Nat} {y:Str} {pos':Pos} {u:Str→Nat→TS} (hN:X.N.Nodup) (hi:X.N[i]?=some y) (hy:y≠"%") (hyl:X.env.scope.names.lookup y=some .cell) (hfn:X.fn y=true) (hx:X.ext=[]) (he:PEm X b e te) (hr:∀ z k,k≠0→zaV (X.put i y (.str z k)) (k+1) rest (u z k))
  (hs:swapsWith e (some (.Name y pos')) pos.line X.env=pure false:=by rfl):zaV X b (.Assign [.Name y pos'] e pos :: rest) (tMade i te u):=by
 refine⟨fun pins s σ H D I hb h=>?_⟩
 refine wpAny_execs_cons (wpAny_Assign_Name (thn (he pins s σ H _ I hb h) fun v s1 ⟨z,k,H1,ev,k0,kl,I1,q1⟩=>?_) hs)
 subst ev
 refine wpAny_mono (wpAny_toks (zf2 (v:=.str z) (Q:=fun _ s2=>Inv X pins (σ.set i (some (.str z))) H1 s2∧∃ m,s2.heap.Ns X.env.locals m∧Look X.env s2.heap m y (.str z k)) I1 hN hi (.inr hyl) ⟨k,rfl⟩ (fun s2 I2 _ l=>⟨I2,l⟩) (.inl hfn))) (fun _ s2 h2=>?_) (fun _ _ h=>h.2)
 obtain⟨hb2,I2,l⟩:=h2
 have I3:=I2.put (u:=.str z k) hN hi hy l
 rw[List.set_set]at I3
 refine wpAny_mono ((hr z k k0).run pins s2 _ H1 _ I3 (Nat.lt_of_lt_of_le kl hb2) (q1 z rfl k k0)) (fun f s' q=>SP.unput I1.ok hx q) fun _ _ q=>q
end
end L2
namespace L2
open PySem PySem.Spec PyProof.Rows
section
variable {X:Cx} {N':List Str} {scope:Scope} {elt iter:Expr} {x:Str} {px pos:Pos} {wi:TI} {te:TE} {ix:List Nat} {E:XK}
theorem zf4 (hx1:Xe1 X E) {i:Nat} {y0:Str} {py spos:Pos} (hNy:X.N.Nodup) (hiy:X.N[i]?=some y0) (hy:Loc X.env.scope y0) (hc:X.calm=true) (hkind:scope.kind=.function) (hcell:∀ y∈scope.names,y.2≠.cell) (hnames:∀ y∈scope.names,y.2=.local→scope.names.lookup y.1=some .local) (hx:scope.names.lookup x=some .local)
  (hclo:X.Ok→∃ cl,Clo X scope cl) (hN:N'.Nodup) (hN0:N'[0]?=some x) (hlen:N'.length=ix.length+1)
  (hix:∀(j i:Nat),ix[j]?=some i→∃ y,X.N[i]?=some y∧N'[j+1]?=some y∧(X.env.kindOf y=some .cell∨X.env.kindOf y=some .free)∧((relabel scope X.env).names.lookup y=some .cell∨(relabel scope X.env).names.lookup y=some .free))
  (hi:PI X (.Name x px) iter wi) (he:∀ cl fp s₃ H₃ xe0,zbg (CX1 X.prog X.w) ((zaj X N' scope cl fp s₃ H₃).wish xe0) E→PE ((zaj X N' scope cl fp s₃ H₃).wish xe0) elt te) (hsw:swapsWith (.ListComp elt [⟨.Name x px,iter,[],0⟩] scope pos) (some (.Name y0 py)) spos.line X.env=pure true:=by rfl)
  (hf:X.fn y0=true∨X.env.scope.names.lookup y0=some .local:=by first | exact .inl rfl | exact .inr rfl | assumption) (hs:∀ v,foldedSetIterable iter X.env v=pure v:=by intro _;rfl) :
  PS X (.Assign [.Name y0 py] (.ListComp elt [⟨.Name x px,iter,[],0⟩] scope pos) spos) (zcq (tLC wi ix te) (zbl i)):=by
 intro pins s σ H Dn I h
 obtain⟨cl,C⟩:=hclo I.ok
 rw[exec_Assign_Name_used _ _ _ _ hsw]
 refine wpAny_bind (wpAny_standAt (wpAny_bind ?_))
 rw[arm_evalThenUse_ListComp]
 refine wpAny_bind (wpAny_mono (wpAny_comprehension_free (use:=some (assign (.Name y0 py) X.env)) (Q:=fun _ s'=>∃ σ' H',Inv X pins σ' H' s'∧Dn.nx σ' H') rfl hs C.eq hkind hnames (thn (hi pins s σ H _ I h) fun v s1 h1=>thn h1 fun itv s2 h2=>?_)) (fun _ s' h'=>wpAny_pure (wpAny_pure h')) fun _ _ z=>z)
 obtain⟨it,fp,tn,J,H2,e,I2,T,st2,f2,q2⟩:=h2
 subst e
 have hD:H2 s2.heap.objs.size=none:=I2.fresh
 obtain⟨W,⟨m0,w0⟩,turn⟩:=q2 s2.heap.objs.size hD
 refine wpAny_newObj_type (wpAny_newFunctionEnv hcell (by intro y hy;simp at hy) (fun h₁ hns₁ hsb₁=>?_) hkind)
 dsimp only at hns₁ hsb₁ ⊢
 have I3:Inv X pins σ (upd H2 s2.heap.objs.size (.lst [])) { s2 with heap:=s2.heap.push { cls:=.type "list",data:=.seq ([]:List Value).toArray },toks:=s2.toks }:=I2.lnew .nil (Nat.zero_le _)
 generalize hs3:({ s2 with heap:=s2.heap.push { cls:=.type "list",data:=.seq ([]:List Value).toArray },toks:=s2.toks }:Shared)=s3 at I3
 have e3:s3.heap=s2.heap.push { cls:=.type "list",data:=.seq ([]:List Value).toArray }:=by rw[←hs3]
 generalize hDD:s2.heap.objs.size=D at *
 generalize hH3:upd H2 D (.lst [])=H3 at *
 have lt2:∀ b∈fp,b < s2.heap.objs.size:=fun b hb=>by
  obtain⟨o,ho,_⟩:=T.obj 0 _ st2 b hb
  exact Heap.lt_size ho
 have neD:∀ b∈fp,b≠D:=fun b hb=>by rw[←hDD];exact Nat.ne_of_lt (lt2 b hb)
 have f3:∀ b∈fp,zbh X pins H3 b:=fun b hb=>⟨by rw[←hH3,ai (neD b hb)];exact(f2 b hb).1,(f2 b hb).2⟩
 have sz3:s3.heap.objs.size=D+1:=by rw[e3,Heap.size_push,hDD]
 have lt3:∀ b∈fp,b < s3.heap.objs.size:=fun b hb=>by have q:=lt2 b hb;rw[sz3];rw[hDD]at q;exact Nat.lt_succ_of_lt q
 have old:∀ b o,s3.heap.get? b=some o→h₁.get? b=some o:=fun b o eb=>by
  have hb:b < D+1:=by rw[←sz3];exact Heap.lt_size eb
  refine hsb₁.extBut b o ?_ (Heap.get?_push_of_some _ (by rw[←e3];exact eb))
  rw[Heap.size_push,hDD]
  exact Nat.ne_of_lt hb
 have szC:(s2.heap.push { cls:=.type "list",data:=.seq ([]:List Value).toArray }).objs.size=s3.heap.objs.size:=by rw[e3]
 have os3:s3.os=s2.os:=by rw[←hs3]
 rw[szC]at hns₁ hsb₁
 have I4:Inv (zaj X N' scope cl fp s3 H3) [] (none :: fvs σ ix) H3 { s3 with heap:=h₁,toks:=s2.toks+([]:List (Str × Value)).length }:=zcB I3 C hkind f3 lt3 hlen hix hns₁ old
 have st4:tn 0 h₁:=T.keep 0 _ _ st2 fun b hb o eb=>old b o (by rw[e3];exact Heap.get?_push_of_some _ eb)
 have stat:∀ {H':Hp},(∀ b∈fp,H' b=none)→∀ b∈fp,zbh (zaj X N' scope cl fp s3 H3) [] H' b:=fun hn b hb =>
  ⟨hn b hb,Nat.ne_of_lt (lt3 b hb),fun hs'=>(zbJ (N':=N') I3 C hkind f3 lt3).exfs b hb hs',.inl hb,fun y c hy=>((zbJ (N':=N') I3 C hkind f3 lt3).exf b hb).2 y c hy,fun p hp=>absurd (show p∈([]:List (Addr × Obj)) from hp) (by simp)⟩
 have loop:∀ s4:Shared,s4={ s3 with heap:=h₁,toks:=s2.toks+([]:List (Str × Value)).length } →
   codeAny (model X.prog X.w) X.A (.compLoop (.ListComp elt [⟨.Name x px,iter,[],0⟩] scope pos) 0 (.ref it) (.ref D) (compEnvC scope cl s3.heap.objs.size X.env))
    (compPost (model X.prog X.w) X.A X.xe (some (assign (.Name y0 py) X.env)) (fun _ s'=>∃ σ' H',Inv X pins σ' H' s'∧Dn.nx σ' H') (.ref D) s3.heap.objs.size) s4:=by
  rintro s4 rfl
  refine zcj (fun n s'=>∃ i σ0 H' ys,Inv (zaj X N' scope cl fp s3 H3) [] (σ0 :: fvs σ ix) H' s'∧tn i s'.heap∧(∀ b∈fp,H' b=none)∧W i n ys H') ?_ m0 ⟨0,none,H3,[],I4,st4,fun b hb=>(f3 b hb).1,w0⟩
  rintro n s5 ⟨i,σ0,H5,ys,I5,st5,fr5,w5⟩
  obtain⟨hD5,alt⟩:=turn i n ys H5 w5
  rcases alt with ⟨stop,q⟩ | ⟨go,step⟩
  ·refine thn (T.done (zaj X N' scope cl fp s3 H3) rfl rfl rfl hc i [] s5 _ H5 _ I5 (stat fr5) st5 stop) fun r s6 ⟨hr,I6⟩=>?_
   subst hr
   obtain⟨m,hn,_⟩:=I6.loc
   have Io:Inv X pins σ H5 s6:=zcg (h':=s6.heap) I3 I6 f3 ⟨rfl,fun _ _=>rfl⟩
   refine wpAny_assign_Name (zc0 (v:=.ref D) Io hNy hiy hy rfl (fun s7 I7 ⟨a,sb,ha⟩=>?_) hf)
   have ltC:∀ x c,X.env.cells.lookup x=some c→c < s3.heap.objs.size:=fun x c e=>by
    obtain⟨v,hv⟩:=I3.cell x c e
    exact hv.lt
   have hCa:s3.heap.objs.size≠a:=by
    rintro rfl
    rcases ha with z | z
    ·exact absurd I3.lt (by rw[←z];exact Nat.lt_irrefl _)
    ·exact absurd (ltC _ _ z) (Nat.lt_irrefl _)
   refine⟨m,hn.sameBut sb hCa,fun h' hsb=>⟨_,H5,?_,q⟩⟩
   exact I7.skip hsb I3.sz (Nat.ne_of_gt I3.lt) (fun x c e=>Nat.ne_of_lt (ltC x c e)) (fun p hp=>Nat.ne_of_lt (Heap.lt_size (I3.pin p hp).1)) I6.free
  ·refine thn (T.item (zaj X N' scope cl fp s3 H3) rfl rfl rfl hc i [] s5 _ H5 _ I5 (stat fr5) st5 go) fun r s6 ⟨u,hr,h6⟩=>?_
   subst hr
   refine thn h6 fun _ s7 ⟨y7,H7,I7,r7,yl7,st7,fr7⟩=>?_
   have I7':=I7.pinned (stat fr7) (T.obj _ _ st7)
   have G:PG (zaj X N' scope cl fp s3 H3) (.Name x px) (zbl 0):=zbv hN hN0 (.inl (lookup_relabel_local hx)) (.inr (lookup_relabel_local hx))
   refine wpAny_mono (G _ s7 _ H7 y7 u (fun σ' H'=>σ'=some y7 :: fvs σ ix∧H'=H7) I7' r7 ⟨rfl,rfl⟩) (fun _ s8 h8=>?_) fun _ _ f=>False.elim f
   obtain⟨σ8,H8,I8,rfl,rfl⟩:=h8
   refine wpAny_mono (he cl fp s3 H3 _ (zez (Qc:=fun _ s'=>∃ σ' H',Inv X pins σ' H' s'∧Dn.nx σ' H') (acc:=.ref D) hx1 I3 f3) _ s8 _ H8 _ (I8.wish _) (step y7 H8 yl7)) (fun yv s9 h9=>?_) fun _ _ f=>f
   obtain⟨y9,H9,I9w,r9,hD9,hl9,m',hm',w9⟩:=h9
   have I9:=I9w.unwish
   refine wpAny_mono (zbs (X:=zaj X N' scope cl fp s3 H3) _ s9 _ H9 (.ref D) [y9] (.ref D) [yv] (fun _ H'=>H'=upd H9 D (.lst (ys++[y9]))) I9 rfl (.cons r9 .nil) ⟨D,ys,y9,rfl,rfl,hD9,hl9,rfl⟩) (fun _ s10 h10=>?_) fun _ _ f=>False.elim f
   obtain⟨_,H10,I10,_,rfl⟩:=h10
   refine⟨m',hm',i+1,some y7,_,ys++[y9],I10.unpinned,T.keep _ _ _ st7 fun b hb o eb=>(I10.pin (b,o) (List.mem_append_right _ (List.mem_append_right _ (za4 hb eb)))).1,fun b hb=>?_,w9⟩
   obtain⟨o,eb,d⟩:=T.obj _ _ st7 b hb
   exact(I10.pin (b,o) (List.mem_append_right _ (List.mem_append_right _ (za4 hb eb)))).2.1
 subst hs3
 have fin:=codeAny_compStart_list (loop _ rfl) (T.self X.A 0 _ _ _ st4 (loop _ rfl))
 exact fin
end
end L2
namespace L2
open PySem PySem.Spec PyProof.Rows
section
variable {X:Cx} {CX:CXT} {k:Nat} {f C:Addr} {fd:FuncData} {ps:List Str} {sp:Sp} {dvs:List V} {ds:List Value} {E:XK} {x m:Str} {p pos apos:Pos} {e o:Expr} {es:List Expr} {ta:TE} {t:TA}
end
end L2
namespace L2
open PySem
section
variable {K:W.Frag} {h:Heap} {mg:Str→Option Value} {C f:Addr} {fd:FuncData} {n x q:Str} {st:Stmt} {oc kV doc pm cdv ct:Value} {od an:Option Addr} {osl:Array (Option Value)}
structure FT (K:W.Frag) (n x:Str) (st:Stmt) (f:Addr) (fd:FuncData):Prop where
 a:W.nsIn K mainGlobals n=some (some (.ref f))
 F:Fun K x x st f fd
 k:W.keepIn K (.ref f)=true
theorem FT.m (z:FT K n x st f fd) (X:K.In h) (G:h.Ns mainGlobals mg):mg n=some (.ref f):=W.mg_of X G z.a
theorem ft_in (a:W.nsIn K mainGlobals n=some (some (.ref f))) (l:K.lookup f=some ⟨oc,od,.func (W.fnOf x x (zbI st) (zam st) (ad st) .none kV doc pm an cdv ct),osl⟩) (c:W.codeIn K cdv x=true) (k:W.keepIn K (.ref f)=true):FT K n x st f (W.fnOf x x (zbI st) (zam st) (ad st) .none kV doc pm an cdv ct):=⟨a,zjj l c k,k⟩
structure FM (K:W.Frag) (C:Addr) (x q:Str) (st:Stmt) (f:Addr) (fd:FuncData):Prop where
 a:W.findIn K (.ref C) x=some (some (.ref f))
 i:W.isFn K (.ref f)=true
 F:Fun K x q st f fd
 k:W.keepIn K (.ref f)=true
theorem FM.M (z:FM K C x q st f fd):zbp K C x f:=⟨z.a,z.i,z.k⟩
theorem fm_in (a:W.findIn K (.ref C) x=some (some (.ref f))) (i:W.isFn K (.ref f)=true) (l:K.lookup f=some ⟨oc,od,.func (W.fnOf x q (zbI st) (zam st) (ad st) .none kV doc pm an cdv ct),osl⟩) (c:W.codeIn K cdv q=true) (k:W.keepIn K (.ref f)=true):FM K C x q st f (W.fnOf x q (zbI st) (zam st) (ad st) .none kV doc pm an cdv ct):=⟨a,i,zjj l c k,k⟩
abbrev Bd (x q:Str) (st:Stmt) (ps:List Str) (us:List Value):Prop:=∀(kV doc pm:Value) (an:Option Addr) (cdv ct:Value),bindArgs (W.fnOf x q (zbI st) (zam st) (ad st) .none kV doc pm an cdv ct) ⟨us,[]⟩=pure (ps.zip us)
theorem Fun.b1 {p:Str} (F:Fun K x q st f fd) (h:∀ a,Bd x q st [p] [a]):au K fd [p] []:=F.binds fun kV doc pm an cdv ct us hl=>by
 rcases us with _ | ⟨_,_ | _⟩ <;> first | exact h _ kV doc pm an cdv ct | cases hl
theorem Fun.b2 {p p2:Str} (F:Fun K x q st f fd) (h:∀ a b,Bd x q st [p,p2] [a,b]):au K fd [p,p2] []:=F.binds fun kV doc pm an cdv ct us hl=>by
 rcases us with _ | ⟨_,_ | ⟨_,_ | _⟩⟩ <;> first | exact h _ _ kV doc pm an cdv ct | cases hl
theorem Fun.b3 {p p2 p3:Str} (F:Fun K x q st f fd) (h:∀ a b c,Bd x q st [p,p2,p3] [a,b,c]):au K fd [p,p2,p3] []:=F.binds fun kV doc pm an cdv ct us hl=>by
 rcases us with _ | ⟨_,_ | ⟨_,_ | ⟨_,_ | _⟩⟩⟩ <;> first | exact h _ _ _ kV doc pm an cdv ct | cases hl
theorem Fun.top {p:Str} (F:Fun K x q st f fd) (h:∀ a,Bd x q st [p] [a]):∀(s:Shared) (v:Value),BindsTo s fd ⟨[v],[]⟩ [(p,v)]:=fun s v=>by
 obtain⟨oc,od,kV,doc,pm,an,cdv,ct,osl,rfl,lk,hcd⟩:=F.ex
 exact .of_eq (h v kV doc pm an cdv ct)
end
end L2
namespace F06
open PySem L2
theorem sz (n:Nat) (h:n≤1000):n≤sizeLine:=Nat.le_of_lt (zcm h)
theorem szM {n:Nat} (h:n≤16000000):n≤sizeLine:=Nat.le_trans h (by rw[sizeLine_eq];decide)
theorem ap (a b:Str):(a++b).length=a.length+b.length:=by
 show(a.cps++b.cps).size=a.cps.size+b.cps.size
 exact Array.size_append
inductive Tr where
 | node (n:Str) (ts:List Tr)
def txtN (n:Str) (ss:List Str):Str:=if ss.isEmpty=true then n else n++"("++Builtin.Str.glued ", " ss++")"
mutual
def dTr:Tr→Dt
 | .node n ts=>.tup [.str n,.tup (zaK ts)]
def zaK:List Tr→List Dt
 | []=>[]
 | t :: ts=>dTr t :: zaK ts
end
mutual
def txt:Tr→Str
 | .node n ts=>txtN n (txts ts)
def txts:List Tr→List Str
 | []=>[]
 | t :: ts=>txt t :: txts ts
end
mutual
def wt:Tr→Nat
 | .node n ts=>n.length+2+wts ts
def wts:List Tr→Nat
 | []=>0
 | t :: ts=>wt t+2+wts ts
end
mutual
def dp:Tr→Nat
 | .node _ ts=>1+dps ts
def dps:List Tr→Nat
 | []=>0
 | t :: ts=>max (dp t) (dps ts)
end
theorem zbU:∀ ts:List Tr,zaK ts=ts.map dTr
 | []=>rfl
 | t :: ts=>by simp only[zaK,List.map_cons,zbU ts]
theorem dTrs_length (ts:List Tr):(zaK ts).length=ts.length:=by rw[zbU,List.length_map]
theorem dps_le {n:Nat}:∀ {ts:List Tr},dps ts≤n→∀ t∈ts,dp t≤n
 | t :: ts,h,u,hu=>by
  simp only[dps]at h
  rcases List.mem_cons.mp hu with rfl | hu
  ·omega
  ·exact dps_le (ts:=ts) (by omega) u hu
mutual
theorem nol_dTr:∀ t:Tr,nol (dTr t)=true
 | .node n ts=>by simp only[dTr,nol,zbf,nols_dTrs ts,Bool.and_self]
theorem nols_dTrs:∀ ts:List Tr,zbf (zaK ts)=true
 | []=>rfl
 | t :: ts=>by simp only[zaK,zbf,nol_dTr t,nols_dTrs ts,Bool.and_self]
end
mutual
theorem zlk:∀ t:Tr,dep (dTr t)≤2 * dp t
 | .node n ts=>by
  have:=zgi ts
  simp only[dTr,dp,dep,zaP]
  omega
theorem zgi:∀ ts:List Tr,zaP (zaK ts)≤2 * dps ts
 | []=>by simp [zaK,zaP]
 | t :: ts=>by
  have:=zlk t
  have:=zgi ts
  simp only[zaK,dps,zaP]
  omega
end
section
variable {K:W.Frag} {H:Hp}
theorem tr_at {n:Str} {ts:List Tr} {v:V} (h:Has K H (dTr (.node n ts)) v):∃ p q xs,v=.ref p∧SqT K H p [.str n,.ref q]∧SqT K H q xs∧aq K H (zaK ts) xs:=by
 simp only[dTr,Has,aq]at h
 obtain⟨p,ys,rfl,hp,v1,r1,rfl,rfl,v2,r2,rfl,⟨q,xs,rfl,hq,hx⟩,rfl⟩:=h
 exact⟨p,q,xs,rfl,hp,hq,hx⟩
theorem zio {n:Str} {ts:List Tr} {p q:Addr} {xs:List V} (hp:SqT K H p [.str n,.ref q]) (hq:SqT K H q xs) (hx:aq K H (zaK ts) xs):Has K H (dTr (.node n ts)) (.ref p):=by
 simp only[dTr]
 exact Has.tup' hp (.cons Has.str' (.cons (Has.tup' hq hx) .nil))
theorem trs_get {ts:List Tr} {xs:List V} {i:Nat} {x:V} (h:aq K H (zaK ts) xs) (e:xs[i]?=some x):∃ t,ts[i]?=some t∧Has K H (dTr t) x:=by
 rw[zbU]at h
 obtain⟨d,e1,e2⟩:=h.get e
 rw[List.getElem?_map]at e1
 cases q:ts[i]? with
 | none=>rw[q]at e1;cases e1
 | some t =>
  rw[q]at e1
  cases e1
  exact⟨t,rfl,e2⟩
end
theorem FnOk.no {P:Program} {w:World} {K:W.Frag} {mg:Str→Option Value} {base:Heap} {CX:CXT} {k:Nat} {f:Addr} {fd:FuncData} {ps:List Str} {sp:Sp} (h:∀ vs H Q E,¬sp vs H Q E):FnOk P w K mg base CX k f fd ps sp :=
 ⟨fun vs H Q E q=>absurd q (h _ _ _ _),fun A outer s H args us vs Q E _ _ _ _ hs=>absurd hs (h _ _ _ _)⟩
end F06
namespace K06
open PySem L2
def top (i:Nat):Stmt:=PySem.Challenge.pw_yesorno_k06_read_refused.main.body.getD i (.Pass ⟨0,0,0,0⟩)
abbrev zfG:Stmt:=top 16
abbrev zfH:Stmt:=top 17
abbrev zeV:Stmt:=top 18
abbrev zii:Stmt:=top 19
abbrev zgD:Stmt:=top 20
abbrev zij:Stmt:=zaL (top 21) 0
abbrev zeT:Stmt:=zaL (top 21) 1
abbrev zeU:Stmt:=zaL (top 21) 2
abbrev sAdd:Stmt:=zaL (top 21) 3
abbrev zgC:Stmt:=zaL (top 21) 4
abbrev zih:Stmt:=zaL (top 21) 5
abbrev sRow:Stmt:=zaL (top 21) 6
abbrev s_Cursor___init__:Stmt:=zaL (top 24) 0
abbrev s_Cursor_is_over:Stmt:=zaL (top 24) 1
abbrev s_Cursor_takes:Stmt:=zaL (top 24) 2
abbrev s_Cursor_take_word:Stmt:=zaL (top 24) 3
abbrev s_Cursor_take_tree:Stmt:=zaL (top 24) 4
abbrev s_Cursor_take_trees:Stmt:=zaL (top 24) 5
abbrev s_formed_tree:Stmt:=top 25
abbrev s_formed_atom:Stmt:=top 26
abbrev s_formed_part:Stmt:=top 27
abbrev s_formed_row:Stmt:=top 28
abbrev s_text_rows:Stmt:=top 29
abbrev zcz:Stmt:=top 30
abbrev zdG:Stmt:=top 31
abbrev zdF:Stmt:=top 32
abbrev zfi:Stmt:=top 33
abbrev zik:Stmt:=top 35
abbrev zdc:Stmt:=top 36
abbrev zdd:Stmt:=top 37
abbrev zbV:Stmt:=top 38
abbrev zdH:Stmt:=top 39
abbrev zdf:Stmt:=top 40
abbrev zbN:Stmt:=top 41
abbrev zbM:Stmt:=top 42
abbrev za5:Stmt:=top 43
abbrev zde:Stmt:=top 44
abbrev zac:Stmt:=top 45
abbrev zig:Stmt:=top 46
abbrev abc:Str:="abcdefghijklmnopqrstuvwxyz"
def isL (c:Str):Bool:=!(Builtin.Str.occurrences abc c 0 abc.length 1).isEmpty
def lets (z:Str):List Bool:=z.cps.toList.map fun c=>isL ⟨#[c]⟩
def zfc:List V:=[.str "or",.str "and",.str "not",.str "never",.str "always",.str "then",.str "as",.str "unlike"]
def wordB (z:Str):Bool:=decide ((0:Int) < (z.length:Int))&&(lets z).all id
def za3 (z:Str):Bool:=wordB z&&(decide ((z.length:Int)≤8)&&!inV (.str z) zfc)
theorem sz (n:Nat) (h:n≤1000):n≤sizeLine:=Nat.le_of_lt (zcm h)
theorem ziL:zfc.all zcw=true:=by decide +kernel
theorem zhe (z:Str):(lets z).length=z.length:=by simp [lets,Str.length]
theorem ap (a b:Str):(a++b).length=a.length+b.length:=by
 show(a.cps++b.cps).size=a.cps.size+b.cps.size
 exact Array.size_append
theorem zjQ {z:Str} {i ch:Nat} (hch:z.cps[i]?=some ch):(lets z).take (i+1)=(lets z).take i++[isL ⟨#[ch]⟩]:=by
 have hb:(lets z)[i]?=some (isL ⟨#[ch]⟩):=by
  unfold lets
  rw[List.getElem?_map,Array.getElem?_toList,hch]
  rfl
 rw[List.take_add_one,hb]
 rfl
abbrev Tm:=Str × List Int
def dT (t:Tm):Dt:=.tup [.str t.1,.tup (t.2.map Dt.int)]
theorem zga:∀ ns:List Int,zcH (ns.map Dt.int)=true
 | []=>by simp [zcH]
 | n :: ns=>by simp only[List.map_cons,zcH,nob,Bool.true_and];exact zga ns
theorem zd6:∀ ns:List Int,zbf (ns.map Dt.int)=true
 | []=>by simp [zbf]
 | n :: ns=>by simp only[List.map_cons,zbf,nol,Bool.true_and];exact zd6 ns
theorem zc6:∀ ns:List Int,zaP (ns.map Dt.int)=0
 | []=>by simp [zaP]
 | n :: ns=>by simp only[List.map_cons,zaP,dep,zc6 ns];rfl
theorem zi9 (t:Tm):nob (dT t)=true:=by simp only[dT,nob,zcH,zga,Bool.and_self]
theorem zi6 (t:Tm):nol (dT t)=true:=by simp only[dT,nol,zbf,zd6,Bool.and_self]
theorem dep_dT (t:Tm):dep (dT t)=2:=by simp only[dT,dep,zaP,zc6];rfl
theorem zce:∀ T:List Tm,zbf (T.map dT)=true
 | []=>by simp [zbf]
 | t :: T=>by simp only[List.map_cons,zbf,zi6,Bool.true_and];exact zce T
theorem zho:∀ T:List Tm,zaP (T.map dT)≤2
 | []=>by simp [zaP]
 | t :: T=>by
  have h:=zho T
  simp only[List.map_cons,zaP,dep_dT]
  omega
theorem zlf {a b:Int} (h:Dt.int a=Dt.int b):a=b:=by cases h;rfl
theorem zhh:∀ {as bs:List Int},as.map Dt.int=bs.map Dt.int→as=bs
 | [],[],_=>rfl
 | [],b :: bs,h=>by cases h
 | a :: as,[],h=>by cases h
 | a :: as,b :: bs,h=>by
  rw[List.map_cons,List.map_cons]at h
  injection h with h1 h2
  rw[zlf h1,zhh h2]
theorem dT_inj {a b:Tm} (h:dT a=dT b):a=b:=by
 obtain⟨n,ps⟩:=a
 obtain⟨m,qs⟩:=b
 unfold dT at h
 injection h with h
 injection h with h1 h2
 injection h1 with h1
 injection h2 with h2 _
 injection h2 with h2
 have e1:n=m:=h1
 have e2:ps=qs:=zhh h2
 rw[e1,e2]
theorem peq_dT (a b:Tm):peq (dT a) (dT b)=decide (a=b):=by
 by_cases h:a=b
 ·subst h
  rw[zbT,decide_eq_true rfl]
 ·rw[decide_eq_false h]
  cases e:peq (dT a) (dT b) with
  | false=>rfl
  | true=>exact absurd (dT_inj (zgK _ _ (zi9 a) (zi9 b) e)) h
inductive Out where
 | num (n:Nat) | name | term | many | part
def bad (T:List Tm) (ps:List Int):Bool:=decide (3 < ps.length)||ps.any fun p=>decide (p < 0)||decide ((T.length:Int)≤p)
def zcJ (T:List Tm) (good:Bool) (t:Tm):Out × List Tm :=
 if good=false then(.name,T) else if bad T t.2=true then(.term,T) else if t∈T then(.num (T.idxOf t),T) else if 60≤T.length then(.many,T) else(.num T.length,T++[t])
theorem zcT {α:Type} [BEq α] [LawfulBEq α] {code:α→Dt} (hc:∀ a b,peq (code a) (code b)=true↔a=b) (T:List α) (t:α):((T.map code).any fun d=>peq d (code t))=decide (t∈T):=by
 rw[Bool.eq_iff_iff,List.any_eq_true]
 constructor
 ·rintro ⟨d,hd,e⟩
  obtain⟨u,hu,rfl⟩:=List.mem_map.mp hd
  rw[hc]at e
  rw[←e]
  exact decide_eq_true hu
 ·intro h
  exact⟨code t,List.mem_map.mpr ⟨t,of_decide_eq_true h,rfl⟩,zbT _⟩
theorem zhl {α:Type} [BEq α] [LawfulBEq α] {code:α→Dt} (hc:∀ a b,peq (code a) (code b)=true↔a=b) (T:List α) (t:α):(T.map code).findIdx (fun d=>peq d (code t))=T.idxOf t:=by
 rw[List.findIdx_map]
 unfold List.idxOf
 congr 1
 funext a
 show peq (code a) (code t)=(a == t)
 rw[Bool.eq_iff_iff,hc,beq_iff_eq]
theorem zjh (a b:Tm):peq (dT a) (dT b)=true↔a=b:=by
 rw[peq_dT]
 exact decide_eq_true_iff
inductive At where
 | plain (z:Str)
 | same (a b:Int)
 deriving DecidableEq
def dA:At→Dt
 | .plain z=>.tup [.str "plain",.str z]
 | .same a b=>.tup [.str "same",.int a,.int b]
theorem zja (t:At):nob (dA t)=true:=by cases t <;> simp only[dA,nob,zcH,Bool.and_self]
theorem zcN (t:At):nol (dA t)=true:=by cases t <;> simp only[dA,nol,zbf,Bool.and_self]
theorem zjm (t:At):dep (dA t)=1:=by cases t <;> simp only[dA,dep,zaP] <;> rfl
theorem dA_inj {a b:At} (h:dA a=dA b):a=b:=by
 cases a <;> cases b
 all_goals
  unfold dA at h
  injection h with h
  injection h with h1 h2
  injection h2 with h2 h3
  first
   | (injection h2 with h2;injection h3 with h3 _;injection h3 with h3;rw[h2,h3])
   | (injection h2 with h2;rw[h2])
   | (injection h1 with h1;exact absurd h1 (by decide +kernel))
   | cases h2
theorem zi3 (a b:At):peq (dA a) (dA b)=decide (a=b):=by
 by_cases h:a=b
 ·subst h
  rw[zbT,decide_eq_true rfl]
 ·rw[decide_eq_false h]
  cases e:peq (dA a) (dA b) with
  | false=>rfl
  | true=>exact absurd (dA_inj (zgK _ _ (zja a) (zja b) e)) h
theorem zgS (a b:At):peq (dA a) (dA b)=true↔a=b:=by
 rw[zi3]
 exact decide_eq_true_iff
def dR (r:List Int):Dt:=.tup (r.map Dt.int)
theorem zcM (r:List Int):nol (dR r)=true:=by simp only[dR,nol,zd6]
theorem zaU {α:Type} {code:α→Dt} (hc:∀ a,nol (code a)=true):∀ T:List α,zbf (T.map code)=true
 | []=>by simp [zbf]
 | t :: T=>by simp only[List.map_cons,zbf,hc,Bool.true_and];exact zaU hc T
theorem zea {α:Type} {code:α→Dt} {n:Nat} (hc:∀ a,dep (code a)≤n):∀ T:List α,zaP (T.map code)≤n
 | []=>by simp [zaP]
 | t :: T=>by
  have h:=zea hc T
  have:=hc t
  simp only[List.map_cons,zaP]
  omega
theorem kTA:¬(("terms":Str)="atoms"):=by decide +kernel
theorem kTR:¬(("terms":Str)="rows"):=by decide +kernel
theorem kAR:¬(("atoms":Str)="rows"):=by decide +kernel
def zbR (tl al rl:Addr):List (Str × V):=zaF "rows" (.ref rl) (zaF "atoms" (.ref al) (zaF "terms" (.ref tl) []))
theorem zdJ (tl al rl:Addr):(zbR tl al rl).lookup ("terms":Str)=some (.ref tl):=by
 unfold zbR
 rw[zav,if_neg kTR,zav,if_neg kTA,zav,if_pos rfl]
theorem zb4 (tl al rl:Addr):(zbR tl al rl).lookup ("atoms":Str)=some (.ref al):=by
 unfold zbR
 rw[zav,if_neg kAR,zav,if_pos rfl]
theorem zd9 (tl al rl:Addr):(zbR tl al rl).lookup ("rows":Str)=some (.ref rl):=by
 unfold zbR
 rw[zav,if_pos rfl]
theorem zb0 (tl al rl:Addr) {m:Str} (h1:¬m="rows") (h2:¬m="atoms") (h3:¬m="terms"):(zbR tl al rl).lookup m=none:=by
 unfold zbR
 rw[zav,if_neg h1,zav,if_neg h2,zav,if_neg h3]
 all_goals rfl
def Fr1 (H H':Hp) (z:Addr):Prop:=∀ b o,H b=some o→b≠z→H' b=some o
theorem Fr1.of_same {H H':Hp} {z:Addr} (s:ao H H'):Fr1 H H' z:=fun b o e _=>s b o e
theorem Fr1.trans {H H1 H2:Hp} {z:Addr} (a:Fr1 H H1 z) (b:Fr1 H1 H2 z):Fr1 H H2 z:=fun c o e n=>b c o (a c o e n) n
theorem Fr1.keepT {H H':Hp} {z:Addr} {xs:List V} (f:Fr1 H H' z) (h:H z=some (.lst xs)):KeepT H H':=fun b ys q=>by
 rcases q with q | ⟨o,q⟩
 ·exact .inl (f b _ q (zcX q h (fun e=>by cases e)))
 ·exact .inr ⟨o,f b _ q (zcX q h (fun e=>by cases e))⟩
structure zaC (K:PySem.W.Frag) (C:Addr) (H:Hp) (p tl al rl:Addr) (T:List Tm) (As:List At) (Rs:List (List Int)):Prop where
 ob:∃ dx,H p=some (.ins C dx (zbR tl al rl))
 tm:∃ xs,H tl=some (.lst xs)∧aq K H (T.map dT) xs
 am:∃ xs,H al=some (.lst xs)∧aq K H (As.map dA) xs
 rm:∃ xs,H rl=some (.lst xs)∧aq K H (Rs.map dR) xs
 na:al≠tl
 nr:rl≠tl
 nx:rl≠al
theorem zaC.keep {K:PySem.W.Frag} {C:Addr} {H H':Hp} {p tl al rl z:Addr} {T:List Tm} {As:List At} {Rs:List (List Int)} {zs:List V} (h:zaC K C H p tl al rl T As Rs) (f:Fr1 H H' z) (hz:H z=some (.lst zs)) (n1:z≠tl) (n2:z≠al) (n3:z≠rl):zaC K C H' p tl al rl T As Rs:=by
 obtain⟨⟨dx,h1⟩,⟨xs,h2,h3⟩,⟨ys,h4,h5⟩,⟨ws,h6,h7⟩,h8,h9,h10⟩:=h
 exact⟨⟨dx,f _ _ h1 (zcX h1 hz (fun e=>by cases e))⟩,⟨xs,f _ _ h2 n1.symm,h3.keep (f.keepT hz) (zce T)⟩,⟨ys,f _ _ h4 n2.symm,h5.keep (f.keepT hz) (zaU zcN As)⟩,⟨ws,f _ _ h6 n3.symm,h7.keep (f.keepT hz) (zaU zcM Rs)⟩,h8,h9,h10⟩
theorem zaC.same {K:PySem.W.Frag} {C:Addr} {H H':Hp} {p tl al rl:Addr} {T:List Tm} {As:List At} {Rs:List (List Int)} (h:zaC K C H p tl al rl T As Rs) (s:ao H H'):zaC K C H' p tl al rl T As Rs:=by
 obtain⟨⟨dx,h1⟩,⟨xs,h2,h3⟩,⟨ys,h4,h5⟩,⟨ws,h6,h7⟩,h8,h9,h10⟩:=h
 exact⟨⟨dx,s _ _ h1⟩,⟨xs,s _ _ h2,h3.keep (.of_same s) (zce T)⟩,⟨ys,s _ _ h4,h5.keep (.of_same s) (zaU zcN As)⟩,⟨ws,s _ _ h6,h7.keep (.of_same s) (zaU zcM Rs)⟩,h8,h9,h10⟩
theorem zaC.setT {K:PySem.W.Frag} {C:Addr} {H:Hp} {p tl al rl:Addr} {T T':List Tm} {As:List At} {Rs:List (List Int)} {us:List V} (h:zaC K C H p tl al rl T As Rs) (hs:aq K (upd H tl (.lst us)) (T'.map dT) us):zaC K C (upd H tl (.lst us)) p tl al rl T' As Rs:=by
 obtain⟨⟨dx,h1⟩,⟨xs,h2,h3⟩,⟨ys,h4,h5⟩,⟨ws,h6,h7⟩,h8,h9,h10⟩:=h
 have kt:KeepT H (upd H tl (.lst us)):=KeepT.lst h2
 exact⟨⟨dx,by rw[ai (zcX h1 h2 (fun e=>by cases e))];exact h1⟩,⟨us,ag,hs⟩,⟨ys,by rw[ai h8];exact h4,h5.keep kt (zaU zcN As)⟩,⟨ws,by rw[ai h9];exact h6,h7.keep kt (zaU zcM Rs)⟩,h8,h9,h10⟩
theorem zaC.setA {K:PySem.W.Frag} {C:Addr} {H:Hp} {p tl al rl:Addr} {T:List Tm} {As As':List At} {Rs:List (List Int)} {us:List V} (h:zaC K C H p tl al rl T As Rs) (hs:aq K (upd H al (.lst us)) (As'.map dA) us):zaC K C (upd H al (.lst us)) p tl al rl T As' Rs:=by
 obtain⟨⟨dx,h1⟩,⟨xs,h2,h3⟩,⟨ys,h4,h5⟩,⟨ws,h6,h7⟩,h8,h9,h10⟩:=h
 have kt:KeepT H (upd H al (.lst us)):=KeepT.lst h4
 exact⟨⟨dx,by rw[ai (zcX h1 h4 (fun e=>by cases e))];exact h1⟩,⟨xs,by rw[ai h8.symm];exact h2,h3.keep kt (zce T)⟩,⟨us,ag,hs⟩,⟨ws,by rw[ai h10];exact h6,h7.keep kt (zaU zcM Rs)⟩,h8,h9,h10⟩
theorem zaC.setR {K:PySem.W.Frag} {C:Addr} {H:Hp} {p tl al rl:Addr} {T:List Tm} {As:List At} {Rs Rs':List (List Int)} {us:List V} (h:zaC K C H p tl al rl T As Rs) (hs:aq K (upd H rl (.lst us)) (Rs'.map dR) us):zaC K C (upd H rl (.lst us)) p tl al rl T As Rs':=by
 obtain⟨⟨dx,h1⟩,⟨xs,h2,h3⟩,⟨ys,h4,h5⟩,⟨ws,h6,h7⟩,h8,h9,h10⟩:=h
 have kt:KeepT H (upd H rl (.lst us)):=KeepT.lst h6
 exact⟨⟨dx,by rw[ai (zcX h1 h6 (fun e=>by cases e))];exact h1⟩,⟨xs,by rw[ai h9.symm];exact h2,h3.keep kt (zce T)⟩,⟨ys,by rw[ai h10.symm];exact h4,h5.keep kt (zaU zcN As)⟩,⟨us,ag,hs⟩,h8,h9,h10⟩
def SqI (K:PySem.W.Frag) (H:Hp) (q:Addr) (ps:List Int):Prop:=SqL K H q (ps.map V.int)∨SqT K H q (ps.map V.int)
theorem SqI.same {K:PySem.W.Frag} {H H':Hp} {q:Addr} {ps:List Int} (h:SqI K H q ps) (s:ao H H'):SqI K H' q ps:=h.elim (fun z=>.inl (s.seq z)) fun z=>.inr ((KeepT.of_same s).sq z)
def Low (z:Str):Prop:=z.length≤100∧∀ c∈z.cps.toList,c < 1000
theorem Low.repr {z:Str} (h:Low z):(reprText z).length≤1002:=by
 have:=StrLaws.reprText_len z fun c hc=>Nat.lt_of_lt_of_le (h.2 c hc) (by decide)
 have:=h.1
 omega
inductive spIsWord:Sp | mk {vs H Q E9} (z:Str):vs=[.str z]→z.length≤1000→(∀ H',ao H H'→Q (.bl (wordB z)) H')→spIsWord vs H Q E9
inductive zeR:Sp | mk {vs H Q E9} (z:Str):vs=[.str z]→z.length≤1000→(∀ H',ao H H'→Q (.bl (za3 z)) H')→zeR vs H Q E9
inductive zcL (K:PySem.W.Frag):Sp | mk {vs H Q E9} (a:Addr) (ns:List Int) (k:Int):vs=[.ref a,.int k]→SqL K H a (ns.map V.int)→ns.length≤63→0≤k→(∀ i:Int,Q (.int i) H)→zcL K vs H Q E9
inductive zc1 (CN:Addr):Sp | mk {vs H Q E} (z:Str):vs=[.str z]→Low z→(if za3 z=true then ∀ H',ao H H'→Q .non H' else ∀ H',ao H H'→E (.ref CN) none H')→zc1 CN vs H Q E
inductive zb9 (K:PySem.W.Frag) (CM:Addr):Sp | mk {vs H Q E} (a tl:Addr) (m:Int) (xs:List V) (ds:List Dt) (d:Dt):vs=[.ref a,.ref tl,.int m]→Has K H d (.ref a)→H tl=some (.lst xs)→aq K H ds xs→zaP ds≤50→ds.length≤1000→0≤m→m≤1000→(if(ds.any fun e=>peq e d)=true then ∀ H',ao H H'→Q (.int ((ds.findIdx fun e=>peq e d):Nat)) H' else if m≤(ds.length:Int) then ∀ H',ao H H'→E (.ref CM) none H' else Q (.int (ds.length:Nat)) (upd H tl (.lst (xs++[.ref a]))))→zb9 K CM vs H Q E
inductive zgz (C:Addr):Sp | mk {vs H Q E9} (p dx:Addr):vs=[.ref p]→H p=some (.ins C dx [])→(∀(tl al rl:Addr) (H':Hp),H tl=none→H al=none→H rl=none→al≠tl→rl≠tl→rl≠al→H' p=some (.ins C dx (zbR tl al rl))→H' tl=some (.lst [])→H' al=some (.lst [])→H' rl=some (.lst [])→(∀ b o,H b=some o→b≠p→H' b=some o)→Q .non H')→zgz C vs H Q E9
def zd1 (K:PySem.W.Frag) (C CT:Addr):Sp:=fun vs H Q E=>∃(p tl al rl:Addr) (T:List Tm) (As:List At) (Rs:List (List Int)) (n:Int),vs=[.ref p,.int n]∧zaC K C H p tl al rl T As Rs∧-1000≤n∧n≤1000 ∧
 if n < 0∨(T.length:Int)≤n then ∀ H',ao H H'→E (.ref CT) none H' else Q .non H
def zbm (m:Nat) (n:Int):Bool:=decide (n=0)||decide ((m:Int) < n)||decide (n < -(m:Int))
inductive zd2 (K:PySem.W.Frag) (C CP:Addr):Sp | mk {vs H Q E} (p tl al rl:Addr) (T:List Tm) (As:List At) (Rs:List (List Int)) (n:Int):vs=[.ref p,.int n]→zaC K C H p tl al rl T As Rs→-1000≤n→n≤1000→(if zbm As.length n=true then ∀ H',ao H H'→E (.ref CP) none H' else Q .non H)→zd2 K C CP vs H Q E
theorem zbb {H:Hp} {p:Addr} (h:H p=none) (o:HO):ao H (upd H p o):=fun b u q=>by rw[ai (zan q h)];exact q
abbrev bmV:List Value:=[.type "ValueError",.type "Exception",.type "BaseException",.type "object"]
structure Txt (K:PySem.W.Frag) (mg:Str→Option Value) (aK C CN CT CP CM:Addr):Prop where
 small:∃ t,mg "SMALL_LETTERS"=some (.str abc t)
 longest:∃ t,mg "LONGEST_NAME"=some (.int 8 t)
 parts:∃ t,mg "MOST_TERM_PARTS"=some (.int 3 t)
 terms:∃ t,mg "MOST_TERMS"=some (.int 60 t)
 atoms:∃ t,mg "MOST_ATOMS"=some (.int 40 t)
 rparts:∃ t,mg "MOST_ROW_PARTS"=some (.int 20 t)
 rows:∃ t,mg "MOST_ROWS"=some (.int 200 t)
 kept:mg "KEPT_WORDS"=some (.ref aK)
 tup:∀ H,SqT K H aK zfc
 len:mg "len"=none
 all:mg "all"=none
 range:mg "range"=none
 isi:mg "isinstance"=none
 bool:mg "bool"=none
 tuple:mg "tuple"=none
 abs:mg "abs"=none
 bname:mg "BadName"=some (.ref CN)
 bterm:mg "BadTerm"=some (.ref CT)
 bpart:mg "BadPart"=some (.ref CP)
 bmany:mg "TooMany"=some (.ref CM)
 xname:PySem.W.excIn K CN bmV "ValueError.__new__"=true
 xterm:PySem.W.excIn K CT bmV "ValueError.__new__"=true
 xpart:PySem.W.excIn K CP bmV "ValueError.__new__"=true
 xmany:PySem.W.excIn K CM bmV "ValueError.__new__"=true
 cl:Cls K C
 nT:zbu K C "terms"
 nA:zbu K C "atoms"
 nR:zbu K C "rows"
section
variable {P:Program} {w:World} {K:PySem.W.Frag} {mg:Str→Option Value} {base:Heap} {aK C CN CT CP CM:Addr}
theorem Fun.okX {x qual:Str} {st:Stmt} {f:Addr} {fd:FuncData} {N ps:List Str} {k:Nat} {sp:Sp} (F:Fun K x qual st f fd) (S:zaa N ps (ad st)) (len:∀ vs H Q E,sp vs H Q E→vs.length=ps.length)
  (hbody:∀(cdv:Value) (A:Around) (outer:List Env) (s:Shared) (H:Hp) (vs:List V) (Q:VK) (E:XK),zai k (A.deeper (PyProof.Rows.envOfC qual (ad st) s.heap.objs.size f cdv))→sp vs H Q E →
   ∃ t,PSs (zak (CX1 P w) P w K mg base N qual (ad st) f cdv A outer s H E) (zam st) t∧t { nx:=fun _ H'=>Q .non H',rt:=Q } (zbj N vs) H):FnOk P w K mg base (CX1 P w) (k+1) f fd ps sp:=by
 obtain⟨oc,od,kV,doc,pm,an,cdv,ct,osl,rfl,lk,hcd⟩:=F.ex
 exact ziu lk hcd S len fun A outer s H vs Q E hr hsp=>hbody cdv A outer s H vs Q E hr hsp
theorem xe1 {N:List Str} {qual:Str} {scope:Scope} {f:Addr} {cd:Value} {A:Around} {outer:List Env} {s:Shared} {H:Hp} {E:XK}:Xe1 (zak (CX1 P w) P w K mg base N qual scope f cd A outer s H E) E:=⟨rfl,rfl,rfl,rfl⟩
theorem hu64 {k:Nat} {A:Around} (hr:zai k A):A.units+64 < cLine:=hr.units
theorem scC:zaa ["_law_script","_law_k"] ["_law_script","_law_k"] (ad zik):=⟨rfl,rfl,rfl,by decide +kernel,rfl,by decide +kernel,by decide +kernel⟩
theorem zk5 {f:Addr} {fd:FuncData} (F:Fun K "_law_cell_at" "_law_cell_at" zik f fd) (T:Txt K mg aK C CN CT CP CM):FnOk P w K mg base CX0 1 f fd ["_law_script","_law_k"] (zcL K):=by
 refine F.ok scC (fun vs H Q E h=>?_) (fun cdv A outer s H vs Q E hr h=>?_)
 ·obtain⟨a,ns,k,rfl,_⟩:=h
  rfl
 obtain⟨a,ns,k,rfl,hS,h63,h0,q⟩:=h
 refine⟨_,aj (zaD (zal zim (pv 1) (zaw zaB rfl T.len PySem.boot_len (aa (pv 0) ac)) (zas _)) (ae (zab (zaJ zaT (pv 0) (pv 1) (fun _ _=>rfl)))) zag) (ae (zab ah)),?_⟩
 refine⟨_,rfl,_,rfl,a,_,rfl,.inl hS,_,_,rfl,rfl,_,rfl,?_⟩
 refine zay (fun c=>?_) (fun c=>?_)
 ·have c':k < (((ns.map V.int).length:Nat):Int):=of_decide_eq_true c
  rw[List.length_map]at c'
  have hk:k.toNat < ns.length:=by omega
  have ek:k=((k.toNat:Nat):Int):=by omega
  have hat:atI (ns.map V.int) ((k.toNat:Nat):Int)=some (.int ns[k.toNat]):=zax (by rw[List.getElem?_map,List.getElem?_eq_getElem hk] <;> rfl)
  rw[←ek]at hat
  exact⟨_,rfl,_,rfl,a,_,_,_,rfl,rfl,hS,hat,q _⟩
 ·exact q 0
theorem scIW:zaa ["text"] ["text"] (ad zfG):=⟨rfl,rfl,rfl,by decide +kernel,rfl,by decide +kernel,by decide +kernel⟩
theorem zjC {f:Addr} {fd:FuncData} (F:Fun K "is_word" "is_word" zfG f fd) (T:Txt K mg aK C CN CT CP CM):FnOk P w K mg base CX0 1 f fd ["text"] spIsWord:=by
 obtain⟨t1,e1⟩:=T.small
 refine F.ok scIW (fun vs H Q E h=>?_) (fun cdv A outer s H vs Q E hr h=>?_)
 ·obtain⟨z,rfl,_⟩:=h
  rfl
 obtain⟨z,rfl,hz,q⟩:=h
 refine⟨_,ae (zab (zdS (zca zfb (zaw zbD rfl T.len PySem.boot_len (aa (pv 0) ac)) ah (zas _))
  (zgM (zaw (zfW rfl) rfl T.all PyProof.Rows.Boot.all (aa
   (zgq (N':=["letter"]) (ix:=[]) rfl rfl (by decide +kernel) (by decide +kernel) rfl (fun _=>⟨[],zcQ (by decide +kernel) (by decide +kernel)⟩) (by decide +kernel) rfl rfl (fun j i h=>by simp at h)
    (pi_str (pv 0)) (fun cl fp s₃ H₃=>zca zf7 (pv 0) (za0 (v:=.str abc) rfl e1 ⟨_,rfl⟩) rfl)) ac))))),?_⟩
 refine⟨_,rfl,z,rfl,sz _ hz,_,_,rfl,rfl,_,rfl,?_⟩
 refine zay (fun c=>?_) (fun c=>?_)
 ·have c':(0:Int) < (z.length:Int):=of_decide_eq_true c
  refine⟨_,rfl,z,rfl,fun D hD=>⟨fun i m ys H'=>m=z.length - i∧i≤z.length∧ys=((lets z).take i).map V.bl∧H'=upd H D (.lst ys),⟨z.length,rfl,Nat.zero_le _,rfl,rfl⟩,?_⟩⟩
  rintro i m ys H' ⟨rfl,hi,rfl,rfl⟩
  refine⟨ag,?_⟩
  by_cases hlt:i < z.length
  ·refine .inr ⟨hlt,fun x H'' y=>?_⟩
   obtain⟨rfl,ch,hch,rfl⟩:=y
   have et:=zjQ hch
   refine⟨_,rfl,_,_,rfl,rfl,ag,?_,z.length - (i+1),by omega,rfl,hlt,?_,zkv⟩
   ·rw[List.length_map,List.length_take,zhe]
    exact Nat.lt_of_le_of_lt (Nat.le_trans (Nat.min_le_right _ _) hz) (by decide)
   ·rw[et,List.map_append]
    rfl
  ·have hi':i=z.length:=by omega
   subst hi'
   refine .inl ⟨Nat.le_refl _,D,lets z,rfl,SqL.of (by rw[ag,List.take_of_length_le (by rw[zhe];exact Nat.le_refl _)]),?_⟩
   have:=q _ (zbb hD (.lst (((lets z).take z.length).map V.bl)))
   unfold wordB at this
   rw[c,Bool.true_and]at this
   exact this
 ·have:=q H (ao.refl H)
  unfold wordB at this
  rw[Bool.eq_false_iff.mpr c,Bool.false_and]at this
  exact this
theorem scIN:zaa ["word"] ["word"] (ad zfH):=⟨rfl,rfl,rfl,by decide +kernel,rfl,by decide +kernel,by decide +kernel⟩
theorem zjD {f g:Addr} {fd gd:FuncData} (F:Fun K "is_name" "is_name" zfH f fd) (T:Txt K mg aK C CN CT CP CM) (G:FnOk P w K mg base CX0 1 g gd ["text"] spIsWord) (bG:au K gd ["text"] []) (kG:PySem.W.keepIn K (.ref g)=true) (mG:mg "is_word"=some (.ref g)) :
  FnOk P w K mg base CX0 2 f fd ["word"] zeR:=by
 obtain⟨t2,e2⟩:=T.longest
 refine F.ok scIN (fun vs H Q E h=>?_) (fun cdv A outer s H vs Q E hr h=>?_)
 ·obtain⟨z,rfl,_⟩:=h
  rfl
 obtain⟨z,rfl,hz,q⟩:=h
 refine⟨_,ae (zab (zdS (zad G hr rfl mG kG bG .nil zaz (aa (pv 0) ac)) (zdS (zca op_le (zaw zbD rfl T.len PySem.boot_len (aa (pv 0) ac)) (za0 (v:=.int 8) rfl e2 ⟨_,rfl⟩) (zas _))
  (zgM (zca zhv (pv 0) (za0 (v:=.ref aK) rfl T.kept rfl) rfl))))),?_⟩
 refine⟨_,rfl,z,rfl,hz,fun H1 s1=>⟨_,rfl,?_⟩⟩
 refine zay (fun c=>?_) (fun c=>?_)
 ·refine⟨_,rfl,z,rfl,sz _ hz,_,_,rfl,rfl,_,rfl,?_⟩
  refine zay (fun c2=>?_) (fun c2=>?_)
  ·refine⟨_,rfl,aK,zfc,rfl,.inr (T.tup H1),rfl,ziL,?_⟩
   have:=q H1 s1
   unfold za3 at this
   rw[c,c2,Bool.true_and,Bool.true_and]at this
   exact this
  ·have:=q H1 s1
   unfold za3 at this
   rw[c,Bool.eq_false_iff.mpr c2,Bool.true_and,Bool.false_and]at this
   exact this
 ·have:=q H1 s1
  unfold za3 at this
  rw[Bool.eq_false_iff.mpr c,Bool.false_and]at this
  exact this
theorem scAN:zaa ["word"] ["word"] (ad zeV):=⟨rfl,rfl,rfl,by decide +kernel,rfl,by decide +kernel,by decide +kernel⟩
theorem ziE {f g:Addr} {fd gd:FuncData} (F:Fun K "ask_name" "ask_name" zeV f fd) (T:Txt K mg aK C CN CT CP CM) (G:FnOk P w K mg base CX0 2 g gd ["word"] zeR) (bG:au K gd ["word"] []) (kG:PySem.W.keepIn K (.ref g)=true) (mG:mg "is_name"=some (.ref g)) :
  FnOk P w K mg base (CX1 P w) 3 f fd ["word"] (zc1 CN):=by
 refine Fun.okX F scAN (fun vs H Q E h=>?_) (fun cdv A outer s H vs Q E hr h=>?_)
 ·obtain⟨z,rfl,_⟩:=h
  rfl
 obtain⟨z,rfl,lo,h⟩:=h
 refine⟨_,ae (zaD (zb3 (zbr (zad G hr rfl mG kG bG .nil zaz (aa (pv 0) ac))))
  (ae (za1 (C:=CN) xe1 rfl rfl T.bname PySem.F.excBase_ValueError T.xname (aa (za9 (zaq (zgN (pv 0)) (zaq ak zbz))) ac))) zag),?_⟩
 refine⟨_,rfl,z,rfl,Nat.le_trans lo.1 (by decide),fun H1 s1=>⟨_,rfl,?_⟩⟩
 have hre:=lo.repr
 cases e:za3 z with
 | true =>
  rw[e]at h
  exact zaX (h H1 s1)
 | false =>
  rw[e,if_neg (by decide)]at h
  refine za7 ?_
  refine⟨_,rfl,z,rfl,Nat.le_trans hre (by decide),_,rfl,?_,_,rfl,?_,?_,(by show 1≤sizeLine;decide),h H1 s1⟩
  ·rw[ap]
   exact Nat.le_trans (Nat.add_le_add_left hre _) (by decide +kernel)
  ·rw[ap,ap]
   exact Nat.le_trans (Nat.add_le_add_right (Nat.add_le_add_left hre _) _) (by decide +kernel)
  ·rw[ap,ap]
   exact Nat.le_trans (Nat.add_le_add_right (Nat.add_le_add_left hre _) _) (by decide +kernel)
theorem scPl:zaa ["thing","things","most"] ["thing","things","most"] (ad zgD):=⟨rfl,rfl,rfl,by decide +kernel,rfl,by decide +kernel,by decide +kernel⟩
theorem zfM {n:Int} (h1:-1000≤n) (h2:n≤1000):n.natAbs.log2 < 1920∧((toString n:String):Str).length≤1002:=by
 have hb:n.natAbs≤1000:=by omega
 refine⟨?_,?_⟩
 ·by_cases h0:n.natAbs=0
  ·rw[h0]
   decide
  ·have:=(Nat.log2_lt h0 (k:=1920)).mpr (Nat.lt_of_le_of_lt hb (by decide +kernel))
   exact this
 ·have:=PyProof.Rows.len_str_of_int n
  omega
theorem zj5 {f:Addr} {fd:FuncData} (F:Fun K "place_of" "place_of" zgD f fd) (T:Txt K mg aK C CN CT CP CM):FnOk P w K mg base (CX1 P w) 1 f fd ["thing","things","most"] (zb9 K CM):=by
 refine Fun.okX F scPl (fun vs H Q E h=>?_) (fun cdv A outer s H vs Q E hr h=>?_)
 ·obtain⟨a,tl,m,xs,ds,d,rfl,_⟩:=h
  rfl
 obtain⟨a,tl,m,xs,ds,d,rfl,ht,hl,hs,hd,hn,m0,m1,h⟩:=h
 have hu:=hu64 hr
 have hlen:xs.length=ds.length:=hs.length.symm
 obtain⟨hlog,hsl⟩:=zfM (n:=m) (by omega) m1
 refine⟨_,aj (zaD (zal (zi5 hu) (pv 0) (pv 1) rfl) (ae (zab (zbk PySem.F.plainAttrs_list PySem.F.slot_list_index PySem.F.type_list_index (zgc hu) (pv 1) (aa (pv 0) ac)))) zag)
  (aj (zaD (zal zin (zaw zaB rfl T.len PySem.boot_len (aa (pv 1) ac)) (pv 2) (zas _))
   (ae (za1 (C:=CM) xe1 rfl rfl T.bmany PySem.F.excBase_ValueError T.xmany (aa (za9 (zaq ak (zaq (zct (pv 2)) (zaq ak zbz)))) ac))) zag)
  (aj (zba (zbk PySem.F.plainAttrs_list PySem.F.slot_list_append PySem.F.type_list_append zbs (pv 1) (aa (pv 0) ac)))
  (ae (zab (ar zgO (zaw zaB rfl T.len PySem.boot_len (aa (pv 1) ac)) ah))))),?_⟩
 refine⟨_,rfl,_,rfl,tl,xs,ds,d,rfl,.inl (SqL.of hl),hs,ht,Nat.le_trans hd (by decide),_,rfl,?_⟩
 refine zay (fun c=>?_) (fun c=>?_)
 ·have c':(ds.any fun e=>peq e d)=true:=c
  rw[if_pos c']at h
  have hlt:(ds.findIdx fun e=>peq e d) < ds.length:=List.findIdx_lt_length_of_exists (by simpa using c')
  refine⟨_,rfl,.inl ⟨rfl,_,SqL.of hl⟩,_,rfl,tl,xs,ds,_,d,ds.findIdx (fun e=>peq e d),rfl,rfl,hl,hs,ht,Nat.le_trans hd (by decide),⟨_,List.getElem?_eq_getElem hlt,List.findIdx_getElem (w:=hlt)⟩,fun j dj h1 h2=>?_,h H (ao.refl H)⟩
  obtain⟨h3,h4⟩:=List.getElem?_eq_some_iff.mp h2
  have z:=List.not_of_lt_findIdx (p:=fun e=>peq e d) h1
  rw[h4]at z
  cases e:peq dj d with
  | false=>rfl
  | true=>rw[e]at z;cases z
 ·have c':¬(ds.any fun e=>peq e d)=true:=c
  rw[if_neg c']at h
  refine⟨_,rfl,tl,xs,rfl,.inl (SqL.of hl),_,rfl,_,_,rfl,rfl,_,rfl,zay (fun c2=>?_) (fun c2=>?_)⟩
  ·have c3:m≤((xs.length:Nat):Int):=of_decide_eq_true c2
   rw[hlen]at c3
   rw[if_pos c3]at h
   refine⟨_,rfl,by decide +kernel,_,rfl,.inr ⟨m,rfl,hlog,_,rfl,?_,_,rfl,?_,?_,(by show 1≤sizeLine;decide),h H (ao.refl H)⟩⟩
   all_goals
    simp only[ap]
    first
     | exact Nat.le_trans (Nat.add_le_add_left hsl _) (by decide +kernel)
     | exact Nat.le_trans (Nat.add_le_add_right (Nat.add_le_add_left hsl _) _) (by decide +kernel)
  ·have c3:¬m≤((xs.length:Nat):Int):=fun z=>c2 (decide_eq_true z)
   rw[hlen]at c3
   rw[if_neg c3]at h
   refine⟨_,rfl,.inl ⟨rfl,_,SqL.of hl⟩,_,rfl,tl,xs,_,rfl,rfl,hl,Nat.lt_of_le_of_lt (by rw[hlen];exact hn) (by decide),?_⟩
   refine⟨_,rfl,tl,_,rfl,.inl (SqL.of ag),_,_,rfl,rfl,?_⟩
   have e:(((xs++[V.ref a]).length:Nat):Int) - 1=(ds.length:Nat):=by rw[List.length_append,hlen];simp
   show Q (.int ((((xs++[V.ref a]).length:Nat):Int) - 1)) _
   rw[e]
   exact h
theorem scI:zaa ["self"] ["self"] (ad zij):=⟨rfl,rfl,rfl,by decide +kernel,rfl,by decide +kernel,by decide +kernel⟩
theorem zk2 {f:Addr} {fd:FuncData} (F:Fun K "__init__" "Problem.__init__" zij f fd) (T:Txt K mg aK C CN CT CP CM):FnOk P w K mg base CX0 1 f fd ["self"] (zgz C):=by
 refine F.ok scI (fun vs H Q E h=>?_) (fun cdv A outer s H vs Q E hr h=>?_)
 ·obtain⟨p,dx,rfl,_⟩:=h
  rfl
 obtain⟨p,dx,rfl,hp,k⟩:=h
 refine⟨_,aj (zdQ (pv 0) (za8 ac) rfl) (aj (zdQ (pv 0) (za8 ac) rfl) (ae (zdQ (pv 0) (za8 ac) rfl))),?_⟩
 refine⟨lS0,fun tl ht=>?_⟩
 have n1:p≠tl:=zan hp ht
 refine⟨_,rfl,p,C,dx,[],rfl,(by rw[ai n1];exact hp),T.cl,T.nT,(by show 0 < 1000;decide),?_⟩
 refine⟨lS0,fun al ha=>?_⟩
 have a1:al≠p:=fun z=>by rw[z,ag]at ha;cases ha
 have a2:al≠tl:=fun z=>by rw[z,ai n1.symm,ag]at ha;cases ha
 have a0:H al=none:=by rw[ai a1,ai a2]at ha;exact ha
 refine⟨_,rfl,p,C,dx,_,rfl,(by rw[ai a1.symm,ag]),T.cl,T.nA,(by show 1 < 1000;decide),?_⟩
 refine⟨lS0,fun rl hrl=>?_⟩
 have r1:rl≠p:=fun z=>by rw[z,ag]at hrl;cases hrl
 have r2:rl≠al:=fun z=>by rw[z,ai a1,ag]at hrl;cases hrl
 have r3:rl≠tl:=fun z=>by rw[z,ai n1.symm,ai a2.symm,ai n1.symm,ag]at hrl;cases hrl
 have r0:H rl=none:=by rw[ai r1,ai r2,ai r1,ai r3]at hrl;exact hrl
 refine⟨_,rfl,p,C,dx,_,rfl,(by rw[ai r1.symm,ag]),T.cl,T.nR,(by show 2 < 1000;decide),?_⟩
 refine k tl al rl _ ht a0 r0 a2 r3 r2 ag ?_ ?_ ?_ fun b o e hb=>?_
 ·rw[ai n1.symm,ai r3.symm,ai n1.symm,ai a2.symm,ai n1.symm,ag]
 ·rw[ai a1,ai r2.symm,ai a1,ag]
 ·rw[ai r1,ag]
 ·rw[ai hb,ai (zan e r0),ai hb,ai (zan e a0),ai hb,ai (zan e ht)]
  exact e
theorem scAT:zaa ["self","number"] ["self","number"] (ad zeT):=⟨rfl,rfl,rfl,by decide +kernel,rfl,by decide +kernel,by decide +kernel⟩
theorem ziC {f:Addr} {fd:FuncData} (F:Fun K "ask_term" "Problem.ask_term" zeT f fd) (T:Txt K mg aK C CN CT CP CM):FnOk P w K mg base (CX1 P w) 1 f fd ["self","number"] (zd1 K C CT):=by
 refine Fun.okX F scAT (fun vs H Q E h=>?_) (fun cdv A outer s H vs Q E hr h=>?_)
 ·obtain⟨p,tl,al,rl,T,As,Rs,n,rfl,_⟩:=h
  rfl
 obtain⟨p,tl,al,rl,T',As,Rs,n,rfl,S,h1,h2,h⟩:=h
 obtain⟨⟨dx,ho⟩,⟨xs,hl,hs⟩,_⟩:=id S
 have hlen:xs.length=T'.length:=by rw[←hs.length,List.length_map]
 obtain⟨hlog,hsl⟩:=zfM h1 h2
 refine⟨_,ae (zaD (PW.pt (pw_or (zal zim (pv 1) ah (zas _)) (zi1 (zal zin (pv 1) (zaw zaB rfl T.len PySem.boot_len (aa (zaS (pv 0) rfl) ac)) (zas _)))))
  (ae (za1 (C:=CT) xe1 rfl rfl T.bterm PySem.F.excBase_ValueError T.xterm (aa (za9 (zaq (zct (pv 1)) (zaq ak zbz))) ac))) zag),?_⟩
 refine⟨_,rfl,_,_,rfl,rfl,_,rfl,zay (fun c=>za7 ?_) (fun c=>⟨_,rfl,_,rfl,p,C,dx,_,_,rfl,ho,T.cl,T.nT,zdJ _ _ _,tl,xs,rfl,.inl (SqL.of hl),_,_,rfl,rfl,_,rfl,zay (fun c2=>?_) (fun c2=>?_)⟩)⟩
 rotate_left 2
 ·have c':¬n < 0:=fun z=>c (decide_eq_true z)
  have c2':¬((xs.length:Nat):Int)≤n:=fun z=>c2 (decide_eq_true z)
  rw[hlen]at c2'
  rw[if_neg (by omega)]at h
  exact h
 all_goals
  have hcond:n < 0∨(T'.length:Int)≤n:=by
   first
    | exact .inl (of_decide_eq_true c)
    | exact .inr (by have z:((xs.length:Nat):Int)≤n:=of_decide_eq_true c2;rw[hlen]at z;exact z)
  rw[if_pos hcond]at h
  refine⟨_,rfl,.inr ⟨n,rfl,hlog,_,rfl,?_,_,rfl,?_,?_,(by show 1≤sizeLine;decide),h H (ao.refl H)⟩⟩
  ·rw[ap]
   exact Nat.le_trans (Nat.add_le_add_left hsl _) (by decide +kernel)
  ·rw[ap,ap]
   exact Nat.le_trans (Nat.add_le_add_right (Nat.add_le_add_left hsl _) _) (by decide +kernel)
  ·rw[ap,ap]
   exact Nat.le_trans (Nat.add_le_add_right (Nat.add_le_add_left hsl _) _) (by decide +kernel)
theorem scAP:zaa ["self","part"] ["self","part"] (ad zeU):=⟨rfl,rfl,rfl,by decide +kernel,rfl,by decide +kernel,by decide +kernel⟩
theorem ziD {f:Addr} {fd:FuncData} (F:Fun K "ask_part" "Problem.ask_part" zeU f fd) (T:Txt K mg aK C CN CT CP CM):FnOk P w K mg base (CX1 P w) 1 f fd ["self","part"] (zd2 K C CP):=by
 refine Fun.okX F scAP (fun vs H Q E h=>?_) (fun cdv A outer s H vs Q E hr h=>?_)
 ·obtain⟨p,tl,al,rl,T,As,Rs,n,rfl,_⟩:=h
  rfl
 obtain⟨p,tl,al,rl,T',As,Rs,n,rfl,S,h1,h2,h⟩:=h
 obtain⟨⟨dx,ho⟩,_,⟨xs,hl,hs⟩,_⟩:=id S
 have hlen:xs.length=As.length:=by rw[←hs.length,List.length_map]
 obtain⟨hlog,hsl⟩:=zfM h1 h2
 refine⟨_,ae (zaD (PW.pt (pw_or (zal zbc (pv 1) ah (zas _)) (zi1 (zal zfb (zaw zkp rfl T.abs PyProof.Rows.Boot.abs (aa (pv 1) ac)) (zaw zaB rfl T.len PySem.boot_len (aa (zaS (pv 0) rfl) ac)) (zas _)))))
  (ae (za1 (C:=CP) xe1 rfl rfl T.bpart PySem.F.excBase_ValueError T.xpart (aa (za9 (zaq (zct (pv 1)) (zaq ak zbz))) ac))) zag),?_⟩
 refine⟨_,rfl,rfl,_,rfl,zay (fun c=>za7 ?_) (fun c=>⟨_,rfl,n,rfl,_,rfl,p,C,dx,_,_,rfl,ho,T.cl,T.nA,zb4 _ _ _,al,xs,rfl,.inl (SqL.of hl),_,_,rfl,rfl,_,rfl,zay (fun c2=>?_) (fun c2=>?_)⟩)⟩
 rotate_left 2
 ·have c':¬n=0:=fun z=>c (decide_eq_true (by rw[z]))
  have c2':¬((xs.length:Nat):Int) < (if n < 0 then -n else n):=fun z=>c2 (decide_eq_true z)
  rw[hlen]at c2'
  have hb:zbm As.length n=false:=by
   unfold zbm
   have a1:¬((As.length:Nat):Int) < n:=by split at c2' <;> omega
   have a2:¬n < -((As.length:Nat):Int):=by split at c2' <;> omega
   rw[decide_eq_false c',decide_eq_false a1,decide_eq_false a2]
   rfl
  rw[if_neg (by rw[hb];decide)]at h
  exact h
 all_goals
  have hb:zbm As.length n=true:=by
   unfold zbm
   first
    | (have c':V.int n=V.int 0:=of_decide_eq_true c
       have c2':n=0:=by injection c'
       rw[decide_eq_true c2'];rfl)
    | (have z:((xs.length:Nat):Int) < (if n < 0 then -n else n):=of_decide_eq_true c2
       rw[hlen]at z
       split at z
       ·rw[decide_eq_true (show n < -((As.length:Nat):Int) by omega),Bool.or_true]
       ·rw[decide_eq_true (show((As.length:Nat):Int) < n by omega),Bool.or_true,Bool.true_or])
  rw[if_pos hb]at h
  refine⟨_,rfl,.inr ⟨n,rfl,hlog,_,rfl,?_,_,rfl,?_,?_,(by show 1≤sizeLine;decide),h H (ao.refl H)⟩⟩
  ·rw[ap]
   exact Nat.le_trans (Nat.add_le_add_left hsl _) (by decide +kernel)
  ·rw[ap,ap]
   exact Nat.le_trans (Nat.add_le_add_right (Nat.add_le_add_left hsl _) _) (by decide +kernel)
  ·rw[ap,ap]
   exact Nat.le_trans (Nat.add_le_add_right (Nat.add_le_add_left hsl _) _) (by decide +kernel)
end
end K06
namespace K06
open PySem L2
def Fr2 (H H':Hp) (z y:Addr):Prop:=∀ b o,H b=some o→b≠z→b≠y→H' b=some o
theorem Fr2.of1 {H H':Hp} {z y:Addr} (f:Fr1 H H' z):Fr2 H H' z y:=fun b o e n _=>f b o e n
theorem Fr2.of_same {H H':Hp} {z y:Addr} (s:ao H H'):Fr2 H H' z y:=fun b o e _ _=>s b o e
theorem Fr2.trans {H H1 H2:Hp} {z y:Addr} (a:Fr2 H H1 z y) (b:Fr2 H1 H2 z y):Fr2 H H2 z y:=fun c o e n m=>b c o (a c o e n m) n m
def zc8 (As:List At) (z:Str):Out × List At :=
 if za3 z=false then(.name,As) else if .plain z∈As then(.num (As.idxOf (.plain z)+1),As) else if 40≤As.length then(.many,As) else(.num (As.length+1),As++[.plain z])
def zb8 (n:Nat) (As:List At) (a b:Int):Out × List At :=
 if a < 0∨(n:Int)≤a∨b < 0∨(n:Int)≤b then(.term,As) else if .same b a∈As then(.num (As.idxOf (.same b a)+1),As) else if .same a b∈As then(.num (As.idxOf (.same a b)+1),As) else if 40≤As.length then(.many,As) else(.num (As.length+1),As++[.same a b])
def zaG:List Int→List Int→List Int
 | acc,[]=>acc
 | acc,p :: ps=>zaG (if p∈acc then acc else acc++[p]) ps
def zcK (m:Nat) (Rs:List (List Int)) (ps:List Int):Out × List (List Int) :=
 if ps.any (zbm m)=true then(.part,Rs) else if 20 < ps.length then(.many,Rs) else if 200≤Rs.length then(.many,Rs) else(.num Rs.length,Rs++[zaG [] ps])
def Told (K:PySem.W.Frag) (C CN CT CP CM:Addr) (H:Hp) (p tl al rl:Addr) (T:List Tm) (As:List At) (Rs:List (List Int)) (Q:VK) (E:XK):Out→Prop
 | .num k=>∀ H',zaC K C H' p tl al rl T As Rs→Fr2 H H' al rl→Q (.int (k:Nat)) H'
 | .name=>∀ H',ao H H'→E (.ref CN) none H'
 | .term=>∀ H',ao H H'→E (.ref CT) none H'
 | .part=>∀ H',ao H H'→E (.ref CP) none H'
 | .many=>∀ H',ao H H'→E (.ref CM) none H'
inductive zfF (K:PySem.W.Frag) (C CN CT CP CM:Addr):Sp | mk {vs H Q E} (p tl al rl:Addr) (T:List Tm) (As:List At) (Rs:List (List Int)) (z:Str):vs=[.ref p,.str z]→zaC K C H p tl al rl T As Rs→Low z→As.length≤1000→Told K C CN CT CP CM H p tl al rl T (zc8 As z).2 Rs Q E (zc8 As z).1→zfF K C CN CT CP CM vs H Q E
inductive zgx (K:PySem.W.Frag) (C CN CT CP CM:Addr):Sp | mk {vs H Q E} (p tl al rl:Addr) (T:List Tm) (As:List At) (Rs:List (List Int)) (a b:Int):vs=[.ref p,.int a,.int b]→zaC K C H p tl al rl T As Rs→(-1000≤a∧a≤1000)→(-1000≤b∧b≤1000)→As.length≤1000→Told K C CN CT CP CM H p tl al rl T (zb8 T.length As a b).2 Rs Q E (zb8 T.length As a b).1→zgx K C CN CT CP CM vs H Q E
inductive zie (K:PySem.W.Frag) (C CN CT CP CM:Addr):Sp | mk {vs H Q E} (p tl al rl q:Addr) (T:List Tm) (As:List At) (Rs:List (List Int)) (ps:List Int):vs=[.ref p,.ref q]→zaC K C H p tl al rl T As Rs→SqI K H q ps→ps.length≤1000→(∀ i∈ps,-1000≤i∧i≤1000)→Rs.length≤1000→Told K C CN CT CP CM H p tl al rl T As (zcK As.length Rs ps).2 Q E (zcK As.length Rs ps).1→zie K C CN CT CP CM vs H Q E
inductive zgy (K:PySem.W.Frag):Sp | mk {vs H Q E9} (q:Addr) (ps:List Int):vs=[.ref q]→SqI K H q ps→ps.length≤1000→(∀(H':Hp) (l:Addr),ao H H'→H' l=some (.tup ((zaG [] ps).map V.int))→Q (.ref l) H')→zgy K vs H Q E9
theorem zkQ (a b:Int):peq (.int a) (.int b)=decide (a=b):=by
 simp only[peq]
 rfl
theorem q1 {Q:VK} {n:Nat} {H:Hp} (h:Q (.int ((n+1:Nat):Int)) H):Q (.int (((n:Nat):Int)+1)) H:=h
theorem ze0:∀(ps acc:List Int),(zaG acc ps).length≤acc.length+ps.length
 | [],acc=>by simp [zaG]
 | p :: ps,acc=>by
  unfold zaG
  have h:=ze0 ps (if p∈acc then acc else acc++[p])
  split at h <;> simp only[List.length_append,List.length_cons,List.length_singleton,List.length_nil]at h ⊢ <;> split <;> simp_all <;> omega
theorem zf8 {ps:List Int} {i:Nat} {k:Int}:∀ {acc:List Int},ps[i]?=some k→zaG acc (ps.take (i+1))=if k∈zaG acc (ps.take i) then zaG acc (ps.take i) else zaG acc (ps.take i)++[k]:=by
 induction ps generalizing i with
 | nil=>intro acc h;simp at h
 | cons p ps ih =>
  intro acc h
  cases i with
  | zero =>
   simp at h
   subst h
   simp [zaG]
  | succ i =>
   simp only[List.take_succ_cons,zaG]
   exact ih (by simpa using h)
section
variable {P:Program} {w:World} {K:PySem.W.Frag} {mg:Str→Option Value} {base:Heap} {aK C CN CT CP CM:Addr}
theorem zhU {H:Hp} {p tl al rl a:Addr} {T:List Tm} {As:List At} {Rs:List (List Int)} {t:At} {Q:VK} {E:XK} (S:zaC K C H p tl al rl T As Rs) (ha:Has K H (dA t) (.ref a)) (len:As.length≤1000)
  (k1:t∈As→∀ H',ao H H'→Q (.int (As.idxOf t:Nat)) H') (k2:t∉As→40≤As.length→∀ H',ao H H'→E (.ref CM) none H')
  (k3:t∉As→¬40≤As.length→∀ H',zaC K C H' p tl al rl T (As++[t]) Rs→Fr1 H H' al→Q (.int (As.length:Nat)) H'):zb9 K CM [.ref a,.ref al,.int 40] H Q E:=by
 obtain⟨xs,hl,hs⟩:=id S.am
 refine⟨a,al,40,xs,As.map dA,dA t,rfl,ha,hl,hs,Nat.le_trans (zea (n:=1) (fun a=>by rw[zjm];exact Nat.le_refl _) As) (by decide),by rw[List.length_map];exact len,by decide,by decide,?_⟩
 rw[zcT zgS,zhl zgS,List.length_map]
 by_cases hm:t∈As
 ·rw[if_pos (decide_eq_true hm)]
  exact k1 hm
 ·rw[if_neg (by rw[decide_eq_false hm];decide)]
  by_cases h40:40≤As.length
  ·rw[if_pos (by omega)]
   exact k2 hm h40
  ·rw[if_neg (by omega)]
   have kt:KeepT H (upd H al (.lst (xs++[.ref a]))):=KeepT.lst hl
   refine k3 hm h40 _ (S.setA ?_) fun b o e hb=>by rw[ai hb];exact e
   rw[List.map_append]
   exact(hs.keep kt (zaU zcN As)).append (aq.one (ha.keep kt (zcN t)))
theorem scP:zaa ["self","name"] ["self","name"] (ad zgC):=⟨rfl,rfl,rfl,by decide +kernel,rfl,by decide +kernel,by decide +kernel⟩
theorem zj4 {f fN fP:Addr} {fd dN dP:FuncData} (F:Fun K "add_plain" "Problem.add_plain" zgC f fd) (T:Txt K mg aK C CN CT CP CM)
  (GN:FnOk P w K mg base (CX1 P w) 3 fN dN ["word"] (zc1 CN)) (bN:au K dN ["word"] []) (kN:PySem.W.keepIn K (.ref fN)=true) (mN:mg "ask_name"=some (.ref fN))
  (GP:FnOk P w K mg base (CX1 P w) 1 fP dP ["thing","things","most"] (zb9 K CM)) (bP:au K dP ["thing","things","most"] []) (kP:PySem.W.keepIn K (.ref fP)=true) (mP:mg "place_of"=some (.ref fP)) :
  FnOk P w K mg base (CX1 P w) 4 f fd ["self","name"] (zfF K C CN CT CP CM):=by
 obtain⟨t40,e40⟩:=T.atoms
 refine Fun.okX F scP (fun vs H Q E h=>?_) (fun cdv A outer s H vs Q E hr h=>?_)
 ·obtain⟨p,tl,al,rl,T,As,Rs,z,rfl,_⟩:=h
  rfl
 obtain⟨p,tl,al,rl,T',As,Rs,z,rfl,S,lo,len,h⟩:=h
 have hr1:zai 1 _:=hr.mono (by decide)
 refine⟨_,aj (zba (zad GN hr rfl mN kN bN .nil (zau xe1) (aa (pv 1) ac)))
  (ae (zab (ar zbt (zad GP hr1 rfl mP kP bP .nil (zau xe1) (aa (zbA (aa ak (aa (pv 1) ac))) (aa (zaS (pv 0) rfl) (aa (za0 (v:=.int 40) rfl e40 ⟨_,rfl⟩) ac)))) ah))),?_⟩
 refine⟨_,rfl,z,rfl,lo,?_⟩
 cases hg:za3 z with
 | false =>
  rw[if_neg (by decide)]
  have e:zc8 As z=(.name,As):=if_pos hg
  rw[e]at h
  exact h
 | true =>
 rw[if_pos rfl]
 intro H1 s1
 refine⟨_,rfl,lS2,fun a ha=>?_⟩
 have s2:ao H1 (upd H1 a (.tup [.str "plain",.str z])):=zbb ha _
 have s12:=s1.trans s2
 have S2:=S.same s12
 obtain⟨⟨dx,ho⟩,_⟩:=id S2
 have hd:Has K (upd H1 a (.tup [.str "plain",.str z])) (dA (.plain z)) (.ref a):=by
  simp only[dA,Has,aq]
  exact⟨a,_,rfl,SqT.of ag,_,_,rfl,rfl,_,_,rfl,rfl,rfl⟩
 refine⟨_,rfl,p,C,dx,_,_,rfl,ho,T.cl,T.nA,zb4 _ _ _,?_⟩
 refine zhU (CM:=CM) (E:=E) (Q:=fun x H'=>rI0 (fun i j=>.int (i+j)) x (.int 1) H' Q) S2 hd len (fun hm H' s'=>?_) (fun hm h40 H' s'=>?_) (fun hm h40 H' S' fr=>?_)
 ·have e:zc8 As z=(.num (As.idxOf (.plain z)+1),As):=by unfold zc8;rw[if_neg (by rw[hg];decide),if_pos hm]
  rw[e]at h
  exact⟨_,_,rfl,rfl,q1 <| h H' (S2.same s') (Fr2.of_same (s12.trans s'))⟩
 ·have e:zc8 As z=(.many,As):=by unfold zc8;rw[if_neg (by rw[hg];decide),if_neg hm,if_pos h40]
  rw[e]at h
  exact h H' (s12.trans s')
 ·have e:zc8 As z=(.num (As.length+1),As++[.plain z]):=by unfold zc8;rw[if_neg (by rw[hg];decide),if_neg hm,if_neg h40]
  rw[e]at h
  exact⟨_,_,rfl,rfl,q1 <| h H' S' ((Fr2.of_same s12).trans (Fr2.of1 fr))⟩
theorem scSm:zaa ["self","one","other","turned"] ["self","one","other"] (ad zih):=⟨rfl,rfl,rfl,by decide +kernel,rfl,by decide +kernel,by decide +kernel⟩
theorem zkX {f fT fP:Addr} {fd dT' dP:FuncData} (F:Fun K "add_same" "Problem.add_same" zih f fd) (T:Txt K mg aK C CN CT CP CM)
  (GT:FnOk P w K mg base (CX1 P w) 1 fT dT' ["self","number"] (zd1 K C CT)) (bT:au K dT' ["self","number"] []) (mT:zbp K C "ask_term" fT)
  (GP:FnOk P w K mg base (CX1 P w) 1 fP dP ["thing","things","most"] (zb9 K CM)) (bP:au K dP ["thing","things","most"] []) (kP:PySem.W.keepIn K (.ref fP)=true) (mP:mg "place_of"=some (.ref fP)) :
  FnOk P w K mg base (CX1 P w) 2 f fd ["self","one","other"] (zgx K C CN CT CP CM):=by
 obtain⟨t40,e40⟩:=T.atoms
 refine Fun.okX F scSm (fun vs H Q E h=>?_) (fun cdv A outer s H vs Q E hr h=>?_)
 ·obtain⟨p,tl,al,rl,T,As,Rs,a,b,rfl,_⟩:=h
  rfl
 obtain⟨p,tl,al,rl,T',As,Rs,a,b,rfl,S,⟨a1,a2⟩,⟨b1,b2⟩,len,h⟩:=h
 have hu:=hu64 hr
 refine⟨_,aj (zba (zaZ (pv 0) T.cl mT GT hr bT .nil (zau xe1) (aa (pv 1) ac)))
  (aj (zba (zaZ (pv 0) T.cl mT GT hr bT .nil (zau xe1) (aa (pv 2) ac)))
  (aj (zar (i:=3) scSm.nd rfl (Or.inl rfl) (zbA (aa ak (aa (pv 2) (aa (pv 1) ac)))))
  (aj (zaD (zal (zi5 hu) (pv 3) (zaS (pv 0) rfl) rfl) (ae (zab (ar zbt (zbk PySem.F.plainAttrs_list PySem.F.slot_list_index PySem.F.type_list_index (zgc hu) (zaS (pv 0) rfl) (aa (pv 3) ac)) ah))) zag)
  (ae (zab (ar zbt (zad GP hr rfl mP kP bP .nil (zau xe1) (aa (zbA (aa ak (aa (pv 1) (aa (pv 2) ac)))) (aa (zaS (pv 0) rfl) (aa (za0 (v:=.int 40) rfl e40 ⟨_,rfl⟩) ac)))) ah)))))),?_⟩
 obtain⟨⟨dx,ho⟩,_,⟨xs,hl,hs⟩,_⟩:=id S
 have no:=zb0 tl al rl (m:="ask_term") (by decide +kernel) (by decide +kernel) (by decide +kernel)
 refine⟨_,rfl,p,dx,_,rfl,ho,no,_,rfl,p,tl,al,rl,T',As,Rs,a,rfl,S,a1,a2,?_⟩
 by_cases ca:a < 0∨(T'.length:Int)≤a
 ·rw[if_pos ca]
  have e:zb8 T'.length As a b=(.term,As):=if_pos (ca.elim .inl fun z=>.inr (.inl z))
  rw[e]at h
  exact h
 rw[if_neg ca]
 refine⟨_,rfl,p,dx,_,rfl,ho,no,_,rfl,p,tl,al,rl,T',As,Rs,b,rfl,S,b1,b2,?_⟩
 by_cases cb:b < 0∨(T'.length:Int)≤b
 ·rw[if_pos cb]
  have e:zb8 T'.length As a b=(.term,As):=if_pos (.inr (.inr cb))
  rw[e]at h
  exact h
 rw[if_neg cb]
 have cn:¬(a < 0∨(T'.length:Int)≤a∨b < 0∨(T'.length:Int)≤b):=by omega
 refine⟨_,rfl,_,rfl,lS3,fun u hu'=>?_⟩
 have s1:ao H (upd H u (.tup [.str "same",.int b,.int a])):=zbb hu' _
 have hd:Has K (upd H u (.tup [.str "same",.int b,.int a])) (dA (.same b a)) (.ref u):=by
  simp only[dA,Has,aq]
  exact⟨u,_,rfl,SqT.of ag,_,_,rfl,rfl,_,_,rfl,rfl,_,_,rfl,rfl,rfl⟩
 have S1:=S.same s1
 have hs1:=hs.keep (.of_same s1) (zaU zcN As)
 have dp:zaP (As.map dA)≤60:=Nat.le_trans (zea (n:=1) (fun a=>by rw[zjm];exact Nat.le_refl _) As) (by decide)
 refine⟨_,rfl,_,rfl,p,C,dx,_,_,rfl,s1 _ _ ho,T.cl,T.nA,zb4 _ _ _,al,xs,As.map dA,dA (.same b a),rfl,.inl (SqL.of (s1 _ _ hl)),hs1,hd,dp,_,rfl,?_⟩
 have ea:=zcT zgS As (.same b a)
 by_cases hm:At.same b a∈As
 ·rw[decide_eq_true hm]at ea
  refine zay (fun _=>?_) (fun c=>absurd ea c)
  have e:zb8 T'.length As a b=(.num (As.idxOf (.same b a)+1),As):=by unfold zb8;rw[if_neg cn,if_pos hm]
  rw[e]at h
  have hlt:=List.idxOf_lt_length_of_mem hm
  refine⟨_,rfl,p,C,dx,_,_,rfl,s1 _ _ ho,T.cl,T.nA,zb4 _ _ _,.inl ⟨rfl,_,SqL.of (s1 _ _ hl)⟩,_,rfl,al,xs,As.map dA,_,dA (.same b a),As.idxOf (.same b a),rfl,rfl,s1 _ _ hl,hs1,hd,dp,⟨dA (.same b a),?_,zbT _⟩,fun m dm h1 h2=>?_,_,_,rfl,rfl,q1 (h _ S1 (Fr2.of_same s1))⟩
  ·rw[List.getElem?_map,List.getElem?_eq_getElem hlt]
   simp
  ·rw[List.getElem?_map]at h2
   cases q:As[m]? with
   | none=>rw[q]at h2;cases h2
   | some v =>
    rw[q]at h2
    have e':dm=dA v:=(Option.some.inj h2).symm
    rw[e',zi3]
    refine decide_eq_false fun z=>?_
    obtain⟨hm',hv⟩:=List.getElem?_eq_some_iff.mp q
    have z':=List.not_of_lt_findIdx (p:=(· == At.same b a)) h1
    rw[hv,z,beq_self_eq_true]at z'
    cases z'
 ·rw[decide_eq_false hm]at ea
  refine zay (fun c=>absurd (show false=true from ea.symm.trans c) (by decide)) (fun _=>?_)
  refine⟨_,rfl,_,rfl,lS3,fun v hv=>?_⟩
  have s2:ao (upd H u (.tup [.str "same",.int b,.int a])) (upd (upd H u (.tup [.str "same",.int b,.int a])) v (.tup [.str "same",.int a,.int b])):=zbb hv _
  have s12:=s1.trans s2
  have S2:=S.same s12
  have hd2:Has K (upd (upd H u (.tup [.str "same",.int b,.int a])) v (.tup [.str "same",.int a,.int b])) (dA (.same a b)) (.ref v):=by
   simp only[dA,Has,aq]
   exact⟨v,_,rfl,SqT.of ag,_,_,rfl,rfl,_,_,rfl,rfl,_,_,rfl,rfl,rfl⟩
  refine⟨_,rfl,p,C,dx,_,_,rfl,s12 _ _ ho,T.cl,T.nA,zb4 _ _ _,?_⟩
  refine zhU (CM:=CM) (E:=E) (Q:=fun x H'=>rI0 (fun i j=>.int (i+j)) x (.int 1) H' Q) S2 hd2 len (fun hm2 H' s'=>?_) (fun hm2 h40 H' s'=>?_) (fun hm2 h40 H' S' fr=>?_)
  ·have e:zb8 T'.length As a b=(.num (As.idxOf (.same a b)+1),As):=by unfold zb8;rw[if_neg cn,if_neg hm,if_pos hm2]
   rw[e]at h
   exact⟨_,_,rfl,rfl,q1 <| h H' (S2.same s') (Fr2.of_same (s12.trans s'))⟩
  ·have e:zb8 T'.length As a b=(.many,As):=by unfold zb8;rw[if_neg cn,if_neg hm,if_neg hm2,if_pos h40]
   rw[e]at h
   exact h H' (s12.trans s')
  ·have e:zb8 T'.length As a b=(.num (As.length+1),As++[.same a b]):=by unfold zb8;rw[if_neg cn,if_neg hm,if_neg hm2,if_neg h40]
   rw[e]at h
   exact⟨_,_,rfl,rfl,q1 <| h H' S' ((Fr2.of_same s12).trans (Fr2.of1 fr))⟩
end
end K06
namespace K06
open PySem L2
structure Asks (K:PySem.W.Frag) (C:Addr) (H:Hp) (p tl al rl q:Addr) (T:List Tm) (As:List At) (Rs:List (List Int)) (n:Str) (ps:List Int):Prop where
 pr:zaC K C H p tl al rl T As Rs
 sq:SqI K H q ps
 low:Low n
 few:ps.length≤10
 small:∀ i∈ps,-1000≤i∧i≤1000
 len:T.length≤1000
inductive zif (K:PySem.W.Frag) (C CN CT CM:Addr):Sp | mk {vs H Q E} (p tl al rl q:Addr) (T:List Tm) (As:List At) (Rs:List (List Int)) (n:Str) (ps:List Int):vs=[.ref p,.str n,.ref q]→Asks K C H p tl al rl q T As Rs n ps→(match zcJ T (za3 n) (n,ps) with | (.num k,T')=>∀ H',zaC K C H' p tl al rl T' As Rs→Fr1 H H' tl→Q (.int (k:Nat)) H' | (.name,_)=>∀ H',ao H H'→E (.ref CN) none H' | (.term,_)=>∀ H',ao H H'→E (.ref CT) none H' | (.many,_)=>∀ H',ao H H'→E (.ref CM) none H' | (.part,_)=>True)→zif K C CN CT CM vs H Q E
section
variable {P:Program} {w:World} {K:PySem.W.Frag} {mg:Str→Option Value} {base:Heap} {aK C CN CT CP CM:Addr}
theorem scA:zaa ["self","name","parts","part"] ["self","name","parts"] (ad sAdd):=⟨rfl,rfl,rfl,by decide +kernel,rfl,by decide +kernel,by decide +kernel⟩
theorem zhi {ps:List Int} {i:Nat} {x:V} (h:(ps.map V.int)[i]?=some x):∃ k,ps[i]?=some k∧x=.int k:=by
 rw[List.getElem?_map]at h
 cases e:ps[i]? with
 | none=>rw[e]at h;cases h
 | some k =>
  rw[e]at h
  exact⟨k,rfl,(Option.some.inj h).symm⟩
theorem zjr {T:List Tm} {ps:List Int} {i:Nat} {k:Int} (h3:ps.length≤3) (e:ps[i]?=some k) (h:k < 0∨(T.length:Int)≤k):bad T ps=true:=by
 unfold bad
 rw[Bool.or_eq_true]
 refine .inr (List.any_eq_true.mpr ⟨k,List.mem_of_getElem? e,?_⟩)
 rw[Bool.or_eq_true]
 exact h.elim (fun z=>.inl (decide_eq_true z)) fun z=>.inr (decide_eq_true z)
theorem zhX {T:List Tm} {ps:List Int} (h3:ps.length≤3) (h:∀(i:Nat) k,ps[i]?=some k→¬(k < 0∨(T.length:Int)≤k)):bad T ps=false:=by
 cases e:bad T ps with
 | false=>rfl
 | true =>
  unfold bad at e
  rw[Bool.or_eq_true]at e
  rcases e with e | e
  ·have:=of_decide_eq_true e
   omega
  ·obtain⟨k,hk,e⟩:=List.any_eq_true.mp e
   obtain⟨i,hi⟩:=List.mem_iff_getElem?.mp hk
   rw[Bool.or_eq_true]at e
   exact absurd (e.elim (fun z=>.inl (of_decide_eq_true z)) fun z=>.inr (of_decide_eq_true z)) (h i k hi)
theorem ok_add {f fN fT fP:Addr} {fd dN dT' dP:FuncData} (F:Fun K "add_term" "Problem.add_term" sAdd f fd) (T:Txt K mg aK C CN CT CP CM)
  (GN:FnOk P w K mg base (CX1 P w) 3 fN dN ["word"] (zc1 CN)) (bN:au K dN ["word"] []) (kN:PySem.W.keepIn K (.ref fN)=true) (mN:mg "ask_name"=some (.ref fN))
  (GT:FnOk P w K mg base (CX1 P w) 1 fT dT' ["self","number"] (zd1 K C CT)) (bT:au K dT' ["self","number"] []) (mT:zbp K C "ask_term" fT)
  (GP:FnOk P w K mg base (CX1 P w) 1 fP dP ["thing","things","most"] (zb9 K CM)) (bP:au K dP ["thing","things","most"] []) (kP:PySem.W.keepIn K (.ref fP)=true) (mP:mg "place_of"=some (.ref fP)) :
  FnOk P w K mg base (CX1 P w) 4 f fd ["self","name","parts"] (zif K C CN CT CM):=by
 obtain⟨t3,e3⟩:=T.parts
 obtain⟨t60,e60⟩:=T.terms
 refine Fun.okX F scA (fun vs H Q E h=>?_) (fun cdv A outer s H vs Q E hr h=>?_)
 ·obtain⟨p,tl,al,rl,q,T,As,Rs,n,ps,rfl,_⟩:=h
  rfl
 obtain⟨p,tl,al,rl,q,T',As,Rs,n,ps,rfl,A0,h⟩:=h
 obtain⟨S,hq,lo,few,small,len⟩:=A0
 have hr1:zai 1 _:=hr.mono (by decide)
 refine⟨_,aj (zba (zad GN hr rfl mN kN bN .nil (zau xe1) (aa (pv 1) ac)))
  (aj (zaD (zal zfb (zaw zaB rfl T.len PySem.boot_len (aa (pv 2) ac)) (za0 (v:=.int 3) rfl e3 ⟨_,rfl⟩) (zas _))
   (ae (za1 (C:=CT) xe1 rfl rfl T.bterm PySem.F.excBase_ValueError T.xterm (aa (za9 (zaq (zct (pv 1)) (zaq ak (zaq (zct (za0 (v:=.int 3) rfl e3 ⟨_,rfl⟩)) (zaq ak zbz))))) ac))) zag)
  (aj (zdg PassesOwn.leaving rfl (zgJ (pv 2)) (zbv (i:=3) scA.nd rfl (Or.inl rfl)) (ae (zba (zaZ (pv 0) T.cl mT GT hr1 bT .nil (zau xe1) (aa (pv 3) ac)))))
  (ae (zab (zad GP hr1 rfl mP kP bP .nil (zau xe1) (aa (zbA (aa (pv 1) (aa (zd5 zcs rfl T.tuple PyProof.Rows.Boot.tuple (aa (pv 2) ac)) ac))) (aa (zaS (pv 0) rfl) (aa (za0 (v:=.int 60) rfl e60 ⟨_,rfl⟩) ac)))))))),?_⟩
 refine⟨_,rfl,n,rfl,lo,?_⟩
 cases hg:za3 n with
 | false =>
  have e:zcJ T' false (n,ps)=(.name,T'):=if_pos rfl
  rw[hg,e]at h
  rw[if_neg (by decide)]
  exact h
 | true =>
 rw[if_pos rfl]
 intro H1 s1
 have S1:=S.same s1
 have hq1:=hq.same s1
 refine⟨_,rfl,q,_,rfl,hq1,_,_,rfl,rfl,_,rfl,?_⟩
 have hl1:(ps.map V.int).length=ps.length:=List.length_map _
 refine zay (fun c=>?_) (fun c=>?_)
 ·have c':(3:Int) < (((ps.map V.int).length:Nat):Int):=of_decide_eq_true c
  rw[hl1]at c'
  have hb:bad T' ps=true:=by unfold bad;rw[decide_eq_true (by omega:3 < ps.length)];rfl
  have e:zcJ T' true (n,ps)=(.term,T'):=by unfold zcJ;rw[if_neg (by decide),if_pos hb]
  rw[hg,e]at h
  have hn:=lo.1
  refine⟨_,rfl,.inl ⟨n,rfl,Nat.le_trans hn (by decide),_,rfl,?_,_,rfl,?_,.inr ⟨3,rfl,by decide +kernel,_,rfl,?_,_,rfl,?_,?_,(by show 1≤sizeLine;decide),h H1 s1⟩⟩⟩
  all_goals
   simp only[ap]
   exact Nat.le_trans (by first | exact Nat.add_le_add_left hn _ | exact Nat.add_le_add_right (Nat.add_le_add_left hn _) _ | exact Nat.add_le_add_right (Nat.add_le_add_right (Nat.add_le_add_left hn _) _) _ | exact Nat.add_le_add_right (Nat.add_le_add_right (Nat.add_le_add_right (Nat.add_le_add_left hn _) _) _) _) (by decide +kernel)
 ·have c':¬(3:Int) < (((ps.map V.int).length:Nat):Int):=fun z=>c (decide_eq_true z)
  rw[hl1]at c'
  have h3:ps.length≤3:=by omega
  obtain⟨⟨dx,ho⟩,⟨xs,hl,hs⟩,_⟩:=id S1
  have addE:bad T' ps=false→zcJ T' true (n,ps)=if(n,ps)∈T' then(.num (T'.idxOf (n,ps)),T') else if 60≤T'.length then(.many,T') else(.num T'.length,T'++[(n,ps)]):=fun hb=>by unfold zcJ;rw[if_neg (by decide),if_neg (by rw[hb];decide)]
  have last:∀(H3:Hp) (a l:Addr),ao H H3→H3 a=some (.tup [.str n,.ref l])→SqT K H3 l (ps.map V.int)→bad T' ps=false→zb9 K CM [.ref a,.ref tl,.int 60] H3 Q E:=fun H3 a l s3 ha hq3 hb=>by
   have S3:=S.same s3
   rw[hg,addE hb]at h
   obtain⟨xs3,hl3,hs3⟩:=id S3.tm
   have hd:Has K H3 (dT (n,ps)) (.ref a):=by
    simp only[dT,Has,aq]
    exact⟨a,_,rfl,SqT.of ha,_,_,rfl,rfl,_,_,rfl,⟨l,_,rfl,hq3,aq.ints ps⟩,rfl⟩
   refine⟨a,tl,60,xs3,T'.map dT,dT (n,ps),rfl,hd,hl3,hs3,Nat.le_trans (zho T') (by decide),by rw[List.length_map];exact len,by decide,by decide,?_⟩
   rw[zcT zjh,zhl zjh,List.length_map]
   by_cases hm:(n,ps)∈T'
   ·rw[if_pos hm]at h
    rw[if_pos (decide_eq_true hm)]
    exact fun H' s'=>h H' (S3.same s') (Fr1.of_same (s3.trans s'))
   ·rw[if_neg hm]at h
    rw[if_neg (by rw[decide_eq_false hm];decide)]
    by_cases h60:60≤T'.length
    ·rw[if_pos h60]at h
     rw[if_pos (by omega)]
     exact fun H' s'=>h H' (s3.trans s')
    ·rw[if_neg h60]at h
     rw[if_neg (by omega)]
     have kt:KeepT H3 (upd H3 tl (.lst (xs3++[.ref a]))):=KeepT.lst hl3
     refine h _ (S3.setT ?_) fun b o e hb'=>?_
     ·rw[List.map_append]
      exact(hs3.keep kt (zce T')).append (aq.one (hd.keep kt (zi6 _)))
     ·rw[ai hb']
      exact s3 b o e
  rcases hq1 with hqX | hqX
  ·refine⟨_,rfl,q,rfl,.inl ⟨⟨_,hqX⟩,ze5 (K:=K) (a:=q) (xs:=ps.map V.int) (fun i σ H2=>H2=H1∧(∃ z,σ=[some (.ref p),some (.str n),some (.ref q),z])∧∀(j:Nat) k,j < i→ps[j]?=some k→¬(k < 0∨(T'.length:Int)≤k))
    ⟨rfl,⟨_,rfl⟩,fun j k hj=>absurd hj (Nat.not_lt_zero j)⟩ (fun i σ H2 _ ⟨e,_⟩=>by rw[e];exact hqX) ?_ ?_⟩⟩
   ·rintro i x σ H2 hx ⟨rfl,⟨z,rfl⟩,no⟩
    obtain⟨k,ek,rfl⟩:=zhi hx
    have sk:=small k (List.mem_of_getElem? ek)
    refine⟨_,rfl,p,dx,_,rfl,ho,zb0 _ _ _ (by decide +kernel) (by decide +kernel) (by decide +kernel),_,rfl,p,tl,al,rl,T',As,Rs,k,rfl,S1,sk.1,sk.2,?_⟩
    by_cases hk:k < 0∨(T'.length:Int)≤k
    ·rw[if_pos hk]
     have e:zcJ T' true (n,ps)=(.term,T'):=by unfold zcJ;rw[if_neg (by decide),if_pos (zjr h3 ek hk)]
     rw[hg,e]at h
     exact fun H' s'=>h H' (s1.trans s')
    ·rw[if_neg hk]
     refine⟨rfl,⟨_,rfl⟩,fun j k' hj ej=>?_⟩
     by_cases hji:j < i
     ·exact no j k' hji ej
     ·have:j=i:=by omega
      subst this
      rw[ek]at ej
      cases ej
      exact hk
   ·rintro σ H2 ⟨rfl,⟨z,rfl⟩,no⟩
    have hb:bad T' ps=false:=zhX h3 fun i k e=>no i k (by rw[hl1];exact(List.getElem?_eq_some_iff.mp e).1) e
    refine⟨_,rfl,_,rfl,q,_,rfl,.inl ⟨hqX,fun l hl'=>⟨lS2,fun a ha=>?_⟩⟩⟩
    have sA:ao H2 (upd H2 l (.tup (ps.map V.int))):=zbb hl' _
    have sB:ao (upd H2 l (.tup (ps.map V.int))) (upd (upd H2 l (.tup (ps.map V.int))) a (.tup [.str n,.ref l])):=zbb ha _
    have sAB:=sA.trans sB
    have hq3:SqT K (upd (upd H2 l (.tup (ps.map V.int))) a (.tup [.str n,.ref l])) l (ps.map V.int):=SqT.of (sB _ _ ag)
    refine⟨_,rfl,p,C,dx,_,_,rfl,sAB _ _ ho,T.cl,T.nT,zdJ _ _ _,last _ a _ (s1.trans sAB) ag hq3 hb⟩
  ·refine⟨_,rfl,q,rfl,.inr ⟨⟨_,hqX⟩,zfR (K:=K) (a:=q) (xs:=ps.map V.int) (fun i σ H2=>H2=H1∧(∃ z,σ=[some (.ref p),some (.str n),some (.ref q),z])∧∀(j:Nat) k,j < i→ps[j]?=some k→¬(k < 0∨(T'.length:Int)≤k))
    ⟨rfl,⟨_,rfl⟩,fun j k hj=>absurd hj (Nat.not_lt_zero j)⟩ (fun i σ H2 _ ⟨e,_⟩=>by rw[e];exact hqX) ?_ ?_⟩⟩
   ·rintro i x σ H2 hx ⟨rfl,⟨z,rfl⟩,no⟩
    obtain⟨k,ek,rfl⟩:=zhi hx
    have sk:=small k (List.mem_of_getElem? ek)
    refine⟨_,rfl,p,dx,_,rfl,ho,zb0 _ _ _ (by decide +kernel) (by decide +kernel) (by decide +kernel),_,rfl,p,tl,al,rl,T',As,Rs,k,rfl,S1,sk.1,sk.2,?_⟩
    by_cases hk:k < 0∨(T'.length:Int)≤k
    ·rw[if_pos hk]
     have e:zcJ T' true (n,ps)=(.term,T'):=by unfold zcJ;rw[if_neg (by decide),if_pos (zjr h3 ek hk)]
     rw[hg,e]at h
     exact fun H' s'=>h H' (s1.trans s')
    ·rw[if_neg hk]
     refine⟨rfl,⟨_,rfl⟩,fun j k' hj ej=>?_⟩
     by_cases hji:j < i
     ·exact no j k' hji ej
     ·have:j=i:=by omega
      subst this
      rw[ek]at ej
      cases ej
      exact hk
   ·rintro σ H2 ⟨rfl,⟨z,rfl⟩,no⟩
    have hb:bad T' ps=false:=zhX h3 fun i k e=>no i k (by rw[hl1];exact(List.getElem?_eq_some_iff.mp e).1) e
    refine⟨_,rfl,_,rfl,q,_,rfl,.inr ⟨hqX,lS2,fun a ha=>?_⟩⟩
    have sAB:ao H2 (upd H2 a (.tup [.str n,.ref q])):=zbb ha _
    have hq3:SqT K (upd H2 a (.tup [.str n,.ref q])) q (ps.map V.int):=(KeepT.of_same sAB).sq hqX
    refine⟨_,rfl,p,C,dx,_,_,rfl,sAB _ _ ho,T.cl,T.nT,zdJ _ _ _,last _ a _ (s1.trans sAB) ag hq3 hb⟩
end
end K06
namespace K06
open PySem L2
theorem zh1 (a b:Int):peq (.int a) (.int b)=true↔a=b:=by
 rw[zkQ]
 exact decide_eq_true_iff
theorem zet {ps:List Int} {i:Nat} {x:V} (h:(ps.map V.int)[i]?=some x):∃ k,ps[i]?=some k∧x=.int k:=by
 rw[List.getElem?_map]at h
 cases e:ps[i]? with
 | none=>rw[e]at h;cases h
 | some k =>
  rw[e]at h
  exact⟨k,rfl,(Option.some.inj h).symm⟩
section
variable {P:Program} {w:World} {K:PySem.W.Frag} {mg:Str→Option Value} {base:Heap} {aK C CN CT CP CM:Addr}
theorem scO:zaa ["parts","kept","part"] ["parts"] (ad zii):=⟨rfl,rfl,rfl,by decide +kernel,rfl,by decide +kernel,by decide +kernel⟩
theorem zkZ {f:Addr} {fd:FuncData} (F:Fun K "once_each" "once_each" zii f fd) (T:Txt K mg aK C CN CT CP CM):FnOk P w K mg base CX0 1 f fd ["parts"] (zgy K):=by
 refine F.ok scO (fun vs H Q E h=>?_) (fun cdv A outer s H vs Q E hr h=>?_)
 ·obtain⟨q,ps,rfl,_⟩:=h
  rfl
 obtain⟨q,ps,rfl,hq,len,k⟩:=h
 have hu:=hu64 hr
 refine⟨_,aj (zar (i:=1) scO.nd rfl (Or.inl rfl) (za8 ac))
  (aj (zdg PassesOwn.never rfl (zgJ (pv 0)) (zbv (i:=2) scO.nd rfl (Or.inl rfl))
   (ae (zaD (zal (zjB hu) (pv 2) (pv 1) rfl) (ae (zba (zbk PySem.F.plainAttrs_list PySem.F.slot_list_append PySem.F.type_list_append zbs (pv 1) (aa (pv 2) ac)))) zag)))
  (ae (zab (zd5 zcs rfl T.tuple PyProof.Rows.Boot.tuple (aa (pv 1) ac))))),?_⟩
 refine⟨lS0,fun l hl=>?_⟩
 have s1:ao H (upd H l (.lst [])):=zbb hl _
 rcases hq with hqX | hqX
 ·refine⟨_,rfl,q,rfl,.inl ⟨⟨_,s1.seq hqX⟩,ze5 (K:=K) (a:=q) (xs:=ps.map V.int) (fun i σ H2=>ao H H2∧(∃ z,σ=[some (.ref q),some (.ref l),z])∧H2 l=some (.lst ((zaG [] (ps.take i)).map V.int)))
   ⟨s1,⟨_,rfl⟩,ag⟩ (fun i σ H2 _ ⟨e,_⟩=>e.seq hqX) ?_ ?_⟩⟩
  ·rintro i x σ H2 hx ⟨s2,⟨z,rfl⟩,hl2⟩
   obtain⟨k',ek,rfl⟩:=zet hx
   have et:=zf8 (acc:=[]) ek
   have lenz:((zaG [] (ps.take i)).map V.int).length < sizeLine:=by
    rw[List.length_map]
    have:=ze0 (ps.take i) []
    rw[List.length_take,List.length_nil]at this
    exact Nat.lt_of_le_of_lt (show _≤1000 by omega) (by decide)
   refine⟨_,rfl,_,rfl,l,_,(zaG [] (ps.take i)).map Dt.int,.int k',rfl,.inl (SqL.of hl2),aq.ints _,by simp only[Has],by rw[zc6];decide,_,rfl,?_⟩
   have ea:=zcT zh1 (zaG [] (ps.take i)) k'
   by_cases hm:k'∈zaG [] (ps.take i)
   ·rw[decide_eq_true hm]at ea
    refine zay (fun c=>absurd (show(!((zaG [] (ps.take i)).map Dt.int).any fun d'=>peq d' (.int k'))=true from c) (by rw[ea];decide)) (fun _=>?_)
    rw[if_pos hm]at et
    exact⟨s2,⟨_,rfl⟩,by rw[et];exact hl2⟩
   ·rw[decide_eq_false hm]at ea
    refine zay (fun _=>?_) (fun c=>absurd (show(!((zaG [] (ps.take i)).map Dt.int).any fun d'=>peq d' (.int k'))=true by rw[ea];rfl) c)
    rw[if_neg hm]at et
    refine⟨_,rfl,.inl ⟨rfl,_,SqL.of hl2⟩,_,rfl,l,_,_,rfl,rfl,hl2,lenz,?_⟩
    refine⟨fun b o e=>by rw[ai (zan e hl)];exact s2 b o e,⟨_,rfl⟩,?_⟩
    rw[et,List.map_append,ag]
    rfl
  ·rintro σ H2 ⟨s2,⟨z,rfl⟩,hl2⟩
   rw[List.length_map,List.take_length]at hl2
   refine⟨_,rfl,l,_,rfl,.inl ⟨SqL.of hl2,fun l2 hl2'=>k _ l2 (s2.trans (zbb hl2' _)) ag⟩⟩
 ·refine⟨_,rfl,q,rfl,.inr ⟨⟨_,(KeepT.of_same s1).sq hqX⟩,zfR (K:=K) (a:=q) (xs:=ps.map V.int) (fun i σ H2=>ao H H2∧(∃ z,σ=[some (.ref q),some (.ref l),z])∧H2 l=some (.lst ((zaG [] (ps.take i)).map V.int)))
   ⟨s1,⟨_,rfl⟩,ag⟩ (fun i σ H2 _ ⟨e,_⟩=>(KeepT.of_same e).sq hqX) ?_ ?_⟩⟩
  ·rintro i x σ H2 hx ⟨s2,⟨z,rfl⟩,hl2⟩
   obtain⟨k',ek,rfl⟩:=zet hx
   have et:=zf8 (acc:=[]) ek
   have lenz:((zaG [] (ps.take i)).map V.int).length < sizeLine:=by
    rw[List.length_map]
    have:=ze0 (ps.take i) []
    rw[List.length_take,List.length_nil]at this
    exact Nat.lt_of_le_of_lt (show _≤1000 by omega) (by decide)
   refine⟨_,rfl,_,rfl,l,_,(zaG [] (ps.take i)).map Dt.int,.int k',rfl,.inl (SqL.of hl2),aq.ints _,by simp only[Has],by rw[zc6];decide,_,rfl,?_⟩
   have ea:=zcT zh1 (zaG [] (ps.take i)) k'
   by_cases hm:k'∈zaG [] (ps.take i)
   ·rw[decide_eq_true hm]at ea
    refine zay (fun c=>absurd (show(!((zaG [] (ps.take i)).map Dt.int).any fun d'=>peq d' (.int k'))=true from c) (by rw[ea];decide)) (fun _=>?_)
    rw[if_pos hm]at et
    exact⟨s2,⟨_,rfl⟩,by rw[et];exact hl2⟩
   ·rw[decide_eq_false hm]at ea
    refine zay (fun _=>?_) (fun c=>absurd (show(!((zaG [] (ps.take i)).map Dt.int).any fun d'=>peq d' (.int k'))=true by rw[ea];rfl) c)
    rw[if_neg hm]at et
    refine⟨_,rfl,.inl ⟨rfl,_,SqL.of hl2⟩,_,rfl,l,_,_,rfl,rfl,hl2,lenz,?_⟩
    refine⟨fun b o e=>by rw[ai (zan e hl)];exact s2 b o e,⟨_,rfl⟩,?_⟩
    rw[et,List.map_append,ag]
    rfl
  ·rintro σ H2 ⟨s2,⟨z,rfl⟩,hl2⟩
   rw[List.length_map,List.take_length]at hl2
   refine⟨_,rfl,l,_,rfl,.inl ⟨SqL.of hl2,fun l2 hl2'=>k _ l2 (s2.trans (zbb hl2' _)) ag⟩⟩
theorem scRw:zaa ["self","parts","part"] ["self","parts"] (ad sRow):=⟨rfl,rfl,rfl,by decide +kernel,rfl,by decide +kernel,by decide +kernel⟩
theorem ok_row {f fP fO:Addr} {fd dP dO:FuncData} (F:Fun K "add_row" "Problem.add_row" sRow f fd) (T:Txt K mg aK C CN CT CP CM)
  (GP:FnOk P w K mg base (CX1 P w) 1 fP dP ["self","part"] (zd2 K C CP)) (bP:au K dP ["self","part"] []) (mP:zbp K C "ask_part" fP)
  (GO:FnOk P w K mg base CX0 1 fO dO ["parts"] (zgy K)) (bO:au K dO ["parts"] []) (kO:PySem.W.keepIn K (.ref fO)=true) (mO:mg "once_each"=some (.ref fO)) :
  FnOk P w K mg base (CX1 P w) 2 f fd ["self","parts"] (zie K C CN CT CP CM):=by
 obtain⟨t20,e20⟩:=T.rparts
 obtain⟨t200,e200⟩:=T.rows
 refine Fun.okX F scRw (fun vs H Q E h=>?_) (fun cdv A outer s H vs Q E hr h=>?_)
 ·obtain⟨p,tl,al,rl,q,T,As,Rs,ps,rfl,_⟩:=h
  rfl
 obtain⟨p,tl,al,rl,q,T',As,Rs,ps,rfl,S,hq,len,small,rlen,h⟩:=h
 obtain⟨t2,h2,q2⟩:∃ t,PSs (zak (CX1 P w) P w K mg base ["self","parts","part"] "Problem.add_row" (ad sRow) f cdv A outer s H E) ((zam sRow).drop 1) t ∧
   ∀ z,ps.any (zbm As.length)=false→t { nx:=fun _ H'=>Q .non H',rt:=Q } [some (.ref p),some (.ref q),z] H:=by
  refine⟨_,aj (zaD (zal zfb (zaw zaB rfl T.len PySem.boot_len (aa (pv 1) ac)) (za0 (v:=.int 20) rfl e20 ⟨_,rfl⟩) (zas _))
    (ae (za1 (C:=CM) xe1 rfl rfl T.bmany PySem.F.excBase_ValueError T.xmany (aa (za9 (zaq ak (zaq (zct (za0 (v:=.int 20) rfl e20 ⟨_,rfl⟩)) (zaq ak zbz)))) ac))) zag)
   (aj (zaD (zal zin (zaw zaB rfl T.len PySem.boot_len (aa (zaS (pv 0) rfl) ac)) (za0 (v:=.int 200) rfl e200 ⟨_,rfl⟩) (zas _))
    (ae (za1 (C:=CM) xe1 rfl rfl T.bmany PySem.F.excBase_ValueError T.xmany (aa (za9 (zaq ak (zaq (zct (za0 (v:=.int 200) rfl e200 ⟨_,rfl⟩)) (zaq ak zbz)))) ac))) zag)
   (aj (zba (zbk PySem.F.plainAttrs_list PySem.F.slot_list_append PySem.F.type_list_append zbs (zaS (pv 0) rfl) (aa (zad GO hr rfl mO kO bO .nil zaz (aa (pv 1) ac)) ac)))
   (ae (zab (ar zgO (zaw zaB rfl T.len PySem.boot_len (aa (zaS (pv 0) rfl) ac)) ah))))),?_⟩
  intro z no
  obtain⟨⟨dx,ho⟩,_,_,⟨xs,hl,hs⟩,_⟩:=id S
  have hlen:xs.length=Rs.length:=by rw[←hs.length,List.length_map]
  have hpl:(ps.map V.int).length=ps.length:=List.length_map _
  refine⟨_,rfl,q,_,rfl,hq,_,_,rfl,rfl,_,rfl,zay (fun c=>?_) (fun c=>?_)⟩
  ·have c':(20:Int) < (((ps.map V.int).length:Nat):Int):=of_decide_eq_true c
   rw[hpl]at c'
   have e:zcK As.length Rs ps=(.many,Rs):=by unfold zcK;rw[if_neg (by rw[no];decide),if_pos (by omega)]
   rw[e]at h
   exact⟨_,rfl,by decide +kernel,.inr ⟨20,rfl,by decide +kernel,_,rfl,by decide +kernel,_,rfl,by decide +kernel,by decide +kernel,(by show 1≤sizeLine;decide),h H (ao.refl H)⟩⟩
  have c':¬(20:Int) < (((ps.map V.int).length:Nat):Int):=fun z=>c (decide_eq_true z)
  rw[hpl]at c'
  refine⟨_,rfl,p,C,dx,_,_,rfl,ho,T.cl,T.nR,zd9 _ _ _,rl,xs,rfl,.inl (SqL.of hl),_,_,rfl,rfl,_,rfl,zay (fun c2=>?_) (fun c2=>?_)⟩
  ·have c3:(200:Int)≤((xs.length:Nat):Int):=of_decide_eq_true c2
   rw[hlen]at c3
   have e:zcK As.length Rs ps=(.many,Rs):=by unfold zcK;rw[if_neg (by rw[no];decide),if_neg (by omega),if_pos (by omega)]
   rw[e]at h
   exact⟨_,rfl,by decide +kernel,.inr ⟨200,rfl,by decide +kernel,_,rfl,by decide +kernel,_,rfl,by decide +kernel,by decide +kernel,(by show 1≤sizeLine;decide),h H (ao.refl H)⟩⟩
  have c3:¬(200:Int)≤((xs.length:Nat):Int):=fun z=>c2 (decide_eq_true z)
  rw[hlen]at c3
  have e:zcK As.length Rs ps=(.num Rs.length,Rs++[zaG [] ps]):=by unfold zcK;rw[if_neg (by rw[no];decide),if_neg (by omega),if_neg (by omega)]
  rw[e]at h
  refine⟨_,rfl,p,C,dx,_,_,rfl,ho,T.cl,T.nR,zd9 _ _ _,.inl ⟨rfl,_,SqL.of hl⟩,_,rfl,q,ps,rfl,hq,len,fun H2 l s2 hl2=>?_⟩
  have S2:=S.same s2
  have hlr:=s2 _ _ hl
  have hd:Has K H2 (dR (zaG [] ps)) (.ref l):=by
   simp only[dR,Has]
   exact⟨l,_,rfl,SqT.of hl2,aq.ints _⟩
  have kt:KeepT H2 (upd H2 rl (.lst (xs++[.ref l]))):=KeepT.lst hlr
  have S3:zaC K C (upd H2 rl (.lst (xs++[.ref l]))) p tl al rl T' As (Rs++[zaG [] ps]):=S2.setR (by
   rw[List.map_append]
   exact((hs.keep (.of_same s2) (zaU zcM Rs)).keep kt (zaU zcM Rs)).append (aq.one (hd.keep kt (zcM _))))
  obtain⟨⟨dx3,ho3⟩,_⟩:=id S3
  refine⟨rl,xs,_,rfl,rfl,hlr,Nat.lt_of_le_of_lt (by rw[hlen];exact rlen) (by decide),?_⟩
  refine⟨_,rfl,p,C,dx3,_,_,rfl,ho3,T.cl,T.nR,zd9 _ _ _,rl,_,rfl,.inl (SqL.of ag),_,_,rfl,rfl,?_⟩
  have en:(((xs++[V.ref l]).length:Nat):Int) - 1=(Rs.length:Nat):=by rw[List.length_append,hlen];simp
  have fin:=h _ S3 (fun b o e _ n2=>by rw[ai n2];exact s2 b o e)
  show Q (.int ((((xs++[V.ref l]).length:Nat):Int) - 1)) _
  rw[en]
  exact fin
 refine⟨_,aj (zdg PassesOwn.leaving rfl (zgJ (pv 1)) (zbv (i:=2) scRw.nd rfl (Or.inl rfl)) (ae (zba (zaZ (pv 0) T.cl mP GP hr bP .nil (zau xe1) (aa (pv 2) ac))))) h2,?_⟩
 obtain⟨⟨dx,ho⟩,_⟩:=id S
 have noA:=zb0 tl al rl (m:="ask_part") (by decide +kernel) (by decide +kernel) (by decide +kernel)
 have fin:∀ z,ps.any (zbm As.length)=false→SqI K H q ps→t2 { nx:=fun _ H'=>Q .non H',rt:=Q } [some (.ref p),some (.ref q),z] H:=fun z no _=>q2 z no
 rcases hq with hqX | hqX
 ·refine⟨_,rfl,q,rfl,.inl ⟨⟨_,hqX⟩,ze5 (K:=K) (a:=q) (xs:=ps.map V.int) (fun i σ H2=>H2=H∧(∃ z,σ=[some (.ref p),some (.ref q),z])∧(ps.take i).any (zbm As.length)=false)
   ⟨rfl,⟨_,rfl⟩,by simp⟩ (fun i σ H2 _ ⟨e,_⟩=>by rw[e];exact hqX) ?_ ?_⟩⟩
  ·rintro i x σ H2 hx ⟨rfl,⟨z,rfl⟩,no⟩
   obtain⟨k',ek,rfl⟩:=zet hx
   have sk:=small k' (List.mem_of_getElem? ek)
   refine⟨_,rfl,p,dx,_,rfl,ho,noA,_,rfl,p,tl,al,rl,T',As,Rs,k',rfl,S,sk.1,sk.2,?_⟩
   by_cases hk:zbm As.length k'=true
   ·rw[if_pos hk]
    have e:zcK As.length Rs ps=(.part,Rs):=if_pos (List.any_eq_true.mpr ⟨k',List.mem_of_getElem? ek,hk⟩)
    rw[e]at h
    exact h
   ·rw[if_neg hk]
    refine⟨rfl,⟨_,rfl⟩,?_⟩
    rw[List.take_add_one,ek,List.any_append,no]
    simpa using hk
  ·rintro σ H2 ⟨rfl,⟨z,rfl⟩,no⟩
   rw[List.length_map,List.take_length]at no
   exact fin z no (.inl hqX)
 ·refine⟨_,rfl,q,rfl,.inr ⟨⟨_,hqX⟩,zfR (K:=K) (a:=q) (xs:=ps.map V.int) (fun i σ H2=>H2=H∧(∃ z,σ=[some (.ref p),some (.ref q),z])∧(ps.take i).any (zbm As.length)=false)
   ⟨rfl,⟨_,rfl⟩,by simp⟩ (fun i σ H2 _ ⟨e,_⟩=>by rw[e];exact hqX) ?_ ?_⟩⟩
  ·rintro i x σ H2 hx ⟨rfl,⟨z,rfl⟩,no⟩
   obtain⟨k',ek,rfl⟩:=zet hx
   have sk:=small k' (List.mem_of_getElem? ek)
   refine⟨_,rfl,p,dx,_,rfl,ho,noA,_,rfl,p,tl,al,rl,T',As,Rs,k',rfl,S,sk.1,sk.2,?_⟩
   by_cases hk:zbm As.length k'=true
   ·rw[if_pos hk]
    have e:zcK As.length Rs ps=(.part,Rs):=if_pos (List.any_eq_true.mpr ⟨k',List.mem_of_getElem? ek,hk⟩)
    rw[e]at h
    exact h
   ·rw[if_neg hk]
    refine⟨rfl,⟨_,rfl⟩,?_⟩
    rw[List.take_add_one,ek,List.any_append,no]
    simpa using hk
  ·rintro σ H2 ⟨rfl,⟨z,rfl⟩,no⟩
   rw[List.length_map,List.take_length]at no
   exact fin z no (.inr hqX)
end
end K06
namespace C06
open PySem L2
open F06 (Tr dTr zaK)
def top (i:Nat):Stmt:=PySem.Challenge.pw_yesorno_k06_read_refused.main.body.getD i (.Pass ⟨0,0,0,0⟩)
abbrev s_Cursor___init__:Stmt:=zaL (top 24) 0
abbrev s_Cursor_is_over:Stmt:=zaL (top 24) 1
abbrev s_Cursor_takes:Stmt:=zaL (top 24) 2
abbrev s_Cursor_take_word:Stmt:=zaL (top 24) 3
abbrev s_Cursor_take_tree:Stmt:=zaL (top 24) 4
abbrev s_Cursor_take_trees:Stmt:=zaL (top 24) 5
abbrev s_formed_tree:Stmt:=top 25
abbrev s_formed_atom:Stmt:=top 26
abbrev s_formed_part:Stmt:=top 27
abbrev s_formed_row:Stmt:=top 28
abbrev s_text_rows:Stmt:=top 29
abbrev abc:Str:="abcdefghijklmnopqrstuvwxyz"
def isL (c:Str):Bool:=!(Builtin.Str.occurrences abc c 0 abc.length 1).isEmpty
theorem zlp:∀ c∈abc.cps.toList,isL ⟨#[c]⟩=true:=by decide +kernel
def cp (s:Str):List Nat:=s.cps.toList
theorem av (s:Str):(cp s).length=s.length:=by simp [cp,Str.length]
theorem zap (a b:Str):cp (a++b)=cp a++cp b:=by
 show(a.cps++b.cps).toList=_
 exact Array.toList_append
theorem zaO {a b:Str} (h:cp a=cp b):a=b:=by
 cases a;cases b
 unfold cp at h
 congr
 exact Array.ext' h
def cfl (s:Str) (i:Nat):List (Str × V):=zaF "place" (.int i) (zaF "text" (.str s) [])
theorem zfx (f:Str) (u v:V):∀ fs:List (Str × V),zaF f v (zaF f u fs)=zaF f v fs
 | []=>by simp only[zaF,if_pos]
 | (g,x) :: r=>by
  by_cases c:g=f
  ·simp only[zaF,if_pos c]
  ·simp only[zaF,if_neg c,zfx f u v r]
theorem zdB (f:Str) (v:V):∀ fs:List (Str × V),(zaF f v fs).length≤fs.length+1
 | []=>Nat.le_refl _
 | (g,x) :: r=>by
  by_cases c:g=f
  ·simp only[zaF,if_pos c,List.length_cons];omega
  ·have:=zdB f v r
   simp only[zaF,if_neg c,List.length_cons];omega
theorem zbn (s:Str) (i:Nat):(cfl s i).lookup ("place":Str)=some (.int i):=by
 unfold cfl
 rw[zav,if_pos rfl]
theorem zcR (s:Str) (i:Nat):(cfl s i).lookup ("text":Str)=some (.str s):=by
 unfold cfl
 rw[zav,if_neg (by decide +kernel),zav,if_pos rfl]
theorem zdY (s:Str) (i:Nat) {m:Str} (h1:¬m="place") (h2:¬m="text"):(cfl s i).lookup m=none:=by
 unfold cfl
 rw[zav,if_neg h1,zav,if_neg h2]
 rfl
theorem zh9 (s:Str) (i j:Nat):zaF "place" (.int j) (cfl s i)=cfl s j:=zfx _ _ _ _
theorem zia (s:Str) (i:Nat):(cfl s i).length < 1000:=by
 have h1:=zdB "place" (.int i) (zaF "text" (.str s) [])
 have h2:=zdB "text" (.str s) []
 show(zaF _ _ _).length < 1000
 have h4:([]:List (Str × V)).length=0:=rfl
 omega
theorem zfz (s:Str) (i:Nat):(cfl s i).lookup ("is_over":Str)=none:=zdY _ _ (by decide +kernel) (by decide +kernel)
theorem ze2 (s:Str) (i:Nat):(cfl s i).lookup ("takes":Str)=none:=zdY _ _ (by decide +kernel) (by decide +kernel)
theorem zhw (s:Str) (i:Nat):(cfl s i).lookup ("take_word":Str)=none:=zdY _ _ (by decide +kernel) (by decide +kernel)
theorem zcU (s:Str) (i:Nat):(cfl s i).lookup ("take_tree":Str)=none:=zdY _ _ (by decide +kernel) (by decide +kernel)
theorem zgo (s:Str) (i:Nat):(cfl s i).lookup ("take_trees":Str)=none:=zdY _ _ (by decide +kernel) (by decide +kernel)
def zbd (CU:Addr) (H:Hp) (c:Addr) (s:Str) (i:Nat):Prop:=(∃ dx,H c=some (.ins CU dx (cfl s i)))∧i≤s.length∧s.length≤1000000
def FrC (H H':Hp) (c:Addr):Prop:=∀ b o,H b=some o→b≠c→H' b=some o
theorem FrC.of_same {H H':Hp} {c:Addr} (s:ao H H'):FrC H H' c:=fun b o e _=>s b o e
theorem FrC.trans {H H1 H2:Hp} {c:Addr} (a:FrC H H1 c) (b:FrC H1 H2 c):FrC H H2 c:=fun x o e n=>b x o (a x o e n) n
theorem KeepT.but {H:Hp} {d:Addr} {u o:HO} (h:H d=some u) (n:∀ xs,u≠.tup xs) (n2:∀ q xs,u≠.frz q (.tup xs)):KeepT H (upd H d o):=fun b zs q=>by
 rcases q with q | ⟨o,q⟩
 ·exact .inl (by rw[ai (fun e=>by rw[e,h]at q;exact n _ (Option.some.inj q))];exact q)
 ·exact .inr ⟨o,by rw[ai (fun e=>by rw[e,h]at q;exact n2 _ _ (Option.some.inj q))];exact q⟩
theorem zbd.kt {CU:Addr} {H H':Hp} {c:Addr} {s:Str} {i:Nat} (h:zbd CU H c s i) (f:FrC H H' c):KeepT H H':=fun b ys q=>by
 obtain⟨⟨dx,hc⟩,_⟩:=h
 rcases q with q | ⟨o,q⟩
 ·exact .inl (f _ _ q (fun z=>by rw[z,hc]at q;cases q))
 ·exact .inr ⟨o,f _ _ q (fun z=>by rw[z,hc]at q;cases q)⟩
theorem zbd.same {CU:Addr} {H H':Hp} {c:Addr} {s:Str} {i:Nat} (h:zbd CU H c s i) (m:ao H H'):zbd CU H' c s i:=by
 obtain⟨⟨dx,hc⟩,r⟩:=h
 exact⟨⟨dx,m _ _ hc⟩,r⟩
theorem zbd.ne {CU:Addr} {H:Hp} {c b:Addr} {s:Str} {i:Nat} (h:zbd CU H c s i) (e:H b=none):b≠c:=fun z=>by
 obtain⟨⟨dx,hc⟩,_⟩:=h
 rw[z,hc]at e
 cases e
theorem zbd.putL {CU:Addr} {H:Hp} {c z:Addr} {s:Str} {i:Nat} {zs us:List V} (h:zbd CU H c s i) (hz:H z=some (.lst zs)):zbd CU (upd H z (.lst us)) c s i:=by
 obtain⟨⟨dx,hc⟩,r⟩:=h
 refine⟨⟨dx,?_⟩,r⟩
 rw[ai (fun e=>by rw[e,hz]at hc;cases hc)]
 exact hc
structure TxC (K:PySem.W.Frag) (mg:Str→Option Value) (CU:Addr):Prop where
 cl:Cls K CU
 nP:zbu K CU "place"
 nT:zbu K CU "text"
 small:∃ t,mg "SMALL_LETTERS"=some (.str abc t)
 len:mg "len"=none
 tuple:mg "tuple"=none
section
variable {P:Program} {w:World} {K:PySem.W.Frag} {mg:Str→Option Value} {base:Heap} {CU:Addr} {f fO fK fW fT fS:Addr} {fd dO dK' dW dT' dS:FuncData}
inductive zeN (CU:Addr):Sp | mk {vs H Q E9} (c dx:Addr) (s:Str):vs=[.ref c,.str s]→H c=some (.ins CU dx [])→s.length≤1000000→(∀ H',zbd CU H' c s 0→FrC H H' c→Q .non H')→zeN CU vs H Q E9
theorem zjW:zaa ["self","text"] ["self","text"] (ad s_Cursor___init__):=⟨rfl,rfl,rfl,by decide +kernel,rfl,by decide +kernel,by decide +kernel⟩
theorem ok_cinit (F:Fun K "__init__" "Cursor.__init__" s_Cursor___init__ f fd) (Z:TxC K mg CU):FnOk P w K mg base CX0 1 f fd ["self","text"] (zeN CU):=by
 refine F.ok zjW (fun vs H Q E h=>?_) (fun cdv A outer s H vs Q E hr h=>?_)
 ·obtain⟨c,dx,s,rfl,_⟩:=h
  rfl
 obtain⟨c,dx,s,rfl,hc,hl,q⟩:=h
 refine⟨_,(aj (zdQ (pv 0) (pv 1) rfl) (ae (zdQ (pv 0) ah rfl))),?_⟩
 refine⟨_,rfl,_,rfl,c,CU,dx,[],rfl,hc,Z.cl,Z.nT,(by show 0 < 1000;decide),?_⟩
 refine⟨_,rfl,c,CU,dx,_,rfl,ag,Z.cl,Z.nP,(by have:=zdB "text" (.str s) [];have h0:([]:List (Str × V)).length=0:=rfl;omega),?_⟩
 exact q _ ⟨⟨dx,ag⟩,Nat.zero_le _,hl⟩ fun b o e n=>by rw[ai n,ai n];exact e
inductive zeh (CU:Addr):Sp | mk {vs H Q E9} (c:Addr) (s:Str) (i:Nat):vs=[.ref c]→zbd CU H c s i→Q (.bl (decide (i=s.length))) H→zeh CU vs H Q E9
theorem zkI:zaa ["self"] ["self"] (ad s_Cursor_is_over):=⟨rfl,rfl,rfl,by decide +kernel,rfl,by decide +kernel,by decide +kernel⟩
theorem ok_over (F:Fun K "is_over" "Cursor.is_over" s_Cursor_is_over f fd) (Z:TxC K mg CU):FnOk P w K mg base CX0 1 f fd ["self"] (zeh CU):=by
 refine F.ok zkI (fun vs H Q E h=>?_) (fun cdv A outer s H vs Q E hr h=>?_)
 ·obtain⟨c,s,i,rfl,_⟩:=h
  rfl
 obtain⟨c,s,i,rfl,C,q⟩:=h
 refine⟨_,(ae (zab (zca zbc (zaS (pv 0) rfl) (zaw zbD rfl Z.len PySem.boot_len (aa (zaS (pv 0) rfl) ac)) (zas _)))),?_⟩
 obtain⟨⟨dx,hc⟩,hi,hl⟩:=id C
 refine⟨_,rfl,c,CU,dx,_,_,rfl,hc,Z.cl,Z.nP,zbn _ _,_,rfl,c,CU,dx,_,_,rfl,hc,Z.cl,Z.nT,zcR _ _,s,rfl,F06.szM (by omega),rfl,?_⟩
 have e:decide (V.int (i:Int)=V.int ((s.length:Nat):Int))=decide (i=s.length):=by
  rw[Bool.eq_iff_iff,decide_eq_true_iff,decide_eq_true_iff]
  exact⟨fun h=>by injection h with h;omega,fun h=>by rw[h]⟩
 show Q (.bl (decide (V.int (i:Int)=V.int ((s.length:Nat):Int)))) H
 rw[e]
 exact q
inductive zeJ (CU:Addr):Sp | mk {vs H Q E9} (c:Addr) (s y:Str) (i:Nat):vs=[.ref c,.str y]→zbd CU H c s i→y.length≤1000→(zb5 s y i=true→∀ H',zbd CU H' c s (i+y.length)→FrC H H' c→Q (.bl true) H')→(zb5 s y i=false→Q (.bl false) H)→zeJ CU vs H Q E9
theorem zjU:zaa ["self","signs"] ["self","signs"] (ad s_Cursor_takes):=⟨rfl,rfl,rfl,by decide +kernel,rfl,by decide +kernel,by decide +kernel⟩
theorem zkC {s y:Str} {i:Nat} (h:zb5 s y i=true) (hi:i≤s.length):i+y.length≤s.length:=by
 have e:=congrArg List.length (eq_of_beq h)
 rw[List.length_take,List.length_drop]at e
 have e1:=av s
 have e2:=av y
 unfold cp at e1 e2
 rw[e1,e2]at e
 omega
theorem ok_takes (F:Fun K "takes" "Cursor.takes" s_Cursor_takes f fd) (Z:TxC K mg CU):FnOk P w K mg base CX0 1 f fd ["self","signs"] (zeJ CU):=by
 refine F.ok zjU (fun vs H Q E h=>?_) (fun cdv A outer s H vs Q E hr h=>?_)
 ·obtain⟨c,s,y,i,rfl,_⟩:=h
  rfl
 obtain⟨c,s,y,i,rfl,C,y1,q1,q2⟩:=h
 refine⟨_,(aj (zaD (zb3 (zbr (zbk PySem.F.plainAttrs_str PySem.F.slot_str_startswith PySem.F.type_str_startswith ziG (zaS (pv 0) rfl) (aa (pv 1) (aa (zaS (pv 0) rfl) ac)))))
   (ae (zab zdx))
   zag)
  (aj (zf5 (pv 0) (zaw zbD rfl Z.len PySem.boot_len (aa (pv 1) ac)) zjg)
  (ae (zab zdx)))),?_⟩
 obtain⟨⟨dx,hc⟩,hi,hl⟩:=id C
 refine⟨_,rfl,c,CU,dx,_,_,rfl,hc,Z.cl,Z.nT,zcR _ _,rfl,_,rfl,_,rfl,c,CU,dx,_,_,rfl,hc,Z.cl,Z.nP,zbn _ _,s,y,i,rfl,rfl,hi,_,rfl,?_⟩
 cases e:zb5 s y i with
 | false=>exact za7 (q2 e)
 | true =>
  have le:=zkC e hi
  refine zaX ⟨_,rfl,c,CU,dx,_,_,rfl,hc,Z.cl,Z.nP,zbn _ _,_,rfl,y,rfl,F06.szM (by omega),_,_,rfl,rfl,dx,_,hc,zia _ _,?_⟩
  have ep:zaF "place" (.int ((i:Int)+(y.length:Nat))) (cfl s i)=cfl s (i+y.length):=zh9 s i (i+y.length)
  rw[ep]
  exact q1 e _ ⟨⟨dx,ag⟩,le,hl⟩ fun b o e n=>by rw[ai n];exact e
end
end C06
namespace C06
open PySem L2
open F06 (Tr dTr zaK dp dps)
def sub (W:List Nat):List Nat→List Nat
 | []=>[]
 | c :: l=>if c=64 then W++sub W l else c :: sub W l
structure GW (W:List Nat):Prop where
 hd:∃ t,W=98 :: t
 ab:∀ c∈W,c∈cp abc
 ln:W.length≤7
theorem zaH (W:List Nat):∀ a b:List Nat,sub W (a++b)=sub W a++sub W b
 | [],b=>rfl
 | c :: a,b=>by
  simp only[List.cons_append,sub,zaH W a b]
  split <;> simp
theorem zaA (W:List Nat):∀ {a:List Nat},64∉a→sub W a=a
 | [],_=>rfl
 | c :: a,h=>by
  have h1:c≠64:=fun e=>h (by rw[e];simp)
  simp only[sub,if_neg h1,zaA W (fun z=>h (List.mem_cons_of_mem _ z))]
theorem zbi {W:List Nat} (g:GW W):∀ a:List Nat,(sub W a).length≤7 * a.length
 | []=>by simp [sub]
 | c :: a=>by
  have:=zbi g a
  have:=g.ln
  simp only[sub]
  split
  ·simp only[List.length_append,List.length_cons];omega
  ·simp only[List.length_cons];omega
theorem zdl {W:List Nat} (g:GW W) {a:List Nat}:sub W a=[]↔a=[]:=by
 cases a with
 | nil=>simp [sub]
 | cons c a =>
  obtain⟨t,ht⟩:=g.hd
  simp only[sub]
  split <;> simp [ht]
theorem zjo:cp abc=[97,98,99,100,101,102,103,104,105,106,107,108,109,110,111,112,113,114,115,116,117,118,119,120,121,122]:=by decide +kernel
theorem zbY {c:Nat}:c∈cp abc↔97≤c∧c≤122:=by
 rw[zjo]
 simp only[List.mem_cons,List.not_mem_nil,or_false]
 omega
theorem zes (c:Nat):isL ⟨#[c]⟩=decide (97≤c∧c≤122):=by
 unfold isL
 rw[StrLaws.found_one]
 exact decide_eq_decide.mpr zbY
def isW (c:Nat):Bool:=c == 64||(decide (97≤c)&&decide (c≤122))
theorem zcG {c:Nat}:isW c=true↔c=64∨(97≤c∧c≤122):=by
 simp [isW]
def pre (y l:List Nat):Bool:=y.isPrefixOf l
theorem zdo {W:List Nat} (g:GW W):∀ {y l:List Nat},98∉y→64∉y→pre y (sub W l)=pre y l∧(pre y l=true→(sub W l).drop y.length=sub W (l.drop y.length))
 | [],l,_,_=>⟨by simp [pre],fun _=>rfl⟩
 | a :: y,[],_,_=>⟨rfl,fun h=>by cases h⟩
 | a :: y,c :: l,h1,h2=>by
  have h1':98∉y:=fun z=>h1 (List.mem_cons_of_mem _ z)
  have h2':64∉y:=fun z=>h2 (List.mem_cons_of_mem _ z)
  have na:a≠98:=fun e=>h1 (by rw[e];simp)
  have na':a≠64:=fun e=>h2 (by rw[e];simp)
  obtain⟨t,ht⟩:=g.hd
  obtain⟨i1,i2⟩:=zdo g (l:=l) h1' h2'
  by_cases hc:c=64
  ·subst hc
   have e1:pre (a :: y) (64 :: l)=false:=by
    simp [pre,List.isPrefixOf,na']
   refine⟨?_,fun z=>by rw[e1]at z;cases z⟩
   rw[e1]
   simp [pre,sub,ht,List.isPrefixOf,na]
  ·simp only[sub,if_neg hc]
   refine⟨?_,fun z=>?_⟩
   ·show((a == c)&&pre y (sub W l))=((a == c)&&pre y l)
    rw[i1]
   ·have z':((a == c)&&pre y l)=true:=z
    rw[Bool.and_eq_true]at z'
    simp only[List.length_cons,List.drop_succ_cons]
    exact i2 z'.2
def nmS (w:List Nat):Str:=⟨w.toArray⟩
theorem zaN (w:List Nat):cp (nmS w)=w:=by simp [cp,nmS]
theorem zdi (s:Str):nmS (cp s)=s:=zaO (zaN _)
abbrev PT':=List Nat→Option (Tr × List Nat)
def za2 (f:PT'):Nat→List Nat→Option (List Tr × List Nat)
 | 0,_=>none
 | n+1,r=>if pre [44,32] r=true then(match f (r.drop 2) with
   | none=>none
   | some (t,r')=>match za2 f n r' with
    | none=>none
    | some (ts,r2)=>some (t :: ts,r2)) else if pre [41] r=true then some ([],r.drop 1) else none
def zbL (f:PT') (l:List Nat):Option (List Tr × List Nat):=match f l with
 | none=>none
 | some (t,r)=>match za2 f (l.length+1) r with
  | none=>none
  | some (ts,r2)=>some (t :: ts,r2)
def zaW:Nat→PT'
 | 0,l=>if l.takeWhile isW=[] then none else if pre [40] (l.dropWhile isW)=true then none else some (.node (nmS (l.takeWhile isW)) [],l.dropWhile isW)
 | b+1,l=>if l.takeWhile isW=[] then none else if pre [40] (l.dropWhile isW)=true then(match zbL (zaW b) ((l.dropWhile isW).drop 1) with
   | none=>none
   | some (ts,r)=>some (.node (nmS (l.takeWhile isW)) ts,r)) else some (.node (nmS (l.takeWhile isW)) [],l.dropWhile isW)
def sN (W:List Nat) (n:Str):Str:=nmS (sub W (cp n))
mutual
def sT (W:List Nat):Tr→Tr
 | .node n ts=>.node (sN W n) (sTs W ts)
def sTs (W:List Nat):List Tr→List Tr
 | []=>[]
 | t :: ts=>sT W t :: sTs W ts
end
theorem zbG (W:List Nat):∀ ts,sTs W ts=ts.map (sT W)
 | []=>rfl
 | t :: ts=>by simp only[sTs,List.map_cons,zbG W ts]
theorem zfa (W w:List Nat):sN W (nmS w)=nmS (sub W w):=by
 unfold sN
 rw[zaN]
mutual
theorem zff (W:List Nat):∀ t:Tr,dp (sT W t)=dp t
 | .node n ts=>by simp only[sT,dp,zdW W ts]
theorem zdW (W:List Nat):∀ ts:List Tr,dps (sTs W ts)=dps ts
 | []=>rfl
 | t :: ts=>by simp only[sTs,dps,zff W t,zdW W ts]
end
theorem ziQ:∀ l:List Nat,(l.takeWhile isW).length+(l.dropWhile isW).length=l.length:=fun l=>by
 have:=congrArg List.length (List.takeWhile_append_dropWhile (p:=isW) (l:=l))
 rw[List.length_append]at this
 exact this
def Shr (f:PT'):Prop:=∀ l t r,f l=some (t,r)→r.length < l.length
theorem zf6 {f:PT'} (hf:Shr f):∀(n:Nat) {r:List Nat} {ts:List Tr} {r2:List Nat},za2 f n r=some (ts,r2)→r2.length < r.length
 | 0,r,ts,r2,h=>by cases h
 | n+1,r,ts,r2,h=>by
  simp only[za2]at h
  by_cases h1:pre [44,32] r=true
  ·rw[if_pos h1]at h
   cases e:f (r.drop 2) with
   | none=>rw[e]at h;cases h
   | some x =>
    obtain⟨t,r'⟩:=x
    rw[e]at h
    dsimp only at h
    cases e2:za2 f n r' with
    | none=>rw[e2]at h;cases h
    | some y =>
     obtain⟨us,r3⟩:=y
     rw[e2]at h
     dsimp only at h
     cases h
     have:=hf _ _ _ e
     have:=zf6 hf n e2
     rw[List.length_drop]at *
     omega
  ·rw[if_neg h1]at h
   by_cases h2:pre [41] r=true
   ·rw[if_pos h2]at h
    cases h
    cases r with
    | nil=>cases h2
    | cons a r=>simp
   ·rw[if_neg h2]at h;cases h
theorem ziB {f:PT'} (hf:Shr f) {l:List Nat} {ts:List Tr} {r2:List Nat} (h:zbL f l=some (ts,r2)):r2.length < l.length:=by
 unfold zbL at h
 cases e:f l with
 | none=>rw[e]at h;cases h
 | some x =>
  obtain⟨t,r⟩:=x
  rw[e]at h
  dsimp only at h
  cases e2:za2 f (l.length+1) r with
  | none=>rw[e2]at h;cases h
  | some y =>
   obtain⟨us,r3⟩:=y
   rw[e2]at h
   dsimp only at h
   cases h
   have:=hf _ _ _ e
   have:=zf6 hf _ e2
   omega
theorem zeS:∀ b,Shr (zaW b)
 | 0=>fun l t r h=>by
  simp only[zaW]at h
  have tl:=ziQ l
  by_cases h1:l.takeWhile isW=[]
  ·rw[if_pos h1]at h;cases h
  rw[if_neg h1]at h
  have:0 < (l.takeWhile isW).length:=List.length_pos_iff.mpr h1
  by_cases h2:pre [40] (l.dropWhile isW)=true
  ·rw[if_pos h2]at h;cases h
  rw[if_neg h2]at h
  cases h
  omega
 | b+1=>fun l t r h=>by
  simp only[zaW]at h
  have tl:=ziQ l
  by_cases h1:l.takeWhile isW=[]
  ·rw[if_pos h1]at h;cases h
  rw[if_neg h1]at h
  have:0 < (l.takeWhile isW).length:=List.length_pos_iff.mpr h1
  by_cases h2:pre [40] (l.dropWhile isW)=true
  ·rw[if_pos h2]at h
   cases e:zbL (zaW b) ((l.dropWhile isW).drop 1) with
   | none=>rw[e]at h;cases h
   | some x =>
    obtain⟨ts,r2⟩:=x
    rw[e]at h
    dsimp only at h
    cases h
    have:=ziB (zeS b) e
    rw[List.length_drop]at this
    omega
  ·rw[if_neg h2]at h
   cases h
   omega
end C06
namespace C06
open PySem L2
open F06 (Tr dTr zaK dp dps szM ap)
def At (W:List Nat) (CU:Addr) (H:Hp) (c:Addr) (s:Str) (l:List Nat):Prop:=∃ i,zbd CU H c s i∧(cp s).drop i=sub W l∧0∉l
theorem At.same {W:List Nat} {CU:Addr} {H H':Hp} {c:Addr} {s:Str} {l:List Nat} (h:At W CU H c s l) (m:ao H H'):At W CU H' c s l:=by
 obtain⟨i,C,r⟩:=h
 exact⟨i,C.same m,r⟩
theorem At.putL {W:List Nat} {CU:Addr} {H:Hp} {c z:Addr} {s:Str} {l:List Nat} {zs us:List V} (h:At W CU H c s l) (hz:H z=some (.lst zs)):At W CU (upd H z (.lst us)) c s l:=by
 obtain⟨i,C,r⟩:=h
 exact⟨i,C.putL hz,r⟩
theorem At.kt {W:List Nat} {CU:Addr} {H H':Hp} {c:Addr} {s:Str} {l:List Nat} (h:At W CU H c s l) (f:FrC H H' c):KeepT H H':=by
 obtain⟨i,C,r⟩:=h
 exact C.kt f
theorem At.ne {W:List Nat} {CU:Addr} {H:Hp} {c b:Addr} {s:Str} {l:List Nat} (h:At W CU H c s l) (e:H b=none):b≠c:=by
 obtain⟨i,C,r⟩:=h
 exact C.ne e
theorem At.ins {W:List Nat} {CU:Addr} {H:Hp} {c:Addr} {s:Str} {l:List Nat} (h:At W CU H c s l):∃ i dx,H c=some (.ins CU dx (cfl s i)):=by
 obtain⟨i,⟨⟨dx,hc⟩,_⟩,_⟩:=h
 exact⟨i,dx,hc⟩
theorem zkl {l:List Nat} {n c:Nat} (h:c∉l):c∉l.drop n:=fun z=>h (List.mem_of_mem_drop z)
def NX (y:Str):Prop:=98∉cp y∧64∉cp y∧y.length≤1000
abbrev bmV:List Value:=[.type "ValueError",.type "Exception",.type "BaseException",.type "object"]
structure TxN (K:PySem.W.Frag) (mg:Str→Option Value) (CN CB:Addr):Prop where
 np:mg "NoProblem"=some (.ref CN)
 xn:PySem.W.excIn K CN bmV "ValueError.__new__"=true
 bn:mg "BadName"=some (.ref CB)
 xb:PySem.W.excIn K CB bmV "ValueError.__new__"=true
theorem st_yes {s y:Str} {i:Nat} {r:List Nat} (h:(cp s).drop i=cp y++r):zb5 s y i=true:=by
 unfold zb5
 have e:s.cps.toList.drop i=cp y++r:=h
 rw[e,←av y,List.take_left']
 ·exact beq_self_eq_true _
 ·rfl
theorem st_no {s y:Str} {i:Nat} {r:List Nat} (h:(cp s).drop i=r) (n:∀ t,r≠cp y++t):zb5 s y i=false:=by
 cases e:zb5 s y i with
 | false=>rfl
 | true =>
  exfalso
  have e1:=eq_of_beq e
  have e2:s.cps.toList.drop i=r:=h
  rw[e2]at e1
  exact n (r.drop y.length) (by
   have:=List.take_append_drop y.length r
   rw[e1]at this
   exact this.symm)
theorem zkm {s:Str} {i:Nat} {a r:List Nat} (h:(cp s).drop i=a++r):(cp s).drop (i+a.length)=r:=by
 rw[←List.drop_drop,h,List.drop_left']
 rfl
theorem zix {s n:Str} {i:Nat} {r:List Nat} (h:(cp s).drop i=cp n++r) (hi:i≤s.length):Txt.slice s (some (i:Int)) (some ((i+n.length:Nat):Int))=n:=by
 have l:i+n.length≤(cp s).length:=by
  have e:=congrArg List.length h
  rw[List.length_drop,List.length_append,av n]at e
  have:=av s
  by_cases c:n.length=0
  ·omega
  ·omega
 have e:=eq_of_beq (PyProof.Rows.slice_closes (x:=s) (i:=(i:Int)) (j:=((i+n.length:Nat):Int)) ⟨by omega,by omega,by show((i+n.length:Nat):Int)≤((cp s).length:Nat);omega⟩)
 rw[e]
 refine zaO ?_
 show((s.cps.toList.drop (i:Int).toNat).take (((i+n.length:Nat):Int) - (i:Int)).toNat).toArray.toList=cp n
 rw[List.toList_toArray,show((i:Int)).toNat=i by omega,show(((i+n.length:Nat):Int) - (i:Int)).toNat=n.length by omega]
 have e2:s.cps.toList.drop i=cp n++r:=h
 rw[e2,←av n,List.take_left']
 rfl
theorem zdp {y l:List Nat}:pre y l=true↔∃ t,l=y++t:=by
 unfold pre
 rw[List.isPrefixOf_iff_prefix]
 exact⟨fun⟨t,h⟩=>⟨t,h.symm⟩,fun⟨t,h⟩=>⟨t,h.symm⟩⟩
theorem st_pre {s y:Str} {i:Nat}:zb5 s y i=pre (cp y) ((cp s).drop i):=by
 cases e:pre (cp y) ((cp s).drop i) with
 | true =>
  obtain⟨t,h⟩:=zdp.mp e
  exact st_yes h
 | false =>
  refine st_no rfl fun t h=>?_
  rw[zdp.mpr ⟨t,h⟩]at e
  cases e
section
variable {P:Program} {w:World} {K:PySem.W.Frag} {mg:Str→Option Value} {base:Heap} {W:List Nat} {CU CN CB:Addr} {f fO fK fW fT fS:Addr} {fd dO dK' dW dT' dS:FuncData}
theorem Fun.okX {x qual:Str} {st:Stmt} {f:Addr} {fd:FuncData} {N ps:List Str} {k:Nat} {sp:Sp} (F:Fun K x qual st f fd) (S:zaa N ps (ad st)) (len:∀ vs H Q E,sp vs H Q E→vs.length=ps.length)
  (hbody:∀(cdv:Value) (A:Around) (outer:List Env) (s:Shared) (H:Hp) (vs:List V) (Q:VK) (E:XK),zai k (A.deeper (PyProof.Rows.envOfC qual (ad st) s.heap.objs.size f cdv))→sp vs H Q E →
   ∃ t,PSs (zak (CX1 P w) P w K mg base N qual (ad st) f cdv A outer s H E) (zam st) t∧t { nx:=fun _ H'=>Q .non H',rt:=Q } (zbj N vs) H):FnOk P w K mg base (CX1 P w) (k+1) f fd ps sp:=by
 obtain⟨oc,od,kV,doc,pm,an,cdv,ct,osl,rfl,lk,hcd⟩:=F.ex
 exact ziu lk hcd S len fun A outer s H vs Q E hr hsp=>hbody cdv A outer s H vs Q E hr hsp
theorem xe1 {N:List Str} {qual:Str} {scope:Scope} {f:Addr} {cd:Value} {A:Around} {outer:List Env} {s:Shared} {H:Hp} {E:XK}:Xe1 (zak (CX1 P w) P w K mg base N qual scope f cd A outer s H E) E:=⟨rfl,rfl,rfl,rfl⟩
inductive zid (W:List Nat) (CU:Addr):Sp | mk {vs H Q E9} (c:Addr) (s y:Str) (l:List Nat):vs=[.ref c,.str y]→At W CU H c s l→NX y→(pre (cp y) l=true→∀ H',At W CU H' c s (l.drop (cp y).length)→FrC H H' c→Q (.bl true) H')→(pre (cp y) l=false→Q (.bl false) H)→zid W CU vs H Q E9
theorem ok_tk (g:GW W) (h:FnOk P w K mg base CX0 1 f fd ["self","signs"] (zeJ CU)):FnOk P w K mg base CX0 1 f fd ["self","signs"] (zid W CU):=h.imp fun vs H Q E ⟨c,s,y,l,e,⟨i,C,hd,hl⟩,⟨n1,n2,n3⟩,q1,q2⟩=>by
 obtain⟨p1,p2⟩:=zdo g (l:=l) n1 n2
 have es:zb5 s y i=pre (cp y) l:=by rw[st_pre,hd,p1]
 refine⟨c,s,y,i,e,C,n3,fun e1 H' C' f'=>?_,fun e1=>q2 (by rw[←es];exact e1)⟩
 rw[es]at e1
 refine q1 e1 H' ⟨_,C',?_,zkl hl⟩ f'
 rw[←p2 e1,←hd,av,List.drop_drop]
inductive zfD (W:List Nat) (CU CN:Addr):Sp | mk {vs H Q E} (c:Addr) (s:Str) (l:List Nat):vs=[.ref c]→At W CU H c s l→(l.takeWhile isW=[]→∀ H',FrC H H' c→E (.ref CN) none H')→(l.takeWhile isW≠[]→∀ H',At W CU H' c s (l.dropWhile isW)→FrC H H' c→Q (.str (nmS (sub W (l.takeWhile isW)))) H')→zfD W CU CN vs H Q E
theorem zhL:zaa ["self","begin"] ["self"] (ad s_Cursor_take_word):=⟨rfl,rfl,rfl,by decide +kernel,rfl,by decide +kernel,by decide +kernel⟩
theorem sub_ab (g:GW W):∀ {a:List Nat},(∀ c∈a,isW c=true)→∀ c∈sub W a,c∈cp abc
 | [],_,c,h=>by cases h
 | d :: a,h,c,hc=>by
  have ih:=sub_ab g (a:=a) fun c hc=>h c (List.mem_cons_of_mem _ hc)
  simp only[sub]at hc
  by_cases hd:d=64
  ·rw[if_pos hd]at hc
   rcases List.mem_append.mp hc with z | z
   ·exact g.ab c z
   ·exact ih c z
  ·rw[if_neg hd]at hc
   rcases List.mem_cons.mp hc with rfl | z
   ·rcases zcG.mp (h c (by simp)) with z | z
    ·exact absurd z hd
    ·exact zbY.mpr z
   ·exact ih c z
theorem ziR:∀ {l:List Nat},∀ c∈l.takeWhile isW,isW c=true
 | [],c,h=>by cases h
 | d :: l,c,h=>by
  rw[List.takeWhile_cons]at h
  split at h
  ·rcases List.mem_cons.mp h with rfl | z
   ·assumption
   ·exact ziR c z
  ·cases h
theorem zh3:∀ {l:List Nat} {c:Nat} {t:List Nat},l.dropWhile isW=c :: t→isW c=false
 | [],c,t,h=>by cases h
 | d :: l,c,t,h=>by
  rw[List.dropWhile_cons]at h
  split at h
  ·exact zh3 h
  ·cases h
   exact Bool.eq_false_iff.mpr ‹_›
theorem zkA {l r:List Nat} (h:l.dropWhile isW=r):∀ c t,sub W r=c :: t→isL ⟨#[c]⟩=false:=fun c t e=>by
 cases r with
 | nil=>cases e
 | cons d r' =>
  have hd:=zh3 h
  have n64:d≠64:=fun z=>by rw[z]at hd;cases hd
  simp only[sub,if_neg n64]at e
  injection e with e1 _
  rw[zes,←e1]
  refine decide_eq_false fun z=>?_
  rw[zcG.mpr (.inr z)]at hd
  cases hd
theorem ok_word (g:GW W) (F:Fun K "take_word" "Cursor.take_word" s_Cursor_take_word f fd) (Z:TxC K mg CU) (TN:TxN K mg CN CB) (oO:FnOk P w K mg base CX0 1 fO dO ["self"] (zeh CU)) (bO:au K dO ["self"] []) (mO:zbp K CU "is_over" fO):FnOk P w K mg base (CX1 P w) 2 f fd ["self"] (zfD W CU CN):=by
 refine Fun.okX F zhL (fun vs H Q E h=>?_) (fun cdv A outer s0 H vs Q E hr h=>?_)
 ·obtain⟨c,s,l,rfl,_⟩:=h
  rfl
 obtain⟨c,s,l,rfl,⟨i,C,hdl,hx⟩,qE,q⟩:=h
 obtain⟨t1,e1⟩:=Z.small
 generalize hw:l.takeWhile isW=wd at qE q
 generalize hrr:l.dropWhile isW=rr at q
 have el:l=wd++rr:=by rw[←hw,←hrr,List.takeWhile_append_dropWhile]
 have hab:∀ c∈sub W wd,c∈cp abc:=sub_ab g (by rw[←hw];exact ziR)
 have he:=zkA (W:=W) hrr
 generalize hn:nmS (sub W wd)=n at q
 have cn:cp n=sub W wd:=by rw[←hn,zaN]
 have hd:(cp s).drop i=cp n++sub W rr:=by rw[hdl,el,zaH,cn]
 have hr0:0∉rr:=fun z=>hx (by rw[el];exact List.mem_append_right _ z)
 rw[←cn]at hab
 have hat:∀ {H2:Hp},zbd CU H2 c s (i+n.length)→At W CU H2 c s rr:=fun C2=>⟨_,C2,by rw[←av,zkm hd],hr0⟩
 have hw0:n.length=0↔wd=[]:=by
  rw[←av,cn,List.length_eq_zero_iff,zdl g]
 generalize hr':sub W rr=r at hd he
 obtain⟨⟨dx,hc⟩,hi,hl⟩:=id C
 have nl:=av n
 have sl:=av s
 have len:i+n.length+r.length=s.length:=by
  have e:=congrArg List.length hd
  rw[List.length_drop,List.length_append,nl,sl]at e
  omega
 have tail:∃ t,PSs (zak (CX1 P w) P w K mg base ["self","begin"] "Cursor.take_word" (ad s_Cursor_take_word) f cdv A outer s0 H E) ((zam s_Cursor_take_word).drop 2) t∧∀(H2:Hp) (D:zaM),zbd CU H2 c s (i+n.length)→FrC H H2 c→D.rt=Q→t D [some (.ref c),some (.int (i:Nat))] H2:=by
  refine⟨_,(aj (zaD (zal zbc (zaS (pv 0) rfl) (pv 1) (zas _))
   (ae (za1 (C:=CN) xe1 rfl rfl TN.np PySem.F.excBase_ValueError TN.xn (aa (za9 (zaq ak (zaq (zct (pv 1)) (zaq ak zbz)))) ac)))
   zag)
  (ae (zab (zdC zgA (zaS (pv 0) rfl) (zdq (pv 1)) (zdq (zaS (pv 0) rfl)))))),?_⟩
  intro H2 D C2 f2 eD
  obtain⟨⟨dx2,hc2⟩,_,_⟩:=id C2
  have c0:Str.empty.length=0:=rfl
  have d1:(("a word is due at sign ":Str)).length≤100:=by decide +kernel
  have d2:((" of a term":Str)).length≤100:=by decide +kernel
  have d3:((toString (i:Int):String):Str).length≤10:=zhj (by omega)
  refine⟨_,rfl,c,CU,dx2,_,_,rfl,hc2,Z.cl,Z.nP,zbn _ _,_,rfl,rfl,_,rfl,zay (fun cc=>?_) (fun cc=>?_)⟩
  ·have:=of_decide_eq_true cc
   injection this with this
   refine⟨_,rfl,szM (by simp only[ap,c0];omega),_,rfl,.inr ⟨_,rfl,zkh (by omega),_,rfl,szM (by simp only[ap,c0];omega),_,rfl,szM (by simp only[ap,c0];omega),szM (by simp only[ap,c0];omega),(by show 1≤sizeLine;decide),qE (hw0.mp (by omega)) H2 f2⟩⟩
  ·refine⟨_,rfl,c,CU,dx2,_,_,rfl,hc2,Z.cl,Z.nT,zcR _ _,_,rfl,_,rfl,_,rfl,c,CU,dx2,_,_,rfl,hc2,Z.cl,Z.nP,zbn _ _,_,rfl,s,rfl,szM (by omega),?_⟩
   rw[zix hd hi]
   have ne:wd≠[]:=fun e=>cc (decide_eq_true (by rw[hw0.mpr e];rfl))
   show D.rt _ _
   rw[eD]
   exact q ne H2 (hat C2) f2
 obtain⟨tt,ht,hq⟩:=tail
 refine⟨_,(aj (zar (i:=1) zhL.nd rfl (Or.inl rfl) (zaS (pv 0) rfl))
  (aj (zg7 PassesOwn.leaving (PW.pt (zfk (zb3 (zbr (zeZ (pv 0) Z.cl mO oO hr bO .nil zaz))) (zen (zal zf7 (zaJ zfo (zaS (pv 0) rfl) (zaS (pv 0) rfl) (fun _ _=>rfl)) (za0 (v:=.str abc) rfl e1 ⟨_,rfl⟩) rfl))))
   (ae (zf5 (pv 0) ah zjg))) ht)),?_⟩
 refine⟨_,rfl,c,CU,dx,_,_,rfl,hc,Z.cl,Z.nP,zbn _ _,fun m σ H'=>∃ j,m+j=n.length∧σ=[some (.ref c),some (.int (i:Nat))]∧zbd CU H' c s (i+j)∧FrC H H' c,⟨n.length,0,rfl,rfl,C,FrC.of_same (ao.refl _)⟩,?_⟩
 rintro m σ H2 ⟨j,mj,rfl,C2,f2⟩
 obtain⟨⟨dx2,hc2⟩,hi2,_⟩:=id C2
 have dj:(cp s).drop (i+j)=(cp n).drop j++r:=by
  rw[←List.drop_drop,hd,List.drop_append_of_le_length (by rw[nl];omega)]
 have stop:m=0→(cp s).drop (i+j)=r:=fun e=>by rw[dj,List.drop_of_length_le (by rw[nl];omega),List.nil_append]
 refine⟨_,rfl,c,dx2,_,rfl,hc2,zfz _ _,c,s,i+j,rfl,C2,_,rfl,?_⟩
 by_cases m0:m=0
 ·have ej:j=n.length:=by omega
  subst ej
  by_cases ov:i+n.length=s.length
  ·rw[show decide (i+n.length=s.length)=true from decide_eq_true ov]
   exact zaX (zaX (hq H2 _ C2 f2 rfl))
  ·rw[show decide (i+n.length=s.length)=false from decide_eq_false ov]
   have dr:=stop m0
   obtain⟨ch,rt,er⟩:∃ ch rt,r=ch :: rt:=by
    cases r with
    | nil=>simp at len;omega
    | cons a b=>exact⟨a,b,rfl⟩
   have chat:atI s.cps.toList ((i+n.length:Nat):Int)=some ch:=zax (by
    have e:(cp s)[i+n.length]?=((cp s).drop (i+n.length))[0]?:=by rw[List.getElem?_drop];rfl
    show(cp s)[i+n.length]?=some ch
    rw[e,dr,er]
    rfl)
   have nb:=he ch rt er
   refine za7 ⟨_,rfl,c,CU,dx2,_,_,rfl,hc2,Z.cl,Z.nT,zcR _ _,_,rfl,c,CU,dx2,_,_,rfl,hc2,Z.cl,Z.nP,zbn _ _,s,_,ch,rfl,rfl,szM (by omega),chat,_,_,rfl,rfl,_,rfl,zay (fun cc=>?_) (fun _=>hq H2 _ C2 f2 rfl)⟩
   have cc':isL ⟨#[ch]⟩=true:=cc
   rw[nb]at cc'
   cases cc'
 ·have jl:j < n.length:=by omega
  obtain⟨ch,hch⟩:∃ ch,(cp n)[j]?=some ch:=⟨_,List.getElem?_eq_getElem (by rw[nl];exact jl)⟩
  have yes:=zlp ch (hab ch (List.mem_of_getElem? hch))
  have chat:atI s.cps.toList ((i+j:Nat):Int)=some ch:=zax (by
   have e:(cp s)[i+j]?=((cp s).drop (i+j))[0]?:=by rw[List.getElem?_drop];rfl
   show(cp s)[i+j]?=some ch
   rw[e,dj,List.getElem?_append_left (by rw[List.length_drop,nl];omega),List.getElem?_drop]
   exact hch)
  rw[show decide (i+j=s.length)=false from decide_eq_false (by omega)]
  refine za7 ⟨_,rfl,c,CU,dx2,_,_,rfl,hc2,Z.cl,Z.nT,zcR _ _,_,rfl,c,CU,dx2,_,_,rfl,hc2,Z.cl,Z.nP,zbn _ _,s,_,ch,rfl,rfl,szM (by omega),chat,_,_,rfl,rfl,_,rfl,zay (fun _=>?_) (fun cc=>absurd (show isL ⟨#[ch]⟩=true from yes) cc)⟩
  refine⟨fun σ' H'=>∃ m',m' < m∧∃ j,m'+j=n.length∧σ'=[some (.ref c),some (.int (i:Nat))]∧zbd CU H' c s (i+j)∧FrC H H' c,fun _ _ h=>h,?_⟩
  refine⟨_,rfl,c,CU,dx2,_,_,rfl,hc2,Z.cl,Z.nP,zbn _ _,_,_,rfl,rfl,dx2,_,hc2,zia _ _,?_⟩
  have ep:zaF "place" (.int (((i+j:Nat):Int)+1)) (cfl s (i+j))=cfl s (i+j+1):=zh9 s (i+j) (i+j+1)
  rw[ep]
  exact⟨m - 1,by omega,j+1,by omega,rfl,⟨⟨dx2,ag⟩,by omega,hl⟩,fun b o e n=>by rw[ai n];exact f2 _ _ e n⟩
end
end C06
namespace C06
open PySem L2
open F06 (Tr dTr zaK dp dps szM ap nol_dTr nols_dTrs zbU zio)
theorem dTrs_length (ts:List Tr):(zaK ts).length=ts.length:=by rw[zbU,List.length_map]
theorem ziT {W:List Nat} (g:GW W):∀ a:List Nat,a.length≤(sub W a).length
 | []=>Nat.le_refl _
 | c :: a=>by
  have:=ziT g a
  obtain⟨t,ht⟩:=g.hd
  simp only[sub]
  split
  ·have:1≤W.length:=by rw[ht];simp
   simp only[List.length_append,List.length_cons];omega
  ·simp only[List.length_cons];omega
theorem At.len {W:List Nat} (g:GW W) {CU:Addr} {H:Hp} {c:Addr} {s:Str} {l:List Nat} (h:At W CU H c s l):l.length≤1000000:=by
 obtain⟨i,⟨_,_,hl⟩,hd,_⟩:=h
 have e:=congrArg List.length hd
 rw[List.length_drop,av]at e
 have:=ziT g l
 omega
theorem ziA (W:List Nat) (ts:List Tr):(sTs W ts).length=ts.length:=by rw[zbG,List.length_map]
def cat (a:List Tr) (x:Option (List Tr × List Nat)):Option (List Tr × List Nat):=match x with
 | none=>none
 | some (ts,r)=>some (a++ts,r)
theorem c_op:cp "("=[40]:=by decide +kernel
theorem c_cl:cp ")"=[41]:=by decide +kernel
theorem c_co:cp ", "=[44,32]:=by decide +kernel
theorem nx_co:NX ", ":=⟨by decide +kernel,by decide +kernel,by decide +kernel⟩
theorem nx_cl:NX ")":=⟨by decide +kernel,by decide +kernel,by decide +kernel⟩
theorem nx_op:NX "(":=⟨by decide +kernel,by decide +kernel,by decide +kernel⟩
theorem zjA {f:PT'} {l:List Nat}:zbL f l=match f l with
  | none=>none
  | some (t,r)=>cat [t] (za2 f (l.length+1) r):=by
 unfold zbL
 cases f l with
 | none=>rfl
 | some x =>
  obtain⟨t,r⟩:=x
  dsimp only
  cases za2 f (l.length+1) r with
  | none=>rfl
  | some y=>rfl
theorem zla {f:PT'} {n:Nat} {r r':List Nat} {t:Tr} {a:List Tr} (h:pre [44,32] r=true) (e:f (r.drop 2)=some (t,r')):cat a (za2 f (n+1) r)=cat (a++[t]) (za2 f n r'):=by
 simp only[za2,if_pos h,e]
 cases za2 f n r' with
 | none=>rfl
 | some y =>
  obtain⟨ts,r2⟩:=y
  simp [cat]
theorem zkc {f:PT'} {n:Nat} {r:List Nat} {a:List Tr} (h:pre [44,32] r=true) (e:f (r.drop 2)=none):cat a (za2 f (n+1) r)=none:=by
 simp only[za2,if_pos h,e]
 rfl
theorem zkb {f:PT'} {n:Nat} {r:List Nat} {a:List Tr} (h:pre [44,32] r=false) (e:pre [41] r=true):cat a (za2 f (n+1) r)=some (a,r.drop 1):=by
 simp [za2,h,e,cat]
theorem zjF {f:PT'} {n:Nat} {r:List Nat} {a:List Tr} (h:pre [44,32] r=false) (e:pre [41] r=false):cat a (za2 f (n+1) r)=none:=by
 simp [za2,h,e,cat]
section
variable {P:Program} {w:World} {K:PySem.W.Frag} {mg:Str→Option Value} {base:Heap} {W:List Nat} {CU CN CB:Addr} {f fO fK fW fT fS:Addr} {fd dO dK' dW dT' dS:FuncData}
inductive sp_tree (W:List Nat) (K:PySem.W.Frag) (CU CN:Addr) (b:Nat):Sp | mk {vs H Q E} (c:Addr) (s:Str) (l:List Nat):vs=[.ref c,.int (b:Nat)]→At W CU H c s l→(zaW b l=none→∀ H',FrC H H' c→E (.ref CN) none H')→(∀ t r,zaW b l=some (t,r)→∀(H':Hp) (v:V),At W CU H' c s r→FrC H H' c→Has K H' (dTr (sT W t)) v→Q v H')→sp_tree W K CU CN b vs H Q E
inductive zeI (W:List Nat) (K:PySem.W.Frag) (CU CN:Addr) (b:Nat):Sp | mk {vs H Q E} (c:Addr) (s:Str) (l:List Nat):vs=[.ref c,.int (b:Nat)]→At W CU H c s l→(zbL (zaW b) l=none→∀ H',FrC H H' c→E (.ref CN) none H')→(∀ ts r,zbL (zaW b) l=some (ts,r)→∀(H':Hp) (p:Addr) (xs:List V),At W CU H' c s r→FrC H H' c→H' p=some (.tup xs)→aq K H' (zaK (sTs W ts)) xs→Q (.ref p) H')→zeI W K CU CN b vs H Q E
structure Ow (P:Program) (w:World) (K:PySem.W.Frag) (mg:Str→Option Value) (base:Heap) (W:List Nat) (CU CN fK fW:Addr) (dK' dW:FuncData):Prop where
 T:FnOk P w K mg base CX0 1 fK dK' ["self","signs"] (zid W CU)
 bT:au K dK' ["self","signs"] []
 mT:zbp K CU "takes" fK
 W:FnOk P w K mg base (CX1 P w) 2 fW dW ["self"] (zfD W CU CN)
 bW:au K dW ["self"] []
 mW:zbp K CU "take_word" fW
theorem zg2:zaa ["self","brackets","trees"] ["self","brackets"] (ad s_Cursor_take_trees):=⟨rfl,rfl,rfl,by decide +kernel,rfl,by decide +kernel,by decide +kernel⟩
theorem zj3 (g:GW W) {b k:Nat} (F:Fun K "take_trees" "Cursor.take_trees" s_Cursor_take_trees f fd) (Z:TxC K mg CU) (TN:TxN K mg CN CB) (O:Ow P w K mg base W CU CN fK fW dK' dW) (hk:1≤k) (oT:FnOk P w K mg base (CX1 P w) k fT dT' ["self","brackets"] (sp_tree W K CU CN b)) (bT:au K dT' ["self","brackets"] []) (mT:zbp K CU "take_tree" fT):FnOk P w K mg base (CX1 P w) (k+1) f fd ["self","brackets"] (zeI W K CU CN b):=by
 refine Fun.okX F zg2 (fun vs H Q E h=>?_) (fun cdv A outer s0 H vs Q E hr h=>?_)
 ·obtain⟨c,s,l,rfl,_⟩:=h
  rfl
 obtain⟨c,s,l0,rfl,C,qE,q⟩:=h
 have hr1:zai 1 _:=hr.mono hk
 refine⟨_,(aj (zar (i:=2) zg2.nd rfl (Or.inl rfl) (za8 (aa (zaZ (pv 0) Z.cl mT oT hr bT .nil (zau xe1) (aa (pv 1) ac)) ac)))
  (aj (zg7 PassesOwn.leaving (zbr (zaZ (pv 0) Z.cl O.mT O.T hr1 O.bT .nil zaz (aa ak ac)))
   (ae (zba (zbk PySem.F.plainAttrs_list PySem.F.slot_list_append PySem.F.type_list_append zbs (pv 2) (aa (zaZ (pv 0) Z.cl mT oT hr bT .nil (zau xe1) (aa (pv 1) ac)) ac)))))
  (aj (zaD (zb3 (zbr (zaZ (pv 0) Z.cl O.mT O.T hr1 O.bT .nil zaz (aa ak ac))))
   (ae (za1 (C:=CN) xe1 rfl rfl TN.np PySem.F.excBase_ValueError TN.xn (aa ak ac)))
   zag)
  (ae (zab (zd5 zcs rfl Z.tuple PyProof.Rows.Boot.tuple (aa (pv 2) ac))))))),?_⟩
 rw[zjA]at qE q
 obtain⟨i,dx,hc⟩:=C.ins
 refine⟨_,rfl,c,dx,_,rfl,hc,zcU _ _,_,rfl,c,s,l0,rfl,C,fun e H1 f1=>qE (by rw[e]) H1 f1,fun t r e H1 v C1 f1 h1=>⟨lS1,fun l hl=>?_⟩⟩
 rw[e]at qE q
 dsimp only at qE q
 have rl:=zeS b _ _ _ e
 have s2:=zae hl (.lst [v])
 have n2:=ag (H:=H1) (a:=l) (o:=.lst [v])
 generalize upd H1 l (.lst [v])=H2 at s2 n2
 have nlc:=C1.ne hl
 have hl0:H l=none:=by
  cases e:H l with
  | none=>rfl
  | some o=>rw[f1 _ _ e nlc]at hl;cases hl
 have l9:=C.len g
 generalize hO:cat [t] (za2 (zaW b) (l0.length+1) r)=O at qE q
 refine⟨fun m σ H'=>∃(n:Nat) (us:List V) (a:List Tr) (r:List Nat),m=r.length∧m < n∧σ=[some (.ref c),some (.int (b:Nat)),some (.ref l)]∧H' l=some (.lst us)∧aq K H' (zaK (sTs W a)) us∧At W CU H' c s r∧a.length+r.length≤l0.length∧O=cat a (za2 (zaW b) n r)∧FrC H H' c,
  ⟨r.length,l0.length+1,[v],[t],r,rfl,by omega,rfl,n2,aq.one (h1.keep s2.kt (nol_dTr _)),C1.same s2,by simp only[List.length_cons,List.length_nil];omega,hO.symm,f1.trans (FrC.of_same s2)⟩,?_⟩
 rintro m σ H3 ⟨n,us,a,r3,rfl,mn,rfl,hl3,hx3,C3,al,eO,f3⟩
 obtain⟨n,rfl⟩:∃ n',n=n'+1:=⟨n - 1,by omega⟩
 obtain⟨i3,dx3,hc3⟩:=C3.ins
 have ul:us.length=a.length:=by rw[←hx3.length,dTrs_length,ziA]
 refine⟨_,rfl,c,dx3,_,rfl,hc3,ze2 _ _,c,s,", ",r3,rfl,C3,nx_co,fun e4 H4 C4 f4=>?_,fun e4=>?_⟩
 ·rw[c_co]at e4 C4
  refine⟨_,rfl,za7 ?_⟩
  have hl4:=f4 _ _ hl3 nlc
  refine⟨fun σ' H'=>∃ m',m' < r3.length∧∃(n:Nat) (us:List V) (a:List Tr) (r:List Nat),m'=r.length∧m' < n∧σ'=[some (.ref c),some (.int (b:Nat)),some (.ref l)]∧H' l=some (.lst us)∧aq K H' (zaK (sTs W a)) us∧At W CU H' c s r∧a.length+r.length≤l0.length∧O=cat a (za2 (zaW b) n r)∧FrC H H' c,fun _ _ h=>h,?_⟩
  obtain⟨i4,dx4,hc4⟩:=C4.ins
  refine⟨_,rfl,.inl ⟨rfl,_,SqL.of hl4⟩,_,rfl,c,dx4,_,rfl,hc4,zcU _ _,_,rfl,c,s,r3.drop 2,rfl,C4,fun e5 H5 f5=>?_,fun u r' e5 H5 x C5 f5 h5=>?_⟩
  ·exact qE (by rw[eO];exact zkc e4 e5) H5 ((f3.trans f4).trans f5)
  have hl5:=f5 _ _ hl4 nlc
  have kt:KeepT H5 (upd H5 l (.lst (us++[x]))):=KeepT.lst hl5
  have sh:=zeS b _ _ _ e5
  rw[List.length_drop]at sh
  refine⟨l,us,x,rfl,rfl,hl5,Nat.lt_of_lt_of_le (show us.length < 16000000 by omega) (szM (Nat.le_refl _)),r'.length,by omega,n,us++[x],a++[u],r',rfl,by omega,rfl,ag,?_,C5.putL hl5,by simp only[List.length_append,List.length_cons,List.length_nil];omega,by rw[eO];exact zla e4 e5,fun b' o e n=>?_⟩
  ·have et:zaK (sTs W (a++[u]))=zaK (sTs W a)++[dTr (sT W u)]:=by
    rw[zbG,zbG,zbU,zbU]
    simp
   rw[et]
   exact((hx3.keep (C3.kt (f4.trans f5)) (nols_dTrs _)).keep kt (nols_dTrs _)).append (aq.one (h5.keep kt (nol_dTr _)))
  ·rw[ai (fun z=>by rw[z,hl0]at e;cases e)]
   exact f5 _ _ (f4 _ _ (f3 _ _ e n) n) n
 ·rw[c_co]at e4
  refine⟨_,rfl,zaX ?_⟩
  refine⟨_,rfl,c,dx3,_,rfl,hc3,ze2 _ _,c,s,")",r3,rfl,C3,nx_cl,fun e5 H4 C4 f4=>?_,fun e5=>?_⟩
  ·rw[c_cl]at e5 C4
   have hl4:=f4 _ _ hl3 nlc
   refine⟨_,rfl,zaX ⟨_,rfl,l,_,rfl,.inl ⟨SqL.of hl4,fun p hp=>?_⟩⟩⟩
   have s5:=zae hp (.tup us)
   exact q a _ (by rw[eO];exact zkb e4 e5) _ p us (C4.same s5) ((f3.trans f4).trans (FrC.of_same s5)) ag ((hx3.keep (C3.kt f4) (nols_dTrs _)).keep s5.kt (nols_dTrs _))
  ·rw[c_cl]at e5
   exact⟨_,rfl,za7 ⟨(by show 1≤sizeLine;decide),qE (by rw[eO];exact zjF e4 e5) H3 f3⟩⟩
theorem zhM:zaa ["self","brackets","word"] ["self","brackets"] (ad s_Cursor_take_tree):=⟨rfl,rfl,rfl,by decide +kernel,rfl,by decide +kernel,by decide +kernel⟩
theorem zjP {b:Nat} {l:List Nat} (h:l.takeWhile isW=[]):zaW b l=none:=by
 cases b <;> simp only[zaW,if_pos h]
theorem zjt {b:Nat} {l:List Nat} (h:l.takeWhile isW≠[]) (h2:pre [40] (l.dropWhile isW)=false):zaW b l=some (.node (nmS (l.takeWhile isW)) [],l.dropWhile isW):=by
 cases b <;> simp [zaW,h,h2]
theorem zju {l:List Nat} (h2:pre [40] (l.dropWhile isW)=true):zaW 0 l=none:=by
 simp only[zaW]
 split <;> first | rfl | rw[if_pos h2]
theorem zkx {b:Nat} {l:List Nat} (h:l.takeWhile isW≠[]) (h2:pre [40] (l.dropWhile isW)=true):zaW (b+1) l=match zbL (zaW b) ((l.dropWhile isW).drop 1) with
  | none=>none
  | some (ts,r)=>some (.node (nmS (l.takeWhile isW)) ts,r):=by
 simp only[zaW,if_neg h,if_pos h2] <;> cases zbL (zaW b) ((l.dropWhile isW).drop 1) <;> rfl
theorem zf1 (g:GW W) {b k:Nat} (F:Fun K "take_tree" "Cursor.take_tree" s_Cursor_take_tree f fd) (Z:TxC K mg CU) (TN:TxN K mg CN CB) (hMB:∃ t,mg "MOST_BRACKETS"=some (.int 20 t)) (O:Ow P w K mg base W CU CN fK fW dK' dW) (hk:2≤k) (bS:au K dS ["self","brackets"] []) (mS:zbp K CU "take_trees" fS) {b':Nat} (hb':b=0∨b=b'+1) {spS:Sp} (hS:b=b'+1→∀ vs H Q E,zeI W K CU CN b' vs H Q E→spS vs H Q E) (oS:FnOk P w K mg base (CX1 P w) k fS dS ["self","brackets"] spS):FnOk P w K mg base (CX1 P w) (k+1) f fd ["self","brackets"] (sp_tree W K CU CN b):=by
 refine Fun.okX F zhM (fun vs H Q E h=>?_) (fun cdv A outer s0 H vs Q E hr h=>?_)
 ·obtain⟨c,s,l,rfl,_⟩:=h
  rfl
 obtain⟨c,s,l,rfl,C,qE,q⟩:=h
 have hr1:zai 1 _:=hr.mono (by omega)
 have hr2:zai 2 _:=hr.mono hk
 obtain⟨t2,e2⟩:=hMB
 refine⟨_,(aj (zar (i:=2) zhM.nd rfl (Or.inl rfl) (zeZ (pv 0) Z.cl O.mW O.W hr2 O.bW .nil (zau xe1)))
  (aj (zaD (zb3 (zbr (zaZ (pv 0) Z.cl O.mT O.T hr1 O.bT .nil zaz (aa ak ac))))
   (ae (zab (zbA (aa (pv 2) (aa (zbA ac) ac)))))
   zag)
  (aj (zaD (zal zbc (pv 1) ah (zas _))
   (ae (za1 (C:=CN) xe1 rfl rfl TN.np PySem.F.excBase_ValueError TN.xn (aa (za9 (zaq ak (zaq (zct (za0 (v:=.int 20) rfl e2 ⟨_,rfl⟩)) (zaq ak zbz)))) ac)))
   zag)
  (ae (zab (zbA (aa (pv 2) (aa (zaZ (pv 0) Z.cl mS oS hr bS .nil (zau xe1) (aa (ar zgO (pv 1) ah) ac)) ac)))))))),?_⟩
 obtain⟨i,dx,hc⟩:=C.ins
 have z2:2≤sizeLine:=by decide
 have z0:0≤sizeLine:=Nat.zero_le _
 refine⟨_,rfl,c,dx,_,rfl,hc,zhw _ _,c,s,l,rfl,C,fun e H1 f1=>qE (zjP e) H1 f1,fun ne H1 C1 f1=>?_⟩
 obtain⟨i1,dx1,hc1⟩:=C1.ins
 generalize hwd:l.takeWhile isW=wd at *
 generalize hrr:l.dropWhile isW=rr at *
 refine⟨_,rfl,c,dx1,_,rfl,hc1,ze2 _ _,c,s,"(",rr,rfl,C1,nx_op,fun e3 H2 C2 f2=>?_,fun e3=>?_⟩
 ·rw[c_op]at e3 C2
  obtain⟨i2,dx2,hc2⟩:=C2.ins
  refine⟨_,rfl,zaX ⟨_,rfl,rfl,_,rfl,zay (fun cc=>?_) (fun cc=>?_)⟩⟩
  ·have cc':=of_decide_eq_true cc
   injection cc' with cc'
   have b0:b=0:=by omega
   subst b0
   have c0:Str.empty.length=0:=rfl
   have d1:(("brackets more than ":Str)).length≤100:=by decide +kernel
   have d2:((" deep":Str)).length≤100:=by decide +kernel
   have d3:((toString (20:Int):String):Str).length≤10:=zhj (by decide)
   exact⟨_,rfl,szM (by simp only[ap,c0];omega),.inr ⟨_,rfl,by decide,_,rfl,szM (by simp only[ap,c0];omega),_,rfl,szM (by simp only[ap,c0];omega),szM (by simp only[ap,c0];omega),(by show 1≤sizeLine;decide),qE (zju (by rw[hrr];exact e3)) H2 (f1.trans f2)⟩⟩
  ·have hb:b=b'+1:=by
    rcases hb' with h0 | h0
    ·subst h0
     exact absurd (decide_eq_true (show V.int ((0:Nat):Int)=V.int 0 from rfl)) cc
    ·exact h0
   subst hb
   have et:=zkx (b:=b') (l:=l) (by rw[hwd];exact ne) (by rw[hrr];exact e3)
   rw[hwd,hrr]at et
   rw[et]at qE q
   have eb:(((b'+1:Nat):Int) - 1)=(b':Nat):=by omega
   refine⟨_,rfl,_,rfl,c,dx2,_,rfl,hc2,zgo _ _,_,rfl,_,_,rfl,rfl,hS rfl _ _ _ _ ⟨c,s,rr.drop 1,by rw[←eb];rfl,C2,fun e4 H3 f3=>qE (by rw[e4]) H3 ((f1.trans f2).trans f3),fun ts r e4 H3 p xs C3 f3 hp hx=>⟨z2,fun p2 hp2=>?_⟩⟩⟩
   rw[e4]at q
   have s4:=zae hp2 (.tup [V.str (nmS (sub W wd)),V.ref p])
   have n4:=ag (H:=H3) (a:=p2) (o:=.tup [V.str (nmS (sub W wd)),V.ref p])
   refine q _ _ rfl _ _ (C3.same s4) (((f1.trans f2).trans f3).trans (FrC.of_same s4)) ?_
   simp only[sT]
   rw[zfa]
   exact zio (SqT.of n4) (SqT.of (s4 _ _ hp)) (hx.keep s4.kt (nols_dTrs _))
 ·rw[c_op]at e3
  have et:=zjt (b:=b) (l:=l) (by rw[hwd];exact ne) (by rw[hrr];exact e3)
  rw[hwd,hrr]at et
  refine⟨_,rfl,za7 ⟨_,rfl,z0,fun e he'=>⟨z2,fun p hp=>?_⟩⟩⟩
  have s2:=zae he' (.tup [])
  have n2:=ag (H:=H1) (a:=e) (o:=.tup [])
  generalize upd H1 e (.tup [])=H2 at s2 n2 hp ⊢
  have s3:=zae hp (.tup [V.str (nmS (sub W wd)),V.ref e])
  have n3:=ag (H:=H2) (a:=p) (o:=.tup [V.str (nmS (sub W wd)),V.ref e])
  refine q _ _ et _ _ (C1.same (s2.trans s3)) (f1.trans (FrC.of_same (s2.trans s3))) ?_
  simp only[sT,sTs]
  rw[zfa]
  exact zio (SqT.of n3) (SqT.of (s3 _ _ n2)) (by simp only[zaK];exact aq.nil)
theorem ok_tree (g:GW W) (F:Fun K "take_tree" "Cursor.take_tree" s_Cursor_take_tree f fd) (FS:Fun K "take_trees" "Cursor.take_trees" s_Cursor_take_trees fS dS) (Z:TxC K mg CU) (TN:TxN K mg CN CB) (hMB:∃ t,mg "MOST_BRACKETS"=some (.int 20 t)) (O:Ow P w K mg base W CU CN fK fW dK' dW) (bF:au K fd ["self","brackets"] []) (mF:zbp K CU "take_tree" f) (bS:au K dS ["self","brackets"] []) (mS:zbp K CU "take_trees" fS) :
  ∀ b,FnOk P w K mg base (CX1 P w) (2 * b+4) f fd ["self","brackets"] (sp_tree W K CU CN b)
 | 0=>zf1 g (b:=0) (k:=3) F Z TN hMB O (by omega) bS mS (b':=0) (.inl rfl) (spS:=fun _ _ _ _=>False) (fun h=>by cases h) (F06.FnOk.no fun _ _ _ _ h=>h)
 | b+1=>zf1 g (b:=b+1) (k:=2 * b+5) F Z TN hMB O (by omega) bS mS (b':=b) (.inr rfl) (fun _ _ _ _ _ h=>h) (zj3 g FS Z TN O (by omega) (ok_tree g F FS Z TN hMB O bF mF bS mS b) bF mF)
end
end C06
namespace C06
open PySem L2
open F06 (Tr dTr zaK dp dps szM ap nol_dTr)
theorem zfr {x y:Str} {k:Nat} (hy:1≤y.length):StrLaws.At x y x.length k↔∃ r,(cp x).drop k=cp y++r:=by
 unfold StrLaws.At
 rw[StrLaws.subAt_eq,beq_iff_eq]
 have lx:x.cps.toList.length=x.length:=av x
 have ly:y.cps.toList.length=y.length:=av y
 constructor
 ·rintro ⟨h1,h2⟩
  refine⟨((cp x).drop k).drop y.length,?_⟩
  unfold cp
  rw[←h2]
  exact(List.take_append_drop _ _).symm
 ·rintro ⟨r,h⟩
  have h':x.cps.toList.drop k=y.cps.toList++r:=h
  have l:=congrArg List.length h'
  rw[List.length_drop,List.length_append,lx,ly]at l
  exact⟨by omega,by rw[h',←ly,List.take_left' rfl]⟩
def jn (y:List Nat):List (List Nat)→List Nat
 | []=>[]
 | [p]=>p
 | p :: q :: r=>p++y++jn y (q :: r)
def Fre (y:List Nat):List (List Nat)→Prop
 | []=>True
 | [p]=>∀ i r,p.drop i≠y++r
 | p :: q :: t=>(∀ i r,i < p.length→(p++y++jn y (q :: t)).drop i≠y++r)∧Fre y (q :: t)
theorem ziU (x:Str) (i j:Nat):cp (Builtin.Str.strSub x i j)=((cp x).drop i).take (j - i):=StrLaws.strSub_toList x i j
theorem zg8 {x y:Str} (hy:1≤y.length):∀(ps:List Str) (a:Nat) (cuts:List Nat) (f:Nat),ps≠[]→(cp x).drop a=jn (cp y) (ps.map cp)→a≤x.length→Fre (cp y) (ps.map cp)→StrLaws.ChainG x y x.length a cuts f→(∀ k,f≤k→¬StrLaws.At x y x.length k)→StrLaws.partsFrom x y.length a cuts=ps
 | [],a,cuts,f,ne,h,ha,fr,g,n=>absurd rfl ne
 | [p],a,cuts,f,ne,h,ha,fr,g,n=>by
  simp only[List.map_cons,List.map_nil,jn,Fre]at h fr
  have lx:=av x
  cases cuts with
  | nil =>
   show [Builtin.Str.strSub x a x.length]=[p]
   refine congrArg (fun z=>[z]) (zaO ?_)
   rw[ziU,h,List.take_of_length_le]
   have:=congrArg List.length h
   rw[List.length_drop]at this
   omega
  | cons c r =>
   exfalso
   obtain⟨h1,h2,_⟩:=g
   obtain⟨r',h3⟩:=(zfr hy).mp h2
   refine fr (c - a) r' ?_
   rw[←h,List.drop_drop,←h3]
   congr 1
   omega
 | p :: q :: t,a,cuts,f,ne,h,ha,fr,g,n=>by
  simp only[List.map_cons,jn,Fre]at h fr
  have lx:=av x
  have lp:=av p
  have ly:=av y
  have hp:(cp x).drop (a+p.length)=cp y++jn (cp y) ((q :: t).map cp):=by
   rw[←List.drop_drop,h,List.append_assoc,←lp,List.drop_left' rfl]
   rfl
  have A:StrLaws.At x y x.length (a+p.length):=(zfr hy).mpr ⟨_,hp⟩
  cases cuts with
  | nil =>
   exfalso
   have e:f=a:=g
   exact n _ (by omega) A
  | cons c r =>
   obtain⟨h1,h2,h3,h4⟩:=g
   have c1:c≤a+p.length:=Nat.le_of_not_lt fun lt=>h3 _ (by omega) lt A
   have c2:a+p.length≤c:=Nat.le_of_not_lt fun lt=>by
    obtain⟨r',e⟩:=(zfr hy).mp h2
    refine fr.1 (c - a) r' (by omega) ?_
    have e2:(cp x).drop c=((cp x).drop a).drop (c - a):=by
     rw[List.drop_drop]
     congr 1
     omega
    rw[e2,h]at e
    exact e
   have ec:c=a+p.length:=by omega
   subst ec
   show Builtin.Str.strSub x a (a+p.length) :: StrLaws.partsFrom x y.length (a+p.length+y.length) r=p :: q :: t
   have e1:Builtin.Str.strSub x a (a+p.length)=p:=by
    refine zaO ?_
    rw[ziU,h,Nat.add_sub_cancel_left,←lp,List.append_assoc,List.take_left' rfl]
   have e2:=zg8 hy (q :: t) (a+p.length+y.length) r f (by simp) (by
    rw[←List.drop_drop,hp,←ly,List.drop_left' rfl]) A.1 fr.2 h4 n
   rw[e1,e2]
theorem kind1 (x:Str):1≤Builtin.Str.strKind x:=by
 unfold Builtin.Str.strKind
 split
 ·decide
 ·split <;> decide
theorem zjS {x y:Str} {ps:List Str} (hy:1≤y.length) (hk:Builtin.Str.strKind y=1) (ne:ps≠[]) (h:cp x=jn (cp y) (ps.map cp)) (fr:Fre (cp y) (ps.map cp)):Txt.split x y=ps:=by
 have lx:=av x
 have ly:=av y
 have k1:=kind1 x
 have one:∀ p,ps=[p]→[x]=ps:=fun p e=>by
  rw[e]
  refine congrArg (fun z=>[z]) (zaO ?_)
  rw[h,e]
  rfl
 have two:∀ p q t,ps=p :: q :: t→StrLaws.At x y x.length p.length:=fun p q t e=>by
  refine(zfr hy).mpr ⟨jn (cp y) ((q :: t).map cp),?_⟩
  rw[h,e]
  simp only[List.map_cons,jn]
  rw[List.append_assoc,←av p,List.drop_left' rfl]
 obtain⟨f,hG,hn⟩:=StrLaws.occ_tight x y hy
 unfold Txt.split
 split
 ·rename_i hc
  rw[Bool.or_eq_true,decide_eq_true_eq,decide_eq_true_eq,hk]at hc
  match ps,ne,one,two with
  | [p],_,one,_=>exact one p rfl
  | p :: q :: t,_,_,two =>
   have:=(two p q t rfl).1
   omega
 ·split
  ·rename_i he
   have e0:=List.isEmpty_iff.mp he
   match ps,ne,one,two with
   | [p],_,one,_=>exact one p rfl
   | p :: q :: t,_,_,two =>
    exfalso
    rw[e0]at hG
    have ef:f=0:=hG
    exact hn _ (by omega) (two p q t rfl)
  ·rw[StrLaws.partsBetween_eq]
   exact zg8 hy ps 0 _ f ne h (Nat.zero_le _) fr hG hn
def zbS (y:List Nat):Nat→List Nat→List Nat→List (List Nat)
 | 0,a,_=>[a]
 | _+1,a,[]=>[a]
 | n+1,a,c :: t=>if pre y (c :: t)=true then a :: zbS y n [] ((c :: t).drop y.length) else zbS y n (a++[c]) t
def cut (y l:List Nat):List (List Nat):=zbS y (l.length+1) [] l
theorem zgW (y:List Nat):∀(n:Nat) (a l:List Nat),∃ p ps,zbS y n a l=p :: ps
 | 0,a,_=>⟨a,[],rfl⟩
 | _+1,a,[]=>⟨a,[],rfl⟩
 | n+1,a,c :: t=>by
  simp only[zbS]
  split
  ·exact⟨_,_,rfl⟩
  ·exact zgW y n _ _
theorem zlc (y p:List Nat) {ps:List (List Nat)} (h:ps≠[]):jn y (p :: ps)=p++y++jn y ps:=by
 cases ps with
 | nil=>exact absurd rfl h
 | cons q r=>rfl
theorem zkk {y p:List Nat} {ps:List (List Nat)} (h:ps≠[]) (h1:∀ i r,i < p.length→(p++y++jn y ps).drop i≠y++r) (h2:Fre y ps):Fre y (p :: ps):=by
 cases ps with
 | nil=>exact absurd rfl h
 | cons q r=>exact⟨h1,h2⟩
theorem zhF {y' r l:List Nat} {i:Nat} (h:l.length≤i):l.drop i≠32 :: y'++r:=by
 rw[List.drop_eq_nil_of_le h]
 simp
theorem pre_eq {y l:List Nat} (h:pre y l=true):l=y++l.drop y.length:=by
 obtain⟨t,e⟩:=zdp.mp h
 rw[e,List.drop_left' rfl]
theorem zgV {W:List Nat} (g:GW W) {y':List Nat} (n1:98∉(32 :: y')) (n2:64∉(32 :: y')):∀(n:Nat) (a l:List Nat),l.length < n→(∀ i r,i < (sub W a).length→(sub W a++sub W l).drop i≠32 :: y'++r) →
  jn (32 :: y') ((zbS (32 :: y') n a l).map (sub W))=sub W a++sub W l∧Fre (32 :: y') ((zbS (32 :: y') n a l).map (sub W))
 | 0,a,l,h,_=>absurd h (by omega)
 | n+1,a,[],h,hf=>by
  have e:sub W []=[]:=rfl
  simp only[zbS,List.map_cons,List.map_nil,jn,Fre,e,List.append_nil]at hf ⊢
  refine⟨trivial,fun i r=>?_⟩
  by_cases hi:i < (sub W a).length
  ·exact hf i r hi
  ·exact zhF (by omega)
 | n+1,a,c :: t,h,hf=>by
  obtain⟨p1,p2⟩:=zdo g (l:=c :: t) n1 n2
  simp only[zbS]
  by_cases hp:pre (32 :: y') (c :: t)=true
  ·rw[if_pos hp]
   have hs:sub W (c :: t)=(32 :: y')++sub W ((c :: t).drop (32 :: y').length):=by
    rw[←p2 hp]
    exact pre_eq (by rw[p1];exact hp)
   have lt:((c :: t).drop (32 :: y').length).length < n:=by
    rw[List.length_drop]
    simp only[List.length_cons]at h ⊢
    omega
   obtain⟨i1,i2⟩:=zgV g n1 n2 n [] ((c :: t).drop (32 :: y').length) lt (fun i r hi=>absurd hi (by simp [sub]))
   obtain⟨q,qs,eq⟩:=zgW (32 :: y') n [] ((c :: t).drop (32 :: y').length)
   have e0:sub W []=[]:=rfl
   rw[e0,List.nil_append]at i1
   have ne:((zbS (32 :: y') n [] ((c :: t).drop (32 :: y').length)).map (sub W))≠[]:=by rw[eq];simp
   rw[List.map_cons]
   refine⟨?_,zkk ne (fun i r hi=>?_) i2⟩
   ·rw[zlc _ _ ne,i1,hs,List.append_assoc]
   ·rw[i1,List.append_assoc,←hs]
    exact hf i r hi
  ·rw[if_neg hp]
   have hp':pre (32 :: y') (sub W (c :: t))=false:=by rw[p1];exact Bool.eq_false_iff.mpr hp
   have ea:sub W (a++[c])++sub W t=sub W a++sub W (c :: t):=by
    rw[zaH,List.append_assoc,←zaH]
    rfl
   have:=zgV g n1 n2 n (a++[c]) t (by simp only[List.length_cons]at h;omega) (fun i r hi=>?_)
   ·rw[ea]at this
    exact this
   rw[ea]
   by_cases hi2:i < (sub W a).length
   ·exact hf i r hi2
   intro e
   have e2:(sub W (c :: t)).drop (i - (sub W a).length)=32 :: y'++r:=by
    rw[List.drop_append]at e
    rw[List.drop_eq_nil_of_le (by omega),List.nil_append]at e
    exact e
   rw[zaH,List.length_append]at hi
   by_cases hc:c=64
   ·have e3:sub W (c :: t)=W++sub W t:=by simp [sub,hc]
    have hw:(sub W [c]).length=W.length:=by simp [sub,hc]
    rw[hw]at hi
    have hj:i - (sub W a).length < W.length:=by omega
    rw[e3,List.drop_append_of_le_length (by omega)]at e2
    have hm:W[i - (sub W a).length]=32:=by
     rw[List.drop_eq_getElem_cons hj]at e2
     exact(List.cons.inj e2).1
    have:=zbY.mp (g.ab _ (List.getElem_mem hj))
    omega
   ·have hw:(sub W [c]).length=1:=by simp [sub,hc]
    rw[hw]at hi
    have e0:i - (sub W a).length=0:=by omega
    rw[e0,List.drop_zero]at e2
    rw[zdp.mpr ⟨r,e2⟩]at hp'
    cases hp'
theorem zf3 {W:List Nat} (g:GW W) {y x:Str} {y' l:List Nat} (hy:cp y=32 :: y') (n1:98∉cp y) (n2:64∉cp y) (hk:Builtin.Str.strKind y=1) (hx:cp x=sub W l):Txt.split x y=(cut (cp y) l).map fun p=>nmS (sub W p):=by
 rw[hy]at n1 n2
 obtain⟨e1,e2⟩:=zgV g n1 n2 (l.length+1) [] l (Nat.lt_succ_self _) (fun i r hi=>absurd hi (by simp [sub]))
 obtain⟨q,qs,eq⟩:=zgW (32 :: y') (l.length+1) [] l
 have em:((cut (cp y) l).map fun p=>nmS (sub W p)).map cp=(cut (cp y) l).map (sub W):=by
  rw[List.map_map]
  exact List.map_congr_left fun p _=>zaN _
 refine zjS ?_ hk ?_ ?_ ?_
 ·rw[←av,hy];simp
 ·rw[hy]
  unfold cut
  rw[eq]
  simp
 ·rw[em,hy,hx]
  exact e1.symm
 ·rw[em,hy]
  exact e2
inductive PA where
 | plain (z:Str)
 | same (t u:Tr)
structure Prt where
 n:Bool
 a:PA
def dPA:PA→Dt
 | .plain z=>.tup [.str "plain",.str z]
 | .same t u=>.tup [.str "same",dTr t,dTr u]
def dPt (p:Prt):Dt:=.tup [.bl (!p.n),dPA p.a]
theorem zi8 (a:PA):nol (dPA a)=true:=by
 cases a with
 | plain z=>rfl
 | same t u=>simp only[dPA,nol,zbf,nol_dTr,Bool.and_self]
theorem zi7 (p:Prt):nol (dPt p)=true:=by simp only[dPt,nol,zbf,zi8,Bool.and_self]
theorem zbC:∀ r:List Prt,zbf (r.map dPt)=true
 | []=>rfl
 | p :: r=>by simp only[List.map_cons,zbf,zi7,zbC r,Bool.and_self]
def sPA (W:List Nat):PA→PA
 | .plain z=>.plain (sN W z)
 | .same t u=>.same (sT W t) (sT W u)
def sPt (W:List Nat) (p:Prt):Prt:=⟨p.n,sPA W p.a⟩
def sEq:List Nat:=[32,61,32]
def sOr:List Nat:=[32,111,114,32]
def sNot:List Nat:=[110,111,116,32]
def ze9:List Nat:=[110,111,116,32,61,32]
def sNev:List Nat:=[110,101,118,101,114]
def zgp (l:List Nat):Bool:=!l.isEmpty&&l.all isW
def ftT (l:List Nat):Option Tr:=match zaW 20 l with
 | none=>none
 | some (t,r)=>if r=[] then some t else none
def two (l:List (List Nat)):Option PA:=match l with
 | [a,b]=>(match ftT a with
  | none=>none
  | some t=>match ftT b with
   | none=>none
   | some u=>some (.same t u))
 | _=>none
def faT (l:List Nat):Option PA:=if zgp l=true then some (.plain (nmS l)) else two (cut sEq l)
def fpT (l:List Nat):Option Prt:=if pre sNot l=true∧pre ze9 l=false then(faT (l.drop 4)).map fun a=>⟨true,a⟩ else(faT l).map fun a=>⟨false,a⟩
def zcI:List (List Nat)→Option (List Prt)
 | []=>some []
 | l :: ls=>match fpT l with
  | none=>none
  | some p=>(zcI ls).map fun ps=>p :: ps
def frT (l:List Nat):Option (List Prt):=if l=sNev then some [] else zcI (cut sOr l)
theorem zgY {W:List Nat} (g:GW W):∀ l:List Nat,((sub W l).all fun c=>isL ⟨#[c]⟩)=l.all isW
 | []=>rfl
 | c :: l=>by
  have ih:=zgY g l
  simp only[sub]
  by_cases hc:c=64
  ·rw[if_pos hc,List.all_append,ih,List.all_cons]
   have h1:(W.all fun c=>isL ⟨#[c]⟩)=true:=by
    rw[List.all_eq_true]
    intro d hd
    rw[zes]
    exact decide_eq_true (zbY.mp (g.ab d hd))
   have h2:isW c=true:=zcG.mpr (.inl hc)
   rw[h1,h2]
  ·rw[if_neg hc,List.all_cons,List.all_cons,ih,zes]
   congr 1
   cases e:isW c with
   | true=>exact decide_eq_true ((zcG.mp e).resolve_left hc)
   | false=>exact decide_eq_false fun z=>by rw[zcG.mpr (.inr z)]at e;cases e
theorem zhJ {W:List Nat} (g:GW W) {l:List Nat}:sub W l=sNev↔l=sNev:=by
 refine⟨fun h=>?_,fun h=>by rw[h];exact zaA W (by decide)⟩
 by_cases hm:64∈l
 ·exfalso
  obtain⟨u,v,e⟩:=List.append_of_mem hm
  obtain⟨t,ht⟩:=g.hd
  have:98∈sub W l:=by
   rw[e,zaH]
   simp [sub,ht]
  rw[h]at this
  exact absurd this (by decide)
 ·rw[zaA W hm]at h
  exact h
end C06
namespace C06
open PySem L2
open F06 (Tr dTr zaK dp dps nols_dTrs nol_dTr szM ap)
theorem zfu {x y:Str}:Txt.startswith x y=pre (cp y) (cp x):=by
 have h:Txt.startswith x y=true↔pre (cp y) (cp x)=true:=by
  rw[zdp]
  unfold Txt.startswith
  rw[Bool.and_eq_true,decide_eq_true_eq,StrLaws.subAt_eq,beq_iff_eq]
  have lx:=av x
  have ly:=av y
  show(0+y.length≤x.length∧((cp x).drop 0).take y.length=cp y)↔_
  rw[List.drop_zero,Nat.zero_add]
  constructor
  ·rintro ⟨h1,h2⟩
   exact⟨(cp x).drop y.length,by rw[←h2,List.take_append_drop]⟩
  ·rintro ⟨t,e⟩
   have l:=congrArg List.length e
   rw[List.length_append,lx,ly]at l
   exact⟨by omega,by rw[e,←ly,List.take_left' rfl]⟩
 cases e:pre (cp y) (cp x) with
 | true=>exact h.mpr e
 | false=>exact Bool.eq_false_iff.mpr fun z=>by rw[h.mp z]at e;cases e
theorem ziz {x:Str} {j:Int} (h0:0≤j):cp (Txt.slice x (some j) none)=(cp x).drop j.toNat:=by
 unfold cp
 by_cases h:j≤x.length
 ·rw[PyProof.Rows.slice_from_eq h0 h rfl]
  show(x.cps.toList.drop j.toNat).take ((x.length:Int) - j).toNat=_
  rw[List.take_of_length_le]
  rw[List.length_drop,show x.cps.toList.length=x.length from av x]
  omega
 ·rw[PyProof.Rows.slice_beyond (by omega),List.drop_eq_nil_of_le (by rw[show x.cps.toList.length=x.length from av x];omega)]
  rfl
theorem zku {W l:List Nat} (g:GW W) {s:Str} (h:cp s=sub W l):K06.wordB s=zgp l:=by
 unfold K06.wordB zgp
 have e1:((K06.lets s).all id)=l.all isW:=by
  rw[←zgY g l,←h]
  unfold K06.lets
  rw[List.all_map]
  rfl
 have e2:decide ((0:Int) < (s.length:Int))=!l.isEmpty:=by
  have hl:s.length=(sub W l).length:=by rw[←h,av]
  cases l with
  | nil =>
   have:s.length=0:=by rw[hl];rfl
   rw[this]
   rfl
  | cons c t =>
   have:sub W (c :: t)≠[]:=fun e=>by cases (zdl g).mp e
   have:=List.length_pos_iff.mpr this
   exact decide_eq_true (by omega)
 rw[e1,e2]
structure Lw (s:Str):Prop where
 ln:s.length≤1000
 lo:∀ c∈cp s,c < 1000
theorem Lw.repr {z:Str} (h:Lw z):(reprText z).length≤200002:=by
 have:=StrLaws.reprText_len z fun c hc=>Nat.lt_of_lt_of_le (h.lo c hc) (by decide)
 have:=h.ln
 omega
structure RT (l:List Nat):Prop where
 n0:0∉l
 ln:l.length≤150
 ct:l.count 64≤40
 lo:∀ c∈l,c < 1000
theorem RT.sub {l m:List Nat} (h:RT l) (s:m.Sublist l):RT m:=⟨fun z=>h.n0 (s.subset z),Nat.le_trans s.length_le h.ln,Nat.le_trans (s.count_le _) h.ct,fun c hc=>h.lo c (s.subset hc)⟩
theorem RT.drop {l:List Nat} (h:RT l) (n:Nat):RT (l.drop n):=h.sub (List.drop_sublist _ _)
theorem sub_len2 {W:List Nat} (g:GW W):∀ l:List Nat,(C06.sub W l).length≤l.length+6 * l.count 64
 | []=>by simp [C06.sub]
 | c :: l=>by
  have ih:=sub_len2 g l
  have:=g.ln
  simp only[C06.sub]
  by_cases hc:c=64
  ·subst hc
   rw[if_pos rfl,List.length_append,List.length_cons,List.count_cons_self]
   omega
  ·rw[if_neg hc,List.length_cons,List.length_cons,List.count_cons_of_ne (by simpa using hc)]
   omega
theorem zgw {W:List Nat} (g:GW W):∀ {l:List Nat},(∀ c∈l,c < 1000)→∀ c∈C06.sub W l,c < 1000
 | [],_,c,hc=>by cases hc
 | d :: l,h,c,hc=>by
  simp only[C06.sub]at hc
  by_cases e:d=64
  ·rw[if_pos e]at hc
   rcases List.mem_append.mp hc with z | z
   ·have:=zbY.mp (g.ab c z);omega
   ·exact zgw g (fun c hc=>h c (List.mem_cons_of_mem _ hc)) c z
  ·rw[if_neg e]at hc
   rcases List.mem_cons.mp hc with rfl | z
   ·exact h c (by simp)
   ·exact zgw g (fun c hc=>h c (List.mem_cons_of_mem _ hc)) c z
theorem RT.lw {W l:List Nat} (g:GW W) (h:RT l) {s:Str} (e:cp s=C06.sub W l):Lw s:=by
 refine⟨?_,by rw[e];exact zgw g h.lo⟩
 rw[←av,e]
 have:=sub_len2 g l
 have:=h.ln
 have:=h.ct
 omega
theorem zfS {y:List Nat}:∀(n:Nat) (a l:List Nat),∀ p∈zbS y n a l,p.Sublist (a++l)
 | 0,a,l,p,h=>by
  rw[List.mem_singleton.mp h]
  exact List.sublist_append_left _ _
 | _+1,a,[],p,h=>by
  rw[List.mem_singleton.mp h]
  exact List.sublist_append_left _ _
 | n+1,a,c :: t,p,h=>by
  simp only[zbS]at h
  split at h
  ·rcases List.mem_cons.mp h with rfl | h
   ·exact List.sublist_append_left _ _
   ·have:=zfS n [] _ p h
    rw[List.nil_append]at this
    exact(this.trans (List.drop_sublist _ _)).trans (List.sublist_append_right _ _)
  ·have:=zfS n _ _ p h
   rw[List.append_assoc]at this
   exact this
theorem RT.cut {y l:List Nat} (h:RT l) {p:List Nat} (hp:p∈C06.cut y l):RT p:=by
 have:=zfS _ _ _ p hp
 exact h.sub this
theorem zfT {y:List Nat}:∀(n:Nat) (a l:List Nat),(zbS y n a l).length≤n+1
 | 0,_,_=>Nat.le_refl _
 | _+1,_,[]=>by simp [zbS]
 | n+1,a,c :: t=>by
  simp only[zbS]
  split
  ·have:=zfT (y:=y) n [] ((c :: t).drop y.length)
   rw[List.length_cons]
   omega
  ·have:=zfT (y:=y) n (a++[c]) t
   omega
structure TxF (K:PySem.W.Frag) (mg:Str→Option Value) (CU:Addr):Prop where
 br:∃ t,mg "MOST_BRACKETS"=some (.int 20 t)
 cu:mg "Cursor"=some (.ref CU)
section
variable {P:Program} {w:World} {K:PySem.W.Frag} {mg:Str→Option Value} {base:Heap} {W:List Nat} {CU CN CB:Addr} {f fI fT fO fW fA fP:Addr} {fd dI dT' dO dW dA' dP:FuncData}
theorem ziZ {E:XK} {i:Nat} {s z:Str} {D:zaM} {σ:St} {H:Hp} (hs:s.length≤1000) (hi:σ[i]?=some (some (.str z))) (lw:Lw z) (he:E (.ref CN) none H):ziS E CN (zee (zhI (zir (tRepr (zdK i)) (zir (tC (.str s)) jNil))) tNil) D σ H:=by
 have hr:=lw.repr
 have c0:Str.empty.length=0:=rfl
 refine⟨_,hi,z,rfl,szM (by omega),_,rfl,szM (by rw[ap,c0];omega),_,rfl,szM (by simp only[ap,c0];omega),szM (by simp only[ap,c0];omega),(by show 1≤sizeLine;decide),he⟩
inductive zeL (W:List Nat) (K:PySem.W.Frag) (CN:Addr):Sp | mk {vs H Q E} (s:Str) (l:List Nat):vs=[.str s]→cp s=sub W l→RT l→(ftT l=none→∀ H',ao H H'→E (.ref CN) none H')→(∀ t,ftT l=some t→∀(H':Hp) (v:V),ao H H'→Has K H' (dTr (sT W t)) v→Q v H')→zeL W K CN vs H Q E
theorem zch:zaa ["text","cursor","tree"] ["text"] (ad s_formed_tree):=⟨rfl,rfl,rfl,by decide +kernel,rfl,by decide +kernel,by decide +kernel⟩
theorem ok_ftree (gw:GW W) (F:Fun K "formed_tree" "formed_tree" s_formed_tree f fd) (Z:TxC K mg CU) (TN:TxN K mg CN CB) (TF:TxF K mg CU) (mI:Mk K CU fI) (oI:FnOk P w K mg base CX0 1 fI dI ["self","text"] (zeN CU)) (bI:au K dI ["self","text"] [])
  (oT:FnOk P w K mg base (CX1 P w) 44 fT dT' ["self","brackets"] (sp_tree W K CU CN 20)) (bT:au K dT' ["self","brackets"] []) (mT:zbp K CU "take_tree" fT) (oO:FnOk P w K mg base CX0 1 fO dO ["self"] (zeh CU)) (bO:au K dO ["self"] []) (mO:zbp K CU "is_over" fO):FnOk P w K mg base (CX1 P w) 45 f fd ["text"] (zeL W K CN):=by
 refine Fun.okX F zch (fun vs H Q E h=>?_) (fun cdv A outer s0 H vs Q E hr h=>?_)
 ·obtain⟨s,t,rfl,_⟩:=h
  rfl
 obtain⟨z,l,rfl,hc,rt,qE,q⟩:=h
 have hr1:zai 1 _:=hr.mono (by decide)
 have hr2:zai 2 _:=hr.mono (by decide)
 obtain⟨t1,e1⟩:=TF.br
 have lw:=rt.lw gw hc
 have lz:=lw.ln
 refine⟨_,(aj (zar (i:=1) zch.nd rfl (Or.inl rfl) (zkU mI oI hr2 rfl TF.cu bI .nil zaz (aa (pv 0) ac)))
  (aj (zar (i:=2) zch.nd rfl (Or.inl rfl) (zaZ (pv 1) Z.cl mT oT hr bT .nil (zau xe1) (aa (za0 (v:=.int 20) rfl e1 ⟨_,rfl⟩) ac)))
  (aj (zaD (zb3 (zbr (zeZ (pv 1) Z.cl mO oO hr1 bO .nil zaz)))
   (ae (za1 (C:=CN) xe1 rfl rfl TN.np PySem.F.excBase_ValueError TN.xn (aa (za9 (zaq (zgN (pv 0)) (zaq ak zbz))) ac)))
   zag)
  (ae (zab (pv 2)))))),?_⟩
 refine⟨_,rfl,fun c dx hc0 hdx ne=>⟨c,dx,z,rfl,ag,by omega,fun H1 C1 f1=>⟨rfl,?_⟩⟩⟩
 have s1:∀ {H'},FrC H1 H' c→ao H H':=fun {H'} f2 b o e=>by
  have nb:b≠c:=fun x=>by rw[x,hc0]at e;cases e
  have nd:b≠dx:=fun x=>by rw[x,hdx]at e;cases e
  exact f2 b o (f1 b o (by rw[ai nb,ai nd];exact e) nb) nb
 have A1:At W CU H1 c z l:=⟨0,C1,by rw[List.drop_zero,hc],rt.n0⟩
 obtain⟨⟨dx1,hc1⟩,_⟩:=id C1
 unfold ftT at qE q
 refine⟨_,rfl,c,dx1,_,rfl,hc1,zcU _ _,c,z,l,rfl,A1,fun e H2 f2=>qE (by rw[e]) H2 (s1 f2),fun t r et H2 v A2 f2 h2=>?_⟩
 rw[et]at qE q
 dsimp only at qE q
 obtain⟨i2,C2,d2,_⟩:=id A2
 obtain⟨⟨dx2,hc2⟩,i2l,_⟩:=id C2
 refine⟨_,rfl,c,dx2,_,rfl,hc2,zfz _ _,c,z,i2,rfl,C2,_,rfl,?_⟩
 by_cases r0:r=[]
 ·have ei:i2=z.length:=by
   have e:=congrArg List.length d2
   rw[r0,List.length_drop,av]at e
   simp only[sub,List.length_nil]at e
   omega
  rw[decide_eq_true ei]
  exact zaX ⟨_,rfl,q t (if_pos r0) H2 v (s1 f2) h2⟩
 ·have ei:¬i2=z.length:=fun e=>by
   have e2:=congrArg List.length d2
   rw[e,List.length_drop,av,Nat.sub_self]at e2
   exact r0 ((zdl gw).mp (List.length_eq_zero_iff.mp e2.symm))
  rw[decide_eq_false ei]
  exact za7 (ziZ (by decide +kernel) rfl lw (qE (if_neg r0) H2 (s1 f2)))
inductive zdA (W:List Nat) (K:PySem.W.Frag) (CN:Addr):Sp | mk {vs H Q E} (s:Str) (l:List Nat):vs=[.str s]→cp s=sub W l→RT l→(faT l=none→∀ H',ao H H'→E (.ref CN) none H')→(∀ a,faT l=some a→∀(H':Hp) (v:V),ao H H'→Has K H' (dPA (sPA W a)) v→Q v H')→zdA W K CN vs H Q E
theorem zdu:zaa ["text","sides"] ["text"] (ad s_formed_atom):=⟨rfl,rfl,rfl,by decide +kernel,rfl,by decide +kernel,by decide +kernel⟩
theorem c_eq:cp " = "=sEq:=by decide +kernel
set_option maxHeartbeats 1000000 in
theorem ok_fatom (gw:GW W) (F:Fun K "formed_atom" "formed_atom" s_formed_atom f fd) (Z:TxC K mg CU) (TN:TxN K mg CN CB) (BW:FB P w K mg base CX0 1 "is_word" fW dW ["text"] K06.spIsWord) (BT:FB P w K mg base (CX1 P w) 45 "formed_tree" fT dT' ["text"] (zeL W K CN)):FnOk P w K mg base (CX1 P w) 46 f fd ["text"] (zdA W K CN):=by
 refine Fun.okX F zdu (fun vs H Q E h=>?_) (fun cdv A outer s H vs Q E hr h=>?_)
 ·obtain⟨s,a,rfl,_⟩:=h
  rfl
 obtain⟨z,l,rfl,hc,rt,qE,q⟩:=h
 have lw:=rt.lw gw hc
 have lz:=lw.ln
 have hr1:zai 1 _:=hr.mono (by decide)
 refine⟨_,(aj (zaD (zbr (zad BW.ok hr1 rfl BW.m BW.kp BW.b .nil zaz (aa (pv 0) ac)))
   (ae (zab (zbA (aa ak (aa (pv 0) ac)))))
   zag)
  (aj (zar (i:=1) zdu.nd rfl (Or.inl rfl) (zbk PySem.F.plainAttrs_str PySem.F.slot_str_split PySem.F.type_str_split ze3 (pv 0) (aa ak ac)))
  (aj (zaD (zal op_ne (zaw zaB rfl Z.len PySem.boot_len (aa (pv 1) ac)) ah (zas _))
   (ae (za1 (C:=CN) xe1 rfl rfl TN.np PySem.F.excBase_ValueError TN.xn (aa (za9 (zaq (zgN (pv 0)) (zaq ak zbz))) ac)))
   zag)
  (ae (zab (zbA (aa ak (aa (zad BT.ok hr rfl BT.m BT.kp BT.b .nil (zau xe1) (aa (zaJ zaT (pv 1) ah (fun _ _=>rfl)) ac)) (aa (zad BT.ok hr rfl BT.m BT.kp BT.b .nil (zau xe1) (aa (zaJ zaT (pv 1) ah (fun _ _=>rfl)) ac)) ac))))))))),?_⟩
 refine⟨_,rfl,z,rfl,by omega,fun H1 s1=>⟨_,rfl,?_⟩⟩
 rw[zku gw hc]
 unfold faT at qE q
 by_cases hw:zgp l=true
 ·rw[hw]
  rw[if_pos hw]at q
  have ez:z=sN W (nmS l):=zaO (by rw[hc,zfa,zaN])
  refine za7 ⟨_,rfl,lS2,fun p hp=>?_⟩
  refine q _ rfl _ _ (s1.trans (zae hp _)) ?_
  rw[ez]
  exact Has.tup' (SqT.of ag) (.cons Has.str' (.cons Has.str' .nil))
 ·rw[Bool.eq_false_iff.mpr hw]
  rw[if_neg hw]at qE q
  have es:=zf3 gw (y:=" = ") c_eq (by decide +kernel) (by decide +kernel) (by decide +kernel) hc
  refine zaX ⟨_,rfl,rfl,z,_,rfl,rfl,(by decide +kernel),by omega,fun p hp=>?_⟩
  rw[es,c_eq]
  have s2:=zae hp (.lst (((cut sEq l).map fun p=>nmS (sub W p)).map V.str))
  have n2:=ag (H:=H1) (a:=p) (o:=.lst (((cut sEq l).map fun p=>nmS (sub W p)).map V.str))
  generalize upd H1 p (.lst (((cut sEq l).map fun p=>nmS (sub W p)).map V.str))=H2 at s2 n2
  have s02:=s1.trans s2
  have rc:∀ p∈cut sEq l,RT p:=fun p hp=>rt.cut hp
  generalize cut sEq l=ls at n2 qE q rc
  refine⟨_,rfl,p,_,rfl,.inl (SqL.of n2),rfl,_,rfl,zay (fun c=>?_) (fun c=>?_)⟩
  ·refine ziZ (by decide +kernel) rfl lw (qE ?_ H2 s02)
   have hl:¬ls.length=2:=fun e=>absurd c (by simp [e])
   unfold two
   split
   ·exact absurd rfl hl
   ·rfl
  ·have hl:ls.length=2:=Classical.byContradiction fun e=>c (by simp;omega)
   obtain⟨u,v,rfl⟩:∃ u v,ls=[u,v]:=by
    match ls,hl with
    | [u,v],_=>exact⟨u,v,rfl⟩
   unfold two at qE q
   dsimp only at qE q
   refine⟨_,rfl,p,_,_,_,rfl,rfl,SqL.of n2,zax (j:=0) rfl,_,u,rfl,zaN _,rc u (by simp),fun e H3 s3=>qE (by rw[e]) H3 (s02.trans s3),fun t et H3 v3 s3 h3=>?_⟩
   rw[et]at qE q
   dsimp only at qE q
   refine⟨_,rfl,p,_,_,_,rfl,rfl,SqL.of (s3 _ _ n2),zax (j:=1) rfl,_,v,rfl,zaN _,rc v (by simp),fun e H4 s4=>qE (by rw[e]) H4 ((s02.trans s3).trans s4),fun t2 et2 H4 v4 s4 h4=>?_⟩
   rw[et2]at q
   dsimp only at q
   refine⟨lS3,fun l hl=>?_⟩
   have s5:=zae hl (.tup [V.str "same",v3,v4])
   exact q _ rfl _ _ (s02.trans (s3.trans (s4.trans s5))) (Has.tup' (SqT.of ag) (.cons Has.str' (.cons (h3.keep (s4.trans s5).kt (nol_dTr _)) (.cons (h4.keep s5.kt (nol_dTr _)) .nil))))
inductive zeM (W:List Nat) (K:PySem.W.Frag) (CN:Addr):Sp | mk {vs H Q E} (s:Str) (l:List Nat):vs=[.str s]→cp s=sub W l→RT l→(fpT l=none→∀ H',ao H H'→E (.ref CN) none H')→(∀ p,fpT l=some p→∀(H':Hp) (v:V),ao H H'→Has K H' (dPt (sPt W p)) v→Q v H')→zeM W K CN vs H Q E
theorem zfV:zaa ["text"] ["text"] (ad s_formed_part):=⟨rfl,rfl,rfl,by decide +kernel,rfl,by decide +kernel,by decide +kernel⟩
theorem l_not:((("not ":Str)).length:Nat)=4:=by decide +kernel
theorem c_not:cp "not "=sNot:=by decide +kernel
theorem c_note:cp "not = "=ze9:=by decide +kernel
set_option maxHeartbeats 1000000 in
theorem ok_fpart (gw:GW W) (F:Fun K "formed_part" "formed_part" s_formed_part f fd) (Z:TxC K mg CU) (BA:FB P w K mg base (CX1 P w) 46 "formed_atom" fA dA' ["text"] (zdA W K CN)):FnOk P w K mg base (CX1 P w) 47 f fd ["text"] (zeM W K CN):=by
 refine Fun.okX F zfV (fun vs H Q E h=>?_) (fun cdv A outer s H vs Q E hr h=>?_)
 ·obtain⟨s,p,rfl,_⟩:=h
  rfl
 obtain⟨z,l,rfl,hc,rt,qE,q⟩:=h
 have lw:=rt.lw gw hc
 have lz:=lw.ln
 refine⟨_,(aj (zaD (PW.pt (zfk (zbr (zbk PySem.F.plainAttrs_str PySem.F.slot_str_startswith PySem.F.type_str_startswith zgb (pv 0) (aa ak ac))) (zen (zb3 (zbr (zbk PySem.F.plainAttrs_str PySem.F.slot_str_startswith PySem.F.type_str_startswith zgb (pv 0) (aa ak ac)))))))
   (ae (zab (zbA (aa zdx (aa (zad BA.ok hr rfl BA.m BA.kp BA.b .nil (zau xe1) (aa (zdC zgA (pv 0) (zdq (zaw zbD rfl Z.len PySem.boot_len (aa ak ac))) zfK) ac)) ac)))))
   zag)
  (ae (zab (zbA (aa zdx (aa (zad BA.ok hr rfl BA.m BA.kp BA.b .nil (zau xe1) (aa (pv 0) ac)) ac)))))),?_⟩
 have fin:∀ {n:Bool} {a:PA} {H1:Hp} {v1:V} {l':Addr},fpT l=some ⟨n,a⟩→ao H H1→Has K H1 (dPA (sPA W a)) v1→H1 l'=none→Q (.ref l') (upd H1 l' (.tup [V.bl (!n),v1])):=fun {n a H1 v1 l'} e s1 h1 hl=>by
  have s2:=zae hl (.tup [V.bl (!n),v1])
  exact q _ e _ _ (s1.trans s2) (Has.tup' (SqT.of ag) (.cons (by simp only[Has,sPt]) (.cons (h1.keep s2.kt (zi8 _)) .nil)))
 obtain⟨p1,p2⟩:=zdo gw (y:=sNot) (l:=l) (by decide) (by decide)
 obtain⟨p3,_⟩:=zdo gw (y:=ze9) (l:=l) (by decide) (by decide)
 have rest:¬(pre sNot l=true∧pre ze9 l=false)→tRet (tTup (zee (tC (.bl true)) (zee (tCall (zdA W K CN) [] E (zee (zdK 0) tNil)) tNil))) { nx:=fun _ H'=>Q .non H',rt:=Q } [some (.str z)] H:=fun hn=>by
  refine⟨_,rfl,z,l,rfl,hc,rt,fun e H1 s1=>qE (by unfold fpT;rw[if_neg hn,e];rfl) H1 s1,fun a e H1 v1 s1 h1=>⟨lS2,fun l' hl=>?_⟩⟩
  exact fin (n:=false) (a:=a) (by unfold fpT;rw[if_neg hn,e];rfl) s1 h1 hl
 refine⟨_,rfl,rfl,z,_,rfl,rfl,_,rfl,?_⟩
 rw[zfu,c_not,hc,p1]
 by_cases h1:pre sNot l=true
 ·rw[h1]
  refine za7 ⟨_,rfl,rfl,z,_,rfl,rfl,_,rfl,?_⟩
  rw[zfu,c_note,hc,p3]
  by_cases h2:pre ze9 l=true
  ·rw[h2]
   exact zaX (rest (fun z=>by rw[h2]at z;cases z.2))
  ·have h2':=Bool.eq_false_iff.mpr h2
   rw[h2']
   refine za7 ⟨_,rfl,_,rfl,F06.sz _ (by rw[l_not];decide),_,rfl,z,rfl,szM (by omega),?_⟩
   have es:cp (Txt.slice z (some (((("not ":Str)).length:Nat):Int)) none)=sub W (l.drop 4):=by
    rw[ziz (by omega),l_not,hc]
    exact p2 h1
   refine⟨_,l.drop 4,rfl,es,rt.drop 4,fun e H1 s1=>qE (by unfold fpT;rw[if_pos ⟨h1,h2'⟩,e];rfl) H1 s1,fun a e H1 v1 s1 hv=>⟨lS2,fun l' hl=>fin (n:=true) (a:=a) (by unfold fpT;rw[if_pos ⟨h1,h2'⟩,e];rfl) s1 hv hl⟩⟩
 ·rw[Bool.eq_false_iff.mpr h1]
  exact zaX (zaX (rest (fun z=>h1 z.1)))
end
end C06
namespace C06
open PySem L2
open F06 (Tr dTr zaK dp dps nols_dTrs nol_dTr szM ap)
theorem zjM {ls:List (List Nat)} {ps:List Prt} {i:Nat} {l:List Nat} {p:Prt}:ls[i]?=some l→zcI (ls.take i)=some ps→fpT l=some p→zcI (ls.take (i+1))=some (ps++[p]):=by
 induction ls generalizing i ps with
 | nil=>intro h;simp at h
 | cons a ls ih =>
  intro h h1 h2
  cases i with
  | zero =>
   simp at h
   subst h
   simp only[List.take_zero,zcI]at h1
   cases h1
   simp [zcI,h2]
  | succ i =>
   simp only[List.getElem?_cons_succ]at h
   simp only[List.take_succ_cons,zcI]at h1 ⊢
   cases ea:fpT a with
   | none=>rw[ea]at h1;cases h1
   | some pa =>
    rw[ea]at h1
    dsimp only at h1 ⊢
    obtain⟨qs,e1,e2⟩:=Option.map_eq_some_iff.mp h1
    rw[ih h e1 h2,←e2]
    rfl
theorem zjN {ls:List (List Nat)} {l:List Nat} (h:l∈ls) (e:fpT l=none):zcI ls=none:=by
 induction ls with
 | nil=>cases h
 | cons a ls ih =>
  rcases List.mem_cons.mp h with rfl | h
  ·simp [zcI,e]
  ·simp only[zcI]
   cases fpT a with
   | none=>rfl
   | some p=>rw[ih h];rfl
section
variable {P:Program} {w:World} {K:PySem.W.Frag} {mg:Str→Option Value} {base:Heap} {W:List Nat} {CU CN CB:Addr} {f fP:Addr} {fd dP:FuncData}
inductive zei (W:List Nat) (K:PySem.W.Frag) (CN:Addr):Sp | mk {vs H Q E} (s:Str) (l:List Nat):vs=[.str s]→cp s=sub W l→RT l→(frT l=none→∀ H',ao H H'→E (.ref CN) none H')→(∀ r,frT l=some r→∀(H':Hp) (p:Addr) (xs:List V),ao H H'→H p=none→H' p=some (.lst xs)→aq K H' (r.map fun x=>dPt (sPt W x)) xs→Q (.ref p) H')→zei W K CN vs H Q E
theorem zgn:zaa ["text"] ["text"] (ad s_formed_row):=⟨rfl,rfl,rfl,by decide +kernel,rfl,by decide +kernel,by decide +kernel⟩
theorem c_or:cp " or "=sOr:=by decide +kernel
theorem c_nev:cp "never"=sNev:=by decide +kernel
theorem zf9 (W:List Nat) (r:List Prt):zbf (r.map fun x=>dPt (sPt W x))=true:=by
 have:=zbC (r.map (sPt W))
 rw[List.map_map]at this
 exact this
set_option maxHeartbeats 1000000 in
theorem ok_frow (gw:GW W) (F:Fun K "formed_row" "formed_row" s_formed_row f fd) (BP:FB P w K mg base (CX1 P w) 47 "formed_part" fP dP ["text"] (zeM W K CN)):FnOk P w K mg base (CX1 P w) 48 f fd ["text"] (zei W K CN):=by
 refine Fun.okX F zgn (fun vs H Q E h=>?_) (fun cdv A outer s H vs Q E hr h=>?_)
 ·obtain⟨s,r,rfl,_⟩:=h
  rfl
 obtain⟨z,l,rfl,hc,rt,qE,q⟩:=h
 have lw:=rt.lw gw hc
 have lz:=lw.ln
 refine⟨_,(aj (zaD (zal zbc (pv 0) ak (zas _))
   (ae (zab (za8 ac)))
   zag)
  (ae (zab (zi4 (N':=["part"]) (ix:=[]) xe1 rfl rfl (by decide +kernel) (by decide +kernel) rfl (fun _=>⟨[],zcQ (by decide +kernel) (by decide +kernel)⟩) (by decide +kernel) rfl rfl (fun j i h=>by simp at h) (zcF (zbk PySem.F.plainAttrs_str PySem.F.slot_str_split PySem.F.type_str_split ze3 (pv 0) (aa ak ac))) (fun _ _ _ _ _ hp=>(zad BP.ok hr rfl BP.m BP.kp BP.b .nil hp (aa (pv 0) ac))))))),?_⟩
 unfold frT at qE q
 refine⟨_,rfl,rfl,_,rfl,zay (fun c=>?_) (fun c=>?_)⟩
 ·have e:z="never":=by
   have:=of_decide_eq_true c
   injection this
  have el:l=sNev:=(zhJ gw).mp (by rw[←hc,e,c_nev])
  rw[if_pos el]at q
  exact⟨lS0,fun p hp=>q [] rfl _ p [] (zae hp _) hp ag aq.nil⟩
 ·have nl:l≠sNev:=fun e=>c (by
   have:z="never":=zaO (by rw[hc,c_nev];exact(zhJ gw).mpr e)
   rw[this]
   exact decide_eq_true rfl)
  rw[if_neg nl]at qE q
  have es:=zf3 gw (y:=" or ") c_or (by decide +kernel) (by decide +kernel) (by decide +kernel) hc
  refine⟨_,rfl,rfl,z,_,rfl,rfl,(by decide +kernel),by omega,fun p1 hp1=>?_⟩
  rw[es,c_or]
  have rc:∀ p∈cut sOr l,RT p:=fun p hp=>rt.cut hp
  have cl:(cut sOr l).length≤152:=by
   have:=zfT (y:=sOr) (l.length+1) [] l
   have:=rt.ln
   unfold cut
   omega
  generalize cut sOr l=ls at qE q rc cl
  have s1:=zae hp1 (.lst ((ls.map fun p=>nmS (sub W p)).map V.str))
  have n1:=ag (H:=H) (a:=p1) (o:=.lst ((ls.map fun p=>nmS (sub W p)).map V.str))
  generalize upd H p1 (.lst ((ls.map fun p=>nmS (sub W p)).map V.str))=H1 at s1 n1
  have xl:((ls.map fun p=>nmS (sub W p)).map V.str).length=ls.length:=by rw[List.length_map,List.length_map]
  refine⟨p1,rfl,⟨_,SqL.of n1⟩,fun D hD=>?_⟩
  refine zcv zcC (fun i us H'=>ao H1 H'∧∃ ps,zcI (ls.take i)=some ps∧aq K H' (ps.map fun x=>dPt (sPt W x)) us) (fun i us H' ⟨s',_⟩=>SqL.of (s' _ _ n1)) ⟨zae hD _,[],rfl,aq.nil⟩ ?_ ?_
  ·rintro i us H8 x H4 hi hly hDs ⟨s4,ps,eps,hus⟩ ⟨rfl,hx⟩
   have hx4:=hx _ (SqL.of (s4 _ _ n1))
   rw[List.map_map,List.getElem?_map]at hx4
   cases er:ls[i]? with
   | none=>rw[er]at hx4;cases hx4
   | some t =>
    rw[er]at hx4
    cases hx4
    have tm:=List.mem_of_getElem? er
    refine⟨_,rfl,_,t,rfl,zaN _,rc t tm,fun e H5 s5=>qE (zjN tm e) H5 ((s1.trans s4).trans s5),fun p ep H5 v5 s5 h5=>?_⟩
    refine zbH (F06.sz _ (by rw[xl];omega)) hi hly (s5 _ _ hDs) ⟨(s4.trans s5).upd hD,_,zjM er eps ep,?_⟩
    rw[List.map_append]
    have kt:=KeepT.but (o:=.lst (us++[v5])) (s5 _ _ hDs) (fun _ e=>by cases e) (fun _ _ e=>by cases e)
    exact((hus.keep s5.kt (zf9 _ _)).keep kt (zf9 _ _)).append (.cons (h5.keep kt (zi7 _)) .nil)
  ·rintro us H4 hDs ⟨s4,ps,eps,hus⟩
   rw[xl,List.take_length]at eps
   exact q _ eps _ D us (s1.trans s4) (s1.free hD) hDs hus
end
end C06
namespace C06
open PySem L2
open F06 (szM ap)
abbrev cl (x:Str):List Nat:=x.cps.toList
theorem zjp {a b:Str} (h:cl a=cl b):a=b:=Str.ext' (Array.toList_inj.mp h)
theorem zjq (a b:Str):cl (a++b)=cl a++cl b:=Array.toList_append
theorem ziy {x:Str} (h:1≤x.length):cl (Txt.slice x none (some (-1)))=(cl x).take (x.length - 1):=by
 have e:=eq_of_beq (PyProof.Rows.slice_closes_to_neg (x:=x) (j:=-1) (k:=-1+x.length) (by decide) (by omega) rfl)
 rw[e]
 have e2:(-1+(x.length:Int) - 0).toNat=x.length - 1:=by omega
 rw[e2]
 simp [cl]
theorem zhb {m:Nat}:∀ {a a' r r':List Nat},a++m :: r=a'++m :: r'→m∉a→m∉a'→a=a'∧r=r'
 | [],[],r,r',h,_,_=>⟨rfl,(List.cons.inj h).2⟩
 | [],y :: a',r,r',h,_,h2=>absurd (by rw[(List.cons.inj h).1];exact List.mem_cons_self ..) h2
 | x :: a,[],r,r',h,h1,_=>absurd (by rw[←(List.cons.inj h).1];exact List.mem_cons_self ..) h1
 | x :: a,y :: a',r,r',h,h1,h2=>by
  obtain⟨e1,e2⟩:=List.cons.inj h
  obtain⟨e3,e4⟩:=zhb e2 (fun z=>h1 (List.mem_cons_of_mem _ z)) (fun z=>h2 (List.mem_cons_of_mem _ z))
  exact⟨by rw[e1,e3],e4⟩
theorem zcc (c:Nat) (p q:Str) (r:List Str):cl (Str.join ⟨#[c]⟩ (p :: q :: r))=cl p++c :: cl (Str.join ⟨#[c]⟩ (q :: r)):=by
 show cl (p++⟨#[c]⟩++Str.join ⟨#[c]⟩ (q :: r))=_
 rw[zjq,zjq,List.append_assoc]
 rfl
theorem zhg {c:Nat}:∀ {ps qs:List Str},ps≠[]→qs≠[]→(∀ p∈ps,c∉cl p)→(∀ q∈qs,c∉cl q)→Str.join ⟨#[c]⟩ ps=Str.join ⟨#[c]⟩ qs→ps=qs
 | [],_,h,_,_,_,_=>absurd rfl h
 | _,[],_,h,_,_,_=>absurd rfl h
 | [p],[q],_,_,_,_,e=>by rw[show p=q from e]
 | [p],q :: q' :: r,_,_,hp,_,e=>by
  have e':cl p=cl (Str.join ⟨#[c]⟩ (q :: q' :: r)):=congrArg cl e
  rw[zcc]at e'
  exact absurd (by rw[e'];simp) (hp p (List.mem_cons_self ..))
 | p :: p' :: r,[q],_,_,_,hq,e=>by
  have e':cl (Str.join ⟨#[c]⟩ (p :: p' :: r))=cl q:=congrArg cl e
  rw[zcc]at e'
  exact absurd (by rw[←e'];simp) (hq q (List.mem_cons_self ..))
 | p :: p' :: r,q :: q' :: r',_,_,hp,hq,e=>by
  have e':=congrArg cl e
  rw[zcc,zcc]at e'
  obtain⟨e1,e2⟩:=zhb e' (hp p (List.mem_cons_self ..)) (hq q (List.mem_cons_self ..))
  rw[zjp e1,zhg (c:=c) (by simp) (by simp) (fun x hx=>hp x (List.mem_cons_of_mem _ hx)) (fun x hx=>hq x (List.mem_cons_of_mem _ hx)) (zjp e2)]
theorem zeH (x y:Str):Txt.split x y≠[]:=by
 unfold Txt.split
 split
 ·simp
 ·split
  ·simp
  ·rw[StrLaws.partsBetween_eq]
   obtain⟨p,r,e⟩:=StrLaws.partsFrom_ne x y.length 0 (Builtin.Str.occurrences x y 0 x.length (x.length+1))
   rw[e]
   simp
theorem ziw {c:Nat} {ps:List Str} (h:ps≠[]) (hf:∀ p∈ps,c∉cl p):Txt.split (Str.join ⟨#[c]⟩ ps) ⟨#[c]⟩=ps :=
 zhg (c:=c) (zeH _ _) h (StrLaws.split_free _ c) hf (StrLaws.join_split _ _)
theorem zjH (c:Nat):∀ {ps:List Str},ps≠[]→Str.join ⟨#[c]⟩ (ps++[Str.empty])=Str.join ⟨#[c]⟩ ps++⟨#[c]⟩
 | [],h=>absurd rfl h
 | [p],_=>Str.append_empty _
 | p :: q :: r,_=>by
  show p++⟨#[c]⟩++Str.join ⟨#[c]⟩ ((q :: r)++[Str.empty])=p++⟨#[c]⟩++Str.join ⟨#[c]⟩ (q :: r)++⟨#[c]⟩
  rw[zjH c (ps:=q :: r) (by simp),←Str.append_assoc]
theorem e10:("\n":Str)=⟨#[10]⟩:=by decide +kernel
theorem ew {t:Str} (h1:1≤t.length):PySem.Txt.endswith t "\n"=decide ((cl t)[t.length - 1]?=some 10):=by
 rw[e10]
 unfold PySem.Txt.endswith
 have h:=StrLaws.subAt_one t 10 (t.length - 1)
 rw[Bool.eq_iff_iff,Bool.and_eq_true,decide_eq_true_eq,decide_eq_true_eq,←h]
 refine⟨fun z=>⟨?_,z.2⟩,fun z=>⟨?_,z.2⟩⟩
 ·show t.length - 1+1≤t.length
  omega
 ·show 0+1≤t.length
  omega
theorem cl_cp (x:Str):cl x=cp x:=rfl
def zao (rs:List Str):List Nat:=rs.flatMap fun r=>cp r++[10]
theorem zfw:∀ {rs:List Str},rs≠[]→zao rs=cp (Str.join ⟨#[10]⟩ rs)++[10]
 | [],h=>absurd rfl h
 | [r],_=>by
  show cp r++[10]++[]=cp r++[10]
  simp
 | r :: q :: l,_=>by
  have ih:=zfw (rs:=q :: l) (by simp)
  have e:zao (r :: q :: l)=(cp r++[10])++zao (q :: l):=rfl
  have e2:cp (Str.join ⟨#[10]⟩ (r :: q :: l))=cp r++10 :: cp (Str.join ⟨#[10]⟩ (q :: l)):=zcc 10 r q l
  rw[e,ih,e2]
  simp
theorem zjR {s:Str} {rs:List Str} (ne:rs≠[]) (h:cp s=zao rs) (hf:∀ r∈rs,10∉cp r):1≤s.length∧PySem.Txt.endswith s "\n"=true∧PySem.Txt.split (PySem.Txt.slice s none (some (-1))) "\n"=rs:=by
 rw[zfw ne]at h
 have sl:=av s
 have l1:s.length=(cp (Str.join ⟨#[10]⟩ rs)).length+1:=by rw[←sl,h,List.length_append];rfl
 have h1:1≤s.length:=by omega
 refine⟨h1,?_,?_⟩
 ·rw[ew h1]
  refine decide_eq_true ?_
  show(cp s)[s.length - 1]?=some 10
  rw[h,List.getElem?_append_right (by omega),l1]
  simp
 ·have e:PySem.Txt.slice s none (some (-1))=Str.join ⟨#[10]⟩ rs:=by
   apply zaO
   have:=ziy h1
   rw[cl_cp,cl_cp]at this
   rw[this,h,List.take_append_of_le_length (by omega),List.take_of_length_le (by omega)]
  rw[e]
  exact ziw (c:=10) ne hf
def zb1 (W l:List Nat):Str:=nmS (sub W l)
theorem ziY {W:List Nat} (g:GW W) {l:List Nat} (h:10∉l):10∉sub W l:=by
 induction l with
 | nil=>exact h
 | cons d l ih =>
  have ih':=ih fun z=>h (List.mem_cons_of_mem _ z)
  simp only[sub]
  by_cases e:d=64
  ·rw[if_pos e]
   intro z
   rcases List.mem_append.mp z with z | z
   ·have:=zbY.mp (g.ab 10 z);omega
   ·exact ih' z
  ·rw[if_neg e]
   intro z
   rcases List.mem_cons.mp z with z | z
   ·exact h (by rw[z];simp)
   ·exact ih' z
section
variable {P:Program} {w:World} {K:PySem.W.Frag} {mg:Str→Option Value} {base:Heap} {W:List Nat} {CN CB:Addr} {f:Addr} {fd:FuncData}
inductive zfh (CN:Addr):Sp | mk {vs H Q E} (s:Str):vs=[.str s]→s.length≤1000000→(((∃ t,cp s=t++[98])∧∀ H',ao H H'→E (.ref CN) none H')∨∃ rs:List Str,cp s=zao rs∧(∀ r∈rs,10∉cp r)∧∀(H':Hp) (p:Addr),ao H H'→H p=none→H' p=some (.lst (rs.map V.str))→Q (.ref p) H')→zfh CN vs H Q E
theorem sc_trw:zaa ["text"] ["text"] (ad s_text_rows):=⟨rfl,rfl,rfl,by decide +kernel,rfl,by decide +kernel,by decide +kernel⟩
theorem ok_trw (F:Fun K "text_rows" "text_rows" s_text_rows f fd) (TN:TxN K mg CN CB):FnOk P w K mg base (CX1 P w) 1 f fd ["text"] (zfh CN):=by
 refine Fun.okX F sc_trw (fun vs H Q E h=>?_) (fun cdv A outer s0 H vs Q E hr h=>?_)
 ·obtain⟨z,rfl,_⟩:=h
  rfl
 obtain⟨z,rfl,lz,alt⟩:=h
 refine⟨_,(aj (zaD (zal zbc (pv 0) ak (zas _))
   (ae (zab (za8 ac)))
   zag)
  (aj (zaD (zb3 (zbr (zbk PySem.F.plainAttrs_str PySem.F.slot_str_endswith PySem.F.type_str_endswith zk9 (pv 0) (aa ak ac))))
   (ae (za1 (C:=CN) xe1 rfl rfl TN.np PySem.F.excBase_ValueError TN.xn (aa ak ac)))
   zag)
  (ae (zab (zbk PySem.F.plainAttrs_str PySem.F.slot_str_split PySem.F.type_str_split ze3 (zdC zgA (pv 0) zfK (zdq (pe_un ziO ah))) (aa ak ac)))))),?_⟩
 have c0:(("":Str)).length=0:=by decide +kernel
 rcases alt with ⟨⟨t,ht⟩,qE⟩ | ⟨rs,hc,hf,q⟩
 ·have l1:1≤z.length:=by rw[←av,ht,List.length_append];simp
  refine⟨_,rfl,rfl,_,rfl,zay (fun c=>?_) (fun c=>?_)⟩
  ·have e:z="":=by
    have:=of_decide_eq_true c
    injection this
   rw[e,c0]at l1
   omega
  refine⟨_,rfl,rfl,_,_,rfl,rfl,_,rfl,?_⟩
  have e2:PySem.Txt.endswith z "\n"=false:=by
   rw[ew l1]
   refine decide_eq_false ?_
   show ¬(cp z)[z.length - 1]?=some 10
   have l2:z.length=t.length+1:=by rw[←av,ht,List.length_append];rfl
   rw[ht,l2,List.getElem?_append_right (by omega)]
   simp
  rw[e2]
  exact za7 ⟨(by show 1≤sizeLine;decide),qE H (ao.refl H)⟩
 refine⟨_,rfl,rfl,_,rfl,zay (fun c=>?_) (fun c=>?_)⟩
 ·have e:z="":=by
   have:=of_decide_eq_true c
   injection this
  subst e
  have e:rs=[]:=by
   cases rs with
   | nil=>rfl
   | cons r rs =>
    have:=congrArg List.length hc
    rw[av,c0]at this
    simp [zao]at this
  subst e
  exact⟨lS0,fun p hp=>q _ p (zae hp _) hp ag⟩
 ·have ne:rs≠[]:=fun e=>c (by
   subst e
   have e:z="":=zaO (by rw[hc];rfl)
   subst e
   decide +kernel)
  obtain⟨h1,h2,h3⟩:=zjR ne hc hf
  refine⟨_,rfl,rfl,_,_,rfl,rfl,_,rfl,?_⟩
  rw[h2]
  refine zaX ⟨_,rfl,_,rfl,_,rfl,z,rfl,szM (by omega),rfl,_,_,rfl,rfl,(by decide +kernel),Nat.le_trans (PySem.Txt.slice_le z _ _) lz,fun p hp=>?_⟩
  have e3:PySem.Txt.split (PySem.Txt.slice z none (some (-(1:Int)))) "\n"=rs:=h3
  rw[e3]
  exact q _ p (zae hp _) hp ag
end
end C06
namespace K06
open PySem L2
open F06 (Tr dTr zaK)
structure Own (P:Program) (w:World) (K:PySem.W.Frag) (mg:Str→Option Value) (base:Heap) (C CN CT CP CM:Addr) (fI fA fQ fS fR:Addr) (dI dA' dQ dS dR':FuncData):Prop where
 I:FnOk P w K mg base CX0 1 fI dI ["self"] (zgz C)
 bI:au K dI ["self"] []
 mI:Mk K C fI
 gI:mg "Problem"=some (.ref C)
 A:FnOk P w K mg base (CX1 P w) 4 fA dA' ["self","name","parts"] (zif K C CN CT CM)
 bA:au K dA' ["self","name","parts"] []
 mA:zbp K C "add_term" fA
 Q:FnOk P w K mg base (CX1 P w) 4 fQ dQ ["self","name"] (zfF K C CN CT CP CM)
 bQ:au K dQ ["self","name"] []
 mQ:zbp K C "add_plain" fQ
 S:FnOk P w K mg base (CX1 P w) 4 fS dS ["self","one","other"] (zgx K C CN CT CP CM)
 bS:au K dS ["self","one","other"] []
 mS:zbp K C "add_same" fS
 R:FnOk P w K mg base (CX1 P w) 4 fR dR' ["self","parts"] (zie K C CN CT CP CM)
 bR:au K dR' ["self","parts"] []
 mR:zbp K C "add_row" fR
theorem zhC (tl al rl:Addr):(zbR tl al rl).lookup ("add_term":Str)=none:=zb0 _ _ _ (by decide +kernel) (by decide +kernel) (by decide +kernel)
theorem zhx (tl al rl:Addr):(zbR tl al rl).lookup ("add_plain":Str)=none:=zb0 _ _ _ (by decide +kernel) (by decide +kernel) (by decide +kernel)
theorem zhD (tl al rl:Addr):(zbR tl al rl).lookup ("add_same":Str)=none:=zb0 _ _ _ (by decide +kernel) (by decide +kernel) (by decide +kernel)
theorem ziF (tl al rl:Addr):(zbR tl al rl).lookup ("add_row":Str)=none:=zb0 _ _ _ (by decide +kernel) (by decide +kernel) (by decide +kernel)
inductive Kd where
 | name | term | many
deriving DecidableEq
def cls (CN CT CM:Addr):Kd→Addr
 | .name=>CN
 | .term=>CT
 | .many=>CM
def zdL (T:List Tm) (n:Str) (ks:List Int):Except Kd (List Tm × Nat) :=
 if za3 n=false then .error .name else if 3 < ks.length then .error .term else if(n,ks)∈T then .ok (T,T.idxOf (n,ks)) else if 60≤T.length then .error .many else .ok (T++[(n,ks)],T.length)
mutual
def aT (T:List Tm):Tr→Except Kd (List Tm × Nat)
 | .node n ts=>match aTs T ts with
  | .error k=>.error k
  | .ok (T',ks)=>zdL T' n ks
def aTs (T:List Tm):List Tr→Except Kd (List Tm × List Int)
 | []=>.ok (T,[])
 | t :: ts=>match aT T t with
  | .error k=>.error k
  | .ok (T',k)=>match aTs T' ts with
   | .error e=>.error e
   | .ok (T2,ks)=>.ok (T2,(k:Int) :: ks)
end
mutual
def LwT:Tr→Prop
 | .node n ts=>Low n∧ts.length≤10∧zeE ts
def zeE:List Tr→Prop
 | []=>True
 | t :: ts=>LwT t∧zeE ts
end
theorem zht:∀ {ts:List Tr},zeE ts→∀ t∈ts,LwT t
 | t :: ts,h,u,hu=>by
  simp only[zeE]at h
  rcases List.mem_cons.mp hu with rfl | hu
  ·exact h.1
  ·exact zht h.2 u hu
theorem zkP {T T':List Tm} {n:Str} {ks:List Int} {k:Nat} (h:zdL T n ks=.ok (T',k)) (h60:T.length≤60):k < T'.length∧T.length≤T'.length∧T'.length≤60:=by
 unfold zdL at h
 by_cases c1:za3 n=false
 ·rw[if_pos c1]at h;cases h
 rw[if_neg c1]at h
 by_cases c2:3 < ks.length
 ·rw[if_pos c2]at h;cases h
 rw[if_neg c2]at h
 by_cases c3:(n,ks)∈T
 ·rw[if_pos c3]at h
  cases h
  exact⟨List.idxOf_lt_length_of_mem c3,Nat.le_refl _,h60⟩
 rw[if_neg c3]at h
 by_cases c4:60≤T.length
 ·rw[if_pos c4]at h;cases h
 rw[if_neg c4]at h
 cases h
 rw[List.length_append]
 exact⟨Nat.lt_succ_self _,by omega,by show _+1≤60;omega⟩
mutual
theorem zfg:∀ {t:Tr} {T T':List Tm} {k:Nat},aT T t=.ok (T',k)→T.length≤60→k < T'.length∧T.length≤T'.length∧T'.length≤60
 | .node n ts,T,T',k,h,h60=>by
  simp only[aT]at h
  cases e:aTs T ts with
  | error x=>rw[e]at h;cases h
  | ok x =>
   obtain⟨T1,ks⟩:=x
   rw[e]at h
   obtain⟨_,h2,h3,_⟩:=zfs e h60
   obtain⟨h4,h5,h6⟩:=zkP h h3
   exact⟨h4,by omega,h6⟩
theorem zfs:∀ {ts:List Tr} {T T':List Tm} {ks:List Int},aTs T ts=.ok (T',ks)→T.length≤60→(∀ k∈ks,0≤k∧k < (T'.length:Int))∧T.length≤T'.length∧T'.length≤60∧ks.length=ts.length
 | [],T,T',ks,h,h60=>by
  simp only[aTs]at h
  cases h
  exact⟨fun k hk=>(nomatch hk),Nat.le_refl _,h60,rfl⟩
 | t :: ts,T,T',ks,h,h60=>by
  simp only[aTs]at h
  cases e:aT T t with
  | error x=>rw[e]at h;cases h
  | ok x =>
   obtain⟨T1,k1⟩:=x
   rw[e]at h
   dsimp only at h
   obtain⟨h1,h2,h3⟩:=zfg e h60
   cases e2:aTs T1 ts with
   | error y=>rw[e2]at h;cases h
   | ok y =>
    obtain⟨T2,ks2⟩:=y
    rw[e2]at h
    dsimp only at h
    cases h
    obtain⟨h4,h5,h6,h7⟩:=zfs e2 h3
    refine⟨fun k hk=>?_,by omega,h6,by rw[List.length_cons,List.length_cons,h7]⟩
    rcases List.mem_cons.mp hk with rfl | hk
    ·omega
    ·exact h4 k hk
end
theorem zhs:∀ {ts:List Tr} {i:Nat} {u:Tr} {T T':List Tm} {ks:List Int},ts[i]?=some u→aTs T (ts.take i)=.ok (T',ks) →
  (∀ k,aT T' u=.error k→aTs T ts=.error k∧aTs T (ts.take (i+1))=.error k)∧∀ T2 n,aT T' u=.ok (T2,n)→aTs T (ts.take (i+1))=.ok (T2,ks++[(n:Int)])
 | [],i,u,T,T',ks,h,_=>by simp at h
 | t :: ts,0,u,T,T',ks,h,h1=>by
  simp at h
  subst h
  simp only[List.take_zero,aTs]at h1
  cases h1
  refine⟨fun k e=>?_,fun T2 n e=>?_⟩
  ·simp [aTs,e]
  ·simp [aTs,e]
 | t :: ts,i+1,u,T,T',ks,h,h1=>by
  simp only[List.getElem?_cons_succ]at h
  simp only[List.take_succ_cons,aTs]at h1 ⊢
  cases e:aT T t with
  | error x=>rw[e]at h1;cases h1
  | ok x =>
   obtain⟨T1,k1⟩:=x
   rw[e]at h1
   dsimp only at h1 ⊢
   cases e2:aTs T1 (ts.take i) with
   | error y=>rw[e2]at h1;cases h1
   | ok y =>
    obtain⟨T3,ks3⟩:=y
    rw[e2]at h1
    dsimp only at h1
    cases h1
    obtain⟨i1,i2⟩:=zhs h e2
    refine⟨fun k ek=>?_,fun T2 n en=>?_⟩
    ·obtain⟨j1,j2⟩:=i1 k ek
     rw[j1,j2]
     exact⟨rfl,rfl⟩
    ·rw[i2 T2 n en]
     rfl
section
variable {P:Program} {w:World} {K:PySem.W.Frag} {mg:Str→Option Value} {base:Heap} {aK C CN CT CP CM:Addr} {f:Addr} {fd:FuncData} {fI fA fQ fS fR:Addr} {dI dA' dQ dS dR':FuncData}
inductive zcy (K:PySem.W.Frag) (C CN CT CM:Addr) (n:Nat):Sp | mk {vs H Q E} (p tl al rl:Addr) (T:List Tm) (As:List At) (Rs:List (List Int)) (t:Tr) (v:V):vs=[.ref p,v]→zaC K C H p tl al rl T As Rs→Has K H (dTr t) v→F06.dp t≤n→LwT t→T.length≤60→(∀ T' k,aT T t=.ok (T',k)→∀ H',zaC K C H' p tl al rl T' As Rs→Fr1 H H' tl→Q (.int (k:Nat)) H')→(∀ k,aT T t=.error k→∀ H',Fr1 H H' tl→E (.ref (cls CN CT CM k)) none H')→zcy K C CN CT CM n vs H Q E
theorem zew:zaa ["problem","tree","numbers"] ["problem","tree"] (ad zcz):=⟨rfl,rfl,rfl,by decide +kernel,rfl,by decide +kernel,by decide +kernel⟩
set_option maxHeartbeats 1000000 in
theorem zfy (F:Fun K "add_tree" "add_tree" zcz f fd) (T:Txt K mg aK C CN CT CP CM) (G:Own P w K mg base C CN CT CP CM fI fA fQ fS fR dI dA' dQ dS dR') (b:au K fd ["problem","tree"] []) (kp:PySem.W.keepIn K (.ref f)=true) (m:mg "add_tree"=some (.ref f)) :
  ∀ n,FnOk P w K mg base (CX1 P w) (n+5) f fd ["problem","tree"] (zcy K C CN CT CM n)
 | 0=>F06.FnOk.no fun _ _ _ _ ⟨_,_,_,_,_,_,_,t,_,_,_,_,h,_,_,_,_⟩=>by
  cases t with
  | node n ts=>simp only[F06.dp]at h;omega
 | n+1=>by
  have IH:=zfy F T G b kp m n
  refine Fun.okX F zew (fun vs H Q E h=>?_) (fun cdv A outer s H vs Q E hr h=>?_)
  ·obtain⟨p,tl,al,rl,T',As,Rs,t,v,rfl,_⟩:=h
   rfl
  obtain⟨p,tl,al,rl,T',As,Rs,t,v,rfl,S,hv,hd,gd,t60,q1,q2⟩:=h
  have hr4:zai 4 _:=hr.mono (by omega)
  cases t with
  | node nm ts =>
  obtain⟨pt,pq,xs,rfl,hpt,hpq,hxs⟩:=F06.tr_at hv
  simp only[LwT]at gd
  obtain⟨g2,g3,g4⟩:=gd
  have gts:=zht g4
  have dts:∀ u∈ts,F06.dp u≤n:=by
   simp only[F06.dp]at hd
   exact F06.dps_le (by omega)
  refine⟨_,(aj (zf4 (i:=2) (N':=["part","problem"]) (ix:=[0]) xe1 zew.nd rfl (Or.inl rfl) rfl rfl (by decide +kernel) (by decide +kernel) rfl (fun ok=>zdX (sc:=ad zcz) ok rfl (by decide +kernel) (by decide +kernel)) (by decide +kernel) rfl rfl (fun j i h=>match j,h with | 0,h=>by cases h;exact⟨_,rfl,rfl,.inl rfl,.inl rfl⟩ | n+1,h=>by simp at h) (pi_tup (zaJ zcl (pv 1) ah (fun _ _=>rfl))) (fun _ _ _ _ _ hp=>(zad IH hr rfl m kp b .nil hp (aa (pv 1) (aa (pv 0) ac)))))
   (ae (zab (zaZ (pv 0) T.cl G.mA G.A hr4 G.bA .nil (zau xe1) (aa (zaJ zcl (pv 1) ah (fun _ _=>rfl)) (aa (pv 2) ac)))))),?_⟩
  try dsimp only [Cx.nox,Cx.wish,zak]
  have at0:atI [V.str nm,V.ref pq] 0=some (.str nm):=zax (j:=0) rfl
  have at1:atI [V.str nm,V.ref pq] 1=some (.ref pq):=zax (j:=1) rfl
  have xl:xs.length=ts.length:=by rw[←hxs.length,F06.dTrs_length]
  obtain⟨⟨dx,ho⟩,⟨tsv,ht,hT⟩,⟨asv,ha,hA⟩,⟨rsv,hrv,hR⟩,na,nr,nx⟩:=id S
  have ktl:∀ {H'},Fr1 H H' tl→KeepT H H':=fun f=>f.keepT ht
  refine⟨_,rfl,pt,_,_,_,rfl,rfl,hpt,at1,pq,rfl,⟨_,hpq⟩,fun D hD=>?_⟩
  have nDt:D≠tl:=Ne.symm (zan ht hD)
  have nDa:D≠al:=Ne.symm (zan ha hD)
  have nDr:D≠rl:=Ne.symm (zan hrv hD)
  refine zcv wk_tup (fun i us H'=>Fr1 H H' tl∧∃(T4:List Tm) (ks:List Int),aTs T' (ts.take i)=.ok (T4,ks)∧zaC K C H' p tl al rl T4 As Rs∧us=ks.map V.int) (fun i us H' ⟨f1,_⟩=>(ktl f1).sq hpq) ⟨Fr1.of_same (zae hD _),T',[],rfl,S.same (zae hD _),rfl⟩ ?_ ?_
  ·rintro i us H8 x H4 hi hly hDs ⟨f4,T4,ks,e4,S4,rfl⟩ ⟨rfl,hx⟩
   obtain⟨u,hu,hxu⟩:=F06.trs_get (hxs.keep (ktl f4) (F06.nols_dTrs _)) (hx _ ((ktl f4).sq hpq))
   have um:=List.mem_of_getElem? hu
   obtain⟨_,_,l4,_⟩:=zfs e4 t60
   obtain⟨j1,j2⟩:=zhs hu e4
   refine⟨_,rfl,_,rfl,p,tl,al,rl,T4,As,Rs,u,x,rfl,S4,hxu,dts u um,gts u um,l4,fun T5 k5 e5 H5 S5 f5=>?_,fun k5 e5 H5 f5=>q2 k5 (by simp only[aT,(j1 k5 e5).1]) H5 (f4.trans f5)⟩
   have hD5:=f5 _ _ hDs nDt
   have S6:=fun o'=>S5.keep (z:=D) (H':=upd H5 D o') (fun c o hc hn=>by rw[ai hn];exact hc) hD5 nDt nDa nDr
   refine zbH (F06.sz _ (by omega)) hi hly hD5 ⟨fun c o hc hn=>?_,T5,_,j2 T5 k5 e5,S6 _,by rw[List.map_append];rfl⟩
   rw[ai (fun e=>by rw[e,hD]at hc;cases hc)]
   exact f5 _ _ (f4 _ _ hc hn) hn
  ·rintro us H4 hDs ⟨f4,T4,ks,e4,S4,rfl⟩
   rw[xl,List.take_length]at e4
   obtain⟨small,_,l4,kl⟩:=zfs e4 t60
   obtain⟨⟨dx4,ho4⟩,_⟩:=id S4
   refine⟨_,rfl,p,dx4,_,rfl,ho4,zhC _ _ _,_,rfl,pt,_,_,_,rfl,rfl,(ktl f4).sq hpt,at0,_,rfl,p,tl,al,rl,D,T4,As,Rs,nm,ks,rfl,⟨S4,.inl (SqL.of hDs),g2,by omega,fun k hk=>by have:=small k hk;omega,by omega⟩,?_⟩
   have ea:aT T' (.node nm ts)=zdL T4 nm ks:=by simp only[aT,e4]
   rw[ea]at q1 q2
   have nb:bad T4 ks=decide (3 < ks.length):=by
    unfold bad
    have:(ks.any fun p=>decide (p < 0)||decide ((T4.length:Int)≤p))=false:=by
     rw[List.any_eq_false]
     intro k hk
     have:=small k hk
     simp
     omega
    rw[this,Bool.or_false]
   unfold zdL at q1 q2
   unfold zcJ
   by_cases c1:za3 nm=false
   ·rw[if_pos c1]at q2
    rw[if_pos c1]
    exact fun H5 s5=>q2 _ rfl H5 (f4.trans (Fr1.of_same s5))
   rw[if_neg c1]at q1 q2 ⊢
   rw[nb]
   by_cases c2:3 < ks.length
   ·rw[if_pos c2]at q2
    rw[if_pos (decide_eq_true c2)]
    exact fun H5 s5=>q2 _ rfl H5 (f4.trans (Fr1.of_same s5))
   rw[if_neg c2]at q1 q2
   rw[if_neg (fun z=>c2 (of_decide_eq_true z))]
   by_cases c:(nm,ks)∈T4
   ·rw[if_pos c]at q1
    rw[if_pos c]
    exact fun H5 S5 f5=>q1 _ _ rfl H5 S5 (f4.trans f5)
   ·rw[if_neg c]at q1 q2 ⊢
    by_cases c6:60≤T4.length
    ·rw[if_pos c6]at q2
     rw[if_pos c6]
     exact fun H5 s5=>q2 _ rfl H5 (f4.trans (Fr1.of_same s5))
    ·rw[if_neg c6]at q1
     rw[if_neg c6]
     exact fun H5 S5 f5=>q1 _ _ rfl H5 S5 (f4.trans f5)
end
end K06
namespace K06
open PySem L2
open F06 (Tr dTr zaK)
open C06 (PA Prt dPA dPt)
theorem made {K:PySem.W.Frag} {C:Addr} {H H1:Hp} {x dx tl al rl:Addr} (hx:H x=none) (hdx:H dx=none) (hne:dx≠x) (h1:(upd (upd H dx (.own x)) x (.ins C dx [])) tl=none) (h2:(upd (upd H dx (.own x)) x (.ins C dx [])) al=none)
  (h3:(upd (upd H dx (.own x)) x (.ins C dx [])) rl=none) (na:al≠tl) (nr:rl≠tl) (nx:rl≠al) (k1:H1 x=some (.ins C dx (zbR tl al rl))) (k2:H1 tl=some (.lst [])) (k3:H1 al=some (.lst [])) (k4:H1 rl=some (.lst []))
  (k5:∀ b o,(upd (upd H dx (.own x)) x (.ins C dx [])) b=some o→b≠x→H1 b=some o):zaC K C H1 x tl al rl [] [] []∧ao H H1∧H tl=none∧H al=none∧H rl=none:=by
 have sm:ao H (upd (upd H dx (.own x)) x (.ins C dx [])):=(zbb hdx _).trans (zbb (by rw[ai hne.symm];exact hx) _)
 exact⟨⟨⟨dx,k1⟩,⟨[],k2,.nil⟩,⟨[],k3,.nil⟩,⟨[],k4,.nil⟩,na,nr,nx⟩,fun b o e=>k5 b o (sm _ _ e) (zan e hx),sm.free h1,sm.free h2,sm.free h3⟩
def Fr3 (H H':Hp) (tl al rl:Addr):Prop:=∀ b o,H b=some o→b≠tl→b≠al→b≠rl→H' b=some o
theorem Fr3.of_same {H H':Hp} {tl al rl:Addr} (s:ao H H'):Fr3 H H' tl al rl:=fun b o e _ _ _=>s b o e
theorem Fr3.trans {H H' H2:Hp} {tl al rl:Addr} (a:Fr3 H H' tl al rl) (b:Fr3 H' H2 tl al rl):Fr3 H H2 tl al rl:=fun c o e n1 n2 n3=>b c o (a c o e n1 n2 n3) n1 n2 n3
theorem Fr3.of1 {H H':Hp} {tl al rl:Addr} (f:Fr1 H H' tl):Fr3 H H' tl al rl:=fun b o e n _ _=>f b o e n
theorem Fr3.of2 {H H':Hp} {tl al rl:Addr} (f:Fr2 H H' al rl):Fr3 H H' tl al rl:=fun b o e _ n m=>f b o e n m
theorem zaC.kt3 {K:PySem.W.Frag} {C:Addr} {H H':Hp} {p tl al rl:Addr} {T:List Tm} {As:List At} {Rs:List (List Int)} (h:zaC K C H p tl al rl T As Rs) (f:Fr3 H H' tl al rl):KeepT H H':=fun b ys q=>by
 obtain⟨_,⟨x2,t2,_⟩,⟨x3,t3,_⟩,⟨x4,t4,_⟩,_⟩:=h
 rcases q with q | ⟨o,q⟩
 ·exact .inl (f _ _ q (fun e=>by rw[e,t2]at q;cases q) (fun e=>by rw[e,t3]at q;cases q) (fun e=>by rw[e,t4]at q;cases q))
 ·exact .inr ⟨o,f _ _ q (fun e=>by rw[e,t2]at q;cases q) (fun e=>by rw[e,t3]at q;cases q) (fun e=>by rw[e,t4]at q;cases q)⟩
theorem zaC.ne3 {K:PySem.W.Frag} {C:Addr} {H:Hp} {p tl al rl b:Addr} {T:List Tm} {As:List At} {Rs:List (List Int)} (h:zaC K C H p tl al rl T As Rs) (e:H b=none):b≠tl∧b≠al∧b≠rl:=by
 obtain⟨_,⟨x2,t2,_⟩,⟨x3,t3,_⟩,⟨x4,t4,_⟩,_⟩:=h
 exact⟨(fun z=>by rw[z,t2]at e;cases e),(fun z=>by rw[z,t3]at e;cases e),(fun z=>by rw[z,t4]at e;cases e)⟩
def goE {σ α β:Type} (f:σ→α→Except Kd (σ × β)) (s:σ):List α→Except Kd (σ × List β)
 | []=>.ok (s,[])
 | a :: as=>match f s a with
  | .error k=>.error k
  | .ok (s1,b)=>match goE f s1 as with
   | .error e=>.error e
   | .ok (s2,bs)=>.ok (s2,b :: bs)
theorem zdD {σ α β:Type} {f:σ→α→Except Kd (σ × β)}:∀ {as:List α} {i:Nat} {a:α} {s s':σ} {bs:List β},as[i]?=some a→goE f s (as.take i)=.ok (s',bs) →
  (∀ k,f s' a=.error k→goE f s as=.error k)∧∀ s2 b,f s' a=.ok (s2,b)→goE f s (as.take (i+1))=.ok (s2,bs++[b])
 | [],i,u,s,s',bs,h,_=>by simp at h
 | t :: ts,0,u,s,s',bs,h,h1=>by
  simp at h
  subst h
  simp only[List.take_zero,goE]at h1
  cases h1
  exact⟨fun k e=>by simp [goE,e],fun T2 n e=>by simp [goE,e]⟩
 | t :: ts,i+1,u,s,s',bs,h,h1=>by
  simp only[List.getElem?_cons_succ]at h
  simp only[List.take_succ_cons,goE]at h1 ⊢
  cases e:f s t with
  | error x=>rw[e]at h1;cases h1
  | ok x =>
   obtain⟨T1,k1⟩:=x
   rw[e]at h1
   dsimp only at h1 ⊢
   cases e2:goE f T1 (ts.take i) with
   | error y=>rw[e2]at h1;cases h1
   | ok y =>
    obtain⟨T3,ks3⟩:=y
    rw[e2]at h1
    dsimp only at h1
    cases h1
    obtain⟨i1,i2⟩:=zdD h e2
    refine⟨fun k ek=>?_,fun T2 n en=>?_⟩
    ·rw[i1 k ek]
    ·rw[i2 T2 n en]
     rfl
structure S6 where
 T:List Tm
 A:List At
def zc7 (A:List At) (a:At):Except Kd (List At × Nat):=if a∈A then .ok (A,A.idxOf a+1) else if 40≤A.length then .error .many else .ok (A++[a],A.length+1)
def aPA (s:S6):PA→Except Kd (S6 × Nat)
 | .plain z=>if za3 z=false then .error .name else match zc7 s.A (.plain z) with
  | .error k=>.error k
  | .ok (A,n)=>.ok (⟨s.T,A⟩,n)
 | .same t u=>match aT s.T t with
  | .error k=>.error k
  | .ok (T1,a)=>match aT T1 u with
   | .error k=>.error k
   | .ok (T2,b)=>if At.same (b:Nat) (a:Nat)∈s.A then .ok (⟨T2,s.A⟩,s.A.idxOf (.same (b:Nat) (a:Nat))+1) else match zc7 s.A (.same (a:Nat) (b:Nat)) with
    | .error k=>.error k
    | .ok (A,n)=>.ok (⟨T2,A⟩,n)
def aPt (s:S6) (p:Prt):Except Kd (S6 × Int):=match aPA s p.a with
 | .error k=>.error k
 | .ok (s1,n)=>.ok (s1,if p.n=true then -(n:Int) else(n:Int))
structure Sm (s:S6):Prop where
 t:s.T.length≤60
 a:s.A.length≤40
theorem zhT {A A':List At} {a:At} {n:Nat} (h:zc7 A a=.ok (A',n)) (h40:A.length≤40):A'.length≤40∧1≤n∧n≤A'.length∧A.length≤A'.length:=by
 unfold zc7 at h
 by_cases c:a∈A
 ·rw[if_pos c]at h
  cases h
  have:=List.idxOf_lt_length_of_mem c
  exact⟨h40,by omega,by omega,Nat.le_refl _⟩
 rw[if_neg c]at h
 by_cases c2:40≤A.length
 ·rw[if_pos c2]at h;cases h
 rw[if_neg c2]at h
 cases h
 rw[List.length_append]
 exact⟨by show _+1≤40;omega,by omega,Nat.le_refl _,by omega⟩
theorem aPA_ok {s s':S6} {a:PA} {n:Nat} (h:aPA s a=.ok (s',n)) (m:Sm s):Sm s'∧1≤n∧n≤s'.A.length∧s.A.length≤s'.A.length:=by
 cases a with
 | plain z =>
  simp only[aPA]at h
  by_cases c:za3 z=false
  ·rw[if_pos c]at h;cases h
  rw[if_neg c]at h
  cases e:zc7 s.A (.plain z) with
  | error x=>rw[e]at h;cases h
  | ok x =>
   obtain⟨A,k⟩:=x
   rw[e]at h
   cases h
   obtain⟨h1,h2,h3,h4⟩:=zhT e m.a
   exact⟨⟨m.t,h1⟩,h2,h3,h4⟩
 | same t u =>
  simp only[aPA]at h
  cases e1:aT s.T t with
  | error x=>rw[e1]at h;cases h
  | ok x =>
   obtain⟨T1,a⟩:=x
   rw[e1]at h
   dsimp only at h
   obtain⟨_,_,l1⟩:=zfg e1 m.t
   cases e2:aT T1 u with
   | error x=>rw[e2]at h;cases h
   | ok x =>
    obtain⟨T2,b⟩:=x
    rw[e2]at h
    dsimp only at h
    obtain⟨_,_,l2⟩:=zfg e2 l1
    by_cases c:At.same (b:Nat) (a:Nat)∈s.A
    ·rw[if_pos c]at h
     cases h
     have:=List.idxOf_lt_length_of_mem c
     exact⟨⟨l2,m.a⟩,by omega,this,Nat.le_refl _⟩
    rw[if_neg c]at h
    cases e:zc7 s.A (.same (a:Nat) (b:Nat)) with
    | error x=>rw[e]at h;cases h
    | ok x =>
     obtain⟨A,k⟩:=x
     rw[e]at h
     cases h
     obtain⟨h1,h2,h3,h4⟩:=zhT e m.a
     exact⟨⟨l2,h1⟩,h2,h3,h4⟩
def LwA:PA→Prop
 | .plain z=>Low z
 | .same t u=>LwT t∧LwT u∧F06.dp t≤21∧F06.dp u≤21
section
variable {P:Program} {w:World} {K:PySem.W.Frag} {mg:Str→Option Value} {base:Heap} {aK C CN CT CP CM CU:Addr} {f fT fB fP' fX fW:Addr} {fd dT' dB dP' dX dW:FuncData} {fI fA fQ fS fR:Addr} {dI dA' dQ dS dR':FuncData}
inductive zeQ (K:PySem.W.Frag) (C CN CT CM:Addr):Sp | mk {vs H Q E} (p tl al rl:Addr) (s:S6) (R:List (List Int)) (a:PA) (v:V):vs=[.ref p,v]→zaC K C H p tl al rl s.T s.A R→Has K H (dPA a) v→LwA a→Sm s→(∀ s' n,aPA s a=.ok (s',n)→∀ H',zaC K C H' p tl al rl s'.T s'.A R→Fr3 H H' tl al rl→Q (.int (n:Nat)) H')→(∀ k,aPA s a=.error k→∀ H',Fr3 H H' tl al rl→E (.ref (cls CN CT CM k)) none H')→zeQ K C CN CT CM vs H Q E
theorem zdb:zaa ["problem","atom","one","other"] ["problem","atom"] (ad zdG):=⟨rfl,rfl,rfl,by decide +kernel,rfl,by decide +kernel,by decide +kernel⟩
set_option maxHeartbeats 1000000 in
theorem zka (F:Fun K "add_atom" "add_atom" zdG f fd) (T:Txt K mg aK C CN CT CP CM) (G:Own P w K mg base C CN CT CP CM fI fA fQ fS fR dI dA' dQ dS dR') (BT:FB P w K mg base (CX1 P w) 26 "add_tree" fT dT' ["problem","tree"] (zcy K C CN CT CM 21)):FnOk P w K mg base (CX1 P w) 27 f fd ["problem","atom"] (zeQ K C CN CT CM):=by
 refine Fun.okX F zdb (fun vs H Q E h=>?_) (fun cdv A outer s H vs Q E hr h=>?_)
 ·obtain⟨p,tl,al,rl,s,R,a,v,rfl,_⟩:=h
  rfl
 obtain⟨p,tl,al,rl,s5,R,a,v,rfl,S,hv,ga,sm,q,qE⟩:=h
 have hr4:zai 4 _:=hr.mono (by decide)
 have t60:=sm.t
 have a40:=sm.a
 refine⟨_,(aj (zaD (zal zbc (zaJ zcl (pv 1) ah (fun _ _=>rfl)) ak (zas _))
   (ae (zab (zaZ (pv 0) T.cl G.mQ G.Q hr4 G.bQ .nil (zau xe1) (aa (zaJ zcl (pv 1) ah (fun _ _=>rfl)) ac))))
   zag)
  (aj (zar (i:=2) zdb.nd rfl (Or.inl rfl) (zad BT.ok hr rfl BT.m BT.kp BT.b .nil (zau xe1) (aa (pv 0) (aa (zaJ zcl (pv 1) ah (fun _ _=>rfl)) ac))))
  (aj (zar (i:=3) zdb.nd rfl (Or.inl rfl) (zad BT.ok hr rfl BT.m BT.kp BT.b .nil (zau xe1) (aa (pv 0) (aa (zaJ zcl (pv 1) ah (fun _ _=>rfl)) ac))))
  (ae (zab (zaZ (pv 0) T.cl G.mS G.S hr4 G.bS .nil (zau xe1) (aa (pv 2) (aa (pv 3) ac)))))))),?_⟩
 try dsimp only [Cx.nox,Cx.wish,zak]
 obtain⟨⟨dx,ho⟩,_⟩:=id S
 cases a with
 | plain z =>
  simp only[dPA,Has,aq]at hv
  obtain⟨pa,_,rfl,hpa,_,_,rfl,rfl,_,_,rfl,rfl,rfl⟩:=hv
  have at0:atI [V.str "plain",V.str z] 0=some (.str "plain"):=zax (j:=0) rfl
  have at1:atI [V.str "plain",V.str z] 1=some (.str z):=zax (j:=1) rfl
  refine⟨_,rfl,pa,_,_,_,rfl,rfl,hpa,at0,rfl,_,rfl,zay (fun _=>?_) (fun c=>absurd (decide_eq_true rfl) c)⟩
  refine⟨_,rfl,p,dx,_,rfl,ho,zhx _ _ _,_,rfl,pa,_,_,_,rfl,rfl,hpa,at1,p,tl,al,rl,s5.T,s5.A,R,z,rfl,S,ga,by omega,?_⟩
  simp only[aPA,zc7]at q qE
  unfold zc8
  by_cases c1:za3 z=false
  ·rw[if_pos c1]at qE
   rw[if_pos c1]
   exact fun H5 s5=>qE _ rfl H5 (Fr3.of_same s5)
  rw[if_neg c1]at q qE ⊢
  by_cases c:At.plain z∈s5.A
  ·rw[if_pos c]at q
   rw[if_pos c]
   exact fun H5 S5 f5=>q _ _ rfl H5 S5 (Fr3.of2 f5)
  ·rw[if_neg c]at q qE ⊢
   by_cases c4:40≤s5.A.length
   ·rw[if_pos c4]at qE
    rw[if_pos c4]
    exact fun H5 s5=>qE _ rfl H5 (Fr3.of_same s5)
   ·rw[if_neg c4]at q
    rw[if_neg c4]
    exact fun H5 S5 f5=>q _ _ rfl H5 S5 (Fr3.of2 f5)
 | same t u =>
  simp only[dPA,Has,aq]at hv
  obtain⟨pa,_,rfl,hpa,_,_,rfl,rfl,x1,_,rfl,h1,x2,_,rfl,h2,rfl⟩:=hv
  have at0:atI [V.str "same",x1,x2] 0=some (.str "same"):=zax (j:=0) rfl
  have at1:atI [V.str "same",x1,x2] 1=some x1:=zax (j:=1) rfl
  have at2:atI [V.str "same",x1,x2] 2=some x2:=zax (j:=2) rfl
  obtain⟨gt,gu,dt,du⟩:=ga
  refine⟨_,rfl,pa,_,_,_,rfl,rfl,hpa,at0,rfl,_,rfl,zay (fun c=>absurd c (by decide +kernel)) (fun _=>?_)⟩
  simp only[aPA]at q qE
  refine⟨_,rfl,_,rfl,pa,_,_,_,rfl,rfl,hpa,at1,p,tl,al,rl,s5.T,s5.A,R,t,x1,rfl,S,h1,dt,gt,t60,fun T1 a1 e1 H1 S1 f1=>?_,fun k e H1 f1=>qE k (by rw[e]) H1 (Fr3.of1 f1)⟩
  obtain⟨i1,_,l1⟩:=zfg e1 t60
  rw[e1]at q qE
  dsimp only at q qE
  have f1':Fr3 H H1 tl al rl:=Fr3.of1 f1
  have k1:=S.kt3 f1'
  refine⟨_,rfl,_,rfl,pa,_,_,_,rfl,rfl,k1.sq hpa,at2,p,tl,al,rl,T1,s5.A,R,u,x2,rfl,S1,h2.keep k1 (F06.nol_dTr _),du,gu,l1,fun T2 a2 e2 H2 S2 f2=>?_,fun k e H2 f2=>qE k (by rw[e]) H2 (f1'.trans (Fr3.of1 f2))⟩
  obtain⟨i2,l12,l2⟩:=zfg e2 l1
  rw[e2]at q qE
  dsimp only at q qE
  have f2':Fr3 H H2 tl al rl:=f1'.trans (Fr3.of1 f2)
  obtain⟨⟨dx2,ho2⟩,_⟩:=id S2
  refine⟨_,rfl,p,dx2,_,rfl,ho2,zhD _ _ _,_,rfl,_,rfl,p,tl,al,rl,T2,s5.A,R,(a1:Nat),(a2:Nat),rfl,S2,⟨by omega,by omega⟩,⟨by omega,by omega⟩,by omega,?_⟩
  unfold zb8
  rw[if_neg (by omega)]
  simp only[zc7]at q qE
  by_cases c1:At.same (a2:Nat) (a1:Nat)∈s5.A
  ·rw[if_pos c1]at q
   rw[if_pos c1]
   exact fun H5 S5 f5=>q _ _ rfl H5 S5 (f2'.trans (Fr3.of2 f5))
  ·rw[if_neg c1]at q qE ⊢
   by_cases c2:At.same (a1:Nat) (a2:Nat)∈s5.A
   ·rw[if_pos c2]at q
    rw[if_pos c2]
    exact fun H5 S5 f5=>q _ _ rfl H5 S5 (f2'.trans (Fr3.of2 f5))
   ·rw[if_neg c2]at q qE ⊢
    by_cases c4:40≤s5.A.length
    ·rw[if_pos c4]at qE
     rw[if_pos c4]
     exact fun H5 s5=>qE _ rfl H5 (f2'.trans (Fr3.of_same s5))
    ·rw[if_neg c4]at q
     rw[if_neg c4]
     exact fun H5 S5 f5=>q _ _ rfl H5 S5 (f2'.trans (Fr3.of2 f5))
inductive zeP (K:PySem.W.Frag) (C CN CT CM:Addr):Sp | mk {vs H Q E} (p tl al rl:Addr) (s:S6) (R:List (List Int)) (a:Prt) (v:V):vs=[.ref p,v]→zaC K C H p tl al rl s.T s.A R→Has K H (dPt a) v→LwA a.a→Sm s→(∀ s' n,aPt s a=.ok (s',n)→∀ H',zaC K C H' p tl al rl s'.T s'.A R→Fr3 H H' tl al rl→Q (.int n) H')→(∀ k,aPt s a=.error k→∀ H',Fr3 H H' tl al rl→E (.ref (cls CN CT CM k)) none H')→zeP K C CN CT CM vs H Q E
theorem zex:zaa ["problem","part","number"] ["problem","part"] (ad zdF):=⟨rfl,rfl,rfl,by decide +kernel,rfl,by decide +kernel,by decide +kernel⟩
theorem zj9 (F:Fun K "add_part" "add_part" zdF f fd) (BA:FB P w K mg base (CX1 P w) 27 "add_atom" fB dB ["problem","atom"] (zeQ K C CN CT CM)):FnOk P w K mg base (CX1 P w) 28 f fd ["problem","part"] (zeP K C CN CT CM):=by
 refine Fun.okX F zex (fun vs H Q E h=>?_) (fun cdv A outer s H vs Q E hr h=>?_)
 ·obtain⟨p,tl,al,rl,s,R,a,v,rfl,_⟩:=h
  rfl
 obtain⟨p,tl,al,rl,s5,R,a,v,rfl,S,hv,ga,sm,q,qE⟩:=h
 refine⟨_,(aj (zar (i:=2) zex.nd rfl (Or.inl rfl) (zad BA.ok hr rfl BA.m BA.kp BA.b .nil (zau xe1) (aa (pv 0) (aa (zaJ zcl (pv 1) ah (fun _ _=>rfl)) ac))))
  (ae (zab (zj2 (zbr (zaJ zcl (pv 1) ah (fun _ _=>rfl))) (pv 2) (pe_un ziO (pv 2)))))),?_⟩
 try dsimp only [Cx.nox,Cx.wish,zak]
 unfold dPt at hv
 simp only[Has,aq]at hv
 obtain⟨pa,_,rfl,hpa,_,_,rfl,rfl,x1,_,rfl,h1,rfl⟩:=hv
 have at0:atI [V.bl (!a.n),x1] 0=some (.bl (!a.n)):=zax (j:=0) rfl
 have at1:atI [V.bl (!a.n),x1] 1=some x1:=zax (j:=1) rfl
 unfold aPt at q qE
 refine⟨_,rfl,_,rfl,pa,_,_,_,rfl,rfl,hpa,at1,p,tl,al,rl,s5,R,a.a,x1,rfl,S,h1,ga,sm,fun s' n e H1 S1 f1=>?_,fun k e H1 f1=>qE k (by rw[e]) H1 f1⟩
 rw[e]at q
 dsimp only at q
 refine⟨_,rfl,pa,_,_,_,rfl,rfl,(S.kt3 f1).sq hpa,at0,_,rfl,?_⟩
 have q1:=q _ _ rfl H1 S1 f1
 cases e:a.n with
 | false =>
  rw[e,if_neg (by decide)]at q1
  exact za7 ⟨_,rfl,q1⟩
 | true =>
  rw[e,if_pos rfl]at q1
  exact zaX ⟨_,rfl,_,rfl,q1⟩
end
end K06
namespace K06
open PySem L2
open F06 (Tr dTr zaK szM)
open C06 (PA Prt dPA dPt sPA sPt GW sub cp zaN nmS zao zb1 ziY RT frT zbC zfh zei)
def zaQ (st:S6 × List (List Int)) (r:List Prt):Except Kd ((S6 × List (List Int)) × Unit):=match goE aPt st.1 r with
 | .error k=>.error k
 | .ok (s1,ks)=>if 20 < ks.length then .error .many else if 200≤st.2.length then .error .many else .ok ((s1,st.2++[zaG [] ks]),())
def ini:S6 × List (List Int):=(⟨[],[]⟩,[])
def aRs (rs:List (List Prt)):Except Kd ((S6 × List (List Int)) × List Unit):=goE zaQ ini rs
theorem aPt_ok {s s':S6} {p:Prt} {n:Int} (h:aPt s p=.ok (s',n)) (m:Sm s):Sm s'∧n≠0∧-(s'.A.length:Int)≤n∧n≤(s'.A.length:Int)∧s.A.length≤s'.A.length:=by
 unfold aPt at h
 cases e:aPA s p.a with
 | error x=>rw[e]at h;cases h
 | ok x =>
  obtain⟨s1,k⟩:=x
  rw[e]at h
  cases h
  obtain⟨h1,h2,h3,h4⟩:=aPA_ok e m
  refine⟨h1,?_⟩
  split <;> omega
theorem zfp:∀ {r:List Prt} {s s':S6} {ks:List Int},goE aPt s r=.ok (s',ks)→Sm s→Sm s'∧s.A.length≤s'.A.length∧ks.length=r.length∧∀ k∈ks,k≠0∧-(s'.A.length:Int)≤k∧k≤(s'.A.length:Int)
 | [],s,s',ks,h,m=>by
  simp only[goE]at h
  cases h
  exact⟨m,Nat.le_refl _,rfl,fun k hk=>(nomatch hk)⟩
 | p :: r,s,s',ks,h,m=>by
  simp only[goE]at h
  cases e:aPt s p with
  | error x=>rw[e]at h;cases h
  | ok x =>
   obtain⟨s1,k1⟩:=x
   rw[e]at h
   dsimp only at h
   obtain⟨h1,h2,h3,h4,h5⟩:=aPt_ok e m
   cases e2:goE aPt s1 r with
   | error y=>rw[e2]at h;cases h
   | ok y =>
    obtain⟨s2,ks2⟩:=y
    rw[e2]at h
    cases h
    obtain⟨i1,i2,i3,i4⟩:=zfp e2 h1
    refine⟨i1,by omega,by rw[List.length_cons,List.length_cons,i3],fun k hk=>?_⟩
    rcases List.mem_cons.mp hk with rfl | hk
    ·exact⟨h2,by omega,by omega⟩
    ·exact i4 k hk
theorem zlq {st st':S6 × List (List Int)} {r:List Prt} {x:Unit} (h:zaQ st r=.ok (st',x)) (m:Sm st.1) (l:st.2.length≤200):Sm st'.1∧st'.2.length≤200:=by
 unfold zaQ at h
 cases e:goE aPt st.1 r with
 | error y=>rw[e]at h;cases h
 | ok y =>
  obtain⟨s1,ks⟩:=y
  rw[e]at h
  dsimp only at h
  by_cases c1:20 < ks.length
  ·rw[if_pos c1]at h;cases h
  rw[if_neg c1]at h
  by_cases c2:200≤st.2.length
  ·rw[if_pos c2]at h;cases h
  rw[if_neg c2]at h
  cases h
  refine⟨(zfp e m).1,?_⟩
  rw[List.length_append]
  show _+1≤200
  omega
theorem zji:∀ {rs:List (List Prt)} {st st':S6 × List (List Int)} {us:List Unit},goE zaQ st rs=.ok (st',us)→Sm st.1→st.2.length≤200→Sm st'.1∧st'.2.length≤200
 | [],st,st',us,h,m,l=>by
  simp only[goE]at h
  cases h
  exact⟨m,l⟩
 | r :: rs,st,st',us,h,m,l=>by
  simp only[goE]at h
  cases e:zaQ st r with
  | error x=>rw[e]at h;cases h
  | ok x =>
   obtain⟨s1,k1⟩:=x
   rw[e]at h
   dsimp only at h
   obtain⟨h1,h2⟩:=zlq e m l
   cases e2:goE zaQ s1 rs with
   | error y=>rw[e2]at h;cases h
   | ok y =>
    obtain⟨s2,ks2⟩:=y
    rw[e2]at h
    cases h
    exact zji e2 h1 h2
def RowsL (K:PySem.W.Frag) (H:Hp) (us:List V) (rs:List (List Prt)):Prop:=us.length=rs.length∧∀(i:Nat) (u:V) (r:List Prt),us[i]?=some u→rs[i]?=some r→∃ l xs,u=.ref l∧H l=some (.lst xs)∧aq K H (r.map dPt) xs
theorem zjT {α:Type} {xs:List α} {x y:α} {i:Nat} (h:(xs++[x])[i]?=some y):(xs[i]?=some y∧i < xs.length)∨(i=xs.length∧x=y):=by
 by_cases c:i < xs.length
 ·rw[List.getElem?_append_left c]at h
  exact .inl ⟨h,c⟩
 ·rw[List.getElem?_append_right (by omega)]at h
  have e:i - xs.length=0:=by
   refine Classical.byContradiction fun n=>?_
   rw[List.getElem?_eq_none (by simp;omega)]at h
   cases h
  rw[e]at h
  exact .inr ⟨by omega,by simpa using h⟩
structure Rws (W:List Nat) (s:Str) (ls:List (List Nat)):Prop where
 tx:cp s=zao (ls.map (zb1 W))
 row:∀ l∈ls,RT l∧10∉l
 ln:ls.length≤300
def Bad (W:List Nat) (s:Str):Option Kd→Prop
 | none=>(∃ t,cp s=t++[98])∨∃ ls,Rws W s ls∧∃ l∈ls,frT l=none
 | some k=>∃(ls:List (List Nat)) (rs:List (List Prt)),Rws W s ls∧ls.map frT=rs.map some∧(∀ r∈rs,r.length≤300∧∀ p∈r,LwA (sPA W p.a))∧aRs (rs.map fun r=>r.map (sPt W))=.error k
def cls4 (CX CN CT CM:Addr):Option Kd→Addr
 | none=>CX
 | some k=>cls CN CT CM k
theorem zcV {α β:Type} {f:α→Option β}:∀ {xs:List α} {ys:List β},xs.map f=ys.map some→∀ x∈xs,f x≠none
 | [],_,_,x,hx=>nomatch hx
 | a :: xs,[],h,x,hx=>by cases h
 | a :: xs,b :: ys,h,x,hx=>by
  rw[List.map_cons,List.map_cons]at h
  obtain⟨h1,h2⟩:=List.cons.inj h
  rcases List.mem_cons.mp hx with rfl | hx
  ·rw[h1];simp
  ·exact zcV h2 x hx
section
variable {P:Program} {w:World} {K:PySem.W.Frag} {mg:Str→Option Value} {base:Heap} {W:List Nat} {aK C CX CN CT CP CM CU:Addr} {f fT fB fP' fX fW:Addr} {fd dT' dB dP' dX dW:FuncData} {fI fA fQ fS fR:Addr} {dI dA' dQ dS dR':FuncData}
inductive zcE (W:List Nat) (CX CN CT CM:Addr):Sp | mk {vs H e2_ E} (s:Str) (o:Option Kd):vs=[.str s]→s.length≤1000000→Bad W s o→(∀ H',ao H H'→E (.ref (cls4 CX CN CT CM o)) none H')→zcE W CX CN CT CM vs H e2_ E
theorem zek:zaa ["text","rows","problem","row"] ["text"] (ad zfi):=⟨rfl,rfl,rfl,by decide +kernel,rfl,by decide +kernel,by decide +kernel⟩
set_option maxHeartbeats 4000000 in
theorem zkY (g:GW W) (F:Fun K "read" "read" zfi f fd) (T:Txt K mg aK C CN CT CP CM) (G:Own P w K mg base C CN CT CP CM fI fA fQ fS fR dI dA' dQ dS dR') (BT:FB P w K mg base (CX1 P w) 1 "text_rows" fT dT' ["text"] (zfh CX)) (BW:FB P w K mg base (CX1 P w) 48 "formed_row" fW dW ["text"] (zei W K CX)) (BP:FB P w K mg base (CX1 P w) 28 "add_part" fP' dP' ["problem","part"] (zeP K C CN CT CM)):FnOk P w K mg base (CX1 P w) 49 f fd ["text"] (zcE W CX CN CT CM):=by
 refine Fun.okX F zek (fun vs H Q E h=>?_) (fun cdv A outer s0 H vs Q E hr h=>?_)
 ·obtain⟨_,_,rfl,_⟩:=h
  rfl
 obtain⟨z,o,rfl,lz,hb,qE⟩:=h
 have hr1:zai 1 _:=hr.mono (by decide)
 have hr2:zai 2 _:=hr.mono (by decide)
 have hr4:zai 4 _:=hr.mono (by decide)
 have hr28:zai 28 _:=hr.mono (by decide)
 refine⟨_,(aj (zf4 (i:=1) (N':=["row"]) (ix:=[]) xe1 zek.nd rfl (Or.inl rfl) rfl rfl (by decide +kernel) (by decide +kernel) rfl (fun _=>⟨[],zcQ (by decide +kernel) (by decide +kernel)⟩) (by decide +kernel) rfl rfl (fun j i h=>by simp at h) (zcF (zad BT.ok hr1 rfl BT.m BT.kp BT.b .nil (zau xe1) (aa (pv 0) ac))) (fun _ _ _ _ _ hp=>(zad BW.ok hr rfl BW.m BW.kp BW.b .nil hp (aa (pv 0) ac))))
  (aj (zar (i:=2) zek.nd rfl (Or.inr rfl) (zj1 G.mI G.I hr2 rfl G.gI G.bI .nil zaz))
  (aj (zdg PassesOwn.leaving rfl (zcF (pv 1)) (zbv (i:=3) zek.nd rfl (Or.inl rfl))
   (ae (zba (zaZ (pv 2) T.cl G.mR G.R hr4 G.bR .nil (zau xe1) (aa (zi4 (N':=["part","problem"]) (ix:=[2]) xe1 rfl rfl (by decide +kernel) (by decide +kernel) rfl (fun ok=>zdX (sc:=ad zfi) ok rfl (by decide +kernel) (by decide +kernel)) (by decide +kernel) rfl rfl (fun j i h=>match j,h with | 0,h=>by cases h;exact⟨_,rfl,rfl,.inl rfl,.inl rfl⟩ | n+1,h=>by simp at h) (zcF (pv 3)) (fun _ _ _ _ _ hp=>(zad BP.ok hr28 rfl BP.m BP.kp BP.b .nil hp (aa (pv 1) (aa (pv 0) ac))))) ac)))))
  (ae (zab (pv 2)))))),?_⟩
 try dsimp only [Cx.nox,Cx.wish,zak]
 try dsimp only [Cx.nox,Cx.wish,zak]
 have key:(o=none∧∃ t,cp z=t++[98])∨∃ ls,Rws W z ls∧((o=none∧∃ l∈ls,frT l=none)∨∃(k:Kd) (rs:List (List Prt)),o=some k∧ls.map frT=rs.map some∧(∀ r∈rs,r.length≤300∧∀ p∈r,LwA (sPA W p.a))∧aRs (rs.map fun r=>r.map (sPt W))=.error k):=by
  cases o with
  | none =>
   rcases hb with h | ⟨ls,R,h⟩
   ·exact .inl ⟨rfl,h⟩
   ·exact .inr ⟨ls,R,.inl ⟨rfl,h⟩⟩
  | some k =>
   obtain⟨ls,rs,R,h1,h2,h3⟩:=hb
   exact .inr ⟨ls,R,.inr ⟨k,rs,rfl,h1,h2,h3⟩⟩
 rcases key with ⟨rfl,ht⟩ | ⟨ls,R,alt⟩
 ·exact⟨_,rfl,z,rfl,lz,.inl ⟨ht,fun H1 s1=>qE H1 s1⟩⟩
 have l300:=R.ln
 refine⟨_,rfl,z,rfl,lz,.inr ⟨ls.map (zb1 W),R.tx,fun r hr'=>?_,fun H1 x1 s1 nx1 hx1=>?_⟩⟩
 ·obtain⟨l,hl,rfl⟩:=List.mem_map.mp hr'
  rw[zb1,zaN]
  exact ziY g (R.row l hl).2
 have xl:((ls.map (zb1 W)).map V.str).length=ls.length:=by rw[List.length_map,List.length_map]
 refine⟨x1,rfl,⟨_,SqL.of hx1⟩,fun D hD=>?_⟩
 refine zcv zcC (fun i us H'=>ao H1 H'∧V.ref D∉us∧∃ rs:List (List Prt),(ls.take i).map frT=rs.map some∧RowsL K H' us (rs.map fun r=>r.map (sPt W))) (fun i us H' ⟨s',_⟩=>SqL.of (s' _ _ hx1)) ⟨zae hD _,(fun h=>nomatch h),[],rfl,rfl,fun i u r e=>by simp at e⟩ ?_ ?_
 ·rintro i us H8 x H4 hi hly hDs ⟨s4,nD,rs,ers,hus⟩ ⟨rfl,hx⟩
  have hx4:=hx _ (SqL.of (s4 _ _ hx1))
  rw[List.map_map,List.getElem?_map]at hx4
  obtain⟨t,ht,rfl⟩:=Option.map_eq_some_iff.mp hx4
  have tm:=List.mem_of_getElem? ht
  refine⟨_,rfl,_,t,rfl,(by show cp (zb1 W t)=_;rw[zb1,zaN]),(R.row t tm).1,fun e H5 s5=>?_,fun r er H5 l5 xs5 s5 n5 h5 hx5=>?_⟩
  ·have eo:o=none:=by
    rcases alt with ⟨h,_⟩ | ⟨k,rs',_,h,_⟩
    ·exact h
    ·exact absurd e (zcV h t tm)
   subst eo
   exact qE H5 ((s1.trans s4).trans s5)
  have lD:l5≠D:=fun e=>by rw[e,hDs]at n5;cases n5
  have kt:=C06.KeepT.but (o:=.lst (us++[V.ref l5])) (s5 _ _ hDs) (fun _ e=>by cases e) (fun _ _ e=>by cases e)
  have el:rs.length=us.length:=by rw[hus.1,List.length_map]
  refine zbH (F06.sz _ (by rw[xl];omega)) hi hly (s5 _ _ hDs) ⟨(s4.trans s5).upd hD,?_,rs++[r],?_,?_⟩
  ·intro hm
   rcases List.mem_append.mp hm with hm | hm
   ·exact nD hm
   ·have:=List.mem_singleton.mp hm
    injection this with this
    exact lD this.symm
  ·rw[zd0 ht,List.map_append,List.map_append,ers]
   simp [er]
  ·rw[List.map_append]
   refine⟨by rw[List.length_append,List.length_append,hus.1];rfl,fun j u r' e1 e2=>?_⟩
   rcases zjT e1 with ⟨e1',jl⟩ | ⟨ej,eu⟩
   ·rw[List.getElem?_append_left (by rw[←hus.1];exact jl)]at e2
    obtain⟨l,xs,rfl,hl,hxs⟩:=hus.2 j u r' e1' e2
    have nl:l≠D:=fun e=>nD (e ▸ List.mem_of_getElem? e1')
    exact⟨l,xs,rfl,by rw[ai nl];exact s5 _ _ hl,(hxs.keep s5.kt (zbC _)).keep kt (zbC _)⟩
   ·rw[ej,hus.1,List.getElem?_append_right (Nat.le_refl _),Nat.sub_self]at e2
    cases e2
    refine⟨l5,xs5,eu.symm,by rw[ai lD];exact h5,?_⟩
    have e9:(r.map fun x=>dPt (sPt W x))=(r.map (sPt W)).map dPt:=by rw[List.map_map];rfl
    rw[e9]at hx5
    exact hx5.keep kt (zbC _)
 rintro us H4 hDs ⟨s4,nD,rs,ers,hus⟩
 rw[xl,List.take_length]at ers
 obtain⟨k,rfl,lw,hk⟩:∃ k,o=some k∧(∀ r∈rs,r.length≤300∧∀ p∈r,LwA (sPA W p.a))∧aRs (rs.map fun r=>r.map (sPt W))=.error k:=by
  rcases alt with ⟨_,l,hl,e⟩ | ⟨k,rs',h,h1,h2,h3⟩
  ·exact absurd e (zcV ers l hl)
  ·have e:rs'=rs:=by
    have:=h1.symm.trans ers
    exact List.map_inj_right (f:=some) (fun _ _ h=>Option.some.inj h) |>.mp this
   subst e
   exact⟨k,h,h2,h3⟩
 have lw':∀ r∈rs.map (fun r=>r.map (sPt W)),r.length≤300∧∀ p∈r,LwA p.a:=fun r hr'=>by
  obtain⟨r1,h1,rfl⟩:=List.mem_map.mp hr'
  refine⟨by rw[List.length_map];exact(lw r1 h1).1,fun p hp=>?_⟩
  obtain⟨p1,h2,rfl⟩:=List.mem_map.mp hp
  exact(lw r1 h1).2 p1 h2
 generalize (rs.map fun r=>r.map (sPt W))=qs at hus hk lw'
 have s04:=s1.trans s4
 intro p dx np ndx nex
 refine⟨p,dx,rfl,ag,fun tl al rl H5 ht ha hrr e1 e2 e3 k1 k2 k3 k4 k5=>⟨rfl,?_⟩⟩
 obtain⟨pr5,s5,ft,fa,fr⟩:=made (K:=K) np ndx nex ht ha hrr e1 e2 e3 k1 k2 k3 k4 k5
 have sm:∀ {H':Hp},Fr3 H5 H' tl al rl→ao H4 H':=fun f' b o e=>f' _ _ (s5 _ _ e) (zan e ft) (zan e fa) (zan e fr)
 have ul:us.length=qs.length:=hus.1
 refine⟨_,rfl,D,rfl,⟨_,SqL.of (s5 _ _ hDs)⟩,for_by zcC (fun i σ H'=>(∃ v3:Option V,σ=[some (.str z),some (.ref D),some (.ref p),v3])∧Fr3 H5 H' tl al rl∧∃ st us',goE zaQ ini (qs.take i)=.ok (st,us')∧zaC K C H' p tl al rl st.1.T st.1.A st.2) (fun i σ H' ⟨_,f',_⟩=>SqL.of (sm f' _ _ hDs)) ⟨⟨none,rfl⟩,Fr3.of_same (ao.refl _),ini,[],rfl,pr5⟩ ?_ ?_⟩
 ·rintro i σ H9 x H6 hi ⟨⟨v3,rfl⟩,f6,st,us1,est,pr6⟩ ⟨rfl,hx⟩
  have s46:=sm f6
  have hx6:=hx _ (SqL.of (s46 _ _ hDs))
  have il:i < qs.length:=by rw[←ul];exact hi
  have er:qs[i]?=some qs[i]:=List.getElem?_eq_getElem il
  generalize qs[i]=r at er
  have rm:=List.mem_of_getElem? er
  obtain⟨l,xs,rfl,hl,hxs⟩:=hus.2 i x r hx6 er
  have hl6:=s46 _ _ hl
  have hxs6:=hxs.keep s46.kt (zbC _)
  have xsl:xs.length=r.length:=by rw[←hxs.length,List.length_map]
  obtain⟨r300,rlw⟩:=lw' r rm
  obtain⟨m6,R6⟩:=zji est ⟨Nat.zero_le _,Nat.zero_le _⟩ (Nat.zero_le _)
  obtain⟨g1,g2⟩:=zdD er est
  have ue:∀ k',zaQ st r=.error k'→k'=k:=fun k' e=>by
   have h1:=g1 k' e
   have h2:goE zaQ ini qs=.error k:=hk
   rw[h1]at h2
   injection h2
  obtain⟨⟨dx6,ho6⟩,⟨_,ht6,_⟩,⟨_,ha6,_⟩,⟨_,hr6,_⟩,_⟩:=id pr6
  have l1:l≠tl:=fun e=>by rw[e]at hl;exact absurd hl (by rw[ft];simp)
  have l2:l≠al:=fun e=>by rw[e]at hl;exact absurd hl (by rw[fa];simp)
  have l3:l≠rl:=fun e=>by rw[e]at hl;exact absurd hl (by rw[fr];simp)
  refine⟨_,rfl,p,dx6,_,rfl,ho6,ziF _ _ _,_,rfl,l,rfl,⟨_,SqL.of hl6⟩,fun U hU=>?_⟩
  obtain⟨u1,u2,u3⟩:=pr6.ne3 hU
  refine zcv zcC (fun j us' H'=>Fr3 H6 H' tl al rl∧∃ s6 ks,goE aPt st.1 (r.take j)=.ok (s6,ks)∧zaC K C H' p tl al rl s6.T s6.A st.2∧us'=ks.map V.int) (fun j us' H' ⟨f',_⟩=>SqL.of (f' _ _ hl6 l1 l2 l3)) ⟨Fr3.of_same (zae hU _),st.1,[],rfl,pr6.same (zae hU _),rfl⟩ ?_ ?_
  ·rintro j us' H10 x H7 hj hly hUs ⟨f7,s6,ks,e6,pr7,rfl⟩ ⟨rfl,hx7⟩
   have hl7:=f7 _ _ hl6 l1 l2 l3
   have hxj:=hx7 _ (SqL.of hl7)
   obtain⟨d,hd,hxd⟩:=aq.get (hxs6.keep (pr6.kt3 f7) (zbC _)) hxj
   rw[List.getElem?_map]at hd
   cases ep:r[j]? with
   | none=>rw[ep]at hd;cases hd
   | some pt =>
    rw[ep]at hd
    cases hd
    have pm:=List.mem_of_getElem? ep
    obtain⟨m7,_⟩:=zfp e6 m6
    obtain⟨p1,p2⟩:=zdD ep e6
    refine⟨_,rfl,_,rfl,p,tl,al,rl,s6,st.2,pt,x,rfl,pr7,hxd,rlw pt pm,m7,fun s8 n8 e8 H8 pr8 f8=>?_,fun k8 e8 H8 f8=>?_⟩
    ·have hU8:=f8 _ _ hUs u1 u2 u3
     have pr9:=fun o'=>pr8.keep (z:=U) (H':=upd H8 U o') (fun c o hc hn=>by rw[ai hn];exact hc) hU8 u1 u2 u3
     refine zbH (F06.sz _ (by rw[xsl];omega)) hj hly hU8 ⟨fun c o hc m1 m2 m3=>?_,s8,_,p2 s8 n8 e8,pr9 _,by rw[List.map_append];rfl⟩
     rw[ai (fun e=>by rw[e,hU]at hc;cases hc)]
     exact f8 _ _ (f7 _ _ hc m1 m2 m3) m1 m2 m3
    ·have ek:=ue k8 (by unfold zaQ;rw[p1 k8 e8])
     subst ek
     exact qE H8 (s04.trans (sm (f6.trans (f7.trans f8))))
  ·rintro us' H7 hUs ⟨f7,s6,ks,e6,pr7,rfl⟩
   rw[xsl,List.take_length]at e6
   obtain⟨m7,_,kl,k7⟩:=zfp e6 m6
   have a40:=m7.a
   refine⟨p,tl,al,rl,U,s6.T,s6.A,st.2,ks,rfl,pr7,.inl (SqL.of hUs),by omega,fun k hk=>by have:=k7 k hk;omega,by omega,?_⟩
   unfold zcK
   have na:¬ks.any (zbm s6.A.length)=true:=by
    rw[List.any_eq_true]
    rintro ⟨k,hk,e⟩
    have:=k7 k hk
    simp only[zbm,Bool.or_eq_true,decide_eq_true_eq]at e
    omega
   rw[if_neg na]
   have er2:zaQ st r=if 20 < ks.length then .error .many else if 200≤st.2.length then .error .many else .ok ((s6,st.2++[zaG [] ks]),()):=by
    unfold zaQ
    rw[e6]
   by_cases c1:20 < ks.length
   ·rw[if_pos c1]at er2
    rw[if_pos c1]
    have ek:=ue _ er2
    subst ek
    exact fun H8 s8=>qE H8 (s04.trans (sm (f6.trans (f7.trans (Fr3.of_same s8)))))
   rw[if_neg c1]at er2 ⊢
   by_cases c2:200≤st.2.length
   ·rw[if_pos c2]at er2
    rw[if_pos c2]
    have ek:=ue _ er2
    subst ek
    exact fun H8 s8=>qE H8 (s04.trans (sm (f6.trans (f7.trans (Fr3.of_same s8)))))
   rw[if_neg c2]at er2 ⊢
   intro H8 pr8 f8
   exact⟨⟨_,rfl⟩,f6.trans (f7.trans (Fr3.of2 f8)),_,_,g2 _ _ er2,pr8⟩
 ·rintro σ H6 ⟨⟨v3,rfl⟩,f6,st,us1,est,pr6⟩
  rw[ul,List.take_length]at est
  have h2:goE zaQ ini qs=.error k:=hk
  rw[est]at h2
  cases h2
end
end K06
namespace K06
open PySem L2
open F06 (Tr dTr zaK szM)
open C06 (PA Prt dPA dPt sPA sPt sT sTs sN GW sub cp zaN nmS zdi zaA zbG av isW zcG zbY zbi zes zjo)
def okN (n:Str):Bool:=(cp n == [64])||!(cp n).contains 64
def gnm (n:Str):Bool:=(cp n == [64])||(!(cp n).contains 64&&za3 n)
theorem kept_b:∀ z∈(["or","and","not","never","always","then","as","unlike"]:List Str),98∉cp z:=by decide +kernel
theorem zhk {z:Str}:∀ {zs:List Str},inV (.str z) (zs.map V.str)=true→z∈zs
 | [],h=>by cases h
 | y :: ys,h=>by
  simp only[List.map_cons,inV]at h
  rw[List.any_cons,Bool.or_eq_true]at h
  rcases h with h | h
  ·have e:y=z:=eq_of_beq h
   rw[e];simp
  ·exact List.mem_cons_of_mem _ (zhk h)
theorem zfX {W:List Nat} (g:GW W):za3 (nmS W)=true:=by
 obtain⟨t,ht⟩:=g.hd
 have hl:(nmS W).length=W.length:=by rw[←av,zaN]
 have l1:1≤W.length:=by rw[ht];simp
 have l7:=g.ln
 unfold za3 wordB
 rw[decide_eq_true (by omega:(0:Int) < ((nmS W).length:Int)),decide_eq_true (by omega:((nmS W).length:Int)≤8),Bool.true_and,Bool.true_and,Bool.and_eq_true]
 refine⟨?_,?_⟩
 ·unfold lets
  rw[List.all_map,List.all_eq_true]
  intro c hc
  have hc':c∈W:=by
   have:c∈cp (nmS W):=hc
   rw[zaN]at this
   exact this
  have all:∀ c∈cp C06.abc,isL ⟨#[c]⟩=true:=by decide +kernel
  exact all c (g.ab c hc')
 ·rw[Bool.not_eq_true',Bool.eq_false_iff]
  intro h
  have hk:zfc=(["or","and","not","never","always","then","as","unlike"]:List Str).map V.str:=rfl
  rw[hk]at h
  have:=kept_b _ (zhk h)
  rw[zaN,ht]at this
  exact this (by simp)
theorem nm_eq {W:List Nat} (g:GW W) {n:Str} (h:okN n=true):za3 (sN W n)=gnm n:=by
 unfold okN at h
 unfold gnm
 by_cases e:cp n=[64]
 ·rw[e]
  have:sN W n=nmS W:=by
   unfold sN
   rw[e]
   simp [sub]
  rw[this,zfX g]
  rfl
 ·have e':(cp n == [64])=false:=by rw[beq_eq_false_iff_ne];exact e
  rw[e',Bool.false_or]at h ⊢
  have hn:64∉cp n:=by simpa using h
  rw[h,Bool.true_and]
  unfold sN
  rw[zaA W hn,zdi]
mutual
def okT:Tr→Bool
 | .node n ts=>okN n&&(decide ((cp n).length≤14)&&((cp n).all isW&&(decide (ts.length≤10)&&okTs ts)))
def okTs:List Tr→Bool
 | []=>true
 | t :: ts=>okT t&&okTs ts
end
theorem zjc {W:List Nat} (g:GW W) {n:Str} (h1:(cp n).length≤14) (h2:(cp n).all isW=true):Low (sN W n):=by
 refine⟨?_,fun c hc=>?_⟩
 ·rw[←av]
  unfold sN
  rw[zaN]
  have:=zbi g (cp n)
  omega
 ·have hc':c∈sub W (cp n):=by
   have:c∈cp (sN W n):=hc
   unfold sN at this
   rw[zaN]at this
   exact this
  have:=C06.sub_ab g (a:=cp n) (fun d hd=>List.all_eq_true.mp h2 d hd) c hc'
  have:=zbY.mp this
  omega
mutual
theorem zgQ {W:List Nat} (g:GW W):∀ {t:Tr},okT t=true→LwT (sT W t)
 | .node n ts,h=>by
  simp only[okT,Bool.and_eq_true,decide_eq_true_eq]at h
  obtain⟨_,h2,h3,h4,h5⟩:=h
  simp only[sT,LwT]
  exact⟨zjc g h2 h3,by rw[zbG,List.length_map];exact h4,zhW g h5⟩
theorem zhW {W:List Nat} (g:GW W):∀ {ts:List Tr},okTs ts=true→zeE (sTs W ts)
 | [],_=>by simp only[sTs,zeE]
 | t :: ts,h=>by
  simp only[okTs,Bool.and_eq_true]at h
  simp only[sTs,zeE]
  exact⟨zgQ g h.1,zhW g h.2⟩
end
mutual
def fT:Tr→Option Kd
 | .node n ts=>match fTs ts with
  | some k=>some k
  | none=>if gnm n=false then some .name else if 3 < ts.length then some .term else none
def fTs:List Tr→Option Kd
 | []=>none
 | t :: ts=>match fT t with
  | some k=>some k
  | none=>fTs ts
end
mutual
def szT:Tr→Nat
 | .node _ ts=>1+szTs ts
def szTs:List Tr→Nat
 | []=>0
 | t :: ts=>szT t+szTs ts
end
mutual
theorem aT_f {W:List Nat} (g:GW W):∀ {t:Tr} {T:List Tm},okT t=true→T.length+szT t≤60→(fT t=none→∃ T' k,aT T (sT W t)=.ok (T',k)∧T'.length≤T.length+szT t)∧∀ k,fT t=some k→aT T (sT W t)=.error k
 | .node n ts,T,h,hl=>by
  simp only[okT,Bool.and_eq_true,decide_eq_true_eq]at h
  obtain⟨h1,_,_,_,h5⟩:=h
  simp only[szT]at hl
  obtain⟨i1,i2⟩:=aTs_f g (T:=T) h5 (by omega)
  simp only[fT,sT,aT]
  cases e:fTs ts with
  | some k1 =>
   rw[i2 k1 e]
   dsimp only
   exact⟨fun z=>(by cases z),fun k z=>by cases z;rfl⟩
  | none =>
   obtain⟨T1,ks,e1,l1,kl⟩:=i1 e
   rw[e1]
   dsimp only
   unfold zdL
   rw[nm_eq g h1]
   by_cases c1:gnm n=false
   ·rw[if_pos c1,if_pos c1]
    exact⟨fun z=>(by cases z),fun k z=>by cases z;rfl⟩
   rw[if_neg c1,if_neg c1,kl]
   by_cases c2:3 < ts.length
   ·rw[if_pos c2,if_pos c2]
    exact⟨fun z=>(by cases z),fun k z=>by cases z;rfl⟩
   rw[if_neg c2,if_neg c2]
   refine⟨fun _=>?_,fun k z=>by cases z⟩
   by_cases c3:(sN W n,ks)∈T1
   ·rw[if_pos c3]
    exact⟨_,_,rfl,by simp only[szT];omega⟩
   ·rw[if_neg c3,if_neg (by omega)]
    refine⟨_,_,rfl,?_⟩
    rw[List.length_append]
    simp only[szT]
    show _+1≤_
    omega
theorem aTs_f {W:List Nat} (g:GW W):∀ {ts:List Tr} {T:List Tm},okTs ts=true→T.length+szTs ts≤60→(fTs ts=none→∃ T' ks,aTs T (sTs W ts)=.ok (T',ks)∧T'.length≤T.length+szTs ts∧ks.length=ts.length)∧∀ k,fTs ts=some k→aTs T (sTs W ts)=.error k
 | [],T,_,_=>⟨fun _=>⟨T,[],rfl,by omega,rfl⟩,fun k z=>by cases z⟩
 | t :: ts,T,h,hl=>by
  simp only[okTs,Bool.and_eq_true]at h
  simp only[szTs]at hl
  obtain⟨i1,i2⟩:=aT_f g (T:=T) h.1 (by omega)
  simp only[fTs,sTs,aTs]
  cases e:fT t with
  | some k1 =>
   rw[i2 k1 e]
   exact⟨fun z=>(by cases z),fun k z=>by cases z;rfl⟩
  | none =>
   obtain⟨T1,k1,e1,l1⟩:=i1 e
   rw[e1]
   dsimp only
   obtain⟨j1,j2⟩:=aTs_f g (T:=T1) h.2 (by omega)
   refine⟨fun z=>?_,fun k z=>by rw[j2 k z]⟩
   obtain⟨T2,ks,e2,l2,kl⟩:=j1 z
   rw[e2]
   exact⟨_,_,rfl,by simp only[szTs];omega,by rw[List.length_cons,List.length_cons,kl]⟩
end
def okA:PA→Bool
 | .plain z=>okN z&&(decide ((cp z).length≤14)&&(cp z).all isW)
 | .same t u=>okT t&&(okT u&&(decide (F06.dp t≤21)&&decide (F06.dp u≤21)))
mutual
theorem zff (W:List Nat):∀ t:Tr,F06.dp (sT W t)=F06.dp t
 | .node n ts=>by simp only[sT,F06.dp,zdW W ts]
theorem zdW (W:List Nat):∀ ts:List Tr,F06.dps (sTs W ts)=F06.dps ts
 | []=>rfl
 | t :: ts=>by simp only[sTs,F06.dps,zff W t,zdW W ts]
end
theorem okA_lw {W:List Nat} (g:GW W) {a:PA} (h:okA a=true):LwA (sPA W a):=by
 cases a with
 | plain z =>
  simp only[okA,Bool.and_eq_true,decide_eq_true_eq]at h
  exact zjc g h.2.1 h.2.2
 | same t u =>
  simp only[okA,Bool.and_eq_true,decide_eq_true_eq]at h
  obtain⟨h1,h2,h3,h4⟩:=h
  exact⟨zgQ g h1,zgQ g h2,by rw[zff];exact h3,by rw[zff];exact h4⟩
def fA:PA→Option Kd
 | .plain z=>if gnm z=false then some .name else none
 | .same t u=>match fT t with
  | some k=>some k
  | none=>fT u
def szA:PA→Nat
 | .plain _=>0
 | .same t u=>szT t+szT u
theorem zgG {A:List At} {a:At} (h:A.length+1≤40):∃ A' n,zc7 A a=.ok (A',n)∧A'.length≤A.length+1:=by
 unfold zc7
 by_cases c:a∈A
 ·rw[if_pos c]
  exact⟨_,_,rfl,by omega⟩
 ·rw[if_neg c,if_neg (by omega)]
  exact⟨_,_,rfl,by rw[List.length_append];exact Nat.le_refl _⟩
theorem aPA_f {W:List Nat} (g:GW W) {s:S6} {a:PA} (h:okA a=true) (ht:s.T.length+szA a≤60) (ha:s.A.length+1≤40):(fA a=none→∃ s' n,aPA s (sPA W a)=.ok (s',n)∧s'.T.length≤s.T.length+szA a∧s'.A.length≤s.A.length+1)∧∀ k,fA a=some k→aPA s (sPA W a)=.error k:=by
 cases a with
 | plain z =>
  simp only[okA,Bool.and_eq_true]at h
  simp only[fA,sPA,aPA]
  rw[nm_eq g h.1]
  by_cases c:gnm z=false
  ·rw[if_pos c,if_pos c]
   exact⟨fun z=>(by cases z),fun k z=>by cases z;rfl⟩
  rw[if_neg c,if_neg c]
  refine⟨fun _=>?_,fun k z=>by cases z⟩
  obtain⟨A',n,e,l⟩:=zgG (a:=.plain (sN W z)) ha
  rw[e]
  exact⟨_,_,rfl,by simp only[szA];omega,l⟩
 | same t u =>
  simp only[okA,Bool.and_eq_true]at h
  simp only[szA]at ht
  obtain⟨i1,i2⟩:=aT_f g (T:=s.T) h.1 (by omega)
  simp only[fA,sPA,aPA]
  cases e:fT t with
  | some k1 =>
   rw[i2 k1 e]
   exact⟨fun z=>(by cases z),fun k z=>by cases z;rfl⟩
  | none =>
   obtain⟨T1,k1,e1,l1⟩:=i1 e
   rw[e1]
   dsimp only
   obtain⟨j1,j2⟩:=aT_f g (T:=T1) h.2.1 (by omega)
   refine⟨fun z=>?_,fun k z=>by rw[j2 k z]⟩
   obtain⟨T2,k2,e2,l2⟩:=j1 z
   rw[e2]
   dsimp only
   by_cases c:At.same (k2:Nat) (k1:Nat)∈s.A
   ·rw[if_pos c]
    exact⟨_,_,rfl,by simp only[szA];omega,by show s.A.length≤_;omega⟩
   ·rw[if_neg c]
    obtain⟨A',n,e3,l3⟩:=zgG (a:=.same (k1:Nat) (k2:Nat)) ha
    rw[e3]
    exact⟨_,_,rfl,by simp only[szA];omega,l3⟩
def fR:List Prt→Option Kd
 | []=>none
 | p :: r=>match fA p.a with
  | some k=>some k
  | none=>fR r
def szR:List Prt→Nat
 | []=>0
 | p :: r=>szA p.a+szR r
def okR (r:List Prt):Bool:=r.all fun p=>okA p.a
theorem zit {W:List Nat} (g:GW W):∀ {r:List Prt} {s:S6},okR r=true→s.T.length+szR r≤60→s.A.length+r.length≤40→(fR r=none→∃ s' ks,goE aPt s (r.map (sPt W))=.ok (s',ks)∧s'.T.length≤s.T.length+szR r∧s'.A.length≤s.A.length+r.length∧ks.length=r.length)∧∀ k,fR r=some k→goE aPt s (r.map (sPt W))=.error k
 | [],s,_,_,_=>⟨fun _=>⟨s,[],rfl,by omega,by simp,rfl⟩,fun k z=>by cases z⟩
 | p :: r,s,h,ht,ha=>by
  simp only[okR,List.all_cons,Bool.and_eq_true]at h
  simp only[szR]at ht
  rw[List.length_cons]at ha
  obtain⟨i1,i2⟩:=aPA_f g (s:=s) h.1 (by omega) (by omega)
  simp only[fR,List.map_cons,goE,aPt,sPt]
  cases e:fA p.a with
  | some k1 =>
   rw[i2 k1 e]
   exact⟨fun z=>(by cases z),fun k z=>by cases z;rfl⟩
  | none =>
   obtain⟨s1,n1,e1,l1,l2⟩:=i1 e
   rw[e1]
   dsimp only
   obtain⟨j1,j2⟩:=zit g (r:=r) (s:=s1) h.2 (by omega) (by omega)
   refine⟨fun z=>?_,fun k z=>?_⟩
   ·obtain⟨s2,ks,e2,l3,l4,kl⟩:=j1 z
    have e2':goE aPt s1 (List.map (sPt W) r)=.ok (s2,ks):=e2
    rw[e2']
    exact⟨_,_,rfl,by simp only[szR];omega,by rw[List.length_cons];omega,by rw[List.length_cons,List.length_cons,kl]⟩
   ·have e2':goE aPt s1 (List.map (sPt W) r)=.error k:=j2 k z
    rw[e2']
theorem zlh {rs qs:List (List Prt)} {st:S6 × List (List Int)} {k:Kd} (h:goE zaQ st rs=.error k):goE zaQ st (rs++qs)=.error k:=by
 induction rs generalizing st with
 | nil=>cases h
 | cons r rs ih =>
  simp only[List.cons_append,goE]at h ⊢
  cases e:zaQ st r with
  | error x=>rw[e]at h;exact h
  | ok x =>
   obtain⟨s1,u⟩:=x
   rw[e]at h
   dsimp only at h ⊢
   cases e2:goE zaQ s1 rs with
   | error y =>
    rw[e2]at h
    cases h
    rw[ih e2]
   | ok y=>rw[e2]at h;cases h
structure GR (r:List Prt):Prop where
 ok:okR r=true
 f:fR r=none
 sz:szR r≤8
 ln:r.length≤2
theorem zg5 {W:List Nat} (g:GW W) {b:List Prt} {k:Kd} {rest:List (List Prt)} (hb:okR b=true) (fb:fR b=some k) (sb:szR b≤20) (lb:b.length≤22):∀ {gs:List (List Prt)} {st:S6 × List (List Int)},(∀ r∈gs,GR r)→st.1.T.length+8 * gs.length≤40→st.1.A.length+2 * gs.length≤18→st.2.length+gs.length≤199→goE zaQ st ((gs++b :: rest).map fun r=>r.map (sPt W))=.error k
 | [],st,_,ht,ha,hr=>by
  obtain⟨_,i2⟩:=zit g (r:=b) (s:=st.1) hb (by simp at ht;omega) (by simp at ha;omega)
  have e:zaQ st (b.map (sPt W))=.error k:=by
   unfold zaQ
   rw[i2 k fb]
  simp only[List.nil_append,List.map_cons,goE,e]
 | r :: gs,st,hg,ht,ha,hr=>by
  have gr:=hg r (by simp)
  have:=gr.sz
  have:=gr.ln
  rw[List.length_cons]at ht ha hr
  obtain⟨i1,_⟩:=zit g (r:=r) (s:=st.1) gr.ok (by omega) (by omega)
  obtain⟨s1,ks,e1,l1,l2,kl⟩:=i1 gr.f
  have e:zaQ st (r.map (sPt W))=.ok ((s1,st.2++[zaG [] ks]),()):=by
   unfold zaQ
   rw[e1]
   dsimp only
   rw[if_neg (by omega),if_neg (by omega)]
  have ih:=zg5 g (rest:=rest) hb fb sb lb (gs:=gs) (st:=(s1,st.2++[zaG [] ks])) (fun r hr=>hg r (List.mem_cons_of_mem _ hr)) (by dsimp only;omega) (by dsimp only;omega) (by dsimp only;rw[List.length_append];show _+1+_≤_;omega)
  simp only[List.cons_append,List.map_cons,goE,e]
  rw[ih]
end K06
namespace L2
open PySem PySem.Spec PyProof.Rows
def zb6 (z:Str) (k:Nat):Str:=⟨(List.replicate k z.cps).foldl (·++·) #[]⟩
theorem zhm (a:Array Nat):∀(k:Nat) (acc:Array Nat),((List.replicate k a).foldl (·++·) acc).toList=acc.toList++(List.replicate k a.toList).flatten
 | 0,acc=>by simp
 | k+1,acc=>by
  rw[List.replicate_succ,List.foldl_cons,zhm a k,List.replicate_succ,List.flatten_cons,Array.toList_append,List.append_assoc]
theorem zko (z:Str) (k:Nat):(zb6 z k).cps.toList=(List.replicate k z.cps.toList).flatten:=by
 unfold zb6
 rw[zhm]
 rfl
theorem zke (z:Str) (k:Nat):(zb6 z k).length=k * z.length:=by
 have h:=congrArg List.length (zko z k)
 rw[zhY]at h
 simpa [Str.length] using h
section
variable {X:Cx}
inductive rRepS:R2 | mk {x y H Q} (z:Str) (n:Int):x=.str z→y=.int n→1≤n→n≤1000→z.length≤1000→z.length≠0→Q (.str (zb6 z n.toNat)) H→rRepS x y H Q
theorem zep:OpR X (binaryOp .Mult) rRepS:=by
 intro pins s σ H x y v u Q I rx ry h
 obtain⟨z,n,rfl,rfl,h1,h2,h3,h4,q⟩:=h
 obtain⟨t,rfl⟩:=rx
 obtain⟨t',rfl⟩:=ry
 have ll:z.length * n.toNat≤1000 * 1000:=Nat.mul_le_mul h3 (by omega)
 refine PySem.P.mul_str (by rw[decide_eq_false (by omega),decide_eq_false (by omega)];rfl) (fun _ _=>?_) (fun _ _=>?_) ?_
 ·have:(1000000000:Int)≤(2 ^ 63 - 1) / n:=by
   refine Int.le_ediv_of_mul_le (by omega) ?_
   omega
  omega
 ·have hz:z.length * n.toNat≤sizeLine:=Nat.le_trans ll (by decide)
  unfold Builtin.Str.tooLong
  exact decide_eq_false (by omega)
 ·rw[if_neg (by omega)]
  by_cases e:n=1
  ·subst e
   rw[if_pos (by simp)]
   have ez:zb6 z (1:Int).toNat=z:=by
    unfold zb6
    show(⟨#[]++z.cps⟩:Str)=z
    rw[Array.empty_append]
   rw[ez]at q
   exact⟨.str z,H,I,⟨_,rfl⟩,q⟩
  ·rw[if_neg (by simp [e,h4])]
   refine⟨?_,.str _,H,I.tok _,⟨_,rfl⟩,q⟩
   have:=zke z n.toNat
   unfold zb6 at this
   rw[this,Nat.mul_comm]
   exact Nat.le_trans ll (by decide)
end
end L2
namespace L2
open PySem PySem.Spec PySem.Calls PyProof.Rows PySem.W PySem.Builtin PySem.Builtin.ObjectAttr PySem.Builtin.Getset_descriptor
section
variable {prog:Program} {w:World} {A:Around} {E:Value→Shared→Prop} {s:Shared} {K:Frag} {x C:Addr}
end
section
variable {X:Cx}
end
end L2
namespace K06
open PySem L2
open F06 (Tr dTr zaK szM ap)
open C06 (PA Prt dPA dPt sPA sPt sT sTs sN GW sub cp zaN nmS zdi zaA zaH zbG av zap zaO isW RT frT zb1 zao zcc zeH)
theorem at64:("@":Str)=⟨#[64]⟩:=by decide +kernel
theorem zhf (z:Str):∀ {ps:List Str},(∀ p∈ps,64∉cp p)→ps≠[]→cp (Str.join z ps)=sub (cp z) (cp (Str.join ⟨#[64]⟩ ps))
 | [],_,h=>absurd rfl h
 | [p],h,_=>(zaA _ (h p (by simp))).symm
 | p :: q :: r,h,_=>by
  have ih:=zhf z (ps:=q :: r) (fun x hx=>h x (List.mem_cons_of_mem _ hx)) (by simp)
  have e1:cp (Str.join z (p :: q :: r))=cp p++(cp z++cp (Str.join z (q :: r))):=by
   show cp (p++z++Str.join z (q :: r))=_
   rw[zap,zap,List.append_assoc]
  have e2:cp (Str.join ⟨#[64]⟩ (p :: q :: r))=cp p++64 :: cp (Str.join ⟨#[64]⟩ (q :: r)):=zcc 64 p q r
  rw[e1,e2,zaH,zaA _ (h p (by simp)),ih]
  simp only[sub,if_true]
theorem zdn (x z:Str):cp (Txt.replace x "@" z)=sub (cp z) (cp x):=by
 rw[at64,StrLaws.replace_one,zhf z (StrLaws.split_free x 64) (zeH _ _),StrLaws.join_split]
structure zc9 (l:List Nat):Prop where
 rt:RT l
 nl:10∉l
def rowB (l:List Nat):Bool:=!l.contains 0&&(!l.contains 10&&(decide (l.length≤150)&&(decide (l.count 64≤40)&&l.all fun c=>decide (c < 1000))))
theorem zhO {l:List Nat} (h:rowB l=true):zc9 l:=by
 unfold rowB at h
 simp only[Bool.and_eq_true,Bool.not_eq_true',decide_eq_true_eq,List.all_eq_true]at h
 obtain⟨h1,h2,h3,h4,h5⟩:=h
 exact⟨⟨by simpa using h1,h3,h4,h5⟩,by simpa using h2⟩
def BadR (W:List Nat) (z:Str):Prop:=∃ l,cp z=sub W l∧zc9 l∧frT l=none
def KdR (k:Kd) (W:List Nat) (z:Str):Prop:=∃ l r,cp z=sub W l∧zc9 l∧frT l=some r∧okR r=true∧fR r=some k∧szR r≤20∧r.length≤22
def zcZ (W:List Nat) (z:Str):Prop:=∃ l r,cp z=sub W l∧zc9 l∧frT l=some r∧GR r
def OkR (W:List Nat) (z:Str):Prop:=∃ l r,cp z=sub W l∧zc9 l∧frT l=some r∧okR r=true∧r.length≤300
theorem KdR.ok {k:Kd} {W:List Nat} {z:Str} (h:KdR k W z):OkR W z:=by
 obtain⟨l,r,h1,h2,h3,h4,_,_,h7⟩:=h
 exact⟨l,r,h1,h2,h3,h4,by omega⟩
def zeC (l:List Nat):Bool:=rowB l&&(frT l).isNone
theorem zdt {W:List Nat} {z:Str} {l:List Nat} (h:zeC l=true) (e:cp z=sub W l):BadR W z:=by
 unfold zeC at h
 rw[Bool.and_eq_true]at h
 exact⟨l,e,zhO h.1,Option.isNone_iff_eq_none.mp h.2⟩
def zcr (p:List Prt→Bool) (l:List Nat):Bool:=rowB l&&match frT l with
 | none=>false
 | some r=>okR r&&p r
theorem zdm {p:List Prt→Bool} {l:List Nat} (h:zcr p l=true):zc9 l∧∃ r,frT l=some r∧okR r=true∧p r=true:=by
 unfold zcr at h
 rw[Bool.and_eq_true]at h
 refine⟨zhO h.1,?_⟩
 have h2:=h.2
 cases e:frT l with
 | none=>rw[e]at h2;cases h2
 | some r =>
  rw[e]at h2
  rw[Bool.and_eq_true]at h2
  exact⟨r,rfl,h2.1,h2.2⟩
def kdP (k:Kd) (r:List Prt):Bool:=decide (fR r=some k)&&(decide (szR r≤20)&&decide (r.length≤22))
def grP (r:List Prt):Bool:=decide (fR r=none)&&(decide (szR r≤8)&&decide (r.length≤2))
theorem ziq {k:Kd} {W:List Nat} {z:Str} {l:List Nat} (h:zcr (kdP k) l=true) (e:cp z=sub W l):KdR k W z:=by
 obtain⟨h1,r,h2,h3,h4⟩:=zdm h
 simp only[kdP,Bool.and_eq_true,decide_eq_true_eq]at h4
 exact⟨l,r,e,h1,h2,h3,h4.1,h4.2.1,h4.2.2⟩
theorem gr_of {W:List Nat} {z:Str} {l:List Nat} (h:zcr grP l=true) (e:cp z=sub W l):zcZ W z:=by
 obtain⟨h1,r,h2,h3,h4⟩:=zdm h
 simp only[grP,Bool.and_eq_true,decide_eq_true_eq]at h4
 exact⟨l,r,e,h1,h2,h3,h4.1,h4.2.1,h4.2.2⟩
def zgu:List Str:=["@","not @","f(@) = g(b, @)","@ = b or not @","never"]
def zdT:List Str:=["not","not not","never or @","@ or never","or or or","ninelettr","unlike = @","@ = as(b)","always"]
def zfm:List Str:=["f(b, then) = @","not and","xxxxxxxxx(b) = b","not or @","f(@, g(b, ninelettr)) = b"]
def zjb:List Str:=["or = f(b, b, b, b)",zb6 "@ or " 20++"ninelettr","f(as, b, b, b) = b"]
def zgr:List Str:=zdT++zfm++zjb
def zec:List Str:=["f(b, b, b, b) = @","@ = g(b, f(@, b, b, b, b))","f(b, b, b, b) = or"]
def zdk:List Str:=[""," ","@ "," @","@  or @","@ or  @","f()","f(@","f(@))","f(@,@)","f( @)","f(@, )","@ ="]
def zdU:List Str:=["= @","@ = ","@=@","@ == @","@ = f = @","f(@)","not f(@)","@_","@1 = b","@\tor b"]
def zfq:List Str:=["(@)","f (@) = b","@ or","or ","@ and b","@B","@ = [b]","f(@; b) = b"]
def zgT:List Str:=[" = @","f() = @","f(, @) = b","@ = f(b, )"]
def zfe:List Str:=zdk++zdU++zfq++zgT
def zb2 (n:Nat):Str:=zb6 "f(" n++"b"++zb6 ")" n
def zef:List Str:=["b = "++zb2 30,zb2 21++" = b"]
theorem zlg:∀ t∈zgu,zcr grP (cp t)=true∧t.length≤100:=by decide +kernel
theorem zk8:∀ t∈zgr,zcr (kdP .name) (cp t)=true∧t.length≤120:=by decide +kernel
theorem zky:∀ t∈zec,zcr (kdP .term) (cp t)=true∧t.length≤100:=by decide +kernel
theorem zh2:∀ t∈zfe,zeC (cp t)=true∧t.length≤100∧(cp t≠[]→zeC (cp ("c or "++t))=true):=by decide +kernel
theorem zh4:∀ t∈zef,zeC (cp t)=true∧zeC (cp ("c or "++t))=true∧64∉cp t∧cp t≠[]∧t.length≤100:=by decide +kernel
theorem zkE:zeC (cp " ")=true:=by decide +kernel
theorem fb_ok:zcr (kdP .term) (cp "f(b, b, b, b) = b")=true:=by decide +kernel
end K06
namespace K06
open PySem L2
open F06 (Tr dTr zaK szM ap)
open C06 (PA Prt dPA dPt sPA sPt sT sTs sN GW sub cp zaN nmS zdi zaA zaH zbG av zap zaO isW RT frT zb1 zao zfa)
theorem c10:cp "\n"=[10]:=by decide +kernel
theorem zhp (sep:Str):∀(p:Str) (ps:List Str),cp (Builtin.Str.glued sep (p :: ps))=cp p++ps.flatMap (fun q=>cp sep++cp q)
 | p,[]=>by
  rw[zjL]
  simp
 | p,q :: r=>by
  have ih:=zhp sep q r
  rw[StrLaws.glued_eq_join]at ih ⊢
  show cp (p++sep++Str.join sep (q :: r))=_
  rw[zap,zap,ih,List.flatMap_cons]
  simp only[List.append_assoc]
def zbE (z:Str):Str:=z++"\n"
theorem zds (zs:List Str):cp (Builtin.Str.glued "" (zs.map zbE))=zao zs:=by
 cases zs with
 | nil=>rfl
 | cons z zs =>
  rw[List.map_cons,zhp]
  show cp (z++"\n")++_=(cp z++[10])++zao zs
  rw[zap,c10]
  congr 1
  induction zs with
  | nil=>rfl
  | cons y ys ih =>
   rw[List.map_cons,List.flatMap_cons,ih,show cp ""=[] by decide +kernel]
   show []++cp (y++"\n")++_=(cp y++[10])++zao ys
   rw[zap,c10]
   rfl
theorem zc2 {B:Nat}:∀ {zs:List Str},(∀ z∈zs,z.length≤B)→(zao zs).length≤(B+1) * zs.length
 | [],_=>Nat.le_refl _
 | z :: zs,h=>by
  have h1:=zc2 (zs:=zs) fun y hy=>h y (List.mem_cons_of_mem _ hy)
  have h2:=h z (List.mem_cons_self ..)
  show((cp z++[10])++zao zs).length≤(B+1) * (zs.length+1)
  rw[List.length_append,List.length_append,av,Nat.mul_add,Nat.mul_one]
  show z.length+1+_≤_
  omega
theorem zc5 {B:Nat}:∀ {zs:List Str},(∀ z∈zs,z.length≤B)→zb7 (zs.map zbE)≤(B+1) * zs.length
 | [],_=>Nat.le_refl _
 | z :: zs,h=>by
  have h1:=zc5 (zs:=zs) fun y hy=>h y (List.mem_cons_of_mem _ hy)
  have h2:=h z (List.mem_cons_self ..)
  have h3:(zbE z).length=z.length+1:=by
   unfold zbE
   rw[ap]
   rfl
  have e:zb7 ((z :: zs).map zbE)=(zbE z).length+zb7 (zs.map zbE):=rfl
  rw[e,h3]
  show _≤(B+1) * (zs.length+1)
  rw[Nat.mul_add,Nat.mul_one]
  omega
theorem zc3 (a b:List Str):zao (a++b)=zao a++zao b:=by
 unfold zao
 rw[List.flatMap_append]
theorem zd3 {W:List Nat}:∀ {zs:List Str} {ls:List (List Nat)},zs.map cp=ls.map (sub W)→zao zs=zao (ls.map (zb1 W))
 | [],[],_=>rfl
 | z :: zs,l :: ls,h=>by
  rw[List.map_cons,List.map_cons]at h
  obtain⟨h1,h2⟩:=List.cons.inj h
  show(cp z++[10])++zao zs=(cp (zb1 W l)++[10])++zao (ls.map (zb1 W))
  rw[zd3 h2,h1,zb1,zaN]
structure FRow (W:List Nat) (z:Str) (l:List Nat) (r:List Prt):Prop where
 e:cp z=sub W l
 t:zc9 l
 f:frT l=some r
 ok:okR r=true
 ln:r.length≤300
inductive zbP (W:List Nat):List Str→List (List Nat)→List (List Prt)→Prop
 | nil:zbP W [] [] []
 | cons {z zs l ls r rs}:FRow W z l r→zbP W zs ls rs→zbP W (z :: zs) (l :: ls) (r :: rs)
theorem zbP.app {W:List Nat} {zs zs':List Str} {ls ls':List (List Nat)} {rs rs':List (List Prt)} (h:zbP W zs ls rs) (h':zbP W zs' ls' rs'):zbP W (zs++zs') (ls++ls') (rs++rs'):=by
 induction h with
 | nil=>exact h'
 | cons a _ ih=>exact .cons a ih
theorem zbP.get {W:List Nat} {zs:List Str} {ls:List (List Nat)} {rs:List (List Prt)} (h:zbP W zs ls rs):zs.map cp=ls.map (sub W)∧(∀ l∈ls,zc9 l)∧ls.map frT=rs.map some∧(∀ r∈rs,okR r=true∧r.length≤300)∧ls.length=zs.length:=by
 induction h with
 | nil=>exact⟨rfl,fun l hl=>(nomatch hl),rfl,fun r hr=>(nomatch hr),rfl⟩
 | cons a _ ih =>
  obtain⟨i1,i2,i3,i4,i5⟩:=ih
  refine⟨by rw[List.map_cons,List.map_cons,a.e,i1],fun x hx=>?_,by rw[List.map_cons,List.map_cons,a.f,i3],fun x hx=>?_,by rw[List.length_cons,List.length_cons,i5]⟩
  ·rcases List.mem_cons.mp hx with rfl | hx
   ·exact a.t
   ·exact i2 x hx
  ·rcases List.mem_cons.mp hx with rfl | hx
   ·exact⟨a.ok,a.ln⟩
   ·exact i4 x hx
theorem lw_of {W:List Nat} (g:GW W) {rs:List (List Prt)} (h:∀ r∈rs,okR r=true∧r.length≤300):∀ r∈rs,r.length≤300∧∀ p∈r,LwA (sPA W p.a):=fun r hr=>⟨(h r hr).2,fun p hp=>okA_lw g (List.all_eq_true.mp (h r hr).1 p hp)⟩
def Txs (W:List Nat) (s:Str) (n:Nat):Option Kd→Prop
 | none=>∃(zs:List Str) (ls:List (List Nat)),cp s=zao zs∧zs.map cp=ls.map (sub W)∧(∀ l∈ls,zc9 l)∧ls.length≤n∧∃ l∈ls,frT l=none
 | some k=>∃(zs:List Str) (ls:List (List Nat)) (rs:List (List Prt)),cp s=zao zs∧zbP W zs ls rs∧ls.length≤n∧aRs (rs.map fun r=>r.map (sPt W))=.error k
theorem Txs.bad {W:List Nat} (g:GW W) {s:Str} {n:Nat} {o:Option Kd} (h:Txs W s n o) (hn:n≤300):Bad W s o:=by
 cases o with
 | none =>
  obtain⟨zs,ls,h1,h2,h3,h4,h5⟩:=h
  exact .inr ⟨ls,⟨h1.trans (zd3 h2),fun l hl=>⟨(h3 l hl).rt,(h3 l hl).nl⟩,by omega⟩,h5⟩
 | some k =>
  obtain⟨zs,ls,rs,h1,h2,h3,h4⟩:=h
  obtain⟨i1,i2,i3,i4,i5⟩:=h2.get
  exact⟨ls,rs,⟨h1.trans (zd3 i1),fun l hl=>⟨(i2 l hl).rt,(i2 l hl).nl⟩,by omega⟩,i3,lw_of g i4,h4⟩
theorem Txs.more {W:List Nat} {s s' y:Str} {n:Nat} {k:Kd} (h:Txs W s n (some k)) (hy:OkR W y) (e:cp s'=cp s++(cp y++[10])):Txs W s' (n+1) (some k):=by
 obtain⟨zs,ls,rs,h1,h2,h3,h4⟩:=h
 obtain⟨l,r,e1,e2,e3,e4,e5⟩:=hy
 refine⟨zs++[y],ls++[l],rs++[r],?_,h2.app (.cons ⟨e1,e2,e3,e4,e5⟩ .nil),by rw[List.length_append];exact Nat.succ_le_succ h3,?_⟩
 ·rw[e,h1,zc3]
  simp [zao]
 ·rw[List.map_append]
  exact zlh h4
theorem Txs.rows {W:List Nat} {s:Str} {n:Nat} {o:Option Kd} (h:Txs W s n o):∃(zs:List Str) (ls:List (List Nat)),cp s=zao zs∧zs.map cp=ls.map (sub W)∧(∀ l∈ls,zc9 l)∧ls.length≤n:=by
 cases o with
 | none =>
  obtain⟨zs,ls,h1,h2,h3,h4,_⟩:=h
  exact⟨zs,ls,h1,h2,h3,h4⟩
 | some k =>
  obtain⟨zs,ls,rs,h1,h2,h3,_⟩:=h
  obtain⟨i1,i2,_⟩:=h2.get
  exact⟨zs,ls,h1,i1,i2,h3⟩
theorem Txs.form {W:List Nat} {s s' y:Str} {n:Nat} {o:Option Kd} (h:Txs W s n o) (hy:BadR W y) (e:cp s'=cp s++(cp y++[10])):Txs W s' (n+1) none:=by
 obtain⟨zs,ls,h1,h2,h3,h4⟩:=h.rows
 obtain⟨l,e1,e2,e3⟩:=hy
 refine⟨zs++[y],ls++[l],?_,by rw[List.map_append,List.map_append,h2];simp [e1],fun x hx=>?_,by rw[List.length_append];exact Nat.succ_le_succ h4,l,by simp,e3⟩
 ·rw[e,h1,zc3]
  simp [zao]
 ·rcases List.mem_append.mp hx with hx | hx
  ·exact h3 x hx
  ·rw[List.mem_singleton.mp hx];exact e2
structure zeg (W:List Nat) (zs:List Str):Prop where
 l4:zs.length≤4
 ok:∀ z∈zs,zcZ W z
def DueR (W:List Nat):Option Kd→Str→Prop
 | none=>BadR W
 | some k=>KdR k W
theorem zis {W:List Nat}:∀ {zs:List Str},(∀ z∈zs,zcZ W z)→∃ ls rs,zbP W zs ls rs∧(∀ r∈rs,GR r)∧rs.length=zs.length
 | [],_=>⟨[],[],.nil,fun r hr=>(nomatch hr),rfl⟩
 | z :: zs,h=>by
  obtain⟨l,r,e1,e2,e3,e4⟩:=h z (List.mem_cons_self ..)
  obtain⟨ls,rs,i1,i2,i3⟩:=zis (zs:=zs) fun y hy=>h y (List.mem_cons_of_mem _ hy)
  refine⟨l :: ls,r :: rs,.cons ⟨e1,e2,e3,e4.ok,by have:=e4.ln;omega⟩ i1,fun x hx=>?_,by rw[List.length_cons,List.length_cons,i3]⟩
  rcases List.mem_cons.mp hx with rfl | hx
  ·exact e4
  ·exact i2 x hx
theorem zkw {W:List Nat} (g:GW W) {zs:List Str} {j:Nat} {y s:Str} {o:Option Kd} (gz:zeg W zs) (hj:j < zs.length) (hy:DueR W o y) (hs:cp s=zao (zs.set j y)):Txs W s 4 o:=by
 have l4:=gz.l4
 rw[List.set_eq_take_append_cons_drop,if_pos hj]at hs
 obtain⟨ls1,rs1,f1,g1,n1⟩:=zis (W:=W) (zs:=zs.take j) fun z hz=>gz.ok z (List.mem_of_mem_take hz)
 obtain⟨ls2,rs2,f2,_,n2⟩:=zis (W:=W) (zs:=zs.drop (j+1)) fun z hz=>gz.ok z (List.mem_of_mem_drop hz)
 obtain⟨a1,a2,_,_,a5⟩:=f1.get
 obtain⟨b1,b2,_,_,b5⟩:=f2.get
 rw[List.length_take]at n1 a5
 rw[List.length_drop]at n2 b5
 cases o with
 | none =>
  obtain⟨l,e1,e2,e3⟩:=hy
  refine⟨_,ls1++l :: ls2,hs,by rw[List.map_append,List.map_append,List.map_cons,List.map_cons,a1,b1,e1],fun x hx=>?_,by rw[List.length_append,List.length_cons];omega,l,by simp,e3⟩
  rcases List.mem_append.mp hx with hx | hx
  ·exact a2 x hx
  ·rcases List.mem_cons.mp hx with rfl | hx
   ·exact e2
   ·exact b2 x hx
 | some k =>
  obtain⟨l,r,e1,e2,e3,e4,e5,e6,e7⟩:=hy
  refine⟨_,_,_,hs,f1.app (.cons ⟨e1,e2,e3,e4,by omega⟩ f2),by rw[List.length_append,List.length_cons];omega,?_⟩
  exact zg5 g e4 e5 e6 e7 g1 (by show 0+_≤_;omega) (by show 0+_≤_;omega) (by show 0+_≤_;omega)
end K06
namespace K06
open PySem L2
open F06 (Tr dTr zaK szM ap)
open C06 (PA Prt dPA dPt sPA sPt sT sTs sN GW sub cp zaN nmS zdi zaA zaH zbG av zap zaO isW RT frT zb1 zao zfa)
mutual
def litT:Tr→Bool
 | .node n ts=>!(cp n).contains 64&&zgt ts
def zgt:List Tr→Bool
 | []=>true
 | t :: ts=>litT t&&zgt ts
end
def litA:PA→Bool
 | .plain z=>!(cp z).contains 64
 | .same t u=>litT t&&litT u
def litR (r:List Prt):Bool:=r.all fun p=>litA p.a
theorem zgE {W:List Nat} {n:Str} (h:(!(cp n).contains 64)=true):sN W n=n:=by
 unfold sN
 rw[zaA W (by simpa using h),zdi]
mutual
theorem zgB {W:List Nat}:∀ {t:Tr},litT t=true→sT W t=t
 | .node n ts,h=>by
  simp only[litT,Bool.and_eq_true]at h
  simp only[sT,zgE h.1,zhN h.2]
theorem zhN {W:List Nat}:∀ {ts:List Tr},zgt ts=true→sTs W ts=ts
 | [],_=>rfl
 | t :: ts,h=>by
  simp only[zgt,Bool.and_eq_true]at h
  simp only[sTs,zgB h.1,zhN h.2]
end
theorem zkN {W:List Nat} {p:Prt} (h:litA p.a=true):sPt W p=p:=by
 obtain⟨n,a⟩:=p
 cases a with
 | plain z =>
  simp only[litA]at h
  simp only[sPt,sPA,zgE h]
 | same t u =>
  simp only[litA,Bool.and_eq_true]at h
  simp only[sPt,sPA,zgB h.1,zgB h.2]
theorem ziX {W:List Nat}:∀ {r:List Prt},litR r=true→r.map (sPt W)=r
 | [],_=>rfl
 | p :: r,h=>by
  simp only[litR,List.all_cons,Bool.and_eq_true]at h
  rw[List.map_cons,zkN h.1,ziX h.2]
def prs:List Str→Option (List (List Prt))
 | []=>some []
 | z :: zs=>if zcr (fun r=>litR r&&decide (r.length≤300)) (cp z)=true∧64∉cp z then(match frT (cp z) with
   | none=>none
   | some r=>(prs zs).map fun rs=>r :: rs) else none
theorem zgI {W:List Nat}:∀ {zs:List Str} {rs:List (List Prt)},prs zs=some rs→zbP W zs (zs.map cp) rs∧(rs.map fun r=>r.map (sPt W))=rs
 | [],rs,h=>by
  cases h
  exact⟨.nil,rfl⟩
 | z :: zs,rs,h=>by
  simp only[prs]at h
  by_cases c:zcr (fun r=>litR r&&decide (r.length≤300)) (cp z)=true∧64∉cp z
  ·rw[if_pos c]at h
   obtain⟨h1,r,h2,h3,h4⟩:=zdm c.1
   rw[h2]at h
   dsimp only at h
   obtain⟨qs,e1,e2⟩:=Option.map_eq_some_iff.mp h
   subst e2
   rw[Bool.and_eq_true,decide_eq_true_eq]at h4
   obtain⟨i1,i2⟩:=zgI (W:=W) e1
   exact⟨.cons ⟨(zaA W c.2).symm,h1,h2,h3,h4.2⟩ i1,by rw[List.map_cons,ziX h4.1,i2]⟩
  ·rw[if_neg c]at h;cases h
def zjf {α:Type}:Except Kd α→Bool
 | .error .many=>true
 | _=>false
theorem zjI {α:Type} {x:Except Kd α} (h:zjf x=true):x=.error .many:=by
 cases x with
 | ok _=>cases h
 | error k=>cases k <;> first | rfl | cases h
def zgs (zs:List Str):Bool:=match prs zs with
 | none=>false
 | some rs=>zjf (aRs rs)&&decide (zs.length≤201)
theorem zhc {W:List Nat} {zs:List Str} {s:Str} (h:zgs zs=true) (e:cp s=zao zs):Txs W s 201 (some .many):=by
 unfold zgs at h
 cases ep:prs zs with
 | none=>rw[ep]at h;cases h
 | some rs =>
  rw[ep]at h
  rw[Bool.and_eq_true,decide_eq_true_eq]at h
  obtain⟨i1,i2⟩:=zgI (W:=W) ep
  exact⟨zs,_,rs,e,i1,by rw[List.length_map];exact h.2,by rw[i2];exact zjI h.1⟩
theorem zgd {W:List Nat} {zs:List Str} {z s:Str} {l:List Nat} {r:List Prt} {rs:List (List Prt)} {st:S6 × List (List Int)} {us:List Unit} (hl:zs.length≤200) (ep:prs zs=some rs) (eg:goE zaQ ini rs=.ok (st,us)) (fr:FRow W z l r) (hr:zaQ st (r.map (sPt W))=.error .many) (e:cp s=zao (zs++[z])):Txs W s 201 (some .many):=by
 obtain⟨i1,i2⟩:=zgI (W:=W) ep
 refine⟨_,_,_,e,i1.app (.cons fr .nil),by rw[List.length_append,List.length_map];show _+1≤201;omega,?_⟩
 rw[List.map_append,i2]
 have gt:goE zaQ ini ((rs++[r.map (sPt W)]).take rs.length)=.ok (st,us):=by rw[List.take_left' rfl];exact eg
 exact(zdD (as:=rs++[r.map (sPt W)]) (i:=rs.length) (a:=r.map (sPt W)) (by simp) gt).1 _ hr
def zbO:Str:="bcdefghijklmnopqrtuvwxyz"
def ch24 (i:Nat):Str:=⟨#[(cp zbO).getD i 0]⟩
def zaI (k:Nat):Str:="z"++ch24 (k % 24)++ch24 (k / 24)
def zby:List Str:=(List.range 61).map zaI
def zcu (k:Nat):Str:=zaI (2 * k)++" = "++zaI (2 * k+1)
theorem m0:zgs (zby.take 41)=true:=by decide +kernel
def row21:Str:=Builtin.Str.glued " or " (List.replicate 21 (zaI 0))
theorem m2:zgs [row21]=true:=by decide +kernel
def st1B:Bool:=match prs ((List.range 30).map zcu) with
 | none=>false
 | some rs=>match goE zaQ ini rs with
  | .error _=>false
  | .ok (st,_)=>decide (st.1.T.length=60)&&(!st.1.T.contains (zaI 60,[])&&za3 (zaI 60))
theorem m1:st1B=true:=by decide +kernel
def zje (r:List Prt):Bool:=match r with
 | [⟨_,.same (.node n []) _⟩]=>n == zaI 60
 | _=>false
theorem l1:zcr zje (cp (zaI 60)++cp " = "++[64])=true:=by decide +kernel
def zjd (r:List Prt):Bool:=match r with
 | [⟨_,.plain n⟩]=>n == "@"
 | _=>false
theorem l3:zcr zjd [64]=true:=by decide +kernel
def st3B:Bool:=match prs (List.replicate 200 ("never":Str)) with
 | none=>false
 | some rs=>match goE zaQ ini rs with
  | .error _=>false
  | .ok (st,_)=>decide (st.2.length=200)&&st.1.A.isEmpty
theorem m3:st3B=true:=by decide +kernel
theorem many1 {W:List Nat} (g:GW W) {z s:Str} (hz:cp z=W) (e:cp s=zao ((List.range 30).map zcu++[zaI 60++" = "++z])):Txs W s 201 (some .many):=by
 have h:=m1
 unfold st1B at h
 cases ep:prs ((List.range 30).map zcu) with
 | none=>rw[ep]at h;cases h
 | some rs =>
  rw[ep]at h
  dsimp only at h
  cases eg:goE zaQ ini rs with
  | error k=>rw[eg]at h;cases h
  | ok x =>
   obtain⟨st,us⟩:=x
   rw[eg]at h
   simp only[Bool.and_eq_true,decide_eq_true_eq,Bool.not_eq_true']at h
   obtain⟨h1,h2,h3⟩:=h
   obtain⟨t1,r,f1,o1,p1⟩:=zdm l1
   obtain⟨b,u,rfl⟩:∃ b u,r=[⟨b,.same (.node (zaI 60) []) u⟩]:=by
    unfold zje at p1
    split at p1
    ·rename_i b n u
     exact⟨b,u,by rw[eq_of_beq p1]⟩
    ·cases p1
   refine zgd (by simp) ep eg ⟨?_,t1,f1,o1,by simp⟩ ?_ e
   ·rw[zap,zap,hz,zaH,zaH,zaA W (by decide +kernel),zaA W (by decide +kernel)]
    simp [sub]
   ·have e60:sN W (zaI 60)=zaI 60:=zgE (by decide +kernel)
    have hp:zdL st.1.T (zaI 60) []=.error .many:=by
     unfold zdL
     rw[h3,if_neg (by decide),if_neg (by simp),if_neg (by simpa using h2),if_pos (by omega)]
    have ha:aPt st.1 (sPt W ⟨b,.same (.node (zaI 60) []) u⟩)=.error .many:=by
     simp only[aPt,sPt,sPA,sT,sTs,aPA,aT,aTs,e60,hp]
    simp only[zaQ,List.map_cons,List.map_nil,goE,ha]
theorem many3 {W:List Nat} (g:GW W) {z s:Str} (hz:cp z=W) (e:cp s=zao (List.replicate 200 ("never":Str)++[z])):Txs W s 201 (some .many):=by
 have h:=m3
 unfold st3B at h
 cases ep:prs (List.replicate 200 ("never":Str)) with
 | none=>rw[ep]at h;cases h
 | some rs =>
  rw[ep]at h
  dsimp only at h
  cases eg:goE zaQ ini rs with
  | error k=>rw[eg]at h;cases h
  | ok x =>
   obtain⟨st,us⟩:=x
   rw[eg]at h
   simp only[Bool.and_eq_true,decide_eq_true_eq]at h
   obtain⟨h1,h2⟩:=h
   obtain⟨t1,r,f1,o1,p1⟩:=zdm l3
   obtain⟨b,rfl⟩:∃ b,r=[⟨b,.plain "@"⟩]:=by
    unfold zjd at p1
    split at p1
    ·rename_i b n
     exact⟨b,by rw[eq_of_beq p1]⟩
    ·cases p1
   refine zgd (by simp) ep eg ⟨?_,t1,f1,o1,by simp⟩ ?_ e
   ·rw[hz]
    simp [sub]
   ·have ez:sN W "@"=nmS W:=by
     unfold sN
     rw[show cp "@"=[64] by decide +kernel]
     simp [sub]
    obtain⟨A',n,ea,_⟩:=zgG (A:=st.1.A) (a:=.plain (nmS W)) (by rw[List.isEmpty_iff.mp h2];decide)
    have hn:=zfX g
    have ha:aPt st.1 (sPt W ⟨b,.plain "@"⟩)=.ok (⟨st.1.T,A'⟩,if b=true then -(n:Int) else(n:Int)):=by
     simp only[aPt,sPt,sPA,aPA,ez,hn,ea]
     rfl
    simp only[zaQ,List.map_cons,List.map_nil,goE,ha]
    rw[if_neg (by simp),if_pos (by omega)]
end K06
namespace K06
open PySem L2
open F06 (szM ap)
open C06 (GW sub cp zap av abc)
def zeB:Option Kd→Str
 | none=>"form"
 | some .name=>"name"
 | some .term=>"term"
 | some .many=>"many"
structure XE (K:PySem.W.Frag) (mg:Str→Option Value) (CE CX CN CT CM:Addr):Prop where
 np:mg "NoProblem"=some (.ref CX)
 bn:mg "BadName"=some (.ref CN)
 bt:mg "BadTerm"=some (.ref CT)
 tm:mg "TooMany"=some (.ref CM)
 ce:mg "ChoiceError"=some (.ref CE)
 isi:mg "isinstance"=none
 ve:mg "ValueError"=none
 ex:∀ a b:Option Kd,PySem.W.exmOne K (.ref (cls4 CX CN CT CM a)) (.ref (cls4 CX CN CT CM b))=some (decide (a=b))
 ee:∀ a:Option Kd,PySem.W.exmOne K (.ref (cls4 CX CN CT CM a)) (.ref CE)=some true
 kv:∀ a:Option Kd,PySem.W.kitCls K (.ref (cls4 CX CN CT CM a)) (.type "ValueError")=some true
inductive zeK:Sp | mk {vs H Q E9} (c n:Int):vs=[.int c,.int n]→0≤n→n < 10→(∀ y:Str,y.length=n.toNat→(∀ d∈y.cps.toList,d∈abc.cps.toList)→Q (.str y) H)→zeK vs H Q E9
theorem zcP (c:Nat):(⟨#[c]⟩:Str).length=1:=rfl
theorem zkr:abc.cps.toList.length=26:=by decide +kernel
theorem zlm (a b:Str):(a++b).cps.toList=a.cps.toList++b.cps.toList:=zap a b
theorem at_inW {α:Type} {xs:List α} {i:Int} (h0:0≤i) (h1:i < (xs.length:Int)):∃ c,atI xs i=some c:=by
 have hk:i.toNat < xs.length:=by omega
 have e:i=((i.toNat:Nat):Int):=by omega
 have q:atI xs ((i.toNat:Nat):Int)=some xs[i.toNat]:=zax (List.getElem?_eq_getElem hk)
 rw[←e]at q
 exact⟨_,q⟩
theorem at_mem {α:Type} {xs:List α} {i:Int} {c:α} (h:atI xs i=some c):c∈xs:=by
 obtain⟨j,_,h2,_⟩:=zeu h
 exact List.mem_of_getElem? h2
section
variable {P:Program} {w:World} {K:PySem.W.Frag} {mg:Str→Option Value} {base:Heap} {W:List Nat} {CE CX CN CT CM:Addr} {f fR:Addr} {fd dR:FuncData}
theorem scW:zaa ["_law_cell","_law_size","_law_letters","_law_word_here","_law_k"] ["_law_cell","_law_size"] (ad zdc):=⟨rfl,rfl,rfl,by decide +kernel,rfl,by decide +kernel,by decide +kernel⟩
theorem zj6 {f:Addr} {fd:FuncData} (F:Fun K "_law_word" "_law_word" zdc f fd) (TR:mg "range"=none):FnOk P w K mg base CX0 1 f fd ["_law_cell","_law_size"] zeK:=by
 refine F.ok scW (fun vs H Q E h=>?_) (fun cdv A outer s H vs Q E hr h=>?_)
 ·obtain⟨c,n,rfl,_⟩:=h
  rfl
 obtain⟨c,n,rfl,h0,h1,q⟩:=h
 refine⟨_,aj (zar (i:=2) scW.nd rfl (Or.inl rfl) ak) (aj (zar (i:=3) scW.nd rfl (Or.inl rfl) ak)
  (aj (zdg PassesOwn.never rfl (zcn rfl TR (aa (pv 1) ac)) (zbv (i:=4) scW.nd rfl (Or.inl rfl))
   (aj (zar (i:=0) scW.nd rfl (Or.inl rfl) (ar zaE (ar zbt (ar zdh (pv 0) ah) ah) ah))
   (ae (zar (i:=3) scW.nd rfl (Or.inl rfl) (ar zaf (pv 3) (zaJ zfo (pv 2) (ar zaE (ar zbw (pv 0) ah) ah) (fun _ _=>rfl)))))))
  (ae (zab (pv 3))))),?_⟩
 refine⟨_,rfl,n,rfl,by omega,by omega,zgf (lo:=0) (n:=n.toNat) (fun i σ H'=>H'=H∧∃(c:Int) (y:Str) (k:Option V),σ=[some (.int c),some (.int n),some (.str abc),some (.str y),k]∧y.length=i∧∀ d∈y.cps.toList,d∈abc.cps.toList)
  ⟨rfl,c,"",none,rfl,by decide +kernel,by decide +kernel⟩ ?_ ?_⟩
 ·rintro i σ H' hi ⟨rfl,c,y,k,rfl,hy,hab⟩
  refine⟨_,rfl,_,_,rfl,rfl,.inr ⟨by decide,by decide⟩,_,_,rfl,rfl,_,_,rfl,rfl,(by show(0:Int) < 2147483647;decide),?_⟩
  have m0:=Int.emod_nonneg ((c * 48271+11) % 2147483647 / 7) (show(26:Int)≠0 by decide)
  have m1:=Int.emod_lt_of_pos ((c * 48271+11) % 2147483647 / 7) (show(0:Int) < 26 by decide)
  obtain⟨ch,hch⟩:=at_inW (xs:=abc.cps.toList) m0 (by rw[zkr];exact m1)
  refine⟨_,rfl,_,rfl,_,rfl,_,_,rfl,rfl,⟨by decide,by decide⟩,_,_,rfl,rfl,(by show(0:Int) < 26;decide),abc,_,ch,rfl,rfl,F06.sz _ (by decide +kernel),hch,y,_,rfl,rfl,F06.sz _ (by rw[zcP];omega),?_⟩
  refine⟨rfl,_,_,_,rfl,by rw[ap,zcP,hy],fun d hd=>?_⟩
  rw[zlm]at hd
  rcases List.mem_append.mp hd with hd | hd
  ·exact hab d hd
  ·have e:d=ch:=by simpa using hd
   rw[e]
   exact at_mem hch
 ·rintro σ H' ⟨rfl,c,y,k,rfl,hy,hab⟩
  exact⟨_,rfl,q y (by omega) hab⟩
inductive zaY (W:List Nat):Sp | mk {vs H Q E9} (s:Str) (o:Option Kd):vs=[.str s]→s.length≤1000000→Bad W s o→(∀ H',ao H H'→Q (.str (zeB o)) H')→zaY W vs H Q E9
inductive zck (W:List Nat):Sp | mk {vs H Q E9} (s:Str) (o:Option Kd):vs=[.str s]→s.length≤1000000→Bad W s o→(∀ H',ao H H'→Q (.bl true) H')→zck W vs H Q E9
theorem zkH:zaa ["_law_text"] ["_law_text"] (ad zdd):=⟨rfl,rfl,rfl,by decide +kernel,rfl,by decide +kernel,by decide +kernel⟩
theorem zkM:zaa ["_law_text"] ["_law_text"] (ad zbV):=⟨rfl,rfl,rfl,by decide +kernel,rfl,by decide +kernel,by decide +kernel⟩
theorem ziW:zaa ["_law_text","e"] ["_law_text"] (ad zdH):=⟨rfl,rfl,rfl,by decide +kernel,rfl,by decide +kernel,by decide +kernel⟩
theorem zkW (F:Fun K "_law_told" "_law_told" zdd f fd) (X:XE K mg CE CX CN CT CM) (BR:FB P w K mg base (CX1 P w) 49 "read" fR dR ["text"] (zcE W CX CN CT CM)):FnOk P w K mg base CX0 50 f fd ["_law_text"] (zaY W):=by
 refine F.ok zkH (fun vs H Q E h=>?_) (fun cdv A outer s H vs Q E hr h=>?_)
 ·obtain⟨_,_,rfl,_⟩:=h
  rfl
 obtain⟨z,o,rfl,lz,hb,q⟩:=h
 refine⟨_,aj (zgH rfl rfl (fun pins E1 Eb hp=>ae (zba (zad BR.ok hr rfl BR.m BR.kp BR.b .nil hp (aa (pv 0) ac))))
  (zbX rfl X.np (fun ea=>ae (zab ak)) (zbX rfl X.bn (fun ea=>ae (zab ak)) (zbX rfl X.bt (fun ea=>ae (zab ak)) (zbX rfl X.tm (fun ea=>ae (zab ak)) zeY))))) (ae (zab ak)),?_⟩
 refine⟨_,rfl,z,o,rfl,lz,hb,fun H' s'=>⟨_,rfl,fun σ1 _=>⟨_,X.ex o none,?_⟩⟩⟩
 cases o with
 | none=>exact za7 (q H' s')
 | some k =>
  refine zaX ⟨_,X.ex (some k) (some .name),?_⟩
  cases k with
  | name=>exact za7 (q H' s')
  | term=>exact zaX ⟨_,X.ex (some .term) (some .term),za7 (q H' s')⟩
  | many=>exact zaX ⟨_,X.ex (some .many) (some .term),zaX ⟨_,X.ex (some .many) (some .many),za7 (q H' s')⟩⟩
theorem zk6 (F:Fun K "_law_told_back" "_law_told_back" zbV f fd) (X:XE K mg CE CX CN CT CM) (BR:FB P w K mg base (CX1 P w) 49 "read" fR dR ["text"] (zcE W CX CN CT CM)):FnOk P w K mg base CX0 50 f fd ["_law_text"] (zaY W):=by
 refine F.ok zkM (fun vs H Q E h=>?_) (fun cdv A outer s H vs Q E hr h=>?_)
 ·obtain⟨_,_,rfl,_⟩:=h
  rfl
 obtain⟨z,o,rfl,lz,hb,q⟩:=h
 refine⟨_,aj (zgH rfl rfl (fun pins E1 Eb hp=>ae (zba (zad BR.ok hr rfl BR.m BR.kp BR.b .nil hp (aa (pv 0) ac))))
  (zbX rfl X.tm (fun ea=>ae (zab ak)) (zbX rfl X.bt (fun ea=>ae (zab ak)) (zbX rfl X.bn (fun ea=>ae (zab ak)) (zbX rfl X.np (fun ea=>ae (zab ak)) zeY))))) (ae (zab ak)),?_⟩
 refine⟨_,rfl,z,o,rfl,lz,hb,fun H' s'=>⟨_,rfl,fun σ1 _=>⟨_,X.ex o (some .many),?_⟩⟩⟩
 cases o with
 | none=>exact zaX ⟨_,X.ex none (some .term),zaX ⟨_,X.ex none (some .name),zaX ⟨_,X.ex none none,za7 (q H' s')⟩⟩⟩
 | some k =>
  cases k with
  | many=>exact za7 (q H' s')
  | term=>exact zaX ⟨_,X.ex (some .term) (some .term),za7 (q H' s')⟩
  | name=>exact zaX ⟨_,X.ex (some .name) (some .term),zaX ⟨_,X.ex (some .name) (some .name),za7 (q H' s')⟩⟩
theorem ok_any (F:Fun K "_law_any" "_law_any" zdH f fd) (X:XE K mg CE CX CN CT CM) (BR:FB P w K mg base (CX1 P w) 49 "read" fR dR ["text"] (zcE W CX CN CT CM)):FnOk P w K mg base CX0 50 f fd ["_law_text"] (zck W):=by
 refine F.ok ziW (fun vs H Q E h=>?_) (fun cdv A outer s H vs Q E hr h=>?_)
 ·obtain⟨_,_,rfl,_⟩:=h
  rfl
 obtain⟨z,o,rfl,lz,hb,q⟩:=h
 refine⟨_,aj (zgH rfl rfl (fun pins E1 Eb hp=>ae (zba (zad BR.ok hr rfl BR.m BR.kp BR.b .nil hp (aa (pv 0) ac))))
  (ph_as (i:=1) rfl X.ce ziW.nd rfl rfl rfl (fun ea=>ae (zab (zaw (r:=zil K) zjO rfl X.isi PyProof.Rows.Boot.isinstance (aa (pv 1) (aa (zkV (v:=.ty "ValueError") rfl X.ve PyProof.Rows.Boot.ValueError rfl) ac))))) zeY)) (ae (zab zdx)),?_⟩
 try dsimp only [Cx.nox,Cx.wish,zak]
 refine⟨_,rfl,z,o,rfl,lz,hb,fun H1 s1=>⟨_,rfl,fun σ1 h2=>⟨true,X.ee o,za7 fun ea hea=>?_⟩⟩⟩
 have hg:(σ1.set 1 (some (V.ref ea)))[1]?=some (some (V.ref ea)):=List.getElem?_set_self (by rw[h2];show 1 < 2;decide)
 exact⟨_,hg,ea,_,"ValueError",rfl,ag,X.kv o,q _ (s1.trans (zae hea _))⟩
end
end K06
namespace K06
open PySem L2
open F06 (szM ap)
open C06 (GW sub zaA zbi cp zap av zaO)
def zdN:List Expr→Option (List Str)
 | []=>some []
 | .Constant (.str z) _ _ :: es=>(zdN es).bind fun zs=>some (z :: zs)
 | _ :: _=>none
def zed (zs:List Str):TA:=fun _ H Q=>Q (zs.map V.str) H
theorem zcb {X:Cx}:∀ {es:List Expr} {zs:List Str},zdN es=some zs→PA X es (zed zs)
 | [],zs,h=>by
  cases h
  exact ac
 | e :: es,zs,h=>by
  cases e with
  | Constant c j p =>
   cases c with
   | str z =>
    rw[zdN]at h
    obtain⟨ys,h1,h⟩:=Option.bind_eq_some_iff.mp h
    cases h
    exact aa ak (zcb h1)
   | _=>cases h
  | _=>cases h
theorem zdZ {zs:List Str} {n:Nat} {c:Int} (h:zs.length=n) (hn:0 < n):∃ t∈zs,atI (zs.map V.str) (c % (n:Int))=some (.str t):=by
 have h0:0≤c % (n:Int):=Int.emod_nonneg _ (by omega)
 have h1:c % (n:Int) < n:=Int.emod_lt_of_pos _ (by omega)
 obtain⟨m,hm⟩:∃ m:Nat,c % (n:Int)=m:=⟨(c % (n:Int)).toNat,by omega⟩
 have hl:m < zs.length:=by omega
 refine⟨zs[m],List.getElem_mem _,?_⟩
 rw[hm]
 refine zax ?_
 rw[List.getElem?_map,List.getElem?_eq_getElem hl]
 rfl
theorem zgv {W:List Nat} (g:GW W) {z:Str} (h:cp z=W):(("@":Str) == z)=false:=by
 rw[beq_eq_false_iff_ne]
 intro e
 obtain⟨t,ht⟩:=g.hd
 rw[←e,ht]at h
 have:cp "@"=[64]:=by decide +kernel
 rw[this]at h
 cases h
theorem zfj {x z:Str} (hx:x.length≤120) (hz:z.length≤7):x.length+(x.length+1) * z.length≤16777216:=by
 have:=Nat.mul_le_mul (show x.length+1≤121 by omega) hz
 omega
theorem zem {W:List Nat} (g:GW W) {x z:Str} (hx:x.length≤120) (hz:cp z=W):(Txt.replace x "@" z).length≤840:=by
 rw[←av,zdn,hz]
 have:=zbi g (cp x)
 rw[av]at this
 omega
theorem zhr {H:Hp} {p q:Addr} {A B:List Str} {Q:VK} (hA:H p=some (.lst (A.map V.str))) (hB:H q=some (.lst (B.map V.str))) (hl:A.length+B.length≤1000) (h:∀ r,H r=none→Q (.ref r) (upd H r (.lst ((A++B).map V.str)))):rCat (.ref p) (.ref q) H Q :=
 ⟨p,q,_,_,rfl,rfl,hA,hB,Nat.le_of_lt (zcm (by rw[List.length_map,List.length_map];exact hl)),fun r hr=>by rw[←List.map_append];exact h r hr⟩
theorem zhd {H:Hp} {σ:St} {A:List Str} {Q:VK} (hl:A.length≤1000) (h:∀ r,H r=none→Q (.ref r) (upd H r (.lst (A.map V.str)))):zeA (zed A) σ H Q:=⟨Nat.le_of_lt (zcm (by rw[List.length_map];exact hl)),h⟩
theorem zc4 {H:Hp} {σ:St} {i:Nat} {p:Addr} {A B:List Str} {Q:VK} (hi:σ[i]?=some (some (.ref p))) (hA:H p=some (.lst (A.map V.str))) (hl:A.length+B.length≤1000) (h:∀ r H',ao H H'→H' r=some (.lst ((A++B).map V.str))→Q (.ref r) H'):tOp rCat (zdK i) (zeA (zed B)) σ H Q :=
 ⟨.ref p,hi,zhd (by omega) fun b hb=>zhr (zae hb _ _ _ hA) ag hl fun r hr=>h r _ ((zae hb _).trans (zae hr _)) ag⟩
theorem zeW {H:Hp} {σ:St} {A:List Str} {Q:VK} (hl:A.length≤1000) (h:∀ r H',ao H H'→H' r=some (.lst (A.map V.str))→Q (.ref r) H'):zeA (zed A) σ H Q:=zhd hl fun r hr=>h r _ (zae hr _) ag
section
variable {P:Program} {w:World} {K:PySem.W.Frag} {mg:Str→Option Value} {base:Heap} {W:List Nat} {f fD:Addr} {fd dD:FuncData}
inductive zdO (W:List Nat) (R:Str→Prop):Sp | mk {vs H Q E9} (c:Int) (y:Str):vs=[.int c,.str y]→cp y=W→(∀(z:Str) (H':Hp),R z→z.length≤5000→ao H H'→Q (.str z) H')→zdO W R vs H Q E9
def zcx (W:List Nat) (z:Str):Prop:=BadR W z∧(z≠""→BadR W ("c or "++z))
inductive zfE:Sp | mk {vs H Q E9} (n:Nat):vs=[.int (n:Nat)]→1≤n→n≤100→Q (.str (zb2 n)) H→zfE vs H Q E9
theorem zkL:zaa ["_law_many_here"] ["_law_many_here"] (ad zdf):=⟨rfl,rfl,rfl,by decide +kernel,rfl,by decide +kernel,by decide +kernel⟩
theorem zcd (z:Str) (k:Nat):(zb6 z k).length=k * z.length:=by
 have key:∀(k:Nat) (acc:Array Nat),((List.replicate k z.cps).foldl (·++·) acc).size=acc.size+k * z.cps.size:=fun k=>by
  induction k with
  | zero=>intro acc;simp
  | succ k ih =>
   intro acc
   rw[List.replicate_succ,List.foldl_cons,ih,Array.size_append,Nat.succ_mul]
   omega
 have:=key k #[]
 show((List.replicate k z.cps).foldl (·++·) #[]).size=k * z.cps.size
 rw[this]
 simp
theorem zk4 (F:Fun K "_law_deep" "_law_deep" zdf f fd):FnOk P w K mg base CX0 1 f fd ["_law_many_here"] zfE:=by
 refine F.ok zkL (fun vs H Q E h=>?_) (fun cdv A outer s0 H vs Q E hr h=>?_)
 ·obtain⟨n,rfl,_⟩:=h
  rfl
 obtain⟨n,rfl,n1,n2,q⟩:=h
 refine⟨_,(ae (zab (ar zaf (ar zaf (ar zep ak (pv 0)) ak) (ar zep ak (pv 0))))),?_⟩
 try dsimp only [Cx.nox,Cx.wish,zak]
 have e1:(("f(":Str)).length=2:=by decide +kernel
 have e2:(("b":Str)).length=1:=by decide +kernel
 have e3:((")":Str)).length=1:=by decide +kernel
 exact⟨_,rfl,_,_,rfl,rfl,by omega,by omega,by rw[e1];decide,by rw[e1];decide,_,_,rfl,rfl,szM (by rw[zcd,e1,e2];omega),_,rfl,_,_,rfl,rfl,by omega,by omega,by rw[e3];decide,by rw[e3];decide,_,_,rfl,rfl,szM (by simp only[ap,zcd,e1,e2,e3];omega),q⟩
theorem zkK:zaa ["_law_cell","_law_word_here"] ["_law_cell","_law_word_here"] (ad zde):=⟨rfl,rfl,rfl,by decide +kernel,rfl,by decide +kernel,by decide +kernel⟩
set_option maxHeartbeats 2000000 in
theorem zk3 (g:GW W) (F:Fun K "_law_good" "_law_good" zde f fd):FnT P w K mg base CX0 1 f fd ["_law_cell","_law_word_here"] 1 (zdO W (zcZ W)):=by
 refine F.okT (j:=1) (y:="_law_word_here") zkK rfl (by decide +kernel) (by decide +kernel) (fun vs H Q E h=>?_) (fun cdv A outer s0 H vs Q E z tk hr h hz t0 tl=>?_)
 ·obtain⟨c,y,rfl,_⟩:=h
  rfl
 obtain⟨c,y,rfl,hy,q⟩:=h
 obtain rfl:y=z:=by
  have hz':some (V.str y)=some (V.str z):=hz
  cases hz'
  rfl
 have yl:y.length≤7:=by rw[←av,hy];exact g.ln
 refine⟨_,(zbB (zfI (zci (zaJ zaT (za8 (zcb (zs:=zgu) (by kernel_rfl))) (ar zaE (pv 0) ah) (fun _ _=>rfl)) (.head _) t0 tl (zgv g hy) (hd:=by decide +kernel) (hcd:=by decide +kernel)))),?_⟩
 dsimp only [tSeq,zcq,zbl,tRet,tRpl,tOp]
 refine zeW (A:=zgu) (by decide) fun p H1 s1 n1=>?_
 obtain⟨t,ht,hat⟩:=zdZ (zs:=zgu) (n:=5) (c:=c) rfl (by decide)
 obtain⟨r1,r3⟩:=zlg t ht
 refine⟨_,rfl,_,_,rfl,rfl,(by show(0:Int) < 5;decide),p,_,_,_,rfl,rfl,SqL.of n1,hat,t,rfl,zfj (by omega) yl,?_⟩
 exact q _ H1 (gr_of r1 (by rw[zdn,hy])) (Nat.le_trans (zem g (by omega) hy) (by decide)) s1
end
end K06
namespace K06
open PySem L2
open F06 (szM ap)
open C06 (GW sub zaA zaH zbi zdl cp zap av zaO)
section
variable {P:Program} {w:World} {K:PySem.W.Frag} {mg:Str→Option Value} {base:Heap} {W:List Nat} {f fD:Addr} {fd dD:FuncData}
theorem zjY {X:Cx} {b i:Nat} {x:Str} {es:List Expr} {zs:List Str} {p pos pos':Pos} (hN:X.N.Nodup) (hi:X.N[i]?=some x) (hx:Loc X.env.scope x) (h:zdN es=some zs) (hs:swapsWith (.List es p) (some (.Name x pos')) pos.line X.env=pure false:=by rfl) (hf:X.fn x=true∨X.env.scope.names.lookup x=some .local:=by first | exact .inl rfl | exact .inr rfl | assumption) :
  PSk X b (.Assign [.Name x pos'] (.List es p) pos) (zcq (zeA (zed zs)) (zbl i)):=zeo hN hi hx (PE.k (za8 (zcb h))) hs hf
theorem zeX {X:Cx} {b i:Nat} {x:Str} {e1:Expr} {es:List Expr} {zs:List Str} {p p2 pos pos':Pos} (hN:X.N.Nodup) (hi:X.N[i]?=some x) (hx:Loc X.env.scope x) (h1:PEk X b e1 (zdK i)) (h:zdN es=some zs) (hs:swapsWith (.BinOp e1 .Add (.List es p) p2) (some (.Name x pos')) pos.line X.env=pure false:=by rfl) (hf:X.fn x=true∨X.env.scope.names.lookup x=some .local:=by first | exact .inl rfl | exact .inr rfl | assumption) :
  PSk X b (.Assign [.Name x pos'] (.BinOp e1 .Add (.List es p) p2) pos) (zcq (tOp rCat (zdK i) (zeA (zed zs))) (zbl i)):=zeo hN hi hx (zgL zgP h1 (za8 (zcb h))) hs hf
theorem zjV:zaa ["_law_cell","_law_word_here","_law_forms"] ["_law_cell","_law_word_here"] (ad zbN):=⟨rfl,rfl,rfl,by decide +kernel,rfl,by decide +kernel,by decide +kernel⟩
theorem zeq:(["_law_cell","%","_law_forms"]:List Str).Nodup:=by decide +kernel
theorem zlj {W:List Nat} (g:GW W) {t z:Str} (ht:t∈zfe) (hz:cp z=sub W (cp t)):zcx W z:=by
 obtain⟨b1,_,b3⟩:=zh2 t ht
 refine⟨zdt b1 hz,fun h=>zdt (b3 fun e=>h ?_) ?_⟩
 ·refine zaO ?_
  rw[hz,e]
  show []=cp ""
  decide +kernel
 ·rw[zap,zap,zaH,zaA W (by decide +kernel:64∉cp "c or "),hz]
theorem zll {W:List Nat} {t:Str} (ht:t∈zef):zcx W t:=by
 obtain⟨b1,b2,b3,_,_⟩:=zh4 t ht
 refine⟨zdt b1 (zaA W b3).symm,fun _=>zdt b2 (zaA W ?_).symm⟩
 rw[zap]
 intro h
 rcases List.mem_append.mp h with h | h
 ·exact absurd h (by decide +kernel)
 ·exact b3 h
set_option maxHeartbeats 8000000 in
theorem zj7 (g:GW W) (F:Fun K "_law_form" "_law_form" zbN f fd) (BD:FB P w K mg base CX0 1 "_law_deep" fD dD ["_law_many_here"] zfE) (len:mg "len"=none):FnT P w K mg base CX0 2 f fd ["_law_cell","_law_word_here"] 1 (zdO W (zcx W)):=by
 refine F.okT (j:=1) (y:="_law_word_here") zjV rfl (by decide +kernel) (by decide +kernel) (fun vs H Q E h=>?_) (fun cdv A outer s0 H vs Q E z tk hr h hz t0 tl=>?_)
 ·obtain⟨c,y,rfl,_⟩:=h
  rfl
 obtain⟨c,y,rfl,hy,q⟩:=h
 obtain rfl:y=z:=by
  have hz':some (V.str y)=some (V.str z):=hz
  cases hz'
  rfl
 have yl:y.length≤7:=by rw[←av,hy];exact g.ln
 generalize hX:(zak CX0 P w K mg base ["_law_cell","_law_word_here","_law_forms"] "_law_form" (ad zbN) f cdv A outer s0 H E).nox.put 1 "_law_word_here" (.str y tk)=X
 have t4:∃ t,zaV X s0.toks ((zam zbN).drop 4) t∧∀(p:Addr) (H1:Hp) (D:zaM),D.rt=Q→H1 p=some (.lst (zfe.map V.str))→ao H H1→t D [some (.int c),none,some (.ref p)] H1:=by
  subst hX
  refine⟨_,(zah (PS.k (zaD (zal zbc (ar zaE (pv 0) ah) ah (zas _))
    (ae (zab (zaJ zaT (za8 (aa (ar zaf ak (zad BD.ok hr rfl BD.m BD.kp BD.b .nil zaz (aa ah ac))) (aa (ar zaf (zad BD.ok hr rfl BD.m BD.kp BD.b .nil zaz (aa ah ac)) ak) ac))) (ar zaE (ar zbw (pv 0) ah) ah) (fun _ _=>rfl))))
    zag))
   (zbB (zfI (zci (zaJ zaT (pv 2) (ar zaE (ar zbw (pv 0) ah) (zaw zaB rfl len PySem.boot_len (aa (pv 2) ac))) (fun _ _=>rfl)) (.head _) t0 tl (zgv g hy) (hd:=by decide +kernel) (hcd:=by decide +kernel))))),?_⟩
  intro p H1 D eD n1 s1
  refine⟨_,rfl,_,_,rfl,rfl,(by show(0:Int) < 16;decide),rfl,_,rfl,zay (fun _=>?_) (fun _=>?_)⟩
  ·have d1:(zb2 30).length=91:=by decide +kernel
   have d2:(zb2 21).length=64:=by decide +kernel
   have d3:(("b = ":Str)).length=4:=by decide +kernel
   have d4:((" = b":Str)).length=4:=by decide +kernel
   refine⟨30,rfl,by decide,by decide,_,_,rfl,rfl,szM (by rw[d1,d3];decide),21,rfl,by decide,by decide,_,_,rfl,rfl,szM (by rw[d2,d4];decide),lS2,fun b hb=>?_⟩
   have s2:=zae hb (.lst (zef.map V.str))
   have n2:=ag (H:=H1) (a:=b) (o:=.lst (zef.map V.str))
   change ao H1 (upd H1 b (.lst [V.str ("b = "++zb2 30),V.str (zb2 21++" = b")])) at s2
   change (upd H1 b (.lst [V.str ("b = "++zb2 30),V.str (zb2 21++" = b")])) b=some (.lst (zef.map V.str)) at n2
   generalize upd H1 b (.lst [V.str ("b = "++zb2 30),V.str (zb2 21++" = b")])=H2 at s2 n2
   obtain⟨t,ht,hat⟩:=zdZ (zs:=zef) (n:=2) (c:=c / 16) rfl (by decide)
   refine⟨_,rfl,_,_,rfl,rfl,⟨by decide,by decide⟩,_,_,rfl,rfl,(by show(0:Int) < 2;decide),b,_,_,_,rfl,rfl,SqL.of n2,hat,?_⟩
   rw[eD]
   exact q t H2 (zll ht) (Nat.le_trans (zh4 t ht).2.2.2.2 (by decide)) (s1.trans s2)
  obtain⟨t,ht,hat⟩:=zdZ (zs:=zfe) (n:=35) (c:=c / 16) rfl (by decide)
  have t100:=(zh2 t ht).2.1
  have ln:(zfe.map V.str).length=35:=by rw[List.length_map];rfl
  refine⟨_,rfl,_,rfl,_,_,rfl,rfl,⟨by decide,by decide⟩,_,rfl,p,_,rfl,.inl (SqL.of n1),_,_,rfl,rfl,(by rw[ln];decide),p,_,_,_,rfl,rfl,SqL.of n1,(by rw[ln];exact hat),t,rfl,zfj (by omega) yl,?_⟩
  rw[eD]
  exact q _ H1 (zlj g ht (by rw[zdn,hy])) (Nat.le_trans (zem g (by omega) hy) (by decide)) s1
 obtain⟨r4,p4,q4⟩:=t4
 subst hX
 refine⟨_,(zah (zjY (i:=2) (zs:=zdk) zeq rfl (Or.inl rfl) (by kernel_rfl))
  (zah (zeX (i:=2) (zs:=zdU) zeq rfl (Or.inl rfl) (PE.k (pv 2)) (by kernel_rfl))
  (zah (zeX (i:=2) (zs:=zfq) zeq rfl (Or.inl rfl) (PE.k (pv 2)) (by kernel_rfl))
  (zah (zeX (i:=2) (zs:=zgT) zeq rfl (Or.inl rfl) (PE.k (pv 2)) (by kernel_rfl)) p4)))),?_⟩
 dsimp only [tSeq,zcq,zbl]
 refine zeW (A:=zdk) (by decide) fun p1 H1 s1 n1=>?_
 refine zc4 (i:=2) (A:=zdk) (B:=zdU) rfl n1 (by decide) fun p2 H2 s2 n2=>?_
 refine zc4 (i:=2) (A:=zdk++zdU) (B:=zfq) rfl n2 (by decide) fun p3 H3 s3 n3=>?_
 refine zc4 (i:=2) (A:=zdk++zdU++zfq) (B:=zgT) rfl n3 (by decide) fun p4' H4 s4 n4=>?_
 exact q4 p4' H4 _ rfl n4 (((s1.trans s2).trans s3).trans s4)
end
end K06
namespace K06
open PySem L2
open F06 (szM ap)
open C06 (GW sub zaA zaH zbi zdl cp zap av zaO)
section
variable {P:Program} {w:World} {K:PySem.W.Frag} {mg:Str→Option Value} {base:Heap} {W:List Nat} {f fD:Addr} {fd dD:FuncData}
theorem zkJ:zaa ["_law_cell","_law_word_here","_law_names"] ["_law_cell","_law_word_here"] (ad zbM):=⟨rfl,rfl,rfl,by decide +kernel,rfl,by decide +kernel,by decide +kernel⟩
theorem zfN:(["_law_cell","%","_law_names"]:List Str).Nodup:=by decide +kernel
set_option maxHeartbeats 4000000 in
theorem zk0 (g:GW W) (F:Fun K "_law_name" "_law_name" zbM f fd) (len:mg "len"=none):FnT P w K mg base CX0 1 f fd ["_law_cell","_law_word_here"] 1 (zdO W (KdR .name W)):=by
 refine F.okT (j:=1) (y:="_law_word_here") zkJ rfl (by decide +kernel) (by decide +kernel) (fun vs H Q E h=>?_) (fun cdv A outer s0 H vs Q E z tk hr h hz t0 tl=>?_)
 ·obtain⟨c,y,rfl,_⟩:=h
  rfl
 obtain⟨c,y,rfl,hy,q⟩:=h
 obtain rfl:y=z:=by
  have hz':some (V.str y)=some (V.str z):=hz
  cases hz'
  rfl
 have yl:y.length≤7:=by rw[←av,hy];exact g.ln
 generalize hX:(zak CX0 P w K mg base ["_law_cell","_law_word_here","_law_names"] "_law_name" (ad zbM) f cdv A outer s0 H E).nox.put 1 "_law_word_here" (.str y tk)=X
 have t3:∃ t,zaV X s0.toks ((zam zbM).drop 3) t∧∀(p:Addr) (H1:Hp) (D:zaM),D.rt=Q→H1 p=some (.lst (zgr.map V.str))→ao H H1→t D [some (.int c),none,some (.ref p)] H1:=by
  subst hX
  refine⟨_,(zbB (zfI (zci (zaJ zaT (pv 2) (ar zaE (pv 0) (zaw zaB rfl len PySem.boot_len (aa (pv 2) ac))) (fun _ _=>rfl)) (.head _) t0 tl (zgv g hy) (hd:=by decide +kernel) (hcd:=by decide +kernel)))),?_⟩
  intro p H1 D eD n1 s1
  obtain⟨t,ht,hat⟩:=zdZ (zs:=zgr) (n:=17) (c:=c) rfl (by decide)
  obtain⟨r1,r3⟩:=zk8 t ht
  have ln:(zgr.map V.str).length=17:=by rw[List.length_map];rfl
  refine⟨_,rfl,_,rfl,_,rfl,p,_,rfl,.inl (SqL.of n1),_,_,rfl,rfl,(by rw[ln];decide),p,_,_,_,rfl,rfl,SqL.of n1,(by rw[ln];exact hat),t,rfl,zfj r3 yl,?_⟩
  rw[eD]
  exact q _ H1 (ziq r1 (by rw[zdn,hy])) (Nat.le_trans (zem g r3 hy) (by decide)) s1
 obtain⟨r3,p3,q3⟩:=t3
 subst hX
 refine⟨_,(zah (PS.k (zar (i:=2) zfN rfl (Or.inl rfl) (za8 (zcb (zs:=zdT) (by kernel_rfl)))))
  (zah (PS.k (zar (i:=2) zfN rfl (Or.inl rfl) (ar zgP (pv 2) (za8 (zcb (zs:=zfm) (by kernel_rfl))))))
  (zah (PS.k (zar (i:=2) zfN rfl (Or.inl rfl) (ar zgP (pv 2) (za8 (aa ak (aa (ar zaf (ar zep ak ah) ak) (aa ak ac))))))) p3))),?_⟩
 dsimp only [tSeq,zcq,zbl]
 refine zeW (A:=zdT) (by decide) fun p H1 s1 n1=>?_
 refine zc4 (i:=2) (A:=zdT) (B:=zfm) rfl n1 (by decide) fun p2 H2 s2 n2=>?_
 have e1:(("@ or ":Str)).length=5:=by decide +kernel
 have e2:(("ninelettr":Str)).length=9:=by decide +kernel
 refine⟨_,rfl,_,_,rfl,rfl,by decide,by decide,by rw[e1];decide,by rw[e1];decide,_,_,rfl,rfl,szM (by rw[zcd,e1,e2];decide),lS3,fun b hb=>?_⟩
 refine zhr (A:=zdT++zfm) (B:=zjb) (zae hb _ _ _ n2) ag (by decide) fun p4 hp4=>?_
 exact q3 p4 _ _ rfl ag ((s1.trans s2).trans ((zae hb _).trans (zae hp4 _)))
end
end K06
namespace K06
open PySem L2
open F06 (szM ap)
open C06 (GW sub zaA zaH zbi cp zap av zaO zao)
theorem at24 {j:Nat} (h:j < 24):atI zbO.cps.toList (j:Int)=some ((cp zbO).getD j 0):=by
 have hl:zbO.cps.toList.length=24:=by decide +kernel
 refine zax ?_
 show(cp zbO)[j]?=_
 have:j < (cp zbO).length:=by rw[show(cp zbO).length=24 from hl];exact h
 rw[List.getElem?_eq_getElem this,List.getD_eq_getElem?_getD,List.getElem?_eq_getElem this]
 rfl
theorem zbe (k:Nat):(zaI k).length=3:=by
 unfold zaI ch24
 rw[ap,ap]
 rfl
theorem zej {k:Nat} (h:k < 61):atI (zby.map V.str) (k:Int)=some (.str (zaI k)):=by
 refine zax ?_
 unfold zby
 rw[List.getElem?_map,List.getElem?_map,List.getElem?_range h]
 rfl
theorem cut41:cutV (zby.map V.str) none (some 41)=(zby.take 41).map V.str:=by kernel_rfl
theorem rep21:(List.replicate (21:Int).toNat [V.str (zaI 0)]).flatten=(List.replicate 21 (zaI 0)).map V.str:=by kernel_rfl
theorem nev200:cp (zb6 "never\n" 200)=zao (List.replicate 200 ("never":Str)):=by decide +kernel
section
variable {P:Program} {w:World} {K:PySem.W.Frag} {mg:Str→Option Value} {base:Heap} {W:List Nat} {f:Addr} {fd:FuncData}
inductive zbW (W:List Nat):Sp | mk {vs H Q E9} (c:Int) (y:Str):vs=[.int c,.str y]→cp y=W→(∀(z:Str) (H':Hp),Txs W z 201 (some .many)→z.length≤5000→ao H H'→Q (.str z) H')→zbW W vs H Q E9
theorem zel:zaa ["_law_cell","_law_word_here","_law_letters","_law_some","_law_pairs"] ["_law_cell","_law_word_here"] (ad za5):=⟨rfl,rfl,rfl,by decide +kernel,rfl,by decide +kernel,by decide +kernel⟩
set_option maxHeartbeats 4000000 in
theorem zk1 (g:GW W) (F:Fun K "_law_many" "_law_many" za5 f fd) (TR:mg "range"=none):FnOk P w K mg base CX0 1 f fd ["_law_cell","_law_word_here"] (zbW W):=by
 refine F.ok zel (fun vs H Q E h=>?_) (fun cdv A outer s0 H vs Q E hr h=>?_)
 ·obtain⟨c,y,rfl,_⟩:=h
  rfl
 obtain⟨c,y,rfl,hy,q⟩:=h
 have yl:y.length≤7:=by rw[←av,hy];exact g.ln
 have l0:(("":Str)).length=0:=by decide +kernel
 have l1:(("\n":Str)).length=1:=by decide +kernel
 have l3:((" = ":Str)).length=3:=by decide +kernel
 generalize hX:(zak CX0 P w K mg base ["_law_cell","_law_word_here","_law_letters","_law_some","_law_pairs"] "_law_many" (ad za5) f cdv A outer s0 H E).nox=X
 have t4:∃ t,PSs X ((zam za5).drop 4) t∧∀(p:Addr) (H1:Hp) (D:zaM),D.rt=Q→H1 p=some (.lst (zby.map V.str))→ao H H1→t D [some (.int c),some (.str y),some (.str zbO),some (.ref p),none] H1:=by
  subst hX
  refine⟨_,(aj (zaD (zal zbc (ar zaE (pv 0) ah) ah (zas _))
    (ae (zab (ar zaf (zbk PySem.F.plainAttrs_str PySem.F.slot_str_join PySem.F.type_str_join zer ak (aa (ar op_rep (za8 (aa (zaJ zaT (pv 3) ah (fun _ _=>rfl)) ac)) ah) ac)) ak)))
    zag)
   (ae (zab (ar zaf (ar zaf (ar zep ak ah) (pv 1)) ak)))),?_⟩
  try dsimp only [Cx.nox,Cx.wish,zak]
  try dsimp only [Cx.nox,Cx.wish,zak]
  intro p H1 D eD n1 s1
  refine⟨_,rfl,_,_,rfl,rfl,(by show(0:Int) < 4;decide),rfl,_,rfl,zay (fun _=>?_) (fun _=>?_)⟩
  ·refine⟨rfl,_,rfl,p,_,_,_,rfl,rfl,SqL.of n1,zej (k:=0) (by decide),lS1,fun b hb=>⟨b,_,_,rfl,rfl,ag,by decide,by decide,(by show 1 * 21≤sizeLine;decide),fun r hr'=>?_⟩⟩
   have s2:ao H1 (upd (upd H1 b (.lst [V.str (zaI 0)])) r (.lst (List.replicate (21:Int).toNat [V.str (zaI 0)]).flatten)):=(zae hb _).trans (zae hr' _)
   have n2:=ag (H:=upd H1 b (.lst [V.str (zaI 0)])) (a:=r) (o:=.lst (List.replicate (21:Int).toNat [V.str (zaI 0)]).flatten)
   rw[rep21]at s2 n2 ⊢
   generalize upd (upd H1 b (.lst [V.str (zaI 0)])) r (.lst ((List.replicate 21 (zaI 0)).map V.str))=H2 at s2 n2
   have e4:((" or ":Str)).length=4:=by decide +kernel
   have e5:zb7 (List.replicate 21 (zaI 0))=63:=by decide +kernel
   have e6:(Builtin.Str.glued " or " (List.replicate 21 (zaI 0))).length=143:=by decide +kernel
   refine⟨" or ",r,_,rfl,rfl,SqL.of n2,szM (by rw[e4,e5];decide),_,_,rfl,rfl,szM (by rw[e6,l1];decide),?_⟩
   rw[eD]
   refine q _ H2 (zhc m2 ?_) (by rw[ap,e6,l1];decide) (s1.trans s2)
   rw[zap,c10]
   show _=cp row21++[10]++[]
   rw[List.append_nil]
   rfl
  ·have e1:(("never\n":Str)).length=6:=by decide +kernel
   refine⟨_,_,rfl,rfl,by decide,by decide,by rw[e1];decide,by rw[e1];decide,_,rfl,_,_,rfl,rfl,szM (by rw[zcd,e1];show 200 * 6+_≤_;omega),_,_,rfl,rfl,szM (by simp only[ap,zcd,e1,l1];show 200 * 6+_+1≤_;omega),?_⟩
   rw[eD]
   refine q _ H1 (many3 g hy ?_) (by simp only[ap,zcd,e1,l1];show 200 * 6+_+1≤_;omega) s1
   rw[zap,zap,c10,zc3]
   show cp (zb6 "never\n" 200)++cp y++[10]=_
   rw[nev200]
   simp [zao]
 obtain⟨r4,p4,q4⟩:=t4
 have t3:∃ t,PSs X ((zam za5).drop 3) t∧∀(p:Addr) (H1:Hp) (D:zaM),D.rt=Q→H1 p=some (.lst (zby.map V.str))→ao H H1→t D [some (.int c),some (.str y),some (.str zbO),some (.ref p),none] H1:=by
  subst hX
  refine⟨_,(aj (zaD (zal zbc (ar zaE (pv 0) ah) ah (zas _))
    (aj (zjZ (i:=4) (N':=["_law_k","_law_some"]) (ix:=[3]) zel.nd rfl (Or.inl rfl) rfl rfl (by decide +kernel) (by decide +kernel) rfl (fun ok=>zdX (sc:=ad za5) ok rfl (by decide +kernel) (by decide +kernel)) (by decide +kernel) rfl rfl (fun j i h=>match j,h with | 0,h=>by cases h;exact⟨_,rfl,rfl,.inl rfl,.inl rfl⟩ | n+1,h=>by simp at h) (zcn rfl TR (aa ah ac))
     (fun _ _ _ _=>(ar zaf (ar zaf (ar zaf (zaJ (r:=rIxL K) zaT (pv 1) (ar zdh ah (pv 0)) (fun _ _=>rfl)) ak) (zaJ (r:=rIxL K) zaT (pv 1) (ar zbt (ar zdh ah (pv 0)) ah) (fun _ _=>rfl))) ak)))
    (ae (zab (ar zaf (ar zaf (ar zaf (ar zaf (zbk PySem.F.plainAttrs_str PySem.F.slot_str_join PySem.F.type_str_join zer ak (aa (pv 4) ac)) (zaJ zaT (pv 3) ah (fun _ _=>rfl))) ak) (pv 1)) ak))))
    zag) p4),?_⟩
  try dsimp only [Cx.nox,Cx.wish,zak]
  try dsimp only [Cx.nox,Cx.wish,zak]
  intro p H1 D eD n1 s1
  refine⟨_,rfl,_,_,rfl,rfl,(by show(0:Int) < 4;decide),rfl,_,rfl,zay (fun _=>?_) (fun _=>q4 p H1 D eD n1 s1)⟩
  refine⟨30,rfl,by decide,by decide,fun U hU=>?_⟩
  refine zcv zeG (fun i us H'=>ao H1 H'∧us=(((List.range i).map zcu).map zbE).map V.str) (fun _ _ _ _=>trivial) ⟨zae hU _,rfl⟩ ?_ ?_
  ·rintro i us H8 x H4 hi hly hDs ⟨s4,rfl⟩ ⟨rfl,rfl⟩
   have i30:i < 30:=hi
   have e1:(2:Int) * (0+(i:Nat))=((2 * i:Nat):Int):=by omega
   have e2:(2:Int) * (0+(i:Nat))+1=((2 * i+1:Nat):Int):=by omega
   refine⟨_,rfl,_,rfl,_,_,rfl,rfl,.inl ⟨by decide,by decide⟩,p,_,_,_,rfl,rfl,SqL.of (s4 _ _ n1),(by rw[e1];exact zej (by omega)),_,_,rfl,rfl,szM (by rw[zbe,l3];decide),?_⟩
   refine⟨_,rfl,_,rfl,_,_,rfl,rfl,.inl ⟨by decide,by decide⟩,_,_,rfl,rfl,p,_,_,_,rfl,rfl,SqL.of (s4 _ _ n1),(by rw[e2];exact zej (by omega)),_,_,rfl,rfl,szM (by simp only[ap,zbe,l3];decide),?_⟩
   refine⟨_,_,rfl,rfl,szM (by simp only[ap,zbe,l3,l1];decide),zbH (F06.sz _ (by decide)) hi hly hDs ⟨s4.upd hU,?_⟩⟩
   rw[List.range_succ,List.map_append,List.map_append,List.map_append]
   rfl
  ·rintro us H4 hDs ⟨s4,rfl⟩
   have hDs:H4 U=some (.lst ((((List.range 30).map zcu).map zbE).map V.str)):=hDs
   have pl:∀ z∈(List.range 30).map zcu,z.length≤9:=fun z hz=>by
    obtain⟨k,_,rfl⟩:=List.mem_map.mp hz
    unfold zcu
    simp only[ap,zbe,l3]
    decide
   have ls:=zc5 pl
   have rl:=zc2 pl
   rw[List.length_map,List.length_range]at ls rl
   have gl:(Builtin.Str.glued "" (((List.range 30).map zcu).map zbE)).length≤300:=by
    rw[←av,zds]
    omega
   refine⟨rfl,_,rfl,"",U,((List.range 30).map zcu).map zbE,rfl,rfl,SqL.of hDs,szM (by rw[l0];omega),?_⟩
   refine⟨_,rfl,p,_,_,_,rfl,rfl,SqL.of (s4 _ _ n1),zej (k:=60) (by decide),_,_,rfl,rfl,szM (by rw[zbe];omega),_,_,rfl,rfl,szM (by simp only[ap,zbe,l3];omega),_,rfl,_,_,rfl,rfl,szM (by simp only[ap,zbe,l3];omega),_,_,rfl,rfl,szM (by simp only[ap,zbe,l3,l1];omega),?_⟩
   rw[eD]
   refine q _ H4 (many1 g hy ?_) (by simp only[ap,zbe,l3,l1];omega) (s1.trans s4)
   rw[zc3,←zds]
   simp only[zap,c10,zao,List.flatMap_cons,List.flatMap_nil,List.append_nil,List.append_assoc]
 obtain⟨r3,p3,q3⟩:=t3
 have t2:∃ t,PSs X ((zam za5).drop 2) t∧∀(p:Addr) (H1:Hp) (D:zaM),D.rt=Q→H1 p=some (.lst (zby.map V.str))→ao H H1→t D [some (.int c),some (.str y),some (.str zbO),some (.ref p),none] H1:=by
  subst hX
  refine⟨_,(aj (zaD (zal zbc (ar zaE (pv 0) ah) ah (zas _))
    (ae (zab (zbk PySem.F.plainAttrs_str PySem.F.slot_str_join PySem.F.type_str_join zer ak (aa (zgq (N':=["_law_name_here"]) (ix:=[]) rfl rfl (by decide +kernel) (by decide +kernel) rfl (fun _=>⟨[],zcQ (by decide +kernel) (by decide +kernel)⟩) (by decide +kernel) rfl rfl (fun j i h=>by simp at h) (zcF (zdC zkF (pv 3) zfK (zdq ah))) (fun _ _ _ _=>(ar zaf (pv 0) ak))) ac))))
    zag) p3),?_⟩
  try dsimp only [Cx.nox,Cx.wish,zak]
  try dsimp only [Cx.nox,Cx.wish,zak]
  intro p H1 D eD n1 s1
  refine⟨_,rfl,_,_,rfl,rfl,(by show(0:Int) < 4;decide),rfl,_,rfl,zay (fun _=>?_) (fun _=>q3 p H1 D eD n1 s1)⟩
  refine⟨rfl,_,rfl,_,rfl,p,_,rfl,SqL.of n1,fun r hr'=>?_⟩
  rw[cut41]
  have s2:=zae hr' (.lst ((zby.take 41).map V.str))
  have n2:=ag (H:=H1) (a:=r) (o:=.lst ((zby.take 41).map V.str))
  generalize upd H1 r (.lst ((zby.take 41).map V.str))=H2 at s2 n2
  have sl:∀ z∈zby.take 41,z.length≤3:=fun z hz=>by
   obtain⟨k,_,rfl⟩:=List.mem_map.mp (List.mem_of_mem_take hz)
   rw[zbe]
   exact Nat.le_refl _
  have l41:(zby.take 41).length=41:=by decide +kernel
  generalize hz:zby.take 41=zs at s2 n2 sl l41
  refine⟨r,rfl,⟨_,SqL.of n2⟩,fun J hJ=>?_⟩
  refine zcv zcC (fun i us H'=>ao H2 H'∧us=((zs.take i).map zbE).map V.str) (fun i us H' ⟨s',_⟩=>SqL.of (s' _ _ n2)) ⟨zae hJ _,rfl⟩ ?_ ?_
  ·rintro i us H8 x H4 hi hly hDs ⟨s4,rfl⟩ ⟨rfl,hx⟩
   have hx4:=hx _ (SqL.of (s4 _ _ n2))
   rw[List.getElem?_map]at hx4
   cases er:zs[i]? with
   | none=>rw[er]at hx4;cases hx4
   | some y' =>
    rw[er]at hx4
    cases hx4
    have yl':=sl y' (List.mem_of_getElem? er)
    refine⟨_,rfl,_,_,rfl,rfl,szM (by rw[l1];omega),zbH (szM (by rw[List.length_map];omega)) hi hly hDs ⟨s4.upd hJ,?_⟩⟩
    rw[zd0 er,List.map_append,List.map_append]
    rfl
  ·rintro us H4 hDs ⟨s4,rfl⟩
   rw[List.length_map,List.take_of_length_le (Nat.le_refl _)]at hDs
   have ls:=zc5 sl
   have rl:=zc2 sl
   rw[l41]at ls rl
   refine⟨"",J,_,rfl,rfl,SqL.of hDs,szM (by rw[l0];omega),?_⟩
   rw[eD]
   refine q _ H4 (zhc (zs:=zs) (by rw[←hz];exact m0) (zds zs)) (by rw[←av,zds];omega) ((s1.trans s2).trans s4)
 obtain⟨r2,p2,q2⟩:=t2
 subst hX
 refine⟨_,(aj (zar (i:=2) zel.nd rfl (Or.inr rfl) ak)
  (aj (zar (i:=3) zel.nd rfl (Or.inr rfl) (zgq (N':=["_law_k","_law_letters"]) (ix:=[2]) rfl rfl (by decide +kernel) (by decide +kernel) rfl (fun ok=>zdX (sc:=ad za5) ok rfl (by decide +kernel) (by decide +kernel)) (by decide +kernel) rfl rfl (fun j i h=>match j,h with | 0,h=>by cases h;exact⟨_,rfl,rfl,.inl rfl,.inl rfl⟩ | n+1,h=>by simp at h) (zcn rfl TR (aa ah ac))
   (fun _ _ _ _=>(ar zaf (ar zaf ak (zaJ zfo (pv 1) (ar zaE (pv 0) ah) (fun _ _=>rfl))) (zaJ zfo (pv 1) (ar zbw (pv 0) ah) (fun _ _=>rfl)))))) p2)),?_⟩
 try dsimp only [Cx.nox,Cx.wish,zak]
 try dsimp only [Cx.nox,Cx.wish,zak]
 refine⟨61,rfl,by decide,by decide,fun U hU=>?_⟩
 refine zcv zeG (fun i us H'=>ao H H'∧us=((List.range i).map zaI).map V.str) (fun _ _ _ _=>trivial) ⟨zae hU _,rfl⟩ ?_ ?_
 ·rintro i us H8 x H4 hi hly hDs ⟨s4,rfl⟩ ⟨rfl,rfl⟩
  have i61:i < 61:=hi
  have e1:((0:Int)+(i:Nat)) % 24=((i % 24:Nat):Int):=by omega
  have e2:((0:Int)+(i:Nat)) / 24=((i / 24:Nat):Int):=by omega
  have lz:(("z":Str)).length=1:=by decide +kernel
  refine⟨_,rfl,_,rfl,_,_,rfl,rfl,(by show(0:Int) < 24;decide),zbO,_,_,rfl,rfl,F06.sz _ (by decide +kernel),(by rw[e1];exact at24 (by omega)),_,_,rfl,rfl,szM (by rw[lz,zcP];decide),?_⟩
  refine⟨_,rfl,_,rfl,_,_,rfl,rfl,⟨by decide,by decide⟩,zbO,_,_,rfl,rfl,F06.sz _ (by decide +kernel),(by rw[e2];exact at24 (by omega)),_,_,rfl,rfl,szM (by rw[ap,lz,zcP,zcP];decide),zbH (F06.sz _ (by decide)) hi hly hDs ⟨s4.upd hU,?_⟩⟩
  rw[List.range_succ,List.map_append,List.map_append]
  rfl
 ·rintro us H4 hDs ⟨s4,rfl⟩
  exact q2 U H4 _ rfl hDs s4
end
end K06
namespace L2
open PySem PySem.Spec PyProof.Rows
structure PAk (X:Cx) (b:Nat) (es:List Expr) (t:TA):Prop where
 run:∀(pos:Pos) (pins:List (Addr × Obj)) (s:Shared) (σ:St) (H:Hp) (Q:List V→Hp→Prop),Inv X pins σ H s→b≤s.toks→t σ H Q→wpAny (model X.prog X.w) X.A (spliced (backTo pos (starEach es X.env))) (AP X pins σ Q) X.xe s
section
variable {X:Cx} {b:Nat} {e a c:Expr} {es:List Expr} {te ta tc:TE} {t:TA} {pos:Pos}
theorem PA.k (h:PA X es t):PAk X b es t:=⟨fun pos pins s σ H Q I _ q=>h pos pins s σ H Q I q⟩
theorem zg9 (ha:PEk X b e te) (hr:PAk X b es t) (hs:starEach (e :: es) X.env=(false,eval e X.env) :: starEach es X.env:=by rfl):PAk X b (e :: es) (zee te t):=by
 refine⟨fun pos pins s σ H Q I hb h=>?_⟩
 rw[hs]
 show wpAny _ _ (spliced ((false,eval e X.env) :: backTo pos (starEach es X.env))) _ _ s
 refine Calls.spliced_cons (thk hb (ha.run pins s σ H _ I hb h) fun u s1 ⟨x,H1,I1,r1,q1⟩ hb1=>?_)
 exact thn (hr.run pos pins s1 σ H1 _ I1 hb1 q1) fun us s2 ⟨xs,H2,I2,r2,q2⟩=>⟨x :: xs,H2,I2,.cons r1 r2,q2⟩
theorem zkT (h:PAk X b es t):PEk X b (.List es pos) (zeA t):=by
 refine⟨fun pins s σ H Q I hb hq=>?_⟩
 refine wpAny_List_spliced (thn (h.run pos pins s σ H _ I hb hq) fun us s1 ⟨xs,H1,I1,r,z,q⟩=>⟨by rw[←r.length];exact z,?_⟩)
 have hf:H1 s1.heap.objs.size=none:=I1.hok.fresh (Nat.le_refl _)
 refine⟨.ref s1.heap.objs.size,upd H1 s1.heap.objs.size (.lst xs),I1.laid (t':=s1.toks) (fun b u e=>Heap.get?_push_of_some _ e) (Nat.le_refl _) ?_,rfl,q _ hf⟩
 exact⟨z,us,0,r,Heap.get?_push_size _ rfl⟩
theorem pek_ix {r:R2} (hr:IxR X r) (ha:PEk X b a ta) (hc:PE X c tc) (hs:zib c):PEk X b (.Subscript a c pos) (tOp r ta tc):=by
 refine⟨fun pins s σ H Q I hb h=>?_⟩
 refine Subscript_ ?_
 refine thn (ha.run pins s σ H _ I hb h) fun v s1 ⟨x,H1,I1,r1,q1⟩=>?_
 refine thn (hc pins s1 σ H1 _ I1 q1) fun u s2 ⟨y,H2,I2,r2,q2⟩=>?_
 exact hr a c pins s2 σ H2 x y v u Q I2 r1 r2 q2 (hs _ _)
theorem zkS {op:Operator} {r:R2} (ho:OpR X (binaryOp op) r) (ha:PE X a ta) (hc:PEk X b c tc):PEk X b (.BinOp a op c pos) (tOp r ta tc):=by
 refine⟨fun pins s σ H Q I hb h=>?_⟩
 refine wpAny_BinOp ?_
 refine thk hb (ha pins s σ H _ I h) fun v s1 ⟨x,H1,I1,r1,q1⟩ hb1=>?_
 refine thn (hc.run pins s1 σ H1 _ I1 hb1 q1) fun u s2 ⟨y,H2,I2,r2,q2⟩=>?_
 exact ho pins s2 σ H2 x y v u Q I2 r1 r2 q2
end
end L2
namespace K06
open PySem L2
open F06 (szM ap)
open C06 (GW sub zaA zaH zbi cp zap av zaO zao abc)
structure FW (P:Program) (w:World) (K:PySem.W.Frag) (mg:Str→Option Value) (base:Heap) (k:Nat) (x:Str) (f:Addr) (fd:FuncData) (R:List Nat→Str→Prop):Prop where
 ok:∀ W,GW W→FnT P w K mg base CX0 k f fd ["_law_cell","_law_word_here"] 1 (zdO W (R W))
 b:au K fd ["_law_cell","_law_word_here"] []
 kp:PySem.W.keepIn K (.ref f)=true
 m:mg x=some (.ref f)
theorem zkt {y:Str} {n:Nat} (hl:y.length=n) (hn:n≤6) (h:∀ d∈y.cps.toList,d∈abc.cps.toList):GW (cp ("b"++y)):=by
 have e:cp ("b"++y)=98 :: cp y:=by rw[zap];rfl
 refine⟨⟨_,e⟩,fun c hc=>?_,?_⟩
 ·rw[e]at hc
  rcases List.mem_cons.mp hc with rfl | hc
  ·decide +kernel
  ·exact h c hc
 ·rw[e,List.length_cons,av]
  omega
def NA:List Str:=["_law_script","_law_turn","_law_word_here","_law_rows","_law_at","_law_cell","_law_kind","_law_due","_law_text","_law_last"]
inductive zeO (K:PySem.W.Frag):Sp | mk {vs H Q E9} (a:Addr) (ns:List Int) (t:Int):vs=[.ref a,.int t]→SqL K H a (ns.map V.int)→ns.length≤63→(∀ H',ao H H'→Q (.bl true) H')→zeO K vs H Q E9
def SA (a:Addr) (t:Int) (p at' c kd d s l:Option V):St:=[some (.ref a),some (.int t),none,p,at',c,kd,d,s,l]
section
variable {P:Program} {w:World} {K:PySem.W.Frag} {mg:Str→Option Value} {base:Heap} {f fC fW fG fN fF fM fS fB fY:Addr} {fd dC dW dG dN dF dM dS dB dY:FuncData}
theorem zg3:zaa NA ["_law_script","_law_turn"] (ad zac):=⟨rfl,rfl,rfl,by decide +kernel,rfl,by decide +kernel,by decide +kernel⟩
theorem zaR:(["_law_script","_law_turn","%","_law_rows","_law_at","_law_cell","_law_kind","_law_due","_law_text","_law_last"]:List Str).Nodup:=by decide +kernel
set_option maxHeartbeats 4000000 in
theorem zhB (BC:FB P w K mg base CX0 1 "_law_cell_at" fC dC ["_law_script","_law_k"] (zcL K)) (BN:FW P w K mg base 1 "_law_name" fN dN (KdR .name)) (BF:FW P w K mg base 2 "_law_form" fF dF zcx)
  (BM:∀ W,GW W→FB P w K mg base CX0 1 "_law_many" fM dM ["_law_cell","_law_word_here"] (zbW W)) (BS:∀ W,GW W→FB P w K mg base CX0 50 "_law_told" fS dS ["_law_text"] (zaY W)) (BB:∀ W,GW W→FB P w K mg base CX0 50 "_law_told_back" fB dB ["_law_text"] (zaY W)) (BY:∀ W,GW W→FB P w K mg base CX0 50 "_law_any" fY dY ["_law_text"] (zck W))
  {cdv:Value} {A:Around} {outer:List Env} {s0:Shared} {H:Hp} {Q:VK} {E:XK} (hr:zai 50 (A.deeper (PyProof.Rows.envOfC "_law_asked" (ad zac) s0.heap.objs.size f cdv))) {a:Addr} {ns:List Int} {t:Int} (hS:SqL K H a (ns.map V.int)) (h63:ns.length≤63) (q:∀ H',ao H H'→Q (.bl true) H')
  {z:Str} {k:Nat} (k0:k≠0) (g:GW (cp z)) {X:Cx} (hX:(zak CX0 P w K mg base NA "_law_asked" (ad zac) f cdv A outer s0 H E).nox.put 2 "_law_word_here" (.str z k)=X) :
  ∃ u,zaV X (k+1) ((zam zac).drop 12) u∧∀(s:Str) (n:Nat) (o:Option Kd) (p at':Option V) (c kd:Int) (H1:Hp) (D:zaM),D.rt=Q→s.length≤30000→Txs (cp z) s n o→n≤210→(2 < kd→o≠none)→ao H H1→u D (SA a t p at' (some (.int c)) (some (.int kd)) (some (.str (zeB o))) (some (.str s)) none) H1:=by
 have hr1:zai 1 _:=hr.mono (by decide)
 have hr2:zai 2 _:=hr.mono (by decide)
 have kb:k < k+1:=Nat.lt_succ_self k
 have BN':=BN.ok _ g
 have BF':=BF.ok _ g
 have BS':=BS _ g
 have BB':=BB _ g
 have BY':=BY _ g
 generalize hW:cp z=W at g BN' BF' BS' BB' BY'
 have t14:∃ u,PSs X ((zam zac).drop 14) u∧∀(s:Str) (o:Option Kd) (p at' c kd l:Option V) (H1:Hp) (D:zaM),D.rt=Q→s.length≤1000000→Bad W s o→ao H H1→u D (SA a t p at' c kd (some (.str (zeB o))) (some (.str s)) l) H1:=by
  subst hX
  refine⟨_,(ae (zab (zdS (zca zbc (zad BS'.ok hr rfl BS'.m BS'.kp BS'.b .nil zaz (aa (pv 8) ac)) (pv 7) (zas _)) (zdS (zca zbc (zad BB'.ok hr rfl BB'.m BB'.kp BB'.b .nil zaz (aa (pv 8) ac)) (pv 7) (zas _)) (zgM (zad BY'.ok hr rfl BY'.m BY'.kp BY'.b .nil zaz (aa (pv 8) ac))))))),?_⟩
  try dsimp only [Cx.nox,Cx.wish,zak]
  try dsimp only [Cx.nox,Cx.wish,zak]
  intro s o p at' c kd l H1 D eD sl bd s1
  refine⟨_,rfl,s,o,rfl,sl,bd,fun H2 s2=>⟨_,rfl,rfl,_,rfl,?_⟩⟩
  rw[decide_eq_true rfl]
  refine za7 ⟨_,rfl,s,o,rfl,sl,bd,fun H3 s3=>⟨_,rfl,rfl,_,rfl,?_⟩⟩
  rw[decide_eq_true rfl]
  refine za7 ⟨_,rfl,s,o,rfl,sl,bd,fun H4 s4=>?_⟩
  rw[eD]
  exact q H4 (((s1.trans s2).trans s3).trans s4)
 obtain⟨r14,p14,q14⟩:=t14
 have l1:(("\n":Str)).length=1:=by decide +kernel
 have l2:(("b":Str)).length=1:=by decide +kernel
 have l3:((" \n":Str)).length=2:=by decide +kernel
 have t13:∃ u,zaV X (k+1) ((zam zac).drop 13) u∧∀(s:Str) (n:Nat) (o:Option Kd) (p at':Option V) (c:Int) (kd:Option V) (H1:Hp) (D:zaM),D.rt=Q→s.length≤40000→Txs W s n o→n≤220→ao H H1→u D (SA a t p at' (some (.int c)) kd (some (.str (zeB o))) (some (.str s)) none) H1:=by
  subst hX
  refine⟨_,(zah (zdP (zal zbc (ar zaE (ar zbt (zad BC.ok hr1 rfl BC.m BC.kp BC.b .nil zaz (aa (pv 0) (aa ah ac))) (pv 1)) ah) ah (zas _))
    (zah (zeo (i:=9) zaR rfl (Or.inl rfl) (zgL zaf (zco BF' hr2 rfl BF.m BF.kp BF.b zaz (ar zaE (zad BC.ok hr1 rfl BC.m BC.kp BC.b .nil zaz (aa (pv 0) (aa ah ac))) (ar op_pow ah ah)) (.head _) k0 kb) ak))
    (zah (PS.k (zar (i:=8) zaR rfl (Or.inl rfl) (ar zaf (pv 8) (zaJ zaT (za8 (aa (pv 9) (aa ak (aa ak ac)))) (ar zaE (ar zbw (pv 5) ah) ah) (fun _ _=>rfl)))))
    (zbB (PS.k (zar (i:=7) zaR rfl (Or.inl rfl) ak)))))
    (PSs.k zag)) (PSs.k p14)),?_⟩
  try dsimp only [Cx.nox,Cx.wish,zak]
  intro s n o p at' c kd H1 D eD sl tx n220 s1
  refine⟨_,rfl,a,ns,_,rfl,s1.seq hS,h63,by decide,fun i4=>⟨_,rfl,_,_,rfl,rfl,_,_,rfl,rfl,(by show(0:Int) < 5;decide),rfl,_,rfl,zay (fun _=>?_) (fun _=>?_)⟩⟩
  ·refine⟨_,rfl,a,ns,_,rfl,s1.seq hS,h63,by decide,fun i5=>⟨_,_,rfl,rfl,⟨by decide,by decide,by decide⟩,_,_,rfl,rfl,(by show(0:Int) < 10 ^ 9;decide),_,z,rfl,hW,fun y H2 by' yl s2=>?_⟩⟩
   refine⟨_,_,rfl,rfl,szM (by rw[l1];omega),_,rfl,_,rfl,lS3,fun b9 hb9=>?_⟩
   have s3:=zae hb9 (.lst [V.str (y++"\n"),V.str "b",V.str " \n"])
   have n3:=ag (H:=H2) (a:=b9) (o:=.lst [V.str (y++"\n"),V.str "b",V.str " \n"])
   generalize upd H2 b9 (.lst [V.str (y++"\n"),V.str "b",V.str " \n"])=H3 at s3 n3
   have s13:=(s1.trans s2).trans s3
   have alt:∃ y':Str,atI [V.str (y++"\n"),V.str "b",V.str " \n"] (c / 93 % 3)=some (.str y')∧y'.length≤5001∧Bad W (s++y') none:=by
    have h3:c / 93 % 3=0∨c / 93 % 3=1∨c / 93 % 3=2:=by omega
    rcases h3 with h3 | h3 | h3
    ·exact⟨_,by rw[h3];exact zax (j:=0) rfl,by rw[ap,l1];omega,(tx.form (s':=s++(y++"\n")) by'.1 (by rw[zap,zap,c10])).bad g (by omega)⟩
    ·exact⟨_,by rw[h3];exact zax (j:=1) rfl,by rw[l2];omega,.inl ⟨_,by rw[zap,show cp "b"=[98] by decide +kernel]⟩⟩
    ·exact⟨_,by rw[h3];exact zax (j:=2) rfl,by rw[l3];omega,(tx.form (s':=s++" \n") (y:=" ") (zdt zkE (zaA W (by decide +kernel)).symm) (by rw[zap,show cp " \n"=cp " "++[10] by decide +kernel])).bad g (by omega)⟩
   obtain⟨y',hat,y'l,bd⟩:=alt
   refine⟨_,rfl,_,_,rfl,rfl,⟨by decide,by decide⟩,_,_,rfl,rfl,(by show(0:Int) < 3;decide),b9,_,_,_,rfl,rfl,SqL.of n3,hat,s,y',rfl,rfl,szM (by omega),?_⟩
   exact q14 (s++y') none p at' _ kd _ H3 D eD (by rw[ap];omega) bd s13
  ·exact q14 s o p at' _ kd none H1 D eD (by omega) (tx.bad g (by omega)) s1
 obtain⟨r13,p13,q13⟩:=t13
 subst hX
 refine⟨_,(zah (zdP (PW.pt (zfk (zal zfb (pv 6) ah (zas _)) (zen (zal zbc (ar zaE (ar zbw (pv 5) ah) ah) ah (zas _)))))
   (zbB (zeo (i:=8) zaR rfl (Or.inl rfl) (zkS zaf (pv 8) (pek_ix zaT (zkT (zg9 (PE.k ak) (zg9 (zgL zaf (zco BN' hr1 rfl BN.m BN.kp BN.b zaz (ar zbw (pv 5) ah) (.head _) k0 kb) ak) (PA.k ac)))) (ar zaE (ar zbw (pv 5) ah) ah) (fun _ _=>rfl)))))
   (PSs.k zag)) p13),?_⟩
 try dsimp only [Cx.nox,Cx.wish,zak]
 intro s n o p at' c kd H1 D eD sl tx n210 hk s1
 refine⟨_,rfl,_,_,rfl,rfl,_,rfl,zay (fun c1=>?_) (fun _=>zaX (q13 s n o p at' c _ H1 D eD (by omega) tx (by omega) s1))⟩
 have kd2:2 < kd:=of_decide_eq_true c1
 refine⟨_,rfl,_,_,rfl,rfl,⟨by decide,by decide⟩,_,_,rfl,rfl,(by show(0:Int) < 2;decide),rfl,_,rfl,zay (fun _=>?_) (fun _=>q13 s n o p at' c _ H1 D eD (by omega) tx (by omega) s1)⟩
 obtain⟨k9,rfl⟩:∃ k9,o=some k9:=Option.ne_none_iff_exists'.mp (hk kd2)
 refine⟨_,rfl,_,rfl,_,_,rfl,rfl,⟨by decide,by decide⟩,_,z,rfl,hW,fun y H2 ny yl s2=>?_⟩
 have lf:(("f(b, b, b, b) = b\n":Str)).length=18:=by decide +kernel
 refine⟨_,_,rfl,rfl,szM (by rw[l1];omega),lS2,fun b9 hb9=>?_⟩
 have s3:=zae hb9 (.lst [V.str "f(b, b, b, b) = b\n",V.str (y++"\n")])
 have n3:=ag (H:=H2) (a:=b9) (o:=.lst [V.str "f(b, b, b, b) = b\n",V.str (y++"\n")])
 generalize upd H2 b9 (.lst [V.str "f(b, b, b, b) = b\n",V.str (y++"\n")])=H3 at s3 n3
 have alt:∃ y':Str,atI [V.str "f(b, b, b, b) = b\n",V.str (y++"\n")] (c / 12014 % 2)=some (.str y')∧y'.length≤5001∧Txs W (s++y') (n+1) (some k9):=by
  have h3:c / 12014 % 2=0∨c / 12014 % 2=1:=by omega
  rcases h3 with h3 | h3
  ·exact⟨_,by rw[h3];exact zax (j:=0) rfl,by rw[lf];decide,tx.more (y:="f(b, b, b, b) = b") (ziq fb_ok (zaA W (by decide +kernel)).symm).ok (by rw[zap,show cp "f(b, b, b, b) = b\n"=cp "f(b, b, b, b) = b"++[10] by decide +kernel])⟩
  ·exact⟨_,by rw[h3];exact zax (j:=1) rfl,by rw[ap,l1];omega,tx.more ny.ok (by rw[zap,zap,c10])⟩
 obtain⟨y',hat,y'l,tx'⟩:=alt
 refine⟨_,rfl,_,_,rfl,rfl,⟨by decide,by decide⟩,_,_,rfl,rfl,(by show(0:Int) < 2;decide),b9,_,_,_,rfl,rfl,SqL.of n3,hat,s,y',rfl,rfl,szM (by omega),?_⟩
 exact q13 (s++y') (n+1) (some k9) p at' c _ H3 D eD (by rw[ap];omega) tx' (by omega) ((s1.trans s2).trans s3)
end
end K06
namespace K06
open PySem L2
open F06 (szM ap)
open C06 (GW sub zaA zaH zbi cp zap av zaO zao abc)
theorem zld {n j:Nat} (h:j < n):ixN n (j:Int)=some j:=by
 unfold ixN
 rw[if_pos (by omega),if_pos (by omega)]
 simp
structure Cond (W:List Nat) (rs:List Str) (kd:Int) (o:Option Kd):Prop where
 ln:∀ r∈rs,r.length≤5000
 l4:rs.length≤4
 due:(kd=5∧o=none)∨(kd≠5∧(∀ s,cp s=zao rs→Txs W s 4 o)∧(2 < kd→o≠none))
theorem zdE {W:List Nat} (g:GW W) {zs:List Str} {j:Nat} {y:Str} {kd:Int} {o:Option Kd} (gz:zeg W zs) (zl:∀ z∈zs,z.length≤5000) (hj:j < zs.length) (hy:DueR W o y) (yl:y.length≤5000) (h5:kd≠5) (h2:2 < kd→o≠none):Cond W (zs.set j y) kd o:=by
 refine⟨fun r hr=>?_,by rw[List.length_set];exact gz.l4,.inr ⟨h5,fun s hs=>zkw g gz hj hy hs,h2⟩⟩
 rcases List.mem_or_eq_of_mem_set hr with h | h
 ·exact zl r h
 ·rw[h];exact yl
section
variable {P:Program} {w:World} {K:PySem.W.Frag} {mg:Str→Option Value} {base:Heap} {f fC fW fG fN fF fM fS fB fY:Addr} {fd dC dW dG dN dF dM dS dB dY:FuncData}
set_option maxHeartbeats 4000000 in
theorem zhA (BC:FB P w K mg base CX0 1 "_law_cell_at" fC dC ["_law_script","_law_k"] (zcL K)) (BN:FW P w K mg base 1 "_law_name" fN dN (KdR .name)) (BF:FW P w K mg base 2 "_law_form" fF dF zcx)
  (BM:∀ W,GW W→FB P w K mg base CX0 1 "_law_many" fM dM ["_law_cell","_law_word_here"] (zbW W)) (BS:∀ W,GW W→FB P w K mg base CX0 50 "_law_told" fS dS ["_law_text"] (zaY W)) (BB:∀ W,GW W→FB P w K mg base CX0 50 "_law_told_back" fB dB ["_law_text"] (zaY W)) (BY:∀ W,GW W→FB P w K mg base CX0 50 "_law_any" fY dY ["_law_text"] (zck W))
  {cdv:Value} {A:Around} {outer:List Env} {s0:Shared} {H:Hp} {Q:VK} {E:XK} (hr:zai 50 (A.deeper (PyProof.Rows.envOfC "_law_asked" (ad zac) s0.heap.objs.size f cdv))) {a:Addr} {ns:List Int} {t:Int} (hS:SqL K H a (ns.map V.int)) (h63:ns.length≤63) (q:∀ H',ao H H'→Q (.bl true) H')
  {z:Str} {k:Nat} (k0:k≠0) (g:GW (cp z)) {X:Cx} (hX:(zak CX0 P w K mg base NA "_law_asked" (ad zac) f cdv A outer s0 H E).nox.put 2 "_law_word_here" (.str z k)=X) :
  ∃ u,zaV X (k+1) ((zam zac).drop 10) u∧∀(rs:List Str) (o:Option Kd) (p:Addr) (at':Option V) (c kd:Int) (H1:Hp) (D:zaM),D.rt=Q→Cond (cp z) rs kd o→H1 p=some (.lst (rs.map V.str))→ao H H1→u D (SA a t (some (.ref p)) at' (some (.int c)) (some (.int kd)) (some (.str (zeB o))) none none) H1:=by
 have hr1:zai 1 _:=hr.mono (by decide)
 obtain⟨r12,p12,q12⟩:=zhB BC BN BF BM BS BB BY hr hS h63 q k0 g hX
 have BM':=BM _ g
 have l1:(("\n":Str)).length=1:=by decide +kernel
 have t11:∃ u,zaV X (k+1) ((zam zac).drop 11) u∧∀(rs:List Str) (s:Str) (o:Option Kd) (p at':Option V) (c kd:Int) (H1:Hp) (D:zaM),D.rt=Q→Cond (cp z) rs kd o→cp s=zao rs→ao H H1→u D (SA a t p at' (some (.int c)) (some (.int kd)) (some (.str (zeB o))) (some (.str s)) none) H1:=by
  subst hX
  refine⟨_,(zah (PS.k (zaD (zal zbc (pv 6) ah (zas _))
    (aj (zar (i:=8) zaR rfl (Or.inl rfl) (zad BM'.ok hr1 rfl BM'.m BM'.kp BM'.b .nil zaz (aa (pv 5) (aa (pe_ext (z:=z) (k:=k) (.head _)) ac))))
    (ae (zar (i:=7) zaR rfl (Or.inl rfl) ak)))
    zag)) p12),?_⟩
  try dsimp only [Cx.nox,Cx.wish,zak]
  intro rs s o p at' c kd H1 D eD cd hs s1
  refine⟨_,rfl,rfl,_,rfl,zay (fun _=>?_) (fun c5=>?_)⟩
  ·exact⟨_,rfl,c,z,rfl,rfl,fun y H2 tx yl s2=>q12 y 201 (some .many) p at' c kd H2 D eD (by omega) tx (by decide) (fun _=>by simp) (s1.trans s2)⟩
  ·have n5:kd≠5:=fun e=>c5 (by rw[e];decide +kernel)
   rcases cd.due with ⟨h,_⟩ | ⟨_,h2,h3⟩
   ·exact absurd h n5
   have sl:s.length≤20004:=by
    rw[←av,hs]
    have:=zc2 cd.ln
    have:=cd.l4
    omega
   exact q12 s 4 o p at' c kd H1 D eD (by omega) (h2 s hs) (by decide) h3 s1
 obtain⟨r11,p11,q11⟩:=t11
 subst hX
 refine⟨_,(zah (PS.k (zar (i:=8) zaR rfl (Or.inl rfl) (zbk PySem.F.plainAttrs_str PySem.F.slot_str_join PySem.F.type_str_join zer ak (aa (zgq (N':=["_law_row"]) (ix:=[]) rfl rfl (by decide +kernel) (by decide +kernel) rfl (fun _=>⟨[],zcQ (by decide +kernel) (by decide +kernel)⟩) (by decide +kernel) rfl rfl (fun j i h=>by simp at h) (zcF (pv 3)) (fun _ _ _ _=>(ar zaf (pv 0) ak))) ac)))) p11),?_⟩
 try dsimp only [Cx.nox,Cx.wish,zak]
 intro rs o p at' c kd H1 D eD cd hp s1
 have l4:=cd.l4
 refine⟨rfl,_,rfl,p,rfl,⟨_,SqL.of hp⟩,fun J hJ=>?_⟩
 refine zcv zcC (fun i us H'=>ao H1 H'∧us=((rs.take i).map zbE).map V.str) (fun i us H' ⟨s',_⟩=>SqL.of (s' _ _ hp)) ⟨zae hJ _,rfl⟩ ?_ ?_
 ·rintro i us H8 x H4 hi hly hDs ⟨s4,rfl⟩ ⟨rfl,hx⟩
  have hx4:=hx _ (SqL.of (s4 _ _ hp))
  rw[List.getElem?_map]at hx4
  cases er:rs[i]? with
  | none=>rw[er]at hx4;cases hx4
  | some y =>
   rw[er]at hx4
   cases hx4
   have yl:=cd.ln y (List.mem_of_getElem? er)
   refine⟨_,rfl,_,_,rfl,rfl,szM (by rw[l1];omega),zbH (szM (by rw[List.length_map];omega)) hi hly hDs ⟨s4.upd hJ,?_⟩⟩
   rw[zd0 er,List.map_append,List.map_append]
   rfl
 ·rintro us H4 hDs ⟨s4,rfl⟩
  rw[List.length_map,List.take_of_length_le (Nat.le_refl _)]at hDs
  have ls:=zc5 cd.ln
  have c0:(("":Str)).length=0:=by decide +kernel
  exact⟨"",J,_,rfl,rfl,SqL.of hDs,szM (by rw[c0];omega),q11 rs _ o _ at' c kd H4 D eD cd (zds rs) (s1.trans s4)⟩
end
end K06
namespace K06
open PySem L2
open F06 (szM ap)
open C06 (GW sub zaA zaH zbi cp zap av zaO zao abc)
section
variable {P:Program} {w:World} {K:PySem.W.Frag} {mg:Str→Option Value} {base:Heap} {f fC fW fG fN fF fM fS fB fY:Addr} {fd dC dW dG dN dF dM dS dB dY:FuncData}
set_option maxHeartbeats 4000000 in
theorem zhz (BC:FB P w K mg base CX0 1 "_law_cell_at" fC dC ["_law_script","_law_k"] (zcL K)) (BN:FW P w K mg base 1 "_law_name" fN dN (KdR .name)) (BF:FW P w K mg base 2 "_law_form" fF dF zcx)
  (BM:∀ W,GW W→FB P w K mg base CX0 1 "_law_many" fM dM ["_law_cell","_law_word_here"] (zbW W)) (BS:∀ W,GW W→FB P w K mg base CX0 50 "_law_told" fS dS ["_law_text"] (zaY W)) (BB:∀ W,GW W→FB P w K mg base CX0 50 "_law_told_back" fB dB ["_law_text"] (zaY W)) (BY:∀ W,GW W→FB P w K mg base CX0 50 "_law_any" fY dY ["_law_text"] (zck W))
  {cdv:Value} {A:Around} {outer:List Env} {s0:Shared} {H:Hp} {Q:VK} {E:XK} (hr:zai 50 (A.deeper (PyProof.Rows.envOfC "_law_asked" (ad zac) s0.heap.objs.size f cdv))) {a:Addr} {ns:List Int} {t:Int} (hS:SqL K H a (ns.map V.int)) (h63:ns.length≤63) (q:∀ H',ao H H'→Q (.bl true) H')
  {z:Str} {k:Nat} (k0:k≠0) (g:GW (cp z)) {X:Cx} (hX:(zak CX0 P w K mg base NA "_law_asked" (ad zac) f cdv A outer s0 H E).nox.put 2 "_law_word_here" (.str z k)=X) :
  ∃ u,zaV X (k+1) ((zam zac).drop 7) u∧∀(zs:List Str) (j:Nat) (p:Addr) (c kd:Int) (H1:Hp) (D:zaM),D.rt=Q→zeg (cp z) zs→(∀ y∈zs,y.length≤5000)→j < zs.length→0≤kd→kd < 6→H p=none→H1 p=some (.lst (zs.map V.str))→ao H H1→u D (SA a t (some (.ref p)) (some (.int (j:Nat))) (some (.int c)) (some (.int kd)) (some (.str "form")) none none) H1:=by
 have hr1:zai 1 _:=hr.mono (by decide)
 have hr2:zai 2 _:=hr.mono (by decide)
 have kb:k < k+1:=Nat.lt_succ_self k
 have zl7:z.length≤7:=by rw[←av];exact g.ln
 obtain⟨r10,p10,q10⟩:=zhA BC BN BF BM BS BB BY hr hS h63 q k0 g hX
 have BN':=BN.ok _ g
 have BF':=BF.ok _ g
 have at_s:∀ {rs:List Str} {j:Nat} {y:Str},rs[j]?=some y→atI (rs.map V.str) ((j:Nat):Int)=some (.str y):=fun {rs j y} h=>zax (by rw[List.getElem?_map,h];rfl)
 have ixs:∀ {rs:List Str} {j:Nat},j < rs.length→ixN (rs.map V.str).length ((j:Nat):Int)=some j:=fun {rs j} h=>zld (by rw[List.length_map];exact h)
 have t9:∃ u,zaV X (k+1) ((zam zac).drop 9) u∧∀(zs rs:List Str) (o:Option Kd) (j:Nat) (p:Addr) (c kd:Int) (H1:Hp) (D:zaM),D.rt=Q→zeg (cp z) zs→(∀ y∈zs,y.length≤5000)→j < zs.length→(kd=4→rs=zs∧o=none)→(kd≠4→Cond (cp z) rs kd o)→H p=none→H1 p=some (.lst (rs.map V.str))→ao H H1→u D (SA a t (some (.ref p)) (some (.int (j:Nat))) (some (.int c)) (some (.int kd)) (some (.str (zeB o))) none none) H1:=by
  subst hX
  refine⟨_,(zah (zdP (zal zbc (pv 6) ah (zas _))
    (zah (PS.k (zi2 (zaJ zaT (za8 (zcb (zs:=zec) (by kernel_rfl))) (ar zaE (pv 5) ah) (fun _ _=>rfl)) (zdR (pv 3) (pv 4) zcO)))
    (zah (zfJ (zci (zaJ zaT (pv 3) (pv 4) (fun _ _=>rfl)) (.head _) k0 kb (zgv g rfl) (hd:=by decide +kernel) (hcd:=by decide +kernel)) (zdR (pv 3) (pv 4) zcO))
    (zbB (PS.k (zar (i:=7) zaR rfl (Or.inl rfl) ak)))))
    (PSs.k zag)) p10),?_⟩
  try dsimp only [Cx.nox,Cx.wish,zak]
  intro zs rs o j p c kd H1 D eD gz zl hj h4 hn np hp s1
  refine⟨_,rfl,rfl,_,rfl,zay (fun c4=>?_) (fun c4=>?_)⟩
  ·have k4:kd=4:=by
    have:=of_decide_eq_true c4
    injection this
   obtain⟨rfl,rfl⟩:=h4 k4
   refine⟨lS3,fun b hb=>?_⟩
   have s2:=zae hb (.lst (zec.map V.str))
   have n2:=ag (H:=H1) (a:=b) (o:=.lst (zec.map V.str))
   generalize upd H1 b (.lst (zec.map V.str))=H2 at s2 n2
   obtain⟨y,hy,hat⟩:=zdZ (zs:=zec) (n:=3) (c:=c) rfl (by decide)
   obtain⟨b1,b2⟩:=zky y hy
   refine⟨_,rfl,_,_,rfl,rfl,(by show(0:Int) < 3;decide),b,_,_,_,rfl,rfl,SqL.of n2,hat,?_⟩
   refine⟨_,rfl,_,rfl,p,_,_,j,rfl,rfl,s2 _ _ hp,ixs hj,?_⟩
   have n3:(upd H2 p (.lst ((rs.map V.str).set j (.str y)))) p=some (.lst ((rs.set j y).map V.str)):=by rw[ag,←List.map_set (f:=V.str)]
   have s3:ao H (upd H2 p (.lst ((rs.map V.str).set j (.str y)))):=(s1.trans s2).upd np
   generalize upd H2 p (.lst ((rs.map V.str).set j (.str y)))=H3 at n3 s3
   refine⟨_,rfl,_,rfl,p,_,_,_,rfl,rfl,SqL.of n3,at_s (List.getElem?_set_self hj),y,rfl,zfj (by omega) zl7,?_⟩
   refine⟨_,rfl,_,rfl,p,_,_,j,rfl,rfl,n3,ixs (by rw[List.length_set];exact hj),?_⟩
   refine q10 (rs.set j (Txt.replace y "@" z)) (some .term) p _ c kd _ D eD (zdE g gz zl hj (ziq b1 (zdn y z)) (Nat.le_trans (zem g (by omega) rfl) (by decide)) (by omega) (fun _=>by simp)) ?_ (s3.upd np)
   rw[ag,←List.map_set (f:=V.str),List.set_set]
  ·have n4:kd≠4:=fun e=>c4 (by rw[e];decide +kernel)
   exact q10 rs o p _ c kd H1 D eD (hn n4) hp s1
 obtain⟨r9,p9,q9⟩:=t9
 have t8:∃ u,zaV X (k+1) ((zam zac).drop 8) u∧∀(zs rs:List Str) (j:Nat) (p:Addr) (c kd:Int) (H1:Hp) (D:zaM),D.rt=Q→zeg (cp z) zs→(∀ y∈zs,y.length≤5000)→j < zs.length→(2 < kd→rs=zs)→kd < 6→(¬2 < kd→Cond (cp z) rs kd none)→H p=none→H1 p=some (.lst (rs.map V.str))→ao H H1→u D (SA a t (some (.ref p)) (some (.int (j:Nat))) (some (.int c)) (some (.int kd)) (some (.str "form")) none none) H1:=by
  subst hX
  refine⟨_,(zah (zdP (zal zbc (pv 6) ah (zas _))
    (zah (zfJ (zco BN' hr1 rfl BN.m BN.kp BN.b zaz (pv 5) (.head _) k0 kb) (zdR (pv 3) (pv 4) zcO))
    (zbB (PS.k (zar (i:=7) zaR rfl (Or.inl rfl) ak))))
    (PSs.k zag)) p9),?_⟩
  try dsimp only [Cx.nox,Cx.wish,zak]
  intro zs rs j p c kd H1 D eD gz zl hj hz k6 hn np hp s1
  refine⟨_,rfl,rfl,_,rfl,zay (fun c3=>?_) (fun c3=>?_)⟩
  ·have k3:kd=3:=by
    have:=of_decide_eq_true c3
    injection this
   obtain rfl:=hz (by omega)
   refine⟨_,rfl,c,z,rfl,rfl,fun y H2 ny yl s2=>?_⟩
   refine⟨_,rfl,_,rfl,p,_,_,j,rfl,rfl,s2 _ _ hp,ixs hj,?_⟩
   refine q9 rs (rs.set j y) (some .name) j p c kd _ D eD gz zl hj (fun e=>by omega) (fun _=>zdE g gz zl hj ny yl (by omega) (fun _=>by simp)) np ?_ ((s1.trans s2).upd np)
   rw[ag,←List.map_set (f:=V.str)]
  ·have n3:kd≠3:=fun e=>c3 (by rw[e];decide +kernel)
   refine q9 zs rs none j p c kd H1 D eD gz zl hj (fun e=>⟨hz (by omega),rfl⟩) (fun n4=>?_) np hp s1
   by_cases h2:2 < kd
   ·obtain rfl:=hz h2
    exact⟨zl,gz.l4,.inl ⟨by omega,rfl⟩⟩
   ·exact hn h2
 obtain⟨r8,p8,q8⟩:=t8
 subst hX
 refine⟨_,(zah (zdP (zal zim (pv 6) ah (zas _))
   (zah (zfJ (zco BF' hr2 rfl BF.m BF.kp BF.b zaz (pv 5) (.head _) k0 kb) (zdR (pv 3) (pv 4) zcO))
   (zbB (PS.k (zaD (PW.pt (zfk (zal zbc (ar zaE (ar zbw (pv 5) ah) ah) ah (zas _)) (zen (zal op_ne (zaJ zaT (pv 3) (pv 4) (fun _ _=>rfl)) ak (zas _)))))
    (ae (zi2 (ar zaf ak (zaJ zaT (pv 3) (pv 4) (fun _ _=>rfl))) (zdR (pv 3) (pv 4) zcO)))
    zag))))
   (PSs.k zag)) p8),?_⟩
 try dsimp only [Cx.nox,Cx.wish,zak]
 intro zs j p c kd H1 D eD gz zl hj kd0 kd6 np hp s1
 refine⟨_,rfl,_,_,rfl,rfl,_,rfl,zay (fun c3=>?_) (fun c3=>?_)⟩
 ·have k3:kd < 3:=of_decide_eq_true c3
  refine⟨_,rfl,c,z,rfl,rfl,fun y H2 fy yl s2=>?_⟩
  refine⟨_,rfl,_,rfl,p,_,_,j,rfl,rfl,s2 _ _ hp,ixs hj,?_⟩
  have n3:(upd H2 p (.lst ((zs.map V.str).set j (.str y)))) p=some (.lst ((zs.set j y).map V.str)):=by rw[ag,←List.map_set (f:=V.str)]
  have s3:ao H (upd H2 p (.lst ((zs.map V.str).set j (.str y)))):=(s1.trans s2).upd np
  generalize upd H2 p (.lst ((zs.map V.str).set j (.str y)))=H3 at n3 s3
  have fin:=q8 zs (zs.set j y) j p c kd H3 D eD gz zl hj (fun h=>by omega) kd6 (fun _=>zdE g gz zl hj (o:=none) fy.1 yl (by omega) (fun h=>by omega)) np n3 s3
  refine⟨_,rfl,_,_,rfl,rfl,⟨by decide,by decide⟩,_,_,rfl,rfl,(by show(0:Int) < 3;decide),rfl,_,rfl,zay (fun _=>?_) (fun _=>zaX fin)⟩
  refine⟨_,rfl,_,rfl,p,_,_,_,rfl,rfl,SqL.of n3,at_s (List.getElem?_set_self hj),rfl,_,rfl,zay (fun c2=>?_) (fun _=>fin)⟩
  have ne:y≠"":=fun e=>by
   rw[e]at c2
   exact absurd c2 (by decide +kernel)
  have lc:(("c or ":Str)).length=5:=by decide +kernel
  obtain⟨l,e1,e2,_⟩:=fy.1
  have y1:y.length≤4000:=by
   rw[←av,e1]
   have:=C06.sub_len2 g l
   have:=e2.rt.ln
   have:=e2.rt.ct
   omega
  refine⟨_,rfl,_,rfl,p,_,_,_,rfl,rfl,SqL.of n3,at_s (List.getElem?_set_self hj),_,_,rfl,rfl,szM (by rw[lc];omega),?_⟩
  refine⟨_,rfl,_,rfl,p,_,_,j,rfl,rfl,n3,ixs (by rw[List.length_set];exact hj),?_⟩
  refine q8 zs (zs.set j ("c or "++y)) j p c kd _ D eD gz zl hj (fun h=>by omega) kd6 (fun _=>zdE g gz zl hj (o:=none) (fy.2 ne) (by rw[ap,lc];omega) (by omega) (fun h=>by omega)) np ?_ (s3.upd np)
  rw[ag,←List.map_set (f:=V.str),List.set_set]
 ·have k3:¬kd < 3:=fun h=>c3 (decide_eq_true h)
  exact q8 zs zs j p c kd H1 D eD gz zl hj (fun _=>rfl) kd6 (fun h=>by omega) np hp s1
end
end K06
namespace K06
open PySem L2
open F06 (szM ap)
open C06 (GW sub zaA zaH zbi cp zap av zaO zao abc)
section
variable {P:Program} {w:World} {K:PySem.W.Frag} {mg:Str→Option Value} {base:Heap} {f fC fW fG fN fF fM fS fB fY fA:Addr} {fd dC dW dG dN dF dM dS dB dY dA':FuncData}
set_option maxHeartbeats 4000000 in
theorem zhy (BC:FB P w K mg base CX0 1 "_law_cell_at" fC dC ["_law_script","_law_k"] (zcL K)) (BG:FW P w K mg base 1 "_law_good" fG dG zcZ) (BN:FW P w K mg base 1 "_law_name" fN dN (KdR .name)) (BF:FW P w K mg base 2 "_law_form" fF dF zcx)
  (BM:∀ W,GW W→FB P w K mg base CX0 1 "_law_many" fM dM ["_law_cell","_law_word_here"] (zbW W)) (BS:∀ W,GW W→FB P w K mg base CX0 50 "_law_told" fS dS ["_law_text"] (zaY W)) (BB:∀ W,GW W→FB P w K mg base CX0 50 "_law_told_back" fB dB ["_law_text"] (zaY W)) (BY:∀ W,GW W→FB P w K mg base CX0 50 "_law_any" fY dY ["_law_text"] (zck W)) (len:mg "len"=none) (TR:mg "range"=none)
  {cdv:Value} {A:Around} {outer:List Env} {s0:Shared} {H:Hp} {Q:VK} {E:XK} (hr:zai 50 (A.deeper (PyProof.Rows.envOfC "_law_asked" (ad zac) s0.heap.objs.size f cdv))) {a:Addr} {ns:List Int} {t:Int} (hS:SqL K H a (ns.map V.int)) (h63:ns.length≤63) (q:∀ H',ao H H'→Q (.bl true) H')
  {z:Str} {k:Nat} (k0:k≠0) (g:GW (cp z)):∃ u,zaV ((zak CX0 P w K mg base NA "_law_asked" (ad zac) f cdv A outer s0 H E).nox.put 2 "_law_word_here" (.str z k)) (k+1) ((zam zac).drop 1) u∧∀(H1:Hp) (D:zaM),D.rt=Q→ao H H1→u D (SA a t none none none none none none none) H1:=by
 have hr1:zai 1 _:=hr.mono (by decide)
 have kb:k < k+1:=Nat.lt_succ_self k
 generalize hX:(zak CX0 P w K mg base NA "_law_asked" (ad zac) f cdv A outer s0 H E).nox.put 2 "_law_word_here" (.str z k)=X
 obtain⟨r7,p7,q7⟩:=zhz BC BN BF BM BS BB BY hr hS h63 q k0 g hX
 have BG':=BG.ok _ g
 have t2:∃ u,zaV X (k+1) ((zam zac).drop 2) u∧∀(zs:List Str) (p:Addr) (H1:Hp) (D:zaM),D.rt=Q→zeg (cp z) zs→(∀ y∈zs,y.length≤5000)→0 < zs.length→H p=none→H1 p=some (.lst (zs.map V.str))→ao H H1→u D (SA a t (some (.ref p)) none none none none none none) H1:=by
  subst hX
  refine⟨_,(zah (PS.k (zar (i:=4) zaR rfl (Or.inl rfl) (ar zaE (ar zbt (zad BC.ok hr1 rfl BC.m BC.kp BC.b .nil zaz (aa (pv 0) (aa ah ac))) (pv 1)) (zaw zaB rfl len PySem.boot_len (aa (pv 3) ac)))))
   (zah (PS.k (zar (i:=5) zaR rfl (Or.inl rfl) (ar zaE (ar zbt (ar zbt (ar zdh (zad BC.ok hr1 rfl BC.m BC.kp BC.b .nil zaz (aa (pv 0) (aa ah ac))) ah) (ar zdh ah (pv 1))) ah) ah)))
   (zah (PS.k (zar (i:=5) zaR rfl (Or.inl rfl) (ar zaE (ar zdh (pv 5) ah) ah)))
   (zah (PS.k (zar (i:=6) zaR rfl (Or.inl rfl) (ar zaE (ar zbt (zad BC.ok hr1 rfl BC.m BC.kp BC.b .nil zaz (aa (pv 0) (aa ah ac))) (pv 1)) ah)))
   (zah (PS.k (zar (i:=7) zaR rfl (Or.inl rfl) ak)) p7))))),?_⟩
  try dsimp only [Cx.nox,Cx.wish,zak]
  intro zs p H1 D eD gz zl z0 np hp s1
  refine⟨_,rfl,a,ns,_,rfl,s1.seq hS,h63,by decide,fun i2=>⟨_,rfl,_,_,rfl,rfl,_,rfl,p,_,rfl,.inl (SqL.of hp),_,_,rfl,rfl,(by rw[List.length_map];omega),?_⟩⟩
  have m0:=Int.emod_nonneg (i2+t) (show((zs.map V.str).length:Int)≠0 by rw[List.length_map];omega)
  have m1:=Int.emod_lt_of_pos (i2+t) (show(0:Int) < ((zs.map V.str).length:Int) by rw[List.length_map];omega)
  obtain⟨j,hj⟩:∃ j:Nat,(i2+t) % ((zs.map V.str).length:Int)=j:=⟨((i2+t) % ((zs.map V.str).length:Int)).toNat,by omega⟩
  rw[hj]at m1 ⊢
  rw[List.length_map]at m1
  refine⟨_,rfl,a,ns,_,rfl,s1.seq hS,h63,by decide,fun i3=>⟨_,_,rfl,rfl,.inr ⟨by decide,by decide⟩,_,rfl,_,_,rfl,rfl,.inl ⟨by decide,by decide⟩,_,_,rfl,rfl,_,_,rfl,rfl,_,_,rfl,rfl,(by show(0:Int) < 2147483647;decide),?_⟩⟩
  refine⟨_,rfl,_,_,rfl,rfl,.inr ⟨by decide,by decide⟩,_,_,rfl,rfl,(by show(0:Int) < 2147483647;decide),?_⟩
  refine⟨_,rfl,a,ns,_,rfl,s1.seq hS,h63,by decide,fun i4=>⟨_,rfl,_,_,rfl,rfl,_,_,rfl,rfl,(by show(0:Int) < 6;decide),?_⟩⟩
  exact q7 zs j p _ _ H1 D eD gz zl (by omega) (Int.emod_nonneg _ (by decide)) (Int.emod_lt_of_pos _ (by decide)) np hp s1
 obtain⟨r2,p2,q2⟩:=t2
 subst hX
 refine⟨_,(zah (zjy (i:=3) (N':=["_law_k","_law_script"]) (ix:=[0]) (fun p hp=>by
   obtain rfl:p=_:=by simpa using hp
   exact⟨(by show("_law_word_here":Str)∉(["_law_k","_law_script"]:List Str);decide +kernel),.inl rfl,.inl rfl⟩) zaR rfl (Or.inl rfl) rfl rfl (by decide +kernel) (by decide +kernel) rfl (fun ok=>zdX (sc:=ad zac) ok rfl (by decide +kernel) (by decide +kernel)) (by decide +kernel) rfl rfl (fun j i h=>match j,h with | 0,h=>by cases h;exact⟨_,rfl,rfl,.inl rfl,.inl rfl⟩ | n+1,h=>by simp at h)
   (zcn rfl TR (aa (ar zbt ah (ar zaE (zad BC.ok hr1 rfl BC.m BC.kp BC.b .nil zaz (aa (pv 0) (aa ah ac))) ah)) ac))
   (fun _ _ _ _=>(zco BG' hr1 rfl BG.m BG.kp BG.b zaz (ar zbw (zad BC.ok hr1 rfl BC.m BC.kp BC.b .nil zaz (aa (pv 1) (aa ah ac))) (ar zbt (pv 0) ah)) (.head _) k0 kb))) p2),?_⟩
 try dsimp only [Cx.nox,Cx.wish,zak]
 intro H1 D eD s1
 refine⟨_,rfl,a,ns,_,rfl,s1.seq hS,h63,by decide,fun i1=>?_⟩
 have m0:=Int.emod_nonneg i1 (show(4:Int)≠0 by decide)
 have m1:=Int.emod_lt_of_pos i1 (show(0:Int) < 4 by decide)
 refine⟨_,_,rfl,rfl,(by show(0:Int) < 4;decide),_,_,rfl,rfl,_,rfl,(by show -(2 ^ 62)≤1+i1 % 4;omega),(by show 1+i1 % 4 < 2 ^ 62;omega),fun J hJ=>?_⟩
 refine zcv zeG (fun i us H'=>ao H1 H'∧∃ zs:List Str,us=zs.map V.str∧zs.length=i∧∀ y∈zs,y.length≤5000∧zcZ (cp z) y) (fun _ _ _ _=>trivial) ⟨zae hJ _,[],rfl,rfl,fun y hy=>nomatch hy⟩ ?_ ?_
 ·rintro i us H8 x H4 hi hly hDs ⟨s4,zs,rfl,zl',hz⟩ ⟨rfl,rfl⟩
  refine⟨_,rfl,a,ns,_,rfl,(s1.trans s4).seq hS,h63,by decide,fun i5=>⟨_,rfl,_,_,rfl,rfl,_,_,rfl,rfl,⟨(by show(0:Int) < 0+i+1;omega),(by show(0:Int)+i+1 < 1073741824;omega)⟩,_,z,rfl,rfl,fun y H5 gy yl s5=>?_⟩⟩
  refine zbH (szM (by omega)) hi hly (s5 _ _ hDs) ⟨(s4.trans s5).upd hJ,zs++[y],by rw[List.map_append];rfl,by rw[List.length_append,zl'];rfl,fun y' hy'=>?_⟩
  rcases List.mem_append.mp hy' with hy' | hy'
  ·exact hz y' hy'
  ·rw[List.mem_singleton.mp hy'];exact⟨yl,gy⟩
 ·rintro us H4 hDs ⟨s4,zs,rfl,zl',hz⟩
  have nJ:H J=none:=by
   cases e:H J with
   | none=>rfl
   | some o=>rw[s1 _ _ e]at hJ;cases hJ
  exact q2 zs J H4 D eD ⟨by omega,fun y hy=>(hz y hy).2⟩ (fun y hy=>(hz y hy).1) (by omega) nJ hDs (s1.trans s4)
theorem zlb:(ad zac).names.lookup ("_law_word_here":Str)=some NameKind.cell:=by decide +kernel
set_option maxHeartbeats 4000000 in
theorem zj8 (F:Fun K "_law_asked" "_law_asked" zac f fd) (BC:FB P w K mg base CX0 1 "_law_cell_at" fC dC ["_law_script","_law_k"] (zcL K)) (BW:FB P w K mg base CX0 1 "_law_word" fW dW ["_law_cell","_law_size"] zeK) (BG:FW P w K mg base 1 "_law_good" fG dG zcZ) (BN:FW P w K mg base 1 "_law_name" fN dN (KdR .name)) (BF:FW P w K mg base 2 "_law_form" fF dF zcx)
  (BM:∀ W,GW W→FB P w K mg base CX0 1 "_law_many" fM dM ["_law_cell","_law_word_here"] (zbW W)) (BS:∀ W,GW W→FB P w K mg base CX0 50 "_law_told" fS dS ["_law_text"] (zaY W)) (BB:∀ W,GW W→FB P w K mg base CX0 50 "_law_told_back" fB dB ["_law_text"] (zaY W)) (BY:∀ W,GW W→FB P w K mg base CX0 50 "_law_any" fY dY ["_law_text"] (zck W)) (len:mg "len"=none) (TR:mg "range"=none):FnOk P w K mg base CX0 51 f fd ["_law_script","_law_turn"] (zeO K):=by
 refine Fun.ok1 F (j:=1) (y:="_law_turn") zg3 rfl (by decide +kernel) (fun vs H Q E h=>?_) (fun cdv A outer s0 H vs Q E hr h=>?_)
 ·obtain⟨a,ns,t,rfl,_⟩:=h
  rfl
 obtain⟨a,ns,t,rfl,hS,h63,q⟩:=h
 have hr1:zai 1 _:=hr.mono (by decide)
 have tail:∀(z:Str) (k:Nat),∃ u,k≠0→zaV ((zak CX0 P w K mg base NA "_law_asked" (ad zac) f cdv A outer s0 H E).nox.put 2 "_law_word_here" (.str z k)) (k+1) ((zam zac).drop 1) u∧(GW (cp z)→∀(H1:Hp) (D:zaM),D.rt=Q→ao H H1→u D (SA a t none none none none none none none) H1):=fun z k=>by
  by_cases k0:k=0
  ·exact⟨fun _ _ _=>False,fun h=>absurd k0 h⟩
  by_cases g:GW (cp z)
  ·obtain⟨u,h1,h2⟩:=zhy (P:=P) (w:=w) (K:=K) (mg:=mg) (base:=base) (E:=E) (outer:=outer) BC BG BN BF BM BS BB BY len TR hr hS h63 q (k:=k) k0 g
   exact⟨u,fun _=>⟨h1,fun _=>h2⟩⟩
  ·exact⟨fun _ _ _=>False,fun _=>⟨⟨fun _ _ _ _ _ _ _ h=>h.elim⟩,fun h=>absurd h g⟩⟩
 refine⟨_,zjx (i:=2) zg3.nd rfl (by decide +kernel) zlb rfl rfl (zkR (zad BW.ok hr1 rfl BW.m BW.kp BW.b .nil zaz (aa (zad BC.ok hr1 rfl BC.m BC.kp BC.b .nil zaz (aa (pv 0) (aa ah ac))) (aa (ar zaE (zad BC.ok hr1 rfl BC.m BC.kp BC.b .nil zaz (aa (pv 0) (aa ah ac))) ah) ac)))) (u:=fun z k=>Classical.choose (tail z k)) (fun z k k0=>((Classical.choose_spec (tail z k)) k0).1),?_⟩
 have l1:(("b":Str)).length=1:=by decide +kernel
 refine⟨_,rfl,a,ns,_,rfl,hS,h63,by decide,fun i=>⟨_,rfl,a,ns,_,rfl,hS,h63,by decide,fun i2=>?_⟩⟩
 have m0:=Int.emod_nonneg i2 (show(7:Int)≠0 by decide)
 have m1:=Int.emod_lt_of_pos i2 (show(0:Int) < 7 by decide)
 refine⟨_,_,rfl,rfl,(by show(0:Int) < 7;decide),i,i2 % 7,rfl,m0,by omega,fun y yl yab=>⟨y,rfl,by rw[l1];decide,szM (by rw[ap,l1];omega),fun z ez k k0=>?_⟩⟩
 cases ez
 exact((Classical.choose_spec (tail _ k)) k0).2 (zkt yl (by omega) yab) H _ rfl (ao.refl H)
inductive ze8 (K:PySem.W.Frag):Sp | mk {vs H Q E9} (a:Addr) (ns:List Int):vs=[.ref a]→SqL K H a (ns.map V.int)→ns.length≤63→(∀ H',Q (.bl true) H')→ze8 K vs H Q E9
theorem ziV:zaa ["_law_script","_law_turn"] ["_law_script"] (ad zig):=⟨rfl,rfl,rfl,by decide +kernel,rfl,by decide +kernel,by decide +kernel⟩
theorem ok_law (F:Fun K "law" "law" zig f fd) (BA:FB P w K mg base CX0 51 "_law_asked" fA dA' ["_law_script","_law_turn"] (zeO K)) (TR:mg "range"=none):FnOk P w K mg base CX0 52 f fd ["_law_script"] (ze8 K):=by
 refine F.ok ziV (fun vs H Q E h=>?_) (fun cdv A outer s0 H vs Q E hr h=>?_)
 ·obtain⟨a,ns,rfl,_⟩:=h
  rfl
 obtain⟨a,ns,rfl,hS,h63,q⟩:=h
 refine⟨_,(aj (zdg PassesOwn.never rfl (zcn rfl TR (aa ah ac)) (zbv (i:=1) ziV.nd rfl (Or.inl rfl))
   (ae (zaD (zb3 (zbr (zad BA.ok hr rfl BA.m BA.kp BA.b .nil zaz (aa (pv 0) (aa (pv 1) ac)))))
    (ae (zab zdx))
    zag)))
  (ae (zab zdx))),?_⟩
 try dsimp only [Cx.nox,Cx.wish,zak]
 try dsimp only [Cx.nox,Cx.wish,zak]
 refine⟨4,rfl,by decide,by decide,zgf (lo:=0) (n:=4) (fun i σ H'=>ao H H'∧∃ v:Option V,σ=[some (.ref a),v]) ⟨ao.refl H,none,rfl⟩ ?_ ?_⟩
 ·rintro i σ H' hi ⟨s1,v,rfl⟩
  refine⟨_,rfl,_,rfl,a,ns,_,rfl,s1.seq hS,h63,fun H2 s2=>⟨_,rfl,zaX ?_⟩⟩
  exact⟨s1.trans s2,_,rfl⟩
 ·rintro σ H' ⟨s1,v,rfl⟩
  exact q H'
end
theorem zcA {K:PySem.W.Frag} {D:Addr} (h:PySem.W.kitOne K (.ref D) (.type "ValueError")=some true):PySem.W.kitCls K (.ref D) (.type "ValueError")=some true:=by
 unfold PySem.W.kitOne at h
 rw[if_neg (show ¬(Value.ref D == Value.type "ValueError")=true from by intro z;cases z)]at h
 exact h
end K06
namespace K06
open PySem L2
set_option maxHeartbeats 4000000 in
theorem all_mk {l:PySem.W.OpenLaw} {w:World} {K:PySem.W.Frag} {h:Heap} {mg:Str→Option Value} {fa aK C CN CT CP CM CU CX CE f1 f2 f3 f4 f5 f6 f7 f8 f9 f10 f11 f12 f13 f14 f15 f16 f17 f18 f19 f20 f21 f22 f23 f24 f25 f26 f27 f28 f29 f30 f31 f32 f33 f34 f35 f36 f37 f38 f39:Addr} (X:K.In h) (G:h.Ns mainGlobals mg) (hfa:mg "law"=some (.ref fa))
  {d1 d2 d3 d4 d5 d6 d7 d8 d9 d10 d11 d12 d13 d14 d15 d16 d17 d18 d19 d20 d21 d22 d23 d24 d25 d26 d27 d28 d29 d30 d31 d32 d33 d34 d35 d36 d37 d38 d39:FuncData} {slK:Array (Option Value)} {t1 t2 t3 t4 t5 t6 t7 u1 u2 u3 u4 u5 u6 u7 u8:Tok} {nK:Nat} {t8:Tok}
  (aC:PySem.W.nsIn K mainGlobals "Problem"=some (some (.ref C)))
  (aN:PySem.W.nsIn K mainGlobals "BadName"=some (some (.ref CN)))
  (aT:PySem.W.nsIn K mainGlobals "BadTerm"=some (some (.ref CT)))
  (aP:PySem.W.nsIn K mainGlobals "BadPart"=some (some (.ref CP)))
  (aM:PySem.W.nsIn K mainGlobals "TooMany"=some (some (.ref CM)))
  (aU:PySem.W.nsIn K mainGlobals "Cursor"=some (some (.ref CU)))
  (aX:PySem.W.nsIn K mainGlobals "NoProblem"=some (some (.ref CX)))
  (aE:PySem.W.nsIn K mainGlobals "ChoiceError"=some (some (.ref CE)))
  (y1:FT K "is_word" "is_word" zfG f1 d1)
  (y2:FT K "is_name" "is_name" zfH f2 d2)
  (y3:FT K "ask_name" "ask_name" zeV f3 d3)
  (y4:FT K "once_each" "once_each" zii f4 d4)
  (y5:FT K "place_of" "place_of" zgD f5 d5)
  (y6:FT K "formed_tree" "formed_tree" C06.s_formed_tree f6 d6)
  (y7:FT K "formed_atom" "formed_atom" C06.s_formed_atom f7 d7)
  (y8:FT K "formed_part" "formed_part" C06.s_formed_part f8 d8)
  (y9:FT K "formed_row" "formed_row" C06.s_formed_row f9 d9)
  (y10:FT K "text_rows" "text_rows" C06.s_text_rows f10 d10)
  (y11:FT K "add_tree" "add_tree" zcz f11 d11)
  (y12:FT K "add_atom" "add_atom" zdG f12 d12)
  (y13:FT K "add_part" "add_part" zdF f13 d13)
  (y14:FT K "read" "read" zfi f14 d14)
  (y15:FT K "_law_cell_at" "_law_cell_at" zik f15 d15)
  (y16:FT K "_law_word" "_law_word" zdc f16 d16)
  (y17:FT K "_law_told" "_law_told" zdd f17 d17)
  (y18:FT K "_law_told_back" "_law_told_back" zbV f18 d18)
  (y19:FT K "_law_any" "_law_any" zdH f19 d19)
  (y20:FT K "_law_deep" "_law_deep" zdf f20 d20)
  (y21:FT K "_law_form" "_law_form" zbN f21 d21)
  (y22:FT K "_law_name" "_law_name" zbM f22 d22)
  (y23:FT K "_law_many" "_law_many" za5 f23 d23)
  (y24:FT K "_law_good" "_law_good" zde f24 d24)
  (y25:FT K "_law_asked" "_law_asked" zac f25 d25)
  (y26:FT K "law" "law" zig f26 d26)
  (y27:FM K C "__init__" "Problem.__init__" zij f27 d27)
  (y28:FM K C "ask_term" "Problem.ask_term" zeT f28 d28)
  (y29:FM K C "ask_part" "Problem.ask_part" zeU f29 d29)
  (y30:FM K C "add_term" "Problem.add_term" sAdd f30 d30)
  (y31:FM K C "add_plain" "Problem.add_plain" zgC f31 d31)
  (y32:FM K C "add_same" "Problem.add_same" zih f32 d32)
  (y33:FM K C "add_row" "Problem.add_row" sRow f33 d33)
  (y34:FM K CU "__init__" "Cursor.__init__" C06.s_Cursor___init__ f34 d34)
  (y35:FM K CU "is_over" "Cursor.is_over" C06.s_Cursor_is_over f35 d35)
  (y36:FM K CU "takes" "Cursor.takes" C06.s_Cursor_takes f36 d36)
  (y37:FM K CU "take_word" "Cursor.take_word" C06.s_Cursor_take_word f37 d37)
  (y38:FM K CU "take_tree" "Cursor.take_tree" C06.s_Cursor_take_tree f38 d38)
  (y39:FM K CU "take_trees" "Cursor.take_trees" C06.s_Cursor_take_trees f39 d39)
  (s1:PySem.W.nsIn K mainGlobals "SMALL_LETTERS"=some (some (.str abc t1)))
  (s2:PySem.W.nsIn K mainGlobals "LONGEST_NAME"=some (some (.int 8 t2)))
  (s3:PySem.W.nsIn K mainGlobals "MOST_TERM_PARTS"=some (some (.int 3 t3)))
  (s4:PySem.W.nsIn K mainGlobals "MOST_TERMS"=some (some (.int 60 t4)))
  (s5:PySem.W.nsIn K mainGlobals "MOST_ATOMS"=some (some (.int 40 t5)))
  (s6:PySem.W.nsIn K mainGlobals "MOST_ROW_PARTS"=some (some (.int 20 t6)))
  (s7:PySem.W.nsIn K mainGlobals "MOST_ROWS"=some (some (.int 200 t7)))
  (s8:PySem.W.nsIn K mainGlobals "KEPT_WORDS"=some (some (.ref aK)))
  (s9:K.lookup aK=some ⟨.type "tuple",none,.seq #[.str "or" u1,.str "and" u2,.str "not" u3,.str "never" u4,.str "always" u5,.str "then" u6,.str "as" u7,.str "unlike" u8] nK,slK⟩)
  (z_len:PySem.W.nsIn K mainGlobals "len"=some none)
  (z_all:PySem.W.nsIn K mainGlobals "all"=some none)
  (z_range:PySem.W.nsIn K mainGlobals "range"=some none)
  (z_isinstance:PySem.W.nsIn K mainGlobals "isinstance"=some none)
  (z_bool:PySem.W.nsIn K mainGlobals "bool"=some none)
  (z_tuple:PySem.W.nsIn K mainGlobals "tuple"=some none)
  (z_abs:PySem.W.nsIn K mainGlobals "abs"=some none)
  (z_ValueError:PySem.W.nsIn K mainGlobals "ValueError"=some none)
  (pg:PySem.W.plainGet K C Str.empty=true)
  (hd:PySem.W.hasDictIn K C=true)
  (po:PySem.W.plainOver K C=true)
  (sa:PySem.W.findIn K (.ref C) "__setattr__"=some (some (.builtin "object.__setattr__")))
  (mk:PySem.W.makesIn K C=true)
  (kc:PySem.W.keepIn K (.ref C)=true)
  (nT:PySem.W.findIn K (.ref C) "terms"=some none)
  (nA:PySem.W.findIn K (.ref C) "atoms"=some none)
  (nR:PySem.W.findIn K (.ref C) "rows"=some none)
  (xN:PySem.W.excIn K CN bmV "ValueError.__new__"=true)
  (xT:PySem.W.excIn K CT bmV "ValueError.__new__"=true)
  (xP:PySem.W.excIn K CP bmV "ValueError.__new__"=true)
  (xM:PySem.W.excIn K CM bmV "ValueError.__new__"=true)
  (g1:PySem.W.nsIn K mainGlobals "MOST_BRACKETS"=some (some (.int 20 t8)))
  (zg:PySem.W.plainGet K CU Str.empty=true)
  (zd:PySem.W.hasDictIn K CU=true)
  (zo:PySem.W.plainOver K CU=true)
  (zs:PySem.W.findIn K (.ref CU) "__setattr__"=some (some (.builtin "object.__setattr__")))
  (zm:PySem.W.makesIn K CU=true)
  (zk:PySem.W.keepIn K (.ref CU)=true)
  (zp:PySem.W.findIn K (.ref CU) "place"=some none)
  (zt:PySem.W.findIn K (.ref CU) "text"=some none)
  (xX:PySem.W.excIn K CX bmV "ValueError.__new__"=true)
  (mCXCX:PySem.W.exmOne K (.ref CX) (.ref CX)=some true)
  (mCXCN:PySem.W.exmOne K (.ref CX) (.ref CN)=some false)
  (mCXCT:PySem.W.exmOne K (.ref CX) (.ref CT)=some false)
  (mCXCM:PySem.W.exmOne K (.ref CX) (.ref CM)=some false)
  (meCX:PySem.W.exmOne K (.ref CX) (.ref CE)=some true)
  (kvCX:PySem.W.kitOne K (.ref CX) (.type "ValueError")=some true)
  (mCNCX:PySem.W.exmOne K (.ref CN) (.ref CX)=some false)
  (mCNCN:PySem.W.exmOne K (.ref CN) (.ref CN)=some true)
  (mCNCT:PySem.W.exmOne K (.ref CN) (.ref CT)=some false)
  (mCNCM:PySem.W.exmOne K (.ref CN) (.ref CM)=some false)
  (meCN:PySem.W.exmOne K (.ref CN) (.ref CE)=some true)
  (kvCN:PySem.W.kitOne K (.ref CN) (.type "ValueError")=some true)
  (mCTCX:PySem.W.exmOne K (.ref CT) (.ref CX)=some false)
  (mCTCN:PySem.W.exmOne K (.ref CT) (.ref CN)=some false)
  (mCTCT:PySem.W.exmOne K (.ref CT) (.ref CT)=some true)
  (mCTCM:PySem.W.exmOne K (.ref CT) (.ref CM)=some false)
  (meCT:PySem.W.exmOne K (.ref CT) (.ref CE)=some true)
  (kvCT:PySem.W.kitOne K (.ref CT) (.type "ValueError")=some true)
  (mCMCX:PySem.W.exmOne K (.ref CM) (.ref CX)=some false)
  (mCMCN:PySem.W.exmOne K (.ref CM) (.ref CN)=some false)
  (mCMCT:PySem.W.exmOne K (.ref CM) (.ref CT)=some false)
  (mCMCM:PySem.W.exmOne K (.ref CM) (.ref CM)=some true)
  (meCM:PySem.W.exmOne K (.ref CM) (.ref CE)=some true)
  (kvCM:PySem.W.kitOne K (.ref CM) (.type "ValueError")=some true)
  : ∃ fd:FuncData,(∀(s:Shared) (v:Value),BindsTo s fd ⟨[v],[]⟩ [("_law_script",v)])∧∀ base:Heap,K.In base→base.Ns mainGlobals mg→FnOk l.prog w K mg base CX0 52 fa fd ["_law_script"] (ze8 K):=by
 have e:=hfa.symm.trans (y26.m X G)
 cases e
 have T:Txt K mg aK C CN CT CP CM:=⟨⟨_,PySem.W.mg_of X G s1⟩,⟨_,PySem.W.mg_of X G s2⟩,⟨_,PySem.W.mg_of X G s3⟩,⟨_,PySem.W.mg_of X G s4⟩,⟨_,PySem.W.mg_of X G s5⟩,⟨_,PySem.W.mg_of X G s6⟩,⟨_,PySem.W.mg_of X G s7⟩,PySem.W.mg_of X G s8,fun H=>.inr ⟨_,_,_,s9,rfl,rfl,(by show 8≤sizeLine;decide),.cons ⟨_,rfl⟩ (.cons ⟨_,rfl⟩ (.cons ⟨_,rfl⟩ (.cons ⟨_,rfl⟩ (.cons ⟨_,rfl⟩ (.cons ⟨_,rfl⟩ (.cons ⟨_,rfl⟩ (.cons ⟨_,rfl⟩ .nil)))))))⟩,PySem.W.mg_none_of X G z_len,PySem.W.mg_none_of X G z_all,PySem.W.mg_none_of X G z_range,PySem.W.mg_none_of X G z_isinstance,PySem.W.mg_none_of X G z_bool,PySem.W.mg_none_of X G z_tuple,PySem.W.mg_none_of X G z_abs,PySem.W.mg_of X G aN,PySem.W.mg_of X G aT,PySem.W.mg_of X G aP,PySem.W.mg_of X G aM,xN,xT,xP,xM,⟨pg,hd,po,sa⟩,nT,nA,nR⟩
 have Z:C06.TxC K mg CU:=⟨⟨zg,zd,zo,zs⟩,zp,zt,T.small,T.len,T.tuple⟩
 have TF:C06.TxF K mg CU:=⟨⟨_,PySem.W.mg_of X G g1⟩,PySem.W.mg_of X G aU⟩
 have TN:C06.TxN K mg CX CN:=⟨PySem.W.mg_of X G aX,xX,T.bname,xN⟩
 have XX:XE K mg CE CX CN CT CM:=⟨PySem.W.mg_of X G aX,T.bname,T.bterm,T.bmany,PySem.W.mg_of X G aE,T.isi,PySem.W.mg_none_of X G z_ValueError,fun a b=>match a,b with | none,none=>mCXCX | none,some .name=>mCXCN | none,some .term=>mCXCT | none,some .many=>mCXCM | some .name,none=>mCNCX | some .name,some .name=>mCNCN | some .name,some .term=>mCNCT | some .name,some .many=>mCNCM | some .term,none=>mCTCX | some .term,some .name=>mCTCN | some .term,some .term=>mCTCT | some .term,some .many=>mCTCM | some .many,none=>mCMCX | some .many,some .name=>mCMCN | some .many,some .term=>mCMCT | some .many,some .many=>mCMCM,fun a=>match a with | none=>meCX | some .name=>meCN | some .term=>meCT | some .many=>meCM,fun a=>match a with | none=>zcA kvCX | some .name=>zcA kvCN | some .term=>zcA kvCT | some .many=>zcA kvCM⟩
 have b1:au K d1 ["text"] []:=y1.F.b1 fun _ _ _ _ _ _ _=>rfl
 have b2:au K d2 ["word"] []:=y2.F.b1 fun _ _ _ _ _ _ _=>rfl
 have b3:au K d3 ["word"] []:=y3.F.b1 fun _ _ _ _ _ _ _=>rfl
 have b4:au K d4 ["parts"] []:=y4.F.b1 fun _ _ _ _ _ _ _=>rfl
 have b5:au K d5 ["thing","things","most"] []:=y5.F.b3 fun _ _ _ _ _ _ _ _ _=>rfl
 have b6:au K d6 ["text"] []:=y6.F.b1 fun _ _ _ _ _ _ _=>rfl
 have b7:au K d7 ["text"] []:=y7.F.b1 fun _ _ _ _ _ _ _=>rfl
 have b8:au K d8 ["text"] []:=y8.F.b1 fun _ _ _ _ _ _ _=>rfl
 have b9:au K d9 ["text"] []:=y9.F.b1 fun _ _ _ _ _ _ _=>rfl
 have b10:au K d10 ["text"] []:=y10.F.b1 fun _ _ _ _ _ _ _=>rfl
 have b11:au K d11 ["problem","tree"] []:=y11.F.b2 fun _ _ _ _ _ _ _ _=>rfl
 have b12:au K d12 ["problem","atom"] []:=y12.F.b2 fun _ _ _ _ _ _ _ _=>rfl
 have b13:au K d13 ["problem","part"] []:=y13.F.b2 fun _ _ _ _ _ _ _ _=>rfl
 have b14:au K d14 ["text"] []:=y14.F.b1 fun _ _ _ _ _ _ _=>rfl
 have b15:au K d15 ["_law_script","_law_k"] []:=y15.F.b2 fun _ _ _ _ _ _ _ _=>rfl
 have b16:au K d16 ["_law_cell","_law_size"] []:=y16.F.b2 fun _ _ _ _ _ _ _ _=>rfl
 have b17:au K d17 ["_law_text"] []:=y17.F.b1 fun _ _ _ _ _ _ _=>rfl
 have b18:au K d18 ["_law_text"] []:=y18.F.b1 fun _ _ _ _ _ _ _=>rfl
 have b19:au K d19 ["_law_text"] []:=y19.F.b1 fun _ _ _ _ _ _ _=>rfl
 have b20:au K d20 ["_law_many_here"] []:=y20.F.b1 fun _ _ _ _ _ _ _=>rfl
 have b21:au K d21 ["_law_cell","_law_word_here"] []:=y21.F.b2 fun _ _ _ _ _ _ _ _=>rfl
 have b22:au K d22 ["_law_cell","_law_word_here"] []:=y22.F.b2 fun _ _ _ _ _ _ _ _=>rfl
 have b23:au K d23 ["_law_cell","_law_word_here"] []:=y23.F.b2 fun _ _ _ _ _ _ _ _=>rfl
 have b24:au K d24 ["_law_cell","_law_word_here"] []:=y24.F.b2 fun _ _ _ _ _ _ _ _=>rfl
 have b25:au K d25 ["_law_script","_law_turn"] []:=y25.F.b2 fun _ _ _ _ _ _ _ _=>rfl
 have b27:au K d27 ["self"] []:=y27.F.b1 fun _ _ _ _ _ _ _=>rfl
 have b28:au K d28 ["self","number"] []:=y28.F.b2 fun _ _ _ _ _ _ _ _=>rfl
 have b29:au K d29 ["self","part"] []:=y29.F.b2 fun _ _ _ _ _ _ _ _=>rfl
 have b30:au K d30 ["self","name","parts"] []:=y30.F.b3 fun _ _ _ _ _ _ _ _ _=>rfl
 have b31:au K d31 ["self","name"] []:=y31.F.b2 fun _ _ _ _ _ _ _ _=>rfl
 have b32:au K d32 ["self","one","other"] []:=y32.F.b3 fun _ _ _ _ _ _ _ _ _=>rfl
 have b33:au K d33 ["self","parts"] []:=y33.F.b2 fun _ _ _ _ _ _ _ _=>rfl
 have b34:au K d34 ["self","text"] []:=y34.F.b2 fun _ _ _ _ _ _ _ _=>rfl
 have b35:au K d35 ["self"] []:=y35.F.b1 fun _ _ _ _ _ _ _=>rfl
 have b36:au K d36 ["self","signs"] []:=y36.F.b2 fun _ _ _ _ _ _ _ _=>rfl
 have b37:au K d37 ["self"] []:=y37.F.b1 fun _ _ _ _ _ _ _=>rfl
 have b38:au K d38 ["self","brackets"] []:=y38.F.b2 fun _ _ _ _ _ _ _ _=>rfl
 have b39:au K d39 ["self","brackets"] []:=y39.F.b2 fun _ _ _ _ _ _ _ _=>rfl
 refine⟨_,y26.F.top fun _ _ _ _ _ _ _=>rfl,fun base _ _=>?_⟩
 have G1:=zjC (P:=l.prog) (w:=w) (base:=base) y1.F T
 have G2:=zjD y2.F T G1 b1 y1.k (y1.m X G)
 have G3:=ziE y3.F T G2 b2 y2.k (y2.m X G)
 have G4:=zkZ (P:=l.prog) (w:=w) (base:=base) y4.F T
 have G5:=zj5 (P:=l.prog) (w:=w) (base:=base) y5.F T
 have G27:=zk2 (P:=l.prog) (w:=w) (base:=base) y27.F T
 have G28:=ziC (P:=l.prog) (w:=w) (base:=base) y28.F T
 have G29:=ziD (P:=l.prog) (w:=w) (base:=base) y29.F T
 have G30:=ok_add y30.F T G3 b3 y3.k (y3.m X G) G28 b28 y28.M G5 b5 y5.k (y5.m X G)
 have G31:=zj4 y31.F T G3 b3 y3.k (y3.m X G) G5 b5 y5.k (y5.m X G)
 have G32:=zkX y32.F T G28 b28 y28.M G5 b5 y5.k (y5.m X G)
 have G33:=ok_row y33.F T G29 b29 y29.M G4 b4 y4.k (y4.m X G)
 have GR4:=G33.mono (k:=4) (by decide)
 have GS4:=G32.mono (k:=4) (by decide)
 have MKI:Mk K C f27:=⟨mk,y27.a,y27.i,kc⟩
 have OW:Own l.prog w K mg base C CN CT CP CM f27 f30 f31 f32 f33 _ _ _ _ _:=⟨G27,b27,MKI,PySem.W.mg_of X G aC,G30,b30,y30.M,G31,b31,y31.M,GS4,b32,y32.M,GR4,b33,y33.M⟩
 have G34:=C06.ok_cinit (P:=l.prog) (w:=w) (base:=base) y34.F Z
 have G35:=C06.ok_over (P:=l.prog) (w:=w) (base:=base) y35.F Z
 have G36:=C06.ok_takes (P:=l.prog) (w:=w) (base:=base) y36.F Z
 have MKC:Mk K CU f34:=⟨zm,y34.a,y34.i,zk⟩
 have G10:=C06.ok_trw (P:=l.prog) (w:=w) (base:=base) y10.F TN
 have G11:FnOk l.prog w K mg base (CX1 l.prog w) 26 f11 _ ["problem","tree"] (zcy K C CN CT CM 21):=zfy y11.F T OW b11 y11.k (y11.m X G) 21
 have G12:=zka y12.F T OW ⟨G11,b11,y11.k,(y11.m X G)⟩
 have G13:=zj9 y13.F ⟨G12,b12,y12.k,(y12.m X G)⟩
 have BR:∀ W,C06.GW W→FB l.prog w K mg base (CX1 l.prog w) 49 "read" f14 _ ["text"] (zcE W CX CN CT CM):=fun W gw=>by
  have O:C06.Ow l.prog w K mg base W CU CX f36 f37 _ _:=⟨C06.ok_tk gw G36,b36,y36.M,C06.ok_word gw y37.F Z TN G35 b35 y35.M,b37,y37.M⟩
  have G38:FnOk l.prog w K mg base (CX1 l.prog w) 44 f38 _ ["self","brackets"] (C06.sp_tree W K CU CX 20):=C06.ok_tree gw y38.F y39.F Z TN TF.br O b38 y38.M b39 y39.M 20
  have G6:=C06.ok_ftree gw y6.F Z TN TF MKC G34 b34 G38 b38 y38.M G35 b35 y35.M
  have G7:=C06.ok_fatom gw y7.F Z TN ⟨G1,b1,y1.k,(y1.m X G)⟩ ⟨G6,b6,y6.k,(y6.m X G)⟩
  have G8:=C06.ok_fpart gw y8.F Z ⟨G7,b7,y7.k,(y7.m X G)⟩
  have G9:=C06.ok_frow gw y9.F ⟨G8,b8,y8.k,(y8.m X G)⟩
  exact⟨zkY gw y14.F T OW ⟨G10,b10,y10.k,(y10.m X G)⟩ ⟨G9,b9,y9.k,(y9.m X G)⟩ ⟨G13,b13,y13.k,(y13.m X G)⟩,b14,y14.k,(y14.m X G)⟩
 have BS:∀ W,C06.GW W→FB l.prog w K mg base CX0 50 "_law_told" f17 _ ["_law_text"] (zaY W):=fun W gw=>⟨zkW y17.F XX (BR W gw),b17,y17.k,(y17.m X G)⟩
 have BB:∀ W,C06.GW W→FB l.prog w K mg base CX0 50 "_law_told_back" f18 _ ["_law_text"] (zaY W):=fun W gw=>⟨zk6 y18.F XX (BR W gw),b18,y18.k,(y18.m X G)⟩
 have BY:∀ W,C06.GW W→FB l.prog w K mg base CX0 50 "_law_any" f19 _ ["_law_text"] (zck W):=fun W gw=>⟨ok_any y19.F XX (BR W gw),b19,y19.k,(y19.m X G)⟩
 have BM:∀ W,C06.GW W→FB l.prog w K mg base CX0 1 "_law_many" f23 _ ["_law_cell","_law_word_here"] (zbW W):=fun W gw=>⟨zk1 gw y23.F T.range,b23,y23.k,(y23.m X G)⟩
 have G15:=zk5 (P:=l.prog) (w:=w) (base:=base) y15.F T
 have G16:=zj6 (P:=l.prog) (w:=w) (base:=base) y16.F T.range
 have BG:FW l.prog w K mg base 1 "_law_good" f24 _ zcZ:=⟨fun W gw=>zk3 gw y24.F,b24,y24.k,(y24.m X G)⟩
 have BN:FW l.prog w K mg base 1 "_law_name" f22 _ (KdR .name):=⟨fun W gw=>zk0 gw y22.F T.len,b22,y22.k,(y22.m X G)⟩
 have BF:FW l.prog w K mg base 2 "_law_form" f21 _ zcx:=⟨fun W gw=>zj7 gw y21.F ⟨zk4 y20.F,b20,y20.k,(y20.m X G)⟩ T.len,b21,y21.k,(y21.m X G)⟩
 have G25:=zj8 y25.F ⟨G15,b15,y15.k,(y15.m X G)⟩ ⟨G16,b16,y16.k,(y16.m X G)⟩ BG BN BF BM BS BB BY T.len T.range
 exact ok_law y26.F ⟨G25,b25,y25.k,(y25.m X G)⟩ T.range
theorem walk {l:PySem.W.OpenLaw} {q:Program} {loose:List Str} {XP:(Str→Option Value)→Heap→Prop} {YP:World→Heap→Prop} {d:DefRec} {K:Params→PySem.W.Frag} (hn:l.most=some 63) (hdf:d.params.defaults=[])
  (hY:∀(w:World) (h:Heap),YP w h→(K w.params).In h)
  (F:∀(w:World) (mg:Str→Option Value) (fa:Addr) (h:Heap),(K w.params).In h→h.Ns mainGlobals mg→mg d.name=some (.ref fa) →
   ∃ fd:FuncData,(∀(s:Shared) (u:Value),BindsTo s fd ⟨[u],[]⟩ [("_law_script",u)])∧∀ base:Heap,(K w.params).In base→base.Ns mainGlobals mg→FnOk l.prog w (K w.params) mg base CX0 52 fa fd ["_law_script"] (ze8 (K w.params))) :
  PySem.W.WalkO q loose XP YP l.row.toRowW d [] (fun f vs=>PySem.call f vs) :=
 L2.walk_of (n:=63) (k:=52) (x:="_law_script") (CX:=fun _=>CX0) (sp:=fun w=>ze8 (K w.params)) hn (by decide) hdf ⟨rfl,by decide,by decide,rfl⟩ hY F (fun _ _ a ns hl _ hS=>⟨a,ns,rfl,hS,hl,fun _=>rfl⟩) fun _ _ _ _ _ z=>z
end K06
inductive PySem.W.Fast:Prop|tw9844736783520571607|tw18360487677692396847|tw14232483021734058796|tw17323850780748265810|tw12941392735627800924|tw16430837239555098156|tw17251008157388938826|tw17900115097175198899|tw12791580622272639851|tw3357542560985832969|tw6727666231356745075|tw8033650194412106529|tw17298951619359373072|tw991232811433841751|tw780825824442635801|tw13122107813102053714|tw14940186402405186014|tw17089691876274570086|tw14386459181132149578|tw11498872535139295381|tw15991223607755411436|tw5274525559414269486|tw17113359629865504159|tw18195359767010685830|tw3700735637583660174|tw12951364814265998795|tw4843059707870707564|tw14268001449811997977|tw13048662108594627715|tw12399183168772215793|tw322227206951656128|tw6160941703344152609|tw17459493199552152118|tw16733357799166270450|tw3917707650412921136|tw3575795162997769815|tw9795916711985263794|tw9754455729844131328|tw17175986450192377946|tw5149729114084234967|tw11016563879826406579|tw16470289432111724596|tw9116526442621584191|tw13311435520957743789|tw12621968973830673096|tw11853909796678283062|tw18146634049676084937|tw5521659218146290695|tw4995004056346777160|tw17800581182750779536|tw14167059100484295084|tw5068360704400737887|tw14308554275531835991|tw14902785847845428550|tw9911440769101893483|tw6365660718387060132|tw17140741908946922440|tw10536713673140434035|tw17572533700267029847|tw10788342361199856009|tw17926565365525681968|tw15047297830707725380|tw9750817684607230543|tw5162415003705917279|tw16228243810168385365|tw15542435017093087854|tw14108422790739946763|tw18276457104941956871|tw3045820149948117448|tw9716755028572813176|tw10547544634464774214|tw14537317247216564008|tw2880350280298771894|tw16772978453710319041|tw10641797645492375019|tw7045360828829118367|tw12250520235021204213|tw10443198897096636364|tw9675719721956990206|tw4350540796438978962|tw3669217402302300352|tw13020198634215135081|tw2573173169612459300|tw13985485480115155236|tw17454204178392980790|tw3018302267964496966|tw5754739552925428226|tw1180308825543398769|tw12514348083558388506|tw13466598574641216199|tw14177899821407883539|tw10142677875825551563|tw10947401796484029932|tw13212703875233430405|tw13949046208985845371|tw13013502115327906966|tw226490945657336625|tw5034091613879624586|tw497966747224614367|tw11529544959178262120|tw18272472550113243849|tw15299096275043472151|tw15790758801706271284|tw11987919037318245735|tw11600703581079127958|tw16544049822707682658|tw10242851391480106513|tw11811096679384924556|tw8672137307914731721|tw5277016137433646207|tw13223604547463867639|tw999032396789843203|tw5900571435264524383|tw10413434724823700420|tw11587640746750007687|tw13941599056051238322|tw9667433263510899416|tw5423703847609517915|tw4917673668726534220|tw11765970669512445964|tw7293772105038449220|tw2962290285762550327|tw17089424415747078537|tw18047678535236842911|tw1791707425254114275|tw16407745961066400560|tw536075712166294488|tw1036423986030064978|tw9154402263119513934|tw11909020373365984480|tw9283070408761060107|tw1994667589205406115|tw6142369134611987317|tw11372196375505748906|tw4783807851338478374|tw10816859289217557873|tw2216098093362338080|tw13646213698817986201|tw11128408863519450492|tw16560940186098717604|tw17597264092534935502|tw16474007078089124791|tw15822651221311207848|tw17662458895467886810|tw7307724564376554353|tw10533945408392801538|tw16025206764530712390|tw401683133840534838|tw11660010415733665234|tw4541879844894626551|tw9663100317425184233|tw14839328659054797712|tw17793722997035841897|tw12216461275673616505|tw4113455667782282142|tw1991401659219618194|tw7811238867933864506|tw7712923048793273730|tw5519305924928053501|tw1552703998608947622|tw2498434135929076971|tw5592879662960459611|tw7674123902711623371|tw10109107162293161230|tw6697702955195577662|tw8431344015987994390|tw15205226943684089661|tw15923407799486220127|tw1101988700151557455|tw4681448552034211498|tw14281476085422903699|tw9365659282281313999|tw15373766051038173853|tw12284632600800692689|tw18290744053387811480|tw4492028419951249172|tw13859712932517455095|tw9123104903042455918|tw1640104413975367915|tw18325533679601391525|tw11776180704720080046|tw14884795301914701708|tw17702563132475965573|tw11627712891734952295|tw7565716447251703573|tw10235536281931482374|tw11924465121874325904|tw13902927989340008385|tw12700999311642887157|tw7378360612649984111|tw4426668294208916407|tw1296447062050397484|tw10492560385843109626|tw989734535892728960|tw6778550586280800656|tw14859652832149251772|tw3076096679275906802|tw11947378522194628686|tw609534045158950911|tw1363356134099135915|tw7106059383455788801|tw12474507198814791714|tw8511446320563326253|tw8350962536903408572|tw45140194615327509|tw9783501398912185562|tw10319655355080178039|tw7105115113121746545|tw15594393280364160254|tw15754824812341900198|tw7720552620834481381|tw2705665895677398265|tw11050932643559897597|tw16191781981806400906|tw15424255442311420754|tw10985637756383694463|tw5678790291663760233|tw4616168640726652190|tw10707317530406286103|tw2596935097870438357|tw7962410658416663491|tw12910838086272695970|tw17768815457824138486|tw6469544827151417622|tw11528137457338804279|tw15093829259204269361|tw1072713516826301356|tw16170882976033789250|tw13756915404275768373|tw13133226474831732587|tw8585373490535099243|tw16916982714495635439|tw9016413369572289239|tw7610784270286778434|tw2739430624633862902|tw17378733267990521060|tw452508261239590722|tw7142645635108494217|tw16945806870559710044|tw1964981555042257767|tw8684734948450768487|tw10782508051799601701|tw7632047837206079825|tw13939166126837572437|tw10735784031365555092|tw2922643398289637047|tw12054716624669606191|tw16404901422703076536|tw2166361903002632929|tw476663448457748949|tw3726585963846396690|tw15053795260362340823|tw11922958880060443539|tw11196186592453001663|tw16494690835749659995|tw1750458906373392451|tw5925531401308620881|tw9763109749447686639|tw15243728991840026594|tw18188290085191595873|tw13693319897526608859|tw1185092706655771500|tw10675519578599161533|tw5108829000954934263|tw14856725086964218750|tw12665843910289039456|tw17639968584270915302|tw13742544640253798594|tw6607945381972227276|tw17632653649990223659|tw5764903788761366376|tw9262902678064506588|tw928779788036139735|tw15097739538700617550|tw6274641718679304154|tw15171767805204282585|tw1410830298469571326|tw11899601790005847278|tw3395081764055868794|tw12279809729575790376|tw8721152281047726851|tw13277127954753036419|tw2888711684515915624|tw9618350573689777339|tw19021573597811850|tw6634290761848735098|tw6483478065716549505|tw3702564583032996365|tw6139371665243955724|tw6511736667806355071|tw3610792281793191665|tw4279509677209846241|tw6443700186233516465|tw13646425999080406679|tw8934718384308774232|tw7674522480456593131|tw16049350809286691024|tw8666552454940061705|tw17462846987137858910|tw5272470011969254093|tw13790790139547207256|tw10225002201512965302|tw15026241169586123784|tw14776542157120005939|tw4570931794358157079|tw17000989113842047998|tw2311564604811384761|tw18193191244305522955|tw1093485983691873986|tw13975205618677103872|tw17238782278454765085|tw12699306906008614420|tw2367192747770717256|tw8586338833312024811|tw14878914500783807185|tw7179098703056202058|tw1057877595489591670|tw7278425260029446041|tw13804874126541510533|tw4666482598151404316|tw14489430102772913792|tw5287596293514027014|tw8192633433443924660|tw1999782673180985134|tw2829171245688457226|tw13701678166504224703|tw15462537802425891208|tw13319350324911371620|tw18318577687310698673|tw6429102674572659796|tw10670226284924434895|tw958716304804590171|tw10049874923983780353|tw18243754253545673969|tw432614976352913951|tw3014069429726690930|tw15730520171187697272|tw8812209672751076642|tw1731684272866898990|tw7157081479285974253|tw2601976476893457964|tw422888639693471051|tw224170425633835677|tw7450793365071374838|tw6504254564605076009|tw1738596896072118003|tw4709676575165237332|tw736781762785065207|tw18114830945460375606|tw10982607491088997159|tw15585005413603035013|tw9503239420050370410|tw15572638410078861005|tw206318191547459599|tw3981121268974433438|tw16947844065970236416|tw4701745805287364151|tw5848517755380553833|tw7872157875824567324|tw11507291656727774247|tw6664179100614281948|tw7893709736925076016|tw10326764376809118912|tw927125664499051461|tw15728921287565343677|tw9114095247065014272|tw11851593142579220478|tw17795163464969893219
open PySem PySem.W PyProof.Rows
set_option maxRecDepth 100000 in
set_option maxHeartbeats 0 in
theorem PySem.Challenge.cw_yesorno_k06_read_refused_holds : PySem.Challenge.rw_yesorno_k06_read_refused.Holds := by
 w_on;o_law;k_head;(case hw=>w_witness2)
 k_fill
 refine K06.walk (l:=PySem.Challenge.rw_yesorno_k06_read_refused) rfl rfl (fun w h Y=>PySem.W.kIn_of Y) ?F
 case F =>
  intro w mg fa h KX G hmg
  refine' K06.all_mk KX G hmg ?aC ?aN ?aT ?aP ?aM ?aU ?aX ?aE ?y1 ?y2 ?y3 ?y4 ?y5 ?y6 ?y7 ?y8 ?y9 ?y10 ?y11 ?y12 ?y13 ?y14 ?y15 ?y16 ?y17 ?y18 ?y19 ?y20 ?y21 ?y22 ?y23 ?y24 ?y25 ?y26 ?y27 ?y28 ?y29 ?y30 ?y31 ?y32 ?y33 ?y34 ?y35 ?y36 ?y37 ?y38 ?y39 ?s1 ?s2 ?s3 ?s4 ?s5 ?s6 ?s7 ?s8 ?s9 ?z_len ?z_all ?z_range ?z_isinstance ?z_bool ?z_tuple ?z_abs ?z_ValueError ?pg ?hd ?po ?sa ?mk ?kc ?nT ?nA ?nR ?xN ?xT ?xP ?xM ?g1 ?zg ?zd ?zo ?zs ?zm ?zk ?zp ?zt ?xX ?mCXCX ?mCXCN ?mCXCT ?mCXCM ?meCX ?kvCX ?mCNCX ?mCNCN ?mCNCT ?mCNCM ?meCN ?kvCN ?mCTCX ?mCTCN ?mCTCT ?mCTCM ?meCT ?kvCT ?mCMCX ?mCMCN ?mCMCT ?mCMCM ?meCM ?kvCM
  (case aC=>k_is)
  (case aN=>k_is)
  (case aT=>k_is)
  (case aP=>k_is)
  (case aM=>k_is)
  (case aU=>k_is)
  (case aX=>k_is)
  (case aE=>k_is)
  (case y1=>exact L2.ft_in (by k_is) (by k_is) (by k_is) (by k_is))
  (case y2=>exact L2.ft_in (by k_is) (by k_is) (by k_is) (by k_is))
  (case y3=>exact L2.ft_in (by k_is) (by k_is) (by k_is) (by k_is))
  (case y4=>exact L2.ft_in (by k_is) (by k_is) (by k_is) (by k_is))
  (case y5=>exact L2.ft_in (by k_is) (by k_is) (by k_is) (by k_is))
  (case y6=>exact L2.ft_in (by k_is) (by k_is) (by k_is) (by k_is))
  (case y7=>exact L2.ft_in (by k_is) (by k_is) (by k_is) (by k_is))
  (case y8=>exact L2.ft_in (by k_is) (by k_is) (by k_is) (by k_is))
  (case y9=>exact L2.ft_in (by k_is) (by k_is) (by k_is) (by k_is))
  (case y10=>exact L2.ft_in (by k_is) (by k_is) (by k_is) (by k_is))
  (case y11=>exact L2.ft_in (by k_is) (by k_is) (by k_is) (by k_is))
  (case y12=>exact L2.ft_in (by k_is) (by k_is) (by k_is) (by k_is))
  (case y13=>exact L2.ft_in (by k_is) (by k_is) (by k_is) (by k_is))
  (case y14=>exact L2.ft_in (by k_is) (by k_is) (by k_is) (by k_is))
  (case y15=>exact L2.ft_in (by k_is) (by k_is) (by k_is) (by k_is))
  (case y16=>exact L2.ft_in (by k_is) (by k_is) (by k_is) (by k_is))
  (case y17=>exact L2.ft_in (by k_is) (by k_is) (by k_is) (by k_is))
  (case y18=>exact L2.ft_in (by k_is) (by k_is) (by k_is) (by k_is))
  (case y19=>exact L2.ft_in (by k_is) (by k_is) (by k_is) (by k_is))
  (case y20=>exact L2.ft_in (by k_is) (by k_is) (by k_is) (by k_is))
  (case y21=>exact L2.ft_in (by k_is) (by k_is) (by k_is) (by k_is))
  (case y22=>exact L2.ft_in (by k_is) (by k_is) (by k_is) (by k_is))
  (case y23=>exact L2.ft_in (by k_is) (by k_is) (by k_is) (by k_is))
  (case y24=>exact L2.ft_in (by k_is) (by k_is) (by k_is) (by k_is))
  (case y25=>exact L2.ft_in (by k_is) (by k_is) (by k_is) (by k_is))
  (case y26=>exact L2.ft_in (by k_is) (by k_is) (by k_is) (by k_is))
  (case y27=>exact L2.fm_in (by k_is) (by k_is) (by k_is) (by k_is) (by k_is))
  (case y28=>exact L2.fm_in (by k_is) (by k_is) (by k_is) (by k_is) (by k_is))
  (case y29=>exact L2.fm_in (by k_is) (by k_is) (by k_is) (by k_is) (by k_is))
  (case y30=>exact L2.fm_in (by k_is) (by k_is) (by k_is) (by k_is) (by k_is))
  (case y31=>exact L2.fm_in (by k_is) (by k_is) (by k_is) (by k_is) (by k_is))
  (case y32=>exact L2.fm_in (by k_is) (by k_is) (by k_is) (by k_is) (by k_is))
  (case y33=>exact L2.fm_in (by k_is) (by k_is) (by k_is) (by k_is) (by k_is))
  (case y34=>exact L2.fm_in (by k_is) (by k_is) (by k_is) (by k_is) (by k_is))
  (case y35=>exact L2.fm_in (by k_is) (by k_is) (by k_is) (by k_is) (by k_is))
  (case y36=>exact L2.fm_in (by k_is) (by k_is) (by k_is) (by k_is) (by k_is))
  (case y37=>exact L2.fm_in (by k_is) (by k_is) (by k_is) (by k_is) (by k_is))
  (case y38=>exact L2.fm_in (by k_is) (by k_is) (by k_is) (by k_is) (by k_is))
  (case y39=>exact L2.fm_in (by k_is) (by k_is) (by k_is) (by k_is) (by k_is))
  (case s1=>k_is)
  (case s2=>k_is)
  (case s3=>k_is)
  (case s4=>k_is)
  (case s5=>k_is)
  (case s6=>k_is)
  (case s7=>k_is)
  (case s8=>k_is)
  (case s9=>k_is)
  (case z_len=>k_is)
  (case z_all=>k_is)
  (case z_range=>k_is)
  (case z_isinstance=>k_is)
  (case z_bool=>k_is)
  (case z_tuple=>k_is)
  (case z_abs=>k_is)
  (case z_ValueError=>k_is)
  (case pg=>k_is)
  (case hd=>k_is)
  (case po=>k_is)
  (case sa=>k_is)
  (case mk=>k_is)
  (case kc=>k_is)
  (case nT=>k_is)
  (case nA=>k_is)
  (case nR=>k_is)
  (case xN=>k_exc)
  (case xT=>k_exc)
  (case xP=>k_exc)
  (case xM=>k_exc)
  (case g1=>k_is)
  (case zg=>k_is)
  (case zd=>k_is)
  (case zo=>k_is)
  (case zs=>k_is)
  (case zm=>k_is)
  (case zk=>k_is)
  (case zp=>k_is)
  (case zt=>k_is)
  (case xX=>k_exc)
  (case mCXCX=>kts_exm)
  (case mCXCN=>kts_exm)
  (case mCXCT=>kts_exm)
  (case mCXCM=>kts_exm)
  (case meCX=>kts_exm)
  (case kvCX=>kit_is)
  (case mCNCX=>kts_exm)
  (case mCNCN=>kts_exm)
  (case mCNCT=>kts_exm)
  (case mCNCM=>kts_exm)
  (case meCN=>kts_exm)
  (case kvCN=>kit_is)
  (case mCTCX=>kts_exm)
  (case mCTCN=>kts_exm)
  (case mCTCT=>kts_exm)
  (case mCTCM=>kts_exm)
  (case meCT=>kts_exm)
  (case kvCT=>kit_is)
  (case mCMCX=>kts_exm)
  (case mCMCN=>kts_exm)
  (case mCMCT=>kts_exm)
  (case mCMCM=>kts_exm)
  (case meCM=>kts_exm)
  (case kvCM=>kit_is)
