import PyProof.Rows.All
import Wide.All
import OpenK.AllK
import Wide.FinOn
import Lean
import PyProof.EqAt
import PyProof.EqKinds
import PyProof.TupleCall
import PySem.Challenge.RW_yesorno_k14_ways_shown
set_option Elab.async false
set_option linter.all false
set_option maxRecDepth 100000
namespace L2
open PySem PySem.Spec PyProof.Rows
abbrev Key:=Sum Int Str
def zdd:Key→Value→Bool
  | .inl k,v=>Value.isInt k v
  | .inr x,v=>Value.isStrOf x v
def keyH (w:World):Key→Int
  | .inl k=>hashInt k
  | .inr x=>hashStr w x
theorem za6:∀ {k:Key} {v:Value},zdd k v=true→(∃ i t,k=Sum.inl i∧v=Value.int i t)∨(∃ x t,k=Sum.inr x∧v=Value.str x t)
  | .inl i,v,h=>by
    obtain⟨t,e⟩:=Value.isInt_shape (k:=i) (v:=v) h
    exact .inl ⟨i,t,rfl,e⟩
  | .inr x,v,h=>by
    obtain⟨t,e⟩:=Value.isStrOf_shape (x:=x) (v:=v) h
    exact .inr ⟨x,t,rfl,e⟩
theorem zik (i:Int) (t:Tok):zdd (.inl i) (.int i t)=true:=by simp [zdd,Value.isInt]
theorem zij (x:Str) (t:Tok):zdd (.inr x) (.str x t)=true:=by simp [zdd,Value.isStrOf]
theorem key_ll (a b:Int):decide ((Sum.inl a:Key)=Sum.inl b)=(a == b):=by
  by_cases e:a=b
  · subst e;simp
  · have h:¬(Sum.inl a:Key)=Sum.inl b:=fun q=>e (Sum.inl.inj q)
    rw[decide_eq_false h]
    exact(beq_eq_false_iff_ne.mpr e).symm
theorem key_rr (a b:Str):decide ((Sum.inr a:Key)=Sum.inr b)=decide (a=b):=by
  by_cases e:a=b
  · subst e;simp
  · have h:¬(Sum.inr a:Key)=Sum.inr b:=fun q=>e (Sum.inr.inj q)
    rw[decide_eq_false h,decide_eq_false e]
theorem key_lr (a:Int) (b:Str):decide ((Sum.inl a:Key)=Sum.inr b)=false:=decide_eq_false (fun q=>nomatch q)
theorem key_rl (a:Str) (b:Int):decide ((Sum.inr a:Key)=Sum.inl b)=false:=decide_eq_false (fun q=>nomatch q)
def zat (prog:Program) (w:World):PySem.KeyKind prog w Key where
  is:=zdd
  hash:=keyH w
  inj:=fun v a b ha hb=>by
    rcases za6 ha with ⟨i,t,rfl,rfl⟩ | ⟨x,t,rfl,rfl⟩
    · rcases za6 hb with ⟨j,u,rfl,e⟩ | ⟨y,u,rfl,e⟩
      · injection e with e1 _;rw[e1]
      · exact nomatch e
    · rcases za6 hb with ⟨j,u,rfl,e⟩ | ⟨y,u,rfl,e⟩
      · exact nomatch e
      · injection e with e1 _;rw[e1]
  byValue:=fun k v h=>by
    rcases za6 h with ⟨i,t,rfl,rfl⟩ | ⟨x,t,rfl,rfl⟩ <;> rfl
  pyHash:=fun hv h=>by
    rcases za6 hv with ⟨i,t,rfl,rfl⟩ | ⟨x,t,rfl,rfl⟩
    · exact wpAny_pyHash_int h
    · exact wpAny_pyHash_str h
  eqBool:=fun hu hv h=>by
    rcases za6 hu with ⟨i,t,rfl,rfl⟩ | ⟨x,t,rfl,rfl⟩
    · rcases za6 hv with ⟨j,u,rfl,rfl⟩ | ⟨y,u,rfl,rfl⟩
      · rw[key_ll]at h;exact wpAny_eqBool_int h
      · rw[key_lr]at h;exact SeqAt.EqAt.int_str i t y u _ _ _ _ h
    · rcases za6 hv with ⟨j,u,rfl,rfl⟩ | ⟨y,u,rfl,rfl⟩
      · rw[key_rl]at h;exact SeqAt.EqAt.str_int x t j u _ _ _ _ h
      · rw[key_rr]at h;exact wpAny_eqBool_str h
  «strs»:=fun k x t v h=>by
    rcases za6 h with ⟨i,u,rfl,e⟩ | ⟨y,u,rfl,e⟩
    · exact nomatch e
    · injection e with e1 _
      subst e1
      cases v <;> rfl
theorem zgZ (prog:Program) (w:World) (i:Int) (t:Tok):(zat prog w).is (.inl i) (.int i t)=true:=zik i t
theorem zcX (prog:Program) (w:World) (x:Str) (t:Tok):(zat prog w).is (.inr x) (.str x t)=true:=zij x t
end L2
namespace L2
open PySem PySem.Spec PyProof.Rows
inductive V where
  | non | bl (b:Bool) | int (i:Int) | str (x:Str) | byt (b:Array UInt8) | flt (b:UInt64) | ref (a:Addr) | ty (n:String)
  deriving DecidableEq
def ax:V→Value→Prop
  | .non,u=>u=Value.none
  | .bl b,u=>u=Value.bool b
  | .int i,u=>∃ t,u=Value.int i t
  | .str x,u=>∃ t,u=Value.str x t
  | .byt b,u=>∃ t,u=Value.bytes b t
  | .flt b,u=>∃ t,u=Value.float b t
  | .ref a,u=>u=Value.ref a
  | .ty n,u=>u=Value.type n
abbrev aw:List V→List Value→Prop:=Paired ax
theorem aw.length {xs:List V} {us:List Value} (r:aw xs us):xs.length=us.length:=Paired.length r
theorem aw.get:∀ {xs:List V} {us:List Value} {i:Nat} {x:V},aw xs us→xs[i]?=some x→∃ u,us[i]?=some u∧ax x u
  | _,_,_,_,.nil,e=>by simp at e
  | _,_,0,_,.cons r _,e=>by simp at e;subst e;exact⟨_,rfl,r⟩
  | _,_,i+1,x,.cons _ t,e=>by
    obtain⟨u,h1,h2⟩:=aw.get (i:=i) (x:=x) t (by simpa using e)
    exact⟨u,by simpa using h1,h2⟩
theorem aw.set {x:V} {u:Value} (r:ax x u):∀ {xs:List V} {us:List Value} (i:Nat),aw xs us→aw (xs.set i x) (us.set i u)
  | _,_,_,.nil=>.nil
  | _,_,0,.cons _ t=>.cons r t
  | _,_,i+1,.cons q t=>.cons q (aw.set r i t)
theorem aw.append:∀ {xs ys:List V} {us ws:List Value},aw xs us→aw ys ws→aw (xs++ys) (us++ws)
  | _,_,_,_,.nil,s=>s
  | _,_,_,_,.cons r t,s=>.cons r (aw.append t s)
theorem aw.take:∀ {xs:List V} {us:List Value} (n:Nat),aw xs us→aw (xs.take n) (us.take n)
  | _,_,0,_=>.nil
  | _,_,_+1,.nil=>.nil
  | _,_,n+1,.cons r t=>.cons r (aw.take n t)
theorem aw.drop:∀ {xs:List V} {us:List Value} (n:Nat),aw xs us→aw (xs.drop n) (us.drop n)
  | _,_,0,r=>r
  | _,_,_+1,.nil=>.nil
  | _,_,n+1,.cons _ t=>aw.drop n t
def zcg:Option V→Option Value→Prop
  | some v,some u=>ax v u
  | none,none=>True
  | _,_=>False
def KV {κ:Type}:List (κ × V)→List (κ × Value)→Prop:=Paired fun(p:κ × V) (q:κ × Value)=>p.1=q.1∧ax p.2 q.2
def kV:Key→V
  | .inl i=>.int i
  | .inr x=>.str x
inductive HO where
    | lst (xs:List V)
    | tup (xs:List V)
    | dK (kvs:List (Key × V)) | dT (kvs:List (List Key × V))
    | set (S:Int→Bool) (n:Nat)
    | ins (C dx:Addr) (fs:List (Str × V))
    | own (x:Addr)
    | xd (fs:List (Str × V))
    | met (f x:Addr)
    | rng (lo hi:Int)
    | frz (o:Obj) (u:HO)
    | tbl (ps:Array Value)
    | ext (φ:Heap→Prop)
abbrev Hp:=Addr→Option HO
def upd (H:Hp) (a:Addr) (o:HO):Hp:=fun b=>if b=a then some o else H b
theorem ae {H:Hp} {a:Addr} {o:HO}:upd H a o a=some o:=by unfold upd;rw[if_pos rfl]
theorem ap {H:Hp} {a b:Addr} {o:HO} (h:b≠a):upd H a o b=H b:=by unfold upd;rw[if_neg h]
theorem za4 {H:Hp} {a b:Addr} {o u:HO} (h:H a=some o) (h':H b=some u) (d:o≠u):a≠b:=by
  intro e;subst e;rw[h]at h';exact d (Option.some.inj h')
theorem zaB {H:Hp} {a b:Addr} {o:HO} (h:H a=some o) (h':H b=none):a≠b:=by
  intro e;subst e;rw[h]at h';cases h'
section
variable (P:Program) (w:World)
def zaL (H:Hp) (h:Heap) (a:Addr):HO→Prop
  | .lst xs=>xs.length≤sizeLine∧∃(its:List Value) (n:Nat),aw xs its∧h.get? a=some { cls:=.type "list",data:=.seq its.toArray n }
  | .tup xs=>xs.length≤sizeLine∧∃ its:List Value,aw xs its∧IsTup h a its.toArray
  | .dK kvs=>kvs.length≤sizeLine∧(a == sysModules)=false∧∃ vs,KV kvs vs∧h.DictOf (zat P w) a vs
  | .dT kvs=>kvs.length≤sizeLine∧(a == sysModules)=false∧∃ xs:List (List Key × Addr × Value),
      Paired (fun(p:List Key × V) (q:List Key × Addr × Value)=>p.1=q.1∧H q.2.1=some (.tup (p.1.map kV))∧ax p.2 q.2.2) kvs xs ∧
      ∃ o es ep,h.get? a=some o∧o.ExactDict∧o.data=.dict es ep∧es.toList=xs.map (entryOfKey (tupleKind (zat P w)))∧(xs.map (·.1)).Nodup
  | .set S n=>h.SetOf (intKind P w) a S n
  | .ins C dx fs=>H dx=some (.own a)∧fs.length≤1000∧dx≠a∧h.get? a=some (PySem.W.instObj C dx) ∧
      ∃ mA,h.Ns1 dx mA∧(∀ f,zcg (fs.lookup f) (mA f))∧PySem.Within mA (fs.map (·.1))
  | .own _=>∃ o,h.get? a=some o
  | .xd fs=>∃ mA,h.Ns1 a mA∧∀ f,zcg (fs.lookup f) (mA f)
  | .rng lo hi=>∃ t u v,h.get? a=some { cls:=.type "range",data:=.fields #[.int lo t,.int hi u,.int 1 v] }
  | .frz o u=>h.get? a=some o∧zaL H h a u
  | .tbl ps=>h.get? a=some { cls:=.none,data:=.fields ps }
  | .met f x=>h.get? a=some (PySem.W.methodObj (.ref f) (.ref x))
  | .ext φ=>φ h∧(∃ o,h.get? a=some o)∧∀ h1 h2:Heap,φ h1→(∀ o,h1.get? a=some o→h2.get? a=some o)→φ h2
def HOk (H:Hp) (h:Heap):Prop:=∀ a o,H a=some o→zaL P w H h a o
end
section
variable {P:Program} {w:World} {H H':Hp} {h h':Heap} {a:Addr} {o:HO}
theorem zaL.lt (x:zaL P w H h a o):a < h.objs.size:=by
  cases o with
  | lst xs=>obtain⟨_,_,_,_,e⟩:=x;exact Heap.lt_size e
  | tup xs=>obtain⟨_,_,_,p⟩:=x;exact p.lt
  | dK kvs=>obtain⟨_,_,_,_,o,_,_,e,_⟩:=x;exact Heap.lt_size e
  | dT kvs=>obtain⟨_,_,_,_,o,_,_,e,_⟩:=x;exact Heap.lt_size e
  | set S n=>obtain⟨o,_,_,_,e,_⟩:=x;exact Heap.lt_size e
  | ins C dx fs=>obtain⟨_,_,_,e,_⟩:=x;exact Heap.lt_size e
  | own y=>obtain⟨_,e⟩:=x;exact Heap.lt_size e
  | xd fs=>obtain⟨_,⟨_,_,_,e,_⟩,_⟩:=x;exact Heap.lt_size e
  | rng lo hi=>obtain⟨_,_,_,e⟩:=x;exact Heap.lt_size e
  | frz ob u=>obtain⟨e,_⟩:=x;exact Heap.lt_size e
  | tbl ps=>exact Heap.lt_size (show h.get? a=some _ from x)
  | met f y=>exact Heap.lt_size (show h.get? a=some _ from x)
  | ext φ=>obtain⟨_,⟨_,e⟩,_⟩:=x;exact Heap.lt_size e
theorem Paired.mapP {α β:Type} {F G:α→β→Prop}:∀ {l₁:List α} {l₂:List β},Paired F l₁ l₂→(∀ a b,F a b→G a b)→Paired G l₁ l₂
  | _,_,.nil,_=>.nil
  | _,_,.cons r t,f=>.cons (f _ _ r) (Paired.mapP t f)
theorem zaL.stay (x:zaL P w H h a o) (k:∀ b u,(b=a∨H b=some (.own a))→h.get? b=some u→h'.get? b=some u)
    (ho:∀ b,H b=some (.own a)→H' b=some (.own a)) (ht:∀ b xs,H b=some (.tup xs)→H' b=some (.tup xs)):zaL P w H' h' a o:=by
  induction o with
  | lst xs=>obtain⟨z,its,n,r,e⟩:=x;exact⟨z,its,n,r,k _ _ (.inl rfl) e⟩
  | tup xs=>obtain⟨z,its,r,ob,e,c⟩:=x;exact⟨z,its,r,ob,k _ _ (.inl rfl) e,c⟩
  | dK kvs=>obtain⟨z,y,vs,r,ob,es,ep,e,c⟩:=x;exact⟨z,y,vs,r,ob,es,ep,k _ _ (.inl rfl) e,c⟩
  | dT kvs =>
    obtain⟨z,y,xs,r,ob,es,ep,e,c⟩:=x
    exact⟨z,y,xs,Paired.mapP r fun p q z=>⟨z.1,ht _ _ z.2.1,z.2.2⟩,ob,es,ep,k _ _ (.inl rfl) e,c⟩
  | set S n=>obtain⟨ob,es,ep,t,e,c⟩:=x;exact⟨ob,es,ep,t,k _ _ (.inl rfl) e,c⟩
  | ins C dx fs =>
    obtain⟨d,z,ne,e,mA,⟨od,es,ep,e2,c⟩,r⟩:=x
    exact⟨ho _ d,z,ne,k _ _ (.inl rfl) e,mA,⟨od,es,ep,k _ _ (.inr d) e2,c⟩,r⟩
  | own y=>obtain⟨ob,e⟩:=x;exact⟨ob,k _ _ (.inl rfl) e⟩
  | xd fs=>obtain⟨mA,⟨od,es,ep,e,c⟩,r⟩:=x;exact⟨mA,⟨od,es,ep,k _ _ (.inl rfl) e,c⟩,r⟩
  | rng lo hi=>obtain⟨t,u,v,e⟩:=x;exact⟨t,u,v,k _ _ (.inl rfl) e⟩
  | frz ob u ih=>obtain⟨e,q⟩:=x;exact⟨k _ _ (.inl rfl) e,ih q⟩
  | tbl ps =>
    have e:h.get? a=some { cls:=.none,data:=.fields ps }:=x
    show h'.get? a=some { cls:=.none,data:=.fields ps }
    exact k a _ (.inl rfl) e
  | met f y =>
    have e:h.get? a=some (PySem.W.methodObj (.ref f) (.ref y)):=x
    show h'.get? a=some (PySem.W.methodObj (.ref f) (.ref y))
    exact k a _ (.inl rfl) e
  | ext φ=>obtain⟨p,⟨o,e⟩,st⟩:=x;exact⟨st _ _ p fun o q=>k _ _ (.inl rfl) q,⟨o,k _ _ (.inl rfl) e⟩,st⟩
theorem HOk.lt (x:HOk P w H h) (e:H a=some o):a < h.objs.size:=(x a o e).lt
theorem HOk.fresh (x:HOk P w H h) (e:h.objs.size≤a):H a=none:=by
  cases q:H a with
  | none=>rfl
  | some u=>exact absurd (Nat.lt_of_lt_of_le (x.lt q) e) (Nat.lt_irrefl _)
theorem HOk.kept (x:HOk P w H h) (k:∀ b u,h.get? b=some u→h'.get? b=some u):HOk P w H h':=fun a o e =>
  (x a o e).stay (fun b u _ q=>k b u q) (fun _ q=>q) fun _ _ q=>q
theorem HOk.laid (x:HOk P w H h) (k:∀ b u,h.get? b=some u→h'.get? b=some u) (hp:h.objs.size≤a) (new:zaL P w (upd H a o) h' a o):HOk P w (upd H a o) h':=fun b u e=>by
  have hn:=x.fresh hp
  by_cases hb:b=a
  · subst hb;rw[ae]at e;cases e;exact new
  · rw[ap hb]at e
    exact(x b u e).stay (fun c v _ q=>k c v q) (fun c q=>by rw[ap (zaB q hn)];exact q) fun c xs q=>by rw[ap (zaB q hn)];exact q
end
def Rd (H:Hp) (a:Addr) (u:HO):Prop:=H a=some u∨∃ o,H a=some (.frz o u)
theorem Rd.ok {P:Program} {w:World} {H:Hp} {h:Heap} {a:Addr} {u:HO} (r:Rd H a u) (x:HOk P w H h):zaL P w H h a u:=by
  rcases r with r | ⟨o,r⟩
  · exact x a u r
  · obtain⟨_,q⟩:=x a _ r
    exact q
def Mut:Option HO→Prop
  | some (.lst _)=>True
  | some (.dK _)=>True
  | some (.dT _)=>True
  | some (.set _ _)=>True
  | some (.ins _ _ _)=>True
  | some (.ext _)=>True
  | _=>False
section
variable {P:Program} {w:World} {H:Hp} {h h':Heap} {x e:Addr} {o':HO}
theorem HOk.write (ok:HOk P w H h) (mu:Mut (H x)) (he:e=x∨H e=some (.own x)) (k:∀ b u,b≠e→h.get? b=some u→h'.get? b=some u) (heo:∃ u,h'.get? e=some u)
    (new:zaL P w (upd H x o') h' x o'):HOk P w (upd H x o') h':=fun b u q=>by
  have nown:∀ c y,H c=some (.own y)→c≠x:=fun c y r z=>by subst z;rw[r]at mu;exact mu
  have ntup:∀ c xs,H c=some (.tup xs)→c≠x:=fun c xs r z=>by subst z;rw[r]at mu;exact mu
  by_cases hb:b=x
  · subst hb;rw[ae]at q;cases q;exact new
  · rw[ap hb]at q
    by_cases hbe:b=e
    · have q':H b=some (.own x):=by
        rcases he with z | z
        · exact absurd (hbe.trans z) hb
        · rw[hbe];exact z
      rw[q]at q';cases q'
      obtain⟨v,hv⟩:=heo
      exact⟨v,by rw[hbe];exact hv⟩
    · refine(ok b u q).stay (fun c v hc r=>k c v ?_ r) (fun c r=>by rw[ap (nown c b r)];exact r) fun c xs r=>by rw[ap (ntup c xs r)];exact r
      rcases hc with rfl | hc
      · exact hbe
      · rintro rfl
        rcases he with z | z
        · exact nown c b hc z
        · rw[hc]at z;cases z;exact hb rfl
end
structure Un (fs ex:List Addr) (H H':Hp) (h h':Heap):Prop where
  keep:∀ b o,h.get? b=some o→H b=none→b∉fs→b∉ex→h'.get? b=some o
  slot:∀ b o,h.get? b=some o→H b=none→b∈fs→b∉ex→∃ sl,h'.get? b=some { o with slots:=sl }
  free:∀ b o,h.get? b=some o→H b=none→b∉ex→H' b=none
  there:∀ b o,h.get? b=some o→b∉ex→∃ o',h'.get? b=some o'
  tups:∀ b xs,H b=some (.tup xs)→H' b=some (.tup xs)
  frzs:∀ b o u,H b=some (.frz o u)→H' b=some (.frz o u)
  tbls:∀ b ps,H b=some (.tbl ps)→∃ more,H' b=some (.tbl (ps++more))
section
variable {fs fs' ex ex':List Addr} {H H1 H2:Hp} {h h1 h2 h':Heap} {a x e:Addr} {o:HO}
theorem Un.any (u:Un fs ex H H1 h h1) {b:Addr} {ob:Obj} (q:h.get? b=some ob) (n:H b=none) (hx:b∉ex):∃ sl,h1.get? b=some { ob with slots:=sl }:=by
  by_cases hb:b∈fs
  · exact u.slot b ob q n hb hx
  · exact⟨ob.slots,u.keep b ob q n hb hx⟩
theorem Un.trans (a:Un fs ex H H1 h h1) (b:Un fs ex H1 H2 h1 h2):Un fs ex H H2 h h2 where
  keep:=fun c ob q n hc hx=>b.keep c ob (a.keep c ob q n hc hx) (a.free c ob q n hx) hc hx
  slot:=fun c ob q n hc hx=>by
    obtain⟨sl,e1⟩:=a.slot c ob q n hc hx
    obtain⟨sl',e2⟩:=b.slot c _ e1 (a.free c ob q n hx) hc hx
    exact⟨sl',e2⟩
  free:=fun c ob q n hx=>by
    obtain⟨o',e1⟩:=a.there c ob q hx
    exact b.free c o' e1 (a.free c ob q n hx) hx
  there:=fun c ob q hx=>by
    obtain⟨o',e1⟩:=a.there c ob q hx
    exact b.there c o' e1 hx
  tups:=fun c xs q=>b.tups c xs (a.tups c xs q)
  frzs:=fun c ob xs q=>b.frzs c ob xs (a.frzs c ob xs q)
  tbls:=fun c ps q=>by
    obtain⟨m1,e1⟩:=a.tbls c ps q
    obtain⟨m2,e2⟩:=b.tbls c _ e1
    exact⟨m1++m2,by rw[e2,Array.append_assoc]⟩
theorem Un.kept (k:∀ b u,h.get? b=some u→h'.get? b=some u):Un fs ex H H h h' :=
  ⟨fun b ob q _ _ _=>k b ob q,fun b ob q _ _ _=>⟨ob.slots,k b ob q⟩,fun _ _ _ n _=>n,fun b ob q _=>⟨ob,k b ob q⟩,fun _ _ q=>q,fun _ _ _ q=>q,fun _ ps q=>⟨#[],by rw[q];simp⟩⟩
theorem Un.refl:Un fs ex H H h h:=Un.kept fun _ _ q=>q
theorem Un.laid (k:∀ b u,h.get? b=some u→h'.get? b=some u) (hp:h.objs.size≤a) (hn:H a=none):Un fs ex H (upd H a o) h h' where
  keep:=fun b u q _ _ _=>k b u q
  slot:=fun b u q _ _ _=>⟨u.slots,k b u q⟩
  free:=fun b u q n _=>by rw[ap (Nat.ne_of_lt (Nat.lt_of_lt_of_le (Heap.lt_size q) hp))];exact n
  there:=fun b u q _=>⟨u,k b u q⟩
  tups:=fun b xs q=>by rw[ap (zaB q hn)];exact q
  frzs:=fun b u xs q=>by rw[ap (zaB q hn)];exact q
  tbls:=fun b ps q=>⟨#[],by rw[ap (zaB q hn),q];simp⟩
theorem Un.write (mu:Mut (H x)) (he:e=x∨H e=some (.own x)) (k:∀ b u,b≠e→h.get? b=some u→h'.get? b=some u) (heo:∃ u,h'.get? e=some u):Un fs ex H (upd H x o) h h':=by
  have hx:∀ b,H b=none→b≠x:=fun b n z=>by subst z;rw[n]at mu;exact mu
  have hb:∀ b,H b=none→b≠e:=fun b n z=>by
    subst z
    rcases he with r | r
    · exact hx b n r
    · rw[n]at r;cases r
  have hm:∀ b u,H b=some u→¬Mut (some u)→b≠x:=fun b u q nm z=>by subst z;rw[q]at mu;exact nm mu
  refine⟨fun b u q n _ _=>k b u (hb b n) q,fun b u q n _ _=>⟨u.slots,k b u (hb b n) q⟩,fun b u q n _=>by rw[ap (hx b n)];exact n,fun b u q _=>?_,
    fun b xs q=>by rw[ap (hm b _ q fun z=>z)];exact q,fun b u xs q=>by rw[ap (hm b _ q fun z=>z)];exact q,fun b ps q=>⟨#[],by rw[ap (hm b _ q fun z=>z),q];simp⟩⟩
  by_cases hbe:b=e
  · subst hbe;exact heo
  · exact⟨u,k b u hbe q⟩
end
def trk (h:Heap) (H:Hp):List Addr:=(List.range h.objs.size).filter fun a=>(H a).isSome
def zed (h:Heap) (H:Hp):Heap:=PySem.W.hideAll h (trk h H)
theorem zin (h:Heap) (H:Hp):(zed h H).objs.size=h.objs.size:=PySem.W.hideAll_size _ _
theorem zi1 {h:Heap} {H:Hp} {b:Addr} {o:Obj} (e:h.get? b=some o) (n:H b=none):(zed h H).get? b=some o :=
  PySem.W.hideAll_get _ e fun hm=>by
    have q:(H b).isSome=true:=(List.mem_filter.mp hm).2
    rw[n]at q;simp at q
theorem zjJ {h:Heap} {H:Hp} {b:Addr} {o:Obj} (e:(zed h H).get? b=some o):h.get? b=some o∧H b=none:=by
  have e':h.get? b=some o:=PySem.W.of_hideAll (trk h H) e
  refine⟨e',?_⟩
  cases q:H b with
  | none=>rfl
  | some x =>
    have hm:b∈trk h H:=List.mem_filter.mpr ⟨List.mem_range.mpr (Heap.lt_size e'),by simp [q]⟩
    have z:(zed h H).get? b=none:=PySem.W.hideAll_none (trk h H) hm
    rw[z]at e;cases e
def zjZ (g h:Heap) (L:Addr):List (Addr × Obj):=(List.range h.objs.size).filterMap fun a=>if a=L∨(g.get? a).isSome=true then none else(h.get? a).map fun o=>(a,o)
def zav (g h:Heap) (L d:Addr):List (Addr × Obj):=(zjZ g h L).filter fun p=>decide (p.1≠d)
end L2
namespace L2
open PySem PySem.Spec PyProof.Rows
structure Mod (K:PySem.W.Frag) (mg:Str→Option Value) (base:Heap):Prop where
  kin:K.In base
  glob:base.Ns mainGlobals mg
  blt:∃ mb,base.Ns builtinsNs mb∧∀ x:Str,x≠"__name__"→mb x=bootBuiltins x
  nolimit:base.NoLimit
structure Cx where
  prog:Program
  w:World
  K:PySem.W.Frag
  mg:Str→Option Value
  base:Heap
  A:Around
  N:List Str
  s₀:Shared
  H₀:Hp
  env:Env
  outer:List Env
  stack:List Env
  ex:List Addr
  fn:Str→Bool
  calm:Bool
  pn:List (Addr × Obj)
  xe:Value→Shared→Prop
def frs (l:List Env):List Addr:=l.filterMap (·.frame)
abbrev Cx.fs (X:Cx):List Addr:=frs X.outer
def Vis (sc:Scope) (x:Str):Prop:=sc.names.lookup x=some .local∨sc.names.lookup x=some .cell∨sc.names.lookup x=some .free
def Loc (sc:Scope) (x:Str):Prop:=sc.names.lookup x=some .local∨sc.names.lookup x=some .cell
def Look (env:Env) (h:Heap) (m:Str→Option Value) (x:Str) (u:Value):Prop :=
  (env.kindOf x=some .local∧m x=some u)∨((env.kindOf x=some .cell∨env.kindOf x=some .free)∧∃ c,env.cells.lookup x=some c∧h.IsCell c (some u))
structure Cx.Ok (X:Cx):Prop where
  mod:Mod X.K X.mg X.base
  kind:X.env.scope.kind=.function
  glob:X.env.globals=mainGlobals
  blt:X.env.builtins=builtinsNs
  above:X.s₀.heap.objs.size≤X.env.locals
  inj:∀ x y c,X.env.cells.lookup x=some c→X.env.cells.lookup y=some c→x=y
  has:∀ x,(X.env.kindOf x=some .cell∨X.env.kindOf x=some .free)→∃ c,X.env.cells.lookup x=some c
  cab:∀ x c,X.fn x=true→X.env.cells.lookup x=some c→X.s₀.heap.objs.size≤c
  hd:X.calm=true→X.A.handled=none
  frames:X.A.frames=some X.stack
  stk:X.stack=X.outer∨(X.stack=X.env :: X.outer∧X.env.frame=some X.env.locals)
  exf:∀ b∈X.ex,b≠X.env.locals∧∀ x c,X.env.cells.lookup x=some c→c≠b
  bs:∀ b o,X.base.get? b=some o→X.s₀.heap.get? b=some o∧X.H₀ b=none
  bsz:X.base.objs.size≤X.s₀.heap.objs.size
  noex:∀ b o,X.base.get? b=some o→b∉X.ex
  exfs:∀ b∈X.ex,b∉X.fs
  funs:X.s₀.heap.FunFrames X.base X.outer
  frf:∀ b∈X.fs,X.H₀ b=none
structure Inv (X:Cx) (pins:List (Addr × Obj)) (σ:List (Option V)) (H:Hp) (s:Shared):Prop where
  ok:X.Ok
  os:s.os=X.s₀.os
  bare:AllBare s.gens
  base:Un X.fs X.ex X.H₀ H X.s₀.heap s.heap
  loc:∃ m,s.heap.Ns X.env.locals m∧∀(i:Nat) (x:Str) (v:V),X.N[i]?=some x→σ[i]?=some (some v)→Vis X.env.scope x→∃ u,ax v u∧Look X.env s.heap m x u
  cell:∀ x c,X.env.cells.lookup x=some c→∃ v,s.heap.IsCell c v
  free:H X.env.locals=none
  freeC:∀ x c,X.env.cells.lookup x=some c→H c=none
  pin:∀ p∈X.pn++pins,s.heap.get? p.1=some p.2∧H p.1=none∧p.1≠X.env.locals∧p.1∉X.fs∧∀ v,p.2.data≠.cell v
  hok:HOk X.prog X.w H s.heap
  len:σ.length=X.N.length
section
variable {X:Cx} {pins:List (Addr × Obj)} {σ:List (Option V)} {H H':Hp} {s:Shared} {h':Heap}
theorem Cx.Ok.nofr (ok:X.Ok) {b:Addr} {o:Obj} (e:X.base.get? b=some o):b∉X.fs:=fun hb=>by
  have:=(ok.funs.mem hb).1
  rw[e]at this;cases this
theorem Inv.bs (I:Inv X pins σ H s):∀ b o,X.base.get? b=some o→s.heap.get? b=some o∧H b=none:=fun b o e =>
  ⟨I.base.keep b o (I.ok.bs b o e).1 (I.ok.bs b o e).2 (I.ok.nofr e) (I.ok.noex b o e),I.base.free b o (I.ok.bs b o e).1 (I.ok.bs b o e).2 (I.ok.noex b o e)⟩
theorem Inv.bk (I:Inv X pins σ H s):∀ b o,X.base.get? b=some o→s.heap.get? b=some o:=fun b o e=>(I.bs b o e).1
theorem Inv.mod (I:Inv X pins σ H s):Mod X.K X.mg X.base:=I.ok.mod
theorem Inv.kIn (I:Inv X pins σ H s):X.K.In s.heap:=I.ok.mod.kin.keeps I.bk
theorem Inv.fr (I:Inv X pins σ H s):∃ m,Fr X.base X.env.locals s.heap m :=
  let ⟨m,hn,_⟩:=I.loc
  ⟨m,hn,I.bk,Nat.le_trans I.ok.bsz I.ok.above⟩
theorem Inv.lt (I:Inv X pins σ H s):X.env.locals < s.heap.objs.size:=let ⟨_,hn,_⟩:=I.loc;hn.lt
theorem Inv.sz (I:Inv X pins σ H s):X.s₀.heap.objs.size≤s.heap.objs.size:=Nat.le_trans I.ok.above (Nat.le_of_lt I.lt)
theorem Inv.nofs (I:Inv X pins σ H s) {a:Addr} (h:s.heap.objs.size≤a):a∉X.fs:=fun hb=>by
  obtain⟨_,o,ho,_⟩:=I.ok.funs.mem hb
  exact absurd (Nat.lt_of_lt_of_le (Heap.lt_size ho) (Nat.le_trans I.sz h)) (Nat.lt_irrefl _)
theorem Inv.cne (I:Inv X pins σ H s):∀ x c,X.env.cells.lookup x=some c→c≠X.env.locals:=fun x c e z=>by
  obtain⟨v,o,ho,hd⟩:=I.cell x c e
  obtain⟨m,⟨o',es,ep,ho',hd',_⟩,_⟩:=I.loc
  rw[z,ho']at ho;cases ho;rw[hd']at hd;cases hd
theorem Inv.funs (I:Inv X pins σ H s):s.heap.FunFrames X.base X.outer:=by
  have all:∀(l:List Env),(∀ b∈frs l,b∈X.fs)→X.s₀.heap.FunFrames X.base l→s.heap.FunFrames X.base l:=by
    intro l
    induction l with
    | nil=>intro _ _;trivial
    | cons env r ih =>
      intro hs hl
      obtain⟨hk,⟨L,o,hf,hn,ho,hd⟩,hr⟩:=hl
      have hL:L∈X.fs:=hs L (by unfold frs;rw[List.filterMap_cons,hf];exact List.mem_cons_self)
      obtain⟨sl,e⟩:=I.base.slot L o ho (I.ok.frf L hL) hL fun z=>I.ok.exfs L z hL
      exact⟨hk,⟨L,_,hf,hn,e,hd⟩,ih (fun b hb=>hs b (by unfold frs;rw[List.filterMap_cons,hf];exact List.mem_cons_of_mem _ hb)) hr⟩
  exact all X.outer (fun _ hb=>hb) I.ok.funs
theorem Inv.stack (I:Inv X pins σ H s):s.heap.FunFrames X.base X.stack:=by
  rcases I.ok.stk with e | ⟨e,hf⟩
  · rw[e];exact I.funs
  · rw[e]
    obtain⟨m,hn,_⟩:=I.loc
    refine .cons (by rw[I.ok.kind];decide) hf hn ?_ I.funs
    exact Heap.get?_none_of_le (Nat.le_trans I.ok.bsz I.ok.above)
theorem Inv.stkSub (I:Inv X pins σ H s):∀ b∈frs X.stack,b∈X.env.locals :: X.fs:=fun b hb=>by
  rcases I.ok.stk with e | ⟨e,hf⟩
  · rw[e]at hb;exact List.mem_cons_of_mem _ hb
  · rw[e]at hb
    unfold frs at hb
    rw[List.filterMap_cons,hf]at hb
    exact hb
theorem Inv.stkFree (I:Inv X pins σ H s):∀ b∈frs X.stack,H b=none:=fun b hb=>by
  rcases List.mem_cons.mp (I.stkSub b hb) with e | hb
  · rw[e];exact I.free
  · obtain⟨_,o,ho,_⟩:=I.ok.funs.mem hb
    exact I.base.free b o ho (I.ok.frf b hb) fun z=>I.ok.exfs b z hb
theorem Inv.step {g':Array GenState} {t':Nat} {d':Drawn} {ch:List Addr} (I:Inv X pins σ H s)
    (hch:∀ b∈ch,(b∈X.ex∨X.s₀.heap.objs.size≤b)∧b≠X.env.locals∧(∀ x c,X.env.cells.lookup x=some c→c≠b)∧∀ p∈X.pn++pins,p.1≠b)
    (keep:∀ b o,b≠X.env.locals→b∉X.fs→b∉ch→s.heap.get? b=some o→H b=none→h'.get? b=some o)
    (slot:∀ b o,b≠X.env.locals→b∈X.fs→b∉ch→s.heap.get? b=some o→H b=none→∃ sl,h'.get? b=some { o with slots:=sl }) (free:∀ b o,b∉ch→s.heap.get? b=some o→H b=none→H' b=none)
    (there:∀ b o,b∉ch→s.heap.get? b=some o→∃ o',h'.get? b=some o')
    (tups:∀ b xs,H b=some (.tup xs)→H' b=some (.tup xs)) (frzs:∀ b o u,H b=some (.frz o u)→H' b=some (.frz o u)) (tbls:∀ b ps,H b=some (.tbl ps)→∃ more,H' b=some (.tbl (ps++more)))
    (ns:∀ m,s.heap.Ns X.env.locals m→h'.Ns X.env.locals m) (hok:HOk X.prog X.w H' h') (hg:AllBare g') :
    Inv X pins σ H' { s with heap:=h',gens:=g',drawn:=d',toks:=t' }:=by
  have neL:∀ b o,X.s₀.heap.get? b=some o→b≠X.env.locals:=fun b o e=>Nat.ne_of_lt (Nat.lt_of_lt_of_le (Heap.lt_size e) I.ok.above)
  have neC:∀ b o,X.s₀.heap.get? b=some o→b∉X.ex→b∉ch:=fun b o e hx hb=>by
    rcases(hch b hb).1 with z | z
    · exact hx z
    · exact absurd (Nat.lt_of_lt_of_le (Heap.lt_size e) z) (Nat.lt_irrefl _)
  have cellK:∀ x c,X.env.cells.lookup x=some c→∀ v,s.heap.IsCell c v→h'.IsCell c v:=fun x c e v ⟨o,ho,hd⟩=>by
    have nch:c∉ch:=fun z=>(hch c z).2.2.1 x c e rfl
    by_cases hc:c∈X.fs
    · obtain⟨sl,q⟩:=slot c o (I.cne x c e) hc nch ho (I.freeC x c e)
      exact⟨_,q,hd⟩
    · exact⟨o,keep c o (I.cne x c e) hc nch ho (I.freeC x c e),hd⟩
  refine⟨I.ok,I.os,hg,⟨fun b o e n hb hx=>?_,fun b o e n hb hx=>?_,fun b o e n hx=>?_,fun b o e hx=>?_,fun b xs e=>tups b xs (I.base.tups b xs e),fun b o xs e=>frzs b o xs (I.base.frzs b o xs e),fun b ps e=>?_⟩,?_,fun x c e=>?_,?_,fun x c e=>?_,fun p hp=>?_,hok,I.len⟩
  · exact keep b o (neL b o e) hb (neC b o e hx) (I.base.keep b o e n hb hx) (I.base.free b o e n hx)
  · obtain⟨sl,e1⟩:=I.base.slot b o e n hb hx
    obtain⟨sl',e2⟩:=slot b _ (neL b o e) hb (neC b o e hx) e1 (I.base.free b o e n hx)
    exact⟨sl',e2⟩
  · obtain⟨o',e1⟩:=I.base.there b o e hx
    exact free b o' (neC b o e hx) e1 (I.base.free b o e n hx)
  · obtain⟨o',e1⟩:=I.base.there b o e hx
    exact there b o' (neC b o e hx) e1
  · obtain⟨m1,e1⟩:=I.base.tbls b ps e
    obtain⟨m2,e2⟩:=tbls b _ e1
    exact⟨m1++m2,by rw[e2,Array.append_assoc]⟩
  · obtain⟨m,hn,hl⟩:=I.loc
    refine⟨m,ns m hn,fun i x v e1 e2 e3=>?_⟩
    obtain⟨u,r,l⟩:=hl i x v e1 e2 e3
    refine⟨u,r,?_⟩
    rcases l with l | ⟨k,c,e,z⟩
    · exact .inl l
    · exact .inr ⟨k,c,e,cellK x c e _ z⟩
  · obtain⟨v,z⟩:=I.cell x c e
    exact⟨v,cellK x c e v z⟩
  · obtain⟨m,⟨o,_,_,ho,_⟩,_⟩:=I.loc
    exact free _ o (fun z=>(hch _ z).2.1 rfl) ho I.free
  · obtain⟨v,o,ho,hd⟩:=I.cell x c e
    exact free c o (fun z=>(hch c z).2.2.1 x c e rfl) ho (I.freeC x c e)
  · obtain⟨e,n,ne,nf,d⟩:=I.pin p hp
    have nch:p.1∉ch:=fun z=>(hch p.1 z).2.2.2 p hp rfl
    exact⟨keep p.1 p.2 ne nf nch e n,free p.1 p.2 nch e n,ne,nf,d⟩
theorem Inv.un {t':Nat} (I:Inv X pins σ H s) (u:Un X.fs [] H H' s.heap h') (hok:HOk X.prog X.w H' h'):Inv X pins σ H' { s with heap:=h',toks:=t' }:=by
  obtain⟨m,⟨o,es,ep,ho,r⟩,_⟩:=id I.loc
  obtain⟨sl,hL⟩:=u.any ho I.free (by simp)
  exact I.step (g':=s.gens) (d':=s.drawn) (ch:=[]) (fun _ z=>nomatch z) (fun b o _ hb _ e n=>u.keep b o e n hb (by simp)) (fun b o _ hb _ e n=>u.slot b o e n hb (by simp)) (fun b o _ e n=>u.free b o e n (by simp)) (fun b o _ e=>u.there b o e (by simp)) u.tups u.frzs u.tbls (fun m' hm=>by
    obtain⟨o',es',ep',ho',r'⟩:=hm
    rw[ho]at ho';cases ho'
    exact⟨_,es',ep',hL,r'⟩) hok I.bare
theorem Inv.call {g':Array GenState} {t':Nat} {d':Drawn} {ch:List Addr} (I:Inv X pins σ H s) (u:Un (frs X.stack) ch H H' s.heap h') (hok:HOk X.prog X.w H' h') (hg:AllBare g')
    (hch:∀ b∈ch,(b∈X.ex∨X.s₀.heap.objs.size≤b)∧b≠X.env.locals∧(∀ x c,X.env.cells.lookup x=some c→c≠b)∧∀ p∈X.pn++pins,p.1≠b) :
    Inv X pins σ H' { s with heap:=h',gens:=g',drawn:=d',toks:=t' }:=by
  obtain⟨m,⟨o,es,ep,ho,r⟩,_⟩:=id I.loc
  obtain⟨sl,hL⟩:=u.any ho I.free fun z=>(hch _ z).2.1 rfl
  exact I.step (ch:=ch) hch (fun b o hL hb hc e n=>u.keep b o e n (fun z=>(List.mem_cons.mp (I.stkSub b z)).elim hL hb) hc) (fun b o _ _ hc e n=>u.any e n hc) (fun b o hc e n=>u.free b o e n hc) (fun b o hc e=>u.there b o e hc) u.tups u.frzs u.tbls (fun m' hm=>by
    obtain⟨o',es',ep',ho',r'⟩:=hm
    rw[ho]at ho';cases ho'
    exact⟨_,es',ep',hL,r'⟩) hok hg
theorem Inv.turned {t':Nat} {it:Addr} (I:Inv X pins σ H s) (k:∀ b o,b≠it→s.heap.get? b=some o→h'.get? b=some o) (hn:H it=none) (hL:it≠X.env.locals)
    (h1:it∈X.ex∨X.s₀.heap.objs.size≤it) (h2:∀ x c,X.env.cells.lookup x=some c→c≠it) (h3:∀ p∈X.pn++pins,p.1≠it):Inv X pins σ H { s with heap:=h',toks:=t' }:=by
  have nit:∀ b u,H b=some u→b≠it:=fun b u e z=>by rw[z,hn]at e;cases e
  refine I.step (g':=s.gens) (d':=s.drawn) (ch:=[it]) (fun b hb=>?_) (fun b o _ _ hc e _=>k b o (fun z=>hc (by simp [z])) e) (fun b o _ _ hc e _=>⟨o.slots,k b o (fun z=>hc (by simp [z])) e⟩) (fun _ _ _ _ n=>n)
    (fun b o hc e=>⟨o,k b o (fun z=>hc (by simp [z])) e⟩) (fun _ _ e=>e) (fun _ _ _ e=>e) (fun b ps e=>⟨#[],by rw[e];simp⟩) (fun m hm=>?_) (fun b u e=>?_) I.bare
  · have e:b=it:=by simpa using hb
    subst e
    exact⟨h1,hL,h2,h3⟩
  · obtain⟨o,es,ep,ho,r⟩:=hm
    exact⟨o,es,ep,k _ o (Ne.symm hL) ho,r⟩
  · refine(I.hok b u e).stay (fun c v hc q=>k c v ?_ q) (fun _ q=>q) fun _ _ q=>q
    rcases hc with z | z
    · rw[z];exact nit b u e
    · exact nit c _ z
theorem Inv.tok (I:Inv X pins σ H s) (t:Nat):Inv X pins σ H { s with toks:=t }:=I.un (h':=s.heap) (t':=t) Un.refl I.hok
theorem Inv.kept {t':Nat} (I:Inv X pins σ H s) (k:∀ b u,s.heap.get? b=some u→h'.get? b=some u):Inv X pins σ H { s with heap:=h',toks:=t' }:=I.un (Un.kept k) (I.hok.kept k)
theorem Inv.laid {a:Addr} {o:HO} {t':Nat} (I:Inv X pins σ H s) (k:∀ b u,s.heap.get? b=some u→h'.get? b=some u) (hp:s.heap.objs.size≤a) (new:zaL X.prog X.w (upd H a o) h' a o) :
    Inv X pins σ (upd H a o) { s with heap:=h',toks:=t' }:=I.un (Un.laid k hp (I.hok.fresh hp)) (I.hok.laid k hp new)
theorem Inv.write {x e:Addr} {o:HO} {t':Nat} (I:Inv X pins σ H s) (mu:Mut (H x)) (he:e=x∨H e=some (.own x)) (k:∀ b u,b≠e→s.heap.get? b=some u→h'.get? b=some u) (heo:∃ u,h'.get? e=some u)
    (new:zaL X.prog X.w (upd H x o) h' x o):Inv X pins σ (upd H x o) { s with heap:=h',toks:=t' }:=I.un (Un.write mu he k heo) (I.hok.write mu he k heo new)
theorem Inv.pins_of {pins':List (Addr × Obj)} (I:Inv X pins σ H s) (h:∀ p∈pins',s.heap.get? p.1=some p.2∧H p.1=none∧p.1≠X.env.locals∧p.1∉X.fs∧∀ v,p.2.data≠.cell v):Inv X pins' σ H s :=
  ⟨I.ok,I.os,I.bare,I.base,I.loc,I.cell,I.free,I.freeC,fun p hp=>(List.mem_append.mp hp).elim (fun z=>I.pin p (List.mem_append_left _ z)) (h p),I.hok,I.len⟩
theorem zgK {N:List Str} (hN:N.Nodup) {i j:Nat} {x:Str} (a:N[i]?=some x) (b:N[j]?=some x):i=j:=by
  obtain⟨h1,e1⟩:=List.getElem?_eq_some_iff.mp a
  obtain⟨h2,e2⟩:=List.getElem?_eq_some_iff.mp b
  exact(List.getElem_inj hN).mp (e1.trans e2.symm)
theorem zc4 {M:Model} {A:Around} {E:Value→Shared→Prop} {i:Nat} {x:Str} {v:V} {u:Value} {Q:Unit→Shared→Prop} (I:Inv X pins σ H s) (hN:X.N.Nodup) (hi:X.N[i]?=some x) (hx:Loc X.env.scope x) (r:ax v u)
    (h:∀ s',Inv X pins (σ.set i (some v)) H s'→(∃ a,Heap.SameBut a s.heap s'.heap∧(a=X.env.locals∨X.env.cells.lookup x=some a))→Q () s') (hf:X.fn x=true∨X.env.scope.names.lookup x=some .local:=by first | exact .inl rfl | exact .inr rfl | assumption):wpAny M A (storeName X.env x u) Q E s:=by
  obtain⟨m,hn,hl⟩:=id I.loc
  have hcls:(X.env.scope.kind == .class||(X.env.scope.kind == .module&&X.env.locals != X.env.globals))=false:=by rw[I.ok.kind];rfl
  have hiσ:i < σ.length:=by rw[I.len];exact(List.getElem?_eq_some_iff.mp hi).1
  have cne:=I.cne
  have tracked:∀ {a:Addr} {h':Heap},(∃ o,s.heap.get? a=some o∧H a=none)→Heap.SameBut a s.heap h'→HOk X.prog X.w H h':=fun {a h'} ha hs b ob e=>by
    obtain⟨_,_,hfree⟩:=ha
    refine(I.hok b ob e).stay (fun c w' hc q=>(hs.2 c ?_).trans q) (fun _ q=>q) fun _ _ q=>q
    rintro rfl
    rcases hc with rfl | hc
    · rw[hfree]at e;cases e
    · rw[hfree]at hc;cases hc
  rcases hx with hk | hk
  · refine wpAny_storeName_local hk hn (fun h' hn' hs=>?_) hcls
    obtain⟨oL,_,_,hoL,_⟩:=id hn
    refine h _ ⟨I.ok,I.os,I.bare,⟨fun b o e n hb hx=>?_,fun b o e n hb hx=>?_,I.base.free,fun b o e hx=>?_,I.base.tups,I.base.frzs,I.base.tbls⟩,⟨_,hn',fun j y v' e1 e2 e3=>?_⟩,fun y c e=>?_,I.free,I.freeC,fun p hp=>?_,tracked ⟨oL,hoL,I.free⟩ hs,by simpa using I.len⟩ ⟨_,hs,.inl rfl⟩
    · exact(hs.2 b (Nat.ne_of_lt (Nat.lt_of_lt_of_le (Heap.lt_size e) I.ok.above))).trans (I.base.keep b o e n hb hx)
    · obtain⟨sl,e1⟩:=I.base.slot b o e n hb hx
      exact⟨sl,(hs.2 b (Nat.ne_of_lt (Nat.lt_of_lt_of_le (Heap.lt_size e) I.ok.above))).trans e1⟩
    · obtain⟨o',e1⟩:=I.base.there b o e hx
      exact⟨o',(hs.2 b (Nat.ne_of_lt (Nat.lt_of_lt_of_le (Heap.lt_size e) I.ok.above))).trans e1⟩
    · by_cases hj:j=i
      · subst hj
        rw[hi]at e1;cases e1
        rw[List.getElem?_set_self hiσ]at e2
        cases e2
        exact⟨u,r,.inl ⟨hk,by simp⟩⟩
      · rw[List.getElem?_set_ne (Ne.symm hj)]at e2
        obtain⟨u',r',q⟩:=hl j y v' e1 e2 e3
        refine⟨u',r',?_⟩
        rcases q with ⟨k,e⟩ | ⟨k,c,e,z⟩
        · refine .inl ⟨k,?_⟩
          have:y≠x:=fun e=>hj (zgK hN e1 (e ▸ hi))
          simp [this,e]
        · exact .inr ⟨k,c,e,z.sameBut hs (cne y c e)⟩
    · obtain⟨w',z⟩:=I.cell y c e
      exact⟨w',z.sameBut hs (cne y c e)⟩
    · obtain⟨e,n,ne,nf,d⟩:=I.pin p hp
      exact⟨(hs.2 p.1 ne).trans e,n,ne,nf,d⟩
  · have hfn:X.fn x=true:=by
      rcases hf with z | z
      · exact z
      · rw[z]at hk;cases hk
    obtain⟨c,hc⟩:=I.ok.has x (.inl hk)
    obtain⟨w',z⟩:=I.cell x c hc
    refine wpAny_storeName_cell I.ok.kind hk hc z (fun h' hc' hs=>?_)
    obtain⟨oc,hoc,hocd⟩:=id z
    refine h { s with heap:=h' } ⟨I.ok,I.os,I.bare,⟨fun b o e n hb hx=>?_,fun b o e n hb hx=>?_,I.base.free,fun b o e hx=>?_,I.base.tups,I.base.frzs,I.base.tbls⟩,⟨m,hn.sameBut hs (Ne.symm (cne x c hc)),fun j y v' e1 e2 e3=>?_⟩,fun y c' e=>?_,I.free,I.freeC,fun p hp=>?_,tracked ⟨oc,hoc,I.freeC x c hc⟩ hs,by simpa using I.len⟩ ⟨c,hs,.inr hc⟩
    · exact(hs.2 b (Nat.ne_of_lt (Nat.lt_of_lt_of_le (Heap.lt_size e) (I.ok.cab x c hfn hc)))).trans (I.base.keep b o e n hb hx)
    · obtain⟨sl,e1⟩:=I.base.slot b o e n hb hx
      exact⟨sl,(hs.2 b (Nat.ne_of_lt (Nat.lt_of_lt_of_le (Heap.lt_size e) (I.ok.cab x c hfn hc)))).trans e1⟩
    · obtain⟨o',e1⟩:=I.base.there b o e hx
      exact⟨o',(hs.2 b (Nat.ne_of_lt (Nat.lt_of_lt_of_le (Heap.lt_size e) (I.ok.cab x c hfn hc)))).trans e1⟩
    · by_cases hj:j=i
      · subst hj
        rw[hi]at e1;cases e1
        rw[List.getElem?_set_self hiσ]at e2
        cases e2
        exact⟨u,r,.inr ⟨.inl hk,c,hc,hc'⟩⟩
      · rw[List.getElem?_set_ne (Ne.symm hj)]at e2
        obtain⟨u',r',q⟩:=hl j y v' e1 e2 e3
        refine⟨u',r',?_⟩
        rcases q with q | ⟨k,c',e,z'⟩
        · exact .inl q
        · refine .inr ⟨k,c',e,z'.sameBut hs ?_⟩
          rintro rfl
          exact hj (zgK hN e1 (I.ok.inj _ _ _ e hc ▸ hi))
    · by_cases hcc:c'=c
      · subst hcc;exact⟨_,hc'⟩
      · obtain⟨w2,z2⟩:=I.cell y c' e
        exact⟨w2,z2.sameBut hs hcc⟩
    · obtain⟨e,n,ne,nf,d⟩:=I.pin p hp
      refine⟨(hs.2 p.1 ?_).trans e,n,ne,nf,d⟩
      intro q
      rw[q,hoc]at e
      have q':oc=p.2:=Option.some.inj e
      exact d w' (by rw[←q'];exact hocd)
theorem zdv {M:Model} {A:Around} {E:Value→Shared→Prop} {i:Nat} {x:Str} {v:V} {u:Value} {Q:Unit→Shared→Prop} (I:Inv X pins σ H s) (hN:X.N.Nodup) (hi:X.N[i]?=some x) (hx:Loc X.env.scope x) (r:ax v u)
    (h:∀ s',Inv X pins (σ.set i (some v)) H s'→Q () s') (hf:X.fn x=true∨X.env.scope.names.lookup x=some .local:=by first | exact .inl rfl | exact .inr rfl | assumption):wpAny M A (storeName X.env x u) Q E s :=
  zc4 I hN hi hx r (fun s' I' _=>h s' I') hf
theorem Inv.call' {s':Shared} {ch:List Addr} (I:Inv X pins σ H s) (ho:s'.os=s.os) (u:Un (frs X.stack) ch H H' s.heap s'.heap) (hok:HOk X.prog X.w H' s'.heap) (hg:AllBare s'.gens)
    (hch:∀ b∈ch,(b∈X.ex∨X.s₀.heap.objs.size≤b)∧b≠X.env.locals∧(∀ x c,X.env.cells.lookup x=some c→c≠b)∧∀ p∈X.pn++pins,p.1≠b):Inv X pins σ H' s':=by
  obtain⟨h',g',d',t',o'⟩:=s'
  have e:o'=s.os:=ho
  subst e
  exact I.call (g':=g') (t':=t') (d':=d') u hok hg hch
end
abbrev XK:=Value→Option Addr→Hp→Prop
abbrev St:=List (Option V)
abbrev VK:=V→Hp→Prop
abbrev TE:=St→Hp→VK→Prop
abbrev TT:=St→Hp→(Bool→Hp→Prop)→Prop
abbrev TA:=St→Hp→(List V→Hp→Prop)→Prop
structure zbO where
  nx:St→Hp→Prop
  rt:VK
  bk:St→Hp→Prop:=fun _ _=>False
  ct:St→Hp→Prop:=fun _ _=>False
abbrev TS:=zbO→St→Hp→Prop
def EP (X:Cx) (pins:List (Addr × Obj)) (σ:St) (Q:VK) (u:Value) (s':Shared):Prop:=∃ v H',Inv X pins σ H' s'∧ax v u∧Q v H'
def TP (X:Cx) (pins:List (Addr × Obj)) (σ:St) (Q:Bool→Hp→Prop) (b:Bool) (s':Shared):Prop:=∃ H',Inv X pins σ H' s'∧Q b H'
def AP (X:Cx) (pins:List (Addr × Obj)) (σ:St) (Q:List V→Hp→Prop) (us:List Value) (s':Shared):Prop:=∃ vs H',Inv X pins σ H' s'∧aw vs us∧Q vs H'
def SP (X:Cx) (pins:List (Addr × Obj)) (D:zbO) (f:Flow) (s':Shared):Prop :=
  match f with
  | .next=>∃ σ' H',Inv X pins σ' H' s'∧D.nx σ' H'
  | .brk=>∃ σ' H',Inv X pins σ' H' s'∧D.bk σ' H'
  | .cont=>∃ σ' H',Inv X pins σ' H' s'∧D.ct σ' H'
  | .ret u=>∃ v σ' H',Inv X pins σ' H' s'∧ax v u∧D.rt v H'
def PE (X:Cx) (e:Expr) (t:TE):Prop :=
  ∀(pins:List (Addr × Obj)) (s:Shared) (σ:St) (H:Hp) (Q:VK),Inv X pins σ H s→t σ H Q→wpAny (model X.prog X.w) X.A (eval e X.env) (EP X pins σ Q) X.xe s
def PT (X:Cx) (e:Expr) (t:TT):Prop :=
  ∀(pins:List (Addr × Obj)) (s:Shared) (σ:St) (H:Hp) (Q:Bool→Hp→Prop),Inv X pins σ H s→t σ H Q→wpAny (model X.prog X.w) X.A (isTrue e X.env (eval e X.env)) (TP X pins σ Q) X.xe s
def PW (X:Cx) (e:Expr) (t:TT):Prop :=
  ∀(whole:Sem Value) (pins:List (Addr × Obj)) (s:Shared) (σ:St) (H:Hp) (Q:Bool→Hp→Prop),Inv X pins σ H s→t σ H Q→wpAny (model X.prog X.w) X.A (isTrue e X.env whole) (TP X pins σ Q) X.xe s
theorem PW.pt {X:Cx} {e:Expr} {t:TT} (h:PW X e t):PT X e t:=h _
def PA (X:Cx) (es:List Expr) (t:TA):Prop :=
  ∀(pos:Pos) (pins:List (Addr × Obj)) (s:Shared) (σ:St) (H:Hp) (Q:List V→Hp→Prop),Inv X pins σ H s→t σ H Q→wpAny (model X.prog X.w) X.A (spliced (backTo pos (starEach es X.env))) (AP X pins σ Q) X.xe s
def PS (X:Cx) (st:Stmt) (t:TS):Prop :=
  ∀(pins:List (Addr × Obj)) (s:Shared) (σ:St) (H:Hp) (D:zbO),Inv X pins σ H s→t D σ H→wpAny (model X.prog X.w) X.A (exec st X.env) (SP X pins D) X.xe s
def PSs (X:Cx) (st:List Stmt) (t:TS):Prop :=
  ∀(pins:List (Addr × Obj)) (s:Shared) (σ:St) (H:Hp) (D:zbO),Inv X pins σ H s→t D σ H→wpAny (model X.prog X.w) X.A (execs st X.env) (SP X pins D) X.xe s
theorem thn {α:Type} {t:Sem α} {Q Q':α→Shared→Prop} {M:Model} {A:Around} {E:Value→Shared→Prop} {s:Shared} (h:wpAny M A t Q E s) (hQ:∀ a s,Q a s→Q' a s):wpAny M A t Q' E s:=wpAny_mono h hQ fun _ _ x=>x
end L2
namespace L2
open PySem PySem.Spec PyProof.Rows
section
variable {X:Cx}
theorem bin {a b:Expr} {ta tb:TE} (ha:PE X a ta) (hb:PE X b tb) {pins:List (Addr × Obj)} {s:Shared} {σ:St} {H:Hp} {R:V→V→Hp→Prop} (I:Inv X pins σ H s) (h:ta σ H fun x H1=>tb σ H1 fun y H2=>R x y H2)
    {α:Type} {Q:α→Shared→Prop} {f:Value→Value→Sem α}
    (hf:∀ v u s2 x y H2,Inv X pins σ H2 s2→ax x v→ax y u→R x y H2→wpAny (model X.prog X.w) X.A (f v u) Q X.xe s2) :
    wpAny (model X.prog X.w) X.A (eval a X.env) (fun v s₁=>wpAny (model X.prog X.w) X.A (eval b X.env) (fun u s₂=>wpAny (model X.prog X.w) X.A (f v u) Q X.xe s₂) X.xe s₁) X.xe s:=by
  refine thn (ha pins s σ H _ I h) fun v s1 ⟨x,H1,I1,r1,q1⟩=>?_
  refine thn (hb pins s1 σ H1 _ I1 q1) fun u s2 ⟨y,H2,I2,r2,q2⟩=>?_
  exact hf v u s2 x y H2 I2 r1 r2 q2
def tVar (i:Nat):TE:=fun σ H Q=>∃ v,σ[i]?=some (some v)∧Q v H
def tC (v:V):TE:=fun _ H Q=>Q v H
theorem pe_var {i:Nat} {x:Str} {pos:Pos} (hN:X.N[i]?=some x) (hv:Vis X.env.scope x) (hd:(x == ("__debug__":Str))=false:=by decide) (hcd:(x == ("__classdict__":Str))=false:=by decide):PE X (.Name x pos) (tVar i):=by
  intro pins s σ H Q I h
  obtain⟨v,e,h⟩:=h
  obtain⟨m,hn,hl⟩:=I.loc
  obtain⟨u,r,l⟩:=hl i x v hN e hv
  have fin:EP X pins σ Q u s:=⟨v,H,I,r,h⟩
  rcases l with ⟨hk,hm⟩ | ⟨hk,c,hc,hcell⟩
  · exact wpAny_Name (wpAny_loadName_local I.ok.kind hk hn hm fin) hd
  · rcases hk with hk | hk
    · exact wpAny_Name (wpAny_loadName_cell I.ok.kind hk hc hcell fin) hd
    · exact wpAny_Name (wpAny_loadName_free I.ok.kind hk hc hcell fin hcd) hd
theorem ag {i j pos}:PE X (.Constant (.int i) j pos) (tC (.int i)):=fun _ _ _ H _ I h=>wpAny_Constant_int ⟨.int i,H,I.tok _,⟨_,rfl⟩,h⟩
theorem zb5 {b j pos}:PE X (.Constant (.bool b) j pos) (tC (.bl b)):=fun _ _ _ H _ I h=>Constant_bool ⟨.bl b,H,I,rfl,h⟩
theorem zaV {x j pos}:PE X (.Constant (.str x) j pos) (tC (.str x)):=fun _ _ _ H _ I h=>Calls.Constant_str ⟨.str x,H,I.tok _,⟨_,rfl⟩,h⟩
def Gl (X:Cx) (x:Str):Prop:=X.env.kindOf x=some .globalImplicit
theorem zd7 {E:Value→Shared→Prop} {pins:List (Addr × Obj)} {s:Shared} {σ:St} {H:Hp} {x:Str} {u:Value} {pos:Pos} {Q:Value→Shared→Prop} (I:Inv X pins σ H s) (hg:Gl X x) (hm:X.mg x=some u) (h:Q u s)
    (hd:(x == ("__debug__":Str))=false:=by decide):wpAny (model X.prog X.w) X.A (eval (.Name x pos) X.env) Q E s :=
  Calls.Name_function_global I.ok.kind hg (Calls.loadGlobal_global (by rw[I.ok.glob];exact I.mod.glob.keeps I.bk) hm h) hd
theorem zcI {E:Value→Shared→Prop} {pins:List (Addr × Obj)} {s:Shared} {σ:St} {H:Hp} {x:Str} {u:Value} {pos:Pos} {Q:Value→Shared→Prop} (I:Inv X pins σ H s) (hg:Gl X x) (hm:X.mg x=none) (hv:bootBuiltins x=some u) (h:Q u s)
    (hn:x≠"__name__":=by decide) (hd:(x == ("__debug__":Str))=false:=by decide):wpAny (model X.prog X.w) X.A (eval (.Name x pos) X.env) Q E s:=by
  obtain⟨mb,h1,h2⟩:=I.mod.blt
  exact Calls.Name_function_global I.ok.kind hg (Calls.loadGlobal_builtin (by rw[I.ok.glob];exact I.mod.glob.keeps I.bk) hm (by rw[I.ok.blt];exact h1.keeps I.bk) ((h2 x hn).trans hv) h) hd
theorem zcC {x:Str} {v:V} {u:Value} {pos:Pos} (hg:Gl X x) (hm:X.mg x=some u) (r:ax v u) (hd:(x == ("__debug__":Str))=false:=by decide):PE X (.Name x pos) (tC v) :=
  fun _ _ _ H _ I h=>zd7 I hg hm ⟨v,H,I,r,h⟩ hd
theorem zd6 {x:Str} {v:V} {u:Value} {pos:Pos} (hg:Gl X x) (hm:X.mg x=none) (hv:bootBuiltins x=some u) (r:ax v u) (hn:x≠"__name__":=by decide) (hd:(x == ("__debug__":Str))=false:=by decide):PE X (.Name x pos) (tC v) :=
  fun _ _ _ H _ I h=>zcI I hg hm hv ⟨v,H,I,r,h⟩ hn hd
variable {a b:Expr} {ta tb:TE} {pos:Pos}
def PC (X:Cx) (op:CmpOp) (a b:Expr) (t:TE):Prop :=
  ∀(pins:List (Addr × Obj)) (s:Shared) (σ:St) (H:Hp) (Q:VK),Inv X pins σ H s→t σ H Q →
    wpAny (model X.prog X.w) X.A (eval a X.env) (fun v s₁=>wpAny (model X.prog X.w) X.A (eval b X.env) (fun u s₂=>wpAny (model X.prog X.w) X.A (compareOp op v u) (EP X pins σ Q) X.xe s₂) X.xe s₁) X.xe s
def tB (t:TE):TT:=fun σ H Q=>t σ H fun x H1=>∃ c,x=.bl c∧Q c H1
theorem zfE {op:CmpOp} {t:TE} (h:PC X op a b t) (h1:behindInMarks op b=false:=by first | exact nobehind _ (by decide) (by decide) | rfl):PT X (.Compare a [op] [b] pos) (tB t):=by
  intro pins s σ H Q I hw
  refine wpAny_isTrue_Compare1 (thn (h pins s σ H _ I hw) fun v s1 h1=>thn h1 fun u s2 h2=>thn h2 fun c s3 ⟨x,H1,I1,r1,q1⟩=>?_) h1
  obtain⟨d,rfl,q⟩:=q1
  cases r1
  exact wpAny_truthy_bool ⟨H1,I1,q⟩
theorem zbt {e:Expr} {t:TE} (h:PE X e t) (he:∀ whole,isTrue e X.env whole=(do let v ←whole;standAt e.pos;holding [v] (truthy v)):=by intro _;rfl):PT X e (tB t):=by
  intro pins s σ H Q I hw
  refine isTrue_plain (thn (h pins s σ H _ I hw) fun v s1 ⟨x,H1,I1,r1,q1⟩=>?_) (he _)
  obtain⟨d,rfl,q⟩:=q1
  cases r1
  exact wpAny_truthy_bool ⟨H1,I1,q⟩
variable {tA tB':TT} {zav:List Expr}
def tAnd (t u:TT):TT:=fun σ H Q=>t σ H fun c H1=>if c=true then u σ H1 Q else Q false H1
def tOr (t u:TT):TT:=fun σ H Q=>t σ H fun c H1=>if c=true then Q true H1 else u σ H1 Q
def tNot (t:TT):TT:=fun σ H Q=>t σ H fun c H1=>Q (!c) H1
theorem zcB (ha:PT X a tA):PW X (.BoolOp .And [a] pos) tA:=by
  intro wh pins s σ H Q I h
  refine isTrue_and (thn (ha pins s σ H Q I h) fun c s1 e=>?_)
  cases c with
  | true=>exact isTrue_and_nil e
  | false=>exact e
theorem zd0 (ha:PT X a tA):PW X (.BoolOp .Or [a] pos) tA:=by
  intro wh pins s σ H Q I h
  refine isTrue_or (thn (ha pins s σ H Q I h) fun c s1 e=>?_)
  cases c with
  | false=>exact isTrue_or_nil e
  | true=>exact e
theorem zc1 (ha:PT X a tA) (hb:PW X (.BoolOp .And (b :: zav) pos) tB'):PW X (.BoolOp .And (a :: b :: zav) pos) (tAnd tA tB'):=by
  intro wh pins s σ H Q I h
  refine isTrue_and (thn (ha pins s σ H _ I h) fun c s1 ⟨H1,I1,q1⟩=>?_)
  cases c with
  | true=>exact hb wh pins s1 σ H1 Q I1 q1
  | false=>exact⟨H1,I1,q1⟩
theorem zeg (ha:PT X a tA) (hb:PW X (.BoolOp .Or (b :: zav) pos) tB'):PW X (.BoolOp .Or (a :: b :: zav) pos) (tOr tA tB'):=by
  intro wh pins s σ H Q I h
  refine isTrue_or (thn (ha pins s σ H _ I h) fun c s1 ⟨H1,I1,q1⟩=>?_)
  cases c with
  | true=>exact⟨H1,I1,q1⟩
  | false=>exact hb wh pins s1 σ H1 Q I1 q1
theorem zb7 (ha:PT X a tA):PT X (.UnaryOp .Not a pos) (tNot tA):=by
  intro pins s σ H Q I h
  exact isTrue_not (ha pins s σ H (fun c H1=>Q (!c) H1) I h)
def tAndV (ta tb:TE):TE:=fun σ H Q=>ta σ H fun x H1=>∃ c,x=.bl c∧if c=true then tb σ H1 Q else Q (.bl false) H1
def tNotV (ta:TE):TE:=fun σ H Q=>ta σ H fun x H1=>∃ c,x=.bl c∧Q (.bl (!c)) H1
theorem zgx {op} {t:TE} (h:PE X a t):PE X (.BoolOp op [a] pos) t:=fun pins s σ H Q I hw=>BoolOp_one (h pins s σ H Q I hw)
theorem zfH (ha:PE X a ta) (hb:PE X (.BoolOp .And (b :: zav) pos) tb):PE X (.BoolOp .And (a :: b :: zav) pos) (tAndV ta tb):=by
  intro pins s σ H Q I h
  refine BoolOp_and (thn (ha pins s σ H _ I h) fun v s1 ⟨x,H1,I1,r1,q1⟩=>?_)
  obtain⟨c,rfl,q1⟩:=q1
  cases r1
  refine wpAny_truthy_bool ?_
  cases c with
  | true=>exact hb pins s1 σ H1 Q I1 q1
  | false=>exact⟨.bl false,H1,I1,rfl,q1⟩
theorem pe_not (ha:PE X a ta):PE X (.UnaryOp .Not a pos) (tNotV ta):=by
  intro pins s σ H Q I h
  refine UnaryOp_ (thn (ha pins s σ H _ I h) fun v s1 ⟨x,H1,I1,r1,q1⟩=>?_)
  obtain⟨c,rfl,q1⟩:=q1
  cases r1
  exact not_of (wpAny_truthy_bool ⟨.bl (!c),H1,I1,rfl,q1⟩)
end
end L2
namespace L2
open PySem PySem.Spec PyProof.Rows
def SqL (K:PySem.W.Frag) (H:Hp) (a:Addr) (xs:List V):Prop :=
  Rd H a (.lst xs) ∨
    ∃(o:Obj) (its:Array Value) (n:Nat),K.lookup a=some o∧o.cls=.type "list"∧o.dict=none∧o.data=.seq its n∧its.size≤sizeLine∧aw xs its.toList
def SqT (K:PySem.W.Frag) (H:Hp) (a:Addr) (xs:List V):Prop :=
  Rd H a (.tup xs) ∨
    ∃(o:Obj) (its:Array Value) (n:Nat),K.lookup a=some o∧o.cls=.type "tuple"∧o.data=.seq its n∧its.size≤sizeLine∧aw xs its.toList
def absV:Value→Option V
  | .none=>some .non
  | .bool b=>some (.bl b)
  | .int i _=>some (.int i)
  | .str x _=>some (.str x)
  | .bytes b _=>some (.byt b)
  | .float b _=>some (.flt b)
  | .ref a=>some (.ref a)
  | .type n=>some (.ty n)
  | _=>none
theorem ax.abs {x:V} {u:Value} (r:ax x u):absV u=some x:=by
  cases x with
  | non=>cases r;rfl
  | bl _=>cases r;rfl
  | int _=>obtain⟨t,rfl⟩:=r;rfl
  | str _=>obtain⟨t,rfl⟩:=r;rfl
  | byt _=>obtain⟨t,rfl⟩:=r;rfl
  | flt _=>obtain⟨t,rfl⟩:=r;rfl
  | ref _=>cases r;rfl
  | ty _=>cases r;rfl
theorem ax.inj {x y:V} {u:Value} (r:ax x u) (q:ax y u):x=y:=Option.some.inj (r.abs.symm.trans q.abs)
theorem aw.inj:∀ {xs ys:List V} {us:List Value},aw xs us→aw ys us→xs=ys
  | _,_,_,.nil,.nil=>rfl
  | _,_,_,.cons r t,.cons r' t'=>by rw[r.inj r',aw.inj t t']
section
variable {X:Cx} {pins:List (Addr × Obj)} {σ:St} {H:Hp} {s:Shared} {a:Addr} {xs ys:List V}
theorem SqL.of {K:PySem.W.Frag} (h:H a=some (.lst xs)):SqL K H a xs:=.inl (.inl h)
theorem SqT.of {K:PySem.W.Frag} (h:H a=some (.tup xs)):SqT K H a xs:=.inl (.inl h)
theorem Inv.list (I:Inv X pins σ H s) (h:SqL X.K H a xs):∃ its:List Value,aw xs its∧PlainL s.heap a its.toArray∧xs.length≤sizeLine:=by
  rcases h with h | ⟨o,its,n,hk,hc,hd,hs,hz,r⟩
  · obtain⟨z,its,n,r,e⟩:=h.ok I.hok
    exact⟨its,r,⟨_,n,e,rfl,rfl,rfl⟩,z⟩
  · refine⟨its.toList,r,⟨o,n,I.kIn a o hk,hc,hd,by simpa using hs⟩,?_⟩
    have e:=r.length
    simp only[Array.length_toList]at e
    omega
theorem Inv.tuple (I:Inv X pins σ H s) (h:SqT X.K H a xs):∃ its:List Value,aw xs its∧IsTup s.heap a its.toArray∧xs.length≤sizeLine:=by
  rcases h with h | ⟨o,its,n,hk,hc,hs,hz,r⟩
  · obtain⟨z,its,r,p⟩:=h.ok I.hok
    exact⟨its,r,p,z⟩
  · refine⟨its.toList,r,⟨o,I.kIn a o hk,hc,n,by simpa using hs⟩,?_⟩
    have e:=r.length
    simp only[Array.length_toList]at e
    omega
theorem Inv.list_inj (I:Inv X pins σ H s) (h:SqL X.K H a xs) (h':SqL X.K H a ys):xs=ys:=by
  obtain⟨its,r,⟨o,n,e,_,_,d⟩,_⟩:=I.list h
  obtain⟨its',r',⟨o',n',e',_,_,d'⟩,_⟩:=I.list h'
  rw[e]at e';cases e'
  rw[d]at d'
  injection d' with d1 _
  have:its=its':=by simpa using congrArg Array.toList d1
  subst this
  exact r.inj r'
theorem Inv.tuple_inj (I:Inv X pins σ H s) (h:SqT X.K H a xs) (h':SqT X.K H a ys):xs=ys:=by
  obtain⟨its,r,⟨o,e,_,n,d⟩,_⟩:=I.tuple h
  obtain⟨its',r',⟨o',e',_,n',d'⟩,_⟩:=I.tuple h'
  rw[e]at e';cases e'
  rw[d]at d'
  injection d' with d1 _
  have:its=its':=by simpa using congrArg Array.toList d1
  subst this
  exact r.inj r'
end
abbrev Cx.wish (X:Cx) (E:Value→Shared→Prop):Cx:={ X with xe:=E }
abbrev Cx.nox (X:Cx):Cx:=X.wish fun _ _=>False
theorem Cx.Ok.wish {X:Cx} (ok:X.Ok) (E:Value→Shared→Prop):(X.wish E).Ok :=
  ⟨ok.mod,ok.kind,ok.glob,ok.blt,ok.above,ok.inj,ok.has,ok.cab,ok.hd,ok.frames,ok.stk,ok.exf,ok.bs,ok.bsz,ok.noex,ok.exfs,ok.funs,ok.frf⟩
theorem Cx.Ok.unwish {X:Cx} {E:Value→Shared→Prop} (ok:(X.wish E).Ok):X.Ok :=
  ⟨ok.mod,ok.kind,ok.glob,ok.blt,ok.above,ok.inj,ok.has,ok.cab,ok.hd,ok.frames,ok.stk,ok.exf,ok.bs,ok.bsz,ok.noex,ok.exfs,ok.funs,ok.frf⟩
section
variable {X:Cx} {pins:List (Addr × Obj)} {σ:St} {H:Hp} {s:Shared} {E:Value→Shared→Prop}
theorem Inv.wish (I:Inv X pins σ H s) (E:Value→Shared→Prop):Inv (X.wish E) pins σ H s:=⟨I.ok.wish E,I.os,I.bare,I.base,I.loc,I.cell,I.free,I.freeC,I.pin,I.hok,I.len⟩
theorem Inv.unwish (I:Inv (X.wish E) pins σ H s):Inv X pins σ H s:=⟨I.ok.unwish,I.os,I.bare,I.base,I.loc,I.cell,I.free,I.freeC,I.pin,I.hok,I.len⟩
theorem SP.unwish {D:zbO} {f:Flow} {s':Shared} (h:SP (X.wish E) pins D f s'):SP X pins D f s':=by
  cases f with
  | next=>obtain⟨σ',H',I,q⟩:=h;exact⟨σ',H',I.unwish,q⟩
  | brk=>obtain⟨σ',H',I,q⟩:=h;exact⟨σ',H',I.unwish,q⟩
  | cont=>obtain⟨σ',H',I,q⟩:=h;exact⟨σ',H',I.unwish,q⟩
  | ret u=>obtain⟨v,σ',H',I,r,q⟩:=h;exact⟨v,σ',H',I.unwish,r,q⟩
theorem PSs.nox {st:List Stmt} {t:TS} (h:PSs X.nox st t):PSs X st t:=fun pins s σ H D I hw =>
  wpAny_mono (h pins s σ H D (I.wish _) hw) (fun _ _ q=>q.unwish) fun _ _ z=>False.elim z
end
section
variable {X:Cx} {st:Stmt} {zav:List Stmt} {t u:TS} {e:Expr} {te:TE} {pos:Pos}
def tNext:TS:=fun D σ H=>D.nx σ H
def tSeq (t u:TS):TS:=fun D σ H=>t { D with nx:=u D } σ H
theorem zaq:PSs X [] tNext:=fun _ _ σ H _ I h=>wpAny_execs_nil ⟨σ,H,I,h⟩
theorem af (h1:PS X st t) (h2:PSs X zav u):PSs X (st :: zav) (tSeq t u):=by
  intro pins s σ H D I h
  refine wpAny_execs_cons (thn (h1 pins s σ H { D with nx:=u D } I h) fun f s1 q=>?_)
  cases f with
  | next =>
    obtain⟨σ',H',I',q⟩:=q
    exact h2 pins s1 σ' H' D I' q
  | ret v=>exact q
  | brk=>exact q
  | cont=>exact q
theorem ak (h1:PS X st t):PSs X [st] t:=by
  intro pins s σ H D I h
  refine wpAny_execs_cons (thn (h1 pins s σ H D I h) fun f s1 q=>?_)
  cases f with
  | next=>exact wpAny_execs_nil q
  | ret v=>exact q
  | brk=>exact q
  | cont=>exact q
theorem Inv.quiet {pins:List (Addr × Obj)} {σ:St} {H:Hp} {s:Shared} (I:Inv X pins σ H s):interactive X.env=false:=by simp [interactive,I.ok.kind]
def tDrop (te:TE):TS:=fun D σ H=>te σ H fun _ H1=>D.nx σ H1
theorem zaZ (he:PE X e te) (hs:swapsWith e none pos.line X.env=pure false:=by rfl):PS X (.Expr e pos) (tDrop te):=by
  intro pins s σ H D I h
  exact wpAny_Expr_any (thn (he pins s σ H _ I h) fun v s1 ⟨x,H1,I1,r1,q1⟩=>⟨σ,H1,I1,q1⟩) I.quiet hs
def tRet (te:TE):TS:=fun D σ H=>te σ H D.rt
theorem zaj (he:PE X e te):PS X (.Return (some e) pos) (tRet te):=by
  intro pins s σ H D I h
  exact wpAny_Return_some (thn (he pins s σ H _ I h) fun v s1 ⟨x,H1,I1,r1,q1⟩=>⟨x,σ,H1,I1,r1,q1⟩)
def tRetN:TS:=fun D _ H=>D.rt .non H
theorem zjq:PS X (.Return none pos) tRetN:=fun _ _ σ H _ I h=>wpAny_Return_none ⟨.non,σ,H,I,rfl,h⟩
def tIfS (c:TT) (t u:TS):TS:=fun D σ H=>c σ H fun b H1=>if b=true then t D σ H1 else u D σ H1
theorem zaA {c:Expr} {a b:List Stmt} {tc:TT} (hc:PT X c tc) (ha:PSs X a t) (hb:PSs X b u):PS X (.If c a b pos) (tIfS tc t u):=by
  intro pins s σ H D I h
  refine wpAny_If (thn (hc pins s σ H _ I h) fun d s1 ⟨H1,I1,q1⟩=>?_)
  cases d with
  | true=>exact ha pins s1 σ H1 D I1 q1
  | false=>exact hb pins s1 σ H1 D I1 q1
def tNever:TS:=fun _ _ _=>False
end
abbrev TG:=V→St→Hp→(St→Hp→Prop)→Prop
abbrev TGs:=List V→St→Hp→(St→Hp→Prop)→Prop
def PG (X:Cx) (target:Expr) (t:TG):Prop :=
  ∀(pins:List (Addr × Obj)) (s:Shared) (σ:St) (H:Hp) (v:V) (u:Value) (Q:St→Hp→Prop),Inv X pins σ H s→ax v u→t v σ H Q →
    wpAny (model X.prog X.w) X.A (assign target X.env u) (fun _ s'=>∃ σ' H',Inv X pins σ' H' s'∧Q σ' H') X.xe s
def PGs (X:Cx) (ts:List Expr) (t:TGs):Prop :=
  ∀(pins:List (Addr × Obj)) (s:Shared) (σ:St) (H:Hp) (vs:List V) (us:List Value) (Q:St→Hp→Prop),Inv X pins σ H s→aw vs us→t vs σ H Q →
    wpAny (model X.prog X.w) X.A (assignInOrder ((assignEach ts X.env).map (·.2)) us) (fun _ s'=>∃ σ' H',Inv X pins σ' H' s'∧Q σ' H') X.xe s
abbrev TSet:=V→V→V→Hp→(Hp→Prop)→Prop
def PSet (X:Cx) (t:TSet):Prop :=
  ∀(pins:List (Addr × Obj)) (s:Shared) (σ:St) (H:Hp) (o i v:V) (ov iv u:Value) (Q:Hp→Prop),Inv X pins σ H s→ax o ov→ax i iv→ax v u→t o i v H Q →
    wpAny (model X.prog X.w) X.A (setItem ov iv u) (fun _ s'=>∃ H',Inv X pins σ H' s'∧Q H') X.xe s
section
variable {X:Cx} {pos:Pos}
def zde (i:Nat):TG:=fun v σ H Q=>Q (σ.set i (some v)) H
theorem zan {i:Nat} {x:Str} (hN:X.N.Nodup) (hi:X.N[i]?=some x) (hx:Loc X.env.scope x) (hf:X.fn x=true∨X.env.scope.names.lookup x=some .local:=by first | exact .inl rfl | exact .inr rfl | assumption):PG X (.Name x pos) (zde i):=by
  intro pins s σ H v u Q I r h
  exact wpAny_assign_Name (zdv I hN hi hx r (fun s' I'=>⟨_,H,I',h⟩) hf)
def gNil:TGs:=fun vs σ H Q=>vs=[]∧Q σ H
def gCons (t:TG) (u:TGs):TGs:=fun vs σ H Q=>∃ v r,vs=v :: r∧t v σ H fun σ' H'=>u r σ' H' Q
theorem zcb:PGs X [] gNil:=by
  intro pins s σ H vs us Q I r h
  obtain⟨e,h⟩:=h
  subst e
  cases r
  exact assignInOrder_nil ⟨σ,H,I,h⟩
theorem zaM {e:Expr} {es:List Expr} {t:TG} {u:TGs} (h1:PG X e t) (h2:PGs X es u)
    (hs:(assignEach (e :: es) X.env).map (·.2)=assign e X.env :: (assignEach es X.env).map (·.2):=by rfl):PGs X (e :: es) (gCons t u):=by
  intro pins s σ H vs us Q I r h
  obtain⟨v,vr,e1,h⟩:=h
  subst e1
  cases r with
  | cons r rr =>
    rw[hs]
    refine assignInOrder_cons (thn (h1 pins s σ H _ _ _ I r h) fun _ s1 ⟨σ1,H1,I1,q1⟩=>?_)
    exact h2 pins s1 σ1 H1 _ _ Q I1 rr q1
def gTup (K:PySem.W.Frag) (n:Nat) (t:TGs):TG:=fun v σ H Q=>∃ a xs,v=.ref a∧SqT K H a xs∧xs.length=n∧t xs σ H Q
theorem zdp {es:List Expr} {k:Nat} {t:TGs} {n:Nat} (hc:X.calm=true) (h:PGs X es t)
    (hn:(assignEach es X.env).length=n:=by rfl) (hst:(assignEach es X.env).findIdx? (·.1)=none:=by rfl):PG X (.Tuple es k pos) (gTup X.K n t):=by
  intro pins s σ H v u Q I r hw
  obtain⟨a,xs,e1,hq,hl,hw⟩:=hw
  subst e1
  cases r
  obtain⟨its,rv,ht,hz⟩:=I.tuple hq
  refine assign_Tuple_tuple (I.ok.hd hc) ht (by simp [hn,←hl,rv.length]) hst fun h' hx=>?_
  have I1:Inv X pins σ H { s with heap:=h' }:=I.kept (t':=s.toks) fun b o e=>hx b o (Nat.ne_of_lt (Heap.lt_size e)) e
  exact h pins _ σ H xs _ Q I1 (by simpa using rv) hw
def gSub (to ti:TE) (t:TSet):TG:=fun v σ H Q=>to σ H fun o H1=>ti σ H1 fun i H2=>t o i v H2 fun H3=>Q σ H3
theorem pg_sub {o i:Expr} {to ti:TE} {t:TSet} (ho:PE X o to) (hi:PE X i ti) (hs:PSet X t)
    (ha:∀ v,assign (.Subscript o i pos) X.env v=(do
      let ov ←holding [v] (eval o X.env)
      let iv ←holding [v,ov] (eval i X.env)
      standAt pos
      holding [v,ov,iv] (setItem ov iv v)
      release [v,ov,iv] []):=by intro _;rfl):PG X (.Subscript o i pos) (gSub to ti t):=by
  intro pins s σ H v u Q I r h
  rw[ha]
  refine wpAny_bind (wpAny_holding (thn (ho pins s σ H _ I h) fun ov s1 ⟨x,H1,I1,r1,q1⟩=>?_))
  refine wpAny_bind (wpAny_holding (thn (hi pins s1 σ H1 _ I1 q1) fun iv s2 ⟨y,H2,I2,r2,q2⟩=>?_))
  refine wpAny_bind (wpAny_standAt (wpAny_bind (wpAny_holding (thn (hs pins s2 σ H2 x y v ov iv u _ I2 r1 r2 r q2) fun _ s3 ⟨H3,I3,q3⟩=>?_))))
  exact wpAny_release ⟨σ,H3,I3,q3⟩
def tAsg (te:TE) (g:TG):TS:=fun D σ H=>te σ H fun x H1=>g x σ H1 D.nx
theorem zfF {tg e:Expr} {te:TE} {g:TG} (he:PE X e te) (hg:PG X tg g) (hs:swapsWithSole [tg] e pos.line X.env=pure false:=by rfl) (hw:swappedStores [tg] e X.env=pure none:=by rfl)
    (h1:(assignEach [tg] X.env).map (·.2)=[assign tg X.env]:=by rfl):PS X (.Assign [tg] e pos) (tAsg te g):=by
  intro pins s σ H D I h
  refine wpAny_Assign_stores (thn (he pins s σ H _ I h) fun v s1 ⟨x,H1,I1,r1,q1⟩=>?_) hs hw
  rw[h1]
  exact thn (hg pins s1 σ H1 x v _ I1 r1 q1) fun _ s2 q=>q
theorem aq {i:Nat} {x:Str} {e:Expr} {te:TE} {pos':Pos} (hN:X.N.Nodup) (hi:X.N[i]?=some x) (hx:Loc X.env.scope x) (he:PE X e te) (hs:swapsWith e (some (.Name x pos')) pos.line X.env=pure false:=by rfl) (hf:X.fn x=true∨X.env.scope.names.lookup x=some .local:=by first | exact .inl rfl | exact .inr rfl | assumption) :
    PS X (.Assign [.Name x pos'] e pos) (tAsg te (zde i)):=by
  intro pins s σ H D I h
  refine wpAny_Assign_Name (thn (he pins s σ H _ I h) fun v s1 ⟨y,H1,I1,r1,q1⟩=>?_) hs
  exact zdv I1 hN hi hx r1 (fun s2 I2=>⟨_,H1,I2,q1⟩) hf
def tPar (i j:Nat) (ta:TA):TS:=fun D σ H=>ta σ H fun vs H1=>∃ v w,vs=[v,w]∧D.nx ((σ.set i (some v)).set j (some w)) H1
theorem ps_par {i j:Nat} {x y:Str} {a b:Expr} {ta:TA} {px py pt:Pos} {kt k2 pt2} (hc:X.calm=true) (hN:X.N.Nodup) (hi:X.N[i]?=some x) (hj:X.N[j]?=some y) (hij:i≠j)
    (hx:X.env.scope.names.lookup x=some .local) (hy:X.env.scope.names.lookup y=some .local) (ha:PA X [a,b] ta)
    (hw:swappedStores [.Tuple [.Name x px,.Name y py] kt pt] (.Tuple [a,b] k2 pt2) X.env=pure (some [x,y]))
    (hs:swapsWithSole [.Tuple [.Name x px,.Name y py] kt pt] (.Tuple [a,b] k2 pt2) pos.line X.env=pure false:=by rfl) :
    PS X (.Assign [.Tuple [.Name x px,.Name y py] kt pt] (.Tuple [a,b] k2 pt2) pos) (tPar i j ta):=by
  intro pins s σ H D I h
  rw[exec_Assign_arm]
  refine wpAny_bind (wpAny_standAt ?_)
  rw[hs]
  refine wpAny_bind (wpAny_pure ?_)
  rw[if_neg (by decide)]
  refine wpAny_bind (Tuple_ (thn (ha _ pins s σ H _ I h) fun us s1 ⟨vs,H1,I1,r1,q1⟩=>?_))
  obtain⟨v,w,e1,q1⟩:=q1
  subst e1
  obtain⟨u1,u2,rfl,rv,rw'⟩:∃ u1 u2,us=[u1,u2]∧ax v u1∧ax w u2:=by
    cases r1 with
    | cons p q =>
      cases q with
      | cons p' q' =>
        cases q'
        exact⟨_,_,rfl,p,p'⟩
  refine wpAny_newObj_type ?_ (by show 2≤sizeLine;decide)
  have I2:Inv X pins σ H1 { s1 with heap:=s1.heap.push { cls:=.type "tuple",data:=.seq [u1,u2].toArray } }:=I1.kept (t':=s1.toks) fun b o e=>Heap.get?_push_of_some _ e
  rw[hw]
  refine wpAny_bind (wpAny_pure ?_)
  show wpAny (model X.prog X.w) X.A (do rule "assign.swapped-stores";let items ←unpackItems (.ref s1.heap.objs.size) 2 none;assignInOrder [fun v=>bindName X.env y v,fun v=>bindName X.env x v] items.reverse;pure Flow.next) _ _ _
  refine wpAny_bind (wpAny_rule (wpAny_bind (unpackItems_tuple (items:=#[u1,u2]) (I.ok.hd hc) (IsTup.new s1.heap _) fun h' hx'=>?_)))
  have I3:=I2.kept (h':=h') (t':=s1.toks) fun b o e=>hx' b o (Nat.ne_of_lt (Heap.lt_size e)) e
  show wpAny _ _ (assignInOrder [fun v=>bindName X.env y v,fun v=>bindName X.env x v] [u2,u1] >>= fun _=>pure Flow.next) _ _ _
  refine wpAny_bind (assignInOrder_cons (wpAny_bindName (zdv I3 hN hj (.inl hy) rw' (fun s2 I4=>?_) (.inr hy))))
  refine assignInOrder_cons (wpAny_bindName (zdv I4 hN hi (.inl hx) rv (fun s3 I5=>assignInOrder_nil (wpAny_pure ?_)) (.inr hx)))
  rw[List.set_comm _ _ (Ne.symm hij)]at I5
  exact⟨_,H1,I5,q1⟩
end
section
variable {X:Cx} {pos:Pos}
def tWhile (c:TT) (tb:TS):TS:=fun D σ H=>∃ W:Nat→St→Hp→Prop,(∃ m,W m σ H)∧∀ m σ H,W m σ H →
  c σ H fun b H1=>if b=true then ∃ N:St→Hp→Prop,(∀ σ' H',N σ' H'→∃ m',m' < m∧W m' σ' H')∧tb { D with nx:=N,ct:=N,bk:=D.nx } σ H1 else D.nx σ H1
theorem zdz {c:Expr} {body:List Stmt} {tc:TT} {tb:TS} (hp:PassesOwn (model X.prog X.w) X.A X.env X.xe) (hc:PT X c tc) (hb:PSs X body tb):PS X (.While c body [] pos) (tWhile tc tb):=by
  intro pins s σ H D I h
  obtain⟨W,⟨m0,w0⟩,turn⟩:=h
  refine wpAny_While (codeAny_whileLoop (fun n s'=>∃ σ' H',Inv X pins σ' H' s'∧W n σ' H') ?_ m0 ⟨σ,H,I,w0⟩)
  rintro n s1 ⟨σ1,H1,I1,w1⟩
  refine wpAny_passesOwn hp (thn (hc pins s1 σ1 H1 _ I1 (turn n σ1 H1 w1)) fun b s2 ⟨H2,I2,q2⟩=>?_)
  cases b with
  | true =>
    obtain⟨N,hN,q2⟩:=q2
    rw[if_pos rfl]
    refine wpAny_passesOwn hp (thn (hb pins s2 σ1 H2 _ I2 q2) fun f s3 q3=>?_)
    cases f with
    | next =>
      obtain⟨σ3,H3,I3,n3⟩:=q3
      obtain⟨m',hm,w3⟩:=hN σ3 H3 n3
      exact⟨m',hm,σ3,H3,I3,w3⟩
    | cont =>
      obtain⟨σ3,H3,I3,n3⟩:=q3
      obtain⟨m',hm,w3⟩:=hN σ3 H3 n3
      exact⟨m',hm,σ3,H3,I3,w3⟩
    | brk=>exact q3
    | ret v=>exact q3
  | false =>
    rw[if_neg Bool.false_ne_true]
    exact wpAny_execs_nil ⟨σ1,H2,I2,q2⟩
end
structure It where
  go:Nat→Hp→Prop
  yld:Nat→Hp→V→Hp→Prop
  stop:Nat→Hp→Prop
def zbl (X:Cx) (pins:List (Addr × Obj)) (H:Hp) (b:Addr):Prop :=
  H b=none∧b≠X.env.locals∧b∉X.fs∧(b∈X.ex∨X.s₀.heap.objs.size≤b)∧(∀ x c,X.env.cells.lookup x=some c→c≠b)∧∀ p∈X.pn++pins,p.1≠b
theorem Inv.fpOk {X:Cx} {pins:List (Addr × Obj)} {σ:St} {H H':Hp} {s:Shared} {b:Addr} (I:Inv X pins σ H s) (hb:s.heap.objs.size≤b) (hn:H' b=none):zbl X pins H' b:=by
  refine⟨hn,Nat.ne_of_gt (Nat.lt_of_lt_of_le I.lt hb),I.nofs hb,.inr (Nat.le_trans I.sz hb),fun x c e z=>?_,fun p hp z=>?_⟩
  · obtain⟨v,q⟩:=I.cell x c e
    exact absurd (Nat.lt_of_lt_of_le q.lt (by rw[z];exact hb)) (Nat.lt_irrefl _)
  · exact absurd (Nat.lt_of_lt_of_le (Heap.lt_size (I.pin p hp).1) (by rw[z];exact hb)) (Nat.lt_irrefl _)
structure Turn (P:Program) (w:World) (K:PySem.W.Frag) (tg:Expr) (J:It) (fp:List Addr) (it:Addr) (tn:Nat→Heap→Prop):Prop where
  mem:it∈fp
  obj:∀ i h,tn i h→∀ b∈fp,∃ o,h.get? b=some o∧∀ v,o.data≠.cell v
  keep:∀ i h h',tn i h→(∀ b∈fp,∀ o,h.get? b=some o→h'.get? b=some o)→tn i h'
  item:∀(X:Cx),X.prog=P→X.w=w→X.K=K→X.calm=true→∀(i:Nat) (pins:List (Addr × Obj)) (s:Shared) (σ:St) (H:Hp) (E:Value→Shared→Prop),Inv X pins σ H s→(∀ b∈fp,zbl X pins H b)→tn i s.heap→J.go i H →
    wpAny (model P w) X.A (pyNext (.ref it)) (fun r s1=>∃ u,r=some u ∧
      wpAny (model P w) X.A (letOwnedTupleGo tg (.ref it) u) (fun _ s2=>∃ x H',Inv X pins σ H' s2∧ax x u∧J.yld i H x H'∧tn (i+1) s2.heap∧∀ b∈fp,H' b=none) E s1) E s
  done:∀(X:Cx),X.prog=P→X.w=w→X.K=K→X.calm=true→∀(i:Nat) (pins:List (Addr × Obj)) (s:Shared) (σ:St) (H:Hp) (E:Value→Shared→Prop),Inv X pins σ H s→(∀ b∈fp,zbl X pins H b)→tn i s.heap→J.stop i H →
    wpAny (model P w) X.A (pyNext (.ref it)) (fun r s1=>r=none∧Inv X pins σ H s1) E s
  self:∀(A:Around) (i:Nat) (s:Shared) (Q:Value→Shared→Prop) (E:Value→Shared→Prop),tn i s.heap→Q (.ref it) s→wpAny (model P w) A (pyIter (.ref it)) Q E s
abbrev TI:=St→Hp→(It→Hp→Prop)→Prop
def PIE (X:Cx) (pins:List (Addr × Obj)) (σ:St) (tg:Expr) (R:It→Hp→Prop) (itv:Value) (s2:Shared):Prop :=
  ∃(it:Addr) (fp:List Addr) (tn:Nat→Heap→Prop) (J:It) (H':Hp),itv=.ref it∧Inv X pins σ H' s2∧Turn X.prog X.w X.K tg J fp it tn∧tn 0 s2.heap∧(∀ b∈fp,zbl X pins H' b)∧R J H'
def PI (X:Cx) (tg iter:Expr) (wi:TI):Prop :=
  ∀(pins:List (Addr × Obj)) (s:Shared) (σ:St) (H:Hp) (R:It→Hp→Prop),Inv X pins σ H s→wi σ H R →
    wpAny (model X.prog X.w) X.A (eval iter X.env) (fun v s1=>wpAny (model X.prog X.w) X.A (pyIter v) (PIE X pins σ tg R) X.xe s1) X.xe s
theorem zhq {M:Model} {A:Around} {E:Value→Shared→Prop} {s:Shared} {tg:Expr} {it:Addr} {u:Value} {o:Obj} {n:String} {vs:Array Value} {Q:Unit→Shared→Prop} (ho:s.heap.get? it=some o) (hc:o.cls=.type n) (hd:o.data=.fields vs)
    (hn:["enumerate","zip","dict_itemiterator","dict_reverseitemiterator","odict_iterator","itertools.zip_longest","itertools.pairwise"].contains n=false) (hQ:Q () s):wpAny M A (letOwnedTupleGo tg (.ref it) u) Q E s:=by
  unfold letOwnedTupleGo
  cases tg <;> first
    | exact wpAny_pure hQ
    | (cases u <;> first
        | exact wpAny_pure hQ
        | (refine wpAny_bind (wpAny_load ho ?_)
           rw[hc,hd]
           show wpAny M A (if(["enumerate","zip","dict_itemiterator","dict_reverseitemiterator","odict_iterator","itertools.zip_longest","itertools.pairwise"].contains n&&vs[0]? == some (rawInt _))=true then _ else _) Q E s
           rw[if_neg (by intro h;rw[hn,Bool.false_and]at h;cases h)]
           exact wpAny_pure hQ))
def Itl (K:PySem.W.Frag) (a:Addr):It :=
  ⟨fun i H=>∃ xs x,SqL K H a xs∧xs[i]?=some x,fun i H x H'=>H'=H∧∀ xs,SqL K H a xs→xs[i]?=some x,fun i H=>∃ xs,SqL K H a xs∧xs.length≤i⟩
def Itt (K:PySem.W.Frag) (a:Addr):It :=
  ⟨fun i H=>∃ xs x,SqT K H a xs∧xs[i]?=some x,fun i H x H'=>H'=H∧∀ xs,SqT K H a xs→xs[i]?=some x,fun i H=>∃ xs,SqT K H a xs∧xs.length≤i⟩
def Itr (lo:Int) (n:Nat):It:=⟨fun i _=>i < n,fun i H x H'=>H'=H∧x=.int (lo+i),fun i _=>n≤i⟩
theorem zh7 {P:Program} {w:World} {K:PySem.W.Frag} {tg:Expr} (a it:Addr):Turn P w K tg (Itl K a) [it] it (fun i h=>h.IsListIter it a i) where
  mem:=by simp
  obj:=fun i h st b hb=>by
    have e:b=it:=by simpa using hb
    subst e
    obtain⟨o,e,c,d⟩:=st
    exact⟨o,e,fun v z=>by rw[d]at z;cases z⟩
  keep:=fun i h h' st k=>st.at fun o e=>k it (by simp) o e
  item:=by
    intro X hP hw hK hc i pins s σ H E I hf st hg
    subst hP hw hK
    obtain⟨xs,x,hq,hx⟩:=hg
    obtain⟨its,rv,p,hz⟩:=I.list hq
    obtain⟨u,hu,ru⟩:=rv.get hx
    obtain⟨f0,f1,f2,f3,f4,f5⟩:=hf it (by simp)
    refine wpAny_pyNext_list_item st p.isList (x:=u) (by simpa using hu) fun h' st' sb=>?_
    have I1:Inv X pins σ H { s with heap:=h' }:=I.turned (t':=s.toks) (fun b o hb e=>(sb.2 b hb).trans e) f0 f1 f3 f4 f5
    obtain⟨o,e,c,d⟩:=id st'
    exact⟨u,rfl,zhq (s:={ s with heap:=h' }) e c d (by decide) ⟨x,H,I1,ru,⟨rfl,fun ys hy=>by rw[I.list_inj hy hq];exact hx⟩,st',fun b hb=>(hf b hb).1⟩⟩
  done:=by
    intro X hP hw hK hc i pins s σ H E I hf st hg
    subst hP hw hK
    obtain⟨xs,hq,hx⟩:=hg
    obtain⟨its,rv,p,hz⟩:=I.list hq
    obtain⟨f0,f1,f2,f3,f4,f5⟩:=hf it (by simp)
    have hl:=rv.length
    exact wpAny_pyNext_list_end (I.ok.hd hc) st p.isList (by simp;omega) fun h' eb=>⟨rfl,I.turned (t':=s.toks) (fun b o hb e=>eb b o hb e) f0 f1 f3 f4 f5⟩
  self:=fun _ _ _ _ _ st h=>wpAny_pyIter_listiter st h
theorem zhs {P:Program} {w:World} {K:PySem.W.Frag} {tg:Expr} (a it:Addr):Turn P w K tg (Itt K a) [it] it (fun i h=>h.IsTupleIter it a i) where
  mem:=by simp
  obj:=fun i h st b hb=>by
    have e:b=it:=by simpa using hb
    subst e
    obtain⟨o,e,c,d⟩:=st
    exact⟨o,e,fun v z=>by rw[d]at z;cases z⟩
  keep:=fun i h h' st k=>st.at fun o e=>k it (by simp) o e
  item:=by
    intro X hP hw hK hc i pins s σ H E I hf st hg
    subst hP hw hK
    obtain⟨xs,x,hq,hx⟩:=hg
    obtain⟨its,rv,p,hz⟩:=I.tuple hq
    obtain⟨u,hu,ru⟩:=rv.get hx
    obtain⟨f0,f1,f2,f3,f4,f5⟩:=hf it (by simp)
    refine wpAny_pyNext_tuple_item st (show s.heap.IsTuple a its.toArray from p) (x:=u) (by simpa using hu) fun h' st' sb=>?_
    have I1:Inv X pins σ H { s with heap:=h' }:=I.turned (t':=s.toks) (fun b o hb e=>(sb.2 b hb).trans e) f0 f1 f3 f4 f5
    obtain⟨o,e,c,d⟩:=id st'
    exact⟨u,rfl,zhq (s:={ s with heap:=h' }) e c d (by decide) ⟨x,H,I1,ru,⟨rfl,fun ys hy=>by rw[I.tuple_inj hy hq];exact hx⟩,st',fun b hb=>(hf b hb).1⟩⟩
  done:=by
    intro X hP hw hK hc i pins s σ H E I hf st hg
    subst hP hw hK
    obtain⟨xs,hq,hx⟩:=hg
    obtain⟨its,rv,p,hz⟩:=I.tuple hq
    obtain⟨f0,f1,f2,f3,f4,f5⟩:=hf it (by simp)
    have hl:=rv.length
    exact wpAny_pyNext_tuple_end (I.ok.hd hc) st (show s.heap.IsTuple a its.toArray from p) (by simp;omega) fun h' eb=>⟨rfl,I.turned (t':=s.toks) (fun b o hb e=>eb b o hb e) f0 f1 f3 f4 f5⟩
  self:=fun _ _ _ _ _ st h=>wpAny_pyIter_tupleiter st h
theorem zht {P:Program} {w:World} {K:PySem.W.Frag} {tg:Expr} (it:Addr) (lo:Int) (n:Nat):Turn P w K tg (Itr lo n) [it] it (fun i h=>IsRangeIter h it (lo+(i:Nat) * 1) ((n:Int) - (i:Nat)) 1) where
  mem:=by simp
  obj:=fun i h st b hb=>by
    have e:b=it:=by simpa using hb
    subst e
    exact⟨_,st,fun v z=>by
      have z':Data.fields _=Data.cell v:=z
      cases z'⟩
  keep:=fun i h h' st k=>k it (by simp) _ st
  item:=by
    intro X hP hw hK hc i pins s σ H E I hf st hg
    subst hP hw hK
    obtain⟨f0,f1,f2,f3,f4,f5⟩:=hf it (by simp)
    have W:=Walks.range (prog:=X.prog) (w:=X.w) (I.ok.hd hc) it lo 1 n
    refine W.item i s _ _ hg st fun v h' tk hv st' kk=>?_
    obtain⟨t,rfl⟩:=hv
    have I1:Inv X pins σ H { s with heap:=h',toks:=tk }:=I.turned (fun b o hb e=>kk b o (by simpa using hb) e) f0 f1 f3 f4 f5
    refine⟨_,rfl,zhq (s:={ s with heap:=h',toks:=tk }) (n:="range_iterator") st' rfl rfl (by decide) ⟨.int (lo+i),H,I1,⟨t,?_⟩,⟨rfl,rfl⟩,st',fun b hb=>(hf b hb).1⟩⟩
    rw[Int.mul_one]
  done:=by
    intro X hP hw hK hc i pins s σ H E I hf st hg
    subst hP hw hK
    obtain⟨f0,f1,f2,f3,f4,f5⟩:=hf it (by simp)
    exact wpAny_pyNext_range_end (I.ok.hd hc) st (by have:n≤i:=hg;omega) fun h' eb=>⟨rfl,I.turned (t':=s.toks) (fun b o hb e=>eb b o hb e) f0 f1 f3 f4 f5⟩
  self:=fun _ _ _ _ _ st h=>wpAny_pyIter_rangeiter st h
end L2
namespace L2
open PySem PySem.Spec PyProof.Rows
section
variable {X:Cx} {tg:Expr}
def iList (K:PySem.W.Frag) (tl:TE):TI:=fun σ H R=>tl σ H fun x H1=>∃ a,x=.ref a∧(∃ xs,SqL K H1 a xs)∧R (Itl K a) H1
def iTup (K:PySem.W.Frag) (tl:TE):TI:=fun σ H R=>tl σ H fun x H1=>∃ a,x=.ref a∧(∃ xs,SqT K H1 a xs)∧R (Itt K a) H1
theorem zbw {l:Expr} {tl:TE} (hl:PE X l tl):PI X tg l (iList X.K tl):=by
  intro pins s σ H R I h
  refine thn (hl pins s σ H _ I h) fun v s1 ⟨x,H1,I1,r1,q1⟩=>?_
  obtain⟨a,e,⟨xs,hq⟩,q⟩:=q1
  subst e
  cases r1
  obtain⟨its,rv,p,hz⟩:=I1.list hq
  refine wpAny_pyIter_list p.isList ?_
  refine⟨s1.heap.objs.size,[s1.heap.objs.size],_,_,H1,rfl,I1.kept (t':=s1.toks) fun b o e=>Heap.get?_push_of_some _ e,zh7 a _,⟨_,Heap.get?_push_size _ rfl,rfl,rfl⟩,fun b hb=>?_,q⟩
  have e:b=s1.heap.objs.size:=by simpa using hb
  subst e
  exact I1.fpOk (Nat.le_refl _) (I1.hok.fresh (Nat.le_refl _))
theorem zfG {l:Expr} {tl:TE} (hl:PE X l tl):PI X tg l (iTup X.K tl):=by
  intro pins s σ H R I h
  refine thn (hl pins s σ H _ I h) fun v s1 ⟨x,H1,I1,r1,q1⟩=>?_
  obtain⟨a,e,⟨xs,hq⟩,q⟩:=q1
  subst e
  cases r1
  obtain⟨its,rv,p,hz⟩:=I1.tuple hq
  refine wpAny_pyIter_tuple (show s1.heap.IsTuple a its.toArray from p) ?_
  refine⟨s1.heap.objs.size,[s1.heap.objs.size],_,_,H1,rfl,I1.kept (t':=s1.toks) fun b o e=>Heap.get?_push_of_some _ e,zhs a _,⟨_,Heap.get?_push_size _ rfl,rfl,rfl⟩,fun b hb=>?_,q⟩
  have e:b=s1.heap.objs.size:=by simpa using hb
  subst e
  exact I1.fpOk (Nat.le_refl _) (I1.hok.fresh (Nat.le_refl _))
theorem ziD {pins:List (Addr × Obj)} {σ:St} {H:Hp} {s:Shared} {R:It→Hp→Prop} {E:Value→Shared→Prop} {lo hi:Int} {t u v:Tok} {tk:Nat} (I:Inv X pins σ H s) (h1:-(2 ^ 62)≤lo) (h2:lo < 2 ^ 62) (h3:-(2 ^ 62)≤hi) (h4:hi < 2 ^ 62)
    (q:R (Itr lo (hi - lo).toNat) H):wpAny (model X.prog X.w) X.A (pyIter (.ref s.heap.objs.size)) (PIE X pins σ tg R) E { s with heap:=s.heap.push { cls:=.type "range",data:=.fields #[.int lo t,.int hi u,.int 1 v] },toks:=tk }:=by
  refine wpAny_pyIter_range (IsRange.new ..) (small_one h1 h2 h3 h4) ?_
  have I1:Inv X pins σ H { s with heap:=s.heap.push { cls:=.type "range",data:=.fields #[.int lo t,.int hi u,.int 1 v] },toks:=tk }:=I.kept fun b o e=>Heap.get?_push_of_some _ e
  refine⟨(s.heap.push { cls:=.type "range",data:=.fields #[.int lo t,.int hi u,.int 1 v] }).objs.size,[(s.heap.push { cls:=.type "range",data:=.fields #[.int lo t,.int hi u,.int 1 v] }).objs.size],_,_,H,rfl,
    I1.kept (t':=tk) fun b o e=>Heap.get?_push_of_some _ e,zht _ lo (hi - lo).toNat,?_,fun b hb=>?_,q⟩
  · have e1:lo+((0:Nat):Int) * 1=lo:=by simp
    have e2:(((hi - lo).toNat:Nat):Int) - ((0:Nat):Int)=Builtin.Range.rangeSize lo hi 1:=by rw[rangeSize_one];split <;> omega
    show IsRangeIter _ _ (lo+((0:Nat):Int) * 1) ((((hi - lo).toNat:Nat):Int) - ((0:Nat):Int)) 1
    rw[e1,e2]
    exact Heap.get?_push_size _ rfl
  · have e:b=(s.heap.push { cls:=.type "range",data:=.fields #[.int lo t,.int hi u,.int 1 v] }).objs.size:=by simpa using hb
    subst e
    exact I1.fpOk (Nat.le_refl _) (I1.hok.fresh (Nat.le_refl _))
def iRng1 (ta:TA):TI:=fun σ H R=>ta σ H fun vs H1=>∃ j:Int,vs=[.int j]∧-(2 ^ 62)≤j∧j < 2 ^ 62∧R (Itr 0 j.toNat) H1
theorem zbJ {a:Expr} {ta:TA} {p pos:Pos} (hg:Gl X "range") (hm:X.mg "range"=none) (ha:PA X [a] ta) (hs:starEach [a] X.env=[(false,eval a X.env)]:=by rfl):PI X tg (.Call (.Name "range" p) [a] [] pos) (iRng1 ta):=by
  intro pins s σ H R I h
  refine Call_ (zcI I hg hm boot_range (PyProof.Rows.callWith_type1 (thn (ha pos pins s σ H _ I h) fun us s1 ⟨vs,H1,I1,r1,q1⟩=>?_) hs rfl))
  obtain⟨j,e,q1,q2,q⟩:=q1
  subst e
  cases r1 with
  | cons r rr =>
    cases rr
    obtain⟨t,rfl⟩:=r
    exact call_range_1 (ziD I1 (by omega) (by omega) q1 q2 (by simpa using q))
def tFor (wi:TI) (g:TG) (tb:TS):TS:=fun D σ H=>wi σ H fun J H1=>∃ W:Nat→Nat→St→Hp→Prop,(∃ m,W 0 m σ H1)∧∀ i m σ H,W i m σ H →
  (J.stop i H∧D.nx σ H)∨(J.go i H∧∃ N:St→Hp→Prop,(∀ σ' H',N σ' H'→∃ m',m' < m∧W (i+1) m' σ' H')∧∀ x H',J.yld i H x H'→g x σ H' fun σ2 H2=>tb { D with nx:=N,ct:=N,bk:=D.nx } σ2 H2)
def zdo (fp:List Addr) (h:Heap):List (Addr × Obj):=fp.filterMap fun b=>(h.get? b).map fun o=>(b,o)
theorem zaP {fp:List Addr} {h:Heap} {b:Addr} {o:Obj} (hb:b∈fp) (e:h.get? b=some o):(b,o)∈zdo fp h:=List.mem_filterMap.mpr ⟨b,hb,by rw[e];rfl⟩
theorem zih {fp:List Addr} {h:Heap} {p:Addr × Obj} (hp:p∈zdo fp h):p.1∈fp∧h.get? p.1=some p.2:=by
  obtain⟨b,hb,e⟩:=List.mem_filterMap.mp hp
  cases q:h.get? b with
  | none=>rw[q]at e;cases e
  | some o =>
    rw[q]at e
    have e':(b,o)=p:=Option.some.inj e
    subst e'
    exact⟨hb,q⟩
theorem Inv.pinned {pins:List (Addr × Obj)} {σ:St} {H:Hp} {s:Shared} {fp:List Addr} (I:Inv X pins σ H s) (hf:∀ b∈fp,zbl X pins H b) (ho:∀ b∈fp,∃ o,s.heap.get? b=some o∧∀ v,o.data≠.cell v):Inv X (pins++zdo fp s.heap) σ H s :=
  I.pins_of fun p hp=>(List.mem_append.mp hp).elim (fun z=>I.pin p (List.mem_append_right _ z)) fun z=>by
    obtain⟨hb,e⟩:=zih z
    obtain⟨f0,f1,f2,_⟩:=hf p.1 hb
    obtain⟨o,e',d⟩:=ho p.1 hb
    rw[e]at e';cases e'
    exact⟨e,f0,f1,f2,d⟩
theorem Inv.unpinned {pins pl:List (Addr × Obj)} {σ:St} {H:Hp} {s:Shared} (I:Inv X (pins++pl) σ H s):Inv X pins σ H s:=I.pins_of fun p hp=>I.pin p (List.mem_append_right _ (List.mem_append_left _ hp))
theorem zbe {iter:Expr} {body:List Stmt} {wi:TI} {g:TG} {tb:TS} {pos:Pos} (hp:PassesOwn (model X.prog X.w) X.A X.env X.xe) (hc:X.calm=true) (hi:PI X tg iter wi) (hg:PG X tg g) (hb:PSs X body tb)
    (hs:∀ x,foldedSetIterable iter X.env x=pure x:=by intro _;rfl):PS X (.For tg iter body [] pos) (tFor wi g tb):=by
  intro pins s σ H D I h
  refine wpAny_For (thn (hi pins s σ H _ I h) fun v s1 h1=>thn h1 fun itv s2 h2=>?_) hs
  obtain⟨it,fp,tn,J,H2,e,I2,T,st2,f2,W,⟨m0,w0⟩,turn⟩:=h2
  subst e
  have stat:∀ {H':Hp},(∀ b∈fp,H' b=none)→∀ b∈fp,zbl X pins H' b:=fun hn b hb=>⟨hn b hb,(f2 b hb).2⟩
  refine codeAny_forLoop_any (fun n s'=>∃ i σ' H',Inv X pins σ' H' s'∧tn i s'.heap∧(∀ b∈fp,H' b=none)∧W i n σ' H') ?_ m0 ⟨0,σ,H2,I2,st2,fun b hb=>(f2 b hb).1,w0⟩
  rintro n s3 ⟨i,σ3,H3,I3,st3,fr3,w3⟩
  rcases turn i n σ3 H3 w3 with ⟨stop,qn⟩ | ⟨go,N,hN,step⟩
  · refine wpAny_passesOwn hp (thn (T.done X rfl rfl rfl hc i pins s3 σ3 H3 X.xe I3 (stat fr3) st3 stop) fun r s4 ⟨hr,I4⟩=>?_)
    subst hr
    exact wpAny_execs_nil ⟨σ3,H3,I4,qn⟩
  · refine wpAny_passesOwn hp (thn (T.item X rfl rfl rfl hc i pins s3 σ3 H3 X.xe I3 (stat fr3) st3 go) fun r s4 ⟨u,hr,h4⟩=>?_)
    subst hr
    refine wpAny_passesOwn hp (thn h4 fun _ s5 ⟨x,H5,I5,r5,y5,st5,fr5⟩=>?_)
    have I5':=I5.pinned (stat fr5) (T.obj _ _ st5)
    refine wpAny_passesOwn hp (thn (hg _ s5 σ3 H5 x u _ I5' r5 (step x H5 y5)) fun _ s6 ⟨σ6,H6,I6,q6⟩=>?_)
    refine wpAny_passesOwn hp (thn (hb _ s6 σ6 H6 _ I6 q6) fun f s7 q7=>?_)
    have again:∀ {σ7:St} {H7:Hp},Inv X (pins++zdo fp s5.heap) σ7 H7 s7→N σ7 H7→∃ m,m < n∧∃ i σ' H',Inv X pins σ' H' s7∧tn i s7.heap∧(∀ b∈fp,H' b=none)∧W i m σ' H':=fun {σ7 H7} I7 n7=>by
      obtain⟨m',hm,w7⟩:=hN σ7 H7 n7
      refine⟨m',hm,i+1,σ7,H7,I7.unpinned,T.keep _ _ _ st5 fun b hb o e=>(I7.pin (b,o) (List.mem_append_right _ (List.mem_append_right _ (zaP hb e)))).1,fun b hb=>?_,w7⟩
      obtain⟨o,e,d⟩:=T.obj _ _ st5 b hb
      exact(I7.pin (b,o) (List.mem_append_right _ (List.mem_append_right _ (zaP hb e)))).2.1
    cases f with
    | next=>obtain⟨σ7,H7,I7,n7⟩:=q7;exact again I7 n7
    | cont=>obtain⟨σ7,H7,I7,n7⟩:=q7;exact again I7 n7
    | brk=>obtain⟨σ7,H7,I7,q7⟩:=q7;exact⟨σ7,H7,I7.unpinned,q7⟩
    | ret v=>obtain⟨x7,σ7,H7,I7,r7,q7⟩:=q7;exact⟨x7,σ7,H7,I7.unpinned,r7,q7⟩
end
theorem zck {lo:Int} {n:Nat} {g:TG} {tb:TS} {D:zbO} {σ:St} {H:Hp} (Pv:Nat→St→Hp→Prop) (h0:Pv 0 σ H)
    (hs:∀ i σ H,i < n→Pv i σ H→g (.int (lo+i)) σ H fun σ2 H2=>tb { D with nx:=Pv (i+1),ct:=Pv (i+1),bk:=D.nx } σ2 H2) (hd:∀ σ H,Pv n σ H→D.nx σ H) :
    ∃ W:Nat→Nat→St→Hp→Prop,(∃ m,W 0 m σ H)∧∀ i m σ H,W i m σ H →
      ((Itr lo n).stop i H∧D.nx σ H)∨((Itr lo n).go i H∧∃ N:St→Hp→Prop,(∀ σ' H',N σ' H'→∃ m',m' < m∧W (i+1) m' σ' H')∧∀ x H',(Itr lo n).yld i H x H'→g x σ H' fun σ2 H2=>tb { D with nx:=N,ct:=N,bk:=D.nx } σ2 H2):=by
  refine⟨fun i m σ H=>m=n - i∧i≤n∧Pv i σ H,⟨n,by simp,Nat.zero_le _,h0⟩,?_⟩
  rintro i m σ H ⟨rfl,hi,p⟩
  by_cases hlt:i < n
  · refine .inr ⟨hlt,Pv (i+1),fun σ' H' p'=>⟨n - (i+1),by omega,rfl,hlt,p'⟩,fun x H' y=>?_⟩
    obtain⟨e,y⟩:=y
    subst e y
    exact hs i σ _ hlt p
  · have e:i=n:=by omega
    subst e
    exact .inl ⟨Nat.le_refl _,hd σ H p⟩
end L2
namespace L2
open PySem PySem.Spec PyProof.Rows
abbrev R2:=V→V→Hp→VK→Prop
def OpR (X:Cx) (f:Value→Value→Sem Value) (r:R2):Prop :=
  ∀(pins:List (Addr × Obj)) (s:Shared) (σ:St) (H:Hp) (x y:V) (v u:Value) (Q:VK),Inv X pins σ H s→ax x v→ax y u→r x y H Q →
    wpAny (model X.prog X.w) X.A (f v u) (EP X pins σ Q) X.xe s
def UnR (X:Cx) (f:Value→Sem Value) (r:V→Hp→VK→Prop):Prop :=
  ∀(pins:List (Addr × Obj)) (s:Shared) (σ:St) (H:Hp) (x:V) (v:Value) (Q:VK),Inv X pins σ H s→ax x v→r x H Q →
    wpAny (model X.prog X.w) X.A (f v) (EP X pins σ Q) X.xe s
def zbS (X:Cx) (f:Value) (r:List V→Hp→VK→Prop):Prop :=
  ∀(pins:List (Addr × Obj)) (s:Shared) (σ:St) (H:Hp) (xs:List V) (us:List Value) (Q:VK),Inv X pins σ H s→aw xs us→r xs H Q →
    wpAny (model X.prog X.w) X.A (call f us) (EP X pins σ Q) X.xe s
def tOp (r:R2) (ta tb:TE):TE:=fun σ H Q=>ta σ H fun x H1=>tb σ H1 fun y H2=>r x y H2 Q
def tUn (r:V→Hp→VK→Prop) (ta:TE):TE:=fun σ H Q=>ta σ H fun x H1=>r x H1 Q
def rI (C:Int→Int→Prop) (g:Int→Int→V):R2:=fun x y H Q=>∃ i j,x=.int i∧y=.int j∧C i j∧Q (g i j) H
def rI0 (g:Int→Int→V):R2:=fun x y H Q=>∃ i j,x=.int i∧y=.int j∧Q (g i j) H
def rU (g:Int→V):V→Hp→VK→Prop:=fun x H Q=>∃ i,x=.int i∧Q (g i) H
section
variable {X:Cx} {a b c:Expr} {ta tb tc:TE} {pos:Pos}
theorem binT (ha:PE X a ta) (hb:PE X b tb) {pins:List (Addr × Obj)} {s:Shared} {σ:St} {H:Hp} {R:V→V→Hp→Prop} (I:Inv X pins σ H s)
    (h:ta σ H fun x H1=>tb σ H1 fun y H2=>R x y H2) {Q:Value→Shared→Prop} {f:Value→Value→Sem Value}
    (hf:∀ v u s2 x y H2,Inv X pins σ H2 s2→ax x v→ax y u→R x y H2→wpAny (model X.prog X.w) X.A (f v u) Q X.xe s2) :
    wpAny (model X.prog X.w) X.A (eval a X.env) (fun v s₁=>wpAny (model X.prog X.w) X.A (eval b X.env) (fun u s₂=>wpAny (model X.prog X.w) X.A (f v u) Q X.xe s₂) X.xe s₁) X.xe s:=by
  refine thn (ha pins s σ H _ I h) fun v s1 ⟨x,H1,I1,r1,q1⟩=>?_
  refine thn (hb pins s1 σ H1 _ I1 q1) fun u s2 ⟨y,H2,I2,r2,q2⟩=>?_
  exact hf v u s2 x y H2 I2 r1 r2 q2
theorem ao {op:Operator} {r:R2} (ho:OpR X (binaryOp op) r) (ha:PE X a ta) (hb:PE X b tb):PE X (.BinOp a op b pos) (tOp r ta tb):=by
  intro pins s σ H Q I h
  exact wpAny_BinOp (binT ha hb I h fun v u s2 x y H2 I2 rx ry q=>ho pins s2 σ H2 x y v u Q I2 rx ry q)
theorem zeh {op:UnaryOp} {r:V→Hp→VK→Prop} (ho:UnR X (unaryOp op) r) (ha:PE X a ta):PE X (.UnaryOp op a pos) (tUn r ta):=by
  intro pins s σ H Q I h
  exact UnaryOp_ (thn (ha pins s σ H _ I h) fun v s1 ⟨x,H1,I1,r1,q1⟩=>ho pins s1 σ H1 x v Q I1 r1 q1)
theorem opI {f:Value→Value→Sem Value} {C:Int→Int→Prop} {g:Int→Int→Int}
    (rule:∀(i j:Int) (t u:Tok) (s:Shared) (Q:Value→Shared→Prop) (E:Value→Shared→Prop),C i j→Q (.int (g i j) s.toks) { s with toks:=s.toks+1 }→wpAny (model X.prog X.w) X.A (f (.int i t) (.int j u)) Q E s) :
    OpR X f (rI C fun i j=>.int (g i j)):=by
  intro pins s σ H x y v u Q I rx ry h
  obtain⟨i,j,rfl,rfl,hc,q⟩:=h
  obtain⟨t,rfl⟩:=rx
  obtain⟨t',rfl⟩:=ry
  exact rule i j t t' s _ _ hc ⟨.int (g i j),H,I.tok _,⟨_,rfl⟩,q⟩
theorem opI0 {f:Value→Value→Sem Value} {g:Int→Int→Int}
    (rule:∀(i j:Int) (t u:Tok) (s:Shared) (Q:Value→Shared→Prop) (E:Value→Shared→Prop),Q (.int (g i j) s.toks) { s with toks:=s.toks+1 }→wpAny (model X.prog X.w) X.A (f (.int i t) (.int j u)) Q E s) :
    OpR X f (rI0 fun i j=>.int (g i j)):=by
  intro pins s σ H x y v u Q I rx ry h
  obtain⟨i,j,rfl,rfl,q⟩:=h
  obtain⟨t,rfl⟩:=rx
  obtain⟨t',rfl⟩:=ry
  exact rule i j t t' s _ _ ⟨.int (g i j),H,I.tok _,⟨_,rfl⟩,q⟩
theorem opB0 {f:Value→Value→Sem Value} {g:Int→Int→Bool}
    (rule:∀(i j:Int) (t u:Tok) (s:Shared) (Q:Value→Shared→Prop) (E:Value→Shared→Prop),Q (.bool (g i j)) s→wpAny (model X.prog X.w) X.A (f (.int i t) (.int j u)) Q E s) :
    OpR X f (rI0 fun i j=>.bl (g i j)):=by
  intro pins s σ H x y v u Q I rx ry h
  obtain⟨i,j,rfl,rfl,q⟩:=h
  obtain⟨t,rfl⟩:=rx
  obtain⟨t',rfl⟩:=ry
  exact rule i j t t' s _ _ ⟨.bl (g i j),H,I,rfl,q⟩
def CDiv (i j:Int):Prop:=0 < j∧j < 1073741824
def CMul (i j:Int):Prop:=(-(2 ^ 64) < i∧i < 2 ^ 64)∨(-(2 ^ 64) < j∧j < 2 ^ 64)
theorem CMul.ok {i j:Int} (h:CMul i j):IntMulOk i j:=by
  rcases h with ⟨h1,h2⟩ | ⟨h1,h2⟩
  · exact .of_left (intBits_le_64 h1 h2)
  · exact .of_right (intBits_le_64 h1 h2)
theorem zbf:OpR X (binaryOp .Add) (rI0 fun i j=>.int (i+j)):=opI0 fun _ _ _ _ _ _ _ q=>add_int q
theorem zgy:OpR X (binaryOp .Sub) (rI0 fun i j=>.int (i - j)):=opI0 fun _ _ _ _ _ _ _ q=>sub_int q
theorem zdq:OpR X (binaryOp .Mult) (rI CMul fun i j=>.int (i * j)):=opI fun _ _ _ _ _ _ _ hc q=>mul_int q hc.ok
theorem zar:OpR X (binaryOp .FloorDiv) (rI CDiv fun i j=>.int (i / j)):=opI fun i j _ _ _ _ _ hc q=>by
  have h1:(0:Int) < j:=hc.1
  have h2:j < 1073741824:=hc.2
  exact floordiv_int (by omega) (by rw[Int.fdiv_eq_ediv_of_nonneg i (by omega)];exact q) (.inl (PyProof.noPylong_small (by omega)))
theorem zak:OpR X (binaryOp .Mod) (rI (fun _ j=>0 < j) fun i j=>.int (i % j)):=opI fun i j _ _ _ _ _ hc q=>by
  have h1:(0:Int) < j:=hc
  exact mod_int' (by omega) (by rw[Int.fmod_eq_emod_of_nonneg i (by omega)];exact q)
theorem unI {f:Value→Sem Value} {g:Int→Int}
    (rule:∀(i:Int) (t:Tok) (s:Shared) (Q:Value→Shared→Prop) (E:Value→Shared→Prop),Q (.int (g i) s.toks) { s with toks:=s.toks+1 }→wpAny (model X.prog X.w) X.A (f (.int i t)) Q E s) :
    UnR X f (rU fun i=>.int (g i)):=by
  intro pins s σ H x v Q I rx h
  obtain⟨i,rfl,q⟩:=h
  obtain⟨t,rfl⟩:=rx
  exact rule i t s _ _ ⟨.int (g i),H,I.tok _,⟨_,rfl⟩,q⟩
theorem zdm:UnR X (unaryOp .USub) (rU fun i=>.int (-i)):=unI fun _ _ _ _ _ q=>neg_int q
end
def scal:V→V→Bool
  | .non,.non=>true | .non,.int _=>true | .int _,.non=>true | .non,.bl _=>true | .bl _,.non=>true | .non,.str _=>true | .str _,.non=>true
  | .int _,.int _=>true | .bl _,.bl _=>true | .str _,.str _=>true | .byt _,.byt _=>true
  | .int _,.str _=>true | .str _,.int _=>true | .bl _,.str _=>true | .str _,.bl _=>true
  | _,_=>false
def rEq:R2:=fun x y H Q=>scal x y=true∧Q (.bl (decide (x=y))) H
def rNe:R2:=fun x y H Q=>scal x y=true∧Q (.bl (!decide (x=y))) H
theorem zhi {i j:Int}:decide (V.int i=V.int j)=(i == j):=by
  rw[Bool.eq_iff_iff]
  simp
theorem zh1 {i j:Bool}:decide (V.bl i=V.bl j)=(i == j):=by
  rw[Bool.eq_iff_iff]
  simp
theorem zhh {i j:Str}:decide (V.str i=V.str j)=(i == j):=by
  rw[Bool.eq_iff_iff]
  simp
theorem zhj {i j:Array UInt8}:decide (V.byt i=V.byt j)=(i.toList == j.toList):=by
  rw[Bool.eq_iff_iff]
  cases i
  cases j
  simp
section
variable {X:Cx} {a b c:Expr} {ta tb tc:TE} {pos:Pos}
theorem zaK {pins:List (Addr × Obj)} {σ:St} {H:Hp} {s:Shared} {Q:VK} {k k':Bool} (I:Inv X pins σ H s) (q:Q (.bl k) H) (e:k=k'):EP X pins σ Q (.bool k') s:=by
  subst e
  exact⟨.bl k,H,I,rfl,q⟩
theorem zbk:OpR X (compareOp .Eq) rEq:=by
  intro pins s σ H x y v u Q I rx ry h
  obtain⟨hs,q⟩:=h
  cases x with
  | non =>
    cases rx
    cases y with
    | non=>cases ry;exact PySem.EqNone.eq_none_none (zaK I q (by simp))
    | bl j=>cases ry;exact PySem.EqNone.eq_none_bool (zaK I q (by simp))
    | int j=>obtain⟨t',rfl⟩:=ry;exact PySem.EqNone.eq_none_int (zaK I q (by simp))
    | str j=>obtain⟨t',rfl⟩:=ry;exact PySem.EqNone.eq_none_str (zaK I q (by simp))
    | _=>exact absurd (show false=true from hs) Bool.false_ne_true
  | bl i =>
    cases rx
    cases y with
    | non=>cases ry;exact PySem.EqNone.eq_bool_none (zaK I q (by simp))
    | bl j=>cases ry;exact eq_bool (zaK I q zh1)
    | str j=>obtain⟨t',rfl⟩:=ry;exact PySem.EqMixed.eq_bool_str (zaK I q (by simp))
    | _=>exact absurd (show false=true from hs) Bool.false_ne_true
  | int i =>
    obtain⟨t,rfl⟩:=rx
    cases y with
    | non=>cases ry;exact PySem.EqNone.eq_int_none (zaK I q (by simp))
    | int j=>obtain⟨t',rfl⟩:=ry;exact eq_int (zaK I q zhi)
    | str j=>obtain⟨t',rfl⟩:=ry;exact PySem.EqMixed.eq_int_str (zaK I q (by simp))
    | _=>exact absurd (show false=true from hs) Bool.false_ne_true
  | str i =>
    obtain⟨t,rfl⟩:=rx
    cases y with
    | non=>cases ry;exact PySem.EqNone.eq_str_none (zaK I q (by simp))
    | bl j=>cases ry;exact PySem.EqMixed.eq_str_bool (zaK I q (by simp))
    | int j=>obtain⟨t',rfl⟩:=ry;exact PySem.EqMixed.eq_str_int (zaK I q (by simp))
    | str j=>obtain⟨t',rfl⟩:=ry;exact eq_str (zaK I q zhh)
    | _=>exact absurd (show false=true from hs) Bool.false_ne_true
  | byt i =>
    obtain⟨t,rfl⟩:=rx
    cases y with
    | byt j=>obtain⟨t',rfl⟩:=ry;exact PySem.W.eq_bytes (zaK I q zhj)
    | _=>exact absurd (show false=true from hs) Bool.false_ne_true
  | _=>cases y <;> exact absurd (show false=true from hs) Bool.false_ne_true
theorem zei:OpR X (compareOp .NotEq) rNe:=by
  intro pins s σ H x y v u Q I rx ry h
  obtain⟨hs,q⟩:=h
  cases x with
  | non =>
    cases rx
    cases y with
    | non=>cases ry;exact PySem.EqNone.ne_none_none (zaK I q (by simp))
    | bl j=>cases ry;exact PySem.EqNone.ne_none_bool (zaK I q (by simp))
    | int j=>obtain⟨t',rfl⟩:=ry;exact PySem.EqNone.ne_none_int (zaK I q (by simp))
    | str j=>obtain⟨t',rfl⟩:=ry;exact PySem.EqNone.ne_none_str (zaK I q (by simp))
    | _=>exact absurd (show false=true from hs) Bool.false_ne_true
  | bl i =>
    cases rx
    cases y with
    | non=>cases ry;exact PySem.EqNone.ne_bool_none (zaK I q (by simp))
    | bl j=>cases ry;exact ne_bool (zaK I q (congrArg not zh1))
    | str j=>obtain⟨t',rfl⟩:=ry;exact PySem.EqMixed.ne_bool_str (zaK I q (by simp))
    | _=>exact absurd (show false=true from hs) Bool.false_ne_true
  | int i =>
    obtain⟨t,rfl⟩:=rx
    cases y with
    | non=>cases ry;exact PySem.EqNone.ne_int_none (zaK I q (by simp))
    | int j=>obtain⟨t',rfl⟩:=ry;exact ne_int (zaK I q (congrArg not zhi))
    | str j=>obtain⟨t',rfl⟩:=ry;exact PySem.EqMixed.ne_int_str (zaK I q (by simp))
    | _=>exact absurd (show false=true from hs) Bool.false_ne_true
  | str i =>
    obtain⟨t,rfl⟩:=rx
    cases y with
    | non=>cases ry;exact PySem.EqNone.ne_str_none (zaK I q (by simp))
    | bl j=>cases ry;exact PySem.EqMixed.ne_str_bool (zaK I q (by simp))
    | int j=>obtain⟨t',rfl⟩:=ry;exact PySem.EqMixed.ne_str_int (zaK I q (by simp))
    | str j=>obtain⟨t',rfl⟩:=ry;exact ne_str (zaK I q (congrArg not zhh))
    | _=>exact absurd (show false=true from hs) Bool.false_ne_true
  | byt i =>
    obtain⟨t,rfl⟩:=rx
    cases y with
    | byt j=>obtain⟨t',rfl⟩:=ry;exact PySem.W.ne_bytes (zaK I q (congrArg not zhj))
    | _=>exact absurd (show false=true from hs) Bool.false_ne_true
  | _=>cases y <;> exact absurd (show false=true from hs) Bool.false_ne_true
theorem zfA:OpR X (compareOp .Lt) (rI0 fun i j=>.bl (decide (i < j))):=opB0 fun _ _ _ _ _ _ _ q=>lt_int q
theorem zeN:OpR X (compareOp .Gt) (rI0 fun i j=>.bl (decide (j < i))):=opB0 fun _ _ _ _ _ _ _ q=>gt_int q
theorem zas (b:Expr) {op:CmpOp} (h:op≠.In:=by decide) (h2:op≠.NotIn:=by decide):behindInMarks op b=false:=by
  have e1:(op == CmpOp.In)=false:=by cases op <;> first | rfl | exact absurd rfl h
  have e2:(op == CmpOp.NotIn)=false:=by cases op <;> first | rfl | exact absurd rfl h2
  cases b <;> simp [behindInMarks,e1,e2]
theorem zcD {op:CmpOp} {r:R2} (ho:OpR X (compareOp op) r) (ha:PE X a ta) (hb:PE X b tb) (hm:behindInMarks op b=false):PE X (.Compare a [op] [b] pos) (tOp r ta tb):=by
  intro pins s σ H Q I h
  exact wpAny_Compare1 (binT ha hb I h fun v u s2 x y H2 I2 rx ry q=>ho pins s2 σ H2 x y v u Q I2 rx ry q) hm
def tTest (t:TE):TT:=fun σ H Q=>t σ H fun x H'=>∃ k,x=.bl k∧Q k H'
theorem zag {op:CmpOp} {r:R2} (ho:OpR X (compareOp op) r) (ha:PE X a ta) (hb:PE X b tb) (hm:behindInMarks op b=false):PT X (.Compare a [op] [b] pos) (tTest (tOp r ta tb)):=by
  intro pins s σ H Q I h
  refine wpAny_isTrue_Compare1 (thn (ha pins s σ H _ I h) fun v s1 ⟨x,H1,I1,r1,q1⟩=>thn (hb pins s1 σ H1 _ I1 q1) fun u s2 ⟨y,H2,I2,r2,q2⟩ =>
    thn (ho pins s2 σ H2 x y v u _ I2 r1 r2 q2) fun c s3 ⟨z,H3,I3,r3,k,e,q3⟩=>?_) hm
  subst e
  cases r3
  exact wpAny_truthy_bool ⟨H3,I3,q3⟩
theorem zez:(sizeLine:Nat) < 2 ^ 63:=by rw[sizeLine_eq];decide
theorem zcK:OpR X (binaryOp .Add) (fun x y H Q=>∃ i j,x=.str i∧y=.str j∧i.length+j.length≤sizeLine∧Q (.str (i++j)) H):=by
  intro pins s σ H x y v u Q I rx ry h
  obtain⟨i,j,rfl,rfl,hz,q⟩:=h
  obtain⟨t,rfl⟩:=rx
  obtain⟨t',rfl⟩:=ry
  exact add_str (fun t' tk=>⟨.str (i++j),H,I.tok _,⟨_,rfl⟩,q⟩) hz
theorem zef {x:V} {us:List Value} (r:aw [x] us):∃ u,us=[u]∧ax x u:=by
  cases r with
  | cons r1 r2=>cases r2;exact⟨_,rfl,r1⟩
theorem zdI {x y:V} {us:List Value} (r:aw [x,y] us):∃ u w',us=[u,w']∧ax x u∧ax y w':=by
  cases r with
  | cons r1 r2 =>
    cases r2 with
    | cons r3 r4=>cases r4;exact⟨_,_,rfl,r1,r3⟩
theorem zeL (hc:X.calm=true):zbS X (.builtin "max") (fun xs H Q=>∃ i j,xs=[.int i,.int j]∧Q (.int (if j > i then j else i)) H):=by
  intro pins s σ H xs us Q I r h
  obtain⟨i,j,rfl,q⟩:=h
  obtain⟨u,w',rfl,⟨t,rfl⟩,⟨t',rfl⟩⟩:=zdI r
  refine max_two_ints (I.ok.hd hc) fun h' tk k=>⟨_,H,I.kept k,?_,q⟩
  by_cases hj:j > i
  · rw[if_pos hj,if_pos hj];exact⟨_,rfl⟩
  · rw[if_neg hj,if_neg hj];exact⟨_,rfl⟩
theorem zeK (hc:X.calm=true):zbS X (.builtin "min") (fun xs H Q=>∃ i j,xs=[.int i,.int j]∧Q (.int (if j < i then j else i)) H):=by
  intro pins s σ H xs us Q I r h
  obtain⟨i,j,rfl,q⟩:=h
  obtain⟨u,w',rfl,⟨t,rfl⟩,⟨t',rfl⟩⟩:=zdI r
  refine min_two_ints (I.ok.hd hc) fun h' tk k=>⟨_,H,I.kept k,?_,q⟩
  by_cases hj:j < i
  · rw[if_pos hj,if_pos hj];exact⟨_,rfl⟩
  · rw[if_neg hj,if_neg hj];exact⟨_,rfl⟩
theorem zdQ:zbS X (.type "int") (fun xs H Q=>(∃ i,xs=[.int i]∧Q (.int i) H)∨∃ k,xs=[.bl k]∧Q (.int (if k then 1 else 0)) H):=by
  intro pins s σ H xs us Q I r h
  rcases h with ⟨i,rfl,q⟩ | ⟨k,rfl,q⟩
  · obtain⟨u,rfl,t,rfl⟩:=zef r
    exact call_int_int ⟨.int i,H,I,⟨_,rfl⟩,q⟩
  · obtain⟨u,rfl,r1⟩:=zef r
    cases r1
    exact call_int_bool ⟨.int (if k then 1 else 0),H,I.tok _,⟨_,rfl⟩,q⟩
end
end L2
namespace L2
open PySem PySem.Spec PyProof.Rows
structure zfi (h:Heap) (x dx C:Addr) (mA:Str→Option Value):Prop where
  obj:h.get? x=some (PySem.W.instObj C dx)
  ns:h.Ns1 dx mA
  ne:dx≠x
theorem zii {h:Heap} {dx:Addr} {mA:Str→Option Value} (n:h.Ns1 dx mA):∃ od,h.get? dx=some od∧∀ name,PySem.W.lookIn name od=some (mA name):=by
  obtain⟨o,es,ep,ho,hd,hk,_,hm⟩:=n
  refine⟨o,ho,fun name=>?_⟩
  have e:=hm name
  unfold nsFind findBy at e
  rw[←Array.find?_toList]at e
  unfold PySem.W.lookIn
  rw[hd]
  dsimp only
  split
  · rename_i y q
    rw[q]at e
    exact congrArg some e
  · rename_i q
    rw[q]at e
    have a:es.toList.any (·.refKey)=false:=by
      rw[List.any_eq_false]
      intro y hy
      obtain⟨z,t,hkey⟩:=hk y (Array.mem_toList_iff.mp hy)
      simp [DictEntry.refKey,hkey]
    have a':¬es.toList.any (·.refKey)=true:=by rw[a];exact Bool.false_ne_true
    rw[if_neg a']
    exact congrArg some e
theorem zfi.look {h:Heap} {x dx C:Addr} {mA:Str→Option Value} (I:zfi h x dx C mA):∃ od,PySem.W.InstAt h x (PySem.W.instObj C dx) C (some od)∧∀ name,PySem.W.lookIn name od=some (mA name) :=
  let ⟨od,ho,hl⟩:=zii I.ns
  ⟨od,⟨I.obj,rfl,rfl,ho⟩,hl⟩
section
variable {prog:Program} {w:World} {A:Around} {E:Value→Shared→Prop} {s:Shared} {K:PySem.W.Frag} {x dx C f:Addr} {mA:Str→Option Value} {name:Str} {v:Value}
theorem zjT {expr:Bool} {Q:Value→Shared→Prop} (X:K.In s.heap) (I:zfi s.heap x dx C mA) (hg:PySem.W.plainGet K C name=true) (hh:PySem.W.hasDictIn K C=true)
    (ha:PySem.W.findIn K (.ref C) name=some none) (hv:mA name=some v) (hv':PySem.W.handedIn v=true) (h:Q v { s with toks:=s.toks+1 }) :
    wpAny (model prog w) A (getAttr (.ref x) name expr) Q E s:=by
  obtain⟨od,J,hl⟩:=I.look
  exact PySem.W.get_value X J (PySem.W.plainGet_of hg).1 (PySem.W.findObj_own hh ha rfl (by rw[hl,hv])) hv' h
theorem zi3 {pl:Sem Bool} {Q:Value × List Value→Shared→Prop} (X:K.In s.heap) (I:zfi s.heap x dx C mA) (hg:PySem.W.plainGet K C name=true)
    (hf:PySem.W.findIn K (.ref C) name=some (some (.ref f))) (ht:PySem.W.isFn K (.ref f)=true) (hv:mA name=none) (h:Q (.ref f,[.ref x]) s) :
    wpAny (model prog w) A (getMethod (.ref x) name pl) Q E s:=by
  obtain⟨od,J,hl⟩:=I.look
  exact PySem.W.method_fn X J (PySem.W.plainGet_of hg).1 (PySem.W.plainGet_of hg).2 hf (beq_iff_eq.mp ht) (by show(PySem.W.lookIn name od).map (·.isSome)=some false;rw[hl,hv];rfl) h
theorem zjk {ns:List Str} {Q:Unit→Shared→Prop} (X:K.In s.heap) (I:zfi s.heap x dx C mA)
    (hs:PySem.W.findIn K (.ref C) "__setattr__"=some (some (.builtin "object.__setattr__"))) (hp:PySem.W.plainOver K C=true) (ht:PySem.W.takerIn K C name=some none) (hh:PySem.W.hasDictIn K C=true)
    (hw:PySem.Within mA ns) (hsz:ns.length≤sizeLine)
    (h:∀ h',zfi h' x dx C (fun y=>if y=name then some v else mA y)→Heap.SameBut dx s.heap h'→Q () { s with heap:=h',toks:=s.toks+2 }) :
    wpAny (model prog w) A (setAttr (.ref x) name v) Q E s:=by
  obtain⟨od,J,hl⟩:=I.look
  refine PySem.W.set_plain X J hs (PySem.W.osa_open (s:={ s with toks:=s.toks+1 }) (r:=none) X J hp ht fun b=>?_)
  obtain⟨cd,hc,hd'⟩:=PySem.W.any_some hh
  have hx:s.heap.get? x=some ⟨.ref C,some dx,.plain,#[]⟩:=I.obj
  refine wpAny_bind (wpAny_pure (wpAny_bind (wpAny_bind (wpAny_loadPart hx (wpAny_bind (PySem.W.Looks.here (s:={ s with toks:=s.toks+1 }) (PySem.W.looks_clsIn X hc) ?_))))))
  rw[hd']
  refine wpAny_pure (a:=some dx) (wpAny_bind (wpAny_pure (wpAny_bind ?_)))
  refine wpAny_nsSet1 (s:={ s with toks:=s.toks+1 }) I.ns fun h' hn2 hs2=>?_
  obtain⟨oD,esD,epD,hoD,hdD,hcD⟩:=hn2.count (PySem.Within.cons name v hw)
  refine wpAny_bind (wpAny_lookBehind hoD (by rw[hdD];exact pastItsLine_dict (Nat.le_trans hcD (by rw[List.length_cons];omega))) ?_)
  exact wpAny_pure (h _ ⟨(hs2.2 _ (Ne.symm I.ne)).trans I.obj,hn2,I.ne⟩ hs2)
theorem ziZ {R:Result→Shared→Prop} {vs:List Value} {kw:List (Str × Value)} (X:K.In s.heap) (hm:PySem.W.makesIn K C=true)
    (hi:PySem.W.findIn K (.ref C) "__init__"=some (some (.ref f))) (hf:PySem.W.typeIn K (.ref f)=some (.type "function"))
    (h:codeAny (model prog w) (A.under (.builtin "type.__call__" ⟨.ref C :: vs,kw⟩)) (.call (.ref f) ⟨.ref (s.heap.objs.size+1) :: vs,kw⟩) (PySem.W.InitBack (s.heap.objs.size+1) R)
      { s with heap:=(s.heap.push PySem.W.emptyDict).push (PySem.W.instObj C s.heap.objs.size) }) :
    codeAny (model prog w) A (.call (.ref C) ⟨vs,kw⟩) R s:=by
  obtain⟨hh,g,d,t,os⟩:=s
  exact PySem.W.make_core (PySem.W.makes_of X hm) (PySem.W.looks_findIn X hi) (fun self=>PySem.W.bind_fn X self hf) (.inl rfl) h
end
def zbM (f:Str) (v:V):List (Str × V)→List (Str × V)
  | []=>[(f,v)]
  | (g,x) :: r=>if g=f then(g,v) :: r else(g,x) :: zbM f v r
theorem zfc (f g:Str) (v:V):∀ fs:List (Str × V),(zbM f v fs).lookup g=if g=f then some v else fs.lookup g
  | []=>by
    show List.lookup g [(f,v)]=_
    by_cases h:g=f
    · have hb:(g == f)=true:=beq_iff_eq.mpr h
      simp only[List.lookup,hb,if_pos h]
    · have hb:(g == f)=false:=beq_eq_false_iff_ne.mpr h
      simp only[List.lookup,hb,if_neg h]
  | (k,x) :: r=>by
    have ih:=zfc f g v r
    rw[show zbM f v ((k,x) :: r)=(if k=f then(k,v) :: r else(k,x) :: zbM f v r) from rfl]
    by_cases hk:k=f
    · rw[if_pos hk]
      by_cases h:g=k
      · have hb:(g == k)=true:=beq_iff_eq.mpr h
        simp only[List.lookup,hb,if_pos (h.trans hk)]
      · have hb:(g == k)=false:=beq_eq_false_iff_ne.mpr h
        simp only[List.lookup,hb,if_neg (fun e:g=f=>h (e.trans hk.symm))]
    · rw[if_neg hk]
      by_cases h:g=k
      · have hb:(g == k)=true:=beq_iff_eq.mpr h
        simp only[List.lookup,hb,if_neg (fun e:g=f=>hk (h.symm.trans e))]
      · have hb:(g == k)=false:=beq_eq_false_iff_ne.mpr h
        simp only[List.lookup,hb]
        exact ih
theorem zeI (f:Str) (v:V):∀ fs:List (Str × V),f∈(zbM f v fs).map (·.1)∧∀ g,g∈fs.map (·.1)→g∈(zbM f v fs).map (·.1)
  | []=>⟨by simp [zbM],fun g h=>by simp at h⟩
  | (k,x) :: r=>by
    obtain⟨i1,i2⟩:=zeI f v r
    rw[show zbM f v ((k,x) :: r)=(if k=f then(k,v) :: r else(k,x) :: zbM f v r) from rfl]
    by_cases hk:k=f
    · rw[if_pos hk]
      subst hk
      exact⟨by simp,fun g h=>by simpa using h⟩
    · rw[if_neg hk]
      refine⟨?_,fun g h=>?_⟩
      · rw[List.map_cons]
        exact List.mem_cons_of_mem _ i1
      · rw[List.map_cons]at h ⊢
        rcases List.mem_cons.mp h with e | e
        · exact List.mem_cons.mpr (.inl e)
        · exact List.mem_cons_of_mem _ (i2 g e)
theorem zfd (f:Str) (v:V):∀ fs:List (Str × V),(zbM f v fs).length≤fs.length+1
  | []=>by simp [zbM]
  | (k,x) :: r=>by
    have ih:=zfd f v r
    rw[show zbM f v ((k,x) :: r)=(if k=f then(k,v) :: r else(k,x) :: zbM f v r) from rfl]
    by_cases hk:k=f
    · rw[if_pos hk,List.length_cons,List.length_cons];omega
    · rw[if_neg hk,List.length_cons,List.length_cons];omega
theorem zcg.some_of {v:V} {o:Option Value} (r:zcg (some v) o):∃ u,o=some u∧ax v u:=by
  cases o with
  | none=>exact(show False from r).elim
  | some u=>exact⟨u,rfl,r⟩
theorem zcg.none_of {o:Option Value} (r:zcg none o):o=none:=by
  cases o with
  | none=>rfl
  | some u=>exact(show False from r).elim
theorem zio {v:V} {u:Value} (r:ax v u):PySem.W.handedIn u=true:=by
  cases v with
  | non=>cases (show u=Value.none from r);rfl
  | bl b=>cases (show u=Value.bool b from r);rfl
  | int i=>obtain⟨t,e⟩:=(show ∃ t,u=Value.int i t from r);cases e;rfl
  | str x=>obtain⟨t,e⟩:=(show ∃ t,u=Value.str x t from r);cases e;rfl
  | byt b=>obtain⟨t,e⟩:=(show ∃ t,u=Value.bytes b t from r);cases e;rfl
  | flt b=>obtain⟨t,e⟩:=(show ∃ t,u=Value.float b t from r);cases e;rfl
  | ref a=>cases (show u=Value.ref a from r);rfl
  | ty n=>cases (show u=Value.type n from r);rfl
section
variable {P:Program} {w:World} {H H':Hp} {h h':Heap} {a C dx:Addr} {fs fs':List (Str × V)}
theorem ze4 (hok:HOk P w H h) (e:H a=some (.ins C dx fs)):∃ mA,zfi h a dx C mA∧(∀ f,zcg (fs.lookup f) (mA f))∧PySem.Within mA (fs.map (·.1))∧fs.length≤1000∧H dx=some (.own a):=by
  obtain⟨d,z,ne,ob,mA,n,r,q⟩:=(show zaL P w H h a (.ins C dx fs) from hok a _ e)
  exact⟨mA,⟨ob,n,ne⟩,r,q,z,d⟩
end
structure Cls (K:PySem.W.Frag) (C:Addr):Prop where
  pg:PySem.W.plainGet K C Str.empty=true
  hd:PySem.W.hasDictIn K C=true
  po:PySem.W.plainOver K C=true
  sa:PySem.W.findIn K (.ref C) "__setattr__"=some (some (.builtin "object.__setattr__"))
theorem Cls.get {K:PySem.W.Frag} {C:Addr} (c:Cls K C) (f:Str):PySem.W.plainGet K C f=true:=c.pg
def zc3 (K:PySem.W.Frag) (C:Addr) (f:Str):Prop:=PySem.W.findIn K (.ref C) f=some none
theorem zc3.taker {K:PySem.W.Frag} {C:Addr} {f:Str} (n:zc3 K C f):PySem.W.takerIn K C f=some none:=by
  unfold PySem.W.takerIn
  rw[show PySem.W.findIn K (.ref C) f=some none from n]
  rfl
structure zcN (K:PySem.W.Frag) (C:Addr) (m:Str) (f:Addr):Prop where
  at_:PySem.W.findIn K (.ref C) m=some (some (.ref f))
  fn:PySem.W.isFn K (.ref f)=true
  kp:PySem.W.keepIn K (.ref f)=true
section
variable {X:Cx} {pins:List (Addr × Obj)} {σ:St} {H:Hp} {s:Shared} {a C dx:Addr} {fs:List (Str × V)} {f:Str} {v:V} {A:Around} {E:Value→Shared→Prop}
theorem zhF {b:Bool} {Q:Value→Shared→Prop} (I:Inv X pins σ H s) (e:H a=some (.ins C dx fs)) (c:Cls X.K C) (n:zc3 X.K C f) (l:fs.lookup f=some v)
    (h:∀ u s',Inv X pins σ H s'→ax v u→Q u s'):wpAny (model X.prog X.w) A (getAttr (.ref a) f b) Q E s:=by
  obtain⟨mA,O,r,_,_,_⟩:=ze4 I.hok e
  obtain⟨u,hu,ru⟩:=zcg.some_of (v:=v) (o:=mA f) (by rw[←l];exact r f)
  exact zjT I.kIn O (c.get f) c.hd n hu (zio ru) (h u _ (I.tok _) ru)
theorem zfT {m:Str} {g:Addr} {pl:Sem Bool} {Q:Value × List Value→Shared→Prop} (I:Inv X pins σ H s) (e:H a=some (.ins C dx fs)) (c:Cls X.K C) (k:zcN X.K C m g) (l:fs.lookup m=none)
    (h:Q (.ref g,[.ref a]) s):wpAny (model X.prog X.w) A (getMethod (.ref a) m pl) Q E s:=by
  obtain⟨mA,O,r,_,_,_⟩:=ze4 I.hok e
  have hn:mA m=none:=zcg.none_of (by rw[←l];exact r m)
  exact zi3 I.kIn O (c.get m) k.at_ k.fn hn h
theorem zhw {y:V} {u:Value} {Q:Unit→Shared→Prop} (I:Inv X pins σ H s) (e:H a=some (.ins C dx fs)) (c:Cls X.K C) (n:zc3 X.K C f) (hl:fs.length < 1000) (ry:ax y u)
    (h:∀ s',Inv X pins σ (upd H a (.ins C dx (zbM f y fs))) s'→Q () s'):wpAny (model X.prog X.w) A (setAttr (.ref a) f u) Q E s:=by
  obtain⟨mA,O,r,wi,_,ho⟩:=ze4 I.hok e
  have hz:(fs.map (·.1)).length≤sizeLine:=by rw[List.length_map,sizeLine_eq];omega
  refine zjk I.kIn O c.sa c.po n.taker c.hd wi hz fun h' O' sb=>h _ ?_
  have hd:∃ o,h'.get? dx=some o:=let ⟨o,_,_,e',_⟩:=O'.ns;⟨o,e'⟩
  refine I.write (x:=a) (e:=dx) (by rw[e];exact True.intro) (.inr ho) (fun b q hb z=>(sb.2 b hb).trans z) hd ?_
  refine⟨by rw[ap O.ne];exact ho,?_,O.ne,O'.obj,_,O'.ns,fun g=>?_,fun g hg=>?_⟩
  · have:=zfd f y fs;omega
  · show zcg ((zbM f y fs).lookup g) (if g=f then some u else mA g)
    rw[zfc]
    by_cases q:g=f
    · rw[if_pos q,if_pos q];exact ry
    · rw[if_neg q,if_neg q];exact r g
  · by_cases q:g=f
    · rw[q];exact(zeI f y fs).1
    · refine(zeI f y fs).2 g (wi g fun z=>hg ?_)
      show(if g=f then some u else mA g)=none
      rw[if_neg q];exact z
theorem Inv.made (I:Inv X pins σ H s):Inv X pins σ (upd (upd H s.heap.objs.size (.own (s.heap.objs.size+1))) (s.heap.objs.size+1) (.ins C s.heap.objs.size []))
    { s with heap:=(s.heap.push PySem.W.emptyDict).push (PySem.W.instObj C s.heap.objs.size) }:=by
  have e1:(s.heap.push PySem.W.emptyDict).get? s.heap.objs.size=some PySem.W.emptyDict:=Heap.get?_push_size s.heap rfl
  have e2:((s.heap.push PySem.W.emptyDict).push (PySem.W.instObj C s.heap.objs.size)).get? (s.heap.objs.size+1)=some (PySem.W.instObj C s.heap.objs.size):=by
    have:=Heap.get?_push_size (s.heap.push PySem.W.emptyDict) (o:=PySem.W.instObj C s.heap.objs.size) rfl
    rwa [Heap.size_push]at this
  have e3:(s.heap.push PySem.W.emptyDict).Ns s.heap.objs.size (fun _=>none):=⟨PySem.W.emptyDict,#[],_,e1,rfl,(fun e he=>absurd he (by simp)),fun _=>rfl⟩
  have I1:=I.laid (a:=s.heap.objs.size) (o:=.own (s.heap.objs.size+1)) (h':=s.heap.push PySem.W.emptyDict) (t':=s.toks) (fun b u q=>Heap.get?_push_of_some _ q) (Nat.le_refl _) ⟨_,e1⟩
  refine I1.laid (a:=s.heap.objs.size+1) (o:=.ins C s.heap.objs.size []) (t':=s.toks) (fun b u q=>Heap.get?_push_of_some _ q) (Nat.le_of_eq (Heap.size_push _ _)) ?_
  have ne:s.heap.objs.size≠s.heap.objs.size+1:=Nat.ne_of_lt (Nat.lt_succ_self _)
  refine⟨by rw[ap ne,ae],Nat.zero_le _,ne,e2,fun _=>none,(Heap.Ns1.of_empty e3).at fun o q=>Heap.get?_push_of_some _ q,fun _=>True.intro,fun y hy=>absurd rfl hy⟩
theorem zjV {prog:Program} {w:World} {env:Env} {e:Expr} {f:Str} {pos:Pos} {s:Shared} {Q:Value→Shared→Prop} (hb:attributeBase e f env (eval e env)=eval e env)
    (h:wpAny (model prog w) A (eval e env) (fun o s₁=>wpAny (model prog w) A (getAttr o f true) Q E s₁) E s):wpAny (model prog w) A (eval (.Attribute e f pos) env) Q E s :=
  Attribute_any_ h (by rw[arm_eval_Attribute,hb])
end
def tFld (K:PySem.W.Frag) (ta:TE) (f:Str):TE:=fun σ H Q=>ta σ H fun x H1=>∃ a C dx fs v,x=.ref a∧H1 a=some (.ins C dx fs)∧Cls K C∧zc3 K C f∧fs.lookup f=some v∧Q v H1
def sFld (K:PySem.W.Frag) (ta tv:TE) (f:Str):TS:=fun D σ H=>tv σ H fun y H1=>ta σ H1 fun x H2=>∃ a C dx fs,x=.ref a∧H2 a=some (.ins C dx fs)∧Cls K C∧zc3 K C f∧fs.length < 1000 ∧
  D.nx σ (upd H2 a (.ins C dx (zbM f y fs)))
section
variable {X:Cx} {o e value:Expr} {f:Str} {pos pos' tpos:Pos} {ta tv:TE}
theorem zey (he:PE X e ta) (hb:attributeBase e f X.env (eval e X.env)=eval e X.env):PE X (.Attribute e f pos) (tFld X.K ta f):=by
  intro pins s σ H Q I h
  refine zjV hb (thn (he pins s σ H _ I h) fun u s1 ⟨x,H1,I1,rx,a,C,dx,fs,v,ex,ea,c,n,l,q⟩=>?_)
  subst ex
  obtain rfl:u=Value.ref a:=rx
  exact zhF I1 ea c n l fun u' s2 I2 ru=>⟨v,H1,I2,ru,q⟩
theorem zhP (ha:PE X o ta) (hv:PE X value tv) (hs:swapsWith value (some (.Attribute o f pos')) pos.line X.env=pure false):PS X (.Assign [.Attribute o f pos'] value pos) (sFld X.K ta tv f):=by
  intro pins s σ H D I h
  refine plainObj_wpAny_Assign_Attribute (thn (hv pins s σ H _ I h) fun u s1 ⟨y,H1,I1,ry,q⟩=>thn (ha pins s1 σ H1 _ I1 q) fun ov s2 ⟨x,H2,I2,rx,a,C,dx,fs,ex,ea,c,n,l,q2⟩=>?_) hs
  subst ex
  obtain rfl:ov=Value.ref a:=rx
  exact zhw I2 ea c n l ry fun s3 I3=>⟨σ,_,I3,q2⟩
theorem zj1 {pl:Sem Bool} {m:Str} {apos:Pos} {args:List Expr} {pins:List (Addr × Obj)} {s:Shared} {σ:St} {H:Hp} {Q:Value→Shared→Prop} {te:TE} (he:PE X e te) (I:Inv X pins σ H s)
    (h:te σ H fun x H1=>∃ a C dx fs g,x=.ref a∧H1 a=some (.ins C dx fs)∧Cls X.K C∧zcN X.K C m g∧fs.lookup m=none ∧
      ∀ s1,Inv X pins σ H1 s1→wpAny (model X.prog X.w) X.A (callWith pos (.ref g) [.ref a] (backTo pos (starEach args X.env)) (backToKw pos (keywordEach [] X.env))) Q X.xe s1)
    (ht:eval (.Call (.Attribute e m apos) args [] pos) X.env=(do
      let ov ←eval e X.env
      standAt apos.atName
      let (f,first) ←holding [ov] (getMethod ov m pl)
      callWith pos f first (backTo pos (starEach args X.env)) (backToKw pos (keywordEach [] X.env)))) :
    wpAny (model X.prog X.w) X.A (eval (.Call (.Attribute e m apos) args [] pos) X.env) Q X.xe s:=by
  refine PySem.W.methodCall_KW (pl:=pl) (thn (he pins s σ H _ I h) fun u s1 ⟨x,H1,I1,rx,a,C,dx,fs,g,ex,ea,c,k,l,q⟩=>?_) ht
  subst ex
  obtain rfl:u=Value.ref a:=rx
  exact zfT I1 ea c k l (q s1 I1)
end
section
variable {X:Cx} {pins:List (Addr × Obj)} {σ:St} {H:Hp} {s:Shared} {A:Around} {E:Value→Shared→Prop} {Q:Value→Shared→Prop} {c:Value} {b:Bool}
inductive zcw (K:PySem.W.Frag) (H:Hp):V→Value→Prop where
  | non:zcw K H .non (.type "NoneType")
  | bl (x:Bool):zcw K H (.bl x) (.type "bool")
  | int (i:Int):zcw K H (.int i) (.type "int")
  | str (x:Str):zcw K H (.str x) (.type "str")
  | flt (x:UInt64):zcw K H (.flt x) (.type "float")
  | lst {a:Addr} {xs:List V} (e:H a=some (.lst xs)):zcw K H (.ref a) (.type "list")
  | frz {a:Addr} {o:Obj} {xs:List V} (e:H a=some (.frz o (.lst xs))):zcw K H (.ref a) (.type "list")
  | tup {a:Addr} {xs:List V} (e:H a=some (.tup xs)):zcw K H (.ref a) (.type "tuple")
  | dK {a:Addr} {kvs:List (Key × V)} (e:H a=some (.dK kvs)):zcw K H (.ref a) (.type "dict")
  | dT {a:Addr} {kvs:List (List Key × V)} (e:H a=some (.dT kvs)):zcw K H (.ref a) (.type "dict")
  | ins {a C dx:Addr} {fs:List (Str × V)} (e:H a=some (.ins C dx fs)) (cl:Cls K C) (ha:PySem.W.findIn K (.ref C) "__class__"=some (some (.builtin "object.__class__")))
      (hn:PySem.W.specialIn K (.builtin "object.__class__") "__get__"=some (some (.builtin "getset_descriptor.__get__"))) (htk:PySem.W.takesIn K (.builtin "object.__class__")=some true)
      (hm:PySem.W.mroIn K C (.type "object")=some true):zcw K H (.ref a) (.ref C)
theorem zil {x:V} {u t:Value} (I:Inv X pins σ H s) (rx:ax x u) (ty:zcw X.K H x t) (e:PySem.W.kitOne X.K t c=some b) (h:∀ tk,Q (.bool b) { s with toks:=tk }) :
    wpAny (model X.prog X.w) A (call (.builtin "isinstance") [u,c]) Q E s:=by
  cases ty with
  | non=>cases (show u=Value.none from rx);exact PySem.W.kia_one PySem.W.kitx_none I.kIn True.intro e (fun z=>nomatch z) h
  | bl y=>cases (show u=Value.bool y from rx);exact PySem.W.kia_one PySem.W.kitx_bool I.kIn True.intro e (fun z=>nomatch z) h
  | int i=>obtain⟨t,q⟩:=(show ∃ t,u=Value.int i t from rx);cases q;exact PySem.W.kia_one PySem.W.kitx_int I.kIn True.intro e (fun z=>nomatch z) h
  | str y=>obtain⟨t,q⟩:=(show ∃ t,u=Value.str y t from rx);cases q;exact PySem.W.kia_one PySem.W.kitx_str I.kIn True.intro e (fun z=>nomatch z) h
  | flt y=>obtain⟨t,q⟩:=(show ∃ t,u=Value.float y t from rx);cases q;exact PySem.W.kia_one PySem.W.kitx_float I.kIn True.intro e (fun z=>nomatch z) h
  | @lst a xs ea =>
    cases (show u=Value.ref a from rx)
    obtain⟨_,_,n,_,h1⟩:=(show zaL X.prog X.w H s.heap a (.lst xs) from I.hok a _ ea)
    exact PySem.W.kia_one PySem.W.kitx_list I.kIn ⟨_,h1,rfl⟩ e (fun z=>nomatch z) h
  | @frz a ob xs ea =>
    cases (show u=Value.ref a from rx)
    obtain⟨_,_,_,n,_,h1⟩:=(show zaL X.prog X.w H s.heap a (.frz ob (.lst xs)) from I.hok a _ ea)
    exact PySem.W.kia_one PySem.W.kitx_list I.kIn ⟨_,h1,rfl⟩ e (fun z=>nomatch z) h
  | @tup a xs ea =>
    cases (show u=Value.ref a from rx)
    obtain⟨_,_,_,p⟩:=(show zaL X.prog X.w H s.heap a (.tup xs) from I.hok a _ ea)
    obtain⟨o,h1,h2,_⟩:=p
    exact PySem.W.kia_one PySem.W.kitx_tuple I.kIn ⟨o,h1,h2⟩ e (fun z=>nomatch z) h
  | @dK a kvs ea =>
    cases (show u=Value.ref a from rx)
    obtain⟨_,_,vs,_,p⟩:=(show zaL X.prog X.w H s.heap a (.dK kvs) from I.hok a _ ea)
    obtain⟨o,es,ep,h1,h2,_⟩:=p
    exact PySem.W.kia_one PySem.W.kitx_dict I.kIn ⟨o,h1,h2.1⟩ e (fun z=>nomatch z) h
  | @dT a kvs ea =>
    cases (show u=Value.ref a from rx)
    obtain⟨_,_,xs,_,o,es,ep,h1,h2,_⟩:=(show zaL X.prog X.w H s.heap a (.dT kvs) from I.hok a _ ea)
    exact PySem.W.kia_one PySem.W.kitx_dict I.kIn ⟨o,h1,h2.1⟩ e (fun z=>nomatch z) h
  | @ins a C dx fs ea cl ha hn htk hm =>
    cases (show u=Value.ref a from rx)
    obtain⟨mA,O,_⟩:=ze4 I.hok ea
    obtain⟨od,J,_⟩:=O.look
    exact PySem.W.kia_one (PySem.W.kitx_own (cl.get _) cl.hd ha hn htk hm) I.kIn J e (fun z=>nomatch z) h
end
end L2
namespace L2
open PySem PySem.Spec PyProof.Rows
structure zaE (k:Nat) (A:Around):Prop where
  hd:A.handled=none
  dp:A.depth+3 * k+5 < recursionLimit
  un:A.units+16 * k+200 < cLine
  gd:A.guards=some []
theorem zaE.mono {j k:Nat} {A:Around} (r:zaE k A) (h:j≤k):zaE j A:=⟨r.hd,by have:=r.dp;omega,by have:=r.un;omega,r.gd⟩
theorem zaE.deeper {k:Nat} {A:Around} (r:zaE (k+1) A) (env:Env):zaE k (A.deeper env) :=
  ⟨r.hd,by have:=r.dp;show A.depth+1+3 * k+5 < _;omega,by have:=r.un;show A.units+3+16 * k+200 < _;omega,r.gd⟩
theorem zhD {A:Around} {C:Addr} {us:List Value} {kw:List (Str × Value)}:(A.under (.builtin "type.__call__" ⟨.ref C :: us,kw⟩)).depth=A.depth+1:=by
  first | rfl | simp [Around.under,Code.weight,Code.isCreation,Code.isGuard,Code.isCaller,Code.frames,Code.isFrame,guardIds]
theorem zhC {A:Around} {C:Addr} {us:List Value} {kw:List (Str × Value)}:(A.under (.builtin "type.__call__" ⟨.ref C :: us,kw⟩)).units=A.units+1:=by
  first | rfl | simp [Around.under,Code.cUnits,Code.frames,Code.isFrame]
theorem zg0 {A:Around} {C:Addr} {us:List Value} {kw:List (Str × Value)} (h:A.guards=some []):(A.under (.builtin "type.__call__" ⟨.ref C :: us,kw⟩)).guards=some []:=by
  first | exact h | simp [Around.under,Code.guards,Code.isGuard,guardIds,pushGuards,h]
theorem zaE.make {k:Nat} {A:Around} (r:zaE (k+1) A) (C:Addr) (us:List Value) (kw:List (Str × Value)):zaE k (A.under (.builtin "type.__call__" ⟨.ref C :: us,kw⟩)) :=
  ⟨r.hd,by have:=r.dp;rw[zhD];omega,by have:=r.un;rw[zhC];omega,zg0 r.gd⟩
theorem zaE.depth {k:Nat} {A:Around} (r:zaE k A):A.depth < recursionLimit:=by have:=r.dp;omega
theorem zaE.units {k:Nat} {A:Around} (r:zaE k A):A.units+64 < cLine:=by have:=r.un;omega
def tNil:TA:=fun _ H Q=>Q [] H
def tCons (ta:TE) (tr:TA):TA:=fun σ H Q=>ta σ H fun x H1=>tr σ H1 fun xs H2=>Q (x :: xs) H2
section
variable {X:Cx} {e:Expr} {es:List Expr} {te:TE} {t:TA} {pos:Pos}
theorem ac:PA X [] tNil:=fun _ _ _ _ H Q I h=>Calls.spliced_nil ⟨[],H,I,.nil,h⟩
theorem aa (ha:PE X e te) (hr:PA X es t) (hs:starEach (e :: es) X.env=(false,eval e X.env) :: starEach es X.env:=by rfl):PA X (e :: es) (tCons te t):=by
  intro pos pins s σ H Q I h
  rw[hs]
  show wpAny _ _ (spliced ((false,eval e X.env) :: backTo pos (starEach es X.env))) _ _ s
  refine Calls.spliced_cons (thn (ha pins s σ H _ I h) fun u s1 ⟨x,H1,I1,r1,q1⟩=>?_)
  exact thn (hr pos pins s1 σ H1 _ I1 q1) fun us s2 ⟨xs,H2,I2,r2,q2⟩=>⟨x :: xs,H2,I2,.cons r1 r2,q2⟩
def tTup (t:TA):TE:=fun σ H Q=>t σ H fun xs H1=>xs.length≤sizeLine∧∀ p,H1 p=none→Q (.ref p) (upd H1 p (.tup xs))
def tLst (t:TA):TE:=fun σ H Q=>t σ H fun xs H1=>xs.length≤sizeLine∧∀ p,H1 p=none→Q (.ref p) (upd H1 p (.lst xs))
theorem zaN {x1} (h:PA X es t):PE X (.Tuple es x1 pos) (tTup t):=by
  intro pins s σ H Q I hq
  refine wpAny_Tuple_spliced (thn (h pos pins s σ H _ I hq) fun us s1 ⟨xs,H1,I1,r,z,q⟩=>⟨by rw[←r.length];exact z,?_⟩)
  have hf:H1 s1.heap.objs.size=none:=I1.hok.fresh (Nat.le_refl _)
  refine⟨.ref s1.heap.objs.size,upd H1 s1.heap.objs.size (.tup xs),I1.laid (t':=s1.toks) (fun b u e=>Heap.get?_push_of_some _ e) (Nat.le_refl _) ?_,rfl,q _ hf⟩
  exact⟨z,us,r,⟨_,Heap.get?_push_size _ rfl,rfl,_,rfl⟩⟩
theorem zaF (h:PA X es t):PE X (.List es pos) (tLst t):=by
  intro pins s σ H Q I hq
  refine wpAny_List_spliced (thn (h pos pins s σ H _ I hq) fun us s1 ⟨xs,H1,I1,r,z,q⟩=>⟨by rw[←r.length];exact z,?_⟩)
  have hf:H1 s1.heap.objs.size=none:=I1.hok.fresh (Nat.le_refl _)
  refine⟨.ref s1.heap.objs.size,upd H1 s1.heap.objs.size (.lst xs),I1.laid (t':=s1.toks) (fun b u e=>Heap.get?_push_of_some _ e) (Nat.le_refl _) ?_,rfl,q _ hf⟩
  exact⟨z,us,0,r,Heap.get?_push_size _ rfl⟩
end
abbrev Sp:=List V→Hp→VK→XK→Prop
abbrev CXT:=List Env→Hp→Shared→XK→Value→Shared→Prop
structure zfj (P:Program) (w:World) (K:PySem.W.Frag) (mg:Str→Option Value) (base:Heap) (A:Around) (outer:List Env) (s:Shared) (H:Hp):Prop where
  frames:A.frames=some outer
  mod:Mod K mg base
  bs:∀ b o,base.get? b=some o→s.heap.get? b=some o∧H b=none
  bsz:base.objs.size≤s.heap.objs.size
  funs:s.heap.FunFrames base outer
  frf:∀ b∈frs outer,H b=none
  hok:HOk P w H s.heap
  bare:AllBare s.gens
def CE (outer:List Env) (P:Program) (w:World) (H:Hp) (s:Shared) (Q:VK) (u:Value) (s':Shared):Prop :=
  ∃ v H',s'.os=s.os∧AllBare s'.gens∧Un (frs outer) [] H H' s.heap s'.heap∧HOk P w H' s'.heap∧ax v u∧Q v H'
def CR (CX:CXT) (outer:List Env) (P:Program) (w:World) (H:Hp) (s:Shared) (Q:VK) (E:XK) (r:Result) (s':Shared):Prop :=
  match r with
  | .ok (.ret u)=>CE outer P w H s Q u s'
  | .ok _=>False
  | .error e=>CX outer H s E e s'
structure zay (P:Program) (w:World) (K:PySem.W.Frag) (mg:Str→Option Value) (base:Heap) (CX:CXT) (k:Nat) (f:Addr) (fd:FuncData) (ps:List Str) (sp:Sp):Prop where
  len:∀ vs H Q E,sp vs H Q E→vs.length=ps.length
  run:∀(A:Around) (outer:List Env) (s:Shared) (H:Hp) (args:Args) (us:List Value) (vs:List V) (Q:VK) (E:XK),zaE k A→zfj P w K mg base A outer s H→BindsTo s fd args (ps.zip us)→aw vs us→sp vs H Q E →
    codeAny (model P w) A (.call (.ref f) args) (CR CX outer P w H s Q E) s
theorem zfj.make {P:Program} {w:World} {K:PySem.W.Frag} {mg:Str→Option Value} {base:Heap} {A:Around} {outer:List Env} {s:Shared} {H:Hp} (e:zfj P w K mg base A outer s H) (C:Addr) (us:List Value) (kw:List (Str × Value)) :
    zfj P w K mg base (A.under (.builtin "type.__call__" ⟨.ref C :: us,kw⟩)) outer s H:=⟨by first | exact e.frames | (simpa [Around.under,Code.envs,Code.isFrame,pushEnvs] using e.frames),e.mod,e.bs,e.bsz,e.funs,e.frf,e.hok,e.bare⟩
section
variable {X:Cx} {pins:List (Addr × Obj)} {σ:St} {H:Hp} {s s':Shared}
theorem Inv.env0 (I:Inv X pins σ H s):zfj X.prog X.w X.K X.mg X.base X.A X.stack s H :=
  ⟨I.ok.frames,I.ok.mod,I.bs,Nat.le_trans I.ok.bsz I.sz,I.stack,I.stkFree,I.hok,I.bare⟩
theorem Inv.after {Q:VK} {u:Value} (I:Inv X pins σ H s) (h:CE X.stack X.prog X.w H s Q u s'):EP X pins σ Q u s':=by
  obtain⟨v,H',os,bare,un,hok,r,q⟩:=h
  obtain⟨hh,g,d,t,os'⟩:=s'
  obtain rfl:os'=s.os:=os
  exact⟨v,H',I.call (h':=hh) (g':=g) (d':=d) (t':=t) (ch:=[]) un hok bare (fun b z=>absurd z (by simp)),r,q⟩
end
def tCall (sp:Sp) (dvs:List V) (E:XK) (t:TA):TE:=fun σ H Q=>t σ H fun vs H1=>sp (vs++dvs) H1 Q E
def tMeth (C:Addr) (m:Str) (sp:Sp) (dvs:List V) (E:XK) (ta:TE) (t:TA):TE:=fun σ H Q=>ta σ H fun x H1=>∃ a dx fs,x=.ref a∧H1 a=some (.ins C dx fs)∧fs.lookup m=none ∧
  t σ H1 fun vs H2=>sp (x :: (vs++dvs)) H2 Q E
def tMake (C:Addr) (sp:Sp) (dvs:List V) (E:XK) (t:TA):TE:=fun σ H Q=>t σ H fun vs H1=>∀ x dx,H1 x=none→H1 dx=none→dx≠x →
  sp (.ref x :: (vs++dvs)) (upd (upd H1 dx (.own x)) x (.ins C dx [])) (fun v H2=>v=.non∧Q (.ref x) H2) E
def zbI (K:PySem.W.Frag) (fd:FuncData) (ps:List Str) (ds:List Value):Prop :=
  ∀(s:Shared) (us:List Value),K.In s.heap→(us++ds).length=ps.length→BindsTo s fd ⟨us,[]⟩ (ps.zip (us++ds))
theorem zbI.all {K:PySem.W.Frag} {fd:FuncData} {ps:List Str} (h:∀ us:List Value,us.length=ps.length→bindArgs fd ⟨us,[]⟩=pure (ps.zip us)):zbI K fd ps []:=fun s us _ hl=>by
  rw[List.append_nil]at hl ⊢
  exact .of_eq (h us hl)
def zct (CX:CXT) (X:Cx) (E:XK):Prop:=∀(pins:List (Addr × Obj)) (σ:St) (H:Hp) (s:Shared) (e:Value) (s':Shared),Inv X pins σ H s→CX X.stack H s E e s'→X.xe e s'
section
variable {X:Cx} {CX:CXT} {k:Nat} {f C:Addr} {fd:FuncData} {ps:List Str} {sp:Sp} {dvs:List V} {ds:List Value} {E:XK} {x m:Str} {p pos apos:Pos} {e o:Expr} {es:List Expr} {ta:TE} {t:TA}
theorem zhO {pins:List (Addr × Obj)} {σ:St} {H:Hp} {s:Shared} {Q:VK} {us:List Value} {vs:List V} (F:zay X.prog X.w X.K X.mg X.base CX k f fd ps sp) (hr:zaE k X.A) (hb:zbI X.K fd ps ds) (hd:aw dvs ds) (hx:zct CX X E)
    (I:Inv X pins σ H s) (r:aw vs us) (h:sp (vs++dvs) H Q E):wpAny (model X.prog X.w) X.A (call (.ref f) us) (EP X pins σ Q) X.xe s:=by
  have r2:aw (vs++dvs) (us++ds):=r.append hd
  have hl:(us++ds).length=ps.length:=by rw[←r2.length];exact F.len _ _ _ _ h
  refine wpAny_call (codeAny_mono (F.run X.A X.stack s H ⟨us,[]⟩ (us++ds) (vs++dvs) Q E hr I.env0 (hb s us I.kIn hl) r2 h) fun r s' hq=>?_)
  cases r with
  | error e=>exact hx pins σ H s e s' I hq
  | ok fl =>
    cases fl with
    | ret u=>exact I.after hq
    | next=>exact False.elim hq
    | brk=>exact False.elim hq
    | cont=>exact False.elim hq
theorem zac (F:zay X.prog X.w X.K X.mg X.base CX k f fd ps sp) (hr:zaE k X.A) (hg:Gl X x) (hm:X.mg x=some (.ref f)) (hk:PySem.W.keepIn X.K (.ref f)=true) (hb:zbI X.K fd ps ds) (hd:aw dvs ds) (hx:zct CX X E)
    (ha:PA X (e :: es) t) (hdb:(x == ("__debug__":Str))=false:=by decide) (he:starEach (e :: es) X.env=(false,eval e X.env) :: starEach es X.env:=by rfl) (hpl:(backTo pos (starEach es X.env)).any (·.1)=false:=by rfl) :
    PE X (.Call (.Name x p) (e :: es) [] pos) (tCall sp dvs E t):=by
  intro pins s σ H Q I h
  refine wpAny_Call_Name_kw (zd7 I hg hm ?_ hdb)
  refine PySem.W.callWith_K (h₀:=X.base) I.ok.mod.kin hk (thn (ha pos pins s σ H _ I h) fun us s1 ⟨vs,H1,I1,r,q⟩=>⟨I1.kIn,?_⟩) he hpl
  exact zhO F hr hb hd hx I1 r q
theorem zbU {pl:Sem Bool} (he:PE X o ta) (c:Cls X.K C) (hm:zcN X.K C m f) (F:zay X.prog X.w X.K X.mg X.base CX k f fd ps sp) (hr:zaE k X.A) (hb:zbI X.K fd ps ds) (hd:aw dvs ds) (hx:zct CX X E) (ha:PA X (e :: es) t)
    (hst:starEach (e :: es) X.env=(false,eval e X.env) :: starEach es X.env:=by rfl) (hpl:(backTo pos (starEach es X.env)).any (·.1)=false:=by rfl)
    (ht:eval (.Call (.Attribute o m apos) (e :: es) [] pos) X.env=(do
      let ov ←eval o X.env
      standAt apos.atName
      let (f,first) ←holding [ov] (getMethod ov m pl)
      callWith pos f first (backTo pos (starEach (e :: es) X.env)) (backToKw pos (keywordEach [] X.env))):=by rfl) :
    PE X (.Call (.Attribute o m apos) (e :: es) [] pos) (tMeth C m sp dvs E ta t):=by
  intro pins s σ H Q I h
  refine PySem.W.methodCall_KW (pl:=pl) (thn (he pins s σ H _ I h) fun u s1 ⟨x,H1,I1,rx,a,dx,fs,ex,ea,l,q⟩=>?_) ht
  subst ex
  obtain rfl:u=Value.ref a:=rx
  refine zfT I1 ea c hm l ?_
  refine PySem.W.callWith_K (first:=[.ref a]) (h₀:=X.base) I.ok.mod.kin hm.kp (thn (ha pos pins s1 σ H1 _ I1 q) fun us s2 ⟨vs,H2,I2,r,q2⟩=>⟨I2.kIn,?_⟩) hst hpl
  exact zhO (us:=.ref a :: us) (vs:=.ref a :: vs) F hr hb hd hx I2 (.cons rfl r) q2
structure Mk (K:PySem.W.Frag) (C f:Addr):Prop where
  makes:PySem.W.makesIn K C=true
  init:PySem.W.findIn K (.ref C) "__init__"=some (some (.ref f))
  fn:PySem.W.isFn K (.ref f)=true
  kp:PySem.W.keepIn K (.ref C)=true
theorem ziC {pins:List (Addr × Obj)} {σ:St} {H:Hp} {s:Shared} {Q:VK} {us:List Value} {vs:List V} (M:Mk X.K C f) (F:zay X.prog X.w X.K X.mg X.base CX k f fd ps sp) (hr:zaE (k+1) X.A) (hb:zbI X.K fd ps ds) (hd:aw dvs ds)
    (hx:zct CX X E) (I:Inv X pins σ H s) (r:aw vs us)
    (h:∀ x dx,H x=none→H dx=none→dx≠x→sp (.ref x :: (vs++dvs)) (upd (upd H dx (.own x)) x (.ins C dx [])) (fun v H2=>v=.non∧Q (.ref x) H2) E) :
    wpAny (model X.prog X.w) X.A (call (.ref C) us) (EP X pins σ Q) X.xe s:=by
  have hq:=h (s.heap.objs.size+1) s.heap.objs.size (I.hok.fresh (Nat.le_succ _)) (I.hok.fresh (Nat.le_refl _)) (Nat.ne_of_lt (Nat.lt_succ_self _))
  have I2:=Inv.made (C:=C) I
  have r2:aw (V.ref (s.heap.objs.size+1) :: (vs++dvs)) (Value.ref (s.heap.objs.size+1) :: (us++ds)):=.cons rfl (r.append hd)
  have hl:(Value.ref (s.heap.objs.size+1) :: us++ds).length=ps.length:=by
    have e:=r2.length
    rw[F.len _ _ _ _ hq]at e
    exact e.symm
  refine wpAny_call (ziZ (f:=f) I.kIn M.makes M.init (beq_iff_eq.mp M.fn) (codeAny_mono (F.run _ X.stack _ _ ⟨Value.ref (s.heap.objs.size+1) :: us,[]⟩ (Value.ref (s.heap.objs.size+1) :: (us++ds)) _ _ E (hr.make C us [])
    (I2.env0.make C us []) (hb _ (Value.ref (s.heap.objs.size+1) :: us) I2.kIn hl) r2 hq) fun r s' hq'=>?_))
  cases r with
  | error e=>exact hx pins σ _ _ e s' I2 hq'
  | ok fl =>
    cases fl with
    | ret u =>
      obtain⟨v,H',I3,rv,ev,q3⟩:=I2.after hq'
      subst ev
      exact⟨rv,⟨V.ref (s.heap.objs.size+1),H',I3,rfl,q3⟩⟩
    | next=>exact False.elim hq'
    | brk=>exact False.elim hq'
    | cont=>exact False.elim hq'
theorem ziJ (M:Mk X.K C f) (F:zay X.prog X.w X.K X.mg X.base CX k f fd ps sp) (hr:zaE (k+1) X.A) (hg:Gl X x) (hm:X.mg x=some (.ref C)) (hb:zbI X.K fd ps ds) (hd:aw dvs ds) (hx:zct CX X E)
    (hdb:(x == ("__debug__":Str))=false:=by decide):PE X (.Call (.Name x p) [] [] pos) (tMake C sp dvs E tNil):=by
  intro pins s σ H Q I h
  refine wpAny_Call_Name_kw (zd7 I hg hm ?_ hdb)
  exact PySem.W.callWith_K0 I.kIn M.kp (ziC (us:=[]) M F hr hb hd hx I .nil h)
end
section
variable {X:Cx} {CX:CXT} {k:Nat} {f C:Addr} {fd:FuncData} {ps ks:List Str} {sp:Sp} {E:XK} {x m:Str} {p pos apos kpos:Pos} {e o:Expr} {es:List Expr} {kws:List Keyword} {te ta:TE} {t tk:TA} {nm:Option Str}
variable {g:List Value→List Value→List Value} {gV:List V→List V→List V}
end
structure zap (N P:List Str) (sc:Scope):Prop where
  kind:sc.kind=.function
  co:sc.isCoroutine=false
  gen:sc.isGenerator=false
  nd:N.Nodup
  pre:N.take P.length=P
  par:∀ x∈P,sc.names.lookup x=some .local∨sc.names.lookup x=some .cell
  nofree:∀ y∈sc.names,y.2≠.free
theorem zgm {kindOf:Str→Option NameKind} {x:Str}:∀ {binds:List (Str × Value)} {m:Str→Option Value},(∀ v,(x,v)∉binds)→bindL kindOf binds m x=m x
  | [],_,_=>rfl
  | (n,v) :: r,m,h=>by
    unfold bindL
    rw[zgm fun w hw=>h w (List.mem_cons_of_mem _ hw)]
    split
    · have:x≠n:=by rintro rfl;exact h v List.mem_cons_self
      simp [this]
    · rfl
theorem zgo {kindOf:Str→Option NameKind} {x:Str}:∀ {binds:List (Str × Value)} {m:Str→Option Value},(∀ v,(x,v)∉binds)→bindC kindOf binds m x=m x
  | [],_,_=>rfl
  | (n,v) :: r,m,h=>by
    unfold bindC
    rw[zgo fun w hw=>h w (List.mem_cons_of_mem _ hw)]
    split
    · rfl
    · have:x≠n:=by rintro rfl;exact h v List.mem_cons_self
      simp [this]
theorem zgn {kindOf:Str→Option NameKind} {x:Str} {v:Value}:∀ {P:List Str} {vs:List Value} {i:Nat} {m:Str→Option Value},P.Nodup→P[i]?=some x→vs[i]?=some v→kindOf x=some .local →
    bindL kindOf (P.zip vs) m x=some v
  | [],_,_,_,_,h,_,_=>by simp at h
  | _ :: _,[],_,_,_,_,h,_=>by simp at h
  | p :: P,w :: vs,0,m,nd,h1,h2,hk=>by
    simp at h1 h2;subst h1;subst h2
    show bindL kindOf ((p,w) :: P.zip vs) m p=_
    unfold bindL
    rw[zgm fun v hv=>(List.nodup_cons.mp nd).1 (List.of_mem_zip hv).1,if_pos hk]
    simp
  | p :: P,w :: vs,i+1,m,nd,h1,h2,hk=>by
    show bindL kindOf ((p,w) :: P.zip vs) m x=_
    unfold bindL
    exact zgn (i:=i) (List.nodup_cons.mp nd).2 (by simpa using h1) (by simpa using h2) hk
theorem zgp {kindOf:Str→Option NameKind} {x:Str} {v:Value}:∀ {P:List Str} {vs:List Value} {i:Nat} {m:Str→Option Value},P.Nodup→P[i]?=some x→vs[i]?=some v→kindOf x≠some .local →
    bindC kindOf (P.zip vs) m x=some v
  | [],_,_,_,_,h,_,_=>by simp at h
  | _ :: _,[],_,_,_,_,h,_=>by simp at h
  | p :: P,w :: vs,0,m,nd,h1,h2,hk=>by
    simp at h1 h2;subst h1;subst h2
    show bindC kindOf ((p,w) :: P.zip vs) m p=_
    unfold bindC
    rw[zgo fun v hv=>(List.nodup_cons.mp nd).1 (List.of_mem_zip hv).1,if_neg hk]
    simp
  | p :: P,w :: vs,i+1,m,nd,h1,h2,hk=>by
    show bindC kindOf ((p,w) :: P.zip vs) m x=_
    unfold bindC
    exact zgp (i:=i) (List.nodup_cons.mp nd).2 (by simpa using h1) (by simpa using h2) hk
def zda (N:List Str) (vs:List V):St:=vs.map some++List.replicate (N.length - vs.length) none
def zb2 (CX:CXT) (P:Program) (w:World) (K:PySem.W.Frag) (mg:Str→Option Value) (base:Heap) (N:List Str) (qual:Str) (scope:Scope) (f:Addr) (cd:Value) (A:Around) (outer:List Env) (s:Shared) (H:Hp) (E:XK):Cx where
  prog:=P
  w:=w
  K:=K
  mg:=mg
  base:=base
  A:=A.deeper (envOfC qual scope s.heap.objs.size f cd)
  N:=N
  s₀:=s
  H₀:=H
  env:=envOfC qual scope s.heap.objs.size f cd
  outer:=outer
  stack:=envOfC qual scope s.heap.objs.size f cd :: outer
  ex:=[]
  calm:=true
  fn:=fun _=>true
  pn:=[]
  xe:=fun e s'=>wpAny (model P w) (A.deeper (envOfC qual scope s.heap.objs.size f cd)) (leaving (envOfC qual scope s.heap.objs.size f cd) e) (fun _ s''=>CX outer H s E e s'') (fun e' s''=>CX outer H s E e' s'') s'
theorem zgO {sc:Scope} {n:Nat} {x:Str} (h:sc.names.lookup x=some .cell):∃ c,(cellsFrom n sc.names []).lookup x=some c:=by
  have q:=PySem.W.cellsFrom_some sc.names n [] (.inl h)
  exact Option.isSome_iff_exists.mp q
theorem zim {CX:CXT} {P:Program} {w:World} {K:PySem.W.Frag} {mg:Str→Option Value} {base:Heap} {N ps:List Str} {qual:Str} {scope:Scope} {f:Addr} {cd:Value} {A:Around} {outer:List Env} {s s1:Shared} {H:Hp} {E:XK} {us:List Value} {vs:List V}
    (S:zap N ps scope) (hd:A.handled=none) (e0:zfj P w K mg base A outer s H) (hl:vs.length=ps.length) (r:aw vs us)
    (x:InCallC s s.heap.objs.size (bindL (envOfC qual scope s.heap.objs.size f cd).kindOf (ps.zip us) fun _=>none) (cellsFrom (s.heap.objs.size+1) scope.names []) (bindC (envOfC qual scope s.heap.objs.size f cd).kindOf (ps.zip us) fun _=>none) s1) :
    Inv (zb2 CX P w K mg base N qual scope f cd A outer s H E) [] (zda N vs) H s1:=by
  have hpl:ps.length≤N.length:=by have:=congrArg List.length S.pre;rw[List.length_take]at this;omega
  obtain⟨h1,tk,rfl,hk⟩:=x.done
  have noA:∀ b:Addr,b∉(zb2 CX P w K mg base N qual scope f cd A outer s H E).ex:=fun b z=>absurd (show b∈([]:List Addr) from z) (by simp)
  refine⟨⟨e0.mod,S.kind,rfl,rfl,Nat.le_refl _,fun y z c h1 h2=>?_,fun y hy=>?_,fun y c _ h=>?_,fun _=>hd,Around.frames_deeper e0.frames,.inr ⟨rfl,rfl⟩,fun b z=>absurd z (noA b),e0.bs,e0.bsz,fun b _ _=>noA b,fun b z=>absurd z (noA b),e0.funs,e0.frf⟩,
    rfl,e0.bare,Un.kept hk,⟨_,x.toInCall.ns,fun i y v h1 h2 h3=>?_⟩,fun y c h=>⟨_,x.cell y c h⟩,e0.hok.fresh (Nat.le_refl _),fun y c h=>?_,fun p hp=>absurd (show p∈([]:List (Addr × Obj)) from hp) (by simp),e0.hok.kept hk,?_⟩
  · exact name_of_addr x.apart (PySem.mem_of_lookup h1) (PySem.mem_of_lookup h2)
  · have hy:scope.names.lookup y=some .cell∨scope.names.lookup y=some .free:=hy
    rcases hy with hy | hy
    · exact zgO hy
    · exact absurd rfl (S.nofree _ (PySem.mem_of_lookup hy))
  · exact Nat.le_of_lt (x.above y c (PySem.mem_of_lookup h))
  · have hi:i < vs.length:=by
      unfold zda at h2
      by_cases hi:i < vs.length
      · exact hi
      · rw[List.getElem?_append_right (by simpa using hi)]at h2
        rw[List.getElem?_replicate]at h2
        split at h2 <;> cases h2
    have ha:vs[i]?=some v:=by
      unfold zda at h2
      rw[List.getElem?_append_left (by simpa using hi),List.getElem?_map]at h2
      cases e:vs[i]? with
      | none=>rw[e]at h2;cases h2
      | some a=>rw[e]at h2;cases h2;rfl
    obtain⟨u,hu,rv⟩:=r.get ha
    have hp:ps[i]?=some y:=by
      rw[←S.pre,List.getElem?_take_of_lt (by omega)];exact h1
    have ndP:ps.Nodup:=by rw[←S.pre];exact S.nd.sublist (List.take_sublist _ _)
    refine⟨u,rv,?_⟩
    rcases S.par y (List.mem_of_getElem? hp) with k | k
    · exact .inl ⟨k,zgn ndP hp hu k⟩
    · obtain⟨c,e⟩:=zgO (n:=s.heap.objs.size+1) k
      refine .inr ⟨.inl k,c,e,?_⟩
      have q:=x.cell y c e
      rw[zgp ndP hp hu (by show scope.names.lookup y≠_;rw[k];decide)]at q
      exact q
  · exact e0.hok.fresh (Nat.le_of_lt (x.above y c (PySem.mem_of_lookup h)))
  · unfold zda
    show _=N.length
    rw[List.length_append,List.length_map,List.length_replicate]
    omega
theorem fn_of {CX:CXT} {P:Program} {w:World} {K:PySem.W.Frag} {mg:Str→Option Value} {base:Heap} {k:Nat} {f:Addr} {name qual:Str} {params:Arguments} {body:List Stmt} {scope:Scope} {dV kV doc pm cdv ct oc:Value} {an od:Option Addr}
    {osl:Array (Option Value)} {N ps:List Str} {sp:Sp} (lk:K.lookup f=some ⟨oc,od,.func (PySem.W.fnOf name qual params body scope dV kV doc pm an cdv ct),osl⟩) (hcd:PySem.W.codeIn K cdv qual=true) (S:zap N ps scope)
    (len:∀ vs H Q E,sp vs H Q E→vs.length=ps.length)
    (hbody:∀(A:Around) (outer:List Env) (s:Shared) (H:Hp) (vs:List V) (Q:VK) (E:XK),zaE k (A.deeper (envOfC qual scope s.heap.objs.size f cdv))→sp vs H Q E →
      ∃ t,PSs (zb2 CX P w K mg base N qual scope f cdv A outer s H E) body t∧t { nx:=fun _ H'=>Q .non H',rt:=Q } (zda N vs) H) :
    zay P w K mg base CX (k+1) f (PySem.W.fnOf name qual params body scope dV kV doc pm an cdv ct) ps sp:=by
  refine⟨len,fun A outer s H args us vs Q E hr e0 hb r hsp=>?_⟩
  have hl:=len _ _ _ _ hsp
  have KX:K.In s.heap:=e0.mod.kin.keeps fun b o e=>(e0.bs b o e).1
  have lim:s.heap.NoLimit:=e0.mod.nolimit.keeps fun b o e=>(e0.bs b o e).1
  have hkind:∀ y∈ps.zip us,scope.names.lookup y.1=some .local∨(scope.names.lookup y.1=some .cell∧((cellsFrom (s.heap.objs.size+1) scope.names []).lookup y.1).isSome=true):=fun⟨n,v⟩ hy=>by
    rcases S.par n (List.of_mem_zip hy).1 with q | q
    · exact .inl q
    · exact .inr ⟨q,PySem.W.cellsFrom_some _ _ _ (.inl q)⟩
  refine codeAny_call_function hr.depth (KX _ _ lk) rfl S.co S.gen rfl (PySem.W.codeRec_of KX hcd) (hb _ _ _ _ ?_)
  refine wpAny_newFunctionEnv_cells S.kind hkind fun env he s1 x=>?_
  subst he
  refine⟨lim.keeps x.toInCall.keep,codeAny_func ?_⟩
  obtain⟨t,ht,hq⟩:=hbody A outer s H vs Q E (hr.deeper _) hsp
  have I:Inv (zb2 CX P w K mg base N qual scope f cdv A outer s H E) [] (zda N vs) H s1:=zim S hr.hd e0 hl r x
  refine wpAny_mono (ht [] s1 (zda N vs) H _ I hq) (fun fl s' hs=>?_) fun e s' hs=>hs
  have fin:∀ {σ':St} {H':Hp} {v:V} {u:Value},Inv (zb2 CX P w K mg base N qual scope f cdv A outer s H E) [] σ' H' s'→ax v u→Q v H'→CE outer P w H s Q u s' :=
    fun {σ' H' v u} J rv q=>⟨v,H',J.os,J.bare,J.base,J.hok,rv,q⟩
  cases fl with
  | ret u =>
    obtain⟨v,σ',H',J,rv,q⟩:=hs
    exact fin J rv q
  | next =>
    obtain⟨σ',H',J,q⟩:=hs
    exact fin (v:=V.non) (u:=Value.none) J rfl q
  | brk =>
    obtain⟨_,_,_,q⟩:=hs
    exact False.elim q
  | cont =>
    obtain⟨_,_,_,q⟩:=hs
    exact False.elim q
end L2
namespace L2
open PySem PySem.Spec PyProof.Rows
section
variable {X:Cx} {x:Str} {p pos:Pos} {e:Expr} {es:List Expr} {t:TA} {id T:String} {r:List V→Hp→VK→Prop}
def tCB (r:List V→Hp→VK→Prop) (t:TA):TE:=fun σ H Q=>t σ H fun vs H1=>r vs H1 Q
theorem zab (hc:zbS X (.builtin id) r) (hg:Gl X x) (hm:X.mg x=none) (hv:bootBuiltins x=some (.builtin id)) (ha:PA X (e :: es) t) (hn:x≠"__name__":=by decide) (hdb:(x == ("__debug__":Str))=false:=by decide)
    (he:starEach (e :: es) X.env=(false,eval e X.env) :: starEach es X.env:=by rfl) (hpl:(backTo pos (starEach es X.env)).any (·.1)=false:=by rfl):PE X (.Call (.Name x p) (e :: es) [] pos) (tCB r t):=by
  intro pins s σ H Q I h
  refine wpAny_Call_Name_kw (zcI I hg hm hv ?_ hn hdb)
  exact PyProof.Rows.callWith_builtin1 (thn (ha pos pins s σ H _ I h) fun us s1 ⟨vs,H1,I1,r1,q1⟩=>hc pins s1 σ H1 vs us Q I1 r1 q1) he hpl
theorem zaD (hc:zbS X (.type T) r) (hg:Gl X x) (hm:X.mg x=none) (hv:bootBuiltins x=some (.type T)) (ha:PA X (e :: es) t) (hn:x≠"__name__":=by decide) (hdb:(x == ("__debug__":Str))=false:=by decide)
    (he:starEach (e :: es) X.env=(false,eval e X.env) :: starEach es X.env:=by rfl) (hpl:(backTo pos (starEach es X.env)).any (·.1)=false:=by rfl):PE X (.Call (.Name x p) (e :: es) [] pos) (tCB r t):=by
  intro pins s σ H Q I h
  refine wpAny_Call_Name_kw (zcI I hg hm hv ?_ hn hdb)
  exact PyProof.Rows.callWith_type1 (thn (ha pos pins s σ H _ I h) fun us s1 ⟨vs,H1,I1,r1,q1⟩=>hc pins s1 σ H1 vs us Q I1 r1 q1) he hpl
end
end L2
namespace HT
open PySem PyProof.Rows
section
open PySem.SeqAt
open PySem.AutoSeq1 (wpAny_loadPart')
open PySem.MeetsSeq PySem.MeetsSeq2 PySem.MeetsSeq3
end
section
variable {prog:Program} {w:World} {A:Around} {E:Value→Shared→Prop} {s:Shared}
theorem cat_tup {t b:Addr} {vs ws:List Value} {Q:Value→Shared→Prop} (ht:IsTup s.heap t vs.toArray) (hb:IsTup s.heap b ws.toArray) (hv:vs≠[])
    (h1:ws=[]→Q (.ref t) s) (h2:ws≠[]→Q (.ref s.heap.objs.size) { s with heap:=s.heap.push { cls:=.type "tuple",data:=.seq (vs++ws).toArray } })
    (hsz:vs.length+ws.length≤sizeLine):wpAny (model prog w) A (binaryOp .Add (.ref t) (.ref b)) Q E s:=by
  obtain⟨⟨cls,dd,data,sl⟩,ho,hc,n,hd⟩:=id ht
  obtain⟨⟨cls2,dd2,data2,sl2⟩,ho2,hc2,n2,hd2⟩:=id hb
  simp only at hc hd hc2 hd2
  subst hc hd hc2 hd2
  have e:vs.toArray++ws.toArray=(vs++ws).toArray:=by simp
  by_cases hw:ws=[]
  · exact concat_meets ⟨_,ho,rfl⟩ ⟨_,ho2,rfl⟩ noFill_tuple_add seq_tuple_add PySem.F.slot_tuple_add PySem.F.entry_tuple_add (PySem.F.args_tuple_add_2 _ _)
      (tuple_addW1 t b vs.toArray ws.toArray n n2 dd dd2 sl sl2 (by simpa using hv) (by simp [hw])) ⟨ho,ho2,h1 hw⟩
  · refine concat_meets ⟨_,ho,rfl⟩ ⟨_,ho2,rfl⟩ noFill_tuple_add seq_tuple_add PySem.F.slot_tuple_add PySem.F.entry_tuple_add (PySem.F.args_tuple_add_2 _ _)
      (tuple_addW2 t b vs.toArray ws.toArray n n2 dd dd2 sl sl2 (by simpa using hv) (by simpa using hw) (by rw[List.size_toArray,List.size_toArray];exact hsz)) ⟨ho,ho2,?_⟩
    rw[e]
    exact h2 hw
def sIx (n d:Nat):Option Int→Nat
  | none=>d
  | some v=>if v < 0 then(v+(n:Int)).toNat else min v.toNat n
theorem sIx_none (n d:Nat):sIx n d none=d:=rfl
theorem sIx_nat (n d k:Nat):sIx n d (some (k:Int))=min k n:=by
  show(if(k:Int) < 0 then((k:Int)+(n:Int)).toNat else min (k:Int).toNat n)=min k n
  rw[if_neg (by omega),Int.toNat_natCast]
end
end HT
namespace L2
open PySem PySem.Spec PyProof.Rows
abbrev TO:=St→Hp→(Option Int→Hp→Prop)→Prop
def PO (X:Cx) (e:Option Expr) (t:TO):Prop :=
  ∀(pins:List (Addr × Obj)) (s:Shared) (σ:St) (H:Hp) (Q:Option Int→Hp→Prop),Inv X pins σ H s→t σ H Q →
    wpAny (model X.prog X.w) X.A (evalPart e X.env) (fun u s'=>∃ o H',Inv X pins σ H' s'∧IsPart u o∧Q o H') X.xe s
def zje:TO:=fun _ H Q=>Q none H
def tPart (t:TE):TO:=fun σ H Q=>t σ H fun x H1=>∃ i,x=.int i∧Q (some i) H1
theorem zfR {ns:List Int}:∀ {us:List Value},aw (ns.map V.int) us→IntsAre us ns:=by
  induction ns with
  | nil=>intro us r;rw[List.map_nil]at r;cases r;exact .nil
  | cons n ns ih =>
    intro us r
    rw[List.map_cons]at r
    cases r with
    | cons r1 r2 =>
      obtain⟨t,e⟩:=r1
      subst e
      exact .cons n t (ih r2)
section
variable {X:Cx} {e:Expr} {te:TE} {lo hi:Option Expr} {tl th:TO} {pos p2:Pos}
theorem zdk:PO X none zje:=by
  intro pins s σ H Q I h
  rw[evalPart_none]
  exact wpAny_pure ⟨none,H,I,.none,h⟩
theorem zdj (h:PE X e te):PO X (some e) (tPart te):=by
  intro pins s σ H Q I hw
  rw[evalPart_some]
  refine thn (h pins s σ H _ I hw) fun u s1 ⟨x,H1,I1,r1,q1⟩=>?_
  obtain⟨i,rfl,q⟩:=q1
  obtain⟨t,rfl⟩:=r1
  exact⟨some i,H1,I1,.int i t,q⟩
def SlR (X:Cx) (r:V→Option Int→Option Int→Hp→VK→Prop):Prop :=
  ∀(pins:List (Addr × Obj)) (s:Shared) (σ:St) (H:Hp) (x:V) (v vl vu:Value) (lo hi:Option Int) (sl:Addr) (Q:VK),Inv X pins σ H s→ax x v→s.heap.IsSliceOf sl vl vu .none→IsPart vl lo→IsPart vu hi→r x lo hi H Q →
    ∃ T id,typeLookup (.type T) "__getitem__"=pure (some (.builtin id))∧s.TypeIs v T∧wpAny (model X.prog X.w) X.A (getItem v (.ref sl)) (EP X pins σ Q) X.xe s
def tSl (r:V→Option Int→Option Int→Hp→VK→Prop) (te:TE) (tl th:TO):TE:=fun σ H Q=>te σ H fun x H1=>tl σ H1 fun l H2=>th σ H2 fun u H3=>r x l u H3 Q
theorem zcQ {r:V→Option Int→Option Int→Hp→VK→Prop} (hr:SlR X r) (he:PE X e te) (hl:PO X lo tl) (hu:PO X hi th):PE X (.Subscript e (.Slice lo hi none p2) pos) (tSl r te tl th):=by
  intro pins s σ H Q I h
  refine Subscript_ (thn (he pins s σ H _ I h) fun v s1 ⟨x,H1,I1,r1,q1⟩=>?_)
  refine wpAny_Slice (thn (hl pins s1 σ H1 _ I1 q1) fun vl s2 ⟨l,H2,I2,pl,q2⟩=>thn (hu pins s2 σ H2 _ I2 q2) fun vu s3 ⟨u,H3,I3,pu,q3⟩=>?_)
  rw[evalPart_none]
  refine wpAny_pure ?_
  have I4:Inv X pins σ H3 { s3 with heap:=s3.heap.push { cls:=.type "slice",data:=.fields #[vl,vu,.none] } }:=I3.kept (t':=s3.toks) fun b ob q=>Heap.get?_push_of_some _ q
  obtain⟨T,id,hT,ht,hg⟩:=hr pins { s3 with heap:=s3.heap.push { cls:=.type "slice",data:=.fields #[vl,vu,.none] } } σ H3 x v vl vu l u s3.heap.objs.size Q I4 r1 (Heap.IsSliceOf.new ..) pl pu q3
  show wpAny (model X.prog X.w) X.A (subscriptTail e (.Slice lo hi none p2) v (.ref s3.heap.objs.size)) (EP X pins σ Q) X.xe { s3 with heap:=s3.heap.push { cls:=.type "slice",data:=.fields #[vl,vu,.none] } }
  exact tail_any (ops:=[.ref s3.heap.objs.size,v]) ht hT hg (by with_unfolding_all rfl)
def zee (xs:List V) (lo hi:Option Int):List V:=(xs.drop (HT.sIx xs.length 0 lo)).take (HT.sIx xs.length xs.length hi - HT.sIx xs.length 0 lo)
theorem zg3 (xs:List V) (lo hi:Option Int):(zee xs lo hi).length≤xs.length:=by
  unfold zee
  rw[List.length_take,List.length_drop]
  omega
def rCatT (K:PySem.W.Frag):R2:=fun x y H Q=>∃ a b xs ys,x=.ref a∧y=.ref b∧SqT K H a xs∧SqT K H b ys∧xs≠[]∧xs.length+ys.length≤sizeLine ∧
  (ys=[]→Q (.ref a) H)∧(ys≠[]→∀ p,H p=none→Q (.ref p) (upd H p (.tup (xs++ys))))
theorem aw.nil_iff {xs:List V} {us:List Value} (r:aw xs us):us=[]↔xs=[]:=by
  cases r with
  | nil=>simp
  | cons _ _=>simp
theorem zjx:OpR X (binaryOp .Add) (rCatT X.K):=by
  intro pins s σ H x y v u Q I rx ry h
  obtain⟨a,b,xs,ys,rfl,rfl,ha,hb,hx,hz,q1,q2⟩:=h
  cases rx
  cases ry
  obtain⟨its,r1,p1,_⟩:=I.tuple ha
  obtain⟨its2,r2,p2,_⟩:=I.tuple hb
  refine HT.cat_tup p1 p2 (fun z=>hx (r1.nil_iff.mp z)) (fun z=>⟨.ref a,H,I,rfl,q1 (r2.nil_iff.mp z)⟩) (fun z=>?_) (by rw[←r1.length,←r2.length];exact hz)
  refine⟨.ref s.heap.objs.size,_,I.laid (t':=s.toks) (o:=.tup (xs++ys)) (fun b ob q=>Heap.get?_push_of_some _ q) (Nat.le_refl _) ?_,rfl,q2 (fun w=>z (r2.nil_iff.mpr w)) _ (I.hok.fresh (Nat.le_refl _))⟩
  exact⟨by rw[List.length_append];exact hz,_,r1.append r2,IsTup.new _ _⟩
end
end L2
namespace L2
open PySem PySem.Spec PyProof.Rows
def ixN (n:Nat) (i:Int):Option Nat:=if 0≤i then(if i < n then some i.toNat else none) else if -(n:Int)≤i then some (i+n).toNat else none
def atI {α:Type} (xs:List α) (i:Int):Option α:=(ixN xs.length i).bind fun j=>xs[j]?
theorem zhc {n:Nat} {i:Int} {j:Nat} (h:ixN n i=some j):seqIndex? i n=some j∧j < n∧-(n:Int)≤i∧i < n:=by
  unfold ixN at h
  by_cases h0:0≤i
  · rw[if_pos h0]at h
    by_cases h1:i < n
    · rw[if_pos h1]at h
      have e:i.toNat=j:=Option.some.inj h
      exact⟨by rw[seqIndex_of h0 h1,e],by omega,by omega,h1⟩
    · rw[if_neg h1]at h;cases h
  · rw[if_neg h0]at h
    by_cases h1:-(n:Int)≤i
    · rw[if_pos h1]at h
      have e:(i+n).toNat=j:=Option.some.inj h
      exact⟨by rw[seqIndex_neg (by omega) h1,e],by omega,h1,by omega⟩
    · rw[if_neg h1]at h;cases h
theorem zga {α:Type} {xs:List α} {i:Int} {v:α} (h:atI xs i=some v):∃ j,seqIndex? i xs.length=some j∧xs[j]?=some v∧j < xs.length∧-(xs.length:Int)≤i∧i < xs.length:=by
  unfold atI at h
  cases e:ixN xs.length i with
  | none=>rw[e]at h;cases h
  | some j =>
    rw[e]at h
    obtain⟨h1,h2,h3,h4⟩:=zhc e
    exact⟨j,h1,h,h2,h3,h4⟩
theorem zad {α:Type} {xs:List α} {j:Nat} {v:α} (h:xs[j]?=some v):atI xs (j:Int)=some v:=by
  have hj:j < xs.length:=(List.getElem?_eq_some_iff.mp h).1
  have e:ixN xs.length (j:Int)=some j:=by
    unfold ixN
    rw[if_pos (by omega),if_pos (by omega)];simp
  unfold atI;rw[e];exact h
def zj0 (b:Expr):Prop:=∀ o i,subscripted b false o i=operate [o,i] (getItem o i)
def IxR (X:Cx) (r:R2):Prop :=
  ∀(value slice:Expr) (pins:List (Addr × Obj)) (s:Shared) (σ:St) (H:Hp) (x y:V) (v u:Value) (Q:VK),Inv X pins σ H s→ax x v→ax y u→r x y H Q →
    subscripted slice false v u=operate [v,u] (getItem v u)→wpAny (model X.prog X.w) X.A (subscriptTail value slice v u) (EP X pins σ Q) X.xe s
def MtR (X:Cx) (id:String) (r:V→List V→Hp→VK→Prop):Prop :=
  ∀(pins:List (Addr × Obj)) (s:Shared) (σ:St) (H:Hp) (x:V) (xs:List V) (v:Value) (us:List Value) (Q:VK),Inv X pins σ H s→ax x v→aw xs us→r x xs H Q →
    wpAny (model X.prog X.w) X.A (call (.builtin id) (v :: us)) (EP X pins σ Q) X.xe s
section
variable {X:Cx} {a b:Expr} {ta tb:TE} {pos:Pos}
theorem ar {r:R2} (hr:IxR X r) (ha:PE X a ta) (hb:PE X b tb) (hs:zj0 b):PE X (.Subscript a b pos) (tOp r ta tb):=by
  intro pins s σ H Q I h
  exact Subscript_ (binT ha hb I h fun v u s2 x y H2 I2 rx ry q=>hr a b pins s2 σ H2 x y v u Q I2 rx ry q (hs _ _))
def zc6 (K:PySem.W.Frag):R2:=fun x y H Q=>∃ p xs i v,x=.ref p∧y=.int i∧SqL K H p xs∧atI xs i=some v∧Q v H
def zfg (K:PySem.W.Frag):R2:=fun x y H Q=>∃ p xs i v,x=.ref p∧y=.int i∧SqT K H p xs∧atI xs i=some v∧Q v H
def rIxS:R2:=fun x y H Q=>∃ z i c,x=.str z∧y=.int i∧z.length≤sizeLine∧atI z.cps.toList i=some c∧Q (.str ⟨#[c]⟩) H
theorem zah:IxR X (zc6 X.K):=by
  intro value slice pins s σ H x y v u Q I rx ry h hs
  obtain⟨p,xs,i,z,rfl,rfl,hq,he,q⟩:=h
  cases rx
  obtain⟨t,rfl⟩:=ry
  obtain⟨its,r,pl,hz⟩:=I.list hq
  obtain⟨j,h1,h2,h3,h4,h5⟩:=zga he
  obtain⟨w,ew,rw'⟩:=r.get h2
  have hl:=r.length
  have hn:=zez
  have fin:EP X pins σ Q w s:=⟨z,H,I,rw',q⟩
  by_cases h0:0≤i
  · have hj:i.toNat=j:=by
      rw[seqIndex_of h0 h5]at h1
      exact Option.some.inj h1
    exact item_listR pl.isList h0 (by omega) (by rw[hj];simpa using ew) fin hs
  · have hj:(i+(its.toArray.size:Int)).toNat=j:=by
      rw[seqIndex_neg (by omega) h4]at h1
      rw[List.size_toArray,←hl]
      exact Option.some.inj h1
    exact subscriptTail_builtinR (x:=w) pl.isList.typeIs slot_list_getitem.lookup
      (wpAny_getItem_list_neg (Q:=fun r s'=>r=w∧EP X pins σ Q r s') pl.isList (by omega) (by rw[List.size_toArray] <;> omega) (by omega) (by rw[hj];simpa using ew) ⟨rfl,fin⟩) hs
theorem zal:IxR X (zfg X.K):=by
  intro value slice pins s σ H x y v u Q I rx ry h hs
  obtain⟨p,xs,i,z,rfl,rfl,hq,he,q⟩:=h
  cases rx
  obtain⟨t,rfl⟩:=ry
  obtain⟨its,r,pl,hz⟩:=I.tuple hq
  obtain⟨j,h1,h2,h3,h4,h5⟩:=zga he
  obtain⟨w,ew,rw'⟩:=r.get h2
  have hl:=r.length
  have hn:=zez
  have fin:EP X pins σ Q w s:=⟨z,H,I,rw',q⟩
  exact subscriptTail_builtinR (x:=w) pl.typeIs slot_tuple_getitem.lookup
    (getItem_tuple (j:=j) (Q:=fun r s'=>r=w∧EP X pins σ Q r s') pl (by omega) (by omega) (by rw[List.size_toArray,←hl];exact h1) (by simpa using ew) ⟨rfl,fin⟩) hs
theorem zhW:IxR X rIxS:=by
  intro value slice pins s σ H x y v u Q I rx ry h hs
  obtain⟨z,i,c,rfl,rfl,hz,he,q⟩:=h
  obtain⟨t,rfl⟩:=rx
  obtain⟨t',rfl⟩:=ry
  obtain⟨j,h1,h2,h3,h4,h5⟩:=zga he
  have hl:z.cps.toList.length=z.length:=by simp [Str.length]
  rw[hl]at h1 h4 h5
  have hn:=zez
  exact tail_any (typeIs_str s z t) slot_str_getitem.lookup (getItem_str (c:=c) (by
    have e1:decide (i < -(2 ^ 63:Int))=false:=decide_eq_false (by omega)
    have e2:decide (i≥2 ^ 63)=false:=decide_eq_false (by omega)
    rw[e1,e2,Bool.or_false]) (by rw[h1];simpa using h2) ⟨.str ⟨#[c]⟩,H,I.tok _,⟨_,rfl⟩,q⟩) hs
theorem zhB (its:List Value) (n j:Nat) (u:Value):Obj.mapSeq (·.setIfInBounds j u) { cls:=.type "list",data:=.seq its.toArray n }={ cls:=.type "list",data:=.seq (its.set j u).toArray n }:=by
  simp [Obj.mapSeq]
theorem Inv.lst {pins:List (Addr × Obj)} {σ:St} {H:Hp} {s:Shared} {p:Addr} {xs:List V} (I:Inv X pins σ H s) (h:H p=some (.lst xs)) :
    ∃(its:List Value) (n:Nat),aw xs its∧s.heap.get? p=some { cls:=.type "list",data:=.seq its.toArray n }∧xs.length≤sizeLine:=by
  obtain⟨z,its,n,r,e⟩:=I.hok p _ h
  exact⟨its,n,r,e,z⟩
theorem Inv.lstUpd {pins:List (Addr × Obj)} {σ:St} {H:Hp} {s:Shared} {p:Addr} {xs ys:List V} {its its':List Value} {n n':Nat} {f:Obj→Obj} (I:Inv X pins σ H s) (h:H p=some (.lst xs))
    (ho:s.heap.get? p=some { cls:=.type "list",data:=.seq its.toArray n }) (hf:f { cls:=.type "list",data:=.seq its.toArray n }={ cls:=.type "list",data:=.seq its'.toArray n' }) (r:aw ys its') (hz:ys.length≤sizeLine) (t:Nat) :
    Inv X pins σ (upd H p (.lst ys)) { s with heap:=s.heap.update p f,toks:=t }:=by
  have e:(s.heap.update p f).get? p=some { cls:=.type "list",data:=.seq its'.toArray n' }:=by
    rw[Heap.get?_update_self f ho (by rw[hf] <;> rfl),hf]
  refine I.write (x:=p) (e:=p) (by rw[h];trivial) (.inl rfl) (fun b u hb q=>(Heap.get?_update_other _ _ (Ne.symm hb)).trans q) ⟨_,e⟩ ?_
  exact⟨hz,its',n',r,e⟩
def rSetL:V→V→V→Hp→(Hp→Prop)→Prop:=fun o i v H Q=>∃ p xs k j,o=.ref p∧i=.int k∧H p=some (.lst xs)∧ixN xs.length k=some j∧Q (upd H p (.lst (xs.set j v)))
theorem ziB:PSet X rSetL:=by
  intro pins s σ H o i v ov iv u Q I ro ri rv h
  obtain⟨p,xs,k,j,rfl,rfl,hp,hj,q⟩:=h
  cases ro
  obtain⟨t,rfl⟩:=ri
  obtain⟨its,n,r,ho,hz⟩:=I.lst hp
  obtain⟨h1,h2,h3,h4⟩:=zhc hj
  have hl:=r.length
  have hn:=zez
  have I':Inv X pins σ (upd H p (.lst (xs.set j v))) { s with heap:=s.heap.update p (Obj.mapSeq (·.setIfInBounds j u)) } :=
    I.lstUpd hp ho (zhB its n j u) (r.set rv j) (by rw[List.length_set];exact hz) s.toks
  by_cases h0:0≤k
  · have hk:k.toNat=j:=by
      rw[seqIndex_of h0 h4]at h1
      exact Option.some.inj h1
    exact PySem.W.ki_setAt ho h0 (by omega) (by rw[List.size_toArray,←hl];exact h4) (by rw[hk];exact⟨_,I',q⟩)
  · have hk:(k+(its.toArray.size:Int)).toNat=j:=by
      rw[seqIndex_neg (by omega) h3]at h1
      rw[List.size_toArray,←hl]
      exact Option.some.inj h1
    exact PySem.W.ki_setBack ho (by omega) (by rw[List.size_toArray,←hl];exact h3) (by omega) (by rw[hk];exact⟨_,I',q⟩)
theorem zgR (lo hi:Option Int) (n:Nat):(sliceBounds lo hi none n).1=((HT.sIx n 0 lo:Nat):Int)∧(sliceBounds lo hi none n).2.1=((HT.sIx n n hi:Nat):Int)∧(sliceBounds lo hi none n).2.2=1:=by
  refine⟨?_,?_,rfl⟩
  · cases lo with
    | none=>simp [sliceBounds,HT.sIx]
    | some i =>
      simp only[sliceBounds,HT.sIx,Option.getD_none,show(1:Int) > 0 by decide,if_true]
      by_cases h:i < 0
      · simp only[h,if_true] <;> omega
      · simp only[h,if_false] <;> omega
  · cases hi with
    | none=>simp [sliceBounds,HT.sIx]
    | some i =>
      simp only[sliceBounds,HT.sIx,Option.getD_none,show(1:Int) > 0 by decide,if_true]
      by_cases h:i < 0
      · simp only[h,if_true] <;> omega
      · simp only[h,if_false] <;> omega
theorem zgr (its:List Value) (lo hi:Option Int):slicePick its.toArray lo hi none=((its.drop (HT.sIx its.length 0 lo)).take (HT.sIx its.length its.length hi - HT.sIx its.length 0 lo)).toArray:=by
  obtain⟨h1,h2,h3⟩:=zgR lo hi its.toArray.size
  unfold slicePick
  rw[h1,h2,h3]
  simp only[sliceRange_one,pick_run,List.size_toArray] <;> rfl
def rSlL (K:PySem.W.Frag):V→Option Int→Option Int→Hp→VK→Prop:=fun x lo hi H Q=>∃ a xs,x=.ref a∧SqL K H a xs∧∀ p,H p=none→Q (.ref p) (upd H p (.lst (zee xs lo hi)))
theorem zeX:SlR X (rSlL X.K):=by
  intro pins s σ H x v vl vu lo hi sl Q I rx hs pl pu h
  obtain⟨a,xs,rfl,hx,q⟩:=h
  cases rx
  obtain⟨its,r,ht,hz⟩:=I.list hx
  have hlen:=r.length
  refine⟨"list",_,slot_list_getitem.lookup,ht.isList.typeIs,?_⟩
  refine wpAny_getItem_list_slice ht.isList hs pl pu .none (by simp) ?_ (by rw[List.size_toArray] <;> omega)
  rw[zgr,←hlen]
  refine⟨.ref s.heap.objs.size,_,I.laid (t':=s.toks) (o:=.lst (zee xs lo hi)) (fun b ob q=>Heap.get?_push_of_some _ q) (Nat.le_refl _) ?_,rfl,q _ (I.hok.fresh (Nat.le_refl _))⟩
  exact⟨Nat.le_trans (zg3 xs lo hi) hz,_,0,(r.drop (HT.sIx xs.length 0 lo)).take (HT.sIx xs.length xs.length hi - HT.sIx xs.length 0 lo),Heap.get?_push_size _ rfl⟩
def zdK:V→Bool
  | .non=>true
  | .bl _=>true
  | .int _=>true
  | .str _=>true
  | _=>false
def eqV:V→V→Bool
  | .non,.non=>true
  | .bl a,.bl b=>a == b
  | .bl a,.int b=>(if a then 1 else 0) == b
  | .int a,.bl b=>a == (if b then 1 else 0)
  | .int a,.int b=>a == b
  | .str a,.str b=>a == b
  | _,_=>false
theorem zeB {A:Around} {s:Shared} {y x:V} {u v:Value} (ry:ax y u) (rx:ax x v) (fy:zdK y=true) (fx:zdK x=true):SeqAt.EqAt A s u v (eqV y x):=by
  cases y with
  | non =>
    cases ry
    cases x with
    | non=>cases rx;exact SeqAt.EqAt.same _
    | bl b=>cases rx;exact SeqAt.EqAt.none_bool b
    | int b=>obtain⟨t,rfl⟩:=rx;exact SeqAt.EqAt.none_int b t
    | str b=>obtain⟨t,rfl⟩:=rx;exact SeqAt.EqAt.none_str b t
    | _=>exact absurd (show false=true from fx) Bool.false_ne_true
  | bl a =>
    cases ry
    cases x with
    | non=>cases rx;exact SeqAt.EqAt.bool_none a
    | bl b=>cases rx;exact SeqAt.EqAt.bool_bool a b
    | int b=>obtain⟨t,rfl⟩:=rx;exact SeqAt.EqAt.bool_int a b t
    | str b=>obtain⟨t,rfl⟩:=rx;exact SeqAt.EqAt.bool_str a b t
    | _=>exact absurd (show false=true from fx) Bool.false_ne_true
  | int a =>
    obtain⟨t',rfl⟩:=ry
    cases x with
    | non=>cases rx;exact SeqAt.EqAt.int_none a t'
    | bl b=>cases rx;exact SeqAt.EqAt.int_bool a t' b
    | int b=>obtain⟨t,rfl⟩:=rx;exact SeqAt.EqAt.int_int a t' b t
    | str b=>obtain⟨t,rfl⟩:=rx;exact SeqAt.EqAt.int_str a t' b t
    | _=>exact absurd (show false=true from fx) Bool.false_ne_true
  | str a =>
    obtain⟨t',rfl⟩:=ry
    cases x with
    | non=>cases rx;exact SeqAt.EqAt.str_none a t'
    | bl b=>cases rx;exact SeqAt.EqAt.str_bool a t' b
    | int b=>obtain⟨t,rfl⟩:=rx;exact SeqAt.EqAt.str_int a t' b t
    | str b=>obtain⟨t,rfl⟩:=rx;exact SeqAt.EqAt.str_str a t' b t
    | _=>exact absurd (show false=true from fx) Bool.false_ne_true
  | _=>exact absurd (show false=true from fy) Bool.false_ne_true
def eqU (x:V) (u:Value):Bool:=match u with
  | .none=>eqV .non x
  | .bool b=>eqV (.bl b) x
  | .int i _=>eqV (.int i) x
  | .str z _=>eqV (.str z) x
  | _=>false
theorem zhZ {x y:V} {u:Value} (r:ax y u) (f:zdK y=true):eqU x u=eqV y x:=by
  cases y with
  | non=>cases r;rfl
  | bl b=>cases r;rfl
  | int i=>obtain⟨t,rfl⟩:=r;rfl
  | str z=>obtain⟨t,rfl⟩:=r;rfl
  | _=>exact absurd (show false=true from f) Bool.false_ne_true
theorem zgc {x:V}:∀ {xs:List V} {us:List Value},aw xs us→xs.all zdK=true→us.any (eqU x)=xs.any fun y=>eqV y x
  | _,_,.nil,_=>rfl
  | y :: xs,u :: us,.cons r t,f=>by
    rw[List.all_cons,Bool.and_eq_true]at f
    rw[List.any_cons,List.any_cons,zhZ r f.1,zgc t f.2]
theorem zfu {A:Around} {s:Shared} {x:V} {v:Value} (rx:ax x v) (fx:zdK x=true):∀ {xs:List V} {us:List Value},aw xs us→xs.all zdK=true→∀ u∈us,SeqAt.EqAt A s u v (eqU x u)
  | _,_,.nil,_=>fun u hu=>by cases hu
  | y :: xs,u :: us,.cons r t,f=>fun u' hu=>by
    rw[List.all_cons,Bool.and_eq_true]at f
    rcases List.mem_cons.mp hu with rfl | hu
    · rw[zhZ r f.1];exact zeB r rx f.1 fx
    · exact zfu rx fx t f.2 u' hu
def inV (x:V) (xs:List V):Bool:=xs.any fun y=>eqV y x
def rIn (K:PySem.W.Frag) (neg:Bool):R2:=fun x y H Q=>∃ p xs,y=.ref p∧(SqL K H p xs∨SqT K H p xs)∧zdK x=true∧xs.all zdK=true∧Q (.bl (if neg then !inV x xs else inV x xs)) H
theorem zeH:OpR X (compareOp .In) (rIn X.K false):=by
  intro pins s σ H x y v u Q I rx ry h
  obtain⟨p,xs,rfl,hq,fx,fs,q⟩:=h
  cases ry
  rcases hq with hq | hq
  · obtain⟨its,r,pl,hz⟩:=I.list hq
    refine SeqAt.in_listAt (eqU x) pl.isList (fun w hw=>zfu rx fx r fs w (by simpa using hw)) ⟨.bl _,H,I,rfl,?_⟩
    rw[show its.toArray.any (eqU x)=its.any (eqU x) by simp,zgc r fs]
    exact q
  · obtain⟨its,r,pl,hz⟩:=I.tuple hq
    refine SeqAt.in_tupleAt (eqU x) pl (fun w hw=>zfu rx fx r fs w (by simpa using hw)) ⟨.bl _,H,I,rfl,?_⟩
    rw[show its.toArray.any (eqU x)=its.any (eqU x) by simp,zgc r fs]
    exact q
theorem zaa:zbS X (.builtin "len") (fun xs H Q=>∃ p ys,xs=[.ref p]∧(SqL X.K H p ys∨SqT X.K H p ys)∧Q (.int ys.length) H):=by
  intro pins s σ H xs us Q I r h
  obtain⟨p,ys,rfl,hq,q⟩:=h
  obtain⟨u,rfl,rx⟩:=zef r
  cases rx
  have hn:=zez
  rcases hq with hq | hq
  · obtain⟨its,r',pl,hz⟩:=I.list hq
    have hlen:=r'.length
    exact Calls.call_len_list pl.isList (by simp only[List.size_toArray] <;> omega) ⟨.int ys.length,H,I.tok _,⟨s.toks+1,by rw[List.size_toArray,hlen]⟩,q⟩
  · obtain⟨its,r',pl,hz⟩:=I.tuple hq
    have hlen:=r'.length
    exact len_tuple pl (by simp only[List.size_toArray] <;> omega) ⟨.int ys.length,H,I.tok _,⟨s.toks+1,by rw[List.size_toArray,hlen]⟩,q⟩
theorem zbb:zbS X (.type "list") (fun xs H Q=>∃ p ys,xs=[.ref p]∧(SqL X.K H p ys∨SqT X.K H p ys)∧∀ l,H l=none→Q (.ref l) (upd H l (.lst ys))):=by
  intro pins s σ H xs us Q I r h
  obtain⟨p,ys,rfl,hq,q⟩:=h
  obtain⟨u,rfl,rx⟩:=zef r
  cases rx
  have fin:∀(its:List Value),aw ys its→ys.length≤sizeLine→∀(h':Heap) (c':Nat),(∀ b o',s.heap.get? b=some o'→h'.get? b=some o') →
      h'.get? s.heap.objs.size=some { cls:=.type "list",dict:=none,data:=.seq its.toArray c',slots:=#[] }→EP X pins σ Q (.ref s.heap.objs.size) { s with heap:=h' }:=fun its r' hz h' c' kp e =>
    ⟨.ref s.heap.objs.size,_,I.laid (t':=s.toks) kp (Nat.le_refl _) (show zaL X.prog X.w _ h' _ (.lst ys) from⟨hz,its,c',r',e⟩),rfl,q _ (I.hok.fresh (Nat.le_refl _))⟩
  rcases hq with hq | hq
  · obtain⟨its,r',pl,hz⟩:=I.list hq
    have hlen:=r'.length
    obtain⟨o,ho,hc,n,hd⟩:=pl.isList
    exact call_list_seq p (.inl rfl) ho hc hd (fun h' c' kp e=>fin its r' hz h' c' kp e) (by simp only[List.size_toArray] <;> omega)
  · obtain⟨its,r',pl,hz⟩:=I.tuple hq
    have hlen:=r'.length
    obtain⟨o,ho,hc,n,hd⟩:=pl
    exact call_list_seq p (.inr rfl) ho hc hd (fun h' c' kp e=>fin its r' hz h' c' kp e) (by simp only[List.size_toArray] <;> omega)
theorem zc8:zbS X (.type "tuple") (fun xs H Q=>∃ p ys,xs=[.ref p]∧((SqL X.K H p ys∧∀ l,H l=none→Q (.ref l) (upd H l (.tup ys)))∨(SqT X.K H p ys∧Q (.ref p) H))):=by
  intro pins s σ H xs us Q I r h
  obtain⟨p,ys,rfl,h⟩:=h
  obtain⟨u,rfl,rx⟩:=zef r
  cases rx
  rcases h with ⟨hq,q⟩ | ⟨hq,q⟩
  · obtain⟨its,r',pl,hz⟩:=I.list hq
    have hlen:=r'.length
    refine call_tuple_list pl.isList (fun h' kp=>?_) (by simp only[List.size_toArray] <;> omega)
    have I1:Inv X pins σ H { s with heap:=h' }:=I.kept (t':=s.toks) kp
    have I2:Inv X pins σ (upd H h'.objs.size (.tup ys)) { s with heap:=h'.push { cls:=.type "tuple",data:=.seq its.toArray } } :=
      I1.laid (t':=s.toks) (fun b o e=>Heap.get?_push_of_some _ e) (Nat.le_refl _) (show zaL X.prog X.w _ _ _ (.tup ys) from⟨hz,its,r',IsTup.new _ _⟩)
    exact⟨.ref h'.objs.size,_,I2,rfl,q _ (I1.hok.fresh (Nat.le_refl _))⟩
  · obtain⟨its,r',pl,hz⟩:=I.tuple hq
    exact call_tuple_same pl ⟨.ref p,H,I,rfl,q⟩
def tyV (K:PySem.W.Frag) (T:String) (x:V) (H:Hp):Prop:=match x with
  | .str _=>T="str"
  | .int _=>T="int"
  | .ref p=>(T="list"∧∃ xs,SqL K H p xs)∨(T="tuple"∧∃ o,K.lookup p=some o∧o.cls=.type "tuple"∧o.dict=none) ∨
      (T="dict"∧((∃ kvs,H p=some (.dK kvs))∨∃ kvs,H p=some (.dT kvs)))∨(T="set"∧∃ S n,H p=some (.set S n))
  | _=>False
theorem zhK {pins:List (Addr × Obj)} {σ:St} {H:Hp} {s:Shared} {T:String} {x:V} {v:Value} (I:Inv X pins σ H s) (r:ax x v) (ty:tyV X.K T x H) :
    s.TypeIs v T∧∀ a,v=.ref a→∃ ob,s.heap.get? a=some ob∧ob.dict=none:=by
  cases x with
  | str z =>
    obtain⟨t,rfl⟩:=r
    cases (show T="str" from ty)
    exact⟨typeIs_str s z t,fun _ e=>nomatch e⟩
  | int i =>
    obtain⟨t,rfl⟩:=r
    cases (show T="int" from ty)
    exact⟨typeIs_int s i t,fun _ e=>nomatch e⟩
  | ref p =>
    cases r
    rcases ty with ⟨rfl,xs,hq⟩ | ⟨rfl,o,hk,hc,hd⟩ | ⟨rfl,hk⟩ | ⟨rfl,S,n,hk⟩
    · obtain⟨its,_,pl,_⟩:=I.list hq
      refine⟨pl.isList.typeIs,fun a e=>?_⟩
      cases e
      obtain⟨o,n,e,c,hd,_⟩:=pl
      exact⟨o,e,hd⟩
    · refine⟨⟨o,I.kIn p o hk,hc⟩,fun a e=>?_⟩
      cases e
      exact⟨o,I.kIn _ o hk,hd⟩
    · have z:∃ o,s.heap.get? p=some o∧o.ExactDict:=by
        rcases hk with ⟨kvs,hk⟩ | ⟨kvs,hk⟩
        · obtain⟨_,_,_,_,o,_,_,e,ex,_⟩:=I.hok p _ hk
          exact⟨o,e,ex⟩
        · obtain⟨_,_,_,_,o,_,_,e,ex,_⟩:=I.hok p _ hk
          exact⟨o,e,ex⟩
      obtain⟨o,e,ex⟩:=z
      refine⟨⟨o,e,ex.1⟩,fun a e2=>?_⟩
      cases e2
      exact⟨o,e,ex.2.1⟩
    · obtain⟨o,_,_,_,e,ex,_⟩:=I.hok p _ hk
      refine⟨⟨o,e,ex.1⟩,fun a e2=>?_⟩
      cases e2
      exact⟨o,e,ex.2.1⟩
  | _=>exact False.elim ty
def tBM0 (K:PySem.W.Frag) (T:String) (r:V→List V→Hp→VK→Prop) (to:TE):TE:=fun σ H Q=>to σ H fun x H1=>tyV K T x H1∧r x [] H1 Q
def tBM (K:PySem.W.Frag) (T:String) (r:V→List V→Hp→VK→Prop) (to:TE) (t:TA):TE:=fun σ H Q=>to σ H fun x H1=>tyV K T x H1∧t σ H1 fun xs H2=>r x xs H2 Q
variable {o e:Expr} {es:List Expr} {to:TE} {t:TA} {name:Str} {apos cpos:Pos} {T id:String} {r:V→List V→Hp→VK→Prop}
theorem zhQ (pa:PlainAttrs T) (slot:Slot T name id) (hty:typeOf (.builtin id)=pure (.type "method_descriptor")) (hm:MtR X id r) (ho:PE X o to)
    (hbase:attributeBase o name X.env (eval o X.env)=eval o X.env:=by rfl) (hline:(apos.endLine == cpos.line)=true:=by rfl):PE X (.Call (.Attribute o name apos) [] [] cpos) (tBM0 X.K T r to):=by
  intro pins s σ H Q I h
  refine wpAny_Call_method0_late hbase hline (thn (ho pins s σ H _ I h) fun v s1 ⟨x,H1,I1,r1,ty,q1⟩=>?_)
  obtain⟨h1,h2⟩:=zhK I1 r1 ty
  exact⟨T,id,pa,slot,hty,h1,h2,Calls.callWith_builtin rfl (PySem.evalArgs_none (hm pins s1 σ H1 x [] v [] Q I1 r1 .nil q1))⟩
theorem zb4 (pa:PlainAttrs T) (slot:Slot T name id) (hty:typeOf (.builtin id)=pure (.type "method_descriptor")) (hm:MtR X id r) (ho:PE X o to) (ha:PA X (e :: es) t)
    (hbase:attributeBase o name X.env (eval o X.env)=eval o X.env:=by rfl)
    (hfew:((backTo cpos (starEach (e :: es) X.env)).all (fun x=>!x.1)&&(backToKw cpos (keywordEach [] X.env)).all (fun x=>x.1.isSome)
      && decide ((e :: es).length+([]:List Keyword).length+(if([]:List Keyword).isEmpty then 0 else 1) < 30))=true:=by rfl)
    (hline:(apos.endLine == cpos.line)=true:=by rfl) (hs:starEach (e :: es) X.env=(false,eval e X.env) :: starEach es X.env:=by rfl) (hplain:(backTo cpos (starEach es X.env)).any (·.1)=false:=by rfl) :
    PE X (.Call (.Attribute o name apos) (e :: es) [] cpos) (tBM X.K T r to t):=by
  intro pins s σ H Q I h
  refine wpAny_Call_method_late hbase hfew hline rfl (thn (ho pins s σ H _ I h) fun v s1 ⟨x,H1,I1,r1,ty,q1⟩=>?_)
  obtain⟨h1,h2⟩:=zhK I1 r1 ty
  refine⟨T,id,pa,slot,hty,h1,h2,?_⟩
  have hA:=ha cpos pins s1 σ H1 _ I1 q1
  rw[hs]at hA ⊢
  refine Calls.callWith_builtin (by show(false||(backTo cpos (starEach es X.env)).any (·.1))=false;rw[hplain] <;> rfl) (Calls.evalArgs_plain ?_)
  exact thn hA fun us s2 ⟨vs,H2,I2,r2,q2⟩=>hm pins s2 σ H2 x vs v us Q I2 r1 r2 q2
end
end L2
namespace L2
open PySem PySem.Spec PyProof.Rows
def MtM (X:Cx) (id:String) (r:V→List V→Hp→VK→Prop):Prop :=
  ∀(pins:List (Addr × Obj)) (s:Shared) (σ:St) (H:Hp) (x:V) (xs:List V) (v:Value) (us:List Value) (Q:VK),Inv X pins σ H s→ax x v→aw xs us→r x xs H Q →
    wpAny (model X.prog X.w) X.A (call (.builtin id) (v :: us)) (EP X pins σ Q) X.xe s
theorem aw.one:∀ {x:V} {us:List Value},aw [x] us→∃ u,us=[u]∧ax x u
  | _,_,.cons r .nil=>⟨_,rfl,r⟩
theorem aw.two:∀ {x y:V} {us:List Value},aw [x,y] us→∃ u v,us=[u,v]∧ax x u∧ax y v
  | _,_,_,.cons r (.cons q .nil)=>⟨_,_,rfl,r,q⟩
theorem aw.zero:∀ {us:List Value},aw [] us→us=[]
  | _,.nil=>rfl
theorem aw.dropLast {xs:List V} {us:List Value} (h:aw xs us):aw xs.dropLast us.dropLast:=by
  induction h with
  | nil=>exact .nil
  | cons r t ih =>
    cases t with
    | nil=>exact .nil
    | cons q t'=>exact .cons r ih
theorem zhH {α:Type} (l:List α):l.eraseIdx (l.length - 1)=l.dropLast:=by
  induction l with
  | nil=>rfl
  | cons a r ih =>
    cases r with
    | nil=>rfl
    | cons b r =>
      have e:(a :: b :: r).length - 1=((b :: r).length - 1)+1:=by
        have h1:(a :: b :: r).length=r.length+2:=rfl
        have h2:(b :: r).length=r.length+1:=rfl
        omega
      rw[e,List.eraseIdx_cons_succ,ih]
      all_goals rfl
section
variable {X:Cx} {pins:List (Addr × Obj)} {σ:St} {H:Hp} {s:Shared} {l b:Addr} {xs ys zs:List V}
theorem Inv.lset {its its':List Value} {n:Nat} {f:Array Value→Array Value} {t':Nat} (I:Inv X pins σ H s) (hH:H l=some (.lst xs))
    (e:s.heap.get? l=some { cls:=.type "list",data:=.seq its.toArray n }) (hf:f its.toArray=its'.toArray) (hv:aw ys its') (hz:ys.length≤sizeLine) :
    Inv X pins σ (upd H l (.lst ys)) { s with heap:=s.heap.update l (Obj.mapSeq f),toks:=t' }:=by
  have q:=PySem.IsL.update e f
  rw[hf]at q
  refine I.write (x:=l) (e:=l) (by rw[hH];exact trivial) (.inl rfl) (fun b' u hb hu=>(Heap.get?_update_other s.heap (Obj.mapSeq f) (Ne.symm hb)).trans hu) ⟨_,q⟩ ?_
  exact⟨hz,its',_,hv,q⟩
theorem Inv.lnew {its:List Value} {t':Nat} (I:Inv X pins σ H s) (hv:aw ys its) (hz:ys.length≤sizeLine) :
    Inv X pins σ (upd H s.heap.objs.size (.lst ys)) { s with heap:=s.heap.push { cls:=.type "list",data:=.seq its.toArray },toks:=t' } :=
  I.laid (fun _ _ q=>Heap.get?_push_of_some _ q) (Nat.le_refl _) ⟨hz,its,0,hv,Heap.get?_push_size _ rfl⟩
theorem Inv.fresh (I:Inv X pins σ H s):H s.heap.objs.size=none:=I.hok.fresh (Nat.le_refl _)
theorem Inv.lstM (I:Inv X pins σ H s) (hH:H l=some (.lst xs)):xs.length≤sizeLine∧∃(its:List Value) (n:Nat),aw xs its∧xs.length=its.length∧s.heap.get? l=some { cls:=.type "list",data:=.seq its.toArray n }:=by
  obtain⟨z,its,n,r,e⟩:=I.hok l _ hH
  exact⟨z,its,n,r,r.length,e⟩
theorem ziX {n:Nat} (h:n≤sizeLine):Builtin.List.listTooLong n=false:=by
  unfold Builtin.List.listTooLong
  exact decide_eq_false (by omega)
end
section
variable {X:Cx}
def zjp:V→List V→Hp→VK→Prop:=fun x vs H Q=>∃ l xs y,x=.ref l∧vs=[y]∧H l=some (.lst xs)∧xs.length < sizeLine∧Q .non (upd H l (.lst (xs++[y])))
theorem zaH:MtM X "list.append" zjp:=by
  intro pins s σ H x vs v us Q I rx rv h
  obtain⟨l,xs,y,rfl,rfl,hH,hz,q⟩:=h
  cases rx
  obtain⟨u,rfl,ru⟩:=rv.one
  obtain⟨z,its,n,r,hl,e⟩:=I.lstM hH
  refine call_meets F.slot_list_append ⟨_,e,rfl⟩ F.entry_list_append (F.args_list_append_2 _ _) (PySem.list_append l its.toArray n u (by rw[List.size_toArray];omega)) ⟨e,?_⟩
  refine⟨.non,_,I.lset (its':=its++[u]) hH e (by simp) (r.append (.cons ru .nil)) ?_,rfl,q⟩
  rw[List.length_append,List.length_singleton]
  omega
def zjo:V→List V→Hp→VK→Prop:=fun x vs H Q=>∃ l b xs zs,x=.ref l∧vs=[.ref b]∧H l=some (.lst xs)∧H b=some (.lst zs)∧xs.length+zs.length≤sizeLine∧Q .non (upd H l (.lst (xs++zs)))
theorem zgi:MtM X "list.extend" zjo:=by
  intro pins s σ H x vs v us Q I rx rv h
  obtain⟨l,b,xs,zs,rfl,rfl,hH,hB,hz,q⟩:=h
  cases rx
  obtain⟨u,rfl,ru⟩:=rv.one
  cases ru
  obtain⟨z,its,n,r,hl,e⟩:=I.lstM hH
  obtain⟨z2,its2,n2,r2,hl2,e2⟩:=I.lstM hB
  have hsz:its.toArray.size+its2.toArray.size≤sizeLine:=by rw[List.size_toArray,List.size_toArray];omega
  have hlong:¬(!its.toArray.isEmpty&&Builtin.List.listTooLong (its.toArray.size+its2.toArray.size))=true:=by
    rw[ziX hsz,Bool.and_false]
    exact Bool.false_ne_true
  refine call_meets F.slot_list_extend ⟨_,e,rfl⟩ F.entry_list_extend (F.args_list_extend_2 _ _)
    (AutoSeq1.list_extend_list_list_0 l its.toArray n b its2.toArray n2 hlong (by rw[List.size_toArray];omega) (by omega)) ⟨e,e2,?_⟩
  refine⟨.non,_,I.lset (its':=its++its2) hH e (by simp) (r.append r2) ?_,rfl,q⟩
  rw[List.length_append]
  omega
def rPop:V→List V→Hp→VK→Prop:=fun x vs H Q=>∃ l xs y,x=.ref l∧vs=[]∧H l=some (.lst xs)∧xs[xs.length - 1]?=some y∧Q y (upd H l (.lst xs.dropLast))
theorem zhS:MtM X "list.pop" rPop:=by
  intro pins s σ H x vs v us Q I rx rv h
  obtain⟨l,xs,y,rfl,rfl,hH,hy,q⟩:=h
  cases rx
  have hus:=rv.zero
  subst hus
  obtain⟨z,its,n,r,hl,e⟩:=I.lstM hH
  obtain⟨u,hu,ru⟩:=r.get hy
  have hy':its.toArray[its.toArray.size - 1]?=some u:=by
    show its.toArray[its.length - 1]?=some u
    rw[←Array.getElem?_toList,←hl]
    exact hu
  refine call_meets F.slot_list_pop ⟨_,e,rfl⟩ F.entry_list_pop (F.args_list_pop_1 _) (MeetsSeq.list_pop_last l its.toArray n u hy' (by rw[List.size_toArray];omega)) ⟨e,?_⟩
  refine⟨y,_,I.lset (its':=its.dropLast) hH e ?_ r.dropLast ?_,ru,q⟩
  · show its.toArray.eraseIdxIfInBounds (its.toArray.size - 1)=its.dropLast.toArray
    rw[List.size_toArray,List.eraseIdxIfInBounds_toArray,zhH]
  · rw[List.length_dropLast]
    omega
def rCat:R2:=fun x y H Q=>∃ l b xs zs,x=.ref l∧y=.ref b∧H l=some (.lst xs)∧H b=some (.lst zs)∧xs.length+zs.length≤sizeLine∧∀ p,H p=none→Q (.ref p) (upd H p (.lst (xs++zs)))
theorem zgz:OpR X (binaryOp .Add) rCat:=by
  intro pins s σ H x y v u Q I rx ry h
  obtain⟨l,b,xs,zs,rfl,rfl,hH,hB,hz,q⟩:=h
  cases rx
  cases ry
  obtain⟨z,its,n,r,hl,e⟩:=I.lstM hH
  obtain⟨z2,its2,n2,r2,hl2,e2⟩:=I.lstM hB
  refine PySem.P.add_list e e2 ?_ (by rw[List.size_toArray,List.size_toArray];omega)
  have ea:its.toArray++its2.toArray=(its++its2).toArray:=by simp
  rw[ea]
  exact⟨.ref _,_,I.lnew (t':=s.toks) (r.append r2) (by rw[List.length_append];omega),rfl,q _ I.fresh⟩
end
section
variable {prog:Program} {w:World} {A:Around} {E:Value→Shared→Prop} {s:Shared}
end
section
variable {X:Cx}
end
end L2
namespace Att
open PySem PySem.W PySem.Calls PyProof.Rows
theorem zfY {P:Params} {h:Heap}:∀(ns:List Int) (vs:List Value),WellAll P h vs (ns.map WData.int)→IntsAre vs ns:=by
  intro ns
  induction ns with
  | nil =>
    intro vs w
    rw[List.map_nil]at w
    cases w
    exact .nil
  | cons n ns ih =>
    intro vs w
    rw[List.map_cons]at w
    cases w with
    | cons a b =>
      cases a
      exact .cons _ _ (ih _ b)
theorem zia {l:OpenLaw} {n:Nat} (hn:l.most=some n) {P:Params} {h:Heap} {args:List WData} {vals:List Value}
    (hpre:l.row.toRowW.claim.pre args=true) (hwl:WellAll P h vals args) :
    ∃ a vs ns,vals=[Value.ref a]∧args=[WData.list (ns.map WData.int)]∧h.get? a=some { cls:=.type "list",data:=.seq vs.toArray }∧IntsAre vs ns∧ns.length≤n:=by
  have hsh:WShape.hasAll [] args [.list .int]=true:=(pre_splitW hpre).1
  have hc:l.pre.holds [] { args:=args }=true:=(pre_splitW hpre).2
  obtain⟨d,r,rfl,h1,h2⟩:=hasAllW_cons hsh
  obtain rfl:=hasAllW_nil h2
  obtain⟨xs,rfl,h3⟩:=hasW_list h1
  obtain⟨ns,rfl⟩:=items_int h3
  have hlen:ns.length≤n:=by
    unfold OpenLaw.pre at hc
    have h4:(WTm.not (.lt (.lit (.int (n:Int))) (.len (.arg 0)))).holds [] { args:=[.list (ns.map .int)] }=true:=by
      have h4:=(holds_andW hc).1
      rw[hn]at h4
      exact h4
    have h5:=condW_of h4 (w_not (w_lt w_lit (w_len_list (w_arg rfl))))
    rw[List.length_map]at h5
    refine Nat.le_of_not_lt fun q=>?_
    have q':(n:Int) < ((ns.length:Nat):Int):=by omega
    first
      | (rw[decide_eq_true q']at h5;exact absurd h5 (by decide))
      | (simp at h5;omega)
  cases hwl with
  | cons w1 w2 =>
    cases w2
    cases w1 with
    | list ho hall=>exact⟨_,_,ns,rfl,rfl,ho,zfY ns _ hall,hlen⟩
theorem zib (l:OpenLaw) (args:List WData):l.row.toRowW.claim.post args (.bool true) args=true :=
  postW_of (r:=l.row.toRowW) (X:=(true == true))
    (show WShape.has [] (.bool true) .bool=true by first | rfl | decide | simp [WShape.has,WShape.arms,WShape.armsAll])
    (show(WTm.eq .res (.lit (.bool true))).value [] { args:=args,res:=some (.bool true),after:=args }=some (.bool (true == true)) from w_eq_bool (w_res rfl) w_lit) rfl
theorem attach_call {l:OpenLaw} {n:Nat} {q:Program} {loose:List Str} {XP:(Str→Option Value)→Heap→Prop} {YP:World→Heap→Prop} {d:DefRec}
    (hn:l.most=some n) (hdf:d.params.defaults=[])
    (call:∀(w:World) (s₀ s₁:Shared) (mg mb:Str→Option Value) (fa:Addr) (o:Obj) (pm cd doc:Value) (a:Addr) (vs:List Value) (ns:List Int),
      Ground q loose [] XP w s₀ mg mb s₁.heap→YP w s₁.heap →
      s₁.heap.get? fa=some o→o.data=.func (docDef d.name d.params d.body d.scope pm cd doc)→s₁.heap.CodeRec cd d.name→mg d.name=some (.ref fa) →
      s₁.heap.get? a=some { cls:=.type "list",data:=.seq vs.toArray }→IntsAre vs ns→ns.length≤n→s₁.gens=#[] →
      codeAny (model l.prog w) callerA (.call (.ref fa) ⟨[.ref a],[]⟩) (fun r s'=>r=.ok (.ret (.bool true))∧OldK s₁.heap s'.heap∧s'.os=s₁.os∧AllBare s'.gens) s₁) :
    WalkO q loose XP YP l.row.toRowW d [] (fun f vs=>PySem.call f vs):=by
  intro w s₀ s₁ mg mb G Y fa o pm cd doc dV kV ho hd hcd hD hmg hg args vals as hpre hlay hrd hwl hlo
  obtain rfl:dV=.none:=Dflts.none hD hdf
  obtain rfl:kV=.none:=Dflts.noKw hD
  obtain⟨a,vs,ns,rfl,rfl,hobj,hints,hlen⟩:=zia hn hpre hwl
  refine enter_call (codeAny_mono (call w s₀ s₁ mg mb fa o pm cd doc a vs ns G Y ho (fd_plain hd) hcd hmg hobj hints hlen hg) fun r s' hq=>?_)
  obtain⟨rfl,h2,h3,h4⟩:=hq
  exact⟨.inl ⟨.bool true,.bool true,[],rfl,fun _=>rfl,.bool true,zib l _,fun _=>⟨List.Pairwise.nil,fun _ hm=>(nomatch hm)⟩⟩,h2,h3,h4⟩
section
variable {prog:Program} {w:World} {A:Around} {E:Value→Shared→Prop} {s:Shared} {K:Frag}
def ledger (h:Heap) (L d:Addr):List (Addr × Obj):=(List.range h.objs.size).filterMap fun a=>if a=L∨a=d then none else(h.get? a).map fun o=>(a,o)
end
end Att
namespace L2
open PySem PySem.Spec PyProof.Rows
theorem zeD:∀ {vs:List Value} {ns:List Int},IntsAre vs ns→aw (ns.map V.int) vs
  | _,_,.nil=>.nil
  | _,_,.cons n t h=>.cons ⟨t,rfl⟩ (zeD h)
def Only (H:Hp):Prop:=∀ b,H b=none∨∃ o xs,H b=some (.frz o (.lst xs))
theorem zi0 {P:Program} {w:World} {K:PySem.W.Frag} {mg mb:Str→Option Value} {CX:CXT} {k:Nat} {fa a:Addr} {fd:FuncData} {x:Str} {sp:Sp} {s₁:Shared} {vs:List Value} {ns:List Int}
    (KX:K.In s₁.heap) (hns:s₁.heap.Ns mainGlobals mg) (hb:s₁.heap.Ns builtinsNs mb) (hbb:∀ x:Str,x≠"__name__"→mb x=bootBuiltins x) (hlim:s₁.heap.NoLimit) (hg:s₁.gens=#[])
    (ha:s₁.heap.get? a=some { cls:=.type "list",data:=.seq vs.toArray }) (hi:IntsAre vs ns) (hl:ns.length≤sizeLine) (hr:zaE k callerA)
    (F:∀ base:Heap,K.In base→base.Ns mainGlobals mg→zay P w K mg base CX k fa fd [x] sp) (hbind:∀(s:Shared) (u:Value),BindsTo s fd ⟨[u],[]⟩ [(x,u)])
    (hsp:∀ H:Hp,Only H→SqL K H a (ns.map V.int)→sp [.ref a] H (fun v _=>v=.bl true) fun _ _ _=>False)
    (hCX:∀ H e s',CX [] H s₁ (fun _ _ _=>False) e s'→False) :
    codeAny (model P w) callerA (.call (.ref fa) ⟨[.ref a],[]⟩) (fun r s'=>r=.ok (.ret (.bool true))∧OldK s₁.heap s'.heap∧s'.os=s₁.os∧AllBare s'.gens) s₁:=by
  have rv:=zeD hi
  have lenV:=hi.length
  have core:∀ H:Hp,Only H→SqL K H a (ns.map V.int)→HOk P w H s₁.heap→(∀ b,H b≠none→b=a)→(H a≠none→K.lookup a=none) →
      codeAny (model P w) callerA (.call (.ref fa) ⟨[.ref a],[]⟩) (fun r s'=>r=.ok (.ret (.bool true))∧OldK s₁.heap s'.heap∧s'.os=s₁.os∧AllBare s'.gens) s₁:=by
    intro H hO hS hok hA hK
    have base_of:∀ {b:Addr} {o:Obj},s₁.heap.get? b=some o→H b=none→(zed s₁.heap H).get? b=some o:=fun e n=>zi1 e n
    have noA:∀ {b:Addr} {o:Obj} {es:Array DictEntry} {ep:Nat},s₁.heap.get? b=some o→o.data=.dict es ep→H b=none:=fun {b o es ep} e d=>by
      cases q:H b with
      | none=>rfl
      | some u =>
        have e':b=a:=hA b (by rw[q];simp)
        subst e'
        rw[ha]at e;cases e
        have d':Data.seq vs.toArray _=Data.dict es ep:=d
        cases d'
    have nsK:∀ {b:Addr} {m:Str→Option Value},s₁.heap.Ns b m→(zed s₁.heap H).Ns b m:=fun {b m} ⟨o,es,ep,e,d,r⟩=>⟨o,es,ep,base_of e (noA e d),d,r⟩
    have hKb:K.In (zed s₁.heap H):=fun b o e=>base_of (KX b o e) (by
      cases q:H b with
      | none=>rfl
      | some u =>
        have e':b=a:=hA b (by rw[q];simp)
        subst e'
        rw[hK (by rw[q];simp)]at e;cases e)
    have hM:Mod K mg (zed s₁.heap H):=⟨hKb,nsK hns,⟨mb,nsK hb,hbb⟩,let ⟨mc,h1,h2⟩:=hlim;⟨mc,nsK h1,h2⟩⟩
    have e0:zfj P w K mg (zed s₁.heap H) callerA [] s₁ H:=⟨rfl,hM,fun b o e=>zjJ e,Nat.le_of_eq (zin _ _),trivial,fun b hb=>absurd (show b∈([]:List Addr) from hb) (by simp),hok,.of_eq hg⟩
    refine codeAny_mono ((F _ hKb (nsK hns)).run callerA [] s₁ H ⟨[.ref a],[]⟩ [.ref a] [.ref a] _ _ hr e0 (hbind s₁ (.ref a)) (.cons rfl .nil) (hsp H hO hS)) fun r s' h=>?_
    cases r with
    | error e=>exact(hCX H e s' h).elim
    | ok fl =>
      cases fl with
      | next=>exact False.elim h
      | brk=>exact False.elim h
      | cont=>exact False.elim h
      | ret u =>
        obtain⟨v,H',os,bare,un,hok',r',q⟩:=h
        have q':v=.bl true:=q
        subst q'
        obtain rfl:u=Value.bool true:=r'
        refine⟨rfl,OldK.of_keep fun b o e=>?_,os,bare⟩
        cases q:H b with
        | none=>exact un.keep b o e q (by intro z;exact absurd (show b∈([]:List Addr) from z) (by simp)) (by simp)
        | some u =>
          rcases hO b with z | ⟨ob,xs,z⟩
          · rw[q]at z;cases z
          · have z2:=un.frzs b ob _ z
            obtain⟨e1,_⟩:=hok b _ z
            obtain⟨e2,_⟩:=hok' b _ z2
            rw[e]at e1;cases e1
            exact e2
  cases hk:K.lookup a with
  | some o =>
    have e:=KX a o hk
    rw[ha]at e
    cases e
    refine core (fun _=>none) (fun _=>.inl rfl) (.inr ⟨_,vs.toArray,_,hk,rfl,rfl,rfl,by rw[List.size_toArray,lenV];exact hl,by simpa using rv⟩) (fun b u z=>by have z':(none:Option HO)=some u:=z;cases z') (fun b z=>absurd rfl z) fun z=>absurd rfl z
  | none =>
    refine core (fun b=>if b=a then some (.frz { cls:=.type "list",data:=.seq vs.toArray } (.lst (ns.map V.int))) else none) (fun b=>?_) (.inl (.inr ⟨{ cls:=.type "list",data:=.seq vs.toArray },if_pos rfl⟩)) (fun b u z=>?_) (fun b z=>?_) fun _=>hk
    · by_cases hb:b=a
      · exact .inr ⟨_,_,if_pos hb⟩
      · exact .inl (if_neg hb)
    · by_cases hb:b=a
      · have z':=(if_pos hb).symm.trans z
        cases z'
        subst hb
        exact⟨ha,by rw[List.length_map];exact hl,vs,_,rv,ha⟩
      · have z':=(if_neg hb).symm.trans z
        cases z'
    · by_cases hb:b=a
      · exact hb
      · exact absurd (if_neg hb) z
end L2
namespace L2
open PySem PySem.Spec PyProof.Rows
abbrev KOf {K:PySem.W.Frag} {h:Heap} (_:K.In h):PySem.W.Frag:=K
theorem walk_of {l:PySem.W.OpenLaw} {n k:Nat} {q:Program} {loose:List Str} {XP:(Str→Option Value)→Heap→Prop} {YP:World→Heap→Prop} {d:DefRec} {K:Params→PySem.W.Frag} {CX:World→CXT} {sp:World→Sp} {x:Str}
    (hn:l.most=some n) (hn2:n≤sizeLine) (hdf:d.params.defaults=[]) (hr:zaE k callerA)
    (hY:∀(w:World) (h:Heap),YP w h→(K w.params).In h)
    (F:∀(w:World) (mg:Str→Option Value) (fa:Addr) (h:Heap),(K w.params).In h→h.Ns mainGlobals mg→mg d.name=some (.ref fa) →
      ∃ fd:FuncData,(∀(s:Shared) (u:Value),BindsTo s fd ⟨[u],[]⟩ [(x,u)]) ∧
        ∀ base:Heap,(K w.params).In base→base.Ns mainGlobals mg→zay l.prog w (K w.params) mg base (CX w) k fa fd [x] (sp w))
    (hsp:∀(w:World) (H:Hp) (a:Addr) (ns:List Int),ns.length≤n→Only H→SqL (K w.params) H a (ns.map V.int)→sp w [.ref a] H (fun v _=>v=.bl true) fun _ _ _=>False)
    (hCX:∀(w:World) (H:Hp) (s:Shared) (e:Value) (s':Shared),CX w [] H s (fun _ _ _=>False) e s'→False) :
    PySem.W.WalkO q loose XP YP l.row.toRowW d [] (fun f vs=>PySem.call f vs):=by
  refine Att.attach_call hn hdf fun w s₀ s₁ mg mb fa o pm cd doc a vs ns G Y ho hd hcd hmg hobj hints hlen hg=>?_
  have KX:=hY w _ Y
  obtain⟨fd,hb,hF⟩:=F w mg fa _ KX G.T.g hmg
  exact zi0 KX G.T.g G.T.b G.T.builtins G.T.nolimit hg hobj hints (Nat.le_trans hlen hn2) hr hF hb (fun H hO hS=>hsp w H a ns hlen hO hS) fun H e s'=>hCX w H s₁ e s'
end L2
namespace L2
open PySem PySem.Spec PyProof.Rows
def ze5 (s:Stmt) (j:Nat):Stmt:=match s with
  | .ClassDef _ _ _ body _ _ _ _ _ _ _=>body.getD j (.Pass ⟨0,0,0,0⟩)
  | _=>.Pass ⟨0,0,0,0⟩
def zao (s:Stmt):Arguments:=match s with
  | .FunctionDef _ a _ _ _ _ _ _ _ _=>a
  | _=>{ posonlyargs:=[],args:=[],vararg:=none,kwonlyargs:=[],kw_defaults:=[],kwarg:=none,defaults:=[] }
def zae (s:Stmt):List Stmt:=match s with
  | .FunctionDef _ _ b _ _ _ _ _ _ _=>b
  | _=>[]
def ai (s:Stmt):Scope:=match s with
  | .FunctionDef _ _ _ _ _ _ sc _ _ _=>sc
  | _=>{ kind:=.function,names:=[],isGenerator:=false,isCoroutine:=false }
abbrev CX0:CXT:=fun _ _ _ _ _ _=>False
abbrev E0:XK:=fun _ _ _=>False
theorem ay {X:Cx}:zct CX0 X E0:=fun _ _ _ _ _ _ _ h=>h.elim
structure Fun (K:PySem.W.Frag) (x qual:Str) (st:Stmt) (f:Addr) (fd:FuncData):Prop where
  ex:∃(oc:Value) (od:Option Addr) (kV doc pm:Value) (an:Option Addr) (cdv ct:Value) (osl:Array (Option Value)),
    fd=PySem.W.fnOf x qual (zao st) (zae st) (ai st) .none kV doc pm an cdv ct∧K.lookup f=some ⟨oc,od,.func fd,osl⟩∧PySem.W.codeIn K cdv qual=true
  kp:PySem.W.keepIn K (.ref f)=true
section
variable {P:Program} {w:World} {K:PySem.W.Frag} {mg:Str→Option Value} {base:Heap}
theorem Fun.ok {x qual:Str} {st:Stmt} {f:Addr} {fd:FuncData} {N ps:List Str} {k:Nat} {sp:Sp} (F:Fun K x qual st f fd) (S:zap N ps (ai st)) (len:∀ vs H Q E,sp vs H Q E→vs.length=ps.length)
    (hbody:∀(cdv:Value) (A:Around) (outer:List Env) (s:Shared) (H:Hp) (vs:List V) (Q:VK) (E:XK),zaE k (A.deeper (envOfC qual (ai st) s.heap.objs.size f cdv))→sp vs H Q E →
      ∃ t,PSs (zb2 CX0 P w K mg base N qual (ai st) f cdv A outer s H E).nox (zae st) t∧t { nx:=fun _ H'=>Q .non H',rt:=Q } (zda N vs) H):zay P w K mg base CX0 (k+1) f fd ps sp:=by
  obtain⟨oc,od,kV,doc,pm,an,cdv,ct,osl,rfl,lk,hcd⟩:=F.ex
  refine fn_of lk hcd S len fun A outer s H vs Q E hr hsp=>?_
  obtain⟨t,h,q⟩:=hbody cdv A outer s H vs Q E hr hsp
  exact⟨t,h.nox,q⟩
theorem Fun.binds {x qual:Str} {st:Stmt} {f:Addr} {fd:FuncData} {ps:List Str} (F:Fun K x qual st f fd)
    (h:∀(kV doc pm:Value) (an:Option Addr) (cdv ct:Value) (us:List Value),us.length=ps.length→bindArgs (PySem.W.fnOf x qual (zao st) (zae st) (ai st) .none kV doc pm an cdv ct) ⟨us,[]⟩=pure (ps.zip us)):zbI K fd ps []:=by
  obtain⟨oc,od,kV,doc,pm,an,cdv,ct,osl,rfl,lk,hcd⟩:=F.ex
  exact .all (h kV doc pm an cdv ct)
theorem zaC {x qual:Str} {st:Stmt} {f:Addr} {oc:Value} {od an:Option Addr} {osl:Array (Option Value)} {kV doc pm cdv ct:Value} (l:K.lookup f=some ⟨oc,od,.func (PySem.W.fnOf x qual (zao st) (zae st) (ai st) .none kV doc pm an cdv ct),osl⟩)
    (c:PySem.W.codeIn K cdv qual=true) (k:PySem.W.keepIn K (.ref f)=true):Fun K x qual st f (PySem.W.fnOf x qual (zao st) (zae st) (ai st) .none kV doc pm an cdv ct):=⟨⟨oc,od,kV,doc,pm,an,cdv,ct,osl,rfl,l,c⟩,k⟩
end
theorem zeP {A:Around} {k:Nat} (hr:zaE k A):A.units+1 < cLine:=Nat.lt_of_le_of_lt (Nat.add_le_add_left (by decide:1≤64) _) hr.units
theorem zaU {n:Nat} (h:n≤1000):n < sizeLine:=Nat.lt_of_le_of_lt h (by decide)
section
variable {X:Cx}
theorem pv (i:Nat) {x:Str} {pos:Pos} (hN:X.N[i]?=some x:=by rfl) (hv:Vis X.env.scope x:=by first | exact Or.inl rfl | exact Or.inr (Or.inl rfl) | exact Or.inr (Or.inr rfl)) (hd:(x == ("__debug__":Str))=false:=by decide)
    (hcd:(x == ("__classdict__":Str))=false:=by decide):PE X (.Name x pos) (tVar i):=pe_var hN hv hd hcd
end
theorem zax {A B:Prop} (h:B):if false=true then A else B:=by
  rw[if_neg Bool.false_ne_true]
  exact h
theorem zaQ {A B:Prop} (h:A):if true=true then A else B:=by
  rw[if_pos rfl]
  exact h
theorem zbN {c A B:Prop} [Decidable c] (h1:c→A) (h2:¬c→B):if c then A else B:=by
  by_cases h:c
  · rw[if_pos h]
    exact h1 h
  · rw[if_neg h]
    exact h2 h
def aj (H H':Hp):Prop:=∀ b o,H b=some o→H' b=some o
theorem aj.refl (H:Hp):aj H H:=fun _ _ h=>h
theorem aj.trans {H H1 H2:Hp} (a:aj H H1) (b:aj H1 H2):aj H H2:=fun c o h=>b c o (a c o h)
theorem aj.free {H H':Hp} (e:aj H H') {l:Addr} (h:H' l=Option.none):H l=Option.none:=by
  cases q:H l with
  | none=>rfl
  | some o =>
    rw[e l o q]at h
    cases h
theorem aj.seq {K:PySem.W.Frag} {H H':Hp} {a:Addr} {xs:List V} (e:aj H H') (h:SqL K H a xs):SqL K H' a xs:=by
  rcases h with (h | ⟨o,h⟩) | h
  · exact .inl (.inl (e _ _ h))
  · exact .inl (.inr ⟨o,e _ _ h⟩)
  · exact .inr h
end L2
theorem lS0:0≤PySem.sizeLine:=by decide
theorem lS1:1≤PySem.sizeLine:=by decide
theorem lS2:2≤PySem.sizeLine:=by decide
theorem lS3:3≤PySem.sizeLine:=by decide
theorem lS4:4≤PySem.sizeLine:=by decide
namespace L2
open PySem PySem.Spec PyProof.Rows
section
variable {X:Cx} {e l:Expr} {te tl:TE} {pos:Pos} {tg:Expr}
def rSlS:V→Option Int→Option Int→Hp→VK→Prop:=fun x lo hi H Q=>∃ z,x=.str z∧z.length≤sizeLine∧Q (.str (Txt.slice z lo hi)) H
theorem zg8 {v:Value} {o:Option Int} (p:IsPart v o):∃ q:Option (Int × Tok),v=partValue q∧q.map (·.1)=o:=by
 cases p with
 | none=>exact⟨none,rfl,rfl⟩
 | int i t=>exact⟨some (i,t),rfl,rfl⟩
theorem zhL:SlR X rSlS:=by
 intro pins s σ H x v vl vu lo hi sl Q I rx hs pl pu h
 obtain⟨z,rfl,hz,q⟩:=h
 obtain⟨t,rfl⟩:=rx
 obtain⟨ql,rfl,rfl⟩:=zg8 pl
 obtain⟨qu,rfl,rfl⟩:=zg8 pu
 obtain⟨o,ho,hc,hd⟩:=hs
 refine⟨"str",_,F.slot_str_getitem.lookup,typeIs_str _ _ _,?_⟩
 refine wpAny_getItem_str_slice (l:=ql) (u:=qu) (st:=none) ⟨o,ho,hc,hd⟩ rfl ?_
 exact post_val_or_str ⟨Nat.le_trans (Txt.slice_le z _ _) hz,fun t' k=>⟨.str (Txt.slice z (ql.map (·.1)) (qu.map (·.1))),H,I.tok _,⟨_,rfl⟩,q⟩⟩
theorem zff:zbS X (.builtin "isinstance") (fun xs H Q=>∃ x t n b,xs=[x,.ty n]∧zcw X.K H x t∧W.kitOne X.K t (.type n)=some b∧Q (.bl b) H):=by
 intro pins s σ H xs us Q I r h
 obtain⟨x,t,n,b,rfl,ty,hk,q⟩:=h
 obtain⟨u,w',rfl,rx,ry⟩:=zdI r
 cases (show w'=Value.type n from ry)
 exact zil I rx ty hk fun tk=>⟨.bl b,H,I.tok _,rfl,q⟩
end
structure Clo (X:Cx) (scope:Scope) (cl:List (Str × Addr)):Prop where
 eq:closureFor scope X.env=pure cl
 sub:∀ y c,cl.lookup y=some c→X.env.cells.lookup y=some c
 has:∀ y,((relabel scope X.env).names.lookup y=some .cell∨(relabel scope X.env).names.lookup y=some .free)→∃ c,cl.lookup y=some c
theorem zeo {X:Cx} {scope:Scope} (hfree:∀ x∈scope.names,x.2≠.free) (hcell:∀ x∈scope.names,x.2≠.cell):Clo X scope []:=by
 refine⟨closureFor_none hfree,fun y c h=>by simp at h,fun y h=>?_⟩
 have e:(relabel scope X.env).names=scope.names:=by
  unfold relabel
  refine map_eq_self (fun x hx=>?_)
  obtain⟨n,k⟩:=x
  have:(k == NameKind.free)=false:=by simpa using hfree _ hx
  simp [this]
 rw[e]at h
 rcases h with h | h
 ·exact absurd rfl (hcell _ (PySem.mem_of_lookup h))
 ·exact absurd rfl (hfree _ (PySem.mem_of_lookup h))
def au (X:Cx) (N':List Str) (scope:Scope) (cl:List (Str × Addr)) (fp:List Addr) (s₃:Shared) (H₃:Hp):Cx where
 prog:=X.prog
 w:=X.w
 K:=X.K
 mg:=X.mg
 base:=X.base
 A:=X.A
 N:=N'
 s₀:=s₃
 H₀:=H₃
 env:=compEnvC scope cl s₃.heap.objs.size X.env
 outer:=X.stack
 stack:=X.stack
 ex:=fp
 calm:=X.calm
 fn:=fun _=>false
 pn:=[]
 xe:=fun _ _=>False
def fvs (σ:St) (ix:List Nat):St:=ix.map fun i=>(σ[i]?).join
def tLC (wi:TI) (ix:List Nat) (te:TE):TE:=fun σ H Q=>wi σ H fun J H1=>∀ D,H1 D=none →
 ∃ W:Nat→Nat→List V→Hp→Prop,(∃ m,W 0 m [] (upd H1 D (.lst []))) ∧
  ∀ i m ys H',W i m ys H'→H' D=some (.lst ys) ∧
   ((J.stop i H'∧Q (.ref D) H')∨(J.go i H'∧∀ x H'',J.yld i H' x H''→te (some x :: fvs σ ix) H'' fun y H3 =>
    H3 D=some (.lst ys)∧ys.length < sizeLine∧∃ m',m' < m∧W (i+1) m' (ys++[y]) (upd H3 D (.lst (ys++[y])))))
theorem zc0 {prog:Program} {w:World} {A:Around} {R:Result→Shared→Prop} {s:Shared} {elt target iter:Expr} {scope:Scope} {pos:Pos} {it acc:Value} {env:Env} (I:Nat→Shared→Prop)
  (turn:∀ n s,I n s→wpAny (model prog w) A (pyNext it) (fun r s₁=>match r with
   | none=>R (.ok .next) s₁
   | some v=>wpAny (model prog w) A (letOwnedTupleGo target it v) (fun _ s₁'=>wpAny (model prog w) A (assign target env v) (fun _ s₂=>wpAny (model prog w) A (eval elt env) (fun x s₃ =>
     wpAny (model prog w) A (call (.builtin "list.append") [acc,x]) (fun _ s₄=>∃ m,m < n∧I m s₄) (notedBy (model prog w) A env fun e s'=>R (.error e) s') s₃)
     (notedBy (model prog w) A env fun e s'=>R (.error e) s') s₂) (notedBy (model prog w) A env fun e s'=>R (.error e) s') s₁') (notedBy (model prog w) A env fun e s'=>R (.error e) s') s₁) (notedBy (model prog w) A env fun e s'=>R (.error e) s') s)
  (n:Nat) (h:I n s) :
  codeAny (model prog w) A (.compLoop (.ListComp elt [⟨target,iter,[],0⟩] scope pos) 0 it acc env) R s:=by
 refine codeAny_loop rfl I (fun n s hI=>?_) n h
 show wpAny _ _ ((compTurn (.ListComp elt [⟨target,iter,[],0⟩] scope pos) 0 it acc env).onRaise (fun x=>do noteFrame x env;theTreesLotGoes x)) _ _ s
 refine wpAny_noted ?_
 rw[compTurn_list1]
 refine wpAny_bind (wpAny_standAt (wpAny_bind (wpAny_mono (turn n s hI) (fun r s₁ h₁=>?_) fun _ _ h'=>h')))
 cases r with
 | none=>exact wpAny_pure h₁
 | some v =>
  refine wpAny_bind (wpAny_mono h₁ (fun _ s₁' h₁'=>?_) fun _ _ h'=>h')
  exact wpAny_bind (wpAny_mono h₁' (fun _ s₂ h₂=>wpAny_bind (wpAny_bind (wpAny_mono h₂ (fun x s₃ h₃=>wpAny_bind (wpAny_mono h₃
   (fun _ s₄ h₄=>wpAny_pure (wpAny_pure ⟨rfl,h₄⟩)) fun _ _ h'=>h')) fun _ _ h'=>h'))) fun _ _ h'=>h')
section
variable {X:Cx} {N':List Str} {scope:Scope} {cl:List (Str × Addr)} {fp:List Addr} {pins:List (Addr × Obj)} {σ:St} {H:Hp} {s:Shared}
theorem zbc (I:Inv X pins σ H s) (C:Clo X scope cl) (hkind:scope.kind=.function) (hf:∀ b∈fp,zbl X pins H b) (hlt:∀ b∈fp,b < s.heap.objs.size):(au X N' scope cl fp s H).Ok where
 mod:=I.ok.mod
 kind:=hkind
 glob:=I.ok.glob
 blt:=I.ok.blt
 above:=Nat.le_refl _
 inj:=fun x y c h1 h2=>I.ok.inj x y c (C.sub x c h1) (C.sub y c h2)
 has:=fun x h=>C.has x h
 cab:=fun x c h=>by cases (show false=true from h)
 hd:=I.ok.hd
 frames:=I.ok.frames
 stk:=.inl rfl
 exf:=fun b hb=>⟨Nat.ne_of_lt (hlt b hb),fun x c h=>(hf b hb).2.2.2.2.1 x c (C.sub x c h)⟩
 bs:=fun b o h=>I.bs b o h
 bsz:=Nat.le_trans I.ok.bsz I.sz
 noex:=fun b o h hb=>by
  rcases(hf b hb).2.2.2.1 with z | z
  ·exact I.ok.noex b o h z
  ·exact absurd (Nat.lt_of_lt_of_le (Heap.lt_size h) (Nat.le_trans I.ok.bsz z)) (Nat.lt_irrefl _)
 exfs:=fun b hb hs=>by
  rcases List.mem_cons.mp (I.stkSub b hs) with z | z
  ·exact(hf b hb).2.1 z
  ·exact(hf b hb).2.2.1 z
 funs:=I.stack
 frf:=I.stkFree
theorem zes {ix:List Nat} {h₁:Heap} {t':Nat} {m:Str→Option Value} (I:Inv X pins σ H s) (C:Clo X scope cl) (hkind:scope.kind=.function) (hf:∀ b∈fp,zbl X pins H b) (hlt:∀ b∈fp,b < s.heap.objs.size)
  (hlen:N'.length=ix.length+1) (hix:∀(j i:Nat),ix[j]?=some i→∃ y,X.N[i]?=some y∧N'[j+1]?=some y∧(X.env.kindOf y=some .cell∨X.env.kindOf y=some .free)∧((relabel scope X.env).names.lookup y=some .cell∨(relabel scope X.env).names.lookup y=some .free))
  (hn:h₁.Ns s.heap.objs.size m) (hk:∀ b o,s.heap.get? b=some o→h₁.get? b=some o):Inv (au X N' scope cl fp s H) [] (none :: fvs σ ix) H { s with heap:=h₁,toks:=t' }:=by
 have cellK:∀ x c,cl.lookup x=some c→∃ v,h₁.IsCell c v:=fun x c h=>by
  obtain⟨v,o,ho,hd⟩:=I.cell x c (C.sub x c h)
  exact⟨v,o,hk c o ho,hd⟩
 refine⟨zbc I C hkind hf hlt,rfl,I.bare,Un.kept hk,⟨m,hn,fun i y v h1 h2 h3=>?_⟩,cellK,I.hok.fresh (Nat.le_refl _),fun x c h=>I.freeC x c (C.sub x c h),fun p hp=>absurd (show p∈([]:List (Addr × Obj)) from hp) (by simp),I.hok.kept hk,?_⟩
 ·cases i with
  | zero=>cases (show some (none:Option V)=some (some v) from h2)
  | succ j =>
   have h2':(fvs σ ix)[j]?=some (some v):=h2
   unfold fvs at h2'
   rw[List.getElem?_map]at h2'
   cases e:ix[j]? with
   | none=>rw[e]at h2';cases h2'
   | some i =>
    rw[e]at h2'
    have h4:(σ[i]?).join=some v:=Option.some.inj h2'
    have h5:σ[i]?=some (some v):=by
     cases e':σ[i]? with
     | none=>rw[e']at h4;cases h4
     | some q =>
      rw[e']at h4
      have h6:q=some v:=h4
      rw[h6]
    obtain⟨y',n1,n2,k1,k2⟩:=hix j i e
    have ey:y'=y:=Option.some.inj (n2.symm.trans h1)
    subst ey
    obtain⟨m0,hn0,hl0⟩:=I.loc
    have hv0:Vis X.env.scope y':=k1.elim (fun z=>.inr (.inl z)) fun z=>.inr (.inr z)
    obtain⟨u,ru,l⟩:=hl0 i y' v n1 h5 hv0
    refine⟨u,ru,.inr ⟨k2,?_⟩⟩
    rcases l with ⟨k,_⟩ | ⟨_,c,ec,o,ho,hd⟩
    ·rcases k1 with z | z
     ·rw[z]at k;cases k
     ·rw[z]at k;cases k
    ·obtain⟨c',ec'⟩:=C.has y' k2
     have:c'=c:=Option.some.inj ((C.sub _ _ ec').symm.trans ec)
     subst this
     exact⟨c',ec',o,hk c' o ho,hd⟩
 ·show(none :: fvs σ ix:St).length=N'.length
  rw[hlen]
  simp [fvs]
theorem zcA {σ':St} {H':Hp} {s':Shared} {h':Heap} (I:Inv X pins σ H s) (J:Inv (au X N' scope cl fp s H) [] σ' H' s') (hf:∀ b∈fp,zbl X pins H b) (hs:Heap.SameBut s.heap.objs.size s'.heap h'):Inv X pins σ H' { s' with heap:=h' }:=by
 have ne:∀ b o,s.heap.get? b=some o→b≠s.heap.objs.size:=fun b o e=>Nat.ne_of_lt (Heap.lt_size e)
 have eq:∀ b,b≠s.heap.objs.size→h'.get? b=s'.heap.get? b:=fun b hb=>hs.2 b hb
 have B:=J.base
 have u:Un (frs X.stack) fp H H' s.heap h' :=
  ⟨fun b o e n h1 h2=>(eq b (ne b o e)).trans (B.keep b o e n h1 h2),fun b o e n h1 h2=>by
   obtain⟨sl,q⟩:=B.slot b o e n h1 h2
   exact⟨sl,(eq b (ne b o e)).trans q⟩,fun b o e n h1=>B.free b o e n h1,fun b o e h1=>by
   obtain⟨o',q⟩:=B.there b o e h1
   exact⟨o',(eq b (ne b o e)).trans q⟩,B.tups,B.frzs,B.tbls⟩
 have hfree:H' s.heap.objs.size=none:=J.free
 have hok:HOk X.prog X.w H' h':=fun b ob e=>by
  refine(J.hok b ob e).stay (fun c w' hc q=>(eq c ?_).trans q) (fun _ q=>q) fun _ _ q=>q
  rintro rfl
  rcases hc with z | z
  ·rw[←z,hfree]at e;cases e
  ·rw[hfree]at z;cases z
 exact I.call' (s':={ s' with heap:=h' }) (ch:=fp) J.os u hok J.bare fun b hb=>⟨(hf b hb).2.2.2.1,(hf b hb).2.1,(hf b hb).2.2.2.2.1,(hf b hb).2.2.2.2.2⟩
end
section
variable {X:Cx} {N':List Str} {scope:Scope} {elt iter:Expr} {x:Str} {px pos:Pos} {wi:TI} {te:TE} {ix:List Nat}
theorem zeM (hc:X.calm=true) (hkind:scope.kind=.function) (hcell:∀ y∈scope.names,y.2≠.cell) (hnames:∀ y∈scope.names,y.2=.local→scope.names.lookup y.1=some .local) (hx:scope.names.lookup x=some .local)
  (hclo:X.Ok→∃ cl,Clo X scope cl) (hN:N'.Nodup) (hN0:N'[0]?=some x) (hlen:N'.length=ix.length+1)
  (hix:∀(j i:Nat),ix[j]?=some i→∃ y,X.N[i]?=some y∧N'[j+1]?=some y∧(X.env.kindOf y=some .cell∨X.env.kindOf y=some .free)∧((relabel scope X.env).names.lookup y=some .cell∨(relabel scope X.env).names.lookup y=some .free))
  (hi:PI X (.Name x px) iter wi) (he:∀ cl fp s₃ H₃,PE (au X N' scope cl fp s₃ H₃) elt te) (hs:∀ v,foldedSetIterable iter X.env v=pure v:=by intro _;rfl) :
  PE X (.ListComp elt [⟨.Name x px,iter,[],0⟩] scope pos) (tLC wi ix te):=by
 intro pins s σ H Q I h
 obtain⟨cl,C⟩:=hclo I.ok
 rw[eval_ListComp]
 refine wpAny_comprehension_free (use:=none) rfl hs C.eq hkind hnames (thn (hi pins s σ H _ I h) fun v s1 h1=>thn h1 fun itv s2 h2=>?_)
 obtain⟨it,fp,tn,J,H2,e,I2,T,st2,f2,q2⟩:=h2
 subst e
 have hD:H2 s2.heap.objs.size=none:=I2.fresh
 obtain⟨W,⟨m0,w0⟩,turn⟩:=q2 s2.heap.objs.size hD
 refine wpAny_newObj_type (wpAny_newFunctionEnv hcell (by intro y hy;simp at hy) (fun h₁ hns₁ hsb₁=>?_) hkind)
 dsimp only at hns₁ hsb₁ ⊢
 have I3:Inv X pins σ (upd H2 s2.heap.objs.size (.lst [])) { s2 with heap:=s2.heap.push { cls:=.type "list",data:=.seq ([]:List Value).toArray },toks:=s2.toks }:=I2.lnew .nil (Nat.zero_le _)
 generalize hs3:({ s2 with heap:=s2.heap.push { cls:=.type "list",data:=.seq ([]:List Value).toArray },toks:=s2.toks }:Shared)=s3 at I3
 have e3:s3.heap=s2.heap.push { cls:=.type "list",data:=.seq ([]:List Value).toArray }:=by rw[←hs3]
 generalize hDD:s2.heap.objs.size=D at *
 generalize hH3:upd H2 D (.lst [])=H3 at *
 have lt2:∀ b∈fp,b < s2.heap.objs.size:=fun b hb=>by
  obtain⟨o,ho,_⟩:=T.obj 0 _ st2 b hb
  exact Heap.lt_size ho
 have neD:∀ b∈fp,b≠D:=fun b hb=>by rw[←hDD];exact Nat.ne_of_lt (lt2 b hb)
 have f3:∀ b∈fp,zbl X pins H3 b:=fun b hb=>⟨by rw[←hH3,ap (neD b hb)];exact(f2 b hb).1,(f2 b hb).2⟩
 have sz3:s3.heap.objs.size=D+1:=by rw[e3,Heap.size_push,hDD]
 have lt3:∀ b∈fp,b < s3.heap.objs.size:=fun b hb=>by have q:=lt2 b hb;rw[sz3];rw[hDD]at q;exact Nat.lt_succ_of_lt q
 have old:∀ b o,s3.heap.get? b=some o→h₁.get? b=some o:=fun b o eb=>by
  have hb:b < D+1:=by rw[←sz3];exact Heap.lt_size eb
  refine hsb₁.extBut b o ?_ (Heap.get?_push_of_some _ (by rw[←e3];exact eb))
  rw[Heap.size_push,hDD]
  exact Nat.ne_of_lt hb
 have szC:(s2.heap.push { cls:=.type "list",data:=.seq ([]:List Value).toArray }).objs.size=s3.heap.objs.size:=by rw[e3]
 have os3:s3.os=s2.os:=by rw[←hs3]
 rw[szC]at hns₁ hsb₁
 have I4:Inv (au X N' scope cl fp s3 H3) [] (none :: fvs σ ix) H3 { s3 with heap:=h₁,toks:=s2.toks+([]:List (Str × Value)).length }:=zes I3 C hkind f3 lt3 hlen hix hns₁ old
 have st4:tn 0 h₁:=T.keep 0 _ _ st2 fun b hb o eb=>old b o (by rw[e3];exact Heap.get?_push_of_some _ eb)
 have stat:∀ {H':Hp},(∀ b∈fp,H' b=none)→∀ b∈fp,zbl (au X N' scope cl fp s3 H3) [] H' b:=fun hn b hb =>
  ⟨hn b hb,Nat.ne_of_lt (lt3 b hb),fun hs'=>(zbc (N':=N') I3 C hkind f3 lt3).exfs b hb hs',.inl hb,fun y c hy=>((zbc (N':=N') I3 C hkind f3 lt3).exf b hb).2 y c hy,fun p hp=>absurd (show p∈([]:List (Addr × Obj)) from hp) (by simp)⟩
 have loop:∀ s4:Shared,s4={ s3 with heap:=h₁,toks:=s2.toks+([]:List (Str × Value)).length } →
   codeAny (model X.prog X.w) X.A (.compLoop (.ListComp elt [⟨.Name x px,iter,[],0⟩] scope pos) 0 (.ref it) (.ref D) (compEnvC scope cl s3.heap.objs.size X.env))
    (compPost (model X.prog X.w) X.A X.xe none (EP X pins σ Q) (.ref D) s3.heap.objs.size) s4:=by
  rintro s4 rfl
  refine zc0 (fun n s'=>∃ i σ0 H' ys,Inv (au X N' scope cl fp s3 H3) [] (σ0 :: fvs σ ix) H' s'∧tn i s'.heap∧(∀ b∈fp,H' b=none)∧W i n ys H') ?_ m0 ⟨0,none,H3,[],I4,st4,fun b hb=>(f3 b hb).1,w0⟩
  rintro n s5 ⟨i,σ0,H5,ys,I5,st5,fr5,w5⟩
  obtain⟨hD5,alt⟩:=turn i n ys H5 w5
  rcases alt with ⟨stop,q⟩ | ⟨go,step⟩
  ·refine thn (T.done (au X N' scope cl fp s3 H3) rfl rfl rfl hc i [] s5 _ H5 _ I5 (stat fr5) st5 stop) fun r s6 ⟨hr,I6⟩=>?_
   subst hr
   obtain⟨m,hn,_⟩:=I6.loc
   exact⟨m,hn,fun h' hsb=>⟨.ref D,H5,zcA I3 I6 f3 hsb,rfl,q⟩⟩
  ·refine thn (T.item (au X N' scope cl fp s3 H3) rfl rfl rfl hc i [] s5 _ H5 _ I5 (stat fr5) st5 go) fun r s6 ⟨u,hr,h6⟩=>?_
   subst hr
   refine thn h6 fun _ s7 ⟨y7,H7,I7,r7,yl7,st7,fr7⟩=>?_
   have I7':=I7.pinned (stat fr7) (T.obj _ _ st7)
   have G:PG (au X N' scope cl fp s3 H3) (.Name x px) (zde 0):=zan hN hN0 (.inl (lookup_relabel_local hx)) (.inr (lookup_relabel_local hx))
   refine wpAny_mono (G _ s7 _ H7 y7 u (fun σ' H'=>σ'=some y7 :: fvs σ ix∧H'=H7) I7' r7 ⟨rfl,rfl⟩) (fun _ s8 h8=>?_) fun _ _ f=>False.elim f
   obtain⟨σ8,H8,I8,rfl,rfl⟩:=h8
   refine wpAny_mono (he cl fp s3 H3 _ s8 _ H8 _ I8 (step y7 H8 yl7)) (fun yv s9 h9=>?_) fun _ _ f=>False.elim f
   obtain⟨y9,H9,I9,r9,hD9,hl9,m',hm',w9⟩:=h9
   refine wpAny_mono (zaH (X:=au X N' scope cl fp s3 H3) _ s9 _ H9 (.ref D) [y9] (.ref D) [yv] (fun _ H'=>H'=upd H9 D (.lst (ys++[y9]))) I9 rfl (.cons r9 .nil) ⟨D,ys,y9,rfl,rfl,hD9,hl9,rfl⟩) (fun _ s10 h10=>?_) fun _ _ f=>False.elim f
   obtain⟨_,H10,I10,_,rfl⟩:=h10
   refine⟨m',hm',i+1,some y7,_,ys++[y9],I10.unpinned,T.keep _ _ _ st7 fun b hb o eb=>(I10.pin (b,o) (List.mem_append_right _ (List.mem_append_right _ (zaP hb eb)))).1,fun b hb=>?_,w9⟩
   obtain⟨o,eb,d⟩:=T.obj _ _ st7 b hb
   exact(I10.pin (b,o) (List.mem_append_right _ (List.mem_append_right _ (zaP hb eb)))).2.1
 subst hs3
 have fin:=codeAny_compStart_list (loop _ rfl) (T.self X.A 0 _ _ _ st4 (loop _ rfl))
 exact fin
end
end L2
namespace L2
open PySem PySem.Spec PyProof.Rows
section
variable {X:Cx} {e l:Expr} {es:List Expr} {te tl:TE} {pos:Pos} {tg:Expr}
def tFmt (te:TE):TE:=fun σ H Q=>te σ H fun x H1=>(∃ z,x=.str z∧z.length≤sizeLine∧Q (.str z) H1)∨∃ i:Int,x=.int i∧i.natAbs.log2 < 1920∧Q (.str (toString i)) H1
theorem pe_fv (he:PE X e te):PE X (.FormattedValue e (-1) none pos) (tFmt te):=by
 intro pins s σ H Q I h
 refine FormattedValue_plain (thn (he pins s σ H _ I h) fun v s1 ⟨x,H1,I1,r1,q1⟩=>?_)
 rcases q1 with ⟨z,rfl,hz,q⟩ | ⟨i,rfl,hi,q⟩
 ·obtain⟨t,rfl⟩:=r1
  exact formatField_str (fun t' tk=>⟨.str z,H1,I1.tok _,⟨_,rfl⟩,q⟩) hz
 ·obtain⟨t,rfl⟩:=r1
  exact formatField_int_small hi ⟨.str _,H1,I1.tok _,⟨_,rfl⟩,q⟩
abbrev TJ:=St→Hp→Str→(Str→Hp→Prop)→Prop
def PJ (X:Cx) (es:List Expr) (t:TJ):Prop :=
 ∀(pins:List (Addr × Obj)) (s:Shared) (σ:St) (H:Hp) (acc:Str) (Q:Str→Hp→Prop) (R:Str→Shared→Prop),Inv X pins σ H s→t σ H acc Q→(∀ out s1 H1,Inv X pins σ H1 s1→Q out H1→R out s1)→Joins (model X.prog X.w) X.A X.xe (evalEach es X.env) acc R s
def jNil:TJ:=fun _ H acc Q=>Q acc H
def jCons (te:TE) (t:TJ):TJ:=fun σ H acc Q=>te σ H fun x H1=>∃ y,x=.str y∧(acc++y).length≤sizeLine∧t σ H1 (acc++y) Q
theorem pj_nil:PJ X [] jNil:=fun _ _ _ _ _ _ _ I h k=>k _ _ _ I h
theorem zeZ {t:TJ} (he:PE X e te) (hr:PJ X es t):PJ X (e :: es) (jCons te t):=by
 intro pins s σ H acc Q R I h k
 refine thn (he pins s σ H _ I h) fun v s1 ⟨x,H1,I1,r1,q1⟩=>?_
 obtain⟨y,rfl,hz,q⟩:=q1
 obtain⟨t,rfl⟩:=r1
 exact⟨y,_,rfl,hz,hr pins s1 σ H1 _ Q R I1 q k⟩
def zjf (t:TJ):TE:=fun σ H Q=>t σ H Str.empty fun out H1=>out.length≤sizeLine∧Q (.str out) H1
theorem zid {v1 v2:Expr} {t:TJ} (h:PJ X (v1 :: v2 :: es) t):PE X (.JoinedStr (v1 :: v2 :: es) pos) (zjf t):=by
 intro pins s σ H Q I hw
 exact wpAny_JoinedStr (h pins s σ H _ _ _ I hw fun out s1 H1 I1 q=>⟨q.1,.str out,H1,I1.tok _,⟨_,rfl⟩,q.2⟩)
end
theorem zfx {env:Env}:∀(l:List (Str × NameKind)) (acc:List (Str × Addr)),(∀ y∈l,y.2=.free→∃ c,env.cells.lookup y.1=some c) →
  ∃ cl,(forIn l acc (fun(y:Str × NameKind) cs=>if(y.2 == NameKind.free)=true then do let c ←cellOf env y.1;pure (ForInStep.yield ((y.1,c) :: cs)) else pure (ForInStep.yield cs)):Sem (List (Str × Addr)))=pure cl ∧
   (∀ y c,cl.lookup y=some c→acc.lookup y=some c∨env.cells.lookup y=some c)∧∀ y,((y,NameKind.free)∈l∨∃ c,acc.lookup y=some c)→∃ c,cl.lookup y=some c
 | [],acc,_=>⟨acc,rfl,fun _ _ h=>.inl h,fun y h=>h.elim (fun z=>by cases z) fun z=>z⟩
 | (n,k) :: r,acc,hf=>by
  by_cases hk:k=.free
  ·subst hk
   obtain⟨c,hc⟩:=hf (n,.free) List.mem_cons_self rfl
   obtain⟨cl,e1,e2,e3⟩:=zfx r ((n,c) :: acc) fun y hy=>hf y (List.mem_cons_of_mem _ hy)
   refine⟨cl,?_,fun y d h=>?_,fun y h=>?_⟩
   ·rw[List.forIn_cons]
    have ec:cellOf env n=pure c:=by unfold cellOf;rw[show env.cells.lookup n=some c from hc]
    have eb:(NameKind.free == NameKind.free)=true:=rfl
    simp only[eb,if_true,ec,pure_bind]
    exact e1
   ·rcases e2 y d h with z | z
    ·by_cases hy:y=n
     ·subst hy
      rw[List.lookup_cons,beq_self_eq_true]at z
      cases z
      exact .inr hc
     ·rw[List.lookup_cons,beq_eq_false_iff_ne.mpr hy]at z
      exact .inl z
    ·exact .inr z
   ·refine e3 y ?_
    by_cases hy:y=n
    ·subst hy
     exact .inr ⟨c,by rw[List.lookup_cons,beq_self_eq_true]⟩
    ·rcases h with z | ⟨d,z⟩
     ·rcases List.mem_cons.mp z with z | z
      ·exact absurd (congrArg Prod.fst z) hy
      ·exact .inl z
     ·exact .inr ⟨d,by rw[List.lookup_cons,beq_eq_false_iff_ne.mpr hy];exact z⟩
  ·obtain⟨cl,e1,e2,e3⟩:=zfx r acc fun y hy=>hf y (List.mem_cons_of_mem _ hy)
   refine⟨cl,?_,e2,fun y h=>e3 y ?_⟩
   ·rw[List.forIn_cons]
    have hb:(k == NameKind.free)=false:=by simpa using hk
    simp only[hb,Bool.false_eq_true,if_false,pure_bind]
    exact e1
   ·rcases h with z | z
    ·rcases List.mem_cons.mp z with z | z
     ·exact absurd (congrArg Prod.snd z).symm hk
     ·exact .inl z
    ·exact .inr z
theorem zcJ {X:Cx} {scope sc:Scope} (ok:X.Ok) (hsc:X.env.scope=sc) (hcell:∀ x∈scope.names,x.2≠.cell)
  (hf:∀ y∈scope.names,y.2=.free→sc.names.lookup y.1=some .cell∨sc.names.lookup y.1=some .free):∃ cl,Clo X scope cl:=by
 obtain⟨cl,e1,e2,e3⟩:=zfx (env:=X.env) scope.names [] fun y hy h=>ok.has y.1 (by
  show X.env.scope.names.lookup y.1=_∨X.env.scope.names.lookup y.1=_
  rw[hsc]
  exact hf y hy h)
 refine⟨cl,?_,fun y c h=>(e2 y c h).elim (fun z=>by cases z) fun z=>z,fun y h=>e3 y (.inl ?_)⟩
 ·unfold closureFor
  have e0:(forIn scope.names ([]:List (Str × Addr)) (fun(x:Str × NameKind) cs=>match x with
    | (name,kind)=>if(kind == NameKind.free)=true then do let c ←cellOf X.env name;pure (ForInStep.yield ((name,c) :: cs)) else pure (ForInStep.yield cs)):Sem (List (Str × Addr)))=pure cl:=e1
  show(forIn scope.names ([]:List (Str × Addr)) _ >>= fun z=>pure z)=pure cl
  rw[bind_pure]
  exact e0
 ·have m:∃ k,(k=.cell∨k=.free)∧(y,k)∈(relabel scope X.env).names:=by
   rcases h with h | h
   ·exact⟨_,.inl rfl,PySem.mem_of_lookup h⟩
   ·exact⟨_,.inr rfl,PySem.mem_of_lookup h⟩
  obtain⟨k,hk,hm⟩:=m
  unfold relabel at hm
  obtain⟨⟨n0,k0⟩,h0,ez⟩:=List.mem_map.mp hm
  by_cases hc:(k0 == NameKind.free&&X.env.scope.kind == .function&&X.env.kindOf n0 == some .cell)=true
  ·dsimp only at ez
   rw[if_pos hc]at ez
   have en:n0=y:=congrArg Prod.fst ez
   have ef:k0=.free:=by
    rw[Bool.and_eq_true,Bool.and_eq_true]at hc
    simpa using hc.1.1
   rw[en,ef]at h0
   exact h0
  ·dsimp only at ez
   rw[if_neg hc]at ez
   have en:n0=y:=congrArg Prod.fst ez
   have ek:k0=k:=congrArg Prod.snd ez
   rw[en,ek]at h0
   rcases hk with z | z
   ·exact absurd z (hcell _ h0)
   ·rw[z]at h0
    exact h0
def tLCI (wi:TI) (ix:List Nat) (tc:TT) (te:TE):TE:=fun σ H Q=>wi σ H fun J H1=>∀ D,H1 D=none →
 ∃ W:Nat→Nat→List V→Hp→Prop,(∃ m,W 0 m [] (upd H1 D (.lst []))) ∧
  ∀ i m ys H',W i m ys H'→H' D=some (.lst ys) ∧
   ((J.stop i H'∧Q (.ref D) H')∨(J.go i H'∧∀ x H'',J.yld i H' x H''→tc (some x :: fvs σ ix) H'' fun b H3 =>
    if b=true then te (some x :: fvs σ ix) H3 fun y H4=>H4 D=some (.lst ys)∧ys.length < sizeLine∧∃ m',m' < m∧W (i+1) m' (ys++[y]) (upd H4 D (.lst (ys++[y])))
    else ∃ m',m' < m∧W (i+1) m' ys H3))
theorem zdH {prog:Program} {w:World} {A:Around} {R:Result→Shared→Prop} {s:Shared} {elt target iter c:Expr} {scope:Scope} {pos:Pos} {it acc:Value} {env:Env} (J:Nat→Shared→Prop)
  (step:∀ n s,J n s→wpAny (model prog w) A (pyNext it) (fun r s1=>match r with
   | none=>R (.ok .next) s1
   | some v=>wpAny (model prog w) A (letOwnedTupleGo target it v) (fun _ s2=>wpAny (model prog w) A (assign target env v) (fun _ s3=>wpAny (model prog w) A (isTrue c env (eval c env)) (fun b s4=>if b=true then wpAny (model prog w) A (eval elt env) (fun x s5 =>
     wpAny (model prog w) A (call (.builtin "list.append") [acc,x]) (fun _ s6=>∃ m,m < n∧J m s6) (notedBy (model prog w) A env fun e s'=>R (.error e) s') s5) (notedBy (model prog w) A env fun e s'=>R (.error e) s') s4
     else ∃ m,m < n∧J m s4) (notedBy (model prog w) A env fun e s'=>R (.error e) s') s3)
     (notedBy (model prog w) A env fun e s'=>R (.error e) s') s2) (notedBy (model prog w) A env fun e s'=>R (.error e) s') s1) (notedBy (model prog w) A env fun e s'=>R (.error e) s') s)
  (n:Nat) (h0:J n s):codeAny (model prog w) A (.compLoop (.ListComp elt [⟨target,iter,[c],0⟩] scope pos) 0 it acc env) R s:=by
 refine codeAny_loop rfl J (fun n s hJ=>?_) n h0
 show wpAny _ A ((compTurn (.ListComp elt [⟨target,iter,[c],0⟩] scope pos) 0 it acc env).onRaise (fun x=>do noteFrame x env;theTreesLotGoes x)) _ _ s
 refine wpAny_noted ?_
 rw[compTurn_list]
 refine wpAny_bind (wpAny_standAt (wpAny_bind (wpAny_mono (step n s hJ) (fun r s1 h1=>?_) fun _ _ z=>z)))
 cases r with
 | none=>exact wpAny_pure h1
 | some v =>
  refine wpAny_bind (wpAny_mono h1 (fun _ s2 h2=>?_) fun _ _ z=>z)
  refine wpAny_bind (wpAny_mono h2 (fun _ s3 h3=>?_) fun _ _ z=>z)
  refine wpAny_bind ?_
  rw[List.forIn_cons]
  refine wpAny_bind ?_
  rw[if_pos rfl]
  refine wpAny_bind (wpAny_mono h3 (fun b s4 h4=>wpAny_pure ?_) fun _ _ z=>z)
  show wpAny _ A (forIn ([]:List Expr) b _) _ _ s4
  rw[List.forIn_nil]
  refine wpAny_pure ?_
  cases b with
  | false=>exact wpAny_pure ⟨rfl,h4⟩
  | true=>exact wpAny_bind (wpAny_bind (wpAny_mono h4 (fun x s5 h5=>wpAny_bind (wpAny_mono h5 (fun _ s6 h6=>wpAny_pure (wpAny_pure ⟨rfl,h6⟩)) fun _ _ z=>z)) fun _ _ z=>z))
section
variable {X:Cx} {N':List Str} {scope:Scope} {elt iter c:Expr} {x:Str} {px pos:Pos} {wi:TI} {tc:TT} {te:TE} {ix:List Nat}
end
end L2
namespace L2
open PySem PySem.Spec PyProof.Rows
theorem Inv.skip {X:Cx} {pins:List (Addr × Obj)} {σ:St} {H:Hp} {s:Shared} {h':Heap} {C:Addr} (I:Inv X pins σ H s) (hs:Heap.SameBut C s.heap h') (hC:X.s₀.heap.objs.size≤C) (hl:C≠X.env.locals) (hcl:∀ x c,X.env.cells.lookup x=some c→c≠C) (hp:∀ p∈X.pn++pins,p.1≠C) (hf:H C=none) :
  Inv X pins σ H { s with heap:=h' }:=by
 have eq:∀ b,b≠C→h'.get? b=s.heap.get? b:=fun b hb=>hs.2 b hb
 have nm:∀ {b:Addr},b∉[C]→b≠C:=fun h z=>h (by rw[z];exact List.mem_cons_self)
 have u:Un (frs X.stack) [C] H H s.heap h':=⟨fun b o e _ _ h2=>(eq b (nm h2)).trans e,fun b o e _ _ h2=>⟨o.slots,(eq b (nm h2)).trans e⟩,fun b o e n _=>n,fun b o e h1=>⟨o,(eq b (nm h1)).trans e⟩,fun _ _ q=>q,fun _ _ _ q=>q,fun _ ps q=>⟨#[],by rw[q];simp⟩⟩
 have hok:HOk X.prog X.w H h':=fun b ob e=>by
  refine(I.hok b ob e).stay (fun c w' hq q=>(eq c ?_).trans q) (fun _ q=>q) fun _ _ q=>q
  rintro rfl
  rcases hq with z | z
  ·rw[←z,hf]at e;cases e
  ·rw[hf]at z;cases z
 refine I.call' (s':={ s with heap:=h' }) (ch:=[C]) rfl u hok I.bare fun b hb=>?_
 have e:b=C:=List.mem_singleton.mp hb
 subst e
 exact⟨.inr hC,hl,hcl,hp⟩
section
variable {X:Cx} {N':List Str} {scope:Scope} {elt iter:Expr} {x:Str} {px pos:Pos} {wi:TI} {te:TE} {ix:List Nat}
theorem ps_setLC {i:Nat} {y0:Str} {py spos:Pos} (hNy:X.N.Nodup) (hiy:X.N[i]?=some y0) (hy:Loc X.env.scope y0) (hc:X.calm=true) (hkind:scope.kind=.function) (hcell:∀ y∈scope.names,y.2≠.cell) (hnames:∀ y∈scope.names,y.2=.local→scope.names.lookup y.1=some .local) (hx:scope.names.lookup x=some .local)
  (hclo:X.Ok→∃ cl,Clo X scope cl) (hN:N'.Nodup) (hN0:N'[0]?=some x) (hlen:N'.length=ix.length+1)
  (hix:∀(j i:Nat),ix[j]?=some i→∃ y,X.N[i]?=some y∧N'[j+1]?=some y∧(X.env.kindOf y=some .cell∨X.env.kindOf y=some .free)∧((relabel scope X.env).names.lookup y=some .cell∨(relabel scope X.env).names.lookup y=some .free))
  (hi:PI X (.Name x px) iter wi) (he:∀ cl fp s₃ H₃,PE (au X N' scope cl fp s₃ H₃) elt te) (hsw:swapsWith (.ListComp elt [⟨.Name x px,iter,[],0⟩] scope pos) (some (.Name y0 py)) spos.line X.env=pure true:=by rfl)
  (hf:X.fn y0=true∨X.env.scope.names.lookup y0=some .local:=by first | exact .inl rfl | exact .inr rfl | assumption) (hs:∀ v,foldedSetIterable iter X.env v=pure v:=by intro _;rfl) :
  PS X (.Assign [.Name y0 py] (.ListComp elt [⟨.Name x px,iter,[],0⟩] scope pos) spos) (tAsg (tLC wi ix te) (zde i)):=by
 intro pins s σ H Dn I h
 obtain⟨cl,C⟩:=hclo I.ok
 rw[exec_Assign_Name_used _ _ _ _ hsw]
 refine wpAny_bind (wpAny_standAt (wpAny_bind ?_))
 rw[arm_evalThenUse_ListComp]
 refine wpAny_bind (wpAny_mono (wpAny_comprehension_free (use:=some (assign (.Name y0 py) X.env)) (Q:=fun _ s'=>∃ σ' H',Inv X pins σ' H' s'∧Dn.nx σ' H') rfl hs C.eq hkind hnames (thn (hi pins s σ H _ I h) fun v s1 h1=>thn h1 fun itv s2 h2=>?_)) (fun _ s' h'=>wpAny_pure (wpAny_pure h')) fun _ _ z=>z)
 obtain⟨it,fp,tn,J,H2,e,I2,T,st2,f2,q2⟩:=h2
 subst e
 have hD:H2 s2.heap.objs.size=none:=I2.fresh
 obtain⟨W,⟨m0,w0⟩,turn⟩:=q2 s2.heap.objs.size hD
 refine wpAny_newObj_type (wpAny_newFunctionEnv hcell (by intro y hy;simp at hy) (fun h₁ hns₁ hsb₁=>?_) hkind)
 dsimp only at hns₁ hsb₁ ⊢
 have I3:Inv X pins σ (upd H2 s2.heap.objs.size (.lst [])) { s2 with heap:=s2.heap.push { cls:=.type "list",data:=.seq ([]:List Value).toArray },toks:=s2.toks }:=I2.lnew .nil (Nat.zero_le _)
 generalize hs3:({ s2 with heap:=s2.heap.push { cls:=.type "list",data:=.seq ([]:List Value).toArray },toks:=s2.toks }:Shared)=s3 at I3
 have e3:s3.heap=s2.heap.push { cls:=.type "list",data:=.seq ([]:List Value).toArray }:=by rw[←hs3]
 generalize hDD:s2.heap.objs.size=D at *
 generalize hH3:upd H2 D (.lst [])=H3 at *
 have lt2:∀ b∈fp,b < s2.heap.objs.size:=fun b hb=>by
  obtain⟨o,ho,_⟩:=T.obj 0 _ st2 b hb
  exact Heap.lt_size ho
 have neD:∀ b∈fp,b≠D:=fun b hb=>by rw[←hDD];exact Nat.ne_of_lt (lt2 b hb)
 have f3:∀ b∈fp,zbl X pins H3 b:=fun b hb=>⟨by rw[←hH3,ap (neD b hb)];exact(f2 b hb).1,(f2 b hb).2⟩
 have sz3:s3.heap.objs.size=D+1:=by rw[e3,Heap.size_push,hDD]
 have lt3:∀ b∈fp,b < s3.heap.objs.size:=fun b hb=>by have q:=lt2 b hb;rw[sz3];rw[hDD]at q;exact Nat.lt_succ_of_lt q
 have old:∀ b o,s3.heap.get? b=some o→h₁.get? b=some o:=fun b o eb=>by
  have hb:b < D+1:=by rw[←sz3];exact Heap.lt_size eb
  refine hsb₁.extBut b o ?_ (Heap.get?_push_of_some _ (by rw[←e3];exact eb))
  rw[Heap.size_push,hDD]
  exact Nat.ne_of_lt hb
 have szC:(s2.heap.push { cls:=.type "list",data:=.seq ([]:List Value).toArray }).objs.size=s3.heap.objs.size:=by rw[e3]
 have os3:s3.os=s2.os:=by rw[←hs3]
 rw[szC]at hns₁ hsb₁
 have I4:Inv (au X N' scope cl fp s3 H3) [] (none :: fvs σ ix) H3 { s3 with heap:=h₁,toks:=s2.toks+([]:List (Str × Value)).length }:=zes I3 C hkind f3 lt3 hlen hix hns₁ old
 have st4:tn 0 h₁:=T.keep 0 _ _ st2 fun b hb o eb=>old b o (by rw[e3];exact Heap.get?_push_of_some _ eb)
 have stat:∀ {H':Hp},(∀ b∈fp,H' b=none)→∀ b∈fp,zbl (au X N' scope cl fp s3 H3) [] H' b:=fun hn b hb =>
  ⟨hn b hb,Nat.ne_of_lt (lt3 b hb),fun hs'=>(zbc (N':=N') I3 C hkind f3 lt3).exfs b hb hs',.inl hb,fun y c hy=>((zbc (N':=N') I3 C hkind f3 lt3).exf b hb).2 y c hy,fun p hp=>absurd (show p∈([]:List (Addr × Obj)) from hp) (by simp)⟩
 have loop:∀ s4:Shared,s4={ s3 with heap:=h₁,toks:=s2.toks+([]:List (Str × Value)).length } →
   codeAny (model X.prog X.w) X.A (.compLoop (.ListComp elt [⟨.Name x px,iter,[],0⟩] scope pos) 0 (.ref it) (.ref D) (compEnvC scope cl s3.heap.objs.size X.env))
    (compPost (model X.prog X.w) X.A X.xe (some (assign (.Name y0 py) X.env)) (fun _ s'=>∃ σ' H',Inv X pins σ' H' s'∧Dn.nx σ' H') (.ref D) s3.heap.objs.size) s4:=by
  rintro s4 rfl
  refine zc0 (fun n s'=>∃ i σ0 H' ys,Inv (au X N' scope cl fp s3 H3) [] (σ0 :: fvs σ ix) H' s'∧tn i s'.heap∧(∀ b∈fp,H' b=none)∧W i n ys H') ?_ m0 ⟨0,none,H3,[],I4,st4,fun b hb=>(f3 b hb).1,w0⟩
  rintro n s5 ⟨i,σ0,H5,ys,I5,st5,fr5,w5⟩
  obtain⟨hD5,alt⟩:=turn i n ys H5 w5
  rcases alt with ⟨stop,q⟩ | ⟨go,step⟩
  ·refine thn (T.done (au X N' scope cl fp s3 H3) rfl rfl rfl hc i [] s5 _ H5 _ I5 (stat fr5) st5 stop) fun r s6 ⟨hr,I6⟩=>?_
   subst hr
   obtain⟨m,hn,_⟩:=I6.loc
   have Io:Inv X pins σ H5 s6:=zcA (h':=s6.heap) I3 I6 f3 ⟨rfl,fun _ _=>rfl⟩
   refine wpAny_assign_Name (zc4 (v:=.ref D) Io hNy hiy hy rfl (fun s7 I7 ⟨a,sb,ha⟩=>?_) hf)
   have ltC:∀ x c,X.env.cells.lookup x=some c→c < s3.heap.objs.size:=fun x c e=>by
    obtain⟨v,hv⟩:=I3.cell x c e
    exact hv.lt
   have hCa:s3.heap.objs.size≠a:=by
    rintro rfl
    rcases ha with z | z
    ·exact absurd I3.lt (by rw[←z];exact Nat.lt_irrefl _)
    ·exact absurd (ltC _ _ z) (Nat.lt_irrefl _)
   refine⟨m,hn.sameBut sb hCa,fun h' hsb=>⟨_,H5,?_,q⟩⟩
   exact I7.skip hsb I3.sz (Nat.ne_of_gt I3.lt) (fun x c e=>Nat.ne_of_lt (ltC x c e)) (fun p hp=>Nat.ne_of_lt (Heap.lt_size (I3.pin p hp).1)) I6.free
  ·refine thn (T.item (au X N' scope cl fp s3 H3) rfl rfl rfl hc i [] s5 _ H5 _ I5 (stat fr5) st5 go) fun r s6 ⟨u,hr,h6⟩=>?_
   subst hr
   refine thn h6 fun _ s7 ⟨y7,H7,I7,r7,yl7,st7,fr7⟩=>?_
   have I7':=I7.pinned (stat fr7) (T.obj _ _ st7)
   have G:PG (au X N' scope cl fp s3 H3) (.Name x px) (zde 0):=zan hN hN0 (.inl (lookup_relabel_local hx)) (.inr (lookup_relabel_local hx))
   refine wpAny_mono (G _ s7 _ H7 y7 u (fun σ' H'=>σ'=some y7 :: fvs σ ix∧H'=H7) I7' r7 ⟨rfl,rfl⟩) (fun _ s8 h8=>?_) fun _ _ f=>False.elim f
   obtain⟨σ8,H8,I8,rfl,rfl⟩:=h8
   refine wpAny_mono (he cl fp s3 H3 _ s8 _ H8 _ I8 (step y7 H8 yl7)) (fun yv s9 h9=>?_) fun _ _ f=>False.elim f
   obtain⟨y9,H9,I9,r9,hD9,hl9,m',hm',w9⟩:=h9
   refine wpAny_mono (zaH (X:=au X N' scope cl fp s3 H3) _ s9 _ H9 (.ref D) [y9] (.ref D) [yv] (fun _ H'=>H'=upd H9 D (.lst (ys++[y9]))) I9 rfl (.cons r9 .nil) ⟨D,ys,y9,rfl,rfl,hD9,hl9,rfl⟩) (fun _ s10 h10=>?_) fun _ _ f=>False.elim f
   obtain⟨_,H10,I10,_,rfl⟩:=h10
   refine⟨m',hm',i+1,some y7,_,ys++[y9],I10.unpinned,T.keep _ _ _ st7 fun b hb o eb=>(I10.pin (b,o) (List.mem_append_right _ (List.mem_append_right _ (zaP hb eb)))).1,fun b hb=>?_,w9⟩
   obtain⟨o,eb,d⟩:=T.obj _ _ st7 b hb
   exact(I10.pin (b,o) (List.mem_append_right _ (List.mem_append_right _ (zaP hb eb)))).2.1
 subst hs3
 have fin:=codeAny_compStart_list (loop _ rfl) (T.self X.A 0 _ _ _ st4 (loop _ rfl))
 exact fin
end
section
variable {X:Cx} {N':List Str} {scope:Scope} {elt iter c:Expr} {x:Str} {px pos:Pos} {wi:TI} {tc:TT} {te:TE} {ix:List Nat}
theorem zdM {i:Nat} {y0:Str} {py spos:Pos} (hNy:X.N.Nodup) (hiy:X.N[i]?=some y0) (hy:Loc X.env.scope y0) (hc:X.calm=true) (hkind:scope.kind=.function) (hcell:∀ y∈scope.names,y.2≠.cell) (hnames:∀ y∈scope.names,y.2=.local→scope.names.lookup y.1=some .local) (hx:scope.names.lookup x=some .local)
  (hclo:X.Ok→∃ cl,Clo X scope cl) (hN:N'.Nodup) (hN0:N'[0]?=some x) (hlen:N'.length=ix.length+1)
  (hix:∀(j i:Nat),ix[j]?=some i→∃ y,X.N[i]?=some y∧N'[j+1]?=some y∧(X.env.kindOf y=some .cell∨X.env.kindOf y=some .free)∧((relabel scope X.env).names.lookup y=some .cell∨(relabel scope X.env).names.lookup y=some .free))
  (hi:PI X (.Name x px) iter wi) (ht:∀ cl fp s₃ H₃,PT (au X N' scope cl fp s₃ H₃) c tc) (he:∀ cl fp s₃ H₃,PE (au X N' scope cl fp s₃ H₃) elt te) (hsw:swapsWith (.ListComp elt [⟨.Name x px,iter,[c],0⟩] scope pos) (some (.Name y0 py)) spos.line X.env=pure true:=by rfl)
  (hf:X.fn y0=true∨X.env.scope.names.lookup y0=some .local:=by first | exact .inl rfl | exact .inr rfl | assumption) (hs:∀ v,foldedSetIterable iter X.env v=pure v:=by intro _;rfl) :
  PS X (.Assign [.Name y0 py] (.ListComp elt [⟨.Name x px,iter,[c],0⟩] scope pos) spos) (tAsg (tLCI wi ix tc te) (zde i)):=by
 intro pins s σ H Dn I h
 obtain⟨cl,C⟩:=hclo I.ok
 rw[exec_Assign_Name_used _ _ _ _ hsw]
 refine wpAny_bind (wpAny_standAt (wpAny_bind ?_))
 rw[arm_evalThenUse_ListComp]
 refine wpAny_bind (wpAny_mono (wpAny_comprehension_free (use:=some (assign (.Name y0 py) X.env)) (Q:=fun _ s'=>∃ σ' H',Inv X pins σ' H' s'∧Dn.nx σ' H') rfl hs C.eq hkind hnames (thn (hi pins s σ H _ I h) fun v s1 h1=>thn h1 fun itv s2 h2=>?_)) (fun _ s' h'=>wpAny_pure (wpAny_pure h')) fun _ _ z=>z)
 obtain⟨it,fp,tn,J,H2,e,I2,T,st2,f2,q2⟩:=h2
 subst e
 have hD:H2 s2.heap.objs.size=none:=I2.fresh
 obtain⟨W,⟨m0,w0⟩,turn⟩:=q2 s2.heap.objs.size hD
 refine wpAny_newObj_type (wpAny_newFunctionEnv hcell (by intro y hy;simp at hy) (fun h₁ hns₁ hsb₁=>?_) hkind)
 dsimp only at hns₁ hsb₁ ⊢
 have I3:Inv X pins σ (upd H2 s2.heap.objs.size (.lst [])) { s2 with heap:=s2.heap.push { cls:=.type "list",data:=.seq ([]:List Value).toArray },toks:=s2.toks }:=I2.lnew .nil (Nat.zero_le _)
 generalize hs3:({ s2 with heap:=s2.heap.push { cls:=.type "list",data:=.seq ([]:List Value).toArray },toks:=s2.toks }:Shared)=s3 at I3
 have e3:s3.heap=s2.heap.push { cls:=.type "list",data:=.seq ([]:List Value).toArray }:=by rw[←hs3]
 generalize hDD:s2.heap.objs.size=D at *
 generalize hH3:upd H2 D (.lst [])=H3 at *
 have lt2:∀ b∈fp,b < s2.heap.objs.size:=fun b hb=>by
  obtain⟨o,ho,_⟩:=T.obj 0 _ st2 b hb
  exact Heap.lt_size ho
 have neD:∀ b∈fp,b≠D:=fun b hb=>by rw[←hDD];exact Nat.ne_of_lt (lt2 b hb)
 have f3:∀ b∈fp,zbl X pins H3 b:=fun b hb=>⟨by rw[←hH3,ap (neD b hb)];exact(f2 b hb).1,(f2 b hb).2⟩
 have sz3:s3.heap.objs.size=D+1:=by rw[e3,Heap.size_push,hDD]
 have lt3:∀ b∈fp,b < s3.heap.objs.size:=fun b hb=>by have q:=lt2 b hb;rw[sz3];rw[hDD]at q;exact Nat.lt_succ_of_lt q
 have old:∀ b o,s3.heap.get? b=some o→h₁.get? b=some o:=fun b o eb=>by
  have hb:b < D+1:=by rw[←sz3];exact Heap.lt_size eb
  refine hsb₁.extBut b o ?_ (Heap.get?_push_of_some _ (by rw[←e3];exact eb))
  rw[Heap.size_push,hDD]
  exact Nat.ne_of_lt hb
 have szC:(s2.heap.push { cls:=.type "list",data:=.seq ([]:List Value).toArray }).objs.size=s3.heap.objs.size:=by rw[e3]
 rw[szC]at hns₁ hsb₁
 have I4:Inv (au X N' scope cl fp s3 H3) [] (none :: fvs σ ix) H3 { s3 with heap:=h₁,toks:=s2.toks+([]:List (Str × Value)).length }:=zes I3 C hkind f3 lt3 hlen hix hns₁ old
 have st4:tn 0 h₁:=T.keep 0 _ _ st2 fun b hb o eb=>old b o (by rw[e3];exact Heap.get?_push_of_some _ eb)
 have stat:∀ {H':Hp},(∀ b∈fp,H' b=none)→∀ b∈fp,zbl (au X N' scope cl fp s3 H3) [] H' b:=fun hn b hb =>
  ⟨hn b hb,Nat.ne_of_lt (lt3 b hb),fun hs'=>(zbc (N':=N') I3 C hkind f3 lt3).exfs b hb hs',.inl hb,fun y c hy=>((zbc (N':=N') I3 C hkind f3 lt3).exf b hb).2 y c hy,fun p hp=>absurd (show p∈([]:List (Addr × Obj)) from hp) (by simp)⟩
 have loop:∀ s4:Shared,s4={ s3 with heap:=h₁,toks:=s2.toks+([]:List (Str × Value)).length } →
   codeAny (model X.prog X.w) X.A (.compLoop (.ListComp elt [⟨.Name x px,iter,[c],0⟩] scope pos) 0 (.ref it) (.ref D) (compEnvC scope cl s3.heap.objs.size X.env))
    (compPost (model X.prog X.w) X.A X.xe (some (assign (.Name y0 py) X.env)) (fun _ s'=>∃ σ' H',Inv X pins σ' H' s'∧Dn.nx σ' H') (.ref D) s3.heap.objs.size) s4:=by
  rintro s4 rfl
  refine zdH (fun n s'=>∃ i σ0 H' ys,Inv (au X N' scope cl fp s3 H3) [] (σ0 :: fvs σ ix) H' s'∧tn i s'.heap∧(∀ b∈fp,H' b=none)∧W i n ys H') ?_ m0 ⟨0,none,H3,[],I4,st4,fun b hb=>(f3 b hb).1,w0⟩
  rintro n s5 ⟨i,σ0,H5,ys,I5,st5,fr5,w5⟩
  obtain⟨hD5,alt⟩:=turn i n ys H5 w5
  rcases alt with ⟨stop,q⟩ | ⟨go,step⟩
  ·refine thn (T.done (au X N' scope cl fp s3 H3) rfl rfl rfl hc i [] s5 _ H5 _ I5 (stat fr5) st5 stop) fun r s6 ⟨hr,I6⟩=>?_
   subst hr
   obtain⟨m,hn,_⟩:=I6.loc
   have Io:Inv X pins σ H5 s6:=zcA (h':=s6.heap) I3 I6 f3 ⟨rfl,fun _ _=>rfl⟩
   refine wpAny_assign_Name (zc4 (v:=.ref D) Io hNy hiy hy rfl (fun s7 I7 ⟨a,sb,ha⟩=>?_) hf)
   have ltC:∀ x c,X.env.cells.lookup x=some c→c < s3.heap.objs.size:=fun x c e=>by
    obtain⟨v,hv⟩:=I3.cell x c e
    exact hv.lt
   have hCa:s3.heap.objs.size≠a:=by
    rintro rfl
    rcases ha with z | z
    ·exact absurd I3.lt (by rw[←z];exact Nat.lt_irrefl _)
    ·exact absurd (ltC _ _ z) (Nat.lt_irrefl _)
   refine⟨m,hn.sameBut sb hCa,fun h' hsb=>⟨_,H5,?_,q⟩⟩
   exact I7.skip hsb I3.sz (Nat.ne_of_gt I3.lt) (fun x c e=>Nat.ne_of_lt (ltC x c e)) (fun p hp=>Nat.ne_of_lt (Heap.lt_size (I3.pin p hp).1)) I6.free
  ·refine thn (T.item (au X N' scope cl fp s3 H3) rfl rfl rfl hc i [] s5 _ H5 _ I5 (stat fr5) st5 go) fun r s6 ⟨u,hr,h6⟩=>?_
   subst hr
   refine thn h6 fun _ s7 ⟨y7,H7,I7,r7,yl7,st7,fr7⟩=>?_
   have I7':=I7.pinned (stat fr7) (T.obj _ _ st7)
   have G:PG (au X N' scope cl fp s3 H3) (.Name x px) (zde 0):=zan hN hN0 (.inl (lookup_relabel_local hx)) (.inr (lookup_relabel_local hx))
   refine wpAny_mono (G _ s7 _ H7 y7 u (fun σ' H'=>σ'=some y7 :: fvs σ ix∧H'=H7) I7' r7 ⟨rfl,rfl⟩) (fun _ s8 h8=>?_) fun _ _ f=>False.elim f
   obtain⟨σ8,H8,I8,rfl,rfl⟩:=h8
   have fin:∀ {σ9:Option V} {H9:Hp} {s9:Shared} {zs:List V} {m':Nat},Inv (au X N' scope cl fp s3 H3) ([]++zdo fp s7.heap) (σ9 :: fvs σ ix) H9 s9→m' < n→W (i+1) m' zs H9→∃ m,m < n∧∃ i σ0 H' ys,Inv (au X N' scope cl fp s3 H3) [] (σ0 :: fvs σ ix) H' s9∧tn i s9.heap∧(∀ b∈fp,H' b=none)∧W i m ys H':=fun {σ9 H9 s9 zs m'} I9 hm' w9=>by
    refine⟨m',hm',i+1,σ9,H9,zs,I9.unpinned,T.keep _ _ _ st7 fun b hb o eb=>(I9.pin (b,o) (List.mem_append_right _ (List.mem_append_right _ (zaP hb eb)))).1,fun b hb=>?_,w9⟩
    obtain⟨o,eb,d⟩:=T.obj _ _ st7 b hb
    exact(I9.pin (b,o) (List.mem_append_right _ (List.mem_append_right _ (zaP hb eb)))).2.1
   refine wpAny_mono (ht cl fp s3 H3 _ s8 _ H8 _ I8 (step y7 H8 yl7)) (fun b s9 h9=>?_) fun _ _ f=>False.elim f
   obtain⟨H9,I9,q9⟩:=h9
   cases b with
   | false =>
    obtain⟨m',hm',w9⟩:=q9
    exact fin I9 hm' w9
   | true =>
    refine wpAny_mono (he cl fp s3 H3 _ s9 _ H9 _ I9 q9) (fun yv s10 h10=>?_) fun _ _ f=>False.elim f
    obtain⟨y10,H10,I10,r10,hD10,hl10,m',hm',w10⟩:=h10
    refine wpAny_mono (zaH (X:=au X N' scope cl fp s3 H3) _ s10 _ H10 (.ref D) [y10] (.ref D) [yv] (fun _ H'=>H'=upd H10 D (.lst (ys++[y10]))) I10 rfl (.cons r10 .nil) ⟨D,ys,y10,rfl,rfl,hD10,hl10,rfl⟩) (fun _ s11 h11=>?_) fun _ _ f=>False.elim f
    obtain⟨_,H11,I11,_,rfl⟩:=h11
    exact fin I11 hm' w10
 subst hs3
 have fin:=codeAny_compStart_list (loop _ rfl) (T.self X.A 0 _ _ _ st4 (loop _ rfl))
 exact fin
end
end L2
namespace L2
open PySem PySem.Spec PyProof.Rows
inductive Dt where
 | non | bl (b:Bool) | int (i:Int) | str (x:Str) | tup (xs:List Dt) | lst (xs:List Dt)
mutual
def peq:Dt→Dt→Bool
 | .non,.non=>true
 | .bl a,.bl b=>a == b
 | .bl a,.int b=>(if a then 1 else 0) == b
 | .int a,.bl b=>a == (if b then 1 else 0)
 | .int a,.int b=>a == b
 | .str a,.str b=>a == b
 | .tup xs,.tup ys=>za5 xs ys
 | .lst xs,.lst ys=>za5 xs ys
 | _,_=>false
def za5:List Dt→List Dt→Bool
 | [],[]=>true
 | x :: xs,y :: ys=>peq x y&&za5 xs ys
 | _,_=>false
end
mutual
def dep:Dt→Nat
 | .tup xs=>za0 xs+1
 | .lst xs=>za0 xs+1
 | _=>0
def za0:List Dt→Nat
 | []=>0
 | x :: xs=>max (dep x) (za0 xs)
end
mutual
def nob:Dt→Bool
 | .bl _=>false
 | .tup xs=>nobs xs
 | .lst xs=>nobs xs
 | _=>true
def nobs:List Dt→Bool
 | []=>true
 | x :: xs=>nob x&&nobs xs
end
mutual
theorem zcz:∀ d:Dt,peq d d=true
 | .non=>rfl
 | .bl _=>by simp [peq]
 | .int _=>by simp [peq]
 | .str _=>by simp [peq]
 | .tup xs=>by simp only[peq];exact zeG xs
 | .lst xs=>by simp only[peq];exact zeG xs
theorem zeG:∀ d:List Dt,za5 d d=true
 | []=>by simp [za5]
 | x :: xs=>by simp only[za5,zcz x,zeG xs,Bool.and_self]
end
mutual
theorem peq_eq:∀ d e:Dt,nob d=true→nob e=true→peq d e=true→d=e
 | .non,e,_,_,h=>by cases e <;> first | rfl | (simp [peq]at h)
 | .bl _,e,h,_,_=>by simp [nob]at h
 | .int _,e,_,h2,h=>by cases e <;> first | (simp [nob]at h2;done) | (simp [peq]at h;done) | (simp [peq]at h;rw[h])
 | .str _,e,_,h2,h=>by cases e <;> first | (simp [peq]at h;done) | (simp [peq]at h;rw[h])
 | .tup xs,e,h1,h2,h=>by
  cases e with
  | tup ys=>simp only[peq]at h;simp only[nob]at h1 h2;rw[zf4 xs ys h1 h2 h]
  | _=>simp [peq]at h
 | .lst xs,e,h1,h2,h=>by
  cases e with
  | lst ys=>simp only[peq]at h;simp only[nob]at h1 h2;rw[zf4 xs ys h1 h2 h]
  | _=>simp [peq]at h
theorem zf4:∀ d e:List Dt,nobs d=true→nobs e=true→za5 d e=true→d=e
 | [],e,_,_,h=>by cases e <;> first | rfl | (simp [za5]at h)
 | x :: xs,e,h1,h2,h=>by
  cases e with
  | nil=>simp [za5]at h
  | cons y ys =>
   simp only[za5,Bool.and_eq_true]at h
   simp only[nobs,Bool.and_eq_true]at h1 h2
   rw[peq_eq x y h1.1 h2.1 h.1,zf4 xs ys h1.2 h2.2 h.2]
end
mutual
def Has (K:W.Frag) (H:Hp):Dt→V→Prop
 | .non,v=>v=.non
 | .bl b,v=>v=.bl b
 | .int i,v=>v=.int i
 | .str x,v=>v=.str x
 | .tup ds,v=>∃ a xs,v=.ref a∧SqT K H a xs∧ad K H ds xs
 | .lst ds,v=>∃ a xs,v=.ref a∧SqL K H a xs∧ad K H ds xs
def ad (K:W.Frag) (H:Hp):List Dt→List V→Prop
 | [],vs=>vs=[]
 | d :: ds,vs=>∃ v r,vs=v :: r∧Has K H d v∧ad K H ds r
end
theorem ad.length {K:W.Frag} {H:Hp}:∀ {ds:List Dt} {vs:List V},ad K H ds vs→ds.length=vs.length
 | [],vs,h=>by simp only[ad]at h;rw[h];rfl
 | d :: ds,vs,h=>by
  simp only[ad]at h
  obtain⟨v,r,rfl,_,h2⟩:=h
  rw[List.length_cons,List.length_cons,ad.length h2]
theorem ad.get {K:W.Frag} {H:Hp}:∀ {ds:List Dt} {vs:List V} {i:Nat} {v:V},ad K H ds vs→vs[i]?=some v→∃ d,ds[i]?=some d∧Has K H d v
 | [],vs,i,v,h,e=>by simp only[ad]at h;rw[h]at e;simp at e
 | d :: ds,vs,i,v,h,e=>by
  simp only[ad]at h
  obtain⟨v0,r,rfl,h1,h2⟩:=h
  cases i with
  | zero=>simp at e;subst e;exact⟨d,rfl,h1⟩
  | succ i =>
   obtain⟨d',e1,e2⟩:=ad.get (i:=i) h2 (by simpa using e)
   exact⟨d',by simpa using e1,e2⟩
theorem ad.append {K:W.Frag} {H:Hp}:∀ {ds es:List Dt} {vs ws:List V},ad K H ds vs→ad K H es ws→ad K H (ds++es) (vs++ws)
 | [],es,vs,ws,h,h'=>by simp only[ad]at h;rw[h];exact h'
 | d :: ds,es,vs,ws,h,h'=>by
  simp only[ad]at h
  obtain⟨v,r,rfl,h1,h2⟩:=h
  show ad K H (d :: (ds++es)) (v :: (r++ws))
  simp only[ad]
  exact⟨v,r++ws,rfl,h1,ad.append h2 h'⟩
theorem ad.one {K:W.Frag} {H:Hp} {d:Dt} {v:V} (h:Has K H d v):ad K H [d] [v]:=by
 simp only[ad]
 exact⟨v,[],rfl,h,rfl⟩
theorem ad.ints {K:W.Frag} {H:Hp}:∀ ns:List Int,ad K H (ns.map Dt.int) (ns.map V.int)
 | []=>by simp [ad]
 | n :: ns=>by
  simp only[List.map_cons,ad]
  exact⟨_,_,rfl,by simp only[Has],ad.ints ns⟩
mutual
def nol:Dt→Bool
 | .lst _=>false
 | .tup xs=>zcs xs
 | _=>true
def zcs:List Dt→Bool
 | []=>true
 | x :: xs=>nol x&&zcs xs
end
def zam (H H':Hp):Prop:=∀ b xs,Rd H b (.tup xs)→Rd H' b (.tup xs)
theorem zam.sq {K:W.Frag} {H H':Hp} {a:Addr} {xs:List V} (k:zam H H') (h:SqT K H a xs):SqT K H' a xs:=h.elim (fun z=>.inl (k a xs z)) .inr
theorem zam.trans {H H1 H2:Hp} (a:zam H H1) (b:zam H1 H2):zam H H2:=fun c xs h=>b c xs (a c xs h)
theorem zam.of_same {H H':Hp} (e:aj H H'):zam H H':=fun b xs h=>by
 rcases h with h | ⟨o,h⟩
 ·exact .inl (e _ _ h)
 ·exact .inr ⟨o,e _ _ h⟩
theorem zam.lst {H:Hp} {l:Addr} {xs ys:List V} (h:H l=some (.lst xs)):zam H (upd H l (.lst ys)):=fun b zs q=>by
 rcases q with q | ⟨o,q⟩
 ·exact .inl (by rw[ap (za4 q h (fun z=>by cases z))];exact q)
 ·exact .inr ⟨o,by rw[ap (za4 q h (fun z=>by cases z))];exact q⟩
mutual
theorem Has.keep {K:W.Frag} {H H':Hp} (k:zam H H'):∀ {d:Dt} {v:V},nol d=true→Has K H d v→Has K H' d v
 | .non,v,_,h=>by simp only[Has]at h ⊢;exact h
 | .bl _,v,_,h=>by simp only[Has]at h ⊢;exact h
 | .int _,v,_,h=>by simp only[Has]at h ⊢;exact h
 | .str _,v,_,h=>by simp only[Has]at h ⊢;exact h
 | .tup ds,v,n,h=>by
  simp only[Has]at h ⊢
  simp only[nol]at n
  obtain⟨a,xs,e,h1,h2⟩:=h
  exact⟨a,xs,e,k.sq h1,ad.keep k n h2⟩
 | .lst _,v,n,h=>by simp [nol]at n
theorem ad.keep {K:W.Frag} {H H':Hp} (k:zam H H'):∀ {ds:List Dt} {vs:List V},zcs ds=true→ad K H ds vs→ad K H' ds vs
 | [],vs,_,h=>by simp only[ad]at h ⊢;exact h
 | d :: ds,vs,n,h=>by
  simp only[ad]at h ⊢
  simp only[zcs,Bool.and_eq_true]at n
  obtain⟨v,r,e,h1,h2⟩:=h
  exact⟨v,r,e,Has.keep k n.1 h1,ad.keep k n.2 h2⟩
end
section
variable {X:Cx} {pins:List (Addr × Obj)} {σ:St} {H:Hp} {s:Shared}
theorem zgF (I:Inv X pins σ H s) {a:Addr} {xs ys:List V} (h:SqL X.K H a xs) (h':SqT X.K H a ys):False:=by
 obtain⟨its,_,p,_⟩:=I.list h
 obtain⟨jts,_,q,_⟩:=I.tuple h'
 obtain⟨o,e,c,_⟩:=p.isList
 obtain⟨o',e',c',_⟩:=q
 rw[e]at e'
 cases e'
 rw[c]at c'
 exact absurd (Value.type.inj c') (by decide)
mutual
theorem Has.inj (I:Inv X pins σ H s):∀(d e:Dt) (v:V),Has X.K H d v→Has X.K H e v→d=e
 | .non,e,v,h,h'=>by
  simp only[Has]at h
  subst h
  cases e <;> simp only[Has]at h' <;> first | rfl | (cases h';done) | (obtain⟨_,_,z,_⟩:=h';cases z)
 | .bl b,e,v,h,h'=>by
  simp only[Has]at h
  subst h
  cases e <;> simp only[Has]at h' <;> first | (cases h';done) | (cases h';rfl) | (obtain⟨_,_,z,_⟩:=h';cases z)
 | .int b,e,v,h,h'=>by
  simp only[Has]at h
  subst h
  cases e <;> simp only[Has]at h' <;> first | (cases h';done) | (cases h';rfl) | (obtain⟨_,_,z,_⟩:=h';cases z)
 | .str b,e,v,h,h'=>by
  simp only[Has]at h
  subst h
  cases e <;> simp only[Has]at h' <;> first | (cases h';done) | (cases h';rfl) | (obtain⟨_,_,z,_⟩:=h';cases z)
 | .tup ds,e,v,h,h'=>by
  simp only[Has]at h
  obtain⟨a,xs,rfl,h1,h2⟩:=h
  cases e with
  | tup es =>
   simp only[Has]at h'
   obtain⟨a',ys,z,h3,h4⟩:=h'
   cases z
   rw[I.tuple_inj h3 h1]at h4
   rw[ad.inj I ds es xs h2 h4]
  | lst es =>
   simp only[Has]at h'
   obtain⟨a',ys,z,h3,h4⟩:=h'
   cases z
   exact(zgF I h3 h1).elim
  | _=>simp only[Has]at h';cases h'
 | .lst ds,e,v,h,h'=>by
  simp only[Has]at h
  obtain⟨a,xs,rfl,h1,h2⟩:=h
  cases e with
  | lst es =>
   simp only[Has]at h'
   obtain⟨a',ys,z,h3,h4⟩:=h'
   cases z
   rw[I.list_inj h3 h1]at h4
   rw[ad.inj I ds es xs h2 h4]
  | tup es =>
   simp only[Has]at h'
   obtain⟨a',ys,z,h3,h4⟩:=h'
   cases z
   exact(zgF I h1 h3).elim
  | _=>simp only[Has]at h';cases h'
theorem ad.inj (I:Inv X pins σ H s):∀(ds es:List Dt) (vs:List V),ad X.K H ds vs→ad X.K H es vs→ds=es
 | [],es,vs,h,h'=>by
  simp only[ad]at h
  subst h
  cases es with
  | nil=>rfl
  | cons e es=>simp only[ad]at h';obtain⟨_,_,z,_⟩:=h';cases z
 | d :: ds,es,vs,h,h'=>by
  simp only[ad]at h
  obtain⟨v,r,rfl,h1,h2⟩:=h
  cases es with
  | nil=>simp only[ad]at h';cases h'
  | cons e es =>
   simp only[ad]at h'
   obtain⟨v',r',z,h3,h4⟩:=h'
   cases z
   rw[Has.inj I d e v h1 h3,ad.inj I ds es r h2 h4]
end
def zcm (ds es:List Dt) (j:Nat):Bool:=match ds[j]?,es[j]? with
 | some d,some e=>peq d e
 | _,_=>true
theorem zhI (d e:Dt) (ds es:List Dt):zcm (d :: ds) (e :: es) 0=peq d e:=rfl
theorem ze6:∀(ds es:List Dt),((List.range (min ds.length es.length)).all (zcm ds es)&&ds.length == es.length)=za5 ds es
 | [],[]=>by simp [za5]
 | [],e :: es=>by simp [za5]
 | d :: ds,[]=>by simp [za5]
 | d :: ds,e :: es=>by
  have ih:=ze6 ds es
  have e1:min (d :: ds).length (e :: es).length=min ds.length es.length+1:=by simp only[List.length_cons];omega
  rw[e1,List.range_succ_eq_map,List.all_cons,zhI,List.all_map]
  have e2:(zcm (d :: ds) (e :: es) ∘ Nat.succ)=zcm ds es:=by funext j;rfl
  rw[e2,List.length_cons,List.length_cons]
  simp only[za5]
  rw[←ih,Bool.and_assoc]
  congr 2
  simp
theorem zi7 {ds es:List Dt} (h:ds.length=es.length):(List.range ds.length).all (zcm ds es)=za5 ds es:=by
 rw[←ze6,←h,Nat.min_self]
 simp
theorem ziH {ds es:List Dt} (h:ds.length≠es.length):za5 ds es=false:=by
 rw[←ze6]
 have:(ds.length == es.length)=false:=by simpa using h
 rw[this,Bool.and_false]
theorem zch (I:Inv X pins σ H s) {a:Addr} {xs:List V} {ds:List Dt} (h:SqT X.K H a xs) (g:ad X.K H ds xs):∃ its:List Value,aw xs its∧s.heap.IsTuple a its.toArray∧its.toArray.size=ds.length:=by
 obtain⟨its,r,p,_⟩:=I.tuple h
 exact⟨its,r,p,by rw[List.size_toArray,←r.length,←g.length]⟩
theorem zci (I:Inv X pins σ H s) {a:Addr} {xs:List V} {ds:List Dt} (h:SqL X.K H a xs) (g:ad X.K H ds xs):∃ its:List Value,aw xs its∧s.heap.IsList a its.toArray∧its.toArray.size=ds.length:=by
 obtain⟨its,r,p,_⟩:=I.list h
 exact⟨its,r,p.isList,by rw[List.size_toArray,←r.length,←g.length]⟩
def zhn (s:Shared) (A:Around) (ds es:List Dt) (xs ys:List V):Prop :=
 ∀(us zs:List Value),aw xs us→aw ys zs→∀(j:Nat) (u z:Value),us[j]?=some u→zs[j]?=some z→SeqAt.EqAt A.in1 s u z (zcm ds es j)
theorem rcTT (I:Inv X pins σ H s) {A:Around} {a b:Addr} {xs ys:List V} {ds es:List Dt} (h1:SqT X.K H a xs) (g1:ad X.K H ds xs) (h2:SqT X.K H b ys) (g2:ad X.K H es ys) (hu:A.units < cLine)
  (he:zhn s A ds es xs ys):SeqAt.RcAt A s (.ref a) (.ref b) (za5 ds es)∧SeqAt.RcNeAt A s (.ref a) (.ref b) (!za5 ds es):=by
 obtain⟨its,r1,p1,z1⟩:=zch I h1 g1
 obtain⟨jts,r2,p2,z2⟩:=zch I h2 g2
 have q:∀ j (k1:j < its.toArray.size) (k2:j < jts.toArray.size),SeqAt.EqAt A.in1 s its.toArray[j] jts.toArray[j] (zcm ds es j):=fun j k1 k2=>he its jts r1 r2 j _ _ (by simp at k1 ⊢) (by simp at k2 ⊢)
 have t1:=SeqAt.RcAt.tuples (e:=zcm ds es) p1 p2 hu q
 have t2:=SeqAt.RcNeAt.tuples (e:=zcm ds es) p1 p2 hu q
 rw[z1,z2,ze6]at t1 t2
 exact⟨t1,t2⟩
theorem rcLL (I:Inv X pins σ H s) {A:Around} {a b:Addr} {xs ys:List V} {ds es:List Dt} (h1:SqL X.K H a xs) (g1:ad X.K H ds xs) (h2:SqL X.K H b ys) (g2:ad X.K H es ys) (hu:A.units < cLine)
  (he:zhn s A ds es xs ys):SeqAt.RcAt A s (.ref a) (.ref b) (za5 ds es)∧SeqAt.RcNeAt A s (.ref a) (.ref b) (!za5 ds es):=by
 obtain⟨its,r1,p1,z1⟩:=zci I h1 g1
 obtain⟨jts,r2,p2,z2⟩:=zci I h2 g2
 by_cases hl:ds.length=es.length
 ·have q:∀ j (k1:j < its.toArray.size) (k2:j < jts.toArray.size),SeqAt.EqAt A.in1 s its.toArray[j] jts.toArray[j] (zcm ds es j):=fun j k1 k2=>he its jts r1 r2 j _ _ (by simp at k1 ⊢) (by simp at k2 ⊢)
  have t1:=SeqAt.RcAt.lists (e:=zcm ds es) p1 p2 (by rw[z1,z2,hl]) hu q
  have t2:=SeqAt.RcNeAt.lists (e:=zcm ds es) p1 p2 (by rw[z1,z2,hl]) hu q
  rw[z1,zi7 hl]at t1 t2
  exact⟨t1,t2⟩
 ·have hne:(its.toArray.size != jts.toArray.size)=true:=by rw[z1,z2];simpa using hl
  rw[ziH hl]
  exact⟨SeqAt.RcAt.lists_lengths p1 p2 hne hu,SeqAt.RcNeAt.lists_lengths p1 p2 hne hu⟩
theorem zcO {A:Around} {d:Dt} (h:A.units+dep d < cLine):A.units < cLine:=Nat.lt_of_le_of_lt (Nat.le_add_right _ _) h
mutual
theorem zh0 (I:Inv X pins σ H s):∀(d e:Dt) (v w:V) (u z:Value) (A:Around),Has X.K H d v→Has X.K H e w→ax v u→ax w z→A.units+dep d < cLine→SeqAt.EqAt A s u z (peq d e)
 | .non,e,v,w,u,z,A,h,h',r,r',hu=>by
  have hu':=zcO hu
  simp only[Has]at h
  subst h
  cases e with
  | tup es =>
   simp only[Has]at h'
   obtain⟨b,ys,rfl,h3,h4⟩:=h'
   obtain⟨_,_,p,_⟩:=zch I h3 h4
   cases (show z=Value.ref b from r')
   cases (show u=Value.none from r)
   exact SeqAt.EqAt.none_tuple p hu'
  | lst es =>
   simp only[Has]at h'
   obtain⟨b,ys,rfl,h3,h4⟩:=h'
   obtain⟨_,_,p,_⟩:=zci I h3 h4
   cases (show z=Value.ref b from r')
   cases (show u=Value.none from r)
   exact SeqAt.EqAt.none_list p hu'
  | _=>simp only[Has]at h';subst h';exact zeB r r' rfl rfl
 | .bl k,e,v,w,u,z,A,h,h',r,r',hu=>by
  have hu':=zcO hu
  simp only[Has]at h
  subst h
  cases e with
  | tup es =>
   simp only[Has]at h'
   obtain⟨b,ys,rfl,h3,h4⟩:=h'
   obtain⟨_,_,p,_⟩:=zch I h3 h4
   cases (show z=Value.ref b from r')
   cases (show u=Value.bool k from r)
   exact SeqAt.EqAt.bool_tuple k p hu'
  | lst es =>
   simp only[Has]at h'
   obtain⟨b,ys,rfl,h3,h4⟩:=h'
   obtain⟨_,_,p,_⟩:=zci I h3 h4
   cases (show z=Value.ref b from r')
   cases (show u=Value.bool k from r)
   exact SeqAt.EqAt.bool_list k p hu'
  | _=>simp only[Has]at h';subst h';exact zeB r r' rfl rfl
 | .int k,e,v,w,u,z,A,h,h',r,r',hu=>by
  have hu':=zcO hu
  simp only[Has]at h
  subst h
  cases e with
  | tup es =>
   simp only[Has]at h'
   obtain⟨b,ys,rfl,h3,h4⟩:=h'
   obtain⟨_,_,p,_⟩:=zch I h3 h4
   cases (show z=Value.ref b from r')
   obtain⟨t,rfl⟩:=r
   exact SeqAt.EqAt.int_tuple k t p hu'
  | lst es =>
   simp only[Has]at h'
   obtain⟨b,ys,rfl,h3,h4⟩:=h'
   obtain⟨_,_,p,_⟩:=zci I h3 h4
   cases (show z=Value.ref b from r')
   obtain⟨t,rfl⟩:=r
   exact SeqAt.EqAt.int_list k t p hu'
  | _=>simp only[Has]at h';subst h';exact zeB r r' rfl rfl
 | .str k,e,v,w,u,z,A,h,h',r,r',hu=>by
  have hu':=zcO hu
  simp only[Has]at h
  subst h
  cases e with
  | tup es =>
   simp only[Has]at h'
   obtain⟨b,ys,rfl,h3,h4⟩:=h'
   obtain⟨_,_,p,_⟩:=zch I h3 h4
   cases (show z=Value.ref b from r')
   obtain⟨t,rfl⟩:=r
   exact SeqAt.EqAt.str_tuple k t p hu'
  | lst es =>
   simp only[Has]at h'
   obtain⟨b,ys,rfl,h3,h4⟩:=h'
   obtain⟨_,_,p,_⟩:=zci I h3 h4
   cases (show z=Value.ref b from r')
   obtain⟨t,rfl⟩:=r
   exact SeqAt.EqAt.str_list k t p hu'
  | _=>simp only[Has]at h';subst h';exact zeB r r' rfl rfl
 | .tup ds,e,v,w,u,z,A,h,h',r,r',hu=>by
  have hu':=zcO hu
  have hd:=h
  simp only[Has]at h
  obtain⟨a,xs,rfl,h1,h2⟩:=h
  cases (show u=Value.ref a from r)
  obtain⟨_,_,p,_⟩:=zch I h1 h2
  have hi:A.in1.units+za0 ds < cLine:=by simp only[dep]at hu;rw[Around.in1_units];omega
  cases e with
  | tup es =>
   have he:=h'
   simp only[Has]at h'
   obtain⟨b,ys,rfl,h3,h4⟩:=h'
   cases (show z=Value.ref b from r')
   by_cases hab:a=b
   ·subst hab
    rw[Has.inj I _ _ _ hd he,zcz]
    exact SeqAt.EqAt.same _
   ·have q:=(rcTT I h1 h2 h3 h4 hu' fun us zs ru rz j u z e1 e2=>zeC I ds es xs ys us zs A.in1 h2 h4 ru rz hi j u z e1 e2).1
    simp only[peq]
    exact SeqAt.EqAt.of_refs hab q
  | lst es =>
   simp only[Has]at h'
   obtain⟨b,ys,rfl,h3,h4⟩:=h'
   cases (show z=Value.ref b from r')
   obtain⟨_,_,p',_⟩:=zci I h3 h4
   exact SeqAt.EqAt.tuple_list p p' hu'
  | non=>simp only[Has]at h';subst h';cases (show z=Value.none from r');exact SeqAt.EqAt.tuple_none p hu'
  | bl k=>simp only[Has]at h';subst h';cases (show z=Value.bool k from r');exact SeqAt.EqAt.tuple_bool k p hu'
  | int k=>simp only[Has]at h';subst h';obtain⟨t,rfl⟩:=r';exact SeqAt.EqAt.tuple_int k t p hu'
  | str k=>simp only[Has]at h';subst h';obtain⟨t,rfl⟩:=r';exact SeqAt.EqAt.tuple_str k t p hu'
 | .lst ds,e,v,w,u,z,A,h,h',r,r',hu=>by
  have hu':=zcO hu
  have hd:=h
  simp only[Has]at h
  obtain⟨a,xs,rfl,h1,h2⟩:=h
  cases (show u=Value.ref a from r)
  obtain⟨_,_,p,_⟩:=zci I h1 h2
  have hi:A.in1.units+za0 ds < cLine:=by simp only[dep]at hu;rw[Around.in1_units];omega
  cases e with
  | lst es =>
   have he:=h'
   simp only[Has]at h'
   obtain⟨b,ys,rfl,h3,h4⟩:=h'
   cases (show z=Value.ref b from r')
   by_cases hab:a=b
   ·subst hab
    rw[Has.inj I _ _ _ hd he,zcz]
    exact SeqAt.EqAt.same _
   ·have q:=(rcLL I h1 h2 h3 h4 hu' fun us zs ru rz j u z e1 e2=>zeC I ds es xs ys us zs A.in1 h2 h4 ru rz hi j u z e1 e2).1
    simp only[peq]
    exact SeqAt.EqAt.of_refs hab q
  | tup es =>
   simp only[Has]at h'
   obtain⟨b,ys,rfl,h3,h4⟩:=h'
   cases (show z=Value.ref b from r')
   obtain⟨_,_,p',_⟩:=zch I h3 h4
   exact SeqAt.EqAt.list_tuple p p' hu'
  | non=>simp only[Has]at h';subst h';cases (show z=Value.none from r');exact SeqAt.EqAt.list_none p hu'
  | bl k=>simp only[Has]at h';subst h';cases (show z=Value.bool k from r');exact SeqAt.EqAt.list_bool k p hu'
  | int k=>simp only[Has]at h';subst h';obtain⟨t,rfl⟩:=r';exact SeqAt.EqAt.list_int k t p hu'
  | str k=>simp only[Has]at h';subst h';obtain⟨t,rfl⟩:=r';exact SeqAt.EqAt.list_str k t p hu'
theorem zeC (I:Inv X pins σ H s):∀(ds es:List Dt) (vs ws:List V) (us zs:List Value) (A:Around),ad X.K H ds vs→ad X.K H es ws→aw vs us→aw ws zs→A.units+za0 ds < cLine →
  ∀(j:Nat) (u z:Value),us[j]?=some u→zs[j]?=some z→SeqAt.EqAt A s u z (zcm ds es j)
 | [],es,vs,ws,us,zs,A,h,h',r,r',hu,j,u,z,e1,e2=>by
  simp only[ad]at h
  subst h
  cases r
  simp at e1
 | d :: ds,es,vs,ws,us,zs,A,h,h',r,r',hu,j,u,z,e1,e2=>by
  simp only[ad]at h
  obtain⟨v,rs,rfl,h1,h2⟩:=h
  cases r with
  | cons r1 r2 =>
   cases es with
   | nil =>
    simp only[ad]at h'
    subst h'
    cases r'
    simp at e2
   | cons e es =>
    simp only[ad]at h'
    obtain⟨w,rt,rfl,h3,h4⟩:=h'
    simp only[za0]at hu
    cases r' with
    | cons r3 r4 =>
     cases j with
     | zero =>
      simp at e1 e2
      subst e1 e2
      exact zh0 I d e v w _ _ A h1 h3 r1 r3 (by omega)
     | succ j=>exact zeC I ds es rs rt _ _ A h2 h4 r2 r4 (by omega) j u z (by simpa using e1) (by simpa using e2)
end
end
end L2
namespace L2
open PySem PySem.Spec PyProof.Rows
section
variable {X:Cx} {pins:List (Addr × Obj)} {σ:St} {H:Hp} {s:Shared}
theorem rc_D (I:Inv X pins σ H s) (A:Around) (d e:Dt) (v w:V) (u z:Value) (h:Has X.K H d v) (h':Has X.K H e w) (r:ax v u) (r':ax w z) (hu:A.units+dep d < cLine) :
  SeqAt.RcAt A s u z (peq d e)∧SeqAt.RcNeAt A s u z (!peq d e):=by
 have hu':=zcO hu
 cases d with
 | non =>
  simp only[Has]at h
  subst h
  cases (show u=Value.none from r)
  cases e with
  | non =>
   simp only[Has]at h'
   subst h'
   cases (show z=Value.none from r')
   exact⟨SeqAt.RcAt.none_none,SeqAt.RcNeAt.none_none⟩
  | bl k2 =>
   simp only[Has]at h'
   subst h'
   cases (show z=Value.bool k2 from r')
   exact⟨SeqAt.RcAt.none_bool k2,SeqAt.RcNeAt.none_bool k2⟩
  | int k2 =>
   simp only[Has]at h'
   subst h'
   obtain⟨t2,rfl⟩:=r'
   exact⟨SeqAt.RcAt.none_int k2 t2,SeqAt.RcNeAt.none_int k2 t2⟩
  | str k2 =>
   simp only[Has]at h'
   subst h'
   obtain⟨t2,rfl⟩:=r'
   exact⟨SeqAt.RcAt.none_str k2 t2,SeqAt.RcNeAt.none_str k2 t2⟩
  | tup es =>
   simp only[Has]at h'
   obtain⟨b,ys,rfl,h3,h4⟩:=h'
   obtain⟨_,_,p,_⟩:=zch I h3 h4
   cases (show z=Value.ref b from r')
   exact⟨SeqAt.RcAt.none_tuple p hu',SeqAt.RcNeAt.none_tuple p hu'⟩
  | lst es =>
   simp only[Has]at h'
   obtain⟨b,ys,rfl,h3,h4⟩:=h'
   obtain⟨_,_,p,_⟩:=zci I h3 h4
   cases (show z=Value.ref b from r')
   exact⟨SeqAt.RcAt.none_list p hu',SeqAt.RcNeAt.none_list p hu'⟩
 | bl k1 =>
  simp only[Has]at h
  subst h
  cases (show u=Value.bool k1 from r)
  cases e with
  | non =>
   simp only[Has]at h'
   subst h'
   cases (show z=Value.none from r')
   exact⟨SeqAt.RcAt.bool_none k1,SeqAt.RcNeAt.bool_none k1⟩
  | bl k2 =>
   simp only[Has]at h'
   subst h'
   cases (show z=Value.bool k2 from r')
   exact⟨SeqAt.RcAt.bool_bool k1 k2,SeqAt.RcNeAt.bool_bool k1 k2⟩
  | int k2 =>
   simp only[Has]at h'
   subst h'
   obtain⟨t2,rfl⟩:=r'
   exact⟨SeqAt.RcAt.bool_int k1 k2 t2,SeqAt.RcNeAt.bool_int k1 k2 t2⟩
  | str k2 =>
   simp only[Has]at h'
   subst h'
   obtain⟨t2,rfl⟩:=r'
   exact⟨SeqAt.RcAt.bool_str k1 k2 t2,SeqAt.RcNeAt.bool_str k1 k2 t2⟩
  | tup es =>
   simp only[Has]at h'
   obtain⟨b,ys,rfl,h3,h4⟩:=h'
   obtain⟨_,_,p,_⟩:=zch I h3 h4
   cases (show z=Value.ref b from r')
   exact⟨SeqAt.RcAt.bool_tuple k1 p hu',SeqAt.RcNeAt.bool_tuple k1 p hu'⟩
  | lst es =>
   simp only[Has]at h'
   obtain⟨b,ys,rfl,h3,h4⟩:=h'
   obtain⟨_,_,p,_⟩:=zci I h3 h4
   cases (show z=Value.ref b from r')
   exact⟨SeqAt.RcAt.bool_list k1 p hu',SeqAt.RcNeAt.bool_list k1 p hu'⟩
 | int k1 =>
  simp only[Has]at h
  subst h
  obtain⟨t1,rfl⟩:=r
  cases e with
  | non =>
   simp only[Has]at h'
   subst h'
   cases (show z=Value.none from r')
   exact⟨SeqAt.RcAt.int_none k1 t1,SeqAt.RcNeAt.int_none k1 t1⟩
  | bl k2 =>
   simp only[Has]at h'
   subst h'
   cases (show z=Value.bool k2 from r')
   exact⟨SeqAt.RcAt.int_bool k1 t1 k2,SeqAt.RcNeAt.int_bool k1 t1 k2⟩
  | int k2 =>
   simp only[Has]at h'
   subst h'
   obtain⟨t2,rfl⟩:=r'
   exact⟨SeqAt.RcAt.int_int k1 t1 k2 t2,SeqAt.RcNeAt.int_int k1 t1 k2 t2⟩
  | str k2 =>
   simp only[Has]at h'
   subst h'
   obtain⟨t2,rfl⟩:=r'
   exact⟨SeqAt.RcAt.int_str k1 t1 k2 t2,SeqAt.RcNeAt.int_str k1 t1 k2 t2⟩
  | tup es =>
   simp only[Has]at h'
   obtain⟨b,ys,rfl,h3,h4⟩:=h'
   obtain⟨_,_,p,_⟩:=zch I h3 h4
   cases (show z=Value.ref b from r')
   exact⟨SeqAt.RcAt.int_tuple k1 t1 p hu',SeqAt.RcNeAt.int_tuple k1 t1 p hu'⟩
  | lst es =>
   simp only[Has]at h'
   obtain⟨b,ys,rfl,h3,h4⟩:=h'
   obtain⟨_,_,p,_⟩:=zci I h3 h4
   cases (show z=Value.ref b from r')
   exact⟨SeqAt.RcAt.int_list k1 t1 p hu',SeqAt.RcNeAt.int_list k1 t1 p hu'⟩
 | str k1 =>
  simp only[Has]at h
  subst h
  obtain⟨t1,rfl⟩:=r
  cases e with
  | non =>
   simp only[Has]at h'
   subst h'
   cases (show z=Value.none from r')
   exact⟨SeqAt.RcAt.str_none k1 t1,SeqAt.RcNeAt.str_none k1 t1⟩
  | bl k2 =>
   simp only[Has]at h'
   subst h'
   cases (show z=Value.bool k2 from r')
   exact⟨SeqAt.RcAt.str_bool k1 t1 k2,SeqAt.RcNeAt.str_bool k1 t1 k2⟩
  | int k2 =>
   simp only[Has]at h'
   subst h'
   obtain⟨t2,rfl⟩:=r'
   exact⟨SeqAt.RcAt.str_int k1 t1 k2 t2,SeqAt.RcNeAt.str_int k1 t1 k2 t2⟩
  | str k2 =>
   simp only[Has]at h'
   subst h'
   obtain⟨t2,rfl⟩:=r'
   exact⟨SeqAt.RcAt.str_str k1 t1 k2 t2,SeqAt.RcNeAt.str_str k1 t1 k2 t2⟩
  | tup es =>
   simp only[Has]at h'
   obtain⟨b,ys,rfl,h3,h4⟩:=h'
   obtain⟨_,_,p,_⟩:=zch I h3 h4
   cases (show z=Value.ref b from r')
   exact⟨SeqAt.RcAt.str_tuple k1 t1 p hu',SeqAt.RcNeAt.str_tuple k1 t1 p hu'⟩
  | lst es =>
   simp only[Has]at h'
   obtain⟨b,ys,rfl,h3,h4⟩:=h'
   obtain⟨_,_,p,_⟩:=zci I h3 h4
   cases (show z=Value.ref b from r')
   exact⟨SeqAt.RcAt.str_list k1 t1 p hu',SeqAt.RcNeAt.str_list k1 t1 p hu'⟩
 | tup ds =>
  simp only[Has]at h
  obtain⟨a,xs,rfl,h1,h2⟩:=h
  cases (show u=Value.ref a from r)
  obtain⟨_,_,p,_⟩:=zch I h1 h2
  have hi:A.in1.units+za0 ds < cLine:=by simp only[dep]at hu;rw[Around.in1_units];omega
  cases e with
  | non =>
   simp only[Has]at h'
   subst h'
   cases (show z=Value.none from r')
   exact⟨SeqAt.RcAt.tuple_none p hu',SeqAt.RcNeAt.tuple_none p hu'⟩
  | bl k2 =>
   simp only[Has]at h'
   subst h'
   cases (show z=Value.bool k2 from r')
   exact⟨SeqAt.RcAt.tuple_bool k2 p hu',SeqAt.RcNeAt.tuple_bool k2 p hu'⟩
  | int k2 =>
   simp only[Has]at h'
   subst h'
   obtain⟨t2,rfl⟩:=r'
   exact⟨SeqAt.RcAt.tuple_int k2 t2 p hu',SeqAt.RcNeAt.tuple_int k2 t2 p hu'⟩
  | str k2 =>
   simp only[Has]at h'
   subst h'
   obtain⟨t2,rfl⟩:=r'
   exact⟨SeqAt.RcAt.tuple_str k2 t2 p hu',SeqAt.RcNeAt.tuple_str k2 t2 p hu'⟩
  | tup es =>
   simp only[Has]at h'
   obtain⟨b,ys,rfl,h3,h4⟩:=h'
   cases (show z=Value.ref b from r')
   simp only[peq]
   exact rcTT I h1 h2 h3 h4 hu' fun us zs ru rz j u z e1 e2=>zeC I ds es xs ys us zs A.in1 h2 h4 ru rz hi j u z e1 e2
  | lst es =>
   simp only[Has]at h'
   obtain⟨b,ys,rfl,h3,h4⟩:=h'
   cases (show z=Value.ref b from r')
   obtain⟨_,_,p',_⟩:=zci I h3 h4
   exact⟨SeqAt.RcAt.tuple_list p p' hu',SeqAt.RcNeAt.tuple_list p p' hu'⟩
 | lst ds =>
  simp only[Has]at h
  obtain⟨a,xs,rfl,h1,h2⟩:=h
  cases (show u=Value.ref a from r)
  obtain⟨_,_,p,_⟩:=zci I h1 h2
  have hi:A.in1.units+za0 ds < cLine:=by simp only[dep]at hu;rw[Around.in1_units];omega
  cases e with
  | non =>
   simp only[Has]at h'
   subst h'
   cases (show z=Value.none from r')
   exact⟨SeqAt.RcAt.list_none p hu',SeqAt.RcNeAt.list_none p hu'⟩
  | bl k2 =>
   simp only[Has]at h'
   subst h'
   cases (show z=Value.bool k2 from r')
   exact⟨SeqAt.RcAt.list_bool k2 p hu',SeqAt.RcNeAt.list_bool k2 p hu'⟩
  | int k2 =>
   simp only[Has]at h'
   subst h'
   obtain⟨t2,rfl⟩:=r'
   exact⟨SeqAt.RcAt.list_int k2 t2 p hu',SeqAt.RcNeAt.list_int k2 t2 p hu'⟩
  | str k2 =>
   simp only[Has]at h'
   subst h'
   obtain⟨t2,rfl⟩:=r'
   exact⟨SeqAt.RcAt.list_str k2 t2 p hu',SeqAt.RcNeAt.list_str k2 t2 p hu'⟩
  | tup es =>
   simp only[Has]at h'
   obtain⟨b,ys,rfl,h3,h4⟩:=h'
   cases (show z=Value.ref b from r')
   obtain⟨_,_,p',_⟩:=zch I h3 h4
   exact⟨SeqAt.RcAt.list_tuple p p' hu',SeqAt.RcNeAt.list_tuple p p' hu'⟩
  | lst es =>
   simp only[Has]at h'
   obtain⟨b,ys,rfl,h3,h4⟩:=h'
   cases (show z=Value.ref b from r')
   simp only[peq]
   exact rcLL I h1 h2 h3 h4 hu' fun us zs ru rz j u z e1 e2=>zeC I ds es xs ys us zs A.in1 h2 h4 ru rz hi j u z e1 e2
def rEqD (K:W.Frag):R2:=fun x y H Q=>∃ d e,Has K H d x∧Has K H e y∧dep d≤60∧Q (.bl (peq d e)) H
def rNeD (K:W.Frag):R2:=fun x y H Q=>∃ d e,Has K H d x∧Has K H e y∧dep d≤60∧Q (.bl (!peq d e)) H
theorem zfI (hu:X.A.units+64 < cLine):OpR X (compareOp .Eq) (rEqD X.K):=by
 intro pins s σ H x y v u Q I rx ry h
 obtain⟨d,e,h1,h2,hd,q⟩:=h
 exact(rc_D I X.A d e x y v u h1 h2 rx ry (by omega)).1 _ _ _ _ ⟨.bl _,H,I,rfl,q⟩
theorem zc2 (hu:X.A.units+64 < cLine):OpR X (compareOp .NotEq) (rNeD X.K):=by
 intro pins s σ H x y v u Q I rx ry h
 obtain⟨d,e,h1,h2,hd,q⟩:=h
 exact(rc_D I X.A d e x y v u h1 h2 rx ry (by omega)).2 _ _ _ _ ⟨.bl _,H,I,rfl,q⟩
open Classical in
noncomputable def hitD (K:W.Frag) (H:Hp) (d:Dt) (u:Value):Bool:=decide (∃(v:V) (d':Dt),ax v u∧Has K H d' v∧peq d' d=true)
open Classical in
theorem zhe (I:Inv X pins σ H s) {d d':Dt} {v:V} {u:Value} (r:ax v u) (h:Has X.K H d' v):hitD X.K H d u=peq d' d:=by
 unfold hitD
 cases e:peq d' d with
 | true=>exact decide_eq_true ⟨v,d',r,h,e⟩
 | false =>
  refine decide_eq_false fun⟨v',d2,r',h',e'⟩=>?_
  rw[r'.inj r]at h'
  rw[Has.inj I _ _ _ h' h,e]at e'
  cases e'
theorem zdF (I:Inv X pins σ H s) {d:Dt}:∀ {ds:List Dt} {vs:List V} {us:List Value},ad X.K H ds vs→aw vs us→us.any (hitD X.K H d)=ds.any fun d'=>peq d' d
 | [],vs,us,h,r=>by
  simp only[ad]at h
  subst h
  cases r
  rfl
 | d' :: ds,vs,us,h,r=>by
  simp only[ad]at h
  obtain⟨v,rs,rfl,h1,h2⟩:=h
  cases r with
  | cons r1 r2=>rw[List.any_cons,List.any_cons,zhe I r1 h1,zdF I h2 r2]
theorem zdC (I:Inv X pins σ H s) {A:Around} {d:Dt} {x:V} {ux:Value} (hx:Has X.K H d x) (rx:ax x ux):∀ {ds:List Dt} {vs:List V} {us:List Value},ad X.K H ds vs→aw vs us→A.units+za0 ds < cLine→∀ u∈us,SeqAt.EqAt A s u ux (hitD X.K H d u)
 | [],vs,us,h,r,hu,u,hm=>by
  simp only[ad]at h
  subst h
  cases r
  cases hm
 | d' :: ds,vs,us,h,r,hu,u,hm=>by
  simp only[ad]at h
  obtain⟨v,rs,rfl,h1,h2⟩:=h
  simp only[za0]at hu
  cases r with
  | cons r1 r2 =>
   rcases List.mem_cons.mp hm with rfl | hm
   ·rw[zhe I r1 h1]
    exact zh0 I d' d v x _ _ A h1 hx r1 rx (by omega)
   ·exact zdC I hx rx h2 r2 (by omega) u hm
def rInD (K:W.Frag) (neg:Bool):R2:=fun x y H Q=>∃ p xs ds d,y=.ref p∧(SqL K H p xs∨SqT K H p xs)∧ad K H ds xs∧Has K H d x∧za0 ds≤60∧Q (.bl (if neg then !(ds.any fun d'=>peq d' d) else ds.any fun d'=>peq d' d)) H
theorem op_inD (hu:X.A.units+64 < cLine):OpR X (compareOp .In) (rInD X.K false):=by
 intro pins s σ H x y v u Q I rx ry h
 obtain⟨p,xs,ds,d,rfl,hq,hs,hx,hd,q⟩:=h
 cases ry
 have hin:X.A.in1.units+za0 ds < cLine:=by rw[Around.in1_units];omega
 rcases hq with hq | hq
 ·obtain⟨its,r,pl,hz⟩:=I.list hq
  refine SeqAt.in_listAt (hitD X.K H d) pl.isList (fun w hw=>zdC I hx rx hs r hin w (by simpa using hw)) ⟨.bl _,H,I,rfl,?_⟩
  rw[show its.toArray.any (hitD X.K H d)=its.any (hitD X.K H d) by simp,zdF I hs r]
  exact q
 ·obtain⟨its,r,pl,hz⟩:=I.tuple hq
  refine SeqAt.in_tupleAt (hitD X.K H d) pl (fun w hw=>zdC I hx rx hs r hin w (by simpa using hw)) ⟨.bl _,H,I,rfl,?_⟩
  rw[show its.toArray.any (hitD X.K H d)=its.any (hitD X.K H d) by simp,zdF I hs r]
  exact q
theorem zie (hu:X.A.units+64 < cLine):OpR X (compareOp .NotIn) (rInD X.K true):=by
 intro pins s σ H x y v u Q I rx ry h
 obtain⟨p,xs,ds,d,rfl,hq,hs,hx,hd,q⟩:=h
 cases ry
 have hin:X.A.in1.units+za0 ds < cLine:=by rw[Around.in1_units];omega
 rcases hq with hq | hq
 ·obtain⟨its,r,pl,hz⟩:=I.list hq
  refine SeqAt.notIn_listAt (hitD X.K H d) pl.isList (fun w hw=>zdC I hx rx hs r hin w (by simpa using hw)) ⟨.bl _,H,I,rfl,?_⟩
  rw[show its.toArray.any (hitD X.K H d)=its.any (hitD X.K H d) by simp,zdF I hs r]
  exact q
 ·obtain⟨its,r,pl,hz⟩:=I.tuple hq
  refine SeqAt.notIn_tupleAt (hitD X.K H d) pl (fun w hw=>zdC I hx rx hs r hin w (by simpa using hw)) ⟨.bl _,H,I,rfl,?_⟩
  rw[show its.toArray.any (hitD X.K H d)=its.any (hitD X.K H d) by simp,zdF I hs r]
  exact q
end
end L2
namespace L2
open PySem PySem.Spec PyProof.Rows
structure FB (P:Program) (w:World) (K:W.Frag) (mg:Str→Option Value) (base:Heap) (CX:CXT) (k:Nat) (x:Str) (f:Addr) (fd:FuncData) (ps:List Str) (sp:Sp):Prop where
 ok:zay P w K mg base CX k f fd ps sp
 b:zbI K fd ps []
 kp:W.keepIn K (.ref f)=true
 m:mg x=some (.ref f)
theorem bsz (n:Nat) (h:n≤1000):n≤sizeLine:=Nat.le_of_lt (zaU h)
theorem zbT {k:Nat} {A:Around} (hr:zaE k A):A.units+64 < cLine:=hr.units
theorem zf8 (K:W.Frag) (n:String):W.kitOne K (.type n) (.type n)=some true:=by
 unfold W.kitOne
 rw[if_pos (by simp)]
theorem zgP {ns:List Int} {i:Nat} {n:Int} (h:ns[i]?=some n):atI (ns.map V.int) (i:Int)=some (.int n):=zad (by rw[List.getElem?_map,h];rfl)
theorem zaT {α:Type} {xs:List α} {i:Nat} {x:α} (h:xs[i]?=some x):xs.take (i+1)=xs.take i++[x]:=by
 rw[List.take_add_one,h]
 rfl
theorem ah {H:Hp} {p:Addr} (h:H p=none) (o:HO):aj H (upd H p o):=fun b u q=>by rw[ap (zaB q h)];exact q
theorem aj.upd {H0 H:Hp} {l:Addr} {o:HO} (s:aj H0 H) (h:H0 l=none):aj H0 (upd H l o):=fun b u q=>by rw[ap (zaB q h)];exact s b u q
theorem aj.kt {H H':Hp} (s:aj H H'):zam H H':=zam.of_same s
theorem aj.tup {K:W.Frag} {H H':Hp} {a:Addr} {xs:List V} (s:aj H H') (h:SqT K H a xs):SqT K H' a xs:=s.kt.sq h
structure Wk (J:It) (n:Nat) (Ok:Hp→Prop):Prop where
 stop:∀ i H,Ok H→n≤i→J.stop i H
 go:∀ i H,Ok H→i < n→J.go i H
theorem zgD {lo:Int} {n:Nat}:Wk (Itr lo n) n (fun _=>True):=⟨fun _ _ _ h=>h,fun _ _ _ h=>h⟩
theorem zbv {K:W.Frag} {a:Addr} {xs:List V}:Wk (Itl K a) xs.length (fun H=>SqL K H a xs):=⟨fun _ _ h hi=>⟨xs,h,hi⟩,fun i _ h hi=>⟨xs,xs[i],h,by simp [hi]⟩⟩
theorem zfC {K:W.Frag} {a:Addr} {xs:List V}:Wk (Itt K a) xs.length (fun H=>SqT K H a xs):=⟨fun _ _ h hi=>⟨xs,h,hi⟩,fun i _ h hi=>⟨xs,xs[i],h,by simp [hi]⟩⟩
def LcW (n:Nat) (D:Addr) (Pv:Nat→List V→Hp→Prop) (i m:Nat) (ys:List V) (H:Hp):Prop:=m=n - i∧i≤n∧ys.length≤i∧H D=some (.lst ys)∧Pv i ys H
def zfM (n:Nat) (D:Addr) (Pv:Nat→List V→Hp→Prop) (i:Nat) (ys:List V):VK:=fun y H3=>H3 D=some (.lst ys)∧ys.length < sizeLine∧∃ m',m' < n - i∧LcW n D Pv (i+1) m' (ys++[y]) (upd H3 D (.lst (ys++[y])))
def zgC (n:Nat) (D:Addr) (Pv:Nat→List V→Hp→Prop) (i:Nat) (ys:List V) (H3:Hp):Prop:=∃ m',m' < n - i∧LcW n D Pv (i+1) m' ys H3
theorem zbC {n:Nat} {D:Addr} {Pv:Nat→List V→Hp→Prop} {i:Nat} {ys:List V} {y:V} {H3:Hp} (hn:n≤sizeLine) (hi:i < n) (hl:ys.length≤i) (hD:H3 D=some (.lst ys)) (p:Pv (i+1) (ys++[y]) (upd H3 D (.lst (ys++[y])))):zfM n D Pv i ys y H3 :=
 ⟨hD,by omega,n - (i+1),by omega,rfl,hi,by rw[List.length_append,List.length_singleton];omega,ae,p⟩
theorem zcE {n:Nat} {D:Addr} {Pv:Nat→List V→Hp→Prop} {i:Nat} {ys:List V} {H3:Hp} (hi:i < n) (hl:ys.length≤i) (hD:H3 D=some (.lst ys)) (p:Pv (i+1) ys H3):zgC n D Pv i ys H3 :=
 ⟨n - (i+1),by omega,rfl,hi,by omega,hD,p⟩
theorem zeO {J:It} {n:Nat} {Ok:Hp→Prop} {te:TE} {fv:St} {H1:Hp} {D:Addr} {R:Hp→Prop} (W:Wk J n Ok) (Pv:Nat→List V→Hp→Prop) (hok:∀ i ys H,Pv i ys H→Ok H) (h0:Pv 0 [] (upd H1 D (.lst [])))
  (hs:∀ i ys H' x H'',i < n→ys.length≤i→H' D=some (.lst ys)→Pv i ys H'→J.yld i H' x H''→te (some x :: fv) H'' (zfM n D Pv i ys)) (hd:∀ ys H',H' D=some (.lst ys)→Pv n ys H'→R H') :
  ∃ W:Nat→Nat→List V→Hp→Prop,(∃ m,W 0 m [] (upd H1 D (.lst [])))∧∀ i m ys H',W i m ys H'→H' D=some (.lst ys) ∧
   ((J.stop i H'∧R H')∨(J.go i H'∧∀ x H'',J.yld i H' x H''→te (some x :: fv) H'' fun y H3=>H3 D=some (.lst ys)∧ys.length < sizeLine∧∃ m',m' < m∧W (i+1) m' (ys++[y]) (upd H3 D (.lst (ys++[y]))))):=by
 refine⟨LcW n D Pv,⟨n,rfl,Nat.zero_le _,Nat.zero_le _,ae,h0⟩,?_⟩
 rintro i m ys H' ⟨rfl,hi,hl,hD,p⟩
 refine⟨hD,?_⟩
 by_cases hlt:i < n
 ·exact .inr ⟨W.go i H' (hok _ _ _ p) hlt,fun x H'' y=>hs i ys H' x H'' hlt hl hD p y⟩
 ·have e:i=n:=by omega
  subst e
  exact .inl ⟨W.stop i H' (hok _ _ _ p) (Nat.le_refl _),hd ys H' hD p⟩
theorem zfK {J:It} {n:Nat} {Ok:Hp→Prop} {tc:TT} {te:TE} {fv:St} {H1:Hp} {D:Addr} {R:Hp→Prop} (W:Wk J n Ok) (Pv:Nat→List V→Hp→Prop) (hok:∀ i ys H,Pv i ys H→Ok H) (h0:Pv 0 [] (upd H1 D (.lst [])))
  (hs:∀ i ys H' x H'',i < n→ys.length≤i→H' D=some (.lst ys)→Pv i ys H'→J.yld i H' x H''→tc (some x :: fv) H'' fun b H3=>if b=true then te (some x :: fv) H3 (zfM n D Pv i ys) else zgC n D Pv i ys H3)
  (hd:∀ ys H',H' D=some (.lst ys)→Pv n ys H'→R H') :
  ∃ W:Nat→Nat→List V→Hp→Prop,(∃ m,W 0 m [] (upd H1 D (.lst [])))∧∀ i m ys H',W i m ys H'→H' D=some (.lst ys) ∧
   ((J.stop i H'∧R H')∨(J.go i H'∧∀ x H'',J.yld i H' x H''→tc (some x :: fv) H'' fun b H3 =>
    if b=true then te (some x :: fv) H3 fun y H4=>H4 D=some (.lst ys)∧ys.length < sizeLine∧∃ m',m' < m∧W (i+1) m' (ys++[y]) (upd H4 D (.lst (ys++[y])))
    else ∃ m',m' < m∧W (i+1) m' ys H3)):=by
 refine⟨LcW n D Pv,⟨n,rfl,Nat.zero_le _,Nat.zero_le _,ae,h0⟩,?_⟩
 rintro i m ys H' ⟨rfl,hi,hl,hD,p⟩
 refine⟨hD,?_⟩
 by_cases hlt:i < n
 ·exact .inr ⟨W.go i H' (hok _ _ _ p) hlt,fun x H'' y=>hs i ys H' x H'' hlt hl hD p y⟩
 ·have e:i=n:=by omega
  subst e
  exact .inl ⟨W.stop i H' (hok _ _ _ p) (Nat.le_refl _),hd ys H' hD p⟩
theorem zcj {J:It} {n:Nat} {Ok:Hp→Prop} {g:TG} {tb:TS} {D:zbO} {σ:St} {H:Hp} (W:Wk J n Ok) (Pv:Nat→St→Hp→Prop) (hok:∀ i σ H,Pv i σ H→Ok H) (h0:Pv 0 σ H)
  (hs:∀ i σ H x H',i < n→Pv i σ H→J.yld i H x H'→g x σ H' fun σ2 H2=>tb { D with nx:=Pv (i+1),ct:=Pv (i+1),bk:=D.nx } σ2 H2) (hd:∀ σ H,Pv n σ H→D.nx σ H) :
  ∃ W:Nat→Nat→St→Hp→Prop,(∃ m,W 0 m σ H)∧∀ i m σ H,W i m σ H →
   (J.stop i H∧D.nx σ H)∨(J.go i H∧∃ N:St→Hp→Prop,(∀ σ' H',N σ' H'→∃ m',m' < m∧W (i+1) m' σ' H')∧∀ x H',J.yld i H x H'→g x σ H' fun σ2 H2=>tb { D with nx:=N,ct:=N,bk:=D.nx } σ2 H2):=by
 refine⟨fun i m σ H=>m=n - i∧i≤n∧Pv i σ H,⟨n,by simp,Nat.zero_le _,h0⟩,?_⟩
 rintro i m σ H ⟨rfl,hi,p⟩
 by_cases hlt:i < n
 ·exact .inr ⟨W.go i H (hok _ _ _ p) hlt,Pv (i+1),fun σ' H' p'=>⟨n - (i+1),by omega,rfl,hlt,p'⟩,fun x H' y=>hs i σ H x H' hlt p y⟩
 ·have e:i=n:=by omega
  subst e
  exact .inl ⟨W.stop i H (hok _ _ _ p) (Nat.le_refl _),hd σ H p⟩
theorem Has.int {K:W.Frag} {H:Hp} {i:Int}:Has K H (.int i) (.int i):=by simp only[Has]
theorem Has.str' {K:W.Frag} {H:Hp} {x:Str}:Has K H (.str x) (.str x):=by simp only[Has]
theorem ad.nil {K:W.Frag} {H:Hp}:ad K H [] []:=by simp only[ad]
theorem ad.cons {K:W.Frag} {H:Hp} {d:Dt} {ds:List Dt} {v:V} {vs:List V} (h:Has K H d v) (r:ad K H ds vs):ad K H (d :: ds) (v :: vs):=by
 simp only[ad]
 exact⟨v,vs,rfl,h,r⟩
theorem Has.tup' {K:W.Frag} {H:Hp} {ds:List Dt} {a:Addr} {xs:List V} (h:SqT K H a xs) (r:ad K H ds xs):Has K H (.tup ds) (.ref a):=by
 simp only[Has]
 exact⟨a,xs,rfl,h,r⟩
theorem Has.lst' {K:W.Frag} {H:Hp} {ds:List Dt} {a:Addr} {xs:List V} (h:SqL K H a xs) (r:ad K H ds xs):Has K H (.lst ds) (.ref a):=by
 simp only[Has]
 exact⟨a,xs,rfl,h,r⟩
theorem zdP {K:W.Frag} {H:Hp}:∀ {ns:List Int} {vs:List V},ad K H (ns.map Dt.int) vs→vs=ns.map V.int
 | [],vs,h=>by simp only[List.map_nil,ad]at h;rw[h];rfl
 | n :: ns,vs,h=>by
  simp only[List.map_cons,ad]at h
  obtain⟨v,r,rfl,h1,h2⟩:=h
  simp only[Has]at h1
  rw[h1,zdP h2]
  rfl
def dP (t:Int × Int):Dt:=.tup [.int t.1,.int t.2]
theorem has_dP {K:W.Frag} {H:Hp} {t:Int × Int} {v:V} (h:Has K H (dP t) v):∃ p,v=.ref p∧SqT K H p [.int t.1,.int t.2]:=by
 unfold dP at h
 simp only[Has]at h
 obtain⟨a,xs,rfl,hs,hl⟩:=h
 have e:=zdP (ns:=[t.1,t.2]) hl
 rw[e]at hs
 exact⟨a,rfl,hs⟩
theorem zaG:∀ ts:List (Int × Int),zcs (ts.map dP)=true
 | []=>by simp [zcs]
 | t :: ts=>by simp only[List.map_cons,zcs,dP,nol,Bool.true_and];exact zaG ts
theorem zgN:∀ ts:List (Int × Int),za0 (ts.map dP)≤1
 | []=>by simp [za0]
 | t :: ts=>by
  have h:=zgN ts
  simp only[List.map_cons,za0,dP,dep]
  simp only[Nat.max_self,Nat.zero_add]
  omega
theorem zhf {K:W.Frag} {H:Hp} {ts:List (Int × Int)} {xs:List V} {i:Nat} {x:V} (h:ad K H (ts.map dP) xs) (e:xs[i]?=some x):∃ t p,ts[i]?=some t∧x=.ref p∧SqT K H p [.int t.1,.int t.2]:=by
 obtain⟨d,e1,e2⟩:=h.get e
 rw[List.getElem?_map]at e1
 cases q:ts[i]? with
 | none=>rw[q]at e1;cases e1
 | some t =>
  rw[q]at e1
  cases e1
  obtain⟨p,rfl,hp⟩:=has_dP e2
  exact⟨t,p,rfl,rfl,hp⟩
abbrev rLenS (K:W.Frag):List V→Hp→VK→Prop:=fun xs H Q=>∃ p ys,xs=[.ref p]∧(SqL K H p ys∨SqT K H p ys)∧Q (.int ys.length) H
end L2
namespace PySem
open Sem (wp)
namespace F
end F
section
variable {prog:Program} {w:World} {K:Type} [DecidableEq K] {knd:KeyKind prog w K} {A:Around}
end
end PySem
namespace L2
open PySem PySem.Spec PyProof.Rows
section
variable {κ:Type} [DecidableEq κ]
def zaz (kvs:List (κ × V)) (k:κ):Option V:=(kvs.find? fun kv=>decide (kv.1=k)).map (·.2)
def zaI (kvs:List (κ × V)) (k:κ) (v:V):List (κ × V) :=
 if(kvs.any fun kv=>decide (kv.1=k))=true then kvs.map (fun kv=>if kv.1=k then(kv.1,v) else kv) else kvs++[(k,v)]
theorem zbm {p:κ × V} {r:List (κ × V)} {k:κ} (e:p.1=k):zaz (p :: r) k=some p.2:=by simp [zaz,List.find?_cons,e]
theorem zbn {p:κ × V} {r:List (κ × V)} {k:κ} (e:¬p.1=k):zaz (p :: r) k=zaz r k:=by simp [zaz,List.find?_cons,e]
theorem zcx (k:κ):∀ kvs:List (κ × V),(kvs.any fun kv=>decide (kv.1=k))=(zaz kvs k).isSome
 | []=>rfl
 | p :: r=>by
  rw[List.any_cons]
  by_cases e:p.1=k
  ·simp only[zbm e,decide_eq_true e,Bool.true_or,Option.isSome_some]
  ·rw[zbn e,decide_eq_false e,Bool.false_or];exact zcx k r
theorem zgE (k j:κ) (y:V):∀ kvs:List (κ × V),zaz (kvs.map fun kv=>if kv.1=k then(kv.1,y) else kv) j=(zaz kvs j).map fun x=>if j=k then y else x
 | []=>rfl
 | p :: r=>by
  have ih:=zgE k j y r
  rw[List.map_cons]
  by_cases h:p.1=k
  ·rw[if_pos h]
   by_cases e:p.1=j
   ·rw[zbm (p:=(p.1,y)) e,zbm e,Option.map_some,if_pos (e.symm.trans h)]
   ·rw[zbn (p:=(p.1,y)) e,zbn e,ih]
  ·rw[if_neg h]
   by_cases e:p.1=j
   ·rw[zbm (p:=p) e,zbm e,Option.map_some,if_neg (fun z=>h (e.trans z))]
   ·rw[zbn (p:=p) e,zbn e,ih]
theorem zgg (k j:κ) (y:V):∀ kvs:List (κ × V),zaz kvs k=none→zaz (kvs++[(k,y)]) j=if j=k then some y else zaz kvs j
 | [],_=>by
  by_cases e:k=j
  ·rw[if_pos e.symm];exact zbm (p:=(k,y)) e
  ·rw[if_neg (fun z=>e z.symm)];exact zbn (p:=(k,y)) e
 | p :: r,hn=>by
  rw[List.cons_append]
  have hk:¬p.1=k:=fun z=>by rw[zbm z]at hn;cases hn
  rw[zbn hk]at hn
  have ih:=zgg k j y r hn
  by_cases e:p.1=j
  ·rw[zbm e,zbm e,if_neg (fun z=>hk (e.trans z))]
  ·rw[zbn e,zbn e,ih]
theorem zcP (kvs:List (κ × V)) (k j:κ) (y:V):zaz (zaI kvs k y) j=if j=k then some y else zaz kvs j:=by
 unfold zaI
 by_cases a:(kvs.any fun kv=>decide (kv.1=k))=true
 ·rw[if_pos a,zgE]
  rw[zcx]at a
  by_cases e:j=k
  ·obtain⟨x,hx⟩:=Option.isSome_iff_exists.mp a
   rw[if_pos e,e,hx,Option.map_some,if_pos rfl]
  ·rw[if_neg e]
   cases zaz kvs j with
   | none=>rfl
   | some x=>rw[Option.map_some,if_neg e]
 ·rw[if_neg a]
  refine zgg k j y kvs ?_
  rw[zcx]at a
  cases q:zaz kvs k with
  | none=>rfl
  | some x=>rw[q]at a;exact(a rfl).elim
theorem zcY (kvs:List (κ × V)) (k:κ) (v:V):(zaI kvs k v).length≤kvs.length+1:=by
 unfold zaI
 split
 ·rw[List.length_map];omega
 ·rw[List.length_append,List.length_cons,List.length_nil];omega
theorem zcg.isSome_eq {o:Option V} {u:Option Value} (r:zcg o u):o.isSome=u.isSome:=by
 cases o with
 | none=>cases u with
  | none=>rfl
  | some _=>exact(show False from r).elim
 | some _=>cases u with
  | none=>exact(show False from r).elim
  | some _=>rfl
theorem zcg.getD {o:Option V} {u:Option Value} {d:V} {d':Value} (r:zcg o u) (rd:ax d d'):ax (o.getD d) (u.getD d'):=by
 cases o with
 | none=>cases u with
  | none=>exact rd
  | some _=>exact(show False from r).elim
 | some _=>cases u with
  | none=>exact(show False from r).elim
  | some _=>exact r
theorem KV.val {kvs:List (κ × V)} {vs:List (κ × Value)} (r:KV kvs vs) (k:κ):zcg (zaz kvs k) (valueAt vs k):=by
 unfold KV at r
 induction r with
 | nil=>exact True.intro
 | @cons p q ps qs h t ih =>
  obtain⟨h1,h2⟩:=h
  by_cases e:p.1=k
  ·have e':q.1=k:=h1.symm.trans e
   have b:valueAt (q :: qs) k=some q.2:=by simp [valueAt,List.find?_cons,e']
   rw[zbm e,b];exact h2
  ·have e':¬q.1=k:=fun z=>e (h1.trans z)
   have b:valueAt (q :: qs) k=valueAt qs k:=by simp [valueAt,List.find?_cons,e']
   rw[zbn e,b];exact ih
theorem KV.any {kvs:List (κ × V)} {vs:List (κ × Value)} (r:KV kvs vs) (k:κ):(kvs.any fun kv=>decide (kv.1=k))=vs.any fun kv=>decide (kv.1=k):=by
 unfold KV at r
 induction r with
 | nil=>rfl
 | cons h t ih=>rw[List.any_cons,List.any_cons,ih,h.1]
theorem KV.repl {kvs:List (κ × V)} {vs:List (κ × Value)} (r:KV kvs vs) (k:κ) {y:V} {u:Value} (ry:ax y u) :
  KV (kvs.map fun kv=>if kv.1=k then(kv.1,y) else kv) (vs.map fun kv=>if kv.1=k then(kv.1,u) else kv):=by
 unfold KV at r ⊢
 induction r with
 | nil=>exact .nil
 | @cons p q ps qs h t ih =>
  rw[List.map_cons,List.map_cons]
  refine .cons ?_ ih
  obtain⟨h1,h2⟩:=h
  by_cases e:p.1=k
  ·rw[if_pos e,if_pos (h1.symm.trans e)];exact⟨h1,ry⟩
  ·rw[if_neg e,if_neg (fun z=>e (h1.trans z))];exact⟨h1,h2⟩
theorem KV.put {kvs:List (κ × V)} {vs:List (κ × Value)} (r:KV kvs vs) (k:κ) {y:V} {u:Value} (ry:ax y u):KV (zaI kvs k y) (stored vs k u):=by
 unfold zaI stored
 rw[r.any k]
 by_cases e:(vs.any fun kv=>decide (kv.1=k))=true
 ·rw[if_pos e,if_pos e];exact r.repl k ry
 ·rw[if_neg e,if_neg e];exact Paired.snoc r ⟨rfl,ry⟩
theorem KV.keys {kvs:List (κ × V)} {vs:List (κ × Value)} (r:KV kvs vs):kvs.map (·.1)=vs.map (·.1):=by
 unfold KV at r
 induction r with
 | nil=>rfl
 | cons h t ih=>rw[List.map_cons,List.map_cons,ih,h.1]
theorem KV.length {kvs:List (κ × V)} {vs:List (κ × Value)} (r:KV kvs vs):kvs.length=vs.length:=Paired.length r
end
theorem zej {P:Program} {w:World} {k:Key} {u:Value} (r:ax (kV k) u):(zat P w).is k u=true:=by
 cases k with
 | inl i=>obtain⟨t,e⟩:=(show ∃ t,u=Value.int i t from r);subst e;exact zgZ P w i t
 | inr x=>obtain⟨t,e⟩:=(show ∃ t,u=Value.str x t from r);subst e;exact zcX P w x t
theorem zeJ {P:Program} {w:World}:∀ {ks:List Key} {us:List Value},aw (ks.map kV) us→ItemsAre (zat P w) ks us
 | [],_,r=>by rw[List.map_nil]at r;cases r;exact .nil
 | k :: ks,_,r=>by
  rw[List.map_cons]at r
  cases r with
  | cons h t=>exact .cons (zej h) (zeJ t)
abbrev KT (H:Hp):List (List Key × V)→List (List Key × Addr × Value)→Prop:=Paired fun p q=>p.1=q.1∧H q.2.1=some (.tup (p.1.map kV))∧ax p.2 q.2.2
theorem KT.val {H:Hp} {kvs:List (List Key × V)} {xs:List (List Key × Addr × Value)} (r:KT H kvs xs) (k:List Key):zcg (zaz kvs k) ((atKey xs k).map (·.2)):=by
 induction r with
 | nil=>exact True.intro
 | @cons p q ps qs h t ih =>
  obtain⟨h1,_,h2⟩:=h
  by_cases e:p.1=k
  ·have e':q.1=k:=h1.symm.trans e
   have b:atKey (q :: qs) k=some q.2:=by simp [atKey,List.find?_cons,e']
   rw[zbm e,b];exact h2
  ·have e':¬q.1=k:=fun z=>e (h1.trans z)
   have b:atKey (q :: qs) k=atKey qs k:=by simp [atKey,List.find?_cons,e']
   rw[zbn e,b];exact ih
theorem KT.repl {H:Hp} {kvs:List (List Key × V)} {xs:List (List Key × Addr × Value)} (r:KT H kvs xs) (k:List Key) {y:V} {u:Value} (ry:ax y u) :
  KT H (kvs.map fun kv=>if kv.1=k then(kv.1,y) else kv) (xs.map (putAt k u)):=by
 induction r with
 | nil=>exact .nil
 | @cons p q ps qs h t ih =>
  rw[List.map_cons,List.map_cons]
  refine .cons ?_ ih
  obtain⟨h1,h2,h3⟩:=h
  unfold putAt
  by_cases e:p.1=k
  ·rw[if_pos e,if_pos (h1.symm.trans e)];exact⟨h1,h2,ry⟩
  ·rw[if_neg e,if_neg (fun z=>e (h1.trans z))];exact⟨h1,h2,h3⟩
theorem KT.put {H:Hp} {kvs:List (List Key × V)} {xs:List (List Key × Addr × Value)} (r:KT H kvs xs) (k:List Key) {b:Addr} {y:V} {u:Value} (hb:H b=some (.tup (k.map kV))) (ry:ax y u) :
  KT H (zaI kvs k y) (storedH xs k b u):=by
 have e:(kvs.any fun kv=>decide (kv.1=k))=(atKey xs k).isSome:=by
  rw[zcx,(r.val k).isSome_eq,Option.isSome_map]
 unfold zaI storedH
 rw[e]
 by_cases q:(atKey xs k).isSome=true
 ·rw[if_pos q,if_pos q];exact r.repl k ry
 ·rw[if_neg q,if_neg q];exact Paired.snoc r ⟨rfl,hb,ry⟩
theorem KT.keeps {H H':Hp} {kvs:List (List Key × V)} {xs:List (List Key × Addr × Value)} (r:KT H kvs xs) (ht:∀ b ys,H b=some (.tup ys)→H' b=some (.tup ys)):KT H' kvs xs :=
 Paired.mapP r fun _ _ z=>⟨z.1,ht _ _ z.2.1,z.2.2⟩
section
variable {P:Program} {w:World} {H:Hp} {h:Heap} {a:Addr}
theorem rd_of {u:HO} (ok:HOk P w H h) (e:Rd H a u):zaL P w H h a u:=e.ok ok
theorem zeR {kvs:List (Key × V)} (ok:HOk P w H h) (e:Rd H a (.dK kvs)):kvs.length≤sizeLine∧(a == sysModules)=false∧∃ vs,KV kvs vs∧h.DictOf (zat P w) a vs :=
 show zaL P w H h a (.dK kvs) from rd_of ok e
theorem zfB {kvs:List (Key × V)} (ok:HOk P w H h) (e:H a=some (.dK kvs)):kvs.length≤sizeLine∧(a == sysModules)=false∧∃ vs,KV kvs vs∧h.DictOf (zat P w) a vs:=zeR ok (.inl e)
theorem zeA {ks:List Key} (ok:HOk P w H h) (e:H a=some (.tup (ks.map kV))):(tupleKind (zat P w)).is h ks a:=by
 obtain⟨_,its,r,o,h1,h2,n,h3⟩:=(show zaL P w H h a (.tup (ks.map kV)) from ok a _ e)
 exact⟨o,its.toArray,n,h1,h2,h3,by simpa using zeJ r⟩
theorem zeQ {kvs:List (List Key × V)} (ok:HOk P w H h) (e:Rd H a (.dT kvs)):kvs.length≤sizeLine∧(a == sysModules)=false ∧
  ∃ xs,KT H kvs xs∧h.DictOfH (tupleKind (zat P w)) a xs:=by
 obtain⟨z,y,xs,r,o,es,ep,h1,h2,h3,h4,h5⟩:=(show zaL P w H h a (.dT kvs) from rd_of ok e)
 refine⟨z,y,xs,r,o,es,ep,h1,h2,h3,h4,fun x hx=>?_,h5⟩
 have all:∀ {l:List (List Key × V)} {m:List (List Key × Addr × Value)},KT H l m→∀ x∈m,(tupleKind (zat P w)).is h x.1 x.2.1:=by
  intro l m q
  induction q with
  | nil=>intro x hx;exact nomatch hx
  | @cons p q ps qs hq t ih =>
   intro x hx
   rcases List.mem_cons.mp hx with e | hx
   ·subst e
    exact zeA ok (by rw[←hq.1];exact hq.2.1)
   ·exact ih x hx
 exact all r x hx
theorem dt_of {kvs:List (List Key × V)} (ok:HOk P w H h) (e:H a=some (.dT kvs)):kvs.length≤sizeLine∧(a == sysModules)=false ∧
  ∃ xs,KT H kvs xs∧h.DictOfH (tupleKind (zat P w)) a xs:=zeQ ok (.inl e)
end
def zbP (H:Hp) (a:Addr) (y:V) (r:Option V):Prop :=
 (∃ kvs k,Rd H a (.dK kvs)∧y=kV k∧r=zaz kvs k)∨∃ kvs k b,Rd H a (.dT kvs)∧y=.ref b∧H b=some (.tup (k.map kV))∧r=zaz kvs k
def zew (H:Hp) (a:Addr) (y v:V) (H':Hp):Prop :=
 (∃ kvs k,H a=some (.dK kvs)∧y=kV k∧kvs.length < sizeLine∧H'=upd H a (.dK (zaI kvs k v))) ∨
 ∃ kvs k b,H a=some (.dT kvs)∧y=.ref b∧H b=some (.tup (k.map kV))∧kvs.length < sizeLine∧H'=upd H a (.dT (zaI kvs k v))
theorem zbP.k {H:Hp} {a:Addr} {kvs:List (Key × V)} {k:Key} (e:H a=some (.dK kvs)):zbP H a (kV k) (zaz kvs k):=.inl ⟨kvs,k,.inl e,rfl,rfl⟩
theorem zbP.t {H:Hp} {a b:Addr} {kvs:List (List Key × V)} {k:List Key} (e:H a=some (.dT kvs)) (eb:H b=some (.tup (k.map kV))):zbP H a (.ref b) (zaz kvs k):=.inr ⟨kvs,k,b,.inl e,rfl,eb,rfl⟩
theorem zew.k {H:Hp} {a:Addr} {kvs:List (Key × V)} {k:Key} {v:V} (e:H a=some (.dK kvs)) (hl:kvs.length < sizeLine):zew H a (kV k) v (upd H a (.dK (zaI kvs k v))):=.inl ⟨kvs,k,e,rfl,hl,rfl⟩
theorem zew.t {H:Hp} {a b:Addr} {kvs:List (List Key × V)} {k:List Key} {v:V} (e:H a=some (.dT kvs)) (eb:H b=some (.tup (k.map kV))) (hl:kvs.length < sizeLine) :
  zew H a (.ref b) v (upd H a (.dT (zaI kvs k v))):=.inr ⟨kvs,k,b,e,rfl,eb,hl,rfl⟩
section
variable {X:Cx} {pins:List (Addr × Obj)} {σ:St} {H:Hp} {s:Shared} {a:Addr} {y v:V} {u r:Value} {o:Option V} {A:Around} {E:Value→Shared→Prop}
theorem Inv.big (I:Inv X pins σ H s):sysModules < s.heap.objs.size:=by
 have h:mainGlobals < s.heap.objs.size:=(I.mod.glob.keeps I.bk).lt
 exact Nat.lt_trans (by decide) h
theorem zir {Q:Value→Shared→Prop} (hu:A.units+1 < cLine) (I:Inv X pins σ H s) (g:zbP H a y (some v)) (ry:ax y u) (h:∀ w' s',Inv X pins σ H s'→ax v w'→Q w' s') :
  wpAny (model X.prog X.w) A (getItem (.ref a) u) Q E s:=by
 rcases g with ⟨kvs,k,e,ey,l⟩ | ⟨kvs,k,b,e,ey,eb,l⟩
 ·subst ey
  obtain⟨z,hd,vs,rel,dd⟩:=zeR I.hok e
  obtain⟨w',hw,rw'⟩:=zcg.some_of (v:=v) (o:=valueAt vs k) (by rw[l];exact rel.val k)
  exact wpAny_getItem_of (zej ry) dd.mapOf hw (h w' _ (I.tok _) rw')
 ·subst ey
  cases (show u=Value.ref b from ry)
  obtain⟨z,hd,xs,rel,dd⟩:=zeQ I.hok e
  obtain⟨w',hw,rw'⟩:=zcg.some_of (v:=v) (o:=(atKey xs k).map (·.2)) (by rw[l];exact rel.val k)
  obtain⟨p,hp,hp2⟩:=Option.map_eq_some_iff.mp hw
  refine wpAny_getItem_heap (tupleKind_room_in1 hu) (zeA I.hok eb) dd hp ?_
  rw[hp2]
  exact h w' _ (I.tok _) rw'
theorem zjU {Q:Value→Shared→Prop} (hu:A.units+1 < cLine) (I:Inv X pins σ H s) (g:zbP H a y o) (ry:ax y u) (h:∀ s',Inv X pins σ H s'→Q (.bool (!o.isSome)) s') :
  wpAny (model X.prog X.w) A (compareOp .NotIn u (.ref a)) Q E s:=by
 rcases g with ⟨kvs,k,e,ey,l⟩ | ⟨kvs,k,b,e,ey,eb,l⟩
 ·subst ey
  obtain⟨z,hd,vs,rel,dd⟩:=zeR I.hok e
  refine wpAny_notIn_of (zej ry) hd dd.mapOf ?_
  rw[←(rel.val k).isSome_eq,←l]
  exact h _ (I.tok _)
 ·subst ey
  cases (show u=Value.ref b from ry)
  obtain⟨z,hd,xs,rel,dd⟩:=zeQ I.hok e
  refine wpAny_notIn_heap (tupleKind_room_in1 hu) (zeA I.hok eb) hd dd ?_
  have q:=(rel.val k).isSome_eq
  rw[Option.isSome_map]at q
  rw[←q,←l]
  exact h _ (I.tok _)
theorem zeb {h':Heap} {t':Nat} {ob:HO} (I:Inv X pins σ H s) (mu:Mut (H a)) (hs:Heap.SameBut a s.heap h') (he:∃ q,h'.get? a=some q) (new:zaL X.prog X.w (upd H a ob) h' a ob) :
  Inv X pins σ (upd H a ob) { s with heap:=h',toks:=t' } :=
 I.write (x:=a) (e:=a) mu (.inl rfl) (fun b q hb z=>(hs.2 b hb).trans z) he new
theorem zgA {P:Program} {w:World} {H':Hp} {h':Heap} {kvs:List (Key × V)} {vs:List (Key × Value)} (z:kvs.length≤sizeLine) (hd:(a == sysModules)=false) (rel:KV kvs vs) (dd:h'.DictOf (zat P w) a vs) :
  zaL P w H' h' a (.dK kvs):=⟨z,hd,vs,rel,dd⟩
theorem ziq {H':Hp} {Q:Unit→Shared→Prop} (hu:A.units+1 < cLine) (I:Inv X pins σ H s) (g:zew H a y v H') (ry:ax y u) (rv:ax v r) (h:∀ s',Inv X pins σ H' s'→Q () s') :
  wpAny (model X.prog X.w) A (setItem (.ref a) u r) Q E s:=by
 rcases g with ⟨kvs,k,e,ey,l,eH⟩ | ⟨kvs,k,b,e,ey,eb,l,eH⟩
 ·subst ey eH
  obtain⟨z,hd,vs,rel,dd⟩:=zfB I.hok e
  have hz:vs.length≤sizeLine:=by rw[←rel.length];exact z
  have hl:(zaI kvs k v).length≤sizeLine:=by have:=zcY kvs k v;omega
  refine wpAny_setItem_pairs (hsz:=hz) (zej ry) dd fun h' dd' hs=>h _ ?_
  have he:∃ q,h'.get? a=some q:=let ⟨q,_,_,hq,_⟩:=dd';⟨q,hq⟩
  exact zeb I (by rw[e];exact True.intro) hs he (zgA hl hd (rel.put k rv) dd')
 ·subst ey eH
  cases (show u=Value.ref b from ry)
  obtain⟨z,hd,xs,rel,dd⟩:=dt_of I.hok e
  have hz:xs.length≤sizeLine:=by rw[←Paired.length rel];exact z
  have hl:(zaI kvs k v).length≤sizeLine:=by have:=zcY kvs k v;omega
  refine wpAny_setItem_heap (hsz:=hz) (tupleKind_room_in1 hu) (zeA I.hok eb) dd fun h' dd' hs=>h _ ?_
  obtain⟨q,es,ep,hq,h2,h3,h4,_,h5⟩:=dd'
  refine zeb I (by rw[e];exact True.intro) hs ⟨q,hq⟩ ⟨hl,hd,_,(rel.put k eb rv).keeps fun c ys ec=>?_,q,es,ep,hq,h2,h3,h4,h5⟩
  rw[ap (za4 ec e (fun z=>nomatch z))]
  exact ec
end
section
variable {X:Cx} {pins:List (Addr × Obj)} {σ:St} {H:Hp} {s:Shared} {a:Addr} {kvs:List (Key × V)} {k:Key} {u:Value} {A:Around} {E:Value→Shared→Prop}
end
def NoSl (i:Expr):Prop:=∀ ov iv,subscripted i false ov iv=operate [ov,iv] (getItem ov iv)
theorem zjh {prog:Program} {w:World} {A:Around} {E:Value→Shared→Prop} {s:Shared} {env:Env} {value slice:Expr} {pos:Pos} {T id:String} {Q:Value→Shared→Prop}
  (hl:typeLookup (.type T) "__getitem__"=pure (some (.builtin id))) (hs:NoSl slice)
  (h:wpAny (model prog w) A (eval value env) (fun o s₁=>wpAny (model prog w) A (eval slice env) (fun i s₂=>s₂.TypeIs o T∧wpAny (model prog w) A (getItem o i) Q E s₂) E s₁) E s) :
  wpAny (model prog w) A (eval (.Subscript value slice pos) env) Q E s:=by
 refine Subscript_ (wpAny_mono h (fun o s₁ h₁=>wpAny_mono h₁ (fun i s₂ h₂=>?_) fun _ _ x=>x) fun _ _ x=>x)
 obtain⟨hT,h₂⟩:=h₂
 unfold subscriptTail
 refine wpAny_bind ?_
 rw[getitemInPython_of_ne hT.not_modules]
 refine wpAny_bind (wpAny_specialOf hT hl ?_)
 have fin:wpAny (model prog w) A (subscripted slice false o i) (fun r s₃=>wpAny (model prog w) A (letTemporaryGo value o r >>= fun _=>pure r) Q E s₃) E s₂:=by
  rw[hs o i]
  exact wpAny_operating (wpAny_mono h₂ (fun r s₃ h₃=>wpAny_bind (wpAny_letTemporaryGo (wpAny_pure h₃))) fun _ _ x=>x)
 first
  | exact wpAny_pure (wpAny_bind fin)
  | exact wpAny_bind (wpAny_pure (wpAny_bind fin))
  | exact wpAny_bind fin
theorem zg2 {X:Cx} {pins:List (Addr × Obj)} {σ:St} {H:Hp} {s:Shared} {a:Addr} {y:V} {o:Option V} (I:Inv X pins σ H s) (g:zbP H a y o):s.TypeIs (.ref a) "dict":=by
 rcases g with ⟨kvs,k,e,_,_⟩ | ⟨kvs,k,b,e,_,_,_⟩
 ·obtain⟨_,_,vs,_,dd⟩:=zeR I.hok e
  exact dd.typeIs
 ·obtain⟨_,_,xs,_,dd⟩:=zeQ I.hok e
  exact dd.typeIs
def tDGet (td ty:TE):TE:=fun σ H Q=>td σ H fun x H1=>ty σ H1 fun y H2=>∃ a v,x=.ref a∧zbP H2 a y (some v)∧Q v H2
def zjg (ty td:TE):TE:=fun σ H Q=>ty σ H fun y H1=>td σ H1 fun x H2=>∃ a o,x=.ref a∧zbP H2 a y o∧Q (.bl (!o.isSome)) H2
def sDPut (td ty tv:TE):TS:=fun D σ H=>tv σ H fun v H1=>td σ H1 fun x H2=>ty σ H2 fun y H3=>∃ a H4,x=.ref a∧zew H3 a y v H4∧D.nx σ H4
section
variable {X:Cx} {o i e value:Expr} {pos pos' tpos:Pos} {td ty tv:TE}
theorem zg7 (hu:X.A.units+1 < cLine) (ho:PE X o td) (hi:PE X i ty) (hs:NoSl i):PE X (.Subscript o i pos) (tDGet td ty):=by
 intro pins s σ H Q I h
 refine zjh PySem.F.slot_dict_getitem.lookup hs (thn (ho pins s σ H _ I h) fun u s1 ⟨x,H1,I1,rx,q1⟩=>thn (hi pins s1 σ H1 _ I1 q1) fun iv s2 ⟨y,H2,I2,ry,a,v,ex,g,q2⟩=>?_)
 subst ex
 obtain rfl:u=Value.ref a:=rx
 exact⟨zg2 I2 g,zir hu I2 g ry fun w' s3 I3 rw'=>⟨v,H2,I3,rw',q2⟩⟩
theorem zdN (hu:X.A.units+1 < cLine) (hi:PE X i ty) (ho:PE X o td):PC X .NotIn i o (zjg ty td):=by
 intro pins s σ H Q I h
 refine thn (hi pins s σ H _ I h) fun iv s1 ⟨y,H1,I1,ry,q1⟩=>thn (ho pins s1 σ H1 _ I1 q1) fun u s2 ⟨x,H2,I2,rx,a,ov,ex,g,q2⟩=>?_
 subst ex
 obtain rfl:u=Value.ref a:=rx
 exact zjU hu I2 g ry fun s3 I3=>⟨.bl (!ov.isSome),H2,I3,rfl,q2⟩
theorem zeY (hu:X.A.units+1 < cLine) (ho:PE X o td) (hi:PE X i ty) (hv:PE X value tv) (hs:swapsWith value (some (.Subscript o i pos')) pos.line X.env=pure false) :
  PS X (.Assign [.Subscript o i pos'] value pos) (sDPut td ty tv):=by
 intro pins s σ H D I h
 refine wpAny_Assign_Subscript (thn (hv pins s σ H _ I h) fun r s1 ⟨v,H1,I1,rv,q1⟩=>thn (ho pins s1 σ H1 _ I1 q1) fun u s2 ⟨x,H2,I2,rx,q2⟩=>thn (hi pins s2 σ H2 _ I2 q2) fun iv s3 ⟨y,H3,I3,ry,a,H4,ex,g,q3⟩=>?_) hs
 subst ex
 obtain rfl:u=Value.ref a:=rx
 exact ziq hu I3 g ry rv fun s4 I4=>⟨σ,H4,I4,q3⟩
end
theorem zgM {P:Program} {w:World} {H:Hp} (h:Heap) (hb:sysModules < h.objs.size):zaL P w H (h.push { cls:=.type "dict",data:=.dict #[] }) h.objs.size (.dK []) :=
 ⟨Nat.zero_le _,beq_eq_false_iff_ne.mpr (Ne.symm (Nat.ne_of_lt hb)),[],.nil,Heap.DictOf.new h⟩
def tDNewK:TE:=fun _ H Q=>∀ p,H p=none→Q (.ref p) (upd H p (.dK []))
section
variable {X:Cx} {pos:Pos}
theorem zdA:PE X (.Dict [] [] pos) tDNewK:=fun pins s σ H Q I h =>
 wpAny_Dict_empty ⟨.ref s.heap.objs.size,_,I.laid (a:=s.heap.objs.size) (o:=.dK []) (t':=s.toks) (fun _ _ q=>Heap.get?_push_of_some _ q) (Nat.le_refl _) (zgM s.heap I.big),rfl,h _ (I.hok.fresh (Nat.le_refl _))⟩
end
structure M2 (X:Cx) (o:Expr) (m:Str) (apos:Pos) (e f:Expr) (cpos:Pos):Prop where
 base:attributeBase o m X.env (eval o X.env)=eval o X.env
 few:((backTo cpos (starEach [e,f] X.env)).all (fun x=>!x.1)&&(backToKw cpos (keywordEach [] X.env)).all (fun x=>x.1.isSome)
  && decide (([e,f]:List Expr).length+([]:List Keyword).length+(if([]:List Keyword).isEmpty then 0 else 1) < 30))=true
 line:(apos.endLine == cpos.line)=true
 trees:backTo cpos (starEach [e,f] X.env)=[(false,eval e X.env),(false,eval f X.env)]
def IsD (H:Hp) (a:Addr):Prop:=(∃ kvs,Rd H a (.dK kvs))∨∃ kvs,Rd H a (.dT kvs)
theorem zhX {X:Cx} {pins:List (Addr × Obj)} {σ:St} {H:Hp} {s:Shared} {a:Addr} (I:Inv X pins σ H s) (d:IsD H a) :
  s.TypeIs (.ref a) "dict"∧(∀ b,Value.ref a=.ref b→∃ ob,s.heap.get? b=some ob∧ob.dict=none)∧(a == sysModules)=false:=by
 rcases d with ⟨kvs,e⟩ | ⟨kvs,e⟩
 ·obtain⟨_,hd,vs,_,dd⟩:=zeR I.hok e
  refine⟨dd.typeIs,fun b q=>?_,hd⟩
  cases q
  obtain⟨ob,_,_,h1,h2,_⟩:=dd
  exact⟨ob,h1,h2.2.1⟩
 ·obtain⟨_,hd,xs,_,dd⟩:=zeQ I.hok e
  refine⟨dd.typeIs,fun b q=>?_,hd⟩
  cases q
  obtain⟨ob,_,_,h1,h2,_⟩:=dd
  exact⟨ob,h1,h2.2.1⟩
section
variable {X:Cx} {pins:List (Addr × Obj)} {σ:St} {H:Hp} {s:Shared} {a:Addr} {y d:V} {u r:Value} {o:Option V} {A:Around} {E:Value→Shared→Prop}
theorem d_get2 {Q:Value→Shared→Prop} (hu:A.units+1 < cLine) (I:Inv X pins σ H s) (g:zbP H a y o) (ry:ax y u) (rd:ax d r) (h:∀ w' s',Inv X pins σ H s'→ax (o.getD d) w'→Q w' s') :
  wpAny (model X.prog X.w) A (call (.builtin "dict.get") [.ref a,u,r]) Q E s:=by
 rcases g with ⟨kvs,k,e,ey,l⟩ | ⟨kvs,k,b,e,ey,eb,l⟩
 ·subst ey
  obtain⟨z,hd,vs,rel,dd⟩:=zeR I.hok e
  refine call_meetsIn PySem.F.slot_dict_get dd.typeIs PySem.F.entry_dict_get (PySem.F.args_dict_get_3 _ _ _) (meets_dict_get_default (zat X.prog X.w) a (zej ry) hd r) ⟨_,dd.mapOf,h _ _ (I.tok _) ?_⟩
  rw[l]
  exact(rel.val k).getD rd
 ·subst ey
  cases (show u=Value.ref b from ry)
  obtain⟨z,hd,xs,rel,dd⟩:=zeQ I.hok e
  refine call_meetsIn PySem.F.slot_dict_get dd.typeIs PySem.F.entry_dict_get (PySem.F.args_dict_get_3 _ _ _) (meetsH_dict_get_default (tupleKind (zat X.prog X.w)) a b hd r) ⟨tupleKind_room_in1 hu,k,xs,zeA I.hok eb,dd,h _ _ (I.tok _) ?_⟩
  rw[l]
  exact(rel.val k).getD rd
end
def tDGet2 (td ty tx:TE):TE:=fun σ H Q=>td σ H fun x H1=>∃ a,x=.ref a∧IsD H1 a∧ty σ H1 fun y H2=>tx σ H2 fun z H3=>∃ o,zbP H3 a y o∧Q (o.getD z) H3
section
variable {X:Cx} {o e f:Expr} {apos cpos:Pos} {td ty tx:TE}
theorem zem (hu:X.A.units+1 < cLine) (ho:PE X o td) (he:PE X e ty) (hf:PE X f tx) (m:M2 X o "get" apos e f cpos):PE X (.Call (.Attribute o "get" apos) [e,f] [] cpos) (tDGet2 td ty tx):=by
 intro pins s σ H Q I h
 refine wpAny_Call_method m.base m.few m.line PySem.F.plainAttrs_dict PySem.F.slot_dict_get PySem.F.type_dict_get (thn (ho pins s σ H _ I h) fun u s1 ⟨x,H1,I1,rx,a,ex,d,q1⟩=>?_)
 subst ex
 obtain rfl:u=Value.ref a:=rx
 obtain⟨t1,t2,_⟩:=zhX I1 d
 refine⟨t1,t2,?_⟩
 rw[m.trees]
 refine Calls.callWith_builtin rfl (Calls.evalArgs_plain (Calls.spliced_cons (thn (he pins s1 σ H1 _ I1 q1) fun iv s2 ⟨y,H2,I2,ry,q2⟩ =>
  Calls.spliced_cons (thn (hf pins s2 σ H2 _ I2 q2) fun fv s3 ⟨z,H3,I3,rz,ov,g,q3⟩=>Calls.spliced_nil ?_))))
 exact d_get2 hu I3 g ry rz fun w' s4 I4 rw'=>⟨_,H3,I4,rw',q3⟩
end
section
variable {X:Cx} {pins:List (Addr × Obj)} {σ:St} {H:Hp} {s:Shared} {a:Addr} {kvs:List (Key × V)} {A:Around} {E:Value→Shared→Prop}
end
section
variable {X:Cx} {pins:List (Addr × Obj)} {σ:St} {H:Hp} {s:Shared} {a:Addr} {y:V} {u:Value} {A:Around} {E:Value→Shared→Prop}
end
end L2
namespace L2
open PySem PySem.Spec PyProof.Rows
section
variable {X:Cx}
end
section
variable {κ:Type} [DecidableEq κ]
end
end L2
namespace L2
open PySem PySem.Spec PyProof.Rows
section
variable {X:Cx}
end
end L2
namespace L2
open PySem PySem.Spec PyProof.Rows
theorem zgJ:∀ ns:List Int,zcs (ns.map Dt.int)=true
 | []=>by simp [zcs]
 | n :: ns=>by simp only[List.map_cons,zcs,nol,Bool.true_and];exact zgJ ns
theorem zen:∀ ns:List Int,za0 (ns.map Dt.int)=0
 | []=>by simp [za0]
 | n :: ns=>by simp only[List.map_cons,za0,dep,zen ns];rfl
def zhr (K:W.Frag) (H:Hp) (q:Addr) (ps:List Int):Prop:=SqL K H q (ps.map V.int)∨SqT K H q (ps.map V.int)
theorem zhr.same {K:W.Frag} {H H':Hp} {q:Addr} {ps:List Int} (h:zhr K H q ps) (s:aj H H'):zhr K H' q ps:=h.elim (fun z=>.inl (s.seq z)) fun z=>.inr (s.tup z)
theorem zcc {ps:List Int} {i:Nat} {x:V} (h:(ps.map V.int)[i]?=some x):∃ k,ps[i]?=some k∧x=.int k:=by
 rw[List.getElem?_map]at h
 cases e:ps[i]? with
 | none=>rw[e]at h;cases h
 | some k =>
  rw[e]at h
  exact⟨k,rfl,(Option.some.inj h).symm⟩
def once:List Int→List Int→List Int
 | acc,[]=>acc
 | acc,p :: ps=>once (if p∈acc then acc else acc++[p]) ps
structure Dset (H:Hp) (d:Addr) (hs:List Int):Prop where
 ex:∃ kvs:List (Key × V),H d=some (.dK kvs)∧(∀ n:Int,(zaz kvs (Sum.inl n)).isSome=decide (n∈hs))∧kvs.length≤hs.length
theorem zgH (kvs:List (Key × V)) (k:Key) (v:V):(zaI kvs k v).length≤kvs.length+1:=by
 unfold zaI
 split
 ·rw[List.length_map];omega
 ·rw[List.length_append];simp
theorem Dset.same {H H':Hp} {d:Addr} {hs:List Int} (h:Dset H d hs) (s:aj H H'):Dset H' d hs:=by
 obtain⟨kvs,h1,h2,h3⟩:=h.ex
 exact⟨kvs,s _ _ h1,h2,h3⟩
def nf (row held:List Int):List Int:=once [] (row.filter fun p=>decide (-p∉held))
end L2
namespace L2
open PySem PySem.Spec PyProof.Rows
section
variable {X:Cx}
end
end L2
namespace L2
open PySem PySem.Spec PyProof.Rows
def tLCG (wi:TI) (L:Nat) (ix:List Nat) (g:TG) (te:TE):TE:=fun σ H Q=>wi σ H fun J H1=>∀ D,H1 D=none →
 ∃ W:Nat→Nat→List V→Hp→Prop,(∃ m,W 0 m [] (upd H1 D (.lst []))) ∧
  ∀ i m ys H',W i m ys H'→H' D=some (.lst ys) ∧
   ((J.stop i H'∧Q (.ref D) H')∨(J.go i H'∧∀ x H'',J.yld i H' x H''→∀ σ0:St,σ0.length=L→g x (σ0++fvs σ ix) H'' fun σ' H2=>∃ σ1:St,σ1.length=L∧σ'=σ1++fvs σ ix∧te σ' H2 fun y H3 =>
    H3 D=some (.lst ys)∧ys.length < sizeLine∧∃ m',m' < m∧W (i+1) m' (ys++[y]) (upd H3 D (.lst (ys++[y])))))
def tLCIG (wi:TI) (L:Nat) (ix:List Nat) (g:TG) (tc:TT) (te:TE):TE:=fun σ H Q=>wi σ H fun J H1=>∀ D,H1 D=none →
 ∃ W:Nat→Nat→List V→Hp→Prop,(∃ m,W 0 m [] (upd H1 D (.lst []))) ∧
  ∀ i m ys H',W i m ys H'→H' D=some (.lst ys) ∧
   ((J.stop i H'∧Q (.ref D) H')∨(J.go i H'∧∀ x H'',J.yld i H' x H''→∀ σ0:St,σ0.length=L→g x (σ0++fvs σ ix) H'' fun σ' H2=>∃ σ1:St,σ1.length=L∧σ'=σ1++fvs σ ix∧tc σ' H2 fun b H3 =>
    if b=true then te σ' H3 fun y H4=>H4 D=some (.lst ys)∧ys.length < sizeLine∧∃ m',m' < m∧W (i+1) m' (ys++[y]) (upd H4 D (.lst (ys++[y])))
    else ∃ m',m' < m∧W (i+1) m' ys H3))
section
variable {X:Cx} {N':List Str} {scope:Scope} {cl:List (Str × Addr)} {fp:List Addr} {pins:List (Addr × Obj)} {σ:St} {H:Hp} {s:Shared}
theorem zcZ {L:Nat} {ix:List Nat} {h₁:Heap} {t':Nat} {m:Str→Option Value} (I:Inv X pins σ H s) (C:Clo X scope cl) (hkind:scope.kind=.function) (hf:∀ b∈fp,zbl X pins H b) (hlt:∀ b∈fp,b < s.heap.objs.size)
  (hlen:N'.length=L+ix.length) (hix:∀(j i:Nat),ix[j]?=some i→∃ y,X.N[i]?=some y∧N'[L+j]?=some y∧(X.env.kindOf y=some .cell∨X.env.kindOf y=some .free)∧((relabel scope X.env).names.lookup y=some .cell∨(relabel scope X.env).names.lookup y=some .free))
  (hn:h₁.Ns s.heap.objs.size m) (hk:∀ b o,s.heap.get? b=some o→h₁.get? b=some o):Inv (au X N' scope cl fp s H) [] (List.replicate L none++fvs σ ix) H { s with heap:=h₁,toks:=t' }:=by
 have cellK:∀ x c,cl.lookup x=some c→∃ v,h₁.IsCell c v:=fun x c h=>by
  obtain⟨v,o,ho,hd⟩:=I.cell x c (C.sub x c h)
  exact⟨v,o,hk c o ho,hd⟩
 refine⟨zbc I C hkind hf hlt,rfl,I.bare,Un.kept hk,⟨m,hn,fun i y v h1 h2 h3=>?_⟩,cellK,I.hok.fresh (Nat.le_refl _),fun x c h=>I.freeC x c (C.sub x c h),fun p hp=>absurd (show p∈([]:List (Addr × Obj)) from hp) (by simp),I.hok.kept hk,?_⟩
 ·rcases Nat.lt_or_ge i L with hlt | hge
  ·rw[List.getElem?_append_left (by simp;exact hlt),List.getElem?_replicate]at h2
   rw[if_pos hlt]at h2
   cases (show some (none:Option V)=some (some v) from h2)
  ·obtain⟨j,rfl⟩:∃ j,i=L+j:=⟨i - L,by omega⟩
   have h2':(fvs σ ix)[j]?=some (some v):=by
    rw[List.getElem?_append_right (by simp),List.length_replicate,Nat.add_sub_cancel_left]at h2
    exact h2
   unfold fvs at h2'
   rw[List.getElem?_map]at h2'
   cases e:ix[j]? with
   | none=>rw[e]at h2';cases h2'
   | some i =>
    rw[e]at h2'
    have h4:(σ[i]?).join=some v:=Option.some.inj h2'
    have h5:σ[i]?=some (some v):=by
     cases e':σ[i]? with
     | none=>rw[e']at h4;cases h4
     | some q =>
      rw[e']at h4
      have h6:q=some v:=h4
      rw[h6]
    obtain⟨y',n1,n2,k1,k2⟩:=hix j i e
    have ey:y'=y:=Option.some.inj (n2.symm.trans h1)
    subst ey
    obtain⟨m0,hn0,hl0⟩:=I.loc
    have hv0:Vis X.env.scope y':=k1.elim (fun z=>.inr (.inl z)) fun z=>.inr (.inr z)
    obtain⟨u,ru,l⟩:=hl0 i y' v n1 h5 hv0
    refine⟨u,ru,.inr ⟨k2,?_⟩⟩
    rcases l with ⟨k,_⟩ | ⟨_,c,ec,o,ho,hd⟩
    ·rcases k1 with z | z
     ·rw[z]at k;cases k
     ·rw[z]at k;cases k
    ·obtain⟨c',ec'⟩:=C.has y' k2
     have:c'=c:=Option.some.inj ((C.sub _ _ ec').symm.trans ec)
     subst this
     exact⟨c',ec',o,hk c' o ho,hd⟩
 ·show(List.replicate L (none:Option V)++fvs σ ix:St).length=N'.length
  rw[hlen]
  simp [fvs]
end
section
variable {X:Cx} {N':List Str} {scope:Scope} {elt iter tg:Expr} {L:Nat} {pos:Pos} {wi:TI} {g:TG} {te:TE} {ix:List Nat}
theorem pe_lcg (hc:X.calm=true) (hkind:scope.kind=.function) (hcell:∀ y∈scope.names,y.2≠.cell) (hnames:∀ y∈scope.names,y.2=.local→scope.names.lookup y.1=some .local)
  (hclo:X.Ok→∃ cl,Clo X scope cl) (hlen:N'.length=L+ix.length)
  (hix:∀(j i:Nat),ix[j]?=some i→∃ y,X.N[i]?=some y∧N'[L+j]?=some y∧(X.env.kindOf y=some .cell∨X.env.kindOf y=some .free)∧((relabel scope X.env).names.lookup y=some .cell∨(relabel scope X.env).names.lookup y=some .free))
  (hi:PI X tg iter wi) (hg:∀ cl fp s₃ H₃,PG (au X N' scope cl fp s₃ H₃) tg g) (he:∀ cl fp s₃ H₃,PE (au X N' scope cl fp s₃ H₃) elt te) (hs:∀ v,foldedSetIterable iter X.env v=pure v:=by intro _;rfl) :
  PE X (.ListComp elt [⟨tg,iter,[],0⟩] scope pos) (tLCG wi L ix g te):=by
 intro pins s σ H Q I h
 obtain⟨cl,C⟩:=hclo I.ok
 rw[eval_ListComp]
 refine wpAny_comprehension_free (use:=none) rfl hs C.eq hkind hnames (thn (hi pins s σ H _ I h) fun v s1 h1=>thn h1 fun itv s2 h2=>?_)
 obtain⟨it,fp,tn,J,H2,e,I2,T,st2,f2,q2⟩:=h2
 subst e
 have hD:H2 s2.heap.objs.size=none:=I2.fresh
 obtain⟨W,⟨m0,w0⟩,turn⟩:=q2 s2.heap.objs.size hD
 refine wpAny_newObj_type (wpAny_newFunctionEnv hcell (by intro y hy;simp at hy) (fun h₁ hns₁ hsb₁=>?_) hkind)
 dsimp only at hns₁ hsb₁ ⊢
 have I3:Inv X pins σ (upd H2 s2.heap.objs.size (.lst [])) { s2 with heap:=s2.heap.push { cls:=.type "list",data:=.seq ([]:List Value).toArray },toks:=s2.toks }:=I2.lnew .nil (Nat.zero_le _)
 generalize hs3:({ s2 with heap:=s2.heap.push { cls:=.type "list",data:=.seq ([]:List Value).toArray },toks:=s2.toks }:Shared)=s3 at I3
 have e3:s3.heap=s2.heap.push { cls:=.type "list",data:=.seq ([]:List Value).toArray }:=by rw[←hs3]
 generalize hDD:s2.heap.objs.size=D at *
 generalize hH3:upd H2 D (.lst [])=H3 at *
 have lt2:∀ b∈fp,b < s2.heap.objs.size:=fun b hb=>by
  obtain⟨o,ho,_⟩:=T.obj 0 _ st2 b hb
  exact Heap.lt_size ho
 have neD:∀ b∈fp,b≠D:=fun b hb=>by rw[←hDD];exact Nat.ne_of_lt (lt2 b hb)
 have f3:∀ b∈fp,zbl X pins H3 b:=fun b hb=>⟨by rw[←hH3,ap (neD b hb)];exact(f2 b hb).1,(f2 b hb).2⟩
 have sz3:s3.heap.objs.size=D+1:=by rw[e3,Heap.size_push,hDD]
 have lt3:∀ b∈fp,b < s3.heap.objs.size:=fun b hb=>by have q:=lt2 b hb;rw[sz3];rw[hDD]at q;exact Nat.lt_succ_of_lt q
 have old:∀ b o,s3.heap.get? b=some o→h₁.get? b=some o:=fun b o eb=>by
  have hb:b < D+1:=by rw[←sz3];exact Heap.lt_size eb
  refine hsb₁.extBut b o ?_ (Heap.get?_push_of_some _ (by rw[←e3];exact eb))
  rw[Heap.size_push,hDD]
  exact Nat.ne_of_lt hb
 have szC:(s2.heap.push { cls:=.type "list",data:=.seq ([]:List Value).toArray }).objs.size=s3.heap.objs.size:=by rw[e3]
 have os3:s3.os=s2.os:=by rw[←hs3]
 rw[szC]at hns₁ hsb₁
 have I4:Inv (au X N' scope cl fp s3 H3) [] (List.replicate L none++fvs σ ix) H3 { s3 with heap:=h₁,toks:=s2.toks+([]:List (Str × Value)).length }:=zcZ I3 C hkind f3 lt3 hlen hix hns₁ old
 have st4:tn 0 h₁:=T.keep 0 _ _ st2 fun b hb o eb=>old b o (by rw[e3];exact Heap.get?_push_of_some _ eb)
 have stat:∀ {H':Hp},(∀ b∈fp,H' b=none)→∀ b∈fp,zbl (au X N' scope cl fp s3 H3) [] H' b:=fun hn b hb =>
  ⟨hn b hb,Nat.ne_of_lt (lt3 b hb),fun hs'=>(zbc (N':=N') I3 C hkind f3 lt3).exfs b hb hs',.inl hb,fun y c hy=>((zbc (N':=N') I3 C hkind f3 lt3).exf b hb).2 y c hy,fun p hp=>absurd (show p∈([]:List (Addr × Obj)) from hp) (by simp)⟩
 have loop:∀ s4:Shared,s4={ s3 with heap:=h₁,toks:=s2.toks+([]:List (Str × Value)).length } →
   codeAny (model X.prog X.w) X.A (.compLoop (.ListComp elt [⟨tg,iter,[],0⟩] scope pos) 0 (.ref it) (.ref D) (compEnvC scope cl s3.heap.objs.size X.env))
    (compPost (model X.prog X.w) X.A X.xe none (EP X pins σ Q) (.ref D) s3.heap.objs.size) s4:=by
  rintro s4 rfl
  refine zc0 (fun n s'=>∃ i σ0 H' ys,σ0.length=L∧Inv (au X N' scope cl fp s3 H3) [] (σ0++fvs σ ix) H' s'∧tn i s'.heap∧(∀ b∈fp,H' b=none)∧W i n ys H') ?_ m0 ⟨0,List.replicate L none,H3,[],by simp,I4,st4,fun b hb=>(f3 b hb).1,w0⟩
  rintro n s5 ⟨i,σ0,H5,ys,hl0,I5,st5,fr5,w5⟩
  obtain⟨hD5,alt⟩:=turn i n ys H5 w5
  rcases alt with ⟨stop,q⟩ | ⟨go,step⟩
  ·refine thn (T.done (au X N' scope cl fp s3 H3) rfl rfl rfl hc i [] s5 _ H5 _ I5 (stat fr5) st5 stop) fun r s6 ⟨hr,I6⟩=>?_
   subst hr
   obtain⟨m,hn,_⟩:=I6.loc
   exact⟨m,hn,fun h' hsb=>⟨.ref D,H5,zcA I3 I6 f3 hsb,rfl,q⟩⟩
  ·refine thn (T.item (au X N' scope cl fp s3 H3) rfl rfl rfl hc i [] s5 _ H5 _ I5 (stat fr5) st5 go) fun r s6 ⟨u,hr,h6⟩=>?_
   subst hr
   refine thn h6 fun _ s7 ⟨y7,H7,I7,r7,yl7,st7,fr7⟩=>?_
   have I7':=I7.pinned (stat fr7) (T.obj _ _ st7)
   refine wpAny_mono (hg cl fp s3 H3 _ s7 _ H7 y7 u _ I7' r7 (step y7 H7 yl7 σ0 hl0)) (fun _ s8 h8=>?_) fun _ _ f=>False.elim f
   obtain⟨σ8',H8,I8,σ8,hl8,rfl,q8⟩:=h8
   refine wpAny_mono (he cl fp s3 H3 _ s8 _ H8 _ I8 q8) (fun yv s9 h9=>?_) fun _ _ f=>False.elim f
   obtain⟨y9,H9,I9,r9,hD9,hl9,m',hm',w9⟩:=h9
   refine wpAny_mono (zaH (X:=au X N' scope cl fp s3 H3) _ s9 _ H9 (.ref D) [y9] (.ref D) [yv] (fun _ H'=>H'=upd H9 D (.lst (ys++[y9]))) I9 rfl (.cons r9 .nil) ⟨D,ys,y9,rfl,rfl,hD9,hl9,rfl⟩) (fun _ s10 h10=>?_) fun _ _ f=>False.elim f
   obtain⟨_,H10,I10,_,rfl⟩:=h10
   refine⟨m',hm',i+1,σ8,_,ys++[y9],hl8,I10.unpinned,T.keep _ _ _ st7 fun b hb o eb=>(I10.pin (b,o) (List.mem_append_right _ (List.mem_append_right _ (zaP hb eb)))).1,fun b hb=>?_,w9⟩
   obtain⟨o,eb,d⟩:=T.obj _ _ st7 b hb
   exact(I10.pin (b,o) (List.mem_append_right _ (List.mem_append_right _ (zaP hb eb)))).2.1
 subst hs3
 have fin:=codeAny_compStart_list (loop _ rfl) (T.self X.A 0 _ _ _ st4 (loop _ rfl))
 exact fin
theorem ps_setLCG {i:Nat} {y0:Str} {py spos:Pos} (hNy:X.N.Nodup) (hiy:X.N[i]?=some y0) (hy:Loc X.env.scope y0) (hc:X.calm=true) (hkind:scope.kind=.function) (hcell:∀ y∈scope.names,y.2≠.cell) (hnames:∀ y∈scope.names,y.2=.local→scope.names.lookup y.1=some .local)
  (hclo:X.Ok→∃ cl,Clo X scope cl) (hlen:N'.length=L+ix.length)
  (hix:∀(j i:Nat),ix[j]?=some i→∃ y,X.N[i]?=some y∧N'[L+j]?=some y∧(X.env.kindOf y=some .cell∨X.env.kindOf y=some .free)∧((relabel scope X.env).names.lookup y=some .cell∨(relabel scope X.env).names.lookup y=some .free))
  (hi:PI X tg iter wi) (hg:∀ cl fp s₃ H₃,PG (au X N' scope cl fp s₃ H₃) tg g) (he:∀ cl fp s₃ H₃,PE (au X N' scope cl fp s₃ H₃) elt te) (hsw:swapsWith (.ListComp elt [⟨tg,iter,[],0⟩] scope pos) (some (.Name y0 py)) spos.line X.env=pure true:=by rfl)
  (hf:X.fn y0=true∨X.env.scope.names.lookup y0=some .local:=by first | exact .inl rfl | exact .inr rfl | assumption) (hs:∀ v,foldedSetIterable iter X.env v=pure v:=by intro _;rfl) :
  PS X (.Assign [.Name y0 py] (.ListComp elt [⟨tg,iter,[],0⟩] scope pos) spos) (tAsg (tLCG wi L ix g te) (zde i)):=by
 intro pins s σ H Dn I h
 obtain⟨cl,C⟩:=hclo I.ok
 rw[exec_Assign_Name_used _ _ _ _ hsw]
 refine wpAny_bind (wpAny_standAt (wpAny_bind ?_))
 rw[arm_evalThenUse_ListComp]
 refine wpAny_bind (wpAny_mono (wpAny_comprehension_free (use:=some (assign (.Name y0 py) X.env)) (Q:=fun _ s'=>∃ σ' H',Inv X pins σ' H' s'∧Dn.nx σ' H') rfl hs C.eq hkind hnames (thn (hi pins s σ H _ I h) fun v s1 h1=>thn h1 fun itv s2 h2=>?_)) (fun _ s' h'=>wpAny_pure (wpAny_pure h')) fun _ _ z=>z)
 obtain⟨it,fp,tn,J,H2,e,I2,T,st2,f2,q2⟩:=h2
 subst e
 have hD:H2 s2.heap.objs.size=none:=I2.fresh
 obtain⟨W,⟨m0,w0⟩,turn⟩:=q2 s2.heap.objs.size hD
 refine wpAny_newObj_type (wpAny_newFunctionEnv hcell (by intro y hy;simp at hy) (fun h₁ hns₁ hsb₁=>?_) hkind)
 dsimp only at hns₁ hsb₁ ⊢
 have I3:Inv X pins σ (upd H2 s2.heap.objs.size (.lst [])) { s2 with heap:=s2.heap.push { cls:=.type "list",data:=.seq ([]:List Value).toArray },toks:=s2.toks }:=I2.lnew .nil (Nat.zero_le _)
 generalize hs3:({ s2 with heap:=s2.heap.push { cls:=.type "list",data:=.seq ([]:List Value).toArray },toks:=s2.toks }:Shared)=s3 at I3
 have e3:s3.heap=s2.heap.push { cls:=.type "list",data:=.seq ([]:List Value).toArray }:=by rw[←hs3]
 generalize hDD:s2.heap.objs.size=D at *
 generalize hH3:upd H2 D (.lst [])=H3 at *
 have lt2:∀ b∈fp,b < s2.heap.objs.size:=fun b hb=>by
  obtain⟨o,ho,_⟩:=T.obj 0 _ st2 b hb
  exact Heap.lt_size ho
 have neD:∀ b∈fp,b≠D:=fun b hb=>by rw[←hDD];exact Nat.ne_of_lt (lt2 b hb)
 have f3:∀ b∈fp,zbl X pins H3 b:=fun b hb=>⟨by rw[←hH3,ap (neD b hb)];exact(f2 b hb).1,(f2 b hb).2⟩
 have sz3:s3.heap.objs.size=D+1:=by rw[e3,Heap.size_push,hDD]
 have lt3:∀ b∈fp,b < s3.heap.objs.size:=fun b hb=>by have q:=lt2 b hb;rw[sz3];rw[hDD]at q;exact Nat.lt_succ_of_lt q
 have old:∀ b o,s3.heap.get? b=some o→h₁.get? b=some o:=fun b o eb=>by
  have hb:b < D+1:=by rw[←sz3];exact Heap.lt_size eb
  refine hsb₁.extBut b o ?_ (Heap.get?_push_of_some _ (by rw[←e3];exact eb))
  rw[Heap.size_push,hDD]
  exact Nat.ne_of_lt hb
 have szC:(s2.heap.push { cls:=.type "list",data:=.seq ([]:List Value).toArray }).objs.size=s3.heap.objs.size:=by rw[e3]
 have os3:s3.os=s2.os:=by rw[←hs3]
 rw[szC]at hns₁ hsb₁
 have I4:Inv (au X N' scope cl fp s3 H3) [] (List.replicate L none++fvs σ ix) H3 { s3 with heap:=h₁,toks:=s2.toks+([]:List (Str × Value)).length }:=zcZ I3 C hkind f3 lt3 hlen hix hns₁ old
 have st4:tn 0 h₁:=T.keep 0 _ _ st2 fun b hb o eb=>old b o (by rw[e3];exact Heap.get?_push_of_some _ eb)
 have stat:∀ {H':Hp},(∀ b∈fp,H' b=none)→∀ b∈fp,zbl (au X N' scope cl fp s3 H3) [] H' b:=fun hn b hb =>
  ⟨hn b hb,Nat.ne_of_lt (lt3 b hb),fun hs'=>(zbc (N':=N') I3 C hkind f3 lt3).exfs b hb hs',.inl hb,fun y c hy=>((zbc (N':=N') I3 C hkind f3 lt3).exf b hb).2 y c hy,fun p hp=>absurd (show p∈([]:List (Addr × Obj)) from hp) (by simp)⟩
 have loop:∀ s4:Shared,s4={ s3 with heap:=h₁,toks:=s2.toks+([]:List (Str × Value)).length } →
   codeAny (model X.prog X.w) X.A (.compLoop (.ListComp elt [⟨tg,iter,[],0⟩] scope pos) 0 (.ref it) (.ref D) (compEnvC scope cl s3.heap.objs.size X.env))
    (compPost (model X.prog X.w) X.A X.xe (some (assign (.Name y0 py) X.env)) (fun _ s'=>∃ σ' H',Inv X pins σ' H' s'∧Dn.nx σ' H') (.ref D) s3.heap.objs.size) s4:=by
  rintro s4 rfl
  refine zc0 (fun n s'=>∃ i σ0 H' ys,σ0.length=L∧Inv (au X N' scope cl fp s3 H3) [] (σ0++fvs σ ix) H' s'∧tn i s'.heap∧(∀ b∈fp,H' b=none)∧W i n ys H') ?_ m0 ⟨0,List.replicate L none,H3,[],by simp,I4,st4,fun b hb=>(f3 b hb).1,w0⟩
  rintro n s5 ⟨i,σ0,H5,ys,hl0,I5,st5,fr5,w5⟩
  obtain⟨hD5,alt⟩:=turn i n ys H5 w5
  rcases alt with ⟨stop,q⟩ | ⟨go,step⟩
  ·refine thn (T.done (au X N' scope cl fp s3 H3) rfl rfl rfl hc i [] s5 _ H5 _ I5 (stat fr5) st5 stop) fun r s6 ⟨hr,I6⟩=>?_
   subst hr
   obtain⟨m,hn,_⟩:=I6.loc
   have Io:Inv X pins σ H5 s6:=zcA (h':=s6.heap) I3 I6 f3 ⟨rfl,fun _ _=>rfl⟩
   refine wpAny_assign_Name (zc4 (v:=.ref D) Io hNy hiy hy rfl (fun s7 I7 ⟨a,sb,ha⟩=>?_) hf)
   have ltC:∀ x c,X.env.cells.lookup x=some c→c < s3.heap.objs.size:=fun x c e=>by
    obtain⟨v,hv⟩:=I3.cell x c e
    exact hv.lt
   have hCa:s3.heap.objs.size≠a:=by
    rintro rfl
    rcases ha with z | z
    ·exact absurd I3.lt (by rw[←z];exact Nat.lt_irrefl _)
    ·exact absurd (ltC _ _ z) (Nat.lt_irrefl _)
   refine⟨m,hn.sameBut sb hCa,fun h' hsb=>⟨_,H5,?_,q⟩⟩
   exact I7.skip hsb I3.sz (Nat.ne_of_gt I3.lt) (fun x c e=>Nat.ne_of_lt (ltC x c e)) (fun p hp=>Nat.ne_of_lt (Heap.lt_size (I3.pin p hp).1)) I6.free
  ·refine thn (T.item (au X N' scope cl fp s3 H3) rfl rfl rfl hc i [] s5 _ H5 _ I5 (stat fr5) st5 go) fun r s6 ⟨u,hr,h6⟩=>?_
   subst hr
   refine thn h6 fun _ s7 ⟨y7,H7,I7,r7,yl7,st7,fr7⟩=>?_
   have I7':=I7.pinned (stat fr7) (T.obj _ _ st7)
   refine wpAny_mono (hg cl fp s3 H3 _ s7 _ H7 y7 u _ I7' r7 (step y7 H7 yl7 σ0 hl0)) (fun _ s8 h8=>?_) fun _ _ f=>False.elim f
   obtain⟨σ8',H8,I8,σ8,hl8,rfl,q8⟩:=h8
   refine wpAny_mono (he cl fp s3 H3 _ s8 _ H8 _ I8 q8) (fun yv s9 h9=>?_) fun _ _ f=>False.elim f
   obtain⟨y9,H9,I9,r9,hD9,hl9,m',hm',w9⟩:=h9
   refine wpAny_mono (zaH (X:=au X N' scope cl fp s3 H3) _ s9 _ H9 (.ref D) [y9] (.ref D) [yv] (fun _ H'=>H'=upd H9 D (.lst (ys++[y9]))) I9 rfl (.cons r9 .nil) ⟨D,ys,y9,rfl,rfl,hD9,hl9,rfl⟩) (fun _ s10 h10=>?_) fun _ _ f=>False.elim f
   obtain⟨_,H10,I10,_,rfl⟩:=h10
   refine⟨m',hm',i+1,σ8,_,ys++[y9],hl8,I10.unpinned,T.keep _ _ _ st7 fun b hb o eb=>(I10.pin (b,o) (List.mem_append_right _ (List.mem_append_right _ (zaP hb eb)))).1,fun b hb=>?_,w9⟩
   obtain⟨o,eb,d⟩:=T.obj _ _ st7 b hb
   exact(I10.pin (b,o) (List.mem_append_right _ (List.mem_append_right _ (zaP hb eb)))).2.1
 subst hs3
 have fin:=codeAny_compStart_list (loop _ rfl) (T.self X.A 0 _ _ _ st4 (loop _ rfl))
 exact fin
end
section
variable {X:Cx} {N':List Str} {scope:Scope} {elt iter c tg:Expr} {L:Nat} {pos:Pos} {wi:TI} {g:TG} {tc:TT} {te:TE} {ix:List Nat}
theorem zjv (hc:X.calm=true) (hkind:scope.kind=.function) (hcell:∀ y∈scope.names,y.2≠.cell) (hnames:∀ y∈scope.names,y.2=.local→scope.names.lookup y.1=some .local)
  (hclo:X.Ok→∃ cl,Clo X scope cl) (hlen:N'.length=L+ix.length)
  (hix:∀(j i:Nat),ix[j]?=some i→∃ y,X.N[i]?=some y∧N'[L+j]?=some y∧(X.env.kindOf y=some .cell∨X.env.kindOf y=some .free)∧((relabel scope X.env).names.lookup y=some .cell∨(relabel scope X.env).names.lookup y=some .free))
  (hi:PI X tg iter wi) (hg:∀ cl fp s₃ H₃,PG (au X N' scope cl fp s₃ H₃) tg g) (ht:∀ cl fp s₃ H₃,PT (au X N' scope cl fp s₃ H₃) c tc) (he:∀ cl fp s₃ H₃,PE (au X N' scope cl fp s₃ H₃) elt te) (hs:∀ v,foldedSetIterable iter X.env v=pure v:=by intro _;rfl) :
  PE X (.ListComp elt [⟨tg,iter,[c],0⟩] scope pos) (tLCIG wi L ix g tc te):=by
 intro pins s σ H Q I h
 obtain⟨cl,C⟩:=hclo I.ok
 rw[eval_ListComp]
 refine wpAny_comprehension_free (use:=none) rfl hs C.eq hkind hnames (thn (hi pins s σ H _ I h) fun v s1 h1=>thn h1 fun itv s2 h2=>?_)
 obtain⟨it,fp,tn,J,H2,e,I2,T,st2,f2,q2⟩:=h2
 subst e
 have hD:H2 s2.heap.objs.size=none:=I2.fresh
 obtain⟨W,⟨m0,w0⟩,turn⟩:=q2 s2.heap.objs.size hD
 refine wpAny_newObj_type (wpAny_newFunctionEnv hcell (by intro y hy;simp at hy) (fun h₁ hns₁ hsb₁=>?_) hkind)
 dsimp only at hns₁ hsb₁ ⊢
 have I3:Inv X pins σ (upd H2 s2.heap.objs.size (.lst [])) { s2 with heap:=s2.heap.push { cls:=.type "list",data:=.seq ([]:List Value).toArray },toks:=s2.toks }:=I2.lnew .nil (Nat.zero_le _)
 generalize hs3:({ s2 with heap:=s2.heap.push { cls:=.type "list",data:=.seq ([]:List Value).toArray },toks:=s2.toks }:Shared)=s3 at I3
 have e3:s3.heap=s2.heap.push { cls:=.type "list",data:=.seq ([]:List Value).toArray }:=by rw[←hs3]
 generalize hDD:s2.heap.objs.size=D at *
 generalize hH3:upd H2 D (.lst [])=H3 at *
 have lt2:∀ b∈fp,b < s2.heap.objs.size:=fun b hb=>by
  obtain⟨o,ho,_⟩:=T.obj 0 _ st2 b hb
  exact Heap.lt_size ho
 have neD:∀ b∈fp,b≠D:=fun b hb=>by rw[←hDD];exact Nat.ne_of_lt (lt2 b hb)
 have f3:∀ b∈fp,zbl X pins H3 b:=fun b hb=>⟨by rw[←hH3,ap (neD b hb)];exact(f2 b hb).1,(f2 b hb).2⟩
 have sz3:s3.heap.objs.size=D+1:=by rw[e3,Heap.size_push,hDD]
 have lt3:∀ b∈fp,b < s3.heap.objs.size:=fun b hb=>by have q:=lt2 b hb;rw[sz3];rw[hDD]at q;exact Nat.lt_succ_of_lt q
 have old:∀ b o,s3.heap.get? b=some o→h₁.get? b=some o:=fun b o eb=>by
  have hb:b < D+1:=by rw[←sz3];exact Heap.lt_size eb
  refine hsb₁.extBut b o ?_ (Heap.get?_push_of_some _ (by rw[←e3];exact eb))
  rw[Heap.size_push,hDD]
  exact Nat.ne_of_lt hb
 have szC:(s2.heap.push { cls:=.type "list",data:=.seq ([]:List Value).toArray }).objs.size=s3.heap.objs.size:=by rw[e3]
 rw[szC]at hns₁ hsb₁
 have I4:Inv (au X N' scope cl fp s3 H3) [] (List.replicate L none++fvs σ ix) H3 { s3 with heap:=h₁,toks:=s2.toks+([]:List (Str × Value)).length }:=zcZ I3 C hkind f3 lt3 hlen hix hns₁ old
 have st4:tn 0 h₁:=T.keep 0 _ _ st2 fun b hb o eb=>old b o (by rw[e3];exact Heap.get?_push_of_some _ eb)
 have stat:∀ {H':Hp},(∀ b∈fp,H' b=none)→∀ b∈fp,zbl (au X N' scope cl fp s3 H3) [] H' b:=fun hn b hb =>
  ⟨hn b hb,Nat.ne_of_lt (lt3 b hb),fun hs'=>(zbc (N':=N') I3 C hkind f3 lt3).exfs b hb hs',.inl hb,fun y c hy=>((zbc (N':=N') I3 C hkind f3 lt3).exf b hb).2 y c hy,fun p hp=>absurd (show p∈([]:List (Addr × Obj)) from hp) (by simp)⟩
 have loop:∀ s4:Shared,s4={ s3 with heap:=h₁,toks:=s2.toks+([]:List (Str × Value)).length } →
   codeAny (model X.prog X.w) X.A (.compLoop (.ListComp elt [⟨tg,iter,[c],0⟩] scope pos) 0 (.ref it) (.ref D) (compEnvC scope cl s3.heap.objs.size X.env))
    (compPost (model X.prog X.w) X.A X.xe none (EP X pins σ Q) (.ref D) s3.heap.objs.size) s4:=by
  rintro s4 rfl
  refine zdH (fun n s'=>∃ i σ0 H' ys,σ0.length=L∧Inv (au X N' scope cl fp s3 H3) [] (σ0++fvs σ ix) H' s'∧tn i s'.heap∧(∀ b∈fp,H' b=none)∧W i n ys H') ?_ m0 ⟨0,List.replicate L none,H3,[],by simp,I4,st4,fun b hb=>(f3 b hb).1,w0⟩
  rintro n s5 ⟨i,σ0,H5,ys,hl0,I5,st5,fr5,w5⟩
  obtain⟨hD5,alt⟩:=turn i n ys H5 w5
  rcases alt with ⟨stop,q⟩ | ⟨go,step⟩
  ·refine thn (T.done (au X N' scope cl fp s3 H3) rfl rfl rfl hc i [] s5 _ H5 _ I5 (stat fr5) st5 stop) fun r s6 ⟨hr,I6⟩=>?_
   subst hr
   obtain⟨m,hn,_⟩:=I6.loc
   exact⟨m,hn,fun h' hsb=>⟨.ref D,H5,zcA I3 I6 f3 hsb,rfl,q⟩⟩
  ·refine thn (T.item (au X N' scope cl fp s3 H3) rfl rfl rfl hc i [] s5 _ H5 _ I5 (stat fr5) st5 go) fun r s6 ⟨u,hr,h6⟩=>?_
   subst hr
   refine thn h6 fun _ s7 ⟨y7,H7,I7,r7,yl7,st7,fr7⟩=>?_
   have I7':=I7.pinned (stat fr7) (T.obj _ _ st7)
   refine wpAny_mono (hg cl fp s3 H3 _ s7 _ H7 y7 u _ I7' r7 (step y7 H7 yl7 σ0 hl0)) (fun _ s8 h8=>?_) fun _ _ f=>False.elim f
   obtain⟨σ8',H8,I8,σ8,hl8,rfl,q8⟩:=h8
   have fin:∀ {σ9:St} {H9:Hp} {s9:Shared} {zs:List V} {m':Nat},σ9.length=L→Inv (au X N' scope cl fp s3 H3) ([]++zdo fp s7.heap) (σ9++fvs σ ix) H9 s9→m' < n→W (i+1) m' zs H9→∃ m,m < n∧∃ i σ0 H' ys,σ0.length=L∧Inv (au X N' scope cl fp s3 H3) [] (σ0++fvs σ ix) H' s9∧tn i s9.heap∧(∀ b∈fp,H' b=none)∧W i m ys H':=fun {σ9 H9 s9 zs m'} hl9 I9 hm' w9=>by
    refine⟨m',hm',i+1,σ9,H9,zs,hl9,I9.unpinned,T.keep _ _ _ st7 fun b hb o eb=>(I9.pin (b,o) (List.mem_append_right _ (List.mem_append_right _ (zaP hb eb)))).1,fun b hb=>?_,w9⟩
    obtain⟨o,eb,d⟩:=T.obj _ _ st7 b hb
    exact(I9.pin (b,o) (List.mem_append_right _ (List.mem_append_right _ (zaP hb eb)))).2.1
   refine wpAny_mono (ht cl fp s3 H3 _ s8 _ H8 _ I8 q8) (fun b s9 h9=>?_) fun _ _ f=>False.elim f
   obtain⟨H9,I9,q9⟩:=h9
   cases b with
   | false =>
    obtain⟨m',hm',w9⟩:=q9
    exact fin hl8 I9 hm' w9
   | true =>
    refine wpAny_mono (he cl fp s3 H3 _ s9 _ H9 _ I9 q9) (fun yv s10 h10=>?_) fun _ _ f=>False.elim f
    obtain⟨y10,H10,I10,r10,hD10,hl10,m',hm',w10⟩:=h10
    refine wpAny_mono (zaH (X:=au X N' scope cl fp s3 H3) _ s10 _ H10 (.ref D) [y10] (.ref D) [yv] (fun _ H'=>H'=upd H10 D (.lst (ys++[y10]))) I10 rfl (.cons r10 .nil) ⟨D,ys,y10,rfl,rfl,hD10,hl10,rfl⟩) (fun _ s11 h11=>?_) fun _ _ f=>False.elim f
    obtain⟨_,H11,I11,_,rfl⟩:=h11
    exact fin hl8 I11 hm' w10
 subst hs3
 have fin:=codeAny_compStart_list (loop _ rfl) (T.self X.A 0 _ _ _ st4 (loop _ rfl))
 exact fin
theorem zfO {i:Nat} {y0:Str} {py spos:Pos} (hNy:X.N.Nodup) (hiy:X.N[i]?=some y0) (hy:Loc X.env.scope y0) (hc:X.calm=true) (hkind:scope.kind=.function) (hcell:∀ y∈scope.names,y.2≠.cell) (hnames:∀ y∈scope.names,y.2=.local→scope.names.lookup y.1=some .local)
  (hclo:X.Ok→∃ cl,Clo X scope cl) (hlen:N'.length=L+ix.length)
  (hix:∀(j i:Nat),ix[j]?=some i→∃ y,X.N[i]?=some y∧N'[L+j]?=some y∧(X.env.kindOf y=some .cell∨X.env.kindOf y=some .free)∧((relabel scope X.env).names.lookup y=some .cell∨(relabel scope X.env).names.lookup y=some .free))
  (hi:PI X tg iter wi) (hg:∀ cl fp s₃ H₃,PG (au X N' scope cl fp s₃ H₃) tg g) (ht:∀ cl fp s₃ H₃,PT (au X N' scope cl fp s₃ H₃) c tc) (he:∀ cl fp s₃ H₃,PE (au X N' scope cl fp s₃ H₃) elt te) (hsw:swapsWith (.ListComp elt [⟨tg,iter,[c],0⟩] scope pos) (some (.Name y0 py)) spos.line X.env=pure true:=by rfl)
  (hf:X.fn y0=true∨X.env.scope.names.lookup y0=some .local:=by first | exact .inl rfl | exact .inr rfl | assumption) (hs:∀ v,foldedSetIterable iter X.env v=pure v:=by intro _;rfl) :
  PS X (.Assign [.Name y0 py] (.ListComp elt [⟨tg,iter,[c],0⟩] scope pos) spos) (tAsg (tLCIG wi L ix g tc te) (zde i)):=by
 intro pins s σ H Dn I h
 obtain⟨cl,C⟩:=hclo I.ok
 rw[exec_Assign_Name_used _ _ _ _ hsw]
 refine wpAny_bind (wpAny_standAt (wpAny_bind ?_))
 rw[arm_evalThenUse_ListComp]
 refine wpAny_bind (wpAny_mono (wpAny_comprehension_free (use:=some (assign (.Name y0 py) X.env)) (Q:=fun _ s'=>∃ σ' H',Inv X pins σ' H' s'∧Dn.nx σ' H') rfl hs C.eq hkind hnames (thn (hi pins s σ H _ I h) fun v s1 h1=>thn h1 fun itv s2 h2=>?_)) (fun _ s' h'=>wpAny_pure (wpAny_pure h')) fun _ _ z=>z)
 obtain⟨it,fp,tn,J,H2,e,I2,T,st2,f2,q2⟩:=h2
 subst e
 have hD:H2 s2.heap.objs.size=none:=I2.fresh
 obtain⟨W,⟨m0,w0⟩,turn⟩:=q2 s2.heap.objs.size hD
 refine wpAny_newObj_type (wpAny_newFunctionEnv hcell (by intro y hy;simp at hy) (fun h₁ hns₁ hsb₁=>?_) hkind)
 dsimp only at hns₁ hsb₁ ⊢
 have I3:Inv X pins σ (upd H2 s2.heap.objs.size (.lst [])) { s2 with heap:=s2.heap.push { cls:=.type "list",data:=.seq ([]:List Value).toArray },toks:=s2.toks }:=I2.lnew .nil (Nat.zero_le _)
 generalize hs3:({ s2 with heap:=s2.heap.push { cls:=.type "list",data:=.seq ([]:List Value).toArray },toks:=s2.toks }:Shared)=s3 at I3
 have e3:s3.heap=s2.heap.push { cls:=.type "list",data:=.seq ([]:List Value).toArray }:=by rw[←hs3]
 generalize hDD:s2.heap.objs.size=D at *
 generalize hH3:upd H2 D (.lst [])=H3 at *
 have lt2:∀ b∈fp,b < s2.heap.objs.size:=fun b hb=>by
  obtain⟨o,ho,_⟩:=T.obj 0 _ st2 b hb
  exact Heap.lt_size ho
 have neD:∀ b∈fp,b≠D:=fun b hb=>by rw[←hDD];exact Nat.ne_of_lt (lt2 b hb)
 have f3:∀ b∈fp,zbl X pins H3 b:=fun b hb=>⟨by rw[←hH3,ap (neD b hb)];exact(f2 b hb).1,(f2 b hb).2⟩
 have sz3:s3.heap.objs.size=D+1:=by rw[e3,Heap.size_push,hDD]
 have lt3:∀ b∈fp,b < s3.heap.objs.size:=fun b hb=>by have q:=lt2 b hb;rw[sz3];rw[hDD]at q;exact Nat.lt_succ_of_lt q
 have old:∀ b o,s3.heap.get? b=some o→h₁.get? b=some o:=fun b o eb=>by
  have hb:b < D+1:=by rw[←sz3];exact Heap.lt_size eb
  refine hsb₁.extBut b o ?_ (Heap.get?_push_of_some _ (by rw[←e3];exact eb))
  rw[Heap.size_push,hDD]
  exact Nat.ne_of_lt hb
 have szC:(s2.heap.push { cls:=.type "list",data:=.seq ([]:List Value).toArray }).objs.size=s3.heap.objs.size:=by rw[e3]
 rw[szC]at hns₁ hsb₁
 have I4:Inv (au X N' scope cl fp s3 H3) [] (List.replicate L none++fvs σ ix) H3 { s3 with heap:=h₁,toks:=s2.toks+([]:List (Str × Value)).length }:=zcZ I3 C hkind f3 lt3 hlen hix hns₁ old
 have st4:tn 0 h₁:=T.keep 0 _ _ st2 fun b hb o eb=>old b o (by rw[e3];exact Heap.get?_push_of_some _ eb)
 have stat:∀ {H':Hp},(∀ b∈fp,H' b=none)→∀ b∈fp,zbl (au X N' scope cl fp s3 H3) [] H' b:=fun hn b hb =>
  ⟨hn b hb,Nat.ne_of_lt (lt3 b hb),fun hs'=>(zbc (N':=N') I3 C hkind f3 lt3).exfs b hb hs',.inl hb,fun y c hy=>((zbc (N':=N') I3 C hkind f3 lt3).exf b hb).2 y c hy,fun p hp=>absurd (show p∈([]:List (Addr × Obj)) from hp) (by simp)⟩
 have loop:∀ s4:Shared,s4={ s3 with heap:=h₁,toks:=s2.toks+([]:List (Str × Value)).length } →
   codeAny (model X.prog X.w) X.A (.compLoop (.ListComp elt [⟨tg,iter,[c],0⟩] scope pos) 0 (.ref it) (.ref D) (compEnvC scope cl s3.heap.objs.size X.env))
    (compPost (model X.prog X.w) X.A X.xe (some (assign (.Name y0 py) X.env)) (fun _ s'=>∃ σ' H',Inv X pins σ' H' s'∧Dn.nx σ' H') (.ref D) s3.heap.objs.size) s4:=by
  rintro s4 rfl
  refine zdH (fun n s'=>∃ i σ0 H' ys,σ0.length=L∧Inv (au X N' scope cl fp s3 H3) [] (σ0++fvs σ ix) H' s'∧tn i s'.heap∧(∀ b∈fp,H' b=none)∧W i n ys H') ?_ m0 ⟨0,List.replicate L none,H3,[],by simp,I4,st4,fun b hb=>(f3 b hb).1,w0⟩
  rintro n s5 ⟨i,σ0,H5,ys,hl0,I5,st5,fr5,w5⟩
  obtain⟨hD5,alt⟩:=turn i n ys H5 w5
  rcases alt with ⟨stop,q⟩ | ⟨go,step⟩
  ·refine thn (T.done (au X N' scope cl fp s3 H3) rfl rfl rfl hc i [] s5 _ H5 _ I5 (stat fr5) st5 stop) fun r s6 ⟨hr,I6⟩=>?_
   subst hr
   obtain⟨m,hn,_⟩:=I6.loc
   have Io:Inv X pins σ H5 s6:=zcA (h':=s6.heap) I3 I6 f3 ⟨rfl,fun _ _=>rfl⟩
   refine wpAny_assign_Name (zc4 (v:=.ref D) Io hNy hiy hy rfl (fun s7 I7 ⟨a,sb,ha⟩=>?_) hf)
   have ltC:∀ x c,X.env.cells.lookup x=some c→c < s3.heap.objs.size:=fun x c e=>by
    obtain⟨v,hv⟩:=I3.cell x c e
    exact hv.lt
   have hCa:s3.heap.objs.size≠a:=by
    rintro rfl
    rcases ha with z | z
    ·exact absurd I3.lt (by rw[←z];exact Nat.lt_irrefl _)
    ·exact absurd (ltC _ _ z) (Nat.lt_irrefl _)
   refine⟨m,hn.sameBut sb hCa,fun h' hsb=>⟨_,H5,?_,q⟩⟩
   exact I7.skip hsb I3.sz (Nat.ne_of_gt I3.lt) (fun x c e=>Nat.ne_of_lt (ltC x c e)) (fun p hp=>Nat.ne_of_lt (Heap.lt_size (I3.pin p hp).1)) I6.free
  ·refine thn (T.item (au X N' scope cl fp s3 H3) rfl rfl rfl hc i [] s5 _ H5 _ I5 (stat fr5) st5 go) fun r s6 ⟨u,hr,h6⟩=>?_
   subst hr
   refine thn h6 fun _ s7 ⟨y7,H7,I7,r7,yl7,st7,fr7⟩=>?_
   have I7':=I7.pinned (stat fr7) (T.obj _ _ st7)
   refine wpAny_mono (hg cl fp s3 H3 _ s7 _ H7 y7 u _ I7' r7 (step y7 H7 yl7 σ0 hl0)) (fun _ s8 h8=>?_) fun _ _ f=>False.elim f
   obtain⟨σ8',H8,I8,σ8,hl8,rfl,q8⟩:=h8
   have fin:∀ {σ9:St} {H9:Hp} {s9:Shared} {zs:List V} {m':Nat},σ9.length=L→Inv (au X N' scope cl fp s3 H3) ([]++zdo fp s7.heap) (σ9++fvs σ ix) H9 s9→m' < n→W (i+1) m' zs H9→∃ m,m < n∧∃ i σ0 H' ys,σ0.length=L∧Inv (au X N' scope cl fp s3 H3) [] (σ0++fvs σ ix) H' s9∧tn i s9.heap∧(∀ b∈fp,H' b=none)∧W i m ys H':=fun {σ9 H9 s9 zs m'} hl9 I9 hm' w9=>by
    refine⟨m',hm',i+1,σ9,H9,zs,hl9,I9.unpinned,T.keep _ _ _ st7 fun b hb o eb=>(I9.pin (b,o) (List.mem_append_right _ (List.mem_append_right _ (zaP hb eb)))).1,fun b hb=>?_,w9⟩
    obtain⟨o,eb,d⟩:=T.obj _ _ st7 b hb
    exact(I9.pin (b,o) (List.mem_append_right _ (List.mem_append_right _ (zaP hb eb)))).2.1
   refine wpAny_mono (ht cl fp s3 H3 _ s8 _ H8 _ I8 q8) (fun b s9 h9=>?_) fun _ _ f=>False.elim f
   obtain⟨H9,I9,q9⟩:=h9
   cases b with
   | false =>
    obtain⟨m',hm',w9⟩:=q9
    exact fin hl8 I9 hm' w9
   | true =>
    refine wpAny_mono (he cl fp s3 H3 _ s9 _ H9 _ I9 q9) (fun yv s10 h10=>?_) fun _ _ f=>False.elim f
    obtain⟨y10,H10,I10,r10,hD10,hl10,m',hm',w10⟩:=h10
    refine wpAny_mono (zaH (X:=au X N' scope cl fp s3 H3) _ s10 _ H10 (.ref D) [y10] (.ref D) [yv] (fun _ H'=>H'=upd H10 D (.lst (ys++[y10]))) I10 rfl (.cons r10 .nil) ⟨D,ys,y10,rfl,rfl,hD10,hl10,rfl⟩) (fun _ s11 h11=>?_) fun _ _ f=>False.elim f
    obtain⟨_,H11,I11,_,rfl⟩:=h11
    exact fin hl8 I11 hm' w10
 subst hs3
 have fin:=codeAny_compStart_list (loop _ rfl) (T.self X.A 0 _ _ _ st4 (loop _ rfl))
 exact fin
end
theorem zf7 {J:It} {n:Nat} {Ok:Hp→Prop} {L:Nat} {g:TG} {tc:TT} {te:TE} {fv:St} {H1:Hp} {D:Addr} {R:Hp→Prop} (W:Wk J n Ok) (Pv:Nat→List V→Hp→Prop) (hok:∀ i ys H,Pv i ys H→Ok H) (h0:Pv 0 [] (upd H1 D (.lst [])))
  (turn:∀ i ys H x H',i < n→ys.length≤i→H D=some (.lst ys)→Pv i ys H→J.yld i H x H'→∀ σ0:St,σ0.length=L→g x (σ0++fv) H' fun σ' H2=>∃ σ1:St,σ1.length=L∧σ'=σ1++fv∧tc σ' H2 fun b H3=>if b=true then te σ' H3 (zfM n D Pv i ys) else zgC n D Pv i ys H3)
  (fin:∀ ys H,H D=some (.lst ys)→Pv n ys H→R H) :
  ∃ W:Nat→Nat→List V→Hp→Prop,(∃ m,W 0 m [] (upd H1 D (.lst [])))∧∀ i m ys H',W i m ys H'→H' D=some (.lst ys) ∧
   ((J.stop i H'∧R H')∨(J.go i H'∧∀ x H'',J.yld i H' x H''→∀ σ0:St,σ0.length=L→g x (σ0++fv) H'' fun σ' H2=>∃ σ1:St,σ1.length=L∧σ'=σ1++fv∧tc σ' H2 fun b H3 =>
    if b=true then te σ' H3 fun y H4=>H4 D=some (.lst ys)∧ys.length < sizeLine∧∃ m',m' < m∧W (i+1) m' (ys++[y]) (upd H4 D (.lst (ys++[y])))
    else ∃ m',m' < m∧W (i+1) m' ys H3)):=by
 refine⟨LcW n D Pv,⟨n,rfl,Nat.zero_le _,Nat.zero_le _,ae,h0⟩,?_⟩
 rintro i m ys H' ⟨rfl,hin,hl,hD,p⟩
 refine⟨hD,?_⟩
 rcases Nat.lt_or_ge i n with hlt | hge
 ·exact .inr ⟨W.go i H' (hok i ys H' p) hlt,fun x H'' y σ0 h0=>turn i ys H' x H'' hlt hl hD p y σ0 h0⟩
 ·have e:i=n:=Nat.le_antisymm hin hge
  subst e
  exact .inl ⟨W.stop i H' (hok i ys H' p) (Nat.le_refl _),fin ys H' hD p⟩
end L2
namespace L2
open PySem PySem.Spec PyProof.Rows
theorem Inv.turnedLaid {X:Cx} {pins:List (Addr × Obj)} {σ:St} {H:Hp} {s:Shared} {h':Heap} {fp:List Addr} {a:Addr} {o:HO} {t':Nat} (I:Inv X pins σ H s) (hf:∀ b∈fp,zbl X pins H b) (k:∀ b u,b∉fp→s.heap.get? b=some u→h'.get? b=some u) (hp:s.heap.objs.size≤a) (new:zaL X.prog X.w (upd H a o) h' a o) :
  Inv X pins σ (upd H a o) { s with heap:=h',toks:=t' }:=by
 have hn:=I.hok.fresh hp
 have nfp:∀ b u,H b=some u→b∉fp:=fun b u e z=>by rw[(hf b z).1]at e;cases e
 have un:Un (frs X.stack) fp H (upd H a o) s.heap h':=⟨fun b u q _ _ hx=>k b u hx q,fun b u q _ _ hx=>⟨u.slots,k b u hx q⟩,fun b u q n _=>by rw[ap (Nat.ne_of_lt (Nat.lt_of_lt_of_le (Heap.lt_size q) hp))];exact n,
  fun b u q hx=>⟨u,k b u hx q⟩,fun b xs q=>by rw[ap (zaB q hn)];exact q,fun b u xs q=>by rw[ap (zaB q hn)];exact q,fun b ps q=>⟨#[],by rw[ap (zaB q hn),q];simp⟩⟩
 have hok:HOk X.prog X.w (upd H a o) h':=fun b u e=>by
  by_cases hb:b=a
  ·subst hb;rw[ae]at e;cases e;exact new
  ·rw[ap hb]at e
   refine(I.hok b u e).stay (fun c v hc q=>k c v ?_ q) (fun c q=>by rw[ap (zaB q hn)];exact q) fun c xs q=>by rw[ap (zaB q hn)];exact q
   rcases hc with z | z
   ·rw[z];exact nfp b u e
   ·exact nfp c _ z
 exact I.call (g':=s.gens) (d':=s.drawn) (ch:=fp) un hok I.bare fun b hb=>⟨(hf b hb).2.2.2.1,(hf b hb).2.1,(hf b hb).2.2.2.2.1,(hf b hb).2.2.2.2.2⟩
def Ite (K:W.Frag) (a:Addr):It :=
 ⟨fun i H=>∃ xs x,SqL K H a xs∧xs[i]?=some x,fun i H x H'=>∃ p y,x=.ref p∧H p=none∧H'=upd H p (.tup [.int i,y])∧∀ xs,SqL K H a xs→xs[i]?=some y,fun i H=>∃ xs,SqL K H a xs∧xs.length≤i⟩
theorem zeS {K:W.Frag} {a:Addr} {xs:List V}:Wk (Ite K a) xs.length (fun H=>SqL K H a xs):=⟨fun _ _ h hi=>⟨xs,h,hi⟩,fun i _ h hi=>⟨xs,xs[i],h,by simp [hi]⟩⟩
theorem zh8 {P:Program} {w:World} {K:W.Frag} {elts:List Expr} {x1:Nat} {pos:Pos} (a e it:Addr) (hei:e≠it):Turn P w K (.Tuple elts x1 pos) (Ite K a) [e,it] e (fun i h=>(∃ old,IsEnum h e it ((i:Nat):Int) old)∧h.IsListIter it a i) where
 mem:=by simp
 obj:=fun i h st b hb=>by
  obtain⟨⟨old,he⟩,o,ho,hc,hd⟩:=st
  rcases List.mem_cons.mp hb with rfl | hb
  ·exact⟨_,he,fun v z=>by
    have z':Data.fields _=Data.cell v:=z
    cases z'⟩
  ·have e':=List.mem_singleton.mp hb
   subst e'
   exact⟨o,ho,fun v z=>by rw[hd]at z;cases z⟩
 keep:=fun i h h' st k=>⟨by
  obtain⟨old,he⟩:=st.1
  exact⟨old,k e (by simp) _ he⟩,st.2.at fun o q=>k it (by simp) o q⟩
 item:=by
  intro X hP hw hK hc i pins s σ H E I hf st hg
  subst hP hw hK
  obtain⟨xs,x,hq,hx⟩:=hg
  obtain⟨its,rv,p,hz⟩:=I.list hq
  obtain⟨u,hu,ru⟩:=rv.get hx
  obtain⟨⟨old,he⟩,hit⟩:=st
  obtain⟨oi,hoi,hci,hdi⟩:=id hit
  refine wpAny_pyNext_enum_item he hit p.isList (x:=u) (by simpa using hu) hei fun h' ho st' hT hsz hk=>?_
  refine⟨_,rfl,wpAny_letOwnedTupleGo_enum ho fun h2 he2 hs2=>?_⟩
  replace hs2:Heap.SameBut e h' h2:=hs2
  have heH:e < s.heap.objs.size:=Heap.lt_size he
  have hiH:it < s.heap.objs.size:=Heap.lt_size hoi
  have hT2:h2.get? s.heap.objs.size=some { cls:=.type "tuple",data:=.seq #[.int i s.toks,u] }:=(hs2.2 _ (Nat.ne_of_gt heH)).trans hT
  have kk:∀ b o,b∉[e,it]→s.heap.get? b=some o→h2.get? b=some o:=fun b o hb q=>by
   have hbe:b≠e:=fun z=>hb (by simp [z])
   have hbi:b≠it:=fun z=>hb (by simp [z])
   exact(hs2.2 b hbe).trans (hk b o hbe hbi q)
  have new:zaL X.prog X.w (upd H s.heap.objs.size (.tup [.int i,x])) h2 s.heap.objs.size (.tup [.int i,x]):=by
   refine⟨?_,[.int i s.toks,u],.cons ⟨_,rfl⟩ (.cons ru .nil),_,hT2,?_⟩
   ·exact Nat.le_of_lt (zaU (show 2≤1000 by decide))
   ·first | exact⟨rfl,rfl,_,rfl⟩ | exact⟨rfl,_,rfl⟩ | exact⟨rfl,rfl⟩
  refine⟨.ref s.heap.objs.size,_,I.turnedLaid (t':=s.toks+1) hf kk (Nat.le_refl _) new,rfl,⟨_,x,rfl,I.fresh,rfl,fun ys hy=>by rw[I.list_inj hy hq];exact hx⟩,⟨⟨u,by simpa using he2⟩,?_⟩,?_⟩
  ·exact st'.at fun o q=>(hs2.2 it (Ne.symm hei)).trans q
  ·intro b hb
   have hlt':b < s.heap.objs.size:=by
    rcases List.mem_cons.mp hb with rfl | hb
    ·exact heH
    ·rw[List.mem_singleton.mp hb];exact hiH
   rw[ap (Nat.ne_of_lt hlt')]
   exact(hf b hb).1
 done:=by
  intro X hP hw hK hc i pins s σ H E I hf st hg
  subst hP hw hK
  obtain⟨xs,hq,hx⟩:=hg
  obtain⟨its,rv,p,hz⟩:=I.list hq
  obtain⟨⟨old,he⟩,hit⟩:=st
  obtain⟨f0,f1,f2,f3,f4,f5⟩:=hf it (by simp)
  have hl:=rv.length
  exact wpAny_pyNext_enum_end (I.ok.hd hc) he hit p.isList (by simp;omega) fun h' eb=>⟨rfl,I.turned (t':=s.toks) (fun b o hb q=>eb b o hb q) f0 f1 f3 f4 f5⟩
 self:=fun _ _ _ _ _ st h=>by
  obtain⟨⟨old,he⟩,_⟩:=st
  exact wpAny_pyIter_enum he h
section
variable {X:Cx}
def iEnum (K:W.Frag) (ta:TA):TI:=fun σ H R=>ta σ H fun vs H1=>∃ a,vs=[.ref a]∧(∃ xs,SqL K H1 a xs)∧R (Ite K a) H1
theorem ze0 {elts:List Expr} {x1:Nat} {pt:Pos} {a:Expr} {ta:TA} {p pos:Pos} (hg:Gl X "enumerate") (hm:X.mg "enumerate"=none) (ha:PA X [a] ta) (hs:starEach [a] X.env=[(false,eval a X.env)]:=by rfl):PI X (.Tuple elts x1 pt) (.Call (.Name "enumerate" p) [a] [] pos) (iEnum X.K ta):=by
 intro pins s σ H R I h
 refine Call_ (zcI I hg hm boot_enumerate (PyProof.Rows.callWith_type1 (thn (ha pos pins s σ H _ I h) fun us s1 ⟨vs,H1,I1,r1,q1⟩=>?_) hs rfl))
 obtain⟨a,e,⟨xs,hq⟩,q⟩:=q1
 subst e
 obtain⟨u,rfl,ru⟩:=r1.one
 cases ru
 obtain⟨its,rv,p,hz⟩:=I1.list hq
 refine call_enumerate_list p.isList fun h' he hit hz' kk=>?_
 refine wpAny_pyIter_enum he ?_
 have I2:Inv X pins σ H1 { s1 with heap:=h' }:=I1.kept (t':=s1.toks) kk
 refine⟨_,[s1.heap.objs.size+1,s1.heap.objs.size],_,Ite X.K a,H1,rfl,I2,zh8 a (s1.heap.objs.size+1) s1.heap.objs.size (Nat.succ_ne_self _),⟨⟨_,he⟩,hit⟩,fun b hb=>?_,q⟩
 have hle:s1.heap.objs.size≤b:=by
  rcases List.mem_cons.mp hb with rfl | hb
  ·omega
  ·rw[List.mem_singleton.mp hb];exact Nat.le_refl _
 exact I1.fpOk hle (I1.hok.fresh hle)
theorem ze1 {pos:Pos} {es:List Expr} {k:Nat} {t:TGs} (n:Nat) (K:W.Frag) (hK:X.K=K) (hc:X.calm=true) (h:PGs X es t)
  (hn:(assignEach es X.env).length=n:=by rfl) (hst:(assignEach es X.env).findIdx? (·.1)=none:=by rfl):PG X (.Tuple es k pos) (gTup K n t):=by
 subst hK
 exact zdp hc h hn hst
theorem zgU:zbS X (.builtin "isinstance") (fun xs H Q=>∃ p ys n b,xs=[.ref p,.ty n]∧SqT X.K H p ys∧W.kitOne X.K (.type "tuple") (.type n)=some b∧Q (.bl b) H):=by
 intro pins s σ H xs us Q I r h
 obtain⟨p,ys,n,b,rfl,hq,hk,q⟩:=h
 obtain⟨u,w',rfl,rx,ry⟩:=zdI r
 cases (show w'=Value.type n from ry)
 cases rx
 obtain⟨its,rv,⟨o,h1,h2,_⟩,hz⟩:=I.tuple hq
 exact W.kia_one W.kitx_tuple I.kIn ⟨o,h1,h2⟩ hk (fun z=>nomatch z) fun tk=>⟨.bl b,H,I.tok _,rfl,q⟩
theorem zgV:zbS X (.builtin "isinstance") (fun xs H Q=>∃ p ys n b,xs=[.ref p,.ty n]∧SqL X.K H p ys∧W.kitOne X.K (.type "list") (.type n)=some b∧Q (.bl b) H):=by
 intro pins s σ H xs us Q I r h
 obtain⟨p,ys,n,b,rfl,hq,hk,q⟩:=h
 obtain⟨u,w',rfl,rx,ry⟩:=zdI r
 cases (show w'=Value.type n from ry)
 cases rx
 obtain⟨its,rv,pp,hz⟩:=I.list hq
 obtain⟨o,h1,h2,_⟩:=pp.isList
 exact W.kia_one W.kitx_list I.kIn ⟨o,h1,h2⟩ hk (fun z=>nomatch z) fun tk=>⟨.bl b,H,I.tok _,rfl,q⟩
end
end L2
namespace L2
open PySem
def left (U hs:List Int):Nat:=(U.filter fun p=>decide (p∉hs)).length
theorem za3 (a:Int) {b:Int} (h:0 < b):0≤a % b∧a % b < b:=⟨Int.emod_nonneg _ (by omega),Int.emod_lt_of_pos _ h⟩
structure TrOk (m:Int) (ts:List (Int × Int)):Prop where
 rng:∀ t∈ts,t.1≠0∧-m≤t.1∧t.1≤m
 con:∀ x∈ts.map Prod.fst,-x∉ts.map Prod.fst
theorem TrOk.nil {m:Int}:TrOk m []:=⟨fun _ h=>absurd h (by simp),fun _ h=>absurd h (by simp)⟩
def ins {α:Type} (xs:List α) (i:Nat) (y:α):List α:=xs.take i++y :: xs.drop i
def zaO (d:Addr) (H H':Hp):Prop:=∀ b o,b≠d→H b=some o→H' b=some o
theorem zaO.refl (d:Addr) (H:Hp):zaO d H H:=fun _ _ _ h=>h
theorem zaO.trans {d:Addr} {H H1 H2:Hp} (a:zaO d H H1) (b:zaO d H1 H2):zaO d H H2:=fun c o n h=>b c o n (a c o n h)
theorem aj.x {H H':Hp} (s:aj H H') (d:Addr):zaO d H H':=fun b o _ h=>s b o h
theorem zaO.put {d:Addr} (H:Hp) (o:HO):zaO d H (upd H d o):=fun b u n h=>by rw[ap n];exact h
theorem zaO.kt {d:Addr} {H H':Hp} {kvs:List (Key × V)} (s:zaO d H H') (h:H d=some (.dK kvs)):zam H H':=fun b us z=>by
 have nb:b≠d:=fun e=>by
  rw[e]at z
  rcases z with z | ⟨o,z⟩
  ·rw[h]at z;cases z
  ·rw[h]at z;cases z
 rcases z with z | ⟨o,z⟩
 ·exact .inl (s _ _ nb z)
 ·exact .inr ⟨o,s _ _ nb z⟩
theorem Dset.ne {H:Hp} {d l:Addr} {hs:List Int} {xs:List V} (h:Dset H d hs) (hl:H l=some (.lst xs)):l≠d:=fun e=>by
 obtain⟨kvs,hk,_⟩:=h.ex
 rw[e,hk]at hl
 cases hl
theorem zaO.lst {d l:Addr} {H H':Hp} {hs:List Int} {xs:List V} (s:zaO d H H') (h:Dset H d hs) (hl:H l=some (.lst xs)):H' l=some (.lst xs):=s _ _ (h.ne hl) hl
end L2
namespace L2
open PySem PySem.Spec PyProof.Rows
section
variable {X:Cx}
end
end L2
namespace L2
open PySem PySem.Spec PyProof.Rows
theorem zjO {k:Key} {u:Value} (h:zdd k u=true):ax (kV k) u:=by
 rcases za6 h with ⟨i,t,rfl,rfl⟩ | ⟨x,t,rfl,rfl⟩
 ·exact⟨t,rfl⟩
 ·exact⟨t,rfl⟩
section
variable {X:Cx} {tg:Expr}
end
end L2
namespace L2
open PySem PySem.Spec PyProof.Rows
set_option maxRecDepth 100000
section
variable {prog:Program} {w:World} {A:Around} {E:Value→Shared→Prop} {s:Shared} {J:Addr} {fp wr:List Addr} {G:Array GenState→Array GenState→Prop} {n:Nat} {P:Nat→Value→Prop} {St:Nat→Shared→Prop}
end
end L2
namespace L2
open PySem PySem.Spec PyProof.Rows
set_option maxRecDepth 100000
section
variable {prog:Program} {w:World} {A:Around} {R:Result→Shared→Prop} {J:Addr} {fp wr:List Addr} {n:Nat} {P:Nat→Value→Prop} {St:Nat→Heap→Prop} {kw:List (Str × Value)}
end
section
variable {prog:Program} {w:World} {A:Around} {E:Value→Shared→Prop} {s:Shared}
end
section
variable {X:Cx}
end
end L2
namespace HT
open PySem PyProof.Rows
section
variable {prog:Program} {w:World} {A:Around} {E:Value→Shared→Prop} {s:Shared}
end
end HT
namespace L2
open PySem PySem.Spec PyProof.Rows
section
variable {X:Cx}
end
end L2
namespace L2
open PySem PySem.Spec PyProof.Rows
section
variable {X:Cx} {tg:Expr}
end
end L2
namespace L2
open PySem PySem.Spec PyProof.Rows
set_option maxRecDepth 100000
section
variable {X:Cx}
end
end L2
namespace L2
open PySem PySem.Spec PyProof.Rows
set_option maxRecDepth 100000
section
variable {X:Cx}
def zjd (ta:TA):TE:=fun σ H Q=>ta σ H fun vs H1=>∃ j:Int,vs=[.int j]∧∀ r,H1 r=none→Q (.ref r) (upd H1 r (.rng 0 j))
theorem zc5 {a:Expr} {ta:TA} {p pos:Pos} (hg:Gl X "range") (hm:X.mg "range"=none) (ha:PA X [a] ta) (hs:starEach [a] X.env=[(false,eval a X.env)]:=by rfl):PE X (.Call (.Name "range" p) [a] [] pos) (zjd ta):=by
 intro pins s σ H Q I h
 refine Call_ (zcI I hg hm boot_range (PyProof.Rows.callWith_type1 (thn (ha pos pins s σ H _ I h) fun us s1 ⟨vs,H1,I1,r1,q1⟩=>?_) hs rfl))
 obtain⟨j,e,q⟩:=q1
 subst e
 cases r1 with
 | cons r rr =>
  cases rr
  obtain⟨t,rfl⟩:=r
  refine call_range_1 ?_
  refine⟨.ref s1.heap.objs.size,_,I1.laid (o:=.rng 0 j) (fun b ob e=>Heap.get?_push_of_some _ e) (Nat.le_refl _) ?_,rfl,q _ (I1.hok.fresh (Nat.le_refl _))⟩
  exact⟨_,_,_,Heap.get?_push_size _ rfl⟩
theorem zca (hc:X.calm=true):zbS X (.type "list") (fun xs H Q=>∃ r j,xs=[.ref r]∧H r=some (.rng 0 j)∧0≤j∧j≤100000∧∀ l,H l=none→Q (.ref l) (upd H l (.lst (((List.range j.toNat).map fun i:Nat=>(i:Int)).map V.int)))):=by
 intro pins s σ H xs us Q I r h
 obtain⟨r0,j,rfl,hr,j0,j1,q⟩:=h
 obtain⟨u,rfl,rx⟩:=zef r
 cases rx
 obtain⟨t1,t2,t3,e⟩:=I.hok r0 _ hr
 have en:Builtin.Range.rangeSize 0 j 1=((j.toNat:Nat):Int):=by rw[rangeSize_one];split <;> omega
 refine call_list_range (I.ok.hd hc) e (small_one (by omega) (by omega) (by omega) (by omega)) en (by omega) fun h' tk acc c kp e2 its=>?_
 have al:acc.toList.length=j.toNat:=by rw[Array.length_toList];exact its.1
 have rel:aw (((List.range j.toNat).map fun i:Nat=>(i:Int)).map V.int) acc.toList:=by
  have key:∀(n:Nat) (L:List Value) (o:Nat),L.length=n→(∀ i v,L[i]?=some v→∃ t,v=Value.int (0+(((o+i:Nat):Nat):Int) * 1) t)→aw (((List.range' o n).map fun i:Nat=>(i:Int)).map V.int) L:=by
   intro n
   induction n with
   | zero =>
    intro L o hl _
    cases L with
    | nil=>exact .nil
    | cons _ _=>cases hl
   | succ n ih =>
    intro L o hl hv
    match L,hl with
    | x :: L,hl =>
     refine .cons ?_ (ih L (o+1) (by simpa using hl) fun i v e=>?_)
     ·obtain⟨t,e⟩:=hv 0 x rfl
      exact⟨t,by rw[e];congr 1;show(0:Int)+((o+0:Nat):Int) * 1=(o:Int);omega⟩
     ·obtain⟨t,e'⟩:=hv (i+1) v e
      exact⟨t,by rw[e'];congr 1;omega⟩
  have:=key j.toNat acc.toList 0 al fun i v e=>by
   obtain⟨t,e'⟩:=its.2 i v (by rw[←Array.getElem?_toList];exact e)
   exact⟨t,by rw[e',Nat.zero_add]⟩
  rw[List.range_eq_range']
  exact this
 refine⟨.ref s.heap.objs.size,_,I.laid (t':=tk) kp (Nat.le_refl _) (show zaL X.prog X.w _ h' _ (.lst (((List.range j.toNat).map fun i:Nat=>(i:Int)).map V.int)) from⟨?_,acc.toList,c,rel,by rw[Array.toArray_toList];exact e2⟩),rfl,q _ (I.hok.fresh (Nat.le_refl _))⟩
 rw[List.length_map,List.length_map,List.length_range,sizeLine_eq]
 omega
end
end L2
namespace L2
open PySem
def loF (x y:Int):Int:=if y < x then y else x
def hiF (x y:Int):Int:=if y > x then y else x
def mrg (hd:Int→Int) (a b:Int):Int→Int:=fun t=>if hd t=hiF (hd a) (hd b) then loF (hd a) (hd b) else hd t
structure Hd (N:Nat) (hd:Int→Int):Prop where
 idem:∀ t,hd (hd t)=hd t
 le:∀ t,hd t≤t
 rng:∀ t,hd t≠t→0≤hd t∧t < (N:Int)
theorem Hd.zero (N:Nat):Hd N (fun t=>t):=⟨fun _=>rfl,fun _=>Int.le_refl _,fun _ h=>absurd rfl h⟩
theorem lohi (x y:Int):loF x y≤hiF x y∧((loF x y=x∧hiF x y=y)∨(loF x y=y∧hiF x y=x)):=by
 unfold loF hiF
 split <;> split <;> omega
theorem Hd.in' {N:Nat} {hd:Int→Int} (h:Hd N hd) {a:Int} (ha:0≤a∧a < (N:Int)):0≤hd a∧hd a < (N:Int):=by
 have h1:=h.le a
 by_cases e:hd a=a
 ·rw[e];exact ha
 ·have:=h.rng a e
  omega
theorem Hd.lo_id {N:Nat} {hd:Int→Int} (h:Hd N hd) (a b:Int):hd (loF (hd a) (hd b))=loF (hd a) (hd b):=by
 rcases(lohi (hd a) (hd b)).2 with ⟨e,_⟩ | ⟨e,_⟩ <;> rw[e] <;> exact h.idem _
theorem Hd.hi_id {N:Nat} {hd:Int→Int} (h:Hd N hd) (a b:Int):hd (hiF (hd a) (hd b))=hiF (hd a) (hd b):=by
 rcases(lohi (hd a) (hd b)).2 with ⟨_,e⟩ | ⟨_,e⟩ <;> rw[e] <;> exact h.idem _
theorem zhT {hd:Int→Int} {a b:Int} (e:loF (hd a) (hd b)=hiF (hd a) (hd b)):mrg hd a b=hd:=by
 funext t
 unfold mrg
 by_cases c:hd t=hiF (hd a) (hd b)
 ·rw[if_pos c,e,c]
 ·rw[if_neg c]
theorem Hd.mrg {N:Nat} {hd:Int→Int} (h:Hd N hd) {a b:Int} (ha:0≤a∧a < (N:Int)) (hb:0≤b∧b < (N:Int)):Hd N (mrg hd a b):=by
 have lh:=lohi (hd a) (hd b)
 have la:=h.in' ha
 have lb:=h.in' hb
 refine⟨fun t=>?_,fun t=>?_,fun t=>?_⟩
 ·by_cases e:loF (hd a) (hd b)=hiF (hd a) (hd b)
  ·rw[zhT e]
   exact h.idem t
  ·unfold L2.mrg
   by_cases c:hd t=hiF (hd a) (hd b)
   ·rw[if_pos c,h.lo_id,if_neg e]
   ·rw[if_neg c,h.idem,if_neg c]
 ·unfold L2.mrg
  have:=h.le t
  split <;> omega
 ·unfold L2.mrg
  intro z
  by_cases c:hd t=hiF (hd a) (hd b)
  ·rw[if_pos c]at z ⊢
   refine⟨by omega,?_⟩
   by_cases w:hd t=t
   ·omega
   ·exact(h.rng t w).2
  ·rw[if_neg c]at z ⊢
   exact h.rng t z
theorem zf5 {hd:Int→Int} {a b t u:Int}:mrg hd a b t=mrg hd a b u↔hd t=hd u∨(hd t=hd a∧hd u=hd b)∨(hd t=hd b∧hd u=hd a):=by
 have lh:=lohi (hd a) (hd b)
 unfold mrg
 by_cases c:hd t=hiF (hd a) (hd b)
 ·by_cases d:hd u=hiF (hd a) (hd b)
  ·rw[if_pos c,if_pos d]
   exact⟨fun _=>.inl (by rw[c,d]),fun _=>rfl⟩
  ·rw[if_pos c,if_neg d]
   constructor <;> intro z <;> omega
 ·by_cases d:hd u=hiF (hd a) (hd b)
  ·rw[if_neg c,if_pos d]
   constructor <;> intro z <;> omega
  ·rw[if_neg c,if_neg d]
   constructor
   ·exact fun z=>.inl z
   ·intro z
    omega
abbrev Lk:=Int × Int × Int
def hdL (ls:List Lk):Int→Int:=ls.foldl (fun hd l=>mrg hd l.1 l.2.1) fun t=>t
theorem zbo (ls:List Lk) (l:Lk):hdL (ls++[l])=mrg (hdL ls) l.1 l.2.1:=by
 unfold hdL
 rw[List.foldl_append]
 rfl
def InN (N:Nat) (ls:List Lk):Prop:=∀ l∈ls,(0≤l.1∧l.1 < (N:Int))∧0≤l.2.1∧l.2.1 < (N:Int)
theorem zhY {N:Nat} {ls:List Lk} (h:InN N ls):∀ i,i≤ls.length→Hd N (hdL (ls.take i)):=by
 intro i
 induction i with
 | zero=>exact fun _=>Hd.zero N
 | succ i ih =>
  intro hi
  obtain⟨l,hl⟩:∃ l,ls[i]?=some l:=⟨_,List.getElem?_eq_getElem (by omega)⟩
  rw[zaT hl,zbo]
  have:=h l (List.mem_of_getElem? hl)
  exact(ih (by omega)).mrg this.1 this.2
theorem zjR {N:Nat} {ls:List Lk} (h:InN N ls):Hd N (hdL ls):=by
 have:=zhY h ls.length (Nat.le_refl _)
 rw[List.take_length]at this
 exact this
theorem zf3 {α:Type} {P:List α→Prop} (h0:P []) (h1:∀ xs x,P xs→P (xs++[x])):∀ xs,P xs:=by
 intro xs
 generalize hn:xs.length=n
 induction n generalizing xs with
 | zero=>rw[List.length_eq_zero_iff.mp hn];exact h0
 | succ n ih =>
  have ne:xs≠[]:=fun e=>by rw[e]at hn;cases hn
  rw[←List.dropLast_concat_getLast ne]
  refine h1 _ _ (ih _ ?_)
  rw[List.length_dropLast]
  omega
theorem zfS (S:Int→Prop):∀ ls:List Lk,(∀ l∈ls,S l.1↔S l.2.1)→∀ t u,hdL ls t=hdL ls u→(S t↔S u):=by
 refine zf3 ?_ ?_
 ·intro _ t u e
  have e':t=u:=e
  rw[e']
 ·intro ls l ih h t u e
  rw[zbo,zf5]at e
  have ih':=ih fun k hk=>h k (List.mem_append_left _ hk)
  have hl:=h l (List.mem_append_right _ List.mem_cons_self)
  rcases e with e | ⟨e1,e2⟩ | ⟨e1,e2⟩
  ·exact ih' t u e
  ·exact(ih' t l.1 e1).trans (hl.trans (ih' u l.2.1 e2).symm)
  ·exact(ih' t l.2.1 e1).trans (hl.symm.trans (ih' u l.1 e2).symm)
theorem zdD:∀ ls:List Lk,∀ l∈ls,hdL ls l.1=hdL ls l.2.1:=by
 refine zf3 (fun l h=>absurd h (by simp)) ?_
 intro ls k ih l hl
 rw[zbo,zf5]
 rcases List.mem_append.mp hl with z | z
 ·exact .inl (ih l z)
 ·cases List.mem_singleton.mp z
  exact .inr (.inl ⟨rfl,rfl⟩)
theorem zi2 {ls:List Lk} {l:Lk} {t u:Int} (h:hdL ls t=hdL ls u):hdL (ls++[l]) t=hdL (ls++[l]) u:=by
 rw[zbo,zf5]
 exact .inl h
theorem zdO {ls:List Lk} {t u:Int}:∀ more:List Lk,hdL ls t=hdL ls u→hdL (ls++more) t=hdL (ls++more) u:=by
 refine zf3 (fun h=>by rw[List.append_nil];exact h) ?_
 intro more l ih h
 rw[←List.append_assoc]
 exact zi2 (ih h)
theorem zbG:∀(n:Nat) {xs:List Int},xs.Nodup→(∀ x∈xs,0≤x∧x < (n:Int))→xs.length≤n
 | 0,[],_,_=>Nat.le_refl _
 | 0,x :: xs,_,h=>by have:=h x List.mem_cons_self;omega
 | n+1,xs,nd,h=>by
  have q:=zbG n (nd.erase (n:Int)) (fun x hx=>by
   have z:=(List.Nodup.mem_erase_iff nd).mp hx
   have:=h x z.2
   have:=z.1
   omega)
  rw[List.length_erase]at q
  split at q <;> omega
def dL (l:Lk):Dt:=.tup [.int l.1,.int l.2.1,.int l.2.2]
theorem has_dL {K:W.Frag} {H:Hp} {l:Lk} {v:V} (h:Has K H (dL l) v):∃ p,v=.ref p∧SqT K H p [.int l.1,.int l.2.1,.int l.2.2]:=by
 obtain⟨a,xs,rfl,h1,h2⟩:=h
 have e:=zdP (ns:=[l.1,l.2.1,l.2.2]) h2
 rw[e]at h1
 exact⟨a,rfl,h1⟩
theorem zdc {K:W.Frag} {H:Hp} {l:Lk} {p:Addr} (h:SqT K H p [.int l.1,.int l.2.1,.int l.2.2]):Has K H (dL l) (.ref p):=Has.tup' h (.cons Has.int (.cons Has.int (.cons Has.int .nil)))
theorem zai:∀ ls:List Lk,zcs (ls.map dL)=true
 | []=>by simp [zcs]
 | l :: ls=>by
  simp only[List.map_cons,zcs,dL,nol,Bool.true_and]
  exact zai ls
theorem zea:∀ ls:List Lk,za0 (ls.map dL)≤1
 | []=>by simp [za0]
 | l :: ls=>by
  have h:=zea ls
  simp only[List.map_cons,za0,dL,dep]
  omega
theorem zcG {K:W.Frag} {H:Hp} {ls:List Lk} {xs:List V} {i:Nat} {x:V} (h:ad K H (ls.map dL) xs) (e:xs[i]?=some x):∃ l p,ls[i]?=some l∧x=.ref p∧SqT K H p [.int l.1,.int l.2.1,.int l.2.2]:=by
 obtain⟨d,h1,h2⟩:=h.get e
 rw[List.getElem?_map]at h1
 obtain⟨l,e1,e2⟩:=Option.map_eq_some_iff.mp h1
 rw[←e2]at h2
 obtain⟨p,e3,e4⟩:=has_dL h2
 exact⟨l,p,e1,e3,e4⟩
def Mem (H:Hp) (kg:List (Key × V)) (hd:Int→Int) (av:List Addr) (x:Int) (ms:List Int):Prop:=ms.Nodup∧(∀ t,t∈ms↔hd t=x)∧((zaz kg (Sum.inl x)=none∧ms=[x])∨∃ a,zaz kg (Sum.inl x)=some (.ref a)∧H a=some (.lst (ms.map V.int))∧a∉av)
structure GO (H:Hp) (C g ld gd:Addr) (N b:Nat) (hd:Int→Int) (av:List Addr):Prop where
 h:Hd N hd
 ne:ld≠gd
 ex:∃ dx kl kg,H g=some (.ins C dx [("least",.ref ld),("gathered",.ref gd)])∧H ld=some (.dK kl)∧H gd=some (.dK kg)∧(∀ t:Int,(zaz kl (Sum.inl t)).getD (.int t)=.int (hd t))∧(∀ x:Int,hd x=x→∃ ms:List Int,Mem H kg hd av x ms)∧kl.length≤b * N∧kg.length≤b
theorem GO.same {H H':Hp} {C g ld gd:Addr} {N b:Nat} {hd:Int→Int} {av:List Addr} (G:GO H C g ld gd N b hd av) (s:aj H H'):GO H' C g ld gd N b hd av:=by
 obtain⟨dx,kl,kg,h1,h2,h3,h4,h5,h6,h7⟩:=G.ex
 refine⟨G.h,G.ne,dx,kl,kg,s _ _ h1,s _ _ h2,s _ _ h3,h4,fun x hx=>?_,h6,h7⟩
 obtain⟨ms,m1,m2,m3⟩:=h5 x hx
 refine⟨ms,m1,m2,?_⟩
 rcases m3 with m3 | ⟨a,m4,m5⟩
 ·exact .inl m3
 ·exact .inr ⟨a,m4,s _ _ m5.1,m5.2⟩
theorem GO.mono {H:Hp} {C g ld gd:Addr} {N b b':Nat} {hd:Int→Int} {av:List Addr} (G:GO H C g ld gd N b hd av) (h:b≤b'):GO H C g ld gd N b' hd av:=by
 obtain⟨dx,kl,kg,h1,h2,h3,h4,h5,h6,h7⟩:=G.ex
 exact⟨G.h,G.ne,dx,kl,kg,h1,h2,h3,h4,h5,Nat.le_trans h6 (Nat.mul_le_mul_right _ h),Nat.le_trans h7 h⟩
def zaw (ld gd:Addr) (H H':Hp):Prop:=∀ b o,b≠ld→b≠gd→H b=some o→H' b=some o
theorem zaw.trans {ld gd:Addr} {H H1 H2:Hp} (a:zaw ld gd H H1) (b:zaw ld gd H1 H2):zaw ld gd H H2:=fun c o h1 h2 h=>b c o h1 h2 (a c o h1 h2 h)
theorem aj.g {ld gd:Addr} {H H':Hp} (s:aj H H'):zaw ld gd H H':=fun b o _ _ h=>s b o h
theorem aj.ofG {ld gd:Addr} {H H1 H2:Hp} (s:aj H H1) (n1:H ld=none) (n2:H gd=none) (x:zaw ld gd H1 H2):aj H H2:=fun b o hb=>x b o (fun e=>by rw[e,n1]at hb;cases hb) (fun e=>by rw[e,n2]at hb;cases hb) (s b o hb)
theorem zaw.put1 {ld gd:Addr} (H:Hp) (o:HO):zaw ld gd H (upd H ld o):=fun b u n1 _ h=>by rw[ap n1];exact h
theorem zaw.put2 {ld gd:Addr} (H:Hp) (o:HO):zaw ld gd H (upd H gd o):=fun b u _ n2 h=>by rw[ap n2];exact h
theorem zha {N:Nat} {hd:Int→Int} (h:Hd N hd) {x:Int} (hx:0≤x∧x < (N:Int)) {ms:List Int} (nd:ms.Nodup) (hm:∀ t,t∈ms↔hd t=x):ms.length≤N:=by
 refine zbG N nd fun t ht=>?_
 have e:=(hm t).mp ht
 have:=h.le t
 by_cases c:hd t=t
 ·omega
 ·have:=h.rng t c
  omega
theorem GO.merged {H:Hp} {C g ld gd:Addr} {N b:Nat} {hd:Int→Int} {av:List Addr} {a c:Int} (h:Hd N hd) (ne:ld≠gd) (ha:0≤a∧a < (N:Int)) (hc:0≤c∧c < (N:Int)) (nlh:loF (hd a) (hd c)≠hiF (hd a) (hd c)) {dx:Addr} {kl kg:List (Key × V)} {p:Addr} {ml mh:List Int}
  (h1:H g=some (.ins C dx [("least",.ref ld),("gathered",.ref gd)])) (h2:H ld=some (.dK kl)) (h3:H gd=some (.dK (zaI kg (Sum.inl (loF (hd a) (hd c))) (.ref p)))) (h4:∀ t:Int,(zaz kl (Sum.inl t)).getD (.int t)=.int (if t∈mh then loF (hd a) (hd c) else hd t))
  (h5:∀ x:Int,hd x=x→∃ ms:List Int,Mem H kg hd av x ms) (l1:ml.Nodup) (l2:∀ t,t∈ml↔hd t=loF (hd a) (hd c)) (k1:mh.Nodup) (k2:∀ t,t∈mh↔hd t=hiF (hd a) (hd c)) (hp:H p=some (.lst ((ml++mh).map V.int))) (h6:kl.length≤b * N) (h7:kg.length+1≤b) (hpa:p∉av):GO H C g ld gd N b (mrg hd a c) av:=by
 refine⟨h.mrg ha hc,ne,dx,kl,_,h1,h2,h3,fun t=>?_,fun x hx=>?_,h6,Nat.le_trans (zgH _ _ _) h7⟩
 ·rw[h4]
  unfold mrg
  by_cases z:hd t=hiF (hd a) (hd c)
  ·rw[if_pos ((k2 t).mpr z),if_pos z]
  ·rw[if_neg (fun w=>z ((k2 t).mp w)),if_neg z]
 ·by_cases z:x=loF (hd a) (hd c)
  ·subst z
   refine⟨ml++mh,List.nodup_append.mpr ⟨l1,k1,fun u hu v hv e=>?_⟩,fun t=>?_,.inr ⟨p,by rw[zcP,if_pos rfl],hp,hpa⟩⟩
   ·subst e
    have w1:=(l2 u).mp hu
    have w2:=(k2 u).mp hv
    exact nlh (w1.symm.trans w2)
   ·rw[List.mem_append,l2,k2]
    unfold mrg
    by_cases w:hd t=hiF (hd a) (hd c)
    ·rw[if_pos w]
     exact⟨fun _=>rfl,fun _=>.inr w⟩
    ·rw[if_neg w]
     exact⟨fun y=>y.resolve_right w,.inl⟩
  ·have nx:hd x≠hiF (hd a) (hd c):=fun w=>by
    unfold mrg at hx
    rw[if_pos w]at hx
    exact z hx.symm
   have ex:hd x=x:=by
    unfold mrg at hx
    rw[if_neg nx]at hx
    exact hx
   obtain⟨ms,m1,m2,m3⟩:=h5 x ex
   refine⟨ms,m1,fun t=>?_,?_⟩
   ·rw[m2]
    unfold mrg
    by_cases w:hd t=hiF (hd a) (hd c)
    ·rw[if_pos w]
     exact⟨fun y=>absurd (ex.trans (y.symm.trans w)) nx,fun y=>absurd y.symm z⟩
    ·rw[if_neg w]
   ·rw[zcP,if_neg (fun y=>z (by injection y))]
    exact m3
theorem GO.avoid {H:Hp} {C g ld gd:Addr} {N b:Nat} {hd:Int→Int} {av:List Addr} {l:Addr} (G:GO H C g ld gd N b hd av) (n:H l=none):GO H C g ld gd N b hd (l :: av):=by
 obtain⟨dx,kl,kg,h1,h2,h3,h4,h5,h6,h7⟩:=G.ex
 refine⟨G.h,G.ne,dx,kl,kg,h1,h2,h3,h4,fun x hx=>?_,h6,h7⟩
 obtain⟨ms,m1,m2,m3⟩:=h5 x hx
 refine⟨ms,m1,m2,?_⟩
 rcases m3 with m3 | ⟨a,m4,m5,m6⟩
 ·exact .inl m3
 ·exact .inr ⟨a,m4,m5,fun z=>by
   rcases List.mem_cons.mp z with z | z
   ·rw[z,n]at m5
    cases m5
   ·exact m6 z⟩
theorem GO.sub {H:Hp} {C g ld gd:Addr} {N b:Nat} {hd:Int→Int} {av av':List Addr} (G:GO H C g ld gd N b hd av) (h:∀ a∈av',a∈av):GO H C g ld gd N b hd av':=by
 obtain⟨dx,kl,kg,h1,h2,h3,h4,h5,h6,h7⟩:=G.ex
 refine⟨G.h,G.ne,dx,kl,kg,h1,h2,h3,h4,fun x hx=>?_,h6,h7⟩
 obtain⟨ms,m1,m2,m3⟩:=h5 x hx
 refine⟨ms,m1,m2,?_⟩
 rcases m3 with m3 | ⟨a,m4,m5,m6⟩
 ·exact .inl m3
 ·exact .inr ⟨a,m4,m5,fun z=>m6 (h a z)⟩
theorem GO.put {H:Hp} {C g ld gd:Addr} {N b:Nat} {hd:Int→Int} {av:List Addr} {l:Addr} {o:HO} (G:GO H C g ld gd N b hd av) (hl:l∈av∨∀ xs,H l≠some (.lst xs)) (ng:l≠g) (n1:l≠ld) (n2:l≠gd):GO (upd H l o) C g ld gd N b hd av:=by
 obtain⟨dx,kl,kg,h1,h2,h3,h4,h5,h6,h7⟩:=G.ex
 refine⟨G.h,G.ne,dx,kl,kg,by rw[ap (Ne.symm ng)];exact h1,by rw[ap (Ne.symm n1)];exact h2,by rw[ap (Ne.symm n2)];exact h3,h4,fun x hx=>?_,h6,h7⟩
 obtain⟨ms,m1,m2,m3⟩:=h5 x hx
 refine⟨ms,m1,m2,?_⟩
 rcases m3 with m3 | ⟨a,m4,m5,m6⟩
 ·exact .inl m3
 ·refine .inr ⟨a,m4,?_,m6⟩
  rw[ap (fun e=>by
   rcases hl with hl | hl
   ·exact m6 (e ▸ hl)
   ·exact hl _ (e ▸ m5))]
  exact m5
end L2
namespace L2
open PySem
def Kd (H:Hp) (d:Addr) (F:List Int):Prop:=∃ kvs:List (Key × V),H d=some (.dK kvs)∧kvs.map (·.1)=F.map Sum.inl
theorem zd2 {kvs:List (Key × V)} {F:List Int} (h:kvs.map (·.1)=F.map Sum.inl) (n:Int):(zaz kvs (Sum.inl n)).isSome=decide (n∈F):=by
 rw[←zcx,Bool.eq_iff_iff,List.any_eq_true,decide_eq_true_iff]
 constructor
 ·rintro ⟨kv,h1,h2⟩
  have e:=of_decide_eq_true h2
  have m:kv.1∈F.map Sum.inl:=by rw[←h];exact List.mem_map.mpr ⟨kv,h1,rfl⟩
  obtain⟨k,hk,ek⟩:=List.mem_map.mp m
  rw[e]at ek
  injection ek with ek
  rw[←ek]
  exact hk
 ·intro hn
  have m:(Sum.inl n:Key)∈kvs.map (·.1):=by rw[h];exact List.mem_map.mpr ⟨n,hn,rfl⟩
  obtain⟨kv,h1,h2⟩:=List.mem_map.mp m
  exact⟨kv,h1,decide_eq_true h2⟩
def addK (F:List Int) (n:Int):List Int:=if n∈F then F else F++[n]
theorem zhU {kvs:List (Key × V)} {F:List Int} (h:kvs.map (·.1)=F.map Sum.inl) (n:Int) (v:V):(zaI kvs (Sum.inl n) v).map (·.1)=(addK F n).map Sum.inl:=by
 unfold zaI addK
 by_cases c:n∈F
 ·have a:(kvs.any fun kv=>decide (kv.1=Sum.inl n))=true:=by rw[zcx,zd2 h];exact decide_eq_true c
  rw[if_pos a,if_pos c,List.map_map,←h]
  apply List.map_congr_left
  intro kv _
  show(if kv.1=Sum.inl n then(kv.1,v) else kv).1=kv.1
  split <;> rfl
 ·have a:¬(kvs.any fun kv=>decide (kv.1=Sum.inl n))=true:=by rw[zcx,zd2 h,decide_eq_false c];exact Bool.false_ne_true
  rw[if_neg a,if_neg c,List.map_append,List.map_append,h]
  rfl
theorem zhV {kvs:List (Key × V)} {F:List Int} (h:kvs.map (·.1)=F.map Sum.inl):kvs.length=F.length:=by
 have:=congrArg List.length h
 rw[List.length_map,List.length_map]at this
 exact this
theorem zjP {kvs:List (Key × V)} {F:List Int} (h:kvs.map (·.1)=F.map Sum.inl):(kvs.map fun kv=>kV kv.1)=F.map V.int:=by
 have e:(kvs.map fun kv=>kV kv.1)=(kvs.map (·.1)).map kV:=by rw[List.map_map];rfl
 rw[e,h,List.map_map]
 rfl
theorem Kd.same {H H':Hp} {d:Addr} {F:List Int} (h:Kd H d F) (s:aj H H'):Kd H' d F:=by
 obtain⟨kvs,h1,h2⟩:=h
 exact⟨kvs,s _ _ h1,h2⟩
structure RS (ls:List Lk) (N:Nat) (s:Int) (F:List Int):Prop where
 nd:F.Nodup
 st:s∈F
 inn:∀ u∈F,(0≤u∧u < (N:Int))∧hdL ls u=hdL ls s
theorem RS.len {ls:List Lk} {N:Nat} {s:Int} {F:List Int} (h:RS ls N s F):F.length≤N:=zbG N h.nd fun x hx=>(h.inn x hx).1
theorem zfv {ls:List Lk} {n:Nat} {k:Int} (f:Int→Int) (h0:0≤k) (h1:k < (n:Int)):atI (((List.range n).map fun i:Nat=>f (i:Int)).map V.int) k=some (.int (f k)):=by
 have e:k=((k.toNat:Nat):Int):=by omega
 have:=zgP (ns:=(List.range n).map fun i:Nat=>f (i:Int)) (i:=k.toNat) (n:=f k) (by
  rw[List.getElem?_map,List.getElem?_range (by omega)]
  show some (f ((k.toNat:Nat):Int))=some (f k)
  rw[←e])
 rw[←e]at this
 exact this
end L2
namespace L2
open PySem PySem.Spec PyProof.Rows
section
variable {P:Program} {w:World}
abbrev Sgn:=Str × List Key
def zbu (P:Program) (w:World) (h:Heap) (k:Sgn) (a:Addr):Prop :=
 ∃(o:Obj) (t:Tok) (q:Addr) (n:Nat),h.get? a=some o∧o.cls=.type "tuple"∧o.data=.seq #[.str k.1 t,.ref q] n∧IsTupleKey (zat P w) h k.2 q
theorem zbu.typeIs {s:Shared} {k:Sgn} {a:Addr} (x:zbu P w s.heap k a):s.TypeIs (.ref a) "tuple":=let ⟨o,_,_,_,ho,hc,_⟩:=x;⟨o,ho,hc⟩
theorem zbu.inj {h:Heap} {a:Addr} {x y:Sgn} (hx:zbu P w h x a) (hy:zbu P w h y a):x=y:=by
 obtain⟨o,t,q,n,ho,_,hd,hi⟩:=hx
 obtain⟨o',t',q',n',ho',_,hd',hi'⟩:=hy
 cases ho.symm.trans ho'
 have e:=hd.symm.trans hd'
 injection e with e _
 have e2:[Value.str x.1 t,.ref q]=[Value.str y.1 t',.ref q']:=congrArg Array.toList e
 injection e2 with e3 e4
 injection e3 with e5 _
 injection e4 with e6 _
 injection e6 with e7
 subst e7
 exact Prod.ext e5 (hi.inj hi')
theorem zbu.keeps {h h':Heap} {k:Sgn} {a d:Addr} {o:Obj} {es ep} (x:zbu P w h k a) (ho:h.get? d=some o) (hd:o.data=.dict es ep) (hs:Heap.SameBut d h h'):zbu P w h' k a:=by
 obtain⟨o',t,q,n,ho',hc,hd',hi⟩:=x
 have hne:a≠d:=by
  rintro rfl
  cases ho'.symm.trans ho
  rw[hd]at hd'
  exact nomatch hd'
 exact⟨o',t,q,n,(hs.2 a hne).trans ho',hc,hd',hi.keeps ho hd hs⟩
def zfs (P:Program) (w:World) (k:Sgn):Int:=reduceHash (Builtin.Tuple.tupleHashOf [(zat P w).hash (.inr k.1),tupleKeyHash (zat P w) k.2])
variable {A:Around} {E:Value→Shared→Prop} {s:Shared}
theorem zh9 {k:Sgn} {a:Addr} {Q:Int→Shared→Prop} (hu:A.units+10 < cLine) (hk:zbu P w s.heap k a) (h:Q (zfs P w k) { s with toks:=s.toks+(k.2.length+3) }) :
  wpAny (model P w) A (pyHash (.ref a)) Q E s:=by
 have hT:=hk.typeIs
 obtain⟨o,t,q,n,ho,_,hd,hi⟩:=hk
 unfold pyHash
 first | unfold pyHashByItsType | skip
 first | refine wpAny_bind (wpAny_cRoomFor_or (.inr (by omega)) ?_) | skip
 refine wpAny_bind (wpAny_specialOf hT F.slot_tuple_hash.lookup ?_)
 show wpAny _ _ (if(some (Value.builtin "tuple.__hash__") == some Value.none)=true then _ else _) Q E s
 rw[if_neg (by rw[beq_builtin_none];exact Bool.false_ne_true)]
 refine wpAny_bind (wpAny_specialOf hT F.slot_tuple_hash.lookup ?_)
 show wpAny _ _ (callSpecialIfBoundUnlessNone? (.ref a) "__hash__" _ >>= _) Q E s
 refine wpAny_bind (wpAny_callSpecialIfBoundUnlessNone?_slot hT F.slot_tuple_hash (wpAny_call_entry F.slot_tuple_hash hT F.entry_tuple_hash ?_ (F.args_tuple_hash_1 _)))
 show wpAny _ _ (Builtin.Tuple.tupleItemsOf (.ref a) >>= _) _ _ s
 refine wpAny_bind (wpAny_tupleItemsOf ho hd ?_)
 refine wpAny_bind ?_
 rw[←Array.forIn_toList]
 refine wpAny_forIn_list _
  (fun zav (b:Array Int) s'=>(zav=[.str k.1 t,.ref q]∧b=#[]∧s'=s)∨(zav=[.ref q]∧b=#[(zat P w).hash (.inr k.1)]∧s'={ s with toks:=s.toks+1 }) ∨
   (zav=[]∧b=#[(zat P w).hash (.inr k.1),tupleKeyHash (zat P w) k.2]∧s'={ s with toks:=s.toks+1+(k.2.length+1) }))
  _ ?_ ?_ _ _ (.inl ⟨rfl,rfl,rfl⟩)
 ·rintro x zav b s' (⟨e,rfl,rfl⟩ | ⟨e,rfl,rfl⟩ | ⟨e,rfl,rfl⟩)
  ·injection e with e1 e2
   subst e1 e2
   refine wpAny_bind ((zat P w).pyHash (k:=.inr k.1) (zcX P w k.1 t) ?_)
   first
    | exact wpAny_pure (.inr (.inl ⟨rfl,rfl,rfl⟩))
    | exact wpAny_bind (wpAny_pure (wpAny_pure (.inr (.inl ⟨rfl,rfl,rfl⟩))))
  ·injection e with e1 e2
   subst e1 e2
   refine wpAny_bind (wpAny_pyHash_tuple (knd:=zat P w) (ks:=k.2) (by show A.units+1 < cLine;omega) hi ?_)
   first
    | exact wpAny_pure (.inr (.inr ⟨rfl,rfl,rfl⟩))
    | exact wpAny_bind (wpAny_pure (wpAny_pure (.inr (.inr ⟨rfl,rfl,rfl⟩))))
  ·exact nomatch e
 ·rintro b s' (⟨e,rfl,rfl⟩ | ⟨e,rfl,rfl⟩ | ⟨e,rfl,rfl⟩)
  ·exact nomatch e
  ·exact nomatch e
  show wpAny _ _ (retInt (Builtin.Tuple.tupleHashOf [(zat P w).hash (.inr k.1),tupleKeyHash (zat P w) k.2])) _ _ _
  refine wpAny_ret_mkInt ?_
  have ht:s.toks+(k.2.length+3)=s.toks+1+(k.2.length+1)+1:=by omega
  rw[ht]at h
  unfold zfs reduceHash at h
  generalize Builtin.Tuple.tupleHashOf [(zat P w).hash (.inr k.1),tupleKeyHash (zat P w) k.2]=z at h ⊢
  show wpAny _ _ (if(decide (-(2:Int) ^ 63≤z)&&decide (z < 2 ^ 63))=true then _ else _) Q E _
  by_cases hr:(decide (-(2:Int) ^ 63≤z)&&decide (z < 2 ^ 63))=true
  ·rw[if_pos hr]
   rw[if_pos hr]at h
   exact wpAny_pure h
  ·rw[if_neg hr]
   rw[if_neg hr]at h
   exact wpAny_bind (wpAny_rule (wpAny_pure h))
theorem zgS {x y:Sgn} {a b:Addr} {R:Fin→Shared→Prop} (hu:A.units+5 < cLine) (hx:zbu P w s.heap x a) (hy:zbu P w s.heap y b) (h:R (.done (.ret (.bool (decide (x=y))))) s) :
  wpAny (model P w) A (Builtin.«tuple.__eq__» ⟨[.ref a,.ref b],[]⟩) R E s:=by
 have hTb:=hy.typeIs
 obtain⟨oa,ta,qa,na,hoa,_,hda,hia⟩:=hx
 obtain⟨ob,tb,qb,nb,hob,_,hdb,hib⟩:=hy
 show wpAny _ _ (isInstance (.ref b) (.type "tuple") >>= _) _ _ s
 refine wpAny_bind (wpAny_isInstance hTb isSubtype_tuple_tuple ?_)
 simp only[Bool.not_true,Bool.false_eq_true,if_false]
 refine wpAny_bind (wpAny_tupleItemsOf hoa hda ?_)
 refine wpAny_bind (wpAny_tupleItemsOf hob hdb ?_)
 refine wpAny_bind ?_
 refine wpAny_forIn_list _
  (fun zav r s'=>r.1=none∧s'=s∧((zav=[(.str x.1 ta,.str y.1 tb),(.ref qa,.ref qb)])∨(zav=[(.ref qa,.ref qb)]∧x.1=y.1)∨(zav=[]∧x=y)))
  _ ?_ ?_ _ _ ⟨rfl,rfl,.inl rfl⟩
 ·rintro ⟨u,v⟩ zav r s' ⟨hr,rfl,e | ⟨e,e1⟩ | ⟨e,e1⟩⟩
  ·injection e with e2 e3
   injection e2 with e4 e5
   subst e3 e4 e5
   refine wpAny_bind ((zat P w).eqBool (a:=.inr x.1) (b:=.inr y.1) (zcX P w x.1 ta) (zcX P w y.1 tb) ?_)
   by_cases hk:x.1=y.1
   ·rw[decide_eq_true (show(Sum.inr x.1:Key)=.inr y.1 by rw[hk])]
    simp only[Bool.not_true,Bool.false_eq_true,if_false]
    exact wpAny_pure ⟨by trivial,by trivial,.inr (.inl ⟨by trivial,hk⟩)⟩
   ·rw[decide_eq_false (show ¬(Sum.inr x.1:Key)=.inr y.1 from fun z=>hk (Sum.inr.inj z))]
    simp only[Bool.not_false,if_true]
    rw[decide_eq_false (show ¬x=y from fun z=>hk (by rw[z]))]at h
    exact wpAny_bind (wpAny_pure (wpAny_pure (wpAny_pure h)))
  ·injection e with e2 e3
   injection e2 with e4 e5
   subst e3 e4 e5
   refine wpAny_bind (wpAny_eqBool_tuple (knd:=zat P w) (x:=x.2) (y:=y.2) (by omega) hia hib ?_)
   by_cases hk:x.2=y.2
   ·rw[decide_eq_true hk]
    simp only[Bool.not_true,Bool.false_eq_true,if_false]
    exact wpAny_pure ⟨by trivial,by trivial,.inr (.inr ⟨by trivial,Prod.ext e1 hk⟩)⟩
   ·rw[decide_eq_false hk]
    simp only[Bool.not_false,if_true]
    rw[decide_eq_false (show ¬x=y from fun z=>hk (by rw[z]))]at h
    exact wpAny_bind (wpAny_pure (wpAny_pure (wpAny_pure h)))
  ·exact nomatch e
 ·rintro ⟨r1,r2⟩ s' ⟨hr,rfl,e | ⟨e,e1⟩ | ⟨e,e1⟩⟩
  ·exact nomatch e
  ·exact nomatch e
  simp only at hr
  subst hr
  refine wpAny_pure ?_
  rw[decide_eq_true e1]at h
  exact h
theorem zji {x y:Sgn} {a b:Addr} {Q:Bool→Shared→Prop} (hu:A.units+10 < cLine) (hx:zbu P w s.heap x a) (hy:zbu P w s.heap y b) (h:Q (decide (x=y)) s) :
  wpAny (model P w) A (eqBool (.ref a) (.ref b)) Q E s:=by
 unfold eqBool
 try with_reducible refine wpAny_holding ?_
 show wpAny _ _ (if(Value.ref a == Value.ref b)=true then _ else _) Q E s
 by_cases hab:(Value.ref a == Value.ref b)=true
 ·rw[if_pos hab]
  have e:a=b:=by have:=eq_of_beq hab;injection this
  subst e
  cases hx.inj hy
  exact wpAny_bind (wpAny_rule (wpAny_pure (by simpa using h)))
 ·rw[if_neg hab]
  exact wpAny_bind (wpAny_richCompare_same_room (op:=.Eq) hx.typeIs hy.typeIs F.slot_tuple_eq
   (wpAny_call_entry F.slot_tuple_eq hx.typeIs F.entry_tuple_eq (zgS (by show A.units+1+5 < cLine;omega) hx hy ⟨_,rfl,(fun e=>nomatch e),wpAny_truthy_bool h⟩) (F.args_tuple_eq_2 _ _)) (by omega))
theorem quiet7 {ks:List Key} {a:Addr} {Q:Bool→Shared→Prop} (hk:IsTupleKey (zat P w) s.heap ks a) (h:Q true s):wpAny (model P w) A (eqIsQuiet 7 (.ref a)) Q E s:=by
 have hT:=hk.typeIs
 obtain⟨o,items,n,ho,_,hd,hi⟩:=hk
 unfold eqIsQuiet
 refine wpAny_bind (wpAny_specialOf hT F.slot_tuple_eq.lookup ?_)
 show wpAny _ _ (isInstance (.ref a) (.type "tuple") >>= _) _ _ s
 refine wpAny_bind (wpAny_isInstance hT isSubtype_tuple_tuple ?_)
 simp only[Bool.not_true,Bool.false_eq_true,if_false]
 refine wpAny_bind (wpAny_seqItems ho hd ?_)
 refine wpAny_bind ?_
 show wpAny _ _ (forIn items _ _) _ _ s
 rw[←Array.forIn_toList]
 refine wpAny_forIn_list _ (fun zav r s'=>r.1=none∧s'=s∧∀ v∈zav,carriedByValue v=true) _ ?_ ?_ _ _ ⟨rfl,rfl,hi.byValue⟩
 ·rintro v zav r s' ⟨hr,rfl,hall⟩
  rw[eqIsQuiet_byValue _ (hall v List.mem_cons_self)]
  refine wpAny_bind (wpAny_pure ?_)
  simp only[Bool.not_true,Bool.false_eq_true,if_false]
  exact wpAny_pure ⟨rfl,rfl,fun u hu'=>hall u (List.mem_cons_of_mem _ hu')⟩
 ·rintro ⟨r1,r2⟩ s' ⟨hr,rfl,_⟩
  simp only at hr
  subst hr
  exact wpAny_pure h
theorem zhv {k:Sgn} {a:Addr} {Q:Bool→Shared→Prop} (hk:zbu P w s.heap k a) (h:Q true s):wpAny (model P w) A (eqIsQuiet 8 (.ref a)) Q E s:=by
 have hT:=hk.typeIs
 obtain⟨o,t,q,n,ho,_,hd,hi⟩:=hk
 unfold eqIsQuiet
 refine wpAny_bind (wpAny_specialOf hT F.slot_tuple_eq.lookup ?_)
 show wpAny _ _ (isInstance (.ref a) (.type "tuple") >>= _) _ _ s
 refine wpAny_bind (wpAny_isInstance hT isSubtype_tuple_tuple ?_)
 simp only[Bool.not_true,Bool.false_eq_true,if_false]
 refine wpAny_bind (wpAny_seqItems ho hd ?_)
 refine wpAny_bind ?_
 show wpAny _ _ (forIn #[Value.str k.1 t,.ref q] _ _) _ _ s
 rw[←Array.forIn_toList]
 refine wpAny_forIn_list _ (fun zav r s'=>r.1=none∧s'=s∧∀ v∈zav,carriedByValue v=true∨v=.ref q) _ ?_ ?_ _ _ ⟨rfl,rfl,fun v hv=>?_⟩
 ·rintro v zav r s' ⟨hr,rfl,hall⟩
  rcases hall v List.mem_cons_self with hv | rfl
  ·rw[eqIsQuiet_byValue _ hv]
   refine wpAny_bind (wpAny_pure ?_)
   simp only[Bool.not_true,Bool.false_eq_true,if_false]
   exact wpAny_pure ⟨rfl,rfl,fun u hu'=>hall u (List.mem_cons_of_mem _ hu')⟩
  ·refine wpAny_bind (quiet7 hi ?_)
   simp only[Bool.not_true,Bool.false_eq_true,if_false]
   exact wpAny_pure ⟨rfl,rfl,fun u hu'=>hall u (List.mem_cons_of_mem _ hu')⟩
 ·rintro ⟨r1,r2⟩ s' ⟨hr,rfl,_⟩
  simp only at hr
  subst hr
  exact wpAny_pure h
 ·rcases List.mem_cons.mp hv with rfl | hv
  ·exact .inl rfl
  ·exact .inr (List.mem_singleton.mp hv)
end
def zdw (P:Program) (w:World):HeapKind P w Sgn where
 is:=zbu P w
 hash:=zfs P w
 draws:=fun k=>k.2.length+3
 room:=fun A=>A.units+10 < cLine
 inj:=fun hx hy=>hx.inj hy
 keeps:=fun x ho hd hs=>x.keeps ho hd hs
 pyHash:=fun hu hk h=>zh9 hu hk h
 eqBool:=fun hu hx hy h=>zji hu hx hy h
 quiet:=fun hk h=>zhv hk h
section
variable {prog:Program} {w:World} {K:Type} [DecidableEq K] {knd:HeapKind prog w K} {A:Around} {E:Value→Shared→Prop} {s:Shared}
theorem zfV {d a:Addr} {xs:List (K × Addr × Value)} {k:K} {dflt:Value} {Q:Value→Shared→Prop} (hu:knd.room A) (hkey:knd.is s.heap k a) (hm:s.heap.DictOfH knd d xs)
  (h1:∀ p,atKey xs k=some p→Q p.2 { s with toks:=s.toks+knd.draws k })
  (h2:atKey xs k=none→∀ h',h'.DictOfH knd d (xs++[(k,a,dflt)])→Heap.SameBut d s.heap h'→Q dflt { s with heap:=h',toks:=s.toks+knd.draws k })
  (hsz:xs.length≤sizeLine):wpAny (model prog w) A (dictSetDefault d (.ref a) dflt) Q E s:=by
 obtain⟨o,es,ep,ho,hc,hd,he,his,hn⟩:=hm
 unfold dictSetDefault
 try with_reducible refine wpAny_holding ?_
 refine wpAny_bind (knd.pyHash hu hkey ?_)
 refine wpAny_bind (wpAny_dictFind_heap (s:={ s with toks:=s.toks+knd.draws k }) hu hkey ho hd he his hn ?_ ?_)
 ·intro hno
  have hnot:k∉xs.map (·.1):=not_mem_keys_of_get hno
  refine wpAny_bind (wpAny_rule (wpAny_bind (wpAny_updateDictKeys (hz:=by have e:=size_of_entries he;omega) (s:={ s with toks:=s.toks+knd.draws k }) ho hd (wpAny_pure (h2 (atKey_none_of_get hno) _ ⟨_,_,ep+1,Heap.get?_update_self _ ho (Obj.isFreed_of_dict (Obj.data_mapDictKeys hd _)),
   hc.mapDictKeys _,Obj.data_mapDictKeys hd _,?_,?_,?_⟩ (Heap.SameBut.update ..))))))
  ·simp [he,entryOfKey]
  ·intro x hx
   rcases List.mem_append.mp hx with hx | hx
   ·exact knd.keeps (his x hx) ho hd (Heap.SameBut.update ..)
   ·simp only[List.mem_singleton]at hx
    subst hx
    exact knd.keeps hkey ho hd (Heap.SameBut.update ..)
  ·rw[List.map_append,List.nodup_append]
   refine⟨hn,by simp,?_⟩
   intro x hx y hy
   simp only[List.map_cons,List.map_nil,List.mem_singleton]at hy
   subst hy
   exact fun e=>hnot (e ▸ hx)
 ·intro j p hj
  refine wpAny_bind (wpAny_dictEntries (s:={ s with toks:=s.toks+knd.draws k }) ho hd ?_)
  rw[entry_at he j,hj]
  exact wpAny_bind (wpAny_rule (wpAny_pure (h1 p (atKey_of_get hn hj))))
theorem zfa (knd:HeapKind prog w K) (d a:Addr) (hd:(d == sysModules)=false) (dflt:Value) :
  MeetsIn prog w (Builtin.«dict.setdefault» ⟨[.ref d,.ref a,dflt],[]⟩) (fun A R s=>knd.room A.in1∧∃ k xs,knd.is s.heap k a∧s.heap.DictOfH knd d xs∧xs.length≤sizeLine ∧
   (∀ p,atKey xs k=some p→R (.ok (.ret p.2)) { s with toks:=s.toks+knd.draws k }) ∧
   (atKey xs k=none→∀ h',h'.DictOfH knd d (xs++[(k,a,dflt)])→Heap.SameBut d s.heap h'→R (.ok (.ret dflt)) { s with heap:=h',toks:=s.toks+knd.draws k })) :=
 .of_wp fun A R s ⟨hu,k,xs,hkey,hm,hz,h1,h2⟩=>by
  unfold Builtin.«dict.setdefault»
  refine wpAny_bind ?_
  unfold Builtin.Dict.keyAndDefault
  refine wpAny_bind (wpAny_notOrdered_dict hm.typeIs ?_)
  show wpAny _ _ (pure (d,Value.ref a,some dflt)) _ _ s
  refine wpAny_pure ?_
  show wpAny _ _ (if(d == sysModules)=true then _ else(dictSetDefault d (.ref a) dflt >>= _)) _ _ s
  rw[if_neg (by rw[hd];exact Bool.false_ne_true)]
  exact wpAny_bind (zfV hu hkey hm (fun p hp=>wpAny_pure ⟨p.2,rfl,h1 p hp⟩) (fun hn h' hm' hs'=>wpAny_pure ⟨dflt,rfl,h2 hn h' hm' hs'⟩) hz)
end
end L2
namespace L2
open PySem PySem.Spec PyProof.Rows
abbrev SE:=Sgn × Addr × V
def relS (p:SE) (q:Sgn × Addr × Value):Prop:=p.1=q.1∧p.2.1=q.2.1∧ax p.2.2 q.2.2
def zdf (P:Program) (w:World) (a:Addr) (kvs:List SE):HO:=.ext fun h=>(a == sysModules)=false∧∃ xs:List (Sgn × Addr × Value),Paired relS kvs xs ∧
 ∃ o es ep,h.get? a=some o∧o.ExactDict∧o.data=.dict es ep∧es.toList=xs.map (entryOfKey (zdw P w))∧(xs.map (·.1)).Nodup
def SD (P:Program) (w:World) (H:Hp) (a:Addr) (kvs:List SE):Prop:=(H a=some (.dK [])∧kvs=[])∨H a=some (zdf P w a kvs)
def zcH (K:W.Frag) (H:Hp) (k:Sgn) (p:Addr):Prop:=∃ q,SqT K H p [.str k.1,.ref q]∧SqT K H q (k.2.map kV)
def atS (kvs:List SE) (k:Sgn):Option SE:=kvs.find? fun e=>decide (e.1=k)
theorem zfP {kvs:List SE} {xs:List (Sgn × Addr × Value)} (r:Paired relS kvs xs) (k:Sgn) :
  (∃ e q,atS kvs k=some e∧atKey xs k=some q∧ax e.2.2 q.2)∨(atS kvs k=none∧atKey xs k=none):=by
 induction r with
 | nil=>exact .inr ⟨rfl,rfl⟩
 | @cons p q ps qs h t ih =>
  by_cases hk:p.1=k
  ·refine .inl ⟨p,q.2,?_,?_,h.2.2⟩
   ·unfold atS
    rw[List.find?_cons_of_pos (by exact decide_eq_true hk)]
   ·unfold atKey
    rw[List.find?_cons_of_pos (by exact decide_eq_true (h.1.symm.trans hk))]
    rfl
  ·have e1:atS (p :: ps) k=atS ps k:=by
    unfold atS
    rw[List.find?_cons_of_neg (by simpa using hk)]
   have e2:atKey (q :: qs) k=atKey qs k:=by
    unfold atKey
    rw[List.find?_cons_of_neg (by simpa using fun z=>hk (h.1.trans z))]
   rw[e1,e2]
   exact ih
section
variable {X:Cx}
theorem zhM {P:Program} {w:World} {pins:List (Addr × Obj)} {σ:St} {H:Hp} {s:Shared} {k:Sgn} {p:Addr} (I:Inv X pins σ H s) (h:zcH X.K H k p):zbu P w s.heap k p:=by
 obtain⟨q,h1,h2⟩:=h
 obtain⟨its,r,⟨o,e1,e2,n,e3⟩,_⟩:=I.tuple h1
 obtain⟨js,r2,⟨o2,f1,f2,n2,f3⟩,_⟩:=I.tuple h2
 cases r with
 | cons ra t =>
  cases t with
  | cons rb t =>
   cases t
   obtain⟨tk,rfl⟩:=ra
   cases rb
   exact⟨o,tk,q,n,e1,e2,e3,o2,js.toArray,n2,f1,f2,f3,by simpa using zeJ r2⟩
def rSetd (P:Program) (w:World) (K:W.Frag):V→List V→Hp→VK→Prop:=fun x vs H Q=>∃ d p k v kvs,x=.ref d∧vs=[.ref p,v]∧SD P w H d kvs∧kvs.length < sizeLine∧(∀ e∈kvs,zcH K H e.1 e.2.1)∧zcH K H k p ∧
 ((∃ e,atS kvs k=some e∧Q e.2.2 H)∨(atS kvs k=none∧Q v (upd H d (zdf P w d (kvs++[(k,p,v)])))))
theorem zjL (hu:X.A.units+64 < cLine):MtR X "dict.setdefault" (rSetd X.prog X.w X.K):=by
 intro pins s σ H x vs v us Q I rx rv h
 obtain⟨d,p,k,y,kvs,rfl,rfl,hd,hz,hks,hk,q⟩:=h
 cases rx
 cases rv with
 | cons rp t =>
 cases t with
 | @cons _ y' _ _ ry t =>
 cases t
 cases rp
 have got:(d == sysModules)=false∧Mut (H d)∧∃ xs:List (Sgn × Addr × Value),Paired relS kvs xs ∧
   ∃ o es ep,s.heap.get? d=some o∧o.ExactDict∧o.data=.dict es ep∧es.toList=xs.map (entryOfKey (zdw X.prog X.w))∧(xs.map (·.1)).Nodup:=by
  rcases hd with ⟨e,rfl⟩ | e
  ·obtain⟨z,sy,ws,rel,o,es,ep,h1,h2,h3,h4,h5,h6⟩:=zfB I.hok e
   cases rel
   refine⟨sy,by rw[e];exact True.intro,[],.nil,o,es,ep,h1,h2,h3,?_,List.nodup_nil⟩
   cases es with
   | mk l =>
    cases l with
    | nil=>rfl
    | cons a r=>exact absurd h5 (by intro z;cases z)
  ·obtain⟨⟨sy,xs,r⟩,_⟩:=I.hok d _ e
   exact⟨sy,by rw[e];exact True.intro,xs,r⟩
 obtain⟨sy,mu,xs,rel,o,es,ep,h1,h2,h3,h4,h5⟩:=got
 have all:∀ x∈xs,(zdw X.prog X.w).is s.heap x.1 x.2.1:=by
  clear q h4 h5 hz hd
  induction rel with
  | nil=>intro x hx;exact nomatch hx
  | @cons a b as bs r t ih =>
   intro x hx
   rcases List.mem_cons.mp hx with rfl | hx
   ·have:=hks a List.mem_cons_self
    rw[r.1,r.2.1]at this
    exact zhM I this
   ·exact ih (fun e he=>hks e (List.mem_cons_of_mem _ he)) x hx
 have dd:s.heap.DictOfH (zdw X.prog X.w) d xs:=⟨o,es,ep,h1,h2,h3,h4,all,h5⟩
 have ll:=Paired.length rel
 refine call_meetsIn PySem.F.slot_dict_setdefault dd.typeIs PySem.F.entry_dict_setdefault (PySem.F.args_dict_setdefault_3 _ _ _) (zfa (zdw X.prog X.w) d p sy y')
  ⟨(by show X.A.units+1+10 < cLine;omega),k,xs,zhM I hk,dd,by omega,fun u hu'=>?_,fun hn h' dd' hs=>?_⟩
 ·rcases zfP rel k with ⟨e,u2,e1,e2,r2⟩ | ⟨_,e2⟩
  ·cases hu'.symm.trans e2
   rcases q with ⟨e',q1,q2⟩ | ⟨q1,_⟩
   ·cases q1.symm.trans e1
    exact⟨_,H,I.tok _,r2,q2⟩
   ·rw[q1]at e1
    exact nomatch e1
  ·rw[hu']at e2
   exact nomatch e2
 ·rcases zfP rel k with ⟨e,u2,e1,e2,r2⟩ | ⟨e1,e2⟩
  ·rw[hn]at e2
   exact nomatch e2
  rcases q with ⟨e',q1,q2⟩ | ⟨_,q2⟩
  ·rw[q1]at e1
   exact nomatch e1
  obtain⟨o',es',ep',g1,g2,g3,g4,g5,g6⟩:=dd'
  have new:zaL X.prog X.w (upd H d (zdf X.prog X.w d (kvs++[(k,p,y)]))) h' d (zdf X.prog X.w d (kvs++[(k,p,y)])):=by
   refine⟨⟨sy,_,?_,o',es',ep',g1,g2,g3,g4,g6⟩,⟨_,g1⟩,fun a b z kp=>?_⟩
   ·have app:∀ {as:List SE} {bs:List (Sgn × Addr × Value)},Paired relS as bs→Paired relS (as++[(k,p,y)]) (bs++[(k,p,y')]):=by
     intro as bs r
     induction r with
     | nil=>exact .cons ⟨rfl,rfl,ry⟩ .nil
     | cons r t ih=>exact .cons r ih
    exact app rel
   ·obtain⟨z1,ys,z2,o2,es2,ep2,z3,z4⟩:=z
    exact⟨z1,ys,z2,o2,es2,ep2,kp _ z3,z4⟩
  exact⟨y,_,zeb I mu hs ⟨_,g1⟩ new,ry,q2⟩
theorem sd_is {pins:List (Addr × Obj)} {σ:St} {H:Hp} {s:Shared} {d:Addr} {kvs:List SE} (I:Inv X pins σ H s) (h:SD X.prog X.w H d kvs) :
  s.TypeIs (.ref d) "dict"∧∀ a,Value.ref d=.ref a→∃ ob,s.heap.get? a=some ob∧ob.dict=none:=by
 have z:∃ o,s.heap.get? d=some o∧o.ExactDict:=by
  rcases h with ⟨e,_⟩ | e
  ·obtain⟨_,_,_,_,o,_,_,e1,ex,_⟩:=I.hok d _ e
   exact⟨o,e1,ex⟩
  ·obtain⟨⟨_,_,_,o,_,_,e1,ex,_⟩,_⟩:=I.hok d _ e
   exact⟨o,e1,ex⟩
 obtain⟨o,e,ex⟩:=z
 refine⟨⟨o,e,ex.1⟩,fun a e2=>?_⟩
 cases e2
 exact⟨o,e,ex.2.1⟩
def tSetd (P:Program) (w:World) (K:W.Frag) (to:TE) (t:TA):TE:=fun σ H Q=>to σ H fun x H1=>(∃ d kvs,x=.ref d∧SD P w H1 d kvs)∧t σ H1 fun xs H2=>rSetd P w K x xs H2 Q
theorem zjs {o e:Expr} {es:List Expr} {to:TE} {t:TA} {apos cpos:Pos} (hu:X.A.units+64 < cLine) (ho:PE X o to) (ha:PA X (e :: es) t)
  (hbase:attributeBase o "setdefault" X.env (eval o X.env)=eval o X.env:=by rfl)
  (hfew:((backTo cpos (starEach (e :: es) X.env)).all (fun x=>!x.1)&&(backToKw cpos (keywordEach [] X.env)).all (fun x=>x.1.isSome)
   && decide ((e :: es).length+([]:List Keyword).length+(if([]:List Keyword).isEmpty then 0 else 1) < 30))=true:=by rfl)
  (hline:(apos.endLine == cpos.line)=true:=by rfl) (hs:starEach (e :: es) X.env=(false,eval e X.env) :: starEach es X.env:=by rfl) (hplain:(backTo cpos (starEach es X.env)).any (·.1)=false:=by rfl) :
  PE X (.Call (.Attribute o "setdefault" apos) (e :: es) [] cpos) (tSetd X.prog X.w X.K to t):=by
 intro pins s σ H Q I h
 refine wpAny_Call_method_late hbase hfew hline rfl (thn (ho pins s σ H _ I h) fun v s1 ⟨x,H1,I1,r1,⟨d,kvs,ex,sd⟩,q1⟩=>?_)
 subst ex
 cases r1
 obtain⟨h1,h2⟩:=sd_is I1 sd
 refine⟨"dict","dict.setdefault",PySem.F.plainAttrs_dict,PySem.F.slot_dict_setdefault,PySem.F.type_dict_setdefault,h1,h2,?_⟩
 have hA:=ha cpos pins s1 σ H1 _ I1 q1
 rw[hs]at hA ⊢
 refine Calls.callWith_builtin (by show(false||(backTo cpos (starEach es X.env)).any (·.1))=false;rw[hplain] <;> rfl) (Calls.evalArgs_plain ?_)
 exact thn hA fun us s2 ⟨vs,H2,I2,r2,q2⟩=>zjL hu pins s2 σ H2 (.ref d) vs (.ref d) us Q I2 rfl r2 q2
end
end L2
namespace L2
open PySem
abbrev Tm:=Str × List Int
def dTm (t:Tm):Dt:=.tup [.str t.1,.tup (t.2.map Dt.int)]
theorem zjS {K:W.Frag} {H:Hp} {t:Tm} {v:V} (h:Has K H (dTm t) v):∃ p q,v=.ref p∧SqT K H p [.str t.1,.ref q]∧SqT K H q (t.2.map V.int):=by
 obtain⟨a,xs,rfl,h1,h2⟩:=h
 obtain⟨v1,r1,e1,g1,h3⟩:=h2
 obtain⟨v2,r2,e2,g2,h4⟩:=h3
 cases e1
 cases e2
 have e3:r2=[]:=by
  have:=ad.length h4
  exact List.length_eq_zero_iff.mp this.symm
 subst e3
 have e4:v1=.str t.1:=g1
 subst e4
 obtain⟨b,ys,rfl,k1,k2⟩:=g2
 rw[zdP k2]at k1
 exact⟨a,b,rfl,h1,k1⟩
theorem zd1 {K:W.Frag} {H:Hp} {t:Tm} {p q:Addr} (h:SqT K H p [.str t.1,.ref q]) (h2:SqT K H q (t.2.map V.int)):Has K H (dTm t) (.ref p):=Has.tup' h (.cons Has.str' (.cons (Has.tup' h2 (ad.ints _)) .nil))
theorem zaf:∀ ts:List Tm,zcs (ts.map dTm)=true
 | []=>by simp [zcs]
 | t :: ts=>by
  simp only[List.map_cons,zcs,dTm,nol,Bool.true_and,Bool.and_eq_true]
  exact⟨⟨zgJ _,trivial⟩,zaf ts⟩
theorem zcR:∀ ts:List Tm,za0 (ts.map dTm)≤2
 | []=>by simp [za0]
 | t :: ts=>by
  have h:=zcR ts
  simp only[List.map_cons,za0,dTm,dep,zen]
  omega
theorem zdJ {K:W.Frag} {H:Hp} {ts:List Tm} {xs:List V} {i:Nat} {x:V} (h:ad K H (ts.map dTm) xs) (e:xs[i]?=some x):∃ t p q,ts[i]?=some t∧x=.ref p∧SqT K H p [.str t.1,.ref q]∧SqT K H q (t.2.map V.int):=by
 obtain⟨d,h1,h2⟩:=h.get e
 rw[List.getElem?_map]at h1
 obtain⟨t,e1,e2⟩:=Option.map_eq_some_iff.mp h1
 rw[←e2]at h2
 obtain⟨p,q,e3,e4,e5⟩:=zjS h2
 exact⟨t,p,q,e1,e3,e4,e5⟩
def zd5 (ts:List Tm) (hd:Int→Int) (a b:Int):Prop:=∃ t u,ts[a.toNat]?=some t∧ts[b.toNat]?=some u∧t.1=u.1∧t.2.map hd=u.2.map hd
structure zc7 (ts:List Tm) (gs:List (Int × Int)) (pre:List Lk) (l:Lk):Prop where
 a:0≤l.1∧l.1 < (ts.length:Int)
 b:0≤l.2.1∧l.2.1 < (ts.length:Int)
 new:hdL pre l.1≠hdL pre l.2.1
 how:(0≤l.2.2∧gs[l.2.2.toNat]?=some (l.1,l.2.1))∨(l.2.2=-1∧zd5 ts (hdL pre) l.1 l.2.1)
def zau (ts:List Tm) (gs:List (Int × Int)) (ls:List Lk):Prop:=∀ i l,ls[i]?=some l→zc7 ts gs (ls.take i) l
theorem zau.nil (ts:List Tm) (gs:List (Int × Int)):zau ts gs []:=fun i l h=>by simp at h
theorem zau.snoc {ts:List Tm} {gs:List (Int × Int)} {ls:List Lk} {l:Lk} (h:zau ts gs ls) (k:zc7 ts gs ls l):zau ts gs (ls++[l]):=fun i m hm=>by
 have lt:=(List.getElem?_eq_some_iff.mp hm).1
 rw[List.length_append]at lt
 have lt:i < ls.length+1:=lt
 by_cases c:i < ls.length
 ·rw[List.getElem?_append_left c]at hm
  rw[List.take_append_of_le_length (by omega)]
  exact h i m hm
 ·have e:i=ls.length:=by omega
  subst e
  rw[List.getElem?_append_right (Nat.le_refl _),Nat.sub_self]at hm
  cases hm
  rw[List.take_append_of_le_length (Nat.le_refl _),List.take_length]
  exact k
theorem zau.inn {ts:List Tm} {gs:List (Int × Int)} {ls:List Lk} (h:zau ts gs ls):InN ts.length ls:=fun l hl=>by
 obtain⟨i,hi⟩:=List.mem_iff_getElem?.mp hl
 exact⟨(h i l hi).a,(h i l hi).b⟩
theorem zau.take {ts:List Tm} {gs:List (Int × Int)} {ls:List Lk} (h:zau ts gs ls) (n:Nat):zau ts gs (ls.take n):=fun i l hl=>by
 have lt:i < n:=by
  by_cases c:i < n
  ·exact c
  ·rw[List.getElem?_take,if_neg c]at hl
   cases hl
 rw[List.getElem?_take,if_pos lt]at hl
 rw[List.take_take,Nat.min_eq_left (by omega)]
 exact h i l hl
theorem zau.his {ts:List Tm} {gs:List (Int × Int)} {ls:List Lk} (h:zau ts gs ls):∀ n,n≤ls.length→∃ xs:List Int,xs.length=n∧xs.Nodup∧∀ x∈xs,(0≤x∧x < (ts.length:Int))∧hdL (ls.take n) x≠x:=by
 intro n
 induction n with
 | zero=>exact fun _=>⟨[],rfl,List.nodup_nil,fun x hx=>nomatch hx⟩
 | succ n ih =>
  intro hn
  obtain⟨xs,x1,x2,x3⟩:=ih (by omega)
  obtain⟨l,hl⟩:∃ l,ls[n]?=some l:=⟨_,List.getElem?_eq_getElem (by omega)⟩
  have k:=h n l hl
  have Hn:=zhY h.inn n (by omega)
  have lh:=lohi (hdL (ls.take n) l.1) (hdL (ls.take n) l.2.1)
  have la:=Hn.in' k.a
  have lb:=Hn.in' k.b
  have hi:=Hn.hi_id l.1 l.2.1
  have nn:=k.new
  refine⟨hiF (hdL (ls.take n) l.1) (hdL (ls.take n) l.2.1) :: xs,by rw[List.length_cons,x1],List.nodup_cons.mpr ⟨fun z=>(x3 _ z).2 hi,x2⟩,fun x hx=>?_⟩
  rw[zaT hl,zbo]
  rcases List.mem_cons.mp hx with rfl | hx
  ·refine⟨by omega,?_⟩
   unfold mrg
   rw[if_pos hi]
   omega
  ·refine⟨(x3 x hx).1,?_⟩
   have:=(x3 x hx).2
   have:=Hn.le x
   unfold mrg
   split <;> omega
theorem zau.len {ts:List Tm} {gs:List (Int × Int)} {ls:List Lk} (h:zau ts gs ls):ls.length≤ts.length:=by
 obtain⟨xs,x1,x2,x3⟩:=h.his ls.length (Nat.le_refl _)
 rw[←x1]
 exact zbG _ x2 fun x hx=>(x3 x hx).1
def zec (ts:List Tm) (hd:Int→Int):Prop:=∀(a b:Nat) t u,ts[a]?=some t→ts[b]?=some u→t.1=u.1→t.2.map hd=u.2.map hd→hd (a:Int)=hd (b:Int)
def zdt (gs:List (Int × Int)) (hd:Int→Int):Prop:=∀ p∈gs,hd p.1=hd p.2
theorem zdt.more {gs:List (Int × Int)} {ls:List Lk} (h:zdt gs (hdL ls)) (more:List Lk):zdt gs (hdL (ls++more)):=fun p hp=>zdO more (h p hp)
def zcd (N:Nat) (gs:List (Int × Int)):Prop:=∀ p∈gs,(0≤p.1∧p.1 < (N:Int))∧0≤p.2∧p.2 < (N:Int)
def zbL (t:Tm) (hd:Int→Int):Sgn:=(t.1,(t.2.map hd).map Sum.inl)
theorem zjj {t u:Tm} {hd:Int→Int} (h1:t.1=u.1) (h2:t.2.map hd=u.2.map hd):zbL t hd=zbL u hd:=by unfold zbL;rw[h1,h2]
theorem zhd:∀ {as bs:List Int},as.map (Sum.inl:Int→Key)=bs.map Sum.inl→as=bs
 | [],[],_=>rfl
 | [],b :: bs,h=>by cases h
 | a :: as,[],h=>by cases h
 | a :: as,b :: bs,h=>by
  rw[List.map_cons,List.map_cons]at h
  injection h with h1 h2
  injection h1 with h1
  rw[h1,zhd h2]
def ze8 (ts:List Tm) (hd:Int→Int) (i:Nat) (kvs:List SE):Prop:=∀ e∈kvs,∃(j:Nat) (t:Tm) (es:List Int),e.2.2=.int (j:Int)∧j < i∧ts[j]?=some t∧e.1=(t.1,es.map Sum.inl)∧es.map hd=t.2.map hd
theorem zdX {ls:List Lk} (more:List Lk):∀ {as bs:List Int},as.map (hdL ls)=bs.map (hdL ls)→as.map (hdL (ls++more))=bs.map (hdL (ls++more))
 | [],[],_=>rfl
 | [],b :: bs,h=>by cases h
 | a :: as,[],h=>by cases h
 | a :: as,b :: bs,h=>by
  rw[List.map_cons,List.map_cons]at h ⊢
  injection h with h1 h2
  rw[zdO more h1,zdX more h2]
theorem ze8.more {ts:List Tm} {ls:List Lk} {i j:Nat} {kvs:List SE} (h:ze8 ts (hdL ls) i kvs) (more:List Lk) (hij:i≤j):ze8 ts (hdL (ls++more)) j kvs:=fun e he=>by
 obtain⟨k,t,es,h1,h2,h3,h4,h5⟩:=h e he
 exact⟨k,t,es,h1,by omega,h3,h4,zdX more h5⟩
theorem zjX {kvs:List SE} {k:Sgn} {e:SE} (h:atS kvs k=some e):e∈kvs∧e.1=k:=⟨List.mem_of_find?_eq_some h,by
 unfold atS at h
 have:=List.find?_some h
 exact of_decide_eq_true this⟩
theorem zi6 {kvs:List SE} {k k2:Sgn} {e e2:SE} (h:atS kvs k=some e):atS (kvs++[e2]) k=some e:=by
 unfold atS at h ⊢
 rw[List.find?_append,h]
 rfl
theorem zjW {kvs:List SE} {k:Sgn} {p:Addr} {v:V} (h:atS kvs k=none):atS (kvs++[(k,p,v)]) k=some (k,p,v):=by
 unfold atS at h ⊢
 rw[List.find?_append,h]
 rw[List.find?_cons_of_pos (by exact decide_eq_true rfl)]
 rfl
theorem GO.ktG {H H':Hp} {C g ld gd:Addr} {N b:Nat} {hd:Int→Int} {av:List Addr} (G:GO H C g ld gd N b hd av) (s:zaw ld gd H H'):zam H H':=fun c xs h=>by
 obtain⟨dx,kl,kg,h1,h2,h3,_⟩:=G.ex
 rcases h with h | ⟨o,h⟩
 ·exact .inl (s _ _ (za4 h h2 (by intro z;cases z)) (za4 h h3 (by intro z;cases z)) h)
 ·exact .inr ⟨o,s _ _ (za4 h h2 (by intro z;cases z)) (za4 h h3 (by intro z;cases z)) h⟩
theorem GO.seqG {K:W.Frag} {H H':Hp} {C g ld gd:Addr} {N b:Nat} {hd:Int→Int} {av:List Addr} {a:Addr} {xs:List V} (G:GO H C g ld gd N b hd av) (s:zaw ld gd H H') (h:SqL K H a xs):SqL K H' a xs:=by
 obtain⟨dx,kl,kg,h1,h2,h3,_⟩:=G.ex
 rcases h with h | h
 ·rcases h with h | ⟨o,h⟩
  ·exact .inl (.inl (s _ _ (za4 h h2 (by intro z;cases z)) (za4 h h3 (by intro z;cases z)) h))
  ·exact .inl (.inr ⟨o,s _ _ (za4 h h2 (by intro z;cases z)) (za4 h h3 (by intro z;cases z)) h⟩)
 ·exact .inr h
theorem GO.lstG {H H':Hp} {C g ld gd:Addr} {N b:Nat} {hd:Int→Int} {av:List Addr} {a:Addr} {xs:List V} (G:GO H C g ld gd N b hd av) (s:zaw ld gd H H') (h:H a=some (.lst xs)):H' a=some (.lst xs):=by
 obtain⟨dx,kl,kg,h1,h2,h3,_⟩:=G.ex
 exact s _ _ (za4 h h2 (by intro z;cases z)) (za4 h h3 (by intro z;cases z)) h
theorem zaw.grow {ld gd l:Addr} {H H':Hp} {o:HO} (s:zaw ld gd H H') (n:H l=none):zaw ld gd H (upd H' l o):=fun b u n1 n2 h=>by
 rw[ap (zaB h n)]
 exact s b u n1 n2 h
theorem GO.putL {H:Hp} {C g ld gd:Addr} {N b:Nat} {hd:Int→Int} {av:List Addr} {l:Addr} {xs:List V} {o:HO} (G:GO H C g ld gd N b hd av) (hl:l∈av) (h:H l=some (.lst xs)):GO (upd H l o) C g ld gd N b hd av:=by
 obtain⟨dx,kl,kg,h1,h2,h3,_⟩:=id G.ex
 exact G.put (.inl hl) (za4 h h1 (by intro z;cases z)) (za4 h h2 (by intro z;cases z)) (za4 h h3 (by intro z;cases z))
theorem ze3 {K:W.Frag} {H:Hp} {ts:List (Int × Int)} {xs:List V} {i:Nat} {x:V} (h:ad K H (ts.map dP) xs) (e:xs[i]?=some x):∃ t p,ts[i]?=some t∧x=.ref p∧SqT K H p [.int t.1,.int t.2]:=zhf h e
theorem zam.sd {P:Program} {w:World} {H:Hp} {d:Addr} {kvs:List SE} {o:HO} (h:SD P w H d kvs):zam H (upd H d o):=fun b xs q=>by
 have ne:b≠d:=fun e=>by
  subst e
  rcases h with ⟨h,_⟩ | h
  ·rcases q with q | ⟨u,q⟩
   ·rw[h]at q;cases q
   ·rw[h]at q;cases q
  ·rcases q with q | ⟨u,q⟩
   ·rw[h]at q;cases q
   ·rw[h]at q;cases q
 rcases q with q | ⟨u,q⟩
 ·exact .inl (by rw[ap ne];exact q)
 ·exact .inr ⟨u,by rw[ap ne];exact q⟩
theorem SD.nol {P:Program} {w:World} {H:Hp} {d:Addr} {kvs:List SE} (h:SD P w H d kvs) (xs:List V):H d≠some (.lst xs):=fun e=>by
 rcases h with ⟨h,_⟩ | h
 ·rw[h]at e;cases e
 ·rw[h]at e;cases e
theorem SD.noi {P:Program} {w:World} {H:Hp} {d:Addr} {kvs:List SE} (h:SD P w H d kvs) {C dx:Addr} {fs:List (Str × V)} (e:H d=some (.ins C dx fs)):False:=by
 rcases h with ⟨h,_⟩ | h
 ·rw[h]at e;cases e
 ·rw[h]at e;cases e
theorem SD.to {P:Program} {w:World} {H H':Hp} {d:Addr} {kvs:List SE} (h:SD P w H d kvs) (k:∀ o,H d=some o→H' d=some o):SD P w H' d kvs:=h.imp (fun z=>⟨k _ z.1,z.2⟩) fun z=>k _ z
theorem zcH.keep {K:W.Frag} {H H':Hp} {k:Sgn} {p:Addr} (h:zcH K H k p) (kt:zam H H'):zcH K H' k p:=by
 obtain⟨q,h1,h2⟩:=h
 exact⟨q,kt.sq h1,kt.sq h2⟩
def zfy (ts:List Tm) (hd:Int→Int) (i:Nat) (kvs:List SE):Prop:=∀(j:Nat) t,j < i→ts[j]?=some t→∃ e k,atS kvs (zbL t hd)=some e∧e.2.2=.int k∧hd k=hd (j:Int)
theorem zfy.closed {ts:List Tm} {hd:Int→Int} {kvs:List SE} (h:zfy ts hd ts.length kvs):zec ts hd:=fun a b t u ha hb e1 e2=>by
 obtain⟨e,k,z1,z2,z3⟩:=h a t (List.getElem?_eq_some_iff.mp ha).1 ha
 obtain⟨e',k',y1,y2,y3⟩:=h b u (List.getElem?_eq_some_iff.mp hb).1 hb
 rw[zjj e1 e2]at z1
 cases z1.symm.trans y1
 have:=z2.symm.trans y2
 injection this with this
 subst this
 exact z3.symm.trans y3
def zd3 (st:List Lk × Nat) (p:Int × Int):List Lk × Nat:=(if hdL st.1 p.1=hdL st.1 p.2 then st.1 else st.1++[(p.1,p.2,(st.2:Int))],st.2+1)
def gvF (gs:List (Int × Int)):List Lk:=(gs.foldl zd3 ([],0)).1
def zdr (ls:List Lk) (st:List Lk × List (Sgn × Int) × Nat) (t:Tm):List Lk × List (Sgn × Int) × Nat :=
 match st.2.1.find? fun e=>decide (e.1=zbL t (hdL (ls++st.1))) with
 | some e=>if hdL (ls++st.1) e.2=hdL (ls++st.1) (st.2.2:Int) then(st.1,st.2.1,st.2.2+1) else(st.1++[(e.2,(st.2.2:Int),-1)],st.2.1,st.2.2+1)
 | none=>(st.1,st.2.1++[(zbL t (hdL (ls++st.1)),(st.2.2:Int))],st.2.2+1)
def alF (ts:List Tm) (ls:List Lk):List Lk:=(ts.foldl (zdr ls) ([],[],0)).1
def lkF (ts:List Tm):Nat→List Lk→List Lk
 | 0,fs=>fs
 | n+1,fs=>if alF ts fs=[] then fs else lkF ts n (fs++alF ts fs)
def zfJ (ts:List Tm) (gs:List (Int × Int)):List Lk:=lkF ts (ts.length+1) (gvF gs)
def NtR (kvs:List SE) (nt:List (Sgn × Int)):Prop:=kvs.map (fun e=>(e.1,e.2.2))=nt.map fun x=>(x.1,V.int x.2)
theorem NtR.at {k:Sgn}:∀ {kvs:List SE} {nt:List (Sgn × Int)},NtR kvs nt→(∃ e x,atS kvs k=some e∧nt.find? (fun e=>decide (e.1=k))=some x∧e.2.2=.int x.2)∨(atS kvs k=none∧nt.find? (fun e=>decide (e.1=k))=none)
 | [],[],_=>.inr ⟨rfl,rfl⟩
 | [],x :: nt,h=>by cases h
 | e :: kvs,[],h=>by cases h
 | e :: kvs,x :: nt,h=>by
  unfold NtR at h
  rw[List.map_cons,List.map_cons]at h
  injection h with h1 h2
  injection h1 with h3 h4
  by_cases c:e.1=k
  ·refine .inl ⟨e,x,?_,?_,h4⟩
   ·unfold atS
    rw[List.find?_cons_of_pos (by exact decide_eq_true c)]
   ·rw[List.find?_cons_of_pos (by exact decide_eq_true (h3 ▸ c))]
  ·have e1:atS (e :: kvs) k=atS kvs k:=by
    unfold atS
    rw[List.find?_cons_of_neg (by simpa using c)]
   rw[e1,List.find?_cons_of_neg (by simpa using (fun z=>c (h3.trans z)))]
   exact NtR.at h2
theorem NtR.snoc {kvs:List SE} {nt:List (Sgn × Int)} {k:Sgn} {p:Addr} {i:Int} (h:NtR kvs nt):NtR (kvs++[(k,p,.int i)]) (nt++[(k,i)]):=by
 unfold NtR at h ⊢
 rw[List.map_append,List.map_append,h]
 rfl
end L2
namespace HT
open PySem PySem.Spec PyProof.Rows
section
variable {prog:Program} {w:World} {A:Around} {E:Value→Shared→Prop} {s:Shared}
theorem zhJ (n:Nat):Builtin.Slice.sliceAdjust none none (-1) (n:Int)=((n:Int) - 1,-1):=rfl
theorem zhx (n:Nat):Builtin.Slice.slicePlaces ((n:Int) - 1) (-1) (-1)=n:=by
 unfold Builtin.Slice.slicePlaces
 have h1:¬((-1:Int) > 0):=by omega
 simp only[h1,if_false]
 rw[show(-(-1:Int))=1 from rfl,Int.ediv_one]
 split <;> omega
theorem zfz {sl:Addr} {t:Tok} {n:Nat} {Q:Int × Int × Nat→Shared→Prop} (hs:s.heap.IsSliceOf sl .none .none (.int (-1) t)) (h:Q ((n:Int) - 1,-1,n) s) :
  wpAny (model prog w) A (Builtin.Slice.sliceApplied (.ref sl) (pure (n:Int))) Q E s:=by
 obtain⟨os,hos,hcs,hds⟩:=id hs
 unfold Builtin.Slice.sliceApplied Builtin.Slice.sliceFields
 refine wpAny_bind (wpAny_bind (wpAny_field hos hds (x:=.none) rfl (wpAny_bind (wpAny_field hos hds (x:=.none) rfl (wpAny_bind (wpAny_field hos hds (x:=.int (-1) t) rfl (wpAny_pure ?_)))))))
 refine wpAny_bind (slicePart_int ?_)
 show wpAny _ _ (if((-1:Int) == 0)=true then _ else _) _ _ s
 rw[if_neg (by decide)]
 refine wpAny_bind (slicePart_none (wpAny_bind (slicePart_none (wpAny_bind (wpAny_pure ?_)))))
 show wpAny _ _ (match Builtin.Slice.sliceAdjust none none (-1) (n:Int) with | (lo,hi)=>pure (lo,(-1:Int),Builtin.Slice.slicePlaces lo hi (-1))) _ _ s
 rw[zhJ n]
 show wpAny _ _ (pure ((n:Int) - 1,(-1:Int),Builtin.Slice.slicePlaces ((n:Int) - 1) (-1) (-1))) _ _ s
 rw[zhx]
 exact wpAny_pure h
theorem ziF (xs:Array Value):((List.range xs.size).filterMap fun(m:Nat)=>xs[(((xs.size:Nat):Int) - 1+(m:Int) * (-1)).toNat]?).toArray=xs.toList.reverse.toArray:=by
 congr 1
 apply List.ext_getElem?
 intro i
 have key:∀ k,k≤xs.size→(List.range k).filterMap (fun(m:Nat)=>xs[(((xs.size:Nat):Int) - 1+(m:Int) * (-1)).toNat]?)=xs.toList.reverse.take k:=by
  intro k
  induction k with
  | zero=>intro _;rfl
  | succ k ih =>
   intro hk
   rw[List.range_succ,List.filterMap_append,ih (by omega)]
   have e:(((xs.size:Nat):Int) - 1+(k:Int) * (-1)).toNat=xs.size - 1 - k:=by omega
   have g:xs.toList.reverse[k]?=some (xs[xs.size - 1 - k]'(by omega)):=by
    rw[List.getElem?_reverse (by rw[Array.length_toList];omega),Array.length_toList,Array.getElem?_toList,Array.getElem?_eq_getElem (by omega)]
   rw[List.take_add_one,g]
   show _++List.filterMap _ [k]=_++[_]
   rw[List.filterMap_cons,e,Array.getElem?_eq_getElem (by omega)]
   rfl
 rw[key xs.size (Nat.le_refl _),List.take_of_length_le (by rw[List.length_reverse,Array.length_toList];exact Nat.le_refl _)]
theorem getItem_tuple_rev {t sl:Addr} {items:Array Value} {tk:Tok} {Q:Value→Shared→Prop} (ht:IsTup s.heap t items) (hs:s.heap.IsSliceOf sl .none .none (.int (-1) tk))
  (h:Q (.ref s.heap.objs.size) { s with heap:=s.heap.push { cls:=.type "tuple",data:=.seq items.toList.reverse.toArray } })
  (hsz:items.size≤sizeLine):wpAny (model prog w) A (getItem (.ref t) (.ref sl)) Q E s:=by
 have htake:sizeOk (.seq items.toList.reverse.toArray):=by
  show items.toList.reverse.toArray.size≤sizeLine
  rw[List.size_toArray,List.length_reverse,Array.length_toList]
  exact hsz
 obtain⟨os,hos,hcs,hds⟩:=id hs
 have hTs:s.TypeIs (.ref sl) "slice":=⟨os,hos,hcs⟩
 unfold getItem
 try with_reducible refine wpAny_holding ?_
 first | refine wpAny_bind (wpAny_pure ?_) | skip
 refine wpAny_bind (wpAny_sequenceKey ht.typeIs (by decide) ?_)
 refine wpAny_bind (wpAny_callSpecial?_slot (name:=Str.ofString "__getitem__") ht.typeIs PyProof.Rows.slot_tuple_getitem
  (wpAny_call_entry PyProof.Rows.slot_tuple_getitem ht.typeIs entry_tuple_getitem ?_ (args_tuple_getitem _ _)))
 show wpAny _ _ (Builtin.Tuple.tupleItemsOf (.ref t) >>= _) _ _ s
 refine wpAny_bind (tupleItemsOf_ ht ?_)
 refine wpAny_bind (wpAny_typeOf hTs ?_)
 rw[if_pos (by decide)]
 refine wpAny_bind (zfz hs ?_)
 have hno:¬(((((items.size:Nat):Int) - 1) == 0&&(-1:Int) == 1&&items.size == items.size)=true):=by
  intro q
  rw[Bool.and_eq_true,Bool.and_eq_true]at q
  exact absurd q.1.2 (by decide)
 show wpAny _ _ (if((((items.size:Nat):Int) - 1) == 0&&(-1:Int) == 1&&items.size == items.size)=true then _ else _) _ _ s
 rw[if_neg hno,ziF]
 first
  | exact wpAny_bind (m:=Builtin.Tuple.tupleExact _) (wpAny_newObj_type (wpAny_pure ⟨_,rfl,wpAny_pure h⟩) htake)
  | exact wpAny_bind (m:=Builtin.Tuple.tupleExact _) (wpAny_newObj_type (wpAny_bind (wpAny_pure (wpAny_pure ⟨_,rfl,wpAny_pure h⟩))) htake)
  | exact wpAny_bind (wpAny_bind (m:=Builtin.Tuple.tupleExact _) (wpAny_newObj_type (wpAny_pure (wpAny_pure ⟨_,rfl,wpAny_pure h⟩)) htake))
  | exact wpAny_bind (wpAny_bind (m:=Builtin.Tuple.tupleExact _) (wpAny_newObj_type (wpAny_pure ⟨_,rfl,wpAny_pure h⟩) htake))
end
end HT
namespace L2
open PySem PySem.Spec PyProof.Rows
theorem aw.rev {xs:List V} {us:List Value} (h:aw xs us):aw xs.reverse us.reverse:=by
 induction h with
 | nil=>exact .nil
 | cons r t ih =>
  rw[List.reverse_cons,List.reverse_cons]
  exact ih.append (.cons r .nil)
section
variable {X:Cx} {e st:Expr} {te ts:TE} {pos p2:Pos}
def tRevT (K:W.Frag) (te ts:TE):TE:=fun σ H Q=>te σ H fun x H1=>ts σ H1 fun y H2=>y=.int (-1)∧∃ a xs,x=.ref a∧SqT K H2 a xs∧∀ p,H2 p=none→Q (.ref p) (upd H2 p (.tup xs.reverse))
theorem zjt (he:PE X e te) (hst:PE X st ts):PE X (.Subscript e (.Slice none none (some st) p2) pos) (tRevT X.K te ts):=by
 intro pins s σ H Q I h
 refine Subscript_ (thn (he pins s σ H _ I h) fun v s1 ⟨x,H1,I1,r1,q1⟩=>?_)
 refine wpAny_Slice ?_
 rw[evalPart_none]
 refine wpAny_pure (wpAny_pure ?_)
 rw[evalPart_some]
 refine thn (hst pins s1 σ H1 _ I1 q1) fun u s3 ⟨y,H3,I3,r3,ey,a,xs,ex,hx,q⟩=>?_
 subst ey ex
 obtain⟨tk,rfl⟩:=r3
 cases r1
 have I4:Inv X pins σ H3 { s3 with heap:=s3.heap.push { cls:=.type "slice",data:=.fields #[.none,.none,.int (-1) tk] } }:=I3.kept (t':=s3.toks) fun b ob q=>Heap.get?_push_of_some _ q
 obtain⟨its,r,ht,hz⟩:=I4.tuple hx
 have hlen:its.toArray.size=xs.length:=by rw[List.size_toArray];exact r.length.symm
 have hg:wpAny (model X.prog X.w) X.A (getItem (.ref a) (.ref s3.heap.objs.size)) (EP X pins σ Q) X.xe { s3 with heap:=s3.heap.push { cls:=.type "slice",data:=.fields #[.none,.none,.int (-1) tk] } }:=by
  refine HT.getItem_tuple_rev (tk:=tk) ht (Heap.IsSliceOf.new ..) ?_ (by rw[hlen];exact hz)
  refine⟨.ref _,_,I4.laid (o:=.tup xs.reverse) (t':=s3.toks) (fun b ob e=>Heap.get?_push_of_some _ e) (Nat.le_refl _) ?_,rfl,q _ (I4.hok.fresh (Nat.le_refl _))⟩
  refine⟨by rw[List.length_reverse];exact hz,its.reverse,r.rev,_,Heap.get?_push_size _ rfl,rfl,0,?_⟩
  simp
 show wpAny (model X.prog X.w) X.A (subscriptTail e (.Slice none none (some st) p2) (.ref a) (.ref s3.heap.objs.size)) (EP X pins σ Q) X.xe { s3 with heap:=s3.heap.push { cls:=.type "slice",data:=.fields #[.none,.none,.int (-1) tk] } }
 exact tail_any (ops:=[.ref a,.ref s3.heap.objs.size]) ht.typeIs PyProof.Rows.slot_tuple_getitem.lookup hg (by with_unfolding_all rfl)
end
end L2
namespace L2
open PySem
abbrev zfh:Str:="abcdefghijklmnopqrstuvwxyz"
theorem zgQ:zfh.cps.toList.length=26:=by decide +kernel
theorem zgB {α:Type} {xs:List α} {i:Int} (h0:0≤i) (h1:i < (xs.length:Int)):∃ c,atI xs i=some c:=by
 have hk:i.toNat < xs.length:=by omega
 have e:i=((i.toNat:Nat):Int):=by omega
 have q:atI xs ((i.toNat:Nat):Int)=some xs[i.toNat]:=zad (List.getElem?_eq_getElem hk)
 rw[←e]at q
 exact⟨_,q⟩
theorem zfL {α:Type} {xs:List α} {i:Int} (h0:0≤i) (h1:i < (xs.length:Int)):∃ c,atI xs i=some c∧c∈xs:=by
 have hk:i.toNat < xs.length:=by omega
 have e:i=((i.toNat:Nat):Int):=by omega
 have q:atI xs ((i.toNat:Nat):Int)=some xs[i.toNat]:=zad (List.getElem?_eq_getElem hk)
 rw[←e]at q
 exact⟨_,q,List.getElem_mem hk⟩
theorem zdE (a b:Str):(a++b).length=a.length+b.length:=by
 show(a.cps++b.cps).size=a.cps.size+b.cps.size
 exact Array.size_append
theorem zhl {w:Str} {lo hi:Option Int} {n:Nat} (h:w.length≤n):(Txt.slice w lo hi).length≤n:=Nat.le_trans (Txt.slice_le w lo hi) h
theorem zdB (c:Nat):(⟨#[c]⟩:Str).length=1:=rfl
theorem szS {n:Nat} (h:n≤1000):n≤sizeLine:=Nat.le_of_lt (zaU h)
end L2
namespace L2
open PySem
def zdl (zs:List Str) (n:Nat) (t:Tm):Prop:=t.1∈zs∧t.2.length≤3∧∀ x∈t.2,0≤x∧x < (n:Int)
def TmW (zs:List Str) (ts:List Tm):Prop:=∀ i t,ts[i]?=some t→zdl zs i t
theorem zdl.mono {zs:List Str} {n m:Nat} {t:Tm} (h:zdl zs n t) (hn:n≤m):zdl zs m t:=⟨h.1,h.2.1,fun x hx=>by have:=h.2.2 x hx;omega⟩
theorem TmW.all {zs:List Str} {ts:List Tm} (h:TmW zs ts) {t:Tm} (ht:t∈ts):zdl zs ts.length t:=by
 obtain⟨i,hi⟩:=List.mem_iff_getElem?.mp ht
 exact(h i t hi).mono (Nat.le_of_lt (List.getElem?_eq_some_iff.mp hi).1)
theorem TmW.snoc {zs:List Str} {ts:List Tm} {t:Tm} (h:TmW zs ts) (k:zdl zs ts.length t):TmW zs (ts++[t]):=fun i u hu=>by
 have lt:=(List.getElem?_eq_some_iff.mp hu).1
 rw[List.length_append]at lt
 have lt:i < ts.length+1:=lt
 by_cases c:i < ts.length
 ·rw[List.getElem?_append_left c]at hu
  exact h i u hu
 ·have e:i=ts.length:=by omega
  subst e
  rw[List.getElem?_append_right (Nat.le_refl _),Nat.sub_self]at hu
  cases hu
  exact k
theorem TmW.nil (zs:List Str):TmW zs []:=fun i t h=>by simp at h
theorem ze2 (ds:List Dt):peq (.lst ds) (.lst [])=ds.isEmpty:=by
 cases ds with
 | nil=>simp [peq,za5]
 | cons d ds=>simp [peq,za5]
theorem ziI (ds:List Dt):peq (.tup ds) (.tup [])=ds.isEmpty:=by
 cases ds with
 | nil=>simp [peq,za5]
 | cons d ds=>simp [peq,za5]
theorem two_at {α:Type} (x y:α) (c:Int):(c % 2=0∧atI [x,y] (c % 2)=some x)∨(c % 2=1∧atI [x,y] (c % 2)=some y):=by
 have h:c % 2=0∨c % 2=1:=by omega
 rcases h with h | h
 ·exact .inl ⟨h,by rw[h];exact zad (j:=0) rfl⟩
 ·exact .inr ⟨h,by rw[h];exact zad (j:=1) rfl⟩
theorem ixN_in {n:Nat} {k:Int} (h0:0≤k) (h1:k < (n:Int)):∃ j,ixN n k=some j∧j < n:=by
 refine⟨k.toNat,?_,by omega⟩
 unfold ixN
 rw[if_pos h0,if_pos h1]
theorem zgL {K:W.Frag} {H:Hp} {ts:List Tm} {xs:List V} {v:V} (h:ad K H (ts.map dTm) xs) (hv:v∈xs):∃ t p q,t∈ts∧v=.ref p∧SqT K H p [.str t.1,.ref q]∧SqT K H q (t.2.map V.int):=by
 obtain⟨i,hi⟩:=List.mem_iff_getElem?.mp hv
 obtain⟨t,p,q,h1,h2,h3⟩:=zdJ h hi
 exact⟨t,p,q,List.mem_of_getElem? h1,h2,h3⟩
theorem ad.take {K:W.Frag} {H:Hp}:∀ {ds:List Dt} {vs:List V} (n:Nat),ad K H ds vs→ad K H (ds.take n) (vs.take n)
 | _,_,0,_=>ad.nil
 | [],vs,n+1,h=>by
  have e:=ad.length h
  have e2:vs=[]:=List.length_eq_zero_iff.mp e.symm
  subst e2
  exact ad.nil
 | d :: ds,vs,n+1,h=>by
  obtain⟨v,r,e,h1,h2⟩:=h
  cases e
  rw[List.take_succ_cons,List.take_succ_cons]
  exact ad.cons h1 (ad.take n h2)
theorem zfw (xs:List V) (m:Nat):zee xs none (some (m:Int))=xs.take m:=by
 unfold zee
 rw[HT.sIx_none,HT.sIx_nat,List.drop_zero,Nat.sub_zero]
 by_cases h:m≤xs.length
 ·rw[Nat.min_eq_left h]
 ·rw[Nat.min_eq_right (by omega),List.take_of_length_le (Nat.le_refl _),List.take_of_length_le (by omega)]
end L2
namespace L2
open PySem
end L2
namespace L2
open PySem
theorem decS (x y:Str):decide (V.str x=V.str y)=decide (x=y):=decide_eq_decide.mpr ⟨fun z=>by injection z,fun z=>by rw[z]⟩
theorem zdT (x y:Int):decide (V.int x=V.int y)=decide (x=y):=decide_eq_decide.mpr ⟨fun z=>by injection z,fun z=>by rw[z]⟩
def zcf (hd:Int→Int) (n:Nat):List Int:=(List.range n).map fun i:Nat=>hd (i:Int)
theorem zbD (hd:Int→Int) {n:Nat} {k:Int} (h0:0≤k) (h1:k < (n:Int)):atI ((zcf hd n).map V.int) k=some (.int (hd k)):=zfv (ls:=[]) hd h0 h1
end L2
namespace L2
open PySem PySem.Spec PyProof.Rows
section
variable {prog:Program} {w:World} {A:Around} {E:Value→Shared→Prop} {s:Shared}
theorem zcL {it t:Addr} {i:Nat} {items} {x:Value} {Q:Value→Shared→Prop} (hit:s.heap.IsTupleIter it t i) (ht:s.heap.IsTuple t items) (hx:items[i]?=some x)
  (hQ:∀ h',h'.IsTupleIter it t (i+1)→Heap.SameBut it s.heap h'→Q x { s with heap:=h' }):wpAny (model prog w) A (Builtin.SmallTypes.nextOf (.ref it)) Q E s:=by
 obtain⟨o,ho,hc,hd⟩:=id hit
 obtain⟨ol,hol,_,nl,hdl⟩:=ht
 unfold Builtin.SmallTypes.nextOf
 refine wpAny_bind (wpAny_callSpecial?_slot (name:=Str.ofString "__next__") hit.typeIs F.slot_tuple_iterator_next (wpAny_call_entry F.slot_tuple_iterator_next hit.typeIs F.entry_tuple_iterator_next ?_ (F.args_tuple_iterator_next_1 _)))
 show wpAny _ _ (field (.ref it) 0 >>= _) _ _ s
 refine wpAny_bind (wpAny_field ho hd (x:=.ref t) rfl ?_)
 show wpAny _ _ (if(Value.ref t == Value.none)=true then _ else _) _ _ s
 rw[if_neg (show ¬((Value.ref t == Value.none)=true) from Bool.false_ne_true)]
 show wpAny _ _ (field (.ref it) 1 >>= _) _ _ s
 refine wpAny_bind (wpAny_field ho hd (x:=.int i 0) rfl ?_)
 show wpAny _ _ (seqItems? (.ref t) >>= _) _ _ s
 refine wpAny_bind (wpAny_seqItems hol hdl ?_)
 simp only[Int.toNat_natCast,hx]
 refine wpAny_bind (wpAny_setField ho hd (by simp) (wpAny_pure ⟨x,rfl,wpAny_pure (hQ _ ?_ (Heap.SameBut.update ..))⟩))
 exact⟨_,Heap.get?_update_self _ ho (Obj.isFreed_of_fields (Obj.data_mapFields hd _)),(Obj.cls_mapFields ..).trans hc,by
  rw[Obj.data_mapFields hd];simp [rawInt]⟩
theorem zcU {it t:Addr} {i:Nat} {items} {Q:Value→Shared→Prop} (hh:A.handled=none) (hit:s.heap.IsTupleIter it t i) (ht:s.heap.IsTuple t items) (hx:items[i]?=none)
  (hE:∀ h' e,Heap.ExtBut it s.heap h'→(∃ o,h'.get? e=some o∧o.cls=.type "StopIteration")→E (.ref e) { s with heap:=h' }):wpAny (model prog w) A (Builtin.SmallTypes.nextOf (.ref it)) Q E s:=by
 obtain⟨o,ho,hc,hd⟩:=id hit
 obtain⟨ol,hol,_,nl,hdl⟩:=ht
 unfold Builtin.SmallTypes.nextOf
 refine wpAny_bind (wpAny_callSpecial?_slot (name:=Str.ofString "__next__") hit.typeIs F.slot_tuple_iterator_next (wpAny_call_entry F.slot_tuple_iterator_next hit.typeIs F.entry_tuple_iterator_next ?_ (F.args_tuple_iterator_next_1 _)))
 show wpAny _ _ (field (.ref it) 0 >>= _) _ _ s
 refine wpAny_bind (wpAny_field ho hd (x:=.ref t) rfl ?_)
 show wpAny _ _ (if(Value.ref t == Value.none)=true then _ else _) _ _ s
 rw[if_neg (show ¬((Value.ref t == Value.none)=true) from Bool.false_ne_true)]
 show wpAny _ _ (field (.ref it) 1 >>= _) _ _ s
 refine wpAny_bind (wpAny_field ho hd (x:=.int i 0) rfl ?_)
 show wpAny _ _ (seqItems? (.ref t) >>= _) _ _ s
 refine wpAny_bind (wpAny_seqItems hol hdl ?_)
 simp only[Int.toNat_natCast,hx]
 refine wpAny_bind (wpAny_rule (wpAny_bind (wpAny_setField ho hd (by simp) ?_)))
 show wpAny _ _ (newExc (.type "StopIteration") [] >>= _) _ _ _
 refine wpAny_bind ?_
 simp only[newExc,newTuple]
 refine wpAny_bind (wpAny_newObj_type ?_ (by size_fits))
 refine wpAny_bind (m:=firstArgMember _ _) (wpAny_of_eq (a:=Value.none) (by first | rfl | (simp only[firstArgMember];rfl)) ?_)
 refine wpAny_newObj_type ?_ (by size_fits)
 simp only[raiseNew]
 refine wpAny_bind (wpAny_handled ?_)
 first | rw[show A.in1.handled=none from hh] | rw[hh]
 refine wpAny_bind (wpAny_pure (wpAny_throw ?_))
 exact hE _ _ (((Heap.SameBut.update ..).extBut.push _).push _) ⟨_,Heap.get?_push_size _ rfl,rfl⟩
def TuI (h:Heap) (it t:Addr) (i:Nat) (xs:Array Value):Prop:=h.IsTupleIter it t i∧h.IsTuple t xs
theorem TuI.ext {h h':Heap} {it t b:Addr} {i:Nat} {xs:Array Value} (x:TuI h it t i xs) (hs:Heap.ExtBut b h h') (h1:it≠b) (h2:t≠b):TuI h' it t i xs:=⟨x.1.extBut hs h1,x.2.extBut hs h2⟩
theorem zh4 {z TI' TO i1 i2 l1 l2:Addr} {k1 k2:Nat} {xs ys:Array Value} {x y a b:Value} {Q:Value→Shared→Prop} (D:ZipApart z TI' TO i1 i2 l1 l2)
  (hz:IsZip s.heap z TI' TO .none) (hTI:IsPair s.heap TI' (.ref i1) (.ref i2)) (hTO:IsPair s.heap TO a b) (h1:TuI s.heap i1 l1 k1 xs) (h2:TuI s.heap i2 l2 k2 ys) (hx:xs[k1]?=some x) (hy:ys[k2]?=some y)
  (hQ:∀ h',IsZip h' z TI' TO (rawInt s.heap.objs.size)→IsPair h' TO x y→h'.IsTupleIter i1 l1 (k1+1)→h'.IsTupleIter i2 l2 (k2+1)→IsPair h' s.heap.objs.size x y→h'.objs.size=s.heap.objs.size+1 →
   (∀ c o,c≠z→c≠TO→c≠i1→c≠i2→s.heap.get? c=some o→h'.get? c=some o)→Q (.ref s.heap.objs.size) { s with heap:=h' }) :
  wpAny (model prog w) A (Builtin.«zip.__next__» ⟨[.ref z],[]⟩) (fun fin s'=>∃ v,fin=.done (.ret v)∧Q v s') E s:=by
 show wpAny _ _ (field (.ref z) 2 >>= _) _ _ _
 refine wpAny_bind (wpAny_field hz rfl (x:=.bool false) rfl ?_)
 show wpAny _ _ (field (.ref z) 3 >>= _) _ _ _
 refine wpAny_bind (wpAny_field hz rfl (x:=.ref TI') rfl ?_)
 refine wpAny_bind (wpAny_seqItems hTI rfl ?_)
 show wpAny _ _ (Builtin.SmallTypes.ownedTupleIsFree (.ref z) >>= _) _ _ _
 refine wpAny_bind ?_
 unfold Builtin.SmallTypes.ownedTupleIsFree
 refine wpAny_bind (wpAny_field hz rfl (x:=.none) rfl (wpAny_pure ?_))
 simp only[if_true]
 refine wpAny_bind (wpAny_rule ?_)
 refine wpAny_bind (wpAny_field hz rfl (x:=.ref TO) rfl ?_)
 refine wpAny_bind (wpAny_setField_rec hz (by simp) fun h₁ hz₁ hs₁=>?_)
 replace hz₁:IsZip h₁ z TI' TO .ellipsis:=hz₁
 refine wpAny_bind ?_
 simp only[List.zipIdx_cons,List.zipIdx_nil,List.forIn_cons,List.forIn_nil]
 refine wpAny_bind (wpAny_bind (wpAny_onRaise ?_))
 show wpAny _ _ (Builtin.SmallTypes.nextOf (.ref i1) >>= _) _ _ _
 have a1:=h1.ext hs₁.extBut D.i1z D.l1z
 refine wpAny_bind (zcL a1.1 a1.2 hx fun h₂ h1₂ hs₂=>wpAny_pure ?_)
 have hTO₂:IsPair h₂ TO a b:=hs₂.extBut _ _ D.TOi1 (hs₁.extBut _ _ D.TOz hTO)
 refine wpAny_bind (wpAny_seqItems hTO₂ rfl ?_)
 refine wpAny_bind (wpAny_updateSeq_pair hTO₂ fun h₃ hTO₃ hs₃=>?_)
 replace hTO₃:IsPair h₃ TO x b:=hTO₃
 refine wpAny_bind (wpAny_letGo (wpAny_pure ?_))
 refine wpAny_bind (wpAny_bind (wpAny_onRaise ?_))
 show wpAny _ _ (Builtin.SmallTypes.nextOf (.ref i2) >>= _) _ _ _
 have a2:=((h2.ext hs₁.extBut D.i2z D.l2z).ext hs₂.extBut D.i12.symm D.l2i1).ext hs₃.extBut D.TOi2.symm D.l2TO
 refine wpAny_bind (zcL a2.1 a2.2 hy fun h₄ h2₄ hs₄=>wpAny_pure ?_)
 have hTO₄:IsPair h₄ TO x b:=hs₄.extBut _ _ D.TOi2 hTO₃
 refine wpAny_bind (wpAny_seqItems hTO₄ rfl ?_)
 refine wpAny_bind (wpAny_updateSeq_pair hTO₄ fun h₅ hTO₅ hs₅=>?_)
 replace hTO₅:IsPair h₅ TO x y:=hTO₅
 refine wpAny_bind (wpAny_letGo (wpAny_pure (wpAny_pure ?_)))
 refine wpAny_bind (wpAny_seqItems hTO₅ rfl ?_)
 refine wpAny_bind (wpAny_newTuple ?_)
 have hsz:h₅.objs.size=s.heap.objs.size:=by rw[hs₅.1,hs₄.1,hs₃.1,hs₂.1,hs₁.1]
 have hz₅:IsZip h₅ z TI' TO .ellipsis:=hs₅.extBut _ _ D.TOz.symm (hs₄.extBut _ _ D.i2z.symm (hs₃.extBut _ _ D.TOz.symm (hs₂.extBut _ _ D.i1z.symm hz₁)))
 have hk₅:∀ c o,c≠z→c≠TO→c≠i1→c≠i2→s.heap.get? c=some o→h₅.get? c=some o:=fun c o c1 c2 c3 c4 e =>
  hs₅.extBut _ _ c2 (hs₄.extBut _ _ c4 (hs₃.extBut _ _ c2 (hs₂.extBut _ _ c3 (hs₁.extBut _ _ c1 e))))
 have h1₅:h₅.IsTupleIter i1 l1 (k1+1):=((h1₂.extBut hs₃.extBut D.TOi1.symm).extBut hs₄.extBut D.i12).extBut hs₅.extBut D.TOi1.symm
 have h2₅:h₅.IsTupleIter i2 l2 (k2+1):=h2₄.extBut hs₅.extBut D.TOi2.symm
 have hzlt:z < h₅.objs.size:=Heap.lt_size hz₅
 show wpAny _ _ (Builtin.SmallTypes.ownedTupleHandOut (.ref z) (.ref h₅.objs.size) >>= _) _ _ _
 refine wpAny_bind ?_
 unfold Builtin.SmallTypes.ownedTupleHandOut
 have hz₆:IsZip (h₅.push { cls:=.type "tuple",data:=.seq #[x,y] }) z TI' TO .ellipsis:=Heap.get?_push_of_some _ hz₅
 refine wpAny_bind (wpAny_setField_rec hz₆ (by simp) fun h₇ hz₇ hs₇=>?_)
 replace hz₇:IsZip h₇ z TI' TO (rawInt h₅.objs.size):=hz₇
 refine wpAny_setField_rec hz₇ (by simp) fun h₈ hz₈ hs₈=>?_
 replace hz₈:IsZip h₈ z TI' TO (rawInt h₅.objs.size):=hz₈
 have up:∀ c o,c≠z→h₅.get? c=some o→h₈.get? c=some o:=fun c o c1 e=>hs₈.extBut _ _ c1 (hs₇.extBut _ _ c1 (Heap.get?_push_of_some _ e))
 have hT₈:IsPair h₈ h₅.objs.size x y:=hs₈.extBut _ _ (Nat.ne_of_gt hzlt) (hs₇.extBut _ _ (Nat.ne_of_gt hzlt) (Heap.get?_push_size _ rfl))
 have hz8:h₈.objs.size=h₅.objs.size+1:=by rw[hs₈.1,hs₇.1,Heap.size_push]
 rw[hsz]at hz₈ hT₈ hz8
 refine wpAny_pure ⟨_,rfl,?_⟩
 show Q (.ref h₅.objs.size) _
 rw[hsz]
 exact hQ h₈ hz₈ (up _ _ D.TOz hTO₅) (h1₅.at fun o e=>up _ o D.i1z e) (h2₅.at fun o e=>up _ o D.i2z e) hT₈ hz8 fun c o c1 c2 c3 c4 e=>up c o c1 (hk₅ c o c1 c2 c3 c4 e)
theorem ziw {z TI' TO i1 i2 l1 l2:Addr} {k1 k2:Nat} {xs ys:Array Value} {a b:Value} {Q:Fin→Shared→Prop} (hh:A.handled=none) (D:ZipApart z TI' TO i1 i2 l1 l2)
  (hz:IsZip s.heap z TI' TO .none) (hTI:IsPair s.heap TI' (.ref i1) (.ref i2)) (hTO:IsPair s.heap TO a b) (h1:TuI s.heap i1 l1 k1 xs) (h2:TuI s.heap i2 l2 k2 ys) (hend:xs[k1]?=none∨ys[k2]?=none)
  (hE:∀ h' e,(∀ c o,c≠z→c≠TO→c≠i1→c≠i2→s.heap.get? c=some o→h'.get? c=some o)→(∃ o,h'.get? e=some o∧o.cls=.type "StopIteration")→E (.ref e) { s with heap:=h' }) :
  wpAny (model prog w) A (Builtin.«zip.__next__» ⟨[.ref z],[]⟩) Q E s:=by
 show wpAny _ _ (field (.ref z) 2 >>= _) _ _ _
 refine wpAny_bind (wpAny_field hz rfl (x:=.bool false) rfl ?_)
 show wpAny _ _ (field (.ref z) 3 >>= _) _ _ _
 refine wpAny_bind (wpAny_field hz rfl (x:=.ref TI') rfl ?_)
 refine wpAny_bind (wpAny_seqItems hTI rfl ?_)
 show wpAny _ _ (Builtin.SmallTypes.ownedTupleIsFree (.ref z) >>= _) _ _ _
 refine wpAny_bind ?_
 unfold Builtin.SmallTypes.ownedTupleIsFree
 refine wpAny_bind (wpAny_field hz rfl (x:=.none) rfl (wpAny_pure ?_))
 simp only[if_true]
 refine wpAny_bind (wpAny_rule ?_)
 refine wpAny_bind (wpAny_field hz rfl (x:=.ref TO) rfl ?_)
 refine wpAny_bind (wpAny_setField_rec hz (by simp) fun h₁ hz₁ hs₁=>?_)
 replace hz₁:IsZip h₁ z TI' TO .ellipsis:=hz₁
 refine wpAny_bind ?_
 simp only[List.zipIdx_cons,List.zipIdx_nil,List.forIn_cons,List.forIn_nil]
 refine wpAny_bind (wpAny_bind (wpAny_onRaise ?_))
 show wpAny _ _ (Builtin.SmallTypes.nextOf (.ref i1) >>= _) _ _ _
 have a1:=h1.ext hs₁.extBut D.i1z D.l1z
 cases hx:xs[k1]? with
 | none =>
  refine wpAny_bind (zcU hh a1.1 a1.2 hx fun h₂ e hs₂ he=>?_)
  obtain⟨oe,hoe,hce⟩:=he
  have hz₂:IsZip h₂ z TI' TO .ellipsis:=hs₂ _ _ D.i1z.symm hz₁
  have hez:e≠z:=fun x=>by subst x;rw[hz₂]at hoe;cases hoe;simp at hce
  refine wpAny_setField_rec hz₂ (by simp) fun h₃ _ hs₃=>hE h₃ e (fun c o c1 _ c3 _ x=>hs₃.extBut _ _ c1 (hs₂ _ _ c3 (hs₁.extBut _ _ c1 x))) ⟨oe,hs₃.extBut _ _ hez hoe,hce⟩
 | some x =>
  have hy:ys[k2]?=none:=by rcases hend with h | h;rw[hx]at h;cases h;exact h
  refine wpAny_bind (zcL a1.1 a1.2 hx fun h₂ h1₂ hs₂=>wpAny_pure ?_)
  have hTO₂:IsPair h₂ TO a b:=hs₂.extBut _ _ D.TOi1 (hs₁.extBut _ _ D.TOz hTO)
  refine wpAny_bind (wpAny_seqItems hTO₂ rfl ?_)
  refine wpAny_bind (wpAny_updateSeq_pair hTO₂ fun h₃ hTO₃ hs₃=>?_)
  refine wpAny_bind (wpAny_letGo (wpAny_pure ?_))
  refine wpAny_bind (wpAny_bind (wpAny_onRaise ?_))
  show wpAny _ _ (Builtin.SmallTypes.nextOf (.ref i2) >>= _) _ _ _
  have a2:=((h2.ext hs₁.extBut D.i2z D.l2z).ext hs₂.extBut D.i12.symm D.l2i1).ext hs₃.extBut D.TOi2.symm D.l2TO
  refine wpAny_bind (zcU hh a2.1 a2.2 hy fun h₄ e hs₄ he=>?_)
  obtain⟨oe,hoe,hce⟩:=he
  have hz₄:IsZip h₄ z TI' TO .ellipsis:=hs₄ _ _ D.i2z.symm (hs₃.extBut _ _ D.TOz.symm (hs₂.extBut _ _ D.i1z.symm hz₁))
  have hez:e≠z:=fun x=>by subst x;rw[hz₄]at hoe;cases hoe;simp at hce
  refine wpAny_setField_rec hz₄ (by simp) fun h₅ _ hs₅=>hE h₅ e (fun c o c1 c2 c3 c4 x=>hs₅.extBut _ _ c1 (hs₄ _ _ c4 (hs₃.extBut _ _ c2 (hs₂.extBut _ _ c3 (hs₁.extBut _ _ c1 x))))) ⟨oe,hs₅.extBut _ _ hez hoe,hce⟩
theorem zfb {z TI' TO i1 i2 l1 l2:Addr} {k1 k2:Nat} {xs ys:Array Value} {x y a b:Value} {Q:Option Value→Shared→Prop} (D:ZipApart z TI' TO i1 i2 l1 l2)
  (hz:IsZip s.heap z TI' TO .none) (hTI:IsPair s.heap TI' (.ref i1) (.ref i2)) (hTO:IsPair s.heap TO a b) (h1:TuI s.heap i1 l1 k1 xs) (h2:TuI s.heap i2 l2 k2 ys) (hx:xs[k1]?=some x) (hy:ys[k2]?=some y)
  (hQ:∀ h',IsZip h' z TI' TO (rawInt s.heap.objs.size)→IsPair h' TO x y→h'.IsTupleIter i1 l1 (k1+1)→h'.IsTupleIter i2 l2 (k2+1)→IsPair h' s.heap.objs.size x y→h'.objs.size=s.heap.objs.size+1 →
   (∀ c o,c≠z→c≠TO→c≠i1→c≠i2→s.heap.get? c=some o→h'.get? c=some o)→Q (some (.ref s.heap.objs.size)) { s with heap:=h' }) :
  wpAny (model prog w) A (pyNext (.ref z)) Q E s:=by
 have hT:s.TypeIs (.ref z) "zip":=⟨_,hz,rfl⟩
 unfold pyNext
 exact wpAny_bind (wpAny_attempt (wpAny_callSpecial?_slot (name:=Str.ofString "__next__") hT F.slot_zip_next
  (wpAny_call_entry F.slot_zip_next hT F.entry_zip_next (zh4 D hz hTI hTO h1 h2 hx hy fun h' a1 a2 a3 a4 a5 a6 a7=>wpAny_pure (hQ h' a1 a2 a3 a4 a5 a6 a7)) (F.args_zip_next_1 _))))
theorem zdS {z TI' TO i1 i2 l1 l2:Addr} {k1 k2:Nat} {xs ys:Array Value} {a b:Value} {Q:Option Value→Shared→Prop} (hh:A.handled=none) (D:ZipApart z TI' TO i1 i2 l1 l2)
  (hz:IsZip s.heap z TI' TO .none) (hTI:IsPair s.heap TI' (.ref i1) (.ref i2)) (hTO:IsPair s.heap TO a b) (h1:TuI s.heap i1 l1 k1 xs) (h2:TuI s.heap i2 l2 k2 ys) (hend:xs[k1]?=none∨ys[k2]?=none)
  (hQ:∀ h',(∀ c o,c≠z→c≠TO→c≠i1→c≠i2→s.heap.get? c=some o→h'.get? c=some o)→Q none { s with heap:=h' }):wpAny (model prog w) A (pyNext (.ref z)) Q E s:=by
 have hT:s.TypeIs (.ref z) "zip":=⟨_,hz,rfl⟩
 unfold pyNext
 refine wpAny_bind (wpAny_attempt (wpAny_callSpecial?_slot (name:=Str.ofString "__next__") hT F.slot_zip_next
  (wpAny_call_entry F.slot_zip_next hT F.entry_zip_next (ziw hh D hz hTI hTO h1 h2 hend fun h' e hk he=>?_) (F.args_zip_next_1 _))))
 obtain⟨o,ho,hc⟩:=he
 refine wpAny_bind (wpAny_isInstance (T:="StopIteration") (b:=true) ⟨o,ho,hc⟩ isSubtype_stop ?_)
 exact wpAny_pure (hQ _ hk)
end
abbrev zpT1 (h:Heap) (l1:Addr):Heap:=h.push { cls:=.type "tuple_iterator",data:=.fields #[.ref l1,.int 0 0] }
abbrev zpT2 (h:Heap) (l1 l2:Addr):Heap:=(zpT1 h l1).push { cls:=.type "tuple_iterator",data:=.fields #[.ref l2,.int 0 0] }
abbrev zpT3 (h:Heap) (l1 l2:Addr):Heap:=(zpT2 h l1 l2).push { cls:=.type "tuple",data:=.seq #[.ref h.objs.size,.ref (zpT1 h l1).objs.size] }
abbrev zpT4 (h:Heap) (l1 l2:Addr):Heap:=(zpT3 h l1 l2).push { cls:=.type "tuple",data:=.seq #[.none,.none] }
abbrev zev (h:Heap) (l1 l2:Addr):Heap:=(zpT4 h l1 l2).push { cls:=.type "zip",data:=.fields #[.none,.bool false,.bool false,.ref (zpT2 h l1 l2).objs.size,.ref (zpT3 h l1 l2).objs.size] }
theorem zhA (l1 l2:Addr) (xs ys:Array Value) :
  Meets (Builtin.«zip.__new__» ⟨[.type "zip",.ref l1,.ref l2],[]⟩) (fun _ R s=>s.heap.IsTuple l1 xs∧s.heap.IsTuple l2 ys∧R (.ok (.ret (.ref (zpT4 s.heap l1 l2).objs.size))) { s with heap:=zev s.heap l1 l2 }) :=
 .of_wp fun prog w A R s h=>by
  obtain⟨hp,g,d,tk,os⟩:=s;obtain⟨hl1,hl2,h⟩:=h
  have hsub:=sub_zip
  have hL1:Heap.IsTuple (Shared.heap ⟨hp,g,d,tk,os⟩) l1 xs:=hl1
  have hL2:Heap.IsTuple (Shared.heap ⟨hp.push { cls:=.type "tuple_iterator",data:=.fields #[.ref l1,.int 0 0] },g,d,tk,os⟩) l2 ys:=Heap.IsTuple.push hl2 _
  wp_walk using wpAny_pyIter_tuple hL1,wpAny_pyIter_tuple hL2
  exact⟨_,rfl,h⟩
section
variable {prog:Program} {w:World} {A:Around} {E:Value→Shared→Prop} {s:Shared}
theorem zgk {l1 l2:Addr} {xs ys:Array Value} {Q:Value→Shared→Prop} (hl1:s.heap.IsTuple l1 xs) (hl2:s.heap.IsTuple l2 ys)
  (h:∀ h',IsZip h' (s.heap.objs.size+4) (s.heap.objs.size+2) (s.heap.objs.size+3) .none→IsPair h' (s.heap.objs.size+2) (.ref s.heap.objs.size) (.ref (s.heap.objs.size+1)) →
   IsPair h' (s.heap.objs.size+3) .none .none→h'.IsTupleIter s.heap.objs.size l1 0→h'.IsTupleIter (s.heap.objs.size+1) l2 0→h'.objs.size=s.heap.objs.size+5 →
   (∀ c o,s.heap.get? c=some o→h'.get? c=some o)→Q (.ref (s.heap.objs.size+4)) { s with heap:=h' }) :
  wpAny (model prog w) A (call (.type "zip") [.ref l1,.ref l2]) Q E s:=by
 refine callType_new F.called_zip (by decide) (F.typeCall_zip_2 _ _) (F.newCall_zip_2 _ _) (fun obj=>F.args_object_init_3 obj _ _) F.entry_zip_new (zhA l1 l2 xs ys) ⟨hl1,hl2,?_⟩
 have z1:(zpT1 s.heap l1).objs.size=s.heap.objs.size+1:=Heap.size_push ..
 have z2:(zpT2 s.heap l1 l2).objs.size=s.heap.objs.size+2:=by rw[Heap.size_push,z1]
 have z3:(zpT3 s.heap l1 l2).objs.size=s.heap.objs.size+3:=by rw[Heap.size_push,z2]
 have z4:(zpT4 s.heap l1 l2).objs.size=s.heap.objs.size+4:=by rw[Heap.size_push,z3]
 have z5:(zev s.heap l1 l2).objs.size=s.heap.objs.size+5:=by rw[Heap.size_push,z4]
 have g5:(zev s.heap l1 l2).get? (zpT4 s.heap l1 l2).objs.size=some _:=Heap.get?_push_size _ rfl
 have g4:(zev s.heap l1 l2).get? (zpT3 s.heap l1 l2).objs.size=some _:=Heap.get?_push_of_some _ (Heap.get?_push_size _ rfl)
 have g3:(zev s.heap l1 l2).get? (zpT2 s.heap l1 l2).objs.size=some _:=Heap.get?_push_of_some _ (Heap.get?_push_of_some _ (Heap.get?_push_size _ rfl))
 have g2:(zev s.heap l1 l2).get? (zpT1 s.heap l1).objs.size=some _:=Heap.get?_push_of_some _ (Heap.get?_push_of_some _ (Heap.get?_push_of_some _ (Heap.get?_push_size _ rfl)))
 have g1:(zev s.heap l1 l2).get? s.heap.objs.size=some _:=Heap.get?_push_of_some _ (Heap.get?_push_of_some _ (Heap.get?_push_of_some _ (Heap.get?_push_of_some _ (Heap.get?_push_size _ rfl))))
 have kk:∀ c o,s.heap.get? c=some o→(zev s.heap l1 l2).get? c=some o:=fun c o e=>Heap.get?_push_of_some _ (Heap.get?_push_of_some _ (Heap.get?_push_of_some _ (Heap.get?_push_of_some _ (Heap.get?_push_of_some _ e))))
 show _∧_
 rw[z2,z3,z4]at g5
 rw[z1,z2]at g3
 rw[z3]at g4
 rw[z1]at g2
 rw[z4]
 exact⟨⟨_,g5,rfl⟩,h _ g5 g3 g4 ⟨_,g1,rfl,rfl⟩ ⟨_,g2,rfl,rfl⟩ z5 kk⟩
end
def ItzT (K:W.Frag) (a b:Addr):It :=
 ⟨fun i H=>∃ xs ys x y,SqT K H a xs∧SqT K H b ys∧xs[i]?=some x∧ys[i]?=some y,fun i H x H'=>∃ p y z,x=.ref p∧H p=none∧H'=upd H p (.tup [y,z])∧(∀ xs,SqT K H a xs→xs[i]?=some y)∧∀ ys,SqT K H b ys→ys[i]?=some z,
  fun i H=>∃ xs ys,SqT K H a xs∧SqT K H b ys∧(xs.length≤i∨ys.length≤i)⟩
theorem zjc {K:W.Frag} {a b:Addr} {xs ys:List V} (h:xs.length=ys.length):Wk (ItzT K a b) xs.length (fun H=>SqT K H a xs∧SqT K H b ys) :=
 ⟨fun _ _ q hi=>⟨xs,ys,q.1,q.2,.inl hi⟩,fun i _ q hi=>⟨xs,ys,xs[i],ys[i]'(by omega),q.1,q.2,by simp [hi],by simp⟩⟩
theorem zh6 {P:Program} {w:World} {K:W.Frag} {elts:List Expr} {x1:Nat} {pos:Pos} (a b z T TO i1 i2:Addr) (D:ZipApart z T TO i1 i2 a b):Turn P w K (.Tuple elts x1 pos) (ItzT K a b) [z,T,TO,i1,i2] z
  (fun i h=>IsZip h z T TO .none∧IsPair h T (.ref i1) (.ref i2)∧(∃ u v,IsPair h TO u v)∧h.IsTupleIter i1 a i∧h.IsTupleIter i2 b i) where
 mem:=by simp
 obj:=fun i h st c hc=>by
  obtain⟨h1,h2,⟨u,v,h3⟩,⟨o4,h4,c4,d4⟩,⟨o5,h5,c5,d5⟩⟩:=st
  simp only[List.mem_cons,List.not_mem_nil,or_false]at hc
  rcases hc with rfl | rfl | rfl | rfl | rfl
  ·exact⟨_,h1,fun v q=>by have q':Data.fields _=Data.cell v:=q;cases q'⟩
  ·exact⟨_,h2,fun v q=>by have q':Data.seq _ _=Data.cell v:=q;cases q'⟩
  ·exact⟨_,h3,fun v q=>by have q':Data.seq _ _=Data.cell v:=q;cases q'⟩
  ·exact⟨o4,h4,fun v q=>by rw[d4]at q;cases q⟩
  ·exact⟨o5,h5,fun v q=>by rw[d5]at q;cases q⟩
 keep:=fun i h h' st k=>by
  obtain⟨h1,h2,⟨u,v,h3⟩,h4,h5⟩:=st
  exact⟨k z (by simp) _ h1,k T (by simp) _ h2,⟨u,v,k TO (by simp) _ h3⟩,h4.at fun o q=>k i1 (by simp) o q,h5.at fun o q=>k i2 (by simp) o q⟩
 item:=by
  intro X hP hw hK hc i pins s σ H E I hf st hg
  subst hP hw hK
  obtain⟨xs,ys,x,y,hq,hq2,hx,hy⟩:=hg
  obtain⟨its,rv,p,hz⟩:=I.tuple hq
  obtain⟨its2,rv2,p2,hz2⟩:=I.tuple hq2
  obtain⟨u,hu,ru⟩:=rv.get hx
  obtain⟨v,hv,rw'⟩:=rv2.get hy
  obtain⟨h1,h2,⟨u0,v0,h3⟩,h4,h5⟩:=st
  have lz:z < s.heap.objs.size:=Heap.lt_size h1
  have lTI:T < s.heap.objs.size:=Heap.lt_size h2
  have lTO:TO < s.heap.objs.size:=Heap.lt_size h3
  have l1:i1 < s.heap.objs.size:=by obtain⟨o,e,_⟩:=id h4;exact Heap.lt_size e
  have l2:i2 < s.heap.objs.size:=by obtain⟨o,e,_⟩:=id h5;exact Heap.lt_size e
  refine zfb D h1 h2 h3 ⟨h4,show s.heap.IsTuple a its.toArray from p⟩ ⟨h5,show s.heap.IsTuple b its2.toArray from p2⟩ (x:=u) (y:=v) (by simpa using hu) (by simpa using hv) fun h' g1 g3 g4 g5 gT gz gk=>?_
  refine⟨_,rfl,wpAny_letOwnedTupleGo_zip g1 fun h6 g6 hs=>?_⟩
  replace hs:Heap.SameBut z h' h6:=hs
  have hT:h6.get? s.heap.objs.size=some { cls:=.type "tuple",data:=.seq #[u,v] }:=(hs.2 _ (Nat.ne_of_gt lz)).trans gT
  have kk:∀ c o,c∉[z,T,TO,i1,i2]→s.heap.get? c=some o→h6.get? c=some o:=fun c o hc q=>by
   have n1:c≠z:=fun e=>hc (by simp [e])
   have n3:c≠TO:=fun e=>hc (by simp [e])
   have n4:c≠i1:=fun e=>hc (by simp [e])
   have n5:c≠i2:=fun e=>hc (by simp [e])
   exact(hs.2 c n1).trans (gk c o n1 n3 n4 n5 q)
  have new:zaL X.prog X.w (upd H s.heap.objs.size (.tup [x,y])) h6 s.heap.objs.size (.tup [x,y]) :=
   ⟨Nat.le_of_lt (zaU (show 2≤1000 by decide)),[u,v],.cons ru (.cons rw' .nil),_,hT,rfl,_,rfl⟩
  have gTI:h6.get? T=some _:=(hs.2 T D.TIz).trans (gk T _ D.TIz D.TITO D.TIi1 D.TIi2 h2)
  refine⟨.ref s.heap.objs.size,_,I.turnedLaid (t':=s.toks) hf kk (Nat.le_refl _) new,rfl,⟨_,x,y,rfl,I.fresh,rfl,fun zs hzs=>by rw[I.tuple_inj hzs hq];exact hx,fun zs hzs=>by rw[I.tuple_inj hzs hq2];exact hy⟩,⟨g6,gTI,⟨_,_,(hs.2 TO D.TOz).trans g3⟩,g4.at fun o q=>(hs.2 i1 D.i1z).trans q,g5.at fun o q=>(hs.2 i2 D.i2z).trans q⟩,fun c hc=>?_⟩
  have lc:c < s.heap.objs.size:=by
   have hc':=hc
   simp only[List.mem_cons,List.not_mem_nil,or_false]at hc'
   rcases hc' with rfl | rfl | rfl | rfl | rfl <;> assumption
  rw[ap (Nat.ne_of_lt lc)]
  exact(hf c hc).1
 done:=by
  intro X hP hw hK hc i pins s σ H E I hf st hg
  subst hP hw hK
  obtain⟨xs,ys,hq,hq2,hx⟩:=hg
  obtain⟨its,rv,p,hz⟩:=I.tuple hq
  obtain⟨its2,rv2,p2,hz2⟩:=I.tuple hq2
  obtain⟨h1,h2,⟨u0,v0,h3⟩,h4,h5⟩:=st
  have hl:=rv.length
  have hl2:=rv2.length
  refine zdS (I.ok.hd hc) D h1 h2 h3 ⟨h4,show s.heap.IsTuple a its.toArray from p⟩ ⟨h5,show s.heap.IsTuple b its2.toArray from p2⟩ (hx.elim (fun q=>.inl (by simp;omega)) fun q=>.inr (by simp;omega)) fun h' gk=>⟨rfl,?_⟩
  have un:Un (frs X.stack) [z,T,TO,i1,i2] H H s.heap h':=⟨fun c o q _ _ hc=>gk c o (fun e=>hc (by simp [e])) (fun e=>hc (by simp [e])) (fun e=>hc (by simp [e])) (fun e=>hc (by simp [e])) q,
   fun c o q _ _ hc=>⟨o.slots,gk c o (fun e=>hc (by simp [e])) (fun e=>hc (by simp [e])) (fun e=>hc (by simp [e])) (fun e=>hc (by simp [e])) q⟩,fun _ _ _ n _=>n,
   fun c o q hc=>⟨o,gk c o (fun e=>hc (by simp [e])) (fun e=>hc (by simp [e])) (fun e=>hc (by simp [e])) (fun e=>hc (by simp [e])) q⟩,fun _ _ q=>q,fun _ _ _ q=>q,fun _ ps q=>⟨#[],by rw[q];simp⟩⟩
  have nfp:∀ c u,H c=some u→c∉[z,T,TO,i1,i2]:=fun c u e q=>by rw[(hf c q).1]at e;cases e
  have hok:HOk X.prog X.w H h':=fun c u e=>by
   refine(I.hok c u e).stay (fun d v hd q=>?_) (fun _ q=>q) fun _ _ q=>q
   have nd:d∉[z,T,TO,i1,i2]:=by
    rcases hd with r | r
    ·rw[r];exact nfp c u e
    ·exact nfp d _ r
   exact gk d v (fun e=>nd (by simp [e])) (fun e=>nd (by simp [e])) (fun e=>nd (by simp [e])) (fun e=>nd (by simp [e])) q
  exact I.call (g':=s.gens) (d':=s.drawn) (t':=s.toks) (ch:=[z,T,TO,i1,i2]) un hok I.bare fun c hc=>⟨(hf c hc).2.2.2.1,(hf c hc).2.1,(hf c hc).2.2.2.2.1,(hf c hc).2.2.2.2.2⟩
 self:=fun _ _ _ _ _ st h=>wpAny_pyIter_zip st.1 h
def iZipT (K:W.Frag) (ta:TA):L2.TI:=fun σ H R=>ta σ H fun vs H1=>∃ a b,vs=[.ref a,.ref b]∧(∃ xs,SqT K H1 a xs)∧(∃ ys,SqT K H1 b ys)∧R (ItzT K a b) H1
theorem zjr {X:Cx} {elts:List Expr} {x1:Nat} {pt:Pos} {a b:Expr} {ta:TA} {p pos:Pos} (hg:Gl X "zip") (hm:X.mg "zip"=none) (ha:PA X [a,b] ta) (hs:starEach [a,b] X.env=[(false,eval a X.env),(false,eval b X.env)]:=by rfl) (hs2:starEach [b] X.env=[(false,eval b X.env)]:=by rfl):PI X (.Tuple elts x1 pt) (.Call (.Name "zip" p) [a,b] [] pos) (iZipT X.K ta):=by
 intro pins s σ H R I h
 refine Call_ (zcI I hg hm boot_zip (PyProof.Rows.callWith_type1 (thn (ha pos pins s σ H _ I h) fun us s1 ⟨vs,H1,I1,r1,q1⟩=>?_) (by rw[hs,hs2]) (by rw[hs2];rfl)))
 obtain⟨a,b,e,⟨xs,hq⟩,⟨ys,hq2⟩,q⟩:=q1
 subst e
 obtain⟨u,v,rfl,ru,rv'⟩:=r1.two
 cases ru
 cases rv'
 obtain⟨its,rv,pl,hz⟩:=I1.tuple hq
 obtain⟨its2,rv2,pl2,hz2⟩:=I1.tuple hq2
 have la:a < s1.heap.objs.size:=by obtain⟨o,e,_⟩:=pl;exact Heap.lt_size e
 have lb:b < s1.heap.objs.size:=by obtain⟨o,e,_⟩:=pl2;exact Heap.lt_size e
 refine zgk (show s1.heap.IsTuple a its.toArray from pl) (show s1.heap.IsTuple b its2.toArray from pl2) fun h' h1 h2 h3 h4 h5 hz' kk=>?_
 refine wpAny_pyIter_zip h1 ?_
 have I2:Inv X pins σ H1 { s1 with heap:=h' }:=I1.kept (t':=s1.toks) kk
 refine⟨_,_,_,ItzT X.K a b,H1,rfl,I2,zh6 a b _ _ _ _ _ (zipApart_new la lb),⟨h1,h2,⟨_,_,h3⟩,h4,h5⟩,fun c hc=>?_,q⟩
 have hle:s1.heap.objs.size≤c:=by
  simp only[List.mem_cons,List.not_mem_nil,or_false]at hc
  rcases hc with rfl | rfl | rfl | rfl | rfl
  ·exact Nat.le_add_right _ _
  ·exact Nat.le_add_right _ _
  ·exact Nat.le_add_right _ _
  ·exact Nat.le_refl _
  ·exact Nat.le_add_right _ _
 exact I1.fpOk hle (I1.hok.fresh hle)
end L2
namespace L2
open PySem PySem.Spec PyProof.Rows
section
variable {X:Cx}
end
end L2
namespace L2
open PySem PySem.Spec PyProof.Rows
section
variable {X:Cx}
end
end L2
namespace L2
open PySem PySem.Spec PyProof.Rows
section
variable {prog:Program} {w:World} {A:Around} {E:Value→Shared→Prop} {s:Shared}
end
end L2
namespace L2
open PySem PySem.Spec PyProof.Rows
end L2
namespace L2
open PySem PySem.Spec PyProof.Rows
section
variable {prog:Program} {w:World} {A:Around} {E:Value→Shared→Prop} {s:Shared}
theorem zi5 {t b:Addr} {vs ws:List Value} {Q:Value→Shared→Prop} (ht:IsTup s.heap t vs.toArray) (hb:IsTup s.heap b ws.toArray) (hv:vs=[]) (h:Q (.ref b) s):wpAny (model prog w) A (binaryOp .Add (.ref t) (.ref b)) Q E s:=by
 obtain⟨⟨cls,dd,data,sl⟩,ho,hc,n,hd⟩:=id ht
 obtain⟨⟨cls2,dd2,data2,sl2⟩,ho2,hc2,n2,hd2⟩:=id hb
 simp only at hc hd hc2 hd2
 subst hc hd hc2 hd2
 exact concat_meets ⟨_,ho,rfl⟩ ⟨_,ho2,rfl⟩ noFill_tuple_add seq_tuple_add PySem.F.slot_tuple_add PySem.F.entry_tuple_add (PySem.F.args_tuple_add_2 _ _)
   (tuple_addW0 t b vs.toArray ws.toArray n n2 dd dd2 sl sl2 (by simp [hv])) ⟨ho,ho2,h⟩
end
def rCatA (K:W.Frag):R2:=fun x y H Q=>∃ a b xs ys,x=.ref a∧y=.ref b∧SqT K H a xs∧SqT K H b ys∧xs.length+ys.length≤sizeLine∧∀(H':Hp) (p:Addr),aj H H'→SqT K H' p (xs++ys)→Q (.ref p) H'
theorem zjy {X:Cx}:OpR X (binaryOp .Add) (rCatA X.K):=by
 intro pins s σ H x y v u Q I rx ry h
 obtain⟨a,b,xs,ys,e1,e2,ha,hb,hz,q⟩:=h
 by_cases hx:xs=[]
 ·subst e1 e2
  cases rx
  cases ry
  obtain⟨its,r1,p1,_⟩:=I.tuple ha
  obtain⟨its2,r2,p2,_⟩:=I.tuple hb
  refine zi5 p1 p2 (r1.nil_iff.mpr hx) ⟨.ref b,H,I,rfl,q H b (aj.refl _) ?_⟩
  rw[hx]
  exact hb
 ·refine zjx pins s σ H x y v u Q I rx ry ⟨a,b,xs,ys,e1,e2,ha,hb,hx,hz,fun z=>?_,fun z p hp=>q _ p (ah hp _) (SqT.of ae)⟩
  refine q H a (aj.refl _) ?_
  rw[z,List.append_nil]
  exact ha
end L2
namespace L2
open PySem PySem.Spec PyProof.Rows
section
variable {X:Cx}
end
end L2
namespace L2
open PySem PySem.Spec PyProof.Rows
section
variable {P:Program} {w:World} {H H':Hp} {h h' B:Heap} {a:Addr} {o:HO}
theorem zaL.there (x:zaL P w H h a o):∃ ob,h.get? a=some ob:=by
 cases o with
 | lst xs=>obtain⟨_,_,_,_,q⟩:=x;exact⟨_,q⟩
 | tup xs=>obtain⟨_,_,_,ob,q,_⟩:=x;exact⟨_,q⟩
 | dK kvs=>obtain⟨_,_,_,_,o,_,_,q,_⟩:=x;exact⟨_,q⟩
 | dT kvs=>obtain⟨_,_,_,_,o,_,_,q,_⟩:=x;exact⟨_,q⟩
 | set S n=>obtain⟨o,_,_,_,q,_⟩:=x;exact⟨_,q⟩
 | ins C dx fs=>obtain⟨_,_,_,q,_⟩:=x;exact⟨_,q⟩
 | own y=>exact x
 | xd fs=>obtain⟨_,⟨_,_,_,q,_⟩,_⟩:=x;exact⟨_,q⟩
 | rng lo hi=>obtain⟨_,_,_,q⟩:=x;exact⟨_,q⟩
 | frz ob u=>exact⟨_,x.1⟩
 | tbl ps=>exact⟨_,(show h.get? a=some _ from x)⟩
 | met f y=>exact⟨_,(show h.get? a=some _ from x)⟩
 | ext φ=>exact x.2.1
def Trk (H:Hp) (h B:Heap):Prop:=∀ b ob,H b≠none→h.get? b=some ob→B.get? b=some ob
def Old (fs:List Addr) (H:Hp) (h B:Heap):Prop:=∀ b ob,h.get? b=some ob→b∉fs→∃ ob',B.get? b=some ob'∧(H b=none→ob'=ob)
theorem HOk.stays (ok:HOk P w H h) (t:Trk H h B) (k:B.StaysIn h'):HOk P w H h':=fun a o e =>
 (ok a o e).stay (fun b u hb q=>k b u (t b u (hb.elim (fun z=>by rw[z,e];exact nofun) fun z=>by rw[z];exact nofun) q)) (fun _ q=>q) fun _ _ q=>q
theorem Trk.stays (ok:HOk P w H h) (t:Trk H h B) (k:B.StaysIn h'):Trk H h' B:=fun b ob hb e=>by
 cases q:H b with
 | none=>exact absurd q hb
 | some u =>
  obtain⟨ob1,e1⟩:=(ok b u q).there
  have z:=t b ob1 hb e1
  have z2:=k b ob1 z
  rw[e]at z2
  cases z2
  exact z
end
def CX1 (P:Program) (w:World):CXT:=fun outer H s E e s'=>∃(ea C:Addr) (H':Hp) (B:Heap) (a0:Value),e=.ref ea∧s'.os=s.os∧AllBare s'.gens∧Un (frs outer) [] H H' s.heap s'.heap∧HOk P w H' s'.heap ∧
 Heap.FlyingW B outer ea (.ref C) a0 s'.heap∧Trk H' s'.heap B∧Old (frs outer) H s.heap B∧E (.ref C) none H'
structure Xe1 (X:Cx) (E:XK):Prop where
 xe:X.xe=fun e s'=>wpAny (model X.prog X.w) X.A (leaving X.env e) (fun _ s''=>CX1 X.prog X.w X.outer X.H₀ X.s₀ E e s'') (fun e' s''=>CX1 X.prog X.w X.outer X.H₀ X.s₀ E e' s'') s'
 stk:X.stack=X.env :: X.outer
 fr:X.env.frame=some X.env.locals
 ex:X.ex=[]
section
variable {X:Cx} {E:XK} {pins:List (Addr × Obj)} {σ:St} {H H':Hp} {s s':Shared} {B:Heap} {ea C:Addr} {a0:Value}
theorem zhk (hx:Xe1 X E) (I:Inv X pins σ H s) {s'':Shared} (os:s''.os=s.os) (bare:AllBare s''.gens) (u:Un (frs X.stack) [] H H' s.heap s'.heap) (ok:HOk X.prog X.w H' s'.heap)
  (fl:Heap.FlyingW B X.outer ea (.ref C) a0 s''.heap) (sm:s'.heap.UpToSlots s''.heap) (trk:Trk H' s'.heap B) (old:Old (frs X.stack) H s.heap B) (hE:E (.ref C) none H') :
  CX1 X.prog X.w X.outer X.H₀ X.s₀ E (.ref ea) s'':=by
 have hfs:frs X.stack=X.env.locals :: X.fs:=by
  rw[hx.stk]
  unfold frs
  rw[List.filterMap_cons,hx.fr]
  rfl
 have nx:∀ b,b∉X.ex:=fun b hb=>by rw[hx.ex]at hb;cases hb
 have nf:∀ b ob,X.s₀.heap.get? b=some ob→b∉X.fs→b∉frs X.stack:=fun b ob e hb z=>by
  rw[hfs]at z
  rcases List.mem_cons.mp z with z | z
  ·exact absurd (Nat.lt_of_lt_of_le (Heap.lt_size e) I.ok.above) (by rw[z];exact Nat.lt_irrefl _)
  ·exact hb z
 have st:B.StaysIn s''.heap:=fl.1
 have U:=I.base
 have old':Old X.fs X.H₀ X.s₀.heap B:=fun b ob e hb=>by
  obtain⟨o1,e1⟩:=U.there b ob e (nx b)
  obtain⟨o',eB,hB⟩:=old b o1 e1 (nf b ob e hb)
  refine⟨o',eB,fun n=>?_⟩
  have k:=U.keep b ob e n hb (nx b)
  rw[e1]at k
  cases k
  exact hB (U.free b ob e n (nx b))
 have slot:∀ b ob,X.s₀.heap.get? b=some ob→X.H₀ b=none→b∈X.fs→∃ sl,s''.heap.get? b=some { ob with slots:=sl }:=fun b ob e n hb=>by
  obtain⟨sl,k⟩:=U.slot b ob e n hb (nx b)
  obtain⟨sl2,k2⟩:=u.any k (U.free b ob e n (nx b)) (by simp)
  obtain⟨_,o3,e3,hd⟩:=I.ok.funs.mem hb
  rw[e]at e3
  cases e3
  obtain⟨sl3,k3⟩:=sm b _ k2 fun vs q=>hd vs q
  exact⟨sl3,k3⟩
 refine⟨ea,C,H',B,a0,rfl,os.trans I.os,bare,⟨fun b ob e n hb _=>?_,fun b ob e n hb _=>slot b ob e n hb,fun b ob e n _=>?_,fun b ob e _=>?_,fun b xs q=>u.tups b xs (U.tups b xs q),fun b ob xs q=>u.frzs b ob xs (U.frzs b ob xs q),fun b ps q=>?_⟩,
  ok.stays trk st,fl,Trk.stays ok trk st,old',hE⟩
 ·obtain⟨o',eB,hB⟩:=old' b ob e hb
  rw[hB n]at eB
  exact st b ob eB
 ·obtain⟨o1,e1⟩:=U.there b ob e (nx b)
  exact u.free b o1 e1 (U.free b ob e n (nx b)) (by simp)
 ·by_cases hb:b∈X.fs
  ·obtain⟨sl,k⟩:=slot b ob e (I.ok.frf b hb) hb
   exact⟨_,k⟩
  ·obtain⟨o',eB,_⟩:=old' b ob e hb
   exact⟨o',st b o' eB⟩
 ·obtain⟨m1,e1⟩:=U.tbls b ps q
  obtain⟨m2,e2⟩:=u.tbls b _ e1
  exact⟨m1++m2,by rw[e2,Array.append_assoc]⟩
theorem zjw (hx:Xe1 X E):zct (CX1 X.prog X.w) X E:=by
 intro pins σ H s e s' I h
 obtain⟨ea,C,H',B,a0,rfl,os,bare,u,ok,fl,trk,old,hE⟩:=h
 rw[hx.xe]
 have fl2:=fl
 rw[hx.stk]at fl2
 have hfr:X.A.frames=some (X.env :: X.outer):=by rw[I.ok.frames,hx.stk]
 exact wpAny_leaves_onW hfr hx.fr fl2 fun h' fl' sm=>zhk hx I os bare u ok fl' sm trk old hE
theorem zi9 {h':Heap} {vs:List Value} (hx:Xe1 X E) (I:Inv X pins σ H s) (m:Heap.MadeExcOf s.heap h' ea (.ref C) vs) (hE:E (.ref C) none H):X.xe (.ref ea) { s with heap:=h' }:=by
 rw[hx.xe]
 have hl:s.heap.FunFrames (W.hideAll s.heap (frs X.stack)) X.stack:=W.funFrames_hide I.stack fun env he a ha=>List.mem_filterMap.mpr ⟨env,he,ha⟩
 have hl2:s.heap.FunFrames (W.hideAll s.heap (frs X.stack)) (X.env :: X.outer):=by
  have z:=hl
  rw[show X.stack=X.env :: X.outer from hx.stk]at z ⊢
  exact z
 have hfr:X.A.frames=some (X.env :: X.outer):=by rw[I.ok.frames,hx.stk]
 refine wpAny_leaves_madeW (base:=W.hideAll s.heap (frs X.stack)) (h:=s.heap) hfr hx.fr (fun b ob q=>W.of_hideAll _ q) hl2 m fun h'' t fl _ _ sm=>?_
 refine zhk (s':={ s with heap:=h' }) hx I rfl I.bare (Un.kept m.keeps) (I.hok.kept m.keeps) fl sm (fun b ob hb q=>?_) (fun b ob q hb=>⟨ob,W.hideAll_get _ q hb,fun _=>rfl⟩) hE
 cases z:H b with
 | none=>exact absurd z hb
 | some v =>
  obtain⟨o1,e1⟩:=(I.hok b v z).there
  have e2:=m.keeps b o1 e1
  have q':h'.get? b=some ob:=q
  rw[q']at e2
  cases e2
  exact W.hideAll_get _ e1 fun y=>hb (I.stkFree b y)
theorem own_at {K:W.Frag} {hp:Heap} {bmB:List Value} {newId:String} (XI:K.In hp) (q:W.excIn K C bmB newId=true) :
  ∃ bm N nm qn bs hdct sn sub ab col dd k0 k1 k2 k3 k5 mN,hp.get? C=some (excClassObj nm qn C N bs bm hdct sn sub ab col dd k0 k1 k2 k3 k5 newId)∧hp.Ns N mN∧mN "__init__"=none∧OwnTail hp bmB bm:=by
 unfold W.excIn at q
 split at q
 ·rename_i d1 c1 l1 hC1
  split at q
  ·rename_i C2 bm2 y0 y1 y2 y3 n2 y5 hm2 hs2
   simp only[Bool.and_eq_true,beq_iff_eq,Bool.not_eq_true']at q
   obtain⟨⟨⟨⟨⟨rfl,rfl⟩,hdl⟩,htl⟩,hno⟩,hin⟩:=q
   obtain⟨nm,bs,mro,ns,qn,hd,sn,sub,ab,col,del⟩:=c1
   dsimp only at hm2 hdl hno hin
   subst hm2 hdl
   have hsl:l1=#[y0,y1,y2,y3,some (.builtin n2),y5]:=by
    obtain⟨l⟩:=l1
    simp only at hs2
    rw[hs2]
   subst hsl
   exact⟨bm2,ns,nm,qn,bs,hd,sn,sub,ab,col,d1,y0,y1,y2,y3,y5,_,XI _ _ hC1,.of_isNs (W.isNs_of_in XI hno),W.nsMap_none_of_in XI hno hin,W.tail_of_in XI htl⟩
  ·cases q
 ·cases q
variable {e0:Expr} {zav:List Expr} {t:TA} {x:Str} {np cpos pos:Pos} {Bn newId initId:String} {bm:List Value}
def tRaise (E:XK) (C:Addr) (t:TA):TS:=fun _ σ H=>t σ H fun vs H1=>vs.length≤sizeLine∧E (.ref C) none H1
theorem ziE (hx:Xe1 X E) (hc:X.calm=true) (hg:Gl X x) (hm:X.mg x=some (.ref C)) (F:ExcBaseFacts Bn newId initId bm) (q:W.excIn X.K C bm newId=true) (ha:PA X (e0 :: zav) t)
  (hdb:(x == ("__debug__":Str))=false:=by decide) (hse:starEach (e0 :: zav) X.env=(false,eval e0 X.env) :: starEach zav X.env:=by rfl) (hpl:(backTo cpos (starEach zav X.env)).any (·.1)=false:=by rfl) :
  PS X (.Raise (some (.Call (.Name x np) (e0 :: zav) [] cpos)) none pos) (tRaise E C t):=by
 intro pins s σ H D I h
 obtain⟨tl,N,nm,qn,bs,hdct,sn,sub,ab,col,dd,k0,k1,k2,k3,k5,mN,hC,hN,hni,T⟩:=own_at (C:=C) I.mod.kin q
 refine wpAny_Raise_call_subT (C:=C) (nm:=nm) (q:=qn) (N:=N) (bs:=bs) (bm:=tl) (hdct:=hdct) (sn:=sn) (sub:=sub) (ab:=ab) (col:=col) (dd:=dd) (k0:=k0) (k1:=k1) (k2:=k2) (k3:=k3) (k5:=k5) F (mN:=mN)
  (T.hasType F.hasBase) (I.ok.hd hc) (by rw[hse];show(false||(backTo cpos (starEach zav X.env)).any (·.1))=false;rw[hpl];rfl) hni (zd7 I hg hm ⟨rfl,?_⟩ hdb)
 have g:=ha cpos pins s σ H _ I h
 rw[hse]at g ⊢
 refine Calls.evalArgs_plain (wpAny_mono g (fun vs s2 ⟨ws,H2,I2,r2,hz,hE⟩=>?_) fun _ _ y=>y)
 exact⟨rfl,by rw[←r2.length];exact hz,I2.bk _ _ hC,hN.keeps I2.bk,T.keeps I2.bk,fun h' ea m=>zi9 hx I2 m hE⟩
end
end L2
namespace L2
open PySem PySem.Spec PyProof.Rows
abbrev Cx.susp (X:Cx) (ea:Addr):Cx:={ X with A:=X.A.mark (some (.ref ea)),calm:=false,xe:=fun _ _=>False }
abbrev Cx.tryc (X:Cx) (pins:List (Addr × Obj)) (E1:Value→Shared→Prop):Cx:={ X with pn:=X.pn++pins,xe:=E1 }
section
variable {X:Cx} {pins:List (Addr × Obj)} {σ:St} {H H':Hp} {s s':Shared} {B:Heap} {ea C:Addr} {a0:Value} {D:zbO} {f:Flow} {E1:Value→Shared→Prop}
theorem Inv.susp (I:Inv X pins σ H s) (ea:Addr):Inv (X.susp ea) pins σ H s :=
 ⟨⟨I.ok.mod,I.ok.kind,I.ok.glob,I.ok.blt,I.ok.above,I.ok.inj,I.ok.has,I.ok.cab,fun z=>(by cases z),I.ok.frames,I.ok.stk,I.ok.exf,I.ok.bs,I.ok.bsz,I.ok.noex,I.ok.exfs,I.ok.funs,I.ok.frf⟩,I.os,I.bare,I.base,I.loc,I.cell,I.free,I.freeC,I.pin,I.hok,I.len⟩
theorem Inv.unsusp (ok:X.Ok) (I:Inv (X.susp ea) pins σ H s):Inv X pins σ H s:=⟨ok,I.os,I.bare,I.base,I.loc,I.cell,I.free,I.freeC,I.pin,I.hok,I.len⟩
theorem Inv.tryc (I:Inv X pins σ H s) (E1:Value→Shared→Prop):Inv (X.tryc pins E1) [] σ H s :=
 ⟨⟨I.ok.mod,I.ok.kind,I.ok.glob,I.ok.blt,I.ok.above,I.ok.inj,I.ok.has,I.ok.cab,I.ok.hd,I.ok.frames,I.ok.stk,I.ok.exf,I.ok.bs,I.ok.bsz,I.ok.noex,I.ok.exfs,I.ok.funs,I.ok.frf⟩,I.os,I.bare,I.base,I.loc,I.cell,I.free,I.freeC,
  fun p hp=>I.pin p (by simpa using hp),I.hok,I.len⟩
theorem Inv.untryc {pins1:List (Addr × Obj)} (ok:X.Ok) (I:Inv (X.tryc pins E1) pins1 σ H s):Inv X pins σ H s :=
 ⟨ok,I.os,I.bare,I.base,I.loc,I.cell,I.free,I.freeC,fun p hp=>I.pin p (List.mem_append_left _ hp),I.hok,I.len⟩
theorem SP.untryc {pins1:List (Addr × Obj)} (ok:X.Ok) (h:SP (X.tryc pins E1) pins1 D f s):SP X pins D f s:=by
 cases f with
 | next=>obtain⟨a,b,I,q⟩:=h;exact⟨a,b,I.untryc ok,q⟩
 | brk=>obtain⟨a,b,I,q⟩:=h;exact⟨a,b,I.untryc ok,q⟩
 | cont=>obtain⟨a,b,I,q⟩:=h;exact⟨a,b,I.untryc ok,q⟩
 | ret u=>obtain⟨v,a,b,I,r,q⟩:=h;exact⟨v,a,b,I.untryc ok,r,q⟩
structure Came (X:Cx) (pins:List (Addr × Obj)) (σ:St) (H:Hp) (s:Shared) (H':Hp) (B:Heap) (s':Shared):Prop where
 I:Inv X pins σ H s
 os:s'.os=s.os
 bare:AllBare s'.gens
 u:Un (frs X.stack) [] H H' s.heap s'.heap
 ok:HOk X.prog X.w H' s'.heap
 trk:Trk H' s'.heap B
 old:Old (frs X.stack) H s.heap B
theorem Came.inv (c:Came X pins σ H s H' B s') {h':Heap} (st:B.StaysIn h') (sm:s'.heap.UpToSlots h'):Inv X pins σ H' { s' with heap:=h' }:=by
 have slot:∀ b ob,s.heap.get? b=some ob→H b=none→b∈frs X.stack→∃ sl,h'.get? b=some { ob with slots:=sl }:=fun b ob e n hb=>by
  obtain⟨sl,k⟩:=c.u.slot b ob e n hb (by simp)
  obtain⟨_,o3,e3,hd⟩:=c.I.stack.mem hb
  rw[e]at e3
  cases e3
  obtain⟨sl3,k3⟩:=sm b _ k fun vs q=>hd vs q
  exact⟨sl3,k3⟩
 refine c.I.call' (s':={ s' with heap:=h' }) (ch:=[]) c.os ⟨fun b ob e n hb _=>?_,fun b ob e n hb _=>slot b ob e n hb,fun b ob e n _=>c.u.free b ob e n (by simp),fun b ob e _=>?_,c.u.tups,c.u.frzs,c.u.tbls⟩ (c.ok.stays c.trk st) c.bare (fun b hb=>by cases hb)
 ·obtain⟨o',eB,hB⟩:=c.old b ob e hb
  rw[hB n]at eB
  exact st b ob eB
 ·by_cases hb:b∈frs X.stack
  ·obtain⟨sl,k⟩:=slot b ob e (c.I.stkFree b hb) hb
   exact⟨_,k⟩
  ·obtain⟨o',eB,_⟩:=c.old b ob e hb
   exact⟨o',st b o' eB⟩
def PH (X:Cx) (hs:List ExceptHandler) (th:Addr→TS):Prop :=
 ∀(pins:List (Addr × Obj)) (σ:St) (H:Hp) (s:Shared) (H':Hp) (B:Heap) (s':Shared) (D:zbO) (ea C:Addr) (a0:Value) (h':Heap),Came X pins σ H s H' B s'→Heap.FlyingW B X.stack ea (.ref C) a0 h'→s'.heap.UpToSlots h'→th C D σ H' →
  wpAny (model X.prog X.w) X.A (handleBy (.ref ea) X.env hs) (SP X pins D) X.xe { s' with heap:=h' }
theorem ziG {hs:List ExceptHandler}:PH X hs (fun _=>tNever):=fun _ _ _ _ _ _ _ _ _ _ _ _ _ _ _ z=>z.elim
def tTry (n:Nat) (tb:XK→TS) (th:Addr→TS):TS:=fun D σ H=>tb (fun c _ H'=>∃ C,c=.ref C∧∀ σ1:St,σ1.length=n→th C D σ1 H') D σ H
theorem ps_try {body:List Stmt} {h0:ExceptHandler} {hs:List ExceptHandler} {pos:Pos} {tb:XK→TS} {th:Addr→TS} (hst:X.stack=X.env :: X.outer) (hfr:X.env.frame=some X.env.locals)
  (hb:∀(pins:List (Addr × Obj)) (E1:Value→Shared→Prop) (Eb:XK),zct (CX1 X.prog X.w) (X.tryc pins E1) Eb→PSs (X.tryc pins E1) body (tb Eb)) (hh:PH X (h0 :: hs) th) :
  PS X (.Try body (h0 :: hs) [] [] pos) (tTry X.N.length tb th):=by
 intro pins s σ H D I h
 refine wpAny_Try_except ?_
 have hp:zct (CX1 X.prog X.w) (X.tryc pins (fun e s1=>wpAny (model X.prog X.w) X.A (noteFrame e X.env) (fun _ s2=>wpAny (model X.prog X.w) X.A (setFlight e none) (fun _ s3=>wpAny (model X.prog X.w) X.A (handleBy e X.env (h0 :: hs)) (SP X pins D) X.xe s3) X.xe s2) X.xe s1))
   (fun c _ H'=>∃ C,c=.ref C∧∀ σ1:St,σ1.length=X.N.length→th C D σ1 H'):=by
  intro pins1 σ1 H1 s1 e s' I1 hcx
  obtain⟨ea,C,H',B,a0,rfl,os,bare,u,ok,fl,trk,old,C',ec,hE⟩:=hcx
  cases ec
  have c:Came X pins σ1 H1 s1 H' B s':=⟨I1.untryc I.ok,os,bare,u,ok,trk,old⟩
  have fl':Heap.FlyingW B (X.env :: X.outer) ea (.ref C) a0 s'.heap:=by
   have z:=fl
   rw[show(X.tryc pins _).stack=X.env :: X.outer from hst]at z
   exact z
  have hfs:X.A.frames=some (X.env :: X.outer):=by rw[I.ok.frames,hst]
  refine wpAny_looks_onW hfs hfr fl' fun h2 fl2 sm2=>?_
  refine wpAny_landsW fl2 fun h3 fl3 sm3=>?_
  rw[←hst]at fl3
  exact hh pins σ1 H1 s1 H' B s' D ea C a0 h3 c fl3 (sm2.trans sm3) (hE σ1 I1.len)
 refine wpAny_mono (hb pins _ _ hp [] s σ H D (I.tryc _) h) (fun f s1 q=>?_) fun e s1 q=>q
 have q':SP X pins D f s1:=q.untryc I.ok
 cases f with
 | next=>exact wpAny_execs_nil q'
 | brk=>exact q'
 | cont=>exact q'
 | ret u=>exact q'
end
end L2
namespace L2
open PySem PySem.Spec PyProof.Rows
def zbH (ea C:Addr) (h:Heap):Prop:=∃ oe,h.get? ea=some oe∧oe.cls=.ref C
section
variable {X:Cx} {pins:List (Addr × Obj)} {σ:St} {H H':Hp} {s s':Shared} {B:Heap} {ea C:Addr} {a0:Value} {D:zbO} {f:Flow}
theorem Inv.adopt (I:Inv X pins σ H s) (hx:zbH ea C s.heap) (n0:X.s₀.heap.get? ea=none) (nL:ea≠X.env.locals) (nC:∀ x c,X.env.cells.lookup x=some c→c≠ea) (nP:∀ p∈X.pn++pins,p.1≠ea) (hH:H ea=none) :
  Inv X pins σ (upd H ea (.ext (zbH ea C))) s:=by
 have up:∀ b u,H b=some u→upd H ea (.ext (zbH ea C)) b=some u:=fun b u e=>by rw[ap (zaB e hH)];exact e
 have un:∀ b,b≠ea→H b=none→upd H ea (.ext (zbH ea C)) b=none:=fun b hb e=>by rw[ap hb];exact e
 have U:=I.base
 refine⟨I.ok,I.os,I.bare,⟨U.keep,U.slot,fun b ob e n hb=>un b (fun z=>by rw[z,n0]at e;cases e) (U.free b ob e n hb),U.there,fun b xs q=>up _ _ (U.tups b xs q),fun b ob xs q=>up _ _ (U.frzs b ob xs q),fun b ps q=>?_⟩,I.loc,I.cell,un _ (Ne.symm nL) I.free,
  fun x c e=>un _ (nC x c e) (I.freeC x c e),fun p hp=>?_,fun b u e=>?_,I.len⟩
 ·obtain⟨m,e⟩:=U.tbls b ps q
  exact⟨m,up _ _ e⟩
 ·obtain⟨e,n,a,b,c⟩:=I.pin p hp
  exact⟨e,un _ (nP p hp) n,a,b,c⟩
 ·by_cases hb:b=ea
  ·subst hb
   rw[ae]at e
   cases e
   obtain⟨oe,e1,e2⟩:=hx
   refine⟨⟨oe,e1,e2⟩,⟨oe,e1⟩,fun h1 h2 p k=>?_⟩
   obtain⟨o2,q1,q2⟩:=p
   exact⟨o2,k o2 q1,q2⟩
  ·rw[ap hb]at e
   exact(I.hok b u e).stay (fun _ _ _ q=>q) (fun c q=>up c _ q) fun c xs q=>up c _ q
theorem Inv.forget {h':Heap} {m':Str→Option Value} {t':Nat} (I:Inv X pins σ H s) (hn:h'.Ns X.env.locals m') (hs:Heap.SameBut X.env.locals s.heap h'):Inv X pins (List.replicate X.N.length none) H { s with heap:=h',toks:=t' }:=by
 have neL:∀ b o,X.s₀.heap.get? b=some o→b≠X.env.locals:=fun b o e=>Nat.ne_of_lt (Nat.lt_of_lt_of_le (Heap.lt_size e) I.ok.above)
 have U:=I.base
 refine⟨I.ok,I.os,I.bare,⟨fun b ob e n hb hx=>(hs.2 b (neL b ob e)).trans (U.keep b ob e n hb hx),fun b ob e n hb hx=>?_,U.free,fun b ob e hx=>?_,U.tups,U.frzs,U.tbls⟩,⟨m',hn,fun i x v _ e2 _=>?_⟩,fun x c e=>?_,I.free,I.freeC,fun p hp=>?_,fun b u e=>?_,by simp⟩
 ·obtain⟨sl,q⟩:=U.slot b ob e n hb hx
  exact⟨sl,(hs.2 b (neL b ob e)).trans q⟩
 ·obtain⟨o',q⟩:=U.there b ob e hx
  exact⟨o',(hs.2 b (neL b ob e)).trans q⟩
 ·rw[List.getElem?_replicate]at e2
  split at e2 <;> cases e2
 ·obtain⟨v,o,ho,hd⟩:=I.cell x c e
  exact⟨v,o,(hs.2 c (I.cne x c e)).trans ho,hd⟩
 ·obtain⟨e,n,a,b,c⟩:=I.pin p hp
  exact⟨(hs.2 p.1 a).trans e,n,a,b,c⟩
 ·refine(I.hok b u e).stay (fun c w' hc q=>(hs.2 c ?_).trans q) (fun _ q=>q) fun _ _ q=>q
  rintro rfl
  rcases hc with z | z
  ·rw[←z,I.free]at e;cases e
  ·rw[I.free]at z;cases z
theorem Came.apart (c:Came X pins σ H s H' B s') {h':Heap} (fl:Heap.FlyingW B X.stack ea (.ref C) a0 h'):s.heap.get? ea=none:=by
 cases q:s.heap.get? ea with
 | none=>rfl
 | some ob =>
  by_cases hb:ea∈frs X.stack
  ·obtain⟨_,_,ff,oe,vs,_,_,_,he,_,hd,_⟩:=fl
   obtain⟨_,o,ho,hnf⟩:=ff.mem hb
   rw[he]at ho
   cases ho
   exact absurd hd (hnf vs)
  ·obtain⟨o',eB,_⟩:=c.old ea ob q hb
   rw[fl.2.1]at eB
   cases eB
def tExcAs (K:W.Frag) (C1:Addr) (i nN:Nat) (ts:TS) (th:Addr→TS):Addr→TS:=fun C D σ H=>∃ b,W.exmOne K (.ref C) (.ref C1)=some b ∧
 if b=true then ∀ ea,H ea=none→ts { nx:=fun _ H1=>D.nx (List.replicate nN none) H1,rt:=D.rt,bk:=fun _ H1=>D.bk (List.replicate nN none) H1,ct:=fun _ H1=>D.ct (List.replicate nN none) H1 } (σ.set i (some (.ref ea))) (upd H ea (.ext (zbH ea C))) else th C D σ H
theorem ph_as {x n:Str} {np pos:Pos} {b0:Stmt} {suite:List Stmt} {zav:List ExceptHandler} {C1:Addr} {i:Nat} {ts:TS} {th:Addr→TS} (hg:Gl X x) (hm:X.mg x=some (.ref C1)) (hN:X.N.Nodup) (hi:X.N[i]?=some n)
  (hl:X.env.scope.names.lookup n=some .local) (hex:X.ex=[]) (hs:∀ ea,PSs (X.susp ea) (b0 :: suite) ts) (hr:PH X zav th) (hdb:(x == ("__debug__":Str))=false:=by decide) :
  PH X (.ExceptHandler (some (.Name x np)) (some n) (b0 :: suite) pos :: zav) (tExcAs X.K C1 i X.N.length ts th):=by
 intro pins σ H s H' B s' D ea C a0 h' c fl sm h
 obtain⟨b,hb,h⟩:=h
 have I:=c.inv fl.1 sm
 have I':=I.susp ea
 obtain⟨oe,he,hcl⟩:=fl.there
 have LT:W.Looks (model X.prog X.w) h' (typeOf (.ref ea)) (.ref C):=hcl ▸ (W.Looks.ld he).andThen .now
 refine wpAny_handleBy_cons (codeAny_handlers_test (zd7 (X:=X.susp ea) I' hg hm ?_ hdb)) (by intro q;cases q)
 refine W.exm_one (M:=model X.prog X.w) (K:=X.K) (h:=h') I.kIn LT hb _ _ _ _ (fun _ _ q=>q) ?_
 cases b with
 | false=>exact hr pins σ H s H' B s' D ea C a0 h' c fl sm h
 | true =>
  have hp:(X.env.scope.kind == .class||(X.env.scope.kind == .module&&X.env.locals != X.env.globals))=false:=by rw[I.ok.kind];rfl
  refine codeAny_handlers_suite_as (lands_againW fl fun h2 fl2 sm2=>?_)
  have I2:=c.inv fl2.1 (sm.trans sm2)
  have q0:=c.apart fl2
  obtain⟨oe2,he2,hcl2⟩:=fl2.there
  have nB:B.get? ea=none:=fl2.2.1
  have hH:H' ea=none:=by
   cases q:H' ea with
   | none=>rfl
   | some u =>
    have z:=Trk.stays c.ok c.trk fl2.1 ea oe2 (by rw[q];exact nofun) he2
    rw[nB]at z
    cases z
  have J:=I2.adopt (ea:=ea) (C:=C) ⟨oe2,he2,hcl2⟩ (by
   cases q:X.s₀.heap.get? ea with
   | none=>rfl
   | some o =>
    by_cases hx:ea∈X.ex
    ·rw[hex]at hx
     cases hx
    ·obtain⟨o',e'⟩:=c.I.base.there ea o q hx
     rw[q0]at e'
     cases e') (by
   rintro rfl
   obtain⟨m,⟨o,_,_,ho,_⟩,_⟩:=c.I.loc
   rw[q0]at ho
   cases ho) (fun y d e z=>by
   obtain⟨v,o,ho,_⟩:=c.I.cell y d e
   rw[z,q0]at ho
   cases ho) (fun p hp z=>by
   have e:=(c.I.pin p hp).1
   rw[z,q0]at e
   cases e) hH
  refine wpAny_mono (zdv (X:=X.susp ea) (i:=i) (v:=.ref ea) (J.susp ea) hN hi (.inl hl) rfl (Q:=fun _ s3=>Inv (X.susp ea) pins (σ.set i (some (.ref ea))) (upd H' ea (.ext (zbH ea C))) s3) (fun s3 I3=>I3) (.inr hl)) (fun _ s3 I3=>?_) fun _ _ q=>False.elim q
  refine wpAny_mono (hs ea pins s3 _ _ _ I3 (h ea hH)) (fun fl4 s4 q4=>?_) fun _ _ q=>False.elim q
  have go:∀ {σ4:St} {H4:Hp},Inv (X.susp ea) pins σ4 H4 s4→∀ {R:Unit→Shared→Prop},(∀ s5,Inv X pins (List.replicate X.N.length none) H4 s5→R () s5)→wpAny (model X.prog X.w) X.A (do bindName X.env n .none;unbindBehindTheSuite X.env n pos) R X.xe s4:=fun {σ4 H4} I4 {R} k=>by
   obtain⟨m,hn,_⟩:=I4.loc
   exact wpAny_nameGoes hl hn hp fun h5 m5 hn5 hs5=>k _ ((I4.unsusp I.ok).forget hn5 hs5)
  cases fl4 with
  | next=>obtain⟨σ4,H4,I4,q⟩:=q4;exact go I4 fun s5 I5=>⟨_,H4,I5,q⟩
  | brk=>obtain⟨σ4,H4,I4,q⟩:=q4;exact go I4 fun s5 I5=>⟨_,H4,I5,q⟩
  | cont=>obtain⟨σ4,H4,I4,q⟩:=q4;exact go I4 fun s5 I5=>⟨_,H4,I5,q⟩
  | ret u=>obtain⟨v,σ4,H4,I4,r,q⟩:=q4;exact go I4 fun s5 I5=>⟨v,_,H4,I5,r,q⟩
theorem zjQ {prog:Program} {w:World} {A:Around} {E:Value→Shared→Prop} {K:W.Frag} {x:Addr} {t c:Value} {Q:Value→Shared→Prop} (LT:W.Looks (model prog w) s.heap (typeOf (.ref x)) t) (XI:K.In s.heap) (ne:(t == c)=false)
  (e:W.kitCls K t c=some true) (h:Q (.bool true) s):wpAny (model prog w) A (call (.builtin "isinstance") [.ref x,c]) Q E s:=by
 obtain⟨hp,g,d,tt,os⟩:=s
 refine call_isinstance_of ?_ (fun z=>nomatch z)
 unfold Builtin.«isinstance.nested»
 refine wpAny_bind (LT.at ?_)
 rw[if_neg (fun q=>by rw[ne]at q;exact Bool.noConfusion q)]
 obtain⟨hty,his,hsub⟩:=W.kit_cls (M:=model prog w) XI e
 have LI:W.Looks (model prog w) hp (isInstance (.ref x) c) true:=LT.andThen hsub
 refine wpAny_bind (hty.at ?_)
 rw[if_pos (by decide)]
 k_delta "plainIsInstance"
 refine wpAny_bind (wpAny_bind (his.at ?_))
 simp only[Bool.not_true,Bool.false_eq_true,if_false]
 refine wpAny_bind (LI.at ?_)
 first
  | exact wpAny_pure (wpAny_pure h)
  | (simp only[if_true];first | exact wpAny_pure (wpAny_pure h) | exact wpAny_pure h | exact wpAny_bind (wpAny_pure (wpAny_pure h)))
def rIsiE (K:W.Frag):List V→Hp→VK→Prop:=fun xs H Q=>∃ ea C n,xs=[.ref ea,.ty n]∧H ea=some (.ext (zbH ea C))∧W.kitCls K (.ref C) (.type n)=some true∧Q (.bl true) H
theorem zit:zbS X (.builtin "isinstance") (rIsiE X.K):=by
 intro pins s σ H xs us Q I r h
 obtain⟨ea,C,n,rfl,hH,hk,q⟩:=h
 obtain⟨u,w',rfl,rx,ry⟩:=zdI r
 cases (show w'=Value.type n from ry)
 cases (show u=Value.ref ea from rx)
 obtain⟨⟨oe,he,hcl⟩,_⟩:=I.hok ea _ hH
 have LT:W.Looks (model X.prog X.w) s.heap (typeOf (.ref ea)) (.ref C):=hcl ▸ (W.Looks.ld he).andThen .now
 exact zjQ LT I.kIn rfl hk ⟨.bl true,H,I,rfl,q⟩
end
end L2
namespace L2
open PySem PySem.Spec PyProof.Rows
section
variable {prog:Program} {w:World} {A:Around} {E:Value→Shared→Prop} {s:Shared} {T:String} {r d:Addr} {n:Nat} {P:Nat→Value→Prop} {OK:Heap→Prop}
theorem zg4 {Q:List Value→Shared→Prop} (K:W.KdlSrc prog w T r d n P OK) (hh:A.handled=none) (hok:OK s.heap) (hn:n≤sizeLine)
  (hQ:∀(h':Heap) tk acc',(∀ b o,s.heap.get? b=some o→h'.get? b=some o)→s.heap.objs.size < h'.objs.size→ItemsOf P acc' n→Q acc'.toList { s with heap:=h',toks:=tk }) :
  wpAny (model prog w) A (collect (.ref r)) Q E s:=by
 unfold collect
 have hlt:=K.there _ hok
 have key:∀ R:Result→Shared→Prop,(∀ h' tk acc' c',(∀ b o,b≠s.heap.objs.size→(s.heap.push (seqObj "list" #[] 0)).get? b=some o→h'.get? b=some o)→h'.get? s.heap.objs.size=some { cls:=.type "list",dict:=none,data:=.seq acc' c',slots:=#[] }→ItemsOf P acc' n→R (.ok (.ret (.ref s.heap.objs.size))) { s with heap:=h',toks:=tk }) →
   codeAny (model prog w) A (.builtin "list.__iadd__" ⟨[.ref s.heap.objs.size,.ref r],[]⟩) R { s with heap:=s.heap.push (seqObj "list" #[] 0) }:=fun R hR=>by
  refine codeAny_builtin entry_list_iadd' ?_
  rw[Around.under_plainId PySem.F.plain_list_iadd _]
  show wpAny _ _ (Builtin.List.listExtendWith (.ref s.heap.objs.size) (.ref r) (.ref s.heap.objs.size)) _ _ { s with heap:=s.heap.push (seqObj "list" #[] 0) }
  exact W.kdl_extend (R:=R) (s:={ s with heap:=s.heap.push (seqObj "list" #[] 0) }) K hh (K.keep _ _ hok fun b _ o e=>Heap.get?_push_of_some _ e) _ (Nat.ne_of_gt hlt.1) (Nat.ne_of_gt hlt.2) _ 0 (Heap.get?_push_size _ rfl) hR hn
 refine wpAny_bind (wpAny_runValue (codeAny_builtin entry_proto_collect' ?_))
 show wpAny _ _ (do again (.builtin "list.__iadd__" ⟨[←newList [],.ref r],[]⟩)) _ _ s
 refine wpAny_bind (wpAny_newList (wpAny_pure ⟨Code.quiet_builtin _ (by decide +kernel),key _ fun h' tk acc' c' hk hS' hacc=>?_⟩))
 show wpAny (model prog w) A (do
   let o ←load s.heap.objs.size
   match o.data with
   | .seq xs _=>pure xs.toList
   | _=>unsupported "internal:collect") Q E _
 refine wpAny_bind (wpAny_load hS' ?_)
 show wpAny _ _ (pure acc'.toList) Q E _
 exact wpAny_pure (hQ h' tk acc' (fun b o e=>hk b o (Nat.ne_of_lt (Heap.lt_size e)) (Heap.get?_push_of_some _ e)) (Heap.lt_size hS') hacc)
theorem zhu {Q:Value→Shared→Prop} (K:W.KdlSrc prog w T r d n P OK) (hh:A.handled=none) (hok:OK s.heap) (hn:n < 64)
  (hI:∀ acc:Array Value,ItemsOf P acc n→∃ ns,IntsAre acc.toList ns)
  (hQ:∀(h':Heap) (tk:Nat) (acc out:Array Value) (ns ns':List Int) (e:Nat) (a:Addr),(∀ b o,s.heap.get? b=some o→h'.get? b=some o)→s.heap.objs.size≤a→h'.get? a=some (seqObj "list" out e)→ItemsOf P acc n→IntsAre acc.toList ns→IntsAre out.toList ns'→ns'.Perm ns→ns'.Pairwise (·≤·)→Q (.ref a) { s with heap:=h',toks:=tk }) :
  wpAny (model prog w) A (call (.builtin "sorted") [.ref r]) Q E s:=by
 refine Calls.call_function_entry kind_sorted plain_sorted entry_sorted (args_sorted1 _) ?_
 unfold Builtin.«sorted»
 refine wpAny_bind (m:=checkCount "sorted" 1 1 _) (wpAny_pure ?_)
 refine wpAny_bind (zg4 K hh hok (Nat.le_trans (Nat.le_of_lt hn) (by decide)) fun h' tk acc kp hle hacc=>?_)
 have al:acc.toList.length=n:=by rw[Array.length_toList];exact hacc.1
 refine wpAny_bind (wpAny_newList (hsz:=by rw[al];exact Nat.le_trans (Nat.le_of_lt hn) (by decide)) ?_)
 obtain⟨ns,hns⟩:=hI acc hacc
 have hoL:(h'.push (seqObj "list" acc.toList.toArray 0)).get? h'.objs.size=some (seqObj "list" acc.toList.toArray 0):=Heap.get?_push_size _ rfl
 refine wpAny_bind (wpAny_holding (wpAny_call_entry slot_list_sort ⟨_,hoL,rfl⟩ entry_list_sort (list_sort_tree hoL hns (by omega) fun out ns' a1 a2 a3=>⟨_,rfl,?_⟩) (args_list_sort _)))
 obtain⟨e,he⟩:=sortedHeap_at (out:=out) hoL
 refine wpAny_pure ⟨_,rfl,hQ _ tk acc out ns ns' e _ (fun b o hb=>?_) (Nat.le_of_lt hle) he hacc hns a1 a2 a3⟩
 have hb':=kp b o hb
 have hlt:=Heap.lt_size hb'
 rw[sortedHeap_old (Nat.ne_of_lt hlt) (by rw[size_push'];exact Nat.lt_succ_of_lt hlt),Heap.get?_push_ne _ _ _ (Nat.ne_of_lt hlt)]
 exact hb'
end
section
variable {X:Cx}
theorem zfe:∀ {vs:List Value} {ns ms:List Int},IntsAre vs ns→IntsAre vs ms→ns=ms
 | _,_,_,.nil,.nil=>rfl
 | _,_,_,.cons n t a,.cons _ _ b=>by rw[zfe a b]
theorem zgT (hc:X.calm=true):zbS X (.builtin "sorted") (fun xs H Q=>∃(d:Addr) (kvs:List (Key × V)) (ns:List Int),xs=[.ref d]∧H d=some (.dK kvs)∧kvs.map (fun kv=>kV kv.1)=ns.map V.int∧ns.length < 64∧∀(l:Addr) (ms:List Int),H l=none→ms.Perm ns→ms.Pairwise (·≤·)→Q (.ref l) (upd H l (.lst (ms.map V.int)))):=by
 intro pins s σ H xs us Q I r h
 obtain⟨d,kvs,ns,rfl,hd,ek,h64,q⟩:=h
 obtain⟨u,rfl,rx⟩:=zef r
 cases rx
 obtain⟨z1,sy1,vs1,rel1,dd1⟩:=zfB I.hok hd
 obtain⟨ep,da⟩:=dd1.dictAt
 have l1:=rel1.length
 have kl:kvs.length=ns.length:=by
  have:=congrArg List.length ek
  rw[List.length_map,List.length_map]at this
  exact this
 have items:∀ acc:Array Value,ItemsOf (fun i v=>∃ k x,vs1[i]?=some (k,x)∧zdd k v=true) acc vs1.length→aw (ns.map V.int) acc.toList:=fun acc its=>by
  have al:acc.toList.length=vs1.length:=by rw[Array.length_toList];exact its.1
  have hat:∀ j x,acc.toList[j]?=some x→∃ k y,vs1[j]?=some (k,y)∧zdd k x=true:=fun j x ej=>its.2 j x (by rw[←Array.getElem?_toList];exact ej)
  rw[←ek]
  clear its z1 l1 da dd1 q hd ek kl
  generalize acc.toList=L at al hat
  induction rel1 generalizing L with
  | nil =>
   match L,al with
   | [],_=>exact .nil
  | @cons p p' ps ps' a _ ih =>
   match L,al with
   | x :: L,al =>
    obtain⟨k,y,e1,e2⟩:=hat 0 x rfl
    cases e1
    refine .cons ?_ (ih L (by simpa using al) fun j x ej=>hat (j+1) x ej)
    have:=zjO e2
    show ax (kV p.1) x
    rw[show p.1=k from a.1]
    exact this
 refine zhu (W.kdl_dict (d:=d) (kvs:=vs1) (ep:=ep) sy1) (I.ok.hd hc) da (by omega) (fun acc its=>⟨ns,zfR (items acc its)⟩) fun h' tk acc out ns1 ns' e a kp le ha its hi hi' pm so=>?_
 have en:ns1=ns:=zfe hi (zfR (items acc its))
 subst en
 have ml:=pm.length_eq
 exact⟨.ref a,_,I.laid (t':=tk) kp le (show zaL X.prog X.w _ h' _ (.lst (ns'.map V.int)) from⟨Nat.le_of_lt (zaU (by rw[List.length_map];omega)),out.toList,e,zeD hi',by rw[Array.toArray_toList];exact ha⟩),rfl,q _ ns' (I.hok.fresh le) pm so⟩
def tD1 (tk tv:TE):TE:=fun σ H Q=>∀ d,H d=none→tk σ (upd H d (.dK [])) fun x H1=>tv σ H1 fun y H2=>∃ k,x=kV k∧H2 d=some (.dK [])∧Q (.ref d) (upd H2 d (.dK [(k,y)]))
theorem pe_d1 {ke ve:Expr} {pos:Pos} {tk tv:TE} (hk:PE X ke tk) (hv:PE X ve tv)
  (hsh:(evalEachOpt [some ke] X.env).zip ((evalEach [ve] X.env).map fun v=>do let x ←v;standAt pos;pure x)=([(eval ke X.env,do let x ←eval ve X.env;standAt pos;pure x)]:List (Sem Value × Sem Value)).map fun p=>(some p.1,p.2):=by rfl):PE X (.Dict [some ke] [ve] pos) (tD1 tk tv):=by
 intro pins s σ H Q I h
 refine wpAny_Dict_pairs (knd:=zat X.prog X.w) hsh (by simp) (by show 1≤15;decide) ?_
 have I0:=I.laid (a:=s.heap.objs.size) (o:=.dK []) (t':=s.toks) (fun _ _ q=>Heap.get?_push_of_some _ q) (Nat.le_refl _) (zgM s.heap I.big)
 have h0:=h _ (I.hok.fresh (Nat.le_refl _))
 refine evalPairs_cons (thn (hk pins _ σ _ _ I0 h0) fun kv s1 ⟨x,H1,I1,rx,q1⟩=>?_)
 refine wpAny_bind (thn (hv pins s1 σ H1 _ I1 q1) fun vv s2 ⟨y,H2,I2,ry,k,ex,hd,q2⟩=>wpAny_bind (wpAny_standAt (wpAny_pure (evalPairs_nil ?_))))
 subst ex
 obtain⟨z,sy,ws,rel,dd⟩:=zfB I2.hok hd
 cases rel
 refine⟨[(k,vv)],⟨zej rx,rfl,True.intro⟩,dd,fun h' dd' sb=>?_⟩
 obtain⟨o,es,ep,g1,g2⟩:=id dd'
 exact⟨.ref _,_,zeb I2 (by rw[hd];exact True.intro) sb ⟨_,g1⟩ (zgA (by show 1≤sizeLine;decide) sy (.cons ⟨rfl,ry⟩ .nil) dd'),rfl,q2⟩
end
end L2
namespace L2
open PySem PySem.Spec PyProof.Rows
section
variable {X:Cx}
def zho:V→List V→Hp→VK→Prop:=fun x vs H Q=>∃(d:Addr) (k:Key) (v:V) (kvs:List (Key × V)),x=.ref d∧vs=[kV k,v]∧H d=some (.dK kvs)∧kvs.length < sizeLine ∧
 ((∃ u,zaz kvs k=some u∧Q u H)∨(zaz kvs k=none∧Q v (upd H d (.dK (zaI kvs k v)))))
theorem zjM:MtR X "dict.setdefault" zho:=by
 intro pins s σ H x vs v us Q I rx rv h
 obtain⟨d,k,y,kvs,rfl,rfl,hd,hz,q⟩:=h
 cases rx
 cases rv with
 | cons rk t =>
 cases t with
 | @cons _ y' _ _ ry t =>
 cases t
 obtain⟨z,sy,ws,rel,dd⟩:=zfB I.hok hd
 have ll:ws.length≤sizeLine:=by rw[←rel.length];exact z
 have hv:=rel.val k
 refine call_meetsIn PySem.F.slot_dict_setdefault dd.typeIs PySem.F.entry_dict_setdefault (PySem.F.args_dict_setdefault_3 _ _ _) (kt_meets_setdefault (zat X.prog X.w) d (zej rk) sy y') ⟨ws,dd,ll,fun u hu=>?_,fun hn h' dd' hs=>?_⟩
 ·rw[hu]at hv
  rcases q with ⟨u',q1,q2⟩ | ⟨q1,_⟩
  ·rw[q1]at hv
   exact⟨u',H,I.tok _,hv,q2⟩
  ·rw[q1]at hv
   exact hv.elim
 ·rw[hn]at hv
  rcases q with ⟨u',q1,q2⟩ | ⟨q1,q2⟩
  ·rw[q1]at hv
   exact hv.elim
  ·have he:∃ q,h'.get? d=some q:=let ⟨q,_,_,hq,_⟩:=dd';⟨q,hq⟩
   have hl:(zaI kvs k y).length≤sizeLine:=by have:=zcY kvs k y;omega
   exact⟨y,_,zeb I (by rw[hd];exact True.intro) hs he (zgA hl sy (rel.put k ry) dd'),ry,q2⟩
def tSetK (to:TE) (t:TA):TE:=fun σ H Q=>to σ H fun x H1=>(∃ d kvs,x=.ref d∧H1 d=some (.dK kvs))∧t σ H1 fun xs H2=>zho x xs H2 Q
theorem zg6 {o e:Expr} {es:List Expr} {to:TE} {t:TA} {apos cpos:Pos} (ho:PE X o to) (ha:PA X (e :: es) t)
  (hbase:attributeBase o "setdefault" X.env (eval o X.env)=eval o X.env:=by rfl)
  (hfew:((backTo cpos (starEach (e :: es) X.env)).all (fun x=>!x.1)&&(backToKw cpos (keywordEach [] X.env)).all (fun x=>x.1.isSome)
   && decide ((e :: es).length+([]:List Keyword).length+(if([]:List Keyword).isEmpty then 0 else 1) < 30))=true:=by rfl)
  (hline:(apos.endLine == cpos.line)=true:=by rfl) (hs:starEach (e :: es) X.env=(false,eval e X.env) :: starEach es X.env:=by rfl) (hplain:(backTo cpos (starEach es X.env)).any (·.1)=false:=by rfl) :
  PE X (.Call (.Attribute o "setdefault" apos) (e :: es) [] cpos) (tSetK to t):=by
 intro pins s σ H Q I h
 refine wpAny_Call_method_late hbase hfew hline rfl (thn (ho pins s σ H _ I h) fun v s1 ⟨x,H1,I1,r1,⟨d,kvs,ex,sd⟩,q1⟩=>?_)
 subst ex
 cases r1
 obtain⟨h1,h2,_⟩:=zhX I1 (.inl ⟨kvs,.inl sd⟩)
 refine⟨"dict","dict.setdefault",PySem.F.plainAttrs_dict,PySem.F.slot_dict_setdefault,PySem.F.type_dict_setdefault,h1,h2,?_⟩
 have hA:=ha cpos pins s1 σ H1 _ I1 q1
 rw[hs]at hA ⊢
 refine Calls.callWith_builtin (by show(false||(backTo cpos (starEach es X.env)).any (·.1))=false;rw[hplain] <;> rfl) (Calls.evalArgs_plain ?_)
 exact thn hA fun us s2 ⟨vs,H2,I2,r2,q2⟩=>zjM pins s2 σ H2 (.ref d) vs (.ref d) us Q I2 rfl r2 q2
end
end L2
namespace L2
open PySem PySem.Spec PySem.Calls PyProof.Rows PySem.W PySem.Builtin PySem.Builtin.ObjectAttr PySem.Builtin.Getset_descriptor
section
variable {prog:Program} {w:World} {A:Around} {E:Value→Shared→Prop} {s:Shared} {K:Frag} {x C:Addr}
theorem xc_get {tp:Value} {R:Result→Shared→Prop} (X:K.In s.heap) (I:zbH x C s.heap) (hm:mroIn K C (.type "object")=some true)
  (h:R (.ok (.ret (.ref C))) s):codeAny (model prog w) A (.call (.builtin "getset_descriptor.__get__") ⟨[.builtin "object.__class__",.ref x,tp],[]⟩) R s:=by
 obtain⟨hh,g,dr,t,os⟩:=s
 obtain⟨oe,he,hc⟩:=I
 have L0:Looks (model prog w) hh (typeOf (.ref x)) (.ref C):=hc ▸ (Looks.ld he).andThen .now
 have L1:=looks_mroIn (M:=model prog w) X hm
 refine codeAny_call_builtin KF.slot_gs.plain KF.entry_gs (KF.slot_gs.check _ _ _ _ _ _ _ _ KF.type_class (KF.args_gs _ _ _) ?_)
 unfold Builtin.«getset_descriptor.__get__» descrGet
 rw[dga_obj]
 refine wpAny_bind (wpAny_pure ?_)
 unfold descrGetter descrCheckInstance descrNameAndClass isInstance
 simp only[KF.owner_class]
 repeat lk
 refine⟨Code.quiet_builtin _ (by decide +kernel),codeAny_builtin KF.entry_class ?_⟩
 unfold Builtin.«object.__class__» shownTypeOf
 repeat lk
 exact h
structure XcK (K:Frag) (C:Addr):Prop where
 c:(clsIn K C).isSome=true
 ga:findIn K (.ref C) "__getattribute__"=some (some (.builtin "BaseException.__getattribute__"))
 gn:findIn K (.ref C) "__getattr__"=some none
 cl:findIn K (.ref C) "__class__"=some (some (.builtin "object.__class__"))
 get:specialIn K (.builtin "object.__class__") "__get__"=some (some (.builtin "getset_descriptor.__get__"))
 tk:takesIn K (.builtin "object.__class__")=some true
 mo:mroIn K C (.type "object")=some true
 mb:mroIn K C (.type "BaseException")=some true
theorem zja {M:Model} {h:Heap} (X:K.In h) (k:XcK K C):Looks M h (find (.ref x) (.ref C) "__class__") (.bind (.builtin "getset_descriptor.__get__") (.builtin "object.__class__")):=by
 have L1:=looks_findIn (M:=M) X k.cl
 have L2:Looks M h (getOf (some (.builtin "object.__class__"))) (some (.builtin "getset_descriptor.__get__")):=looks_specialIn X k.get
 have L3:=looks_takesIn (M:=M) X k.tk
 intro A Q E s kk q
 unfold find
 refine wpAny_bind ((L1.keeps kk).here ?_)
 refine wpAny_bind ((L2.keeps kk).here ?_)
 unfold dataDescriptor?
 refine wpAny_bind (wpAny_bind ((L3.keeps kk).here ?_))
 exact wpAny_pure (wpAny_bind (wpAny_rule (wpAny_pure q)))
theorem ziy {tk:Tok} {Q:Fin→Shared→Prop} (X:K.In s.heap) (I:zbH x C s.heap) (k:XcK K C) (h:Q (.done (.ret (.ref C))) s) :
  wpAny (model prog w) A (Builtin.«object.__getattribute__» ⟨[.ref x,.str "__class__" tk],[]⟩) Q E s:=by
 obtain⟨hh,g,dr,t,os⟩:=s
 have I0:=I
 obtain⟨oe,he,hc⟩:=I
 have L0:Looks (model prog w) hh (typeOf (.ref x)) (.ref C):=hc ▸ (Looks.ld he).andThen .now
 have LF:=zja (M:=model prog w) (x:=x) X k
 unfold Builtin.«object.__getattribute__»
 refine wpAny_bind (wpAny_pure ?_)
 refine wpAny_bind (wpAny_pure ?_)
 refine wpAny_bind (L0.at ?_)
 refine wpAny_bind (LF.at ?_)
 show wpAny _ _ (holding [_] (call _ _) >>= ret) _ _ _
 exact wpAny_bind (wpAny_holding (wpAny_call (xc_get (s:=⟨hh,g,dr,t,os⟩) X I0 k.mo (wpAny_pure h))))
theorem ziz {nameV:Value} {M:Model} {Q:Unit→Shared→Prop} (X:K.In s.heap) (I:zbH x C s.heap) (k:XcK K C) (hq:Q () s):wpAny M A (checkBuiltinCall "BaseException.__getattribute__" ⟨[.ref x,nameV],[]⟩) Q E s:=by
 obtain⟨hh,g,dr,t,os⟩:=s
 obtain⟨oe,he,hc⟩:=I
 have L0:Looks M hh (typeOf (.ref x)) (.ref C):=hc ▸ (Looks.ld he).andThen .now
 have LB:=looks_mroIn (M:=M) X k.mb
 have hk:builtinKind "BaseException.__getattribute__"=some .slot:=by decide +kernel
 have hsplit:splitId "BaseException.__getattribute__"=some ("BaseException","__getattribute__"):=by decide +kernel
 have ha:=F.args_bexc_ga (.ref x) nameV
 simp only[checkBuiltinCall,hk,hsplit]
 refine wpAny_bind ?_
 unfold isInstance
 refine wpAny_bind (L0.at (LB.at ?_))
 repeat wp_step
 exact hq
theorem zjb {Q:Option Value→Shared→Prop} (X:K.In s.heap) (I:zbH x C s.heap) (k:XcK K C) (h:Q (some (.ref C)) { s with toks:=s.toks+1 }):wpAny (model prog w) A (getAttr? (.ref x) "__class__") Q E s:=by
 obtain⟨hh,g,d,t,os⟩:=s
 have I0:=I
 obtain⟨oe,he,hc⟩:=I
 have L0:Looks (model prog w) hh (typeOf (.ref x)) (.ref C):=hc ▸ (Looks.ld he).andThen .now
 have L1:=looks_findIn (M:=model prog w) X k.ga
 have L2:=looks_findIn (M:=model prog w) X k.gn
 unfold getAttr? getAttrBy? getAttrBy
 refine wpAny_bind (wpAny_mkText (wpAny_bind (wpAny_attempt (wpAny_holding (wpAny_bind (L0.at (wpAny_bind (L1.at ?_))))))))
 show wpAny _ _ (getAttrByItsOwn _ _ _ _ _ _) _ _ _
 unfold getAttrByItsOwn
 refine wpAny_bind (L2.at ?_)
 refine wpAny_bind (wpAny_attempt (wpAny_holding ?_))
 show wpAny _ _ (boundAndCalled _ _ _) _ _ _
 unfold boundAndCalled
 have f3:=F.excAttr_ValueError.ga.bind (.ref x)
 rw[f3]
 refine wpAny_bind (wpAny_pure ?_)
 refine wpAny_call (codeAny_call_builtin F.excAttr_ValueError.ga.plain F.entry_bexc_ga (ziz (s:=⟨hh,g,d,t+1,os⟩) X I0 k (ziy (s:=⟨hh,g,d,t+1,os⟩) X I0 k ?_)))
 exact handed_on rfl (wpAny_pure h)
theorem zhb (k:XcK K C):KitX K (.ref x) (.ref C) (fun h=>zbH x C h) where
 ty:=fun M h _ I=>by
  obtain⟨oe,he,hc⟩:=I
  exact hc ▸ (Looks.ld he).andThen .now
 it:=fun _ _ X _=>by
  obtain⟨cdD,hcD⟩:=Option.isSome_iff_exists.mp k.c
  unfold clsIn at hcD
  split at hcD
  ·rename_i c' d' cd' sl' ho
   intro A' Q' E' s' k q
   unfold isType loadHead
   exact wpAny_bind (wpAny_loadPart (k _ _ (X _ _ ho)) (wpAny_pure q))
  ·cases hcD
 ne:=fun h tp dd its n sl X htp=>by
  obtain⟨cdD,hcD⟩:=Option.isSome_iff_exists.mp k.c
  refine Bool.eq_false_iff.mpr fun q=>?_
  have e:C=tp:=Value.ref.inj (beq_iff_eq.mp q)
  subst e
  unfold clsIn at hcD
  split at hcD
  ·rename_i c' d' cd' sl' ho
   have z:=(X _ _ ho).symm.trans htp
   cases z
  ·cases hcD
 ca:=fun X I kk=>zjb X I k kk
end
section
variable {X:Cx}
def zhp (K:Frag):List V→Hp→VK→Prop:=fun xs H Q=>∃(ea C tp:Addr) (cs:List Addr) (b:Bool),xs=[.ref ea,.ref tp]∧H ea=some (.ext (zbH ea C))∧XcK K C∧SqT K H tp (cs.map V.ref) ∧
 kitAny K (.ref C) (cs.map Value.ref)=some b∧Q (.bl b) H
theorem zgG:∀ {cs:List Addr} {ws:List Value},aw (cs.map V.ref) ws→ws=cs.map Value.ref
 | [],_,h=>by cases h;rfl
 | c :: cs,_,h=>by
  cases h with
  | cons a b =>
   cases a
   rw[zgG b];rfl
theorem zgl:zbS X (.builtin "isinstance") (zhp X.K):=by
 intro pins s σ H xs us Q I r h
 obtain⟨ea,C,tp,cs,b,rfl,hH,hk,ht,hb,q⟩:=h
 obtain⟨u,w',rfl,rx,ry⟩:=zdI r
 cases (show w'=Value.ref tp from ry)
 cases (show u=Value.ref ea from rx)
 obtain⟨hx,_⟩:=I.hok ea _ hH
 obtain⟨its,rl,p,_⟩:=I.tuple ht
 have e:=zgG rl
 subst e
 obtain⟨o,ho,hcl,n,hdt⟩:=p
 obtain⟨oc,od,oda,osl⟩:=o
 cases hcl
 cases hdt
 exact kia_tup (zhb hk) I.kIn hx ho hb (fun z=>nomatch z) fun tk=>⟨.bl b,H,I.tok _,rfl,q⟩
def rIsiX (K:Frag):List V→Hp→VK→Prop:=fun xs H Q=>∃(ea C D:Addr) (b:Bool),xs=[.ref ea,.ref D]∧H ea=some (.ext (zbH ea C))∧XcK K C∧kitOne K (.ref C) (.ref D)=some b∧Q (.bl b) H
theorem zis:zbS X (.builtin "isinstance") (rIsiX X.K):=by
 intro pins s σ H xs us Q I r h
 obtain⟨ea,C,D,b,rfl,hH,hk,hb,q⟩:=h
 obtain⟨u,w',rfl,rx,ry⟩:=zdI r
 cases (show w'=Value.ref D from ry)
 cases (show u=Value.ref ea from rx)
 obtain⟨hx,_⟩:=I.hok ea _ hH
 exact kia_one (zhb hk) I.kIn hx hb (fun z=>nomatch z) fun tk=>⟨.bl b,H,I.tok _,rfl,q⟩
end
end L2
namespace L2
open PySem PySem.Spec PyProof.Rows
abbrev zds (h:Heap) (z TI TO:Addr) (f0 f1:Value):Prop :=
 h.get? z=some { cls:=.type "zip",dict:=none,data:=.fields #[f0,f1,.bool false,.ref TI,.ref TO],slots:=#[] }
def Zow (h:Heap) (z TI TO i1 i2:Addr):Prop:=IsZip h z TI TO .none∨∃(p:Addr) (f1 u v:Value),zds h z TI TO (rawInt p) f1∧IsPair h p u v∧p≠z∧p≠TO∧p≠i1∧p≠i2
section
variable {prog:Program} {w:World} {A:Around} {E:Value→Shared→Prop} {s:Shared}
theorem ze9 {M:Model} {a:Addr} {Q:Option Obj→Shared→Prop} (h:Q (s.heap.get? a) s):wpAny M A (loadIfAlive a) Q E s:=fun Γ p hΓ=>by
 unfold loadIfAlive
 rw[Sem.wp_loadIfAlive]
 simpa [Sem.wp] using h
theorem zgI {z TI TO p:Addr} {f1 u v:Value} {Q:Bool→Shared→Prop} (hz:zds s.heap z TI TO (rawInt p) f1) (hp:IsPair s.heap p u v)
  (hQ:∀ h' f,zds h' z TI TO (rawInt p) f→Heap.SameBut z s.heap h'→Q false { s with heap:=h' }):wpAny (model prog w) A (Builtin.SmallTypes.ownedTupleIsFree (.ref z)) Q E s:=by
 unfold Builtin.SmallTypes.ownedTupleIsFree
 refine wpAny_bind (wpAny_field hz rfl (x:=rawInt p) rfl ?_)
 show wpAny _ _ (loadIfAlive ((p:Int).toNat) >>= _) _ _ _
 refine wpAny_bind (ze9 ?_)
 rw[Int.toNat_natCast,hp]
 show wpAny _ _ (field (.ref z) 1 >>= _) _ _ _
 refine wpAny_bind (wpAny_field hz rfl (x:=f1) rfl ?_)
 by_cases c:(f1 != .bool true)=true
 ·rw[if_pos c]
  refine wpAny_bind (wpAny_setField_rec hz (by simp) fun h₁ hz₁ hs₁=>?_)
  exact wpAny_pure (hQ h₁ (.bool true) hz₁ hs₁)
 ·rw[if_neg c]
  exact wpAny_pure (hQ s.heap f1 hz ⟨rfl,fun _ _=>rfl⟩)
theorem zh5 {z TI' TO i1 i2 l1 l2:Addr} {k1 k2:Nat} {xs ys:Array Value} {x y u0 v0 u v f1:Value} {p:Addr} {Q:Value→Shared→Prop} (D:ZipApart z TI' TO i1 i2 l1 l2)
  (hz:zds s.heap z TI' TO (rawInt p) f1) (hp:IsPair s.heap p u v) (np:p≠z∧p≠TO∧p≠i1∧p≠i2) (hTI:IsPair s.heap TI' (.ref i1) (.ref i2)) (hTO:IsPair s.heap TO u0 v0) (h1:TuI s.heap i1 l1 k1 xs) (h2:TuI s.heap i2 l2 k2 ys) (hx:xs[k1]?=some x) (hy:ys[k2]?=some y)
  (hQ:∀ h' f,zds h' z TI' TO (rawInt p) f→h'.IsTupleIter i1 l1 (k1+1)→h'.IsTupleIter i2 l2 (k2+1)→IsPair h' s.heap.objs.size x y→h'.objs.size=s.heap.objs.size+1 →
   (∀ c o,c≠z→c≠i1→c≠i2→s.heap.get? c=some o→h'.get? c=some o)→Q (.ref s.heap.objs.size) { s with heap:=h' }) :
  wpAny (model prog w) A (Builtin.«zip.__next__» ⟨[.ref z],[]⟩) (fun fin s'=>∃ v,fin=.done (.ret v)∧Q v s') E s:=by
 show wpAny _ _ (field (.ref z) 2 >>= _) _ _ _
 refine wpAny_bind (wpAny_field hz rfl (x:=.bool false) rfl ?_)
 show wpAny _ _ (field (.ref z) 3 >>= _) _ _ _
 refine wpAny_bind (wpAny_field hz rfl (x:=.ref TI') rfl ?_)
 refine wpAny_bind (wpAny_seqItems hTI rfl ?_)
 show wpAny _ _ (Builtin.SmallTypes.ownedTupleIsFree (.ref z) >>= _) _ _ _
 refine wpAny_bind (zgI hz hp fun h₁ f hz₁ hs₁=>?_)
 simp only[Bool.false_eq_true,if_false]
 refine wpAny_bind ?_
 rw[←Array.forIn_toList]
 simp only[List.forIn_cons,List.forIn_nil]
 refine wpAny_bind (wpAny_bind (wpAny_holding ?_))
 show wpAny _ _ (Builtin.SmallTypes.nextOf (.ref i1) >>= _) _ _ _
 have a1:=h1.ext hs₁.extBut D.i1z D.l1z
 refine wpAny_bind (zcL a1.1 a1.2 hx fun h₂ h1₂ hs₂=>wpAny_pure (wpAny_pure ?_))
 refine wpAny_bind (wpAny_bind (wpAny_holding ?_))
 show wpAny _ _ (Builtin.SmallTypes.nextOf (.ref i2) >>= _) _ _ _
 have a2:=(h2.ext hs₁.extBut D.i2z D.l2z).ext hs₂.extBut D.i12.symm D.l2i1
 refine wpAny_bind (zcL a2.1 a2.2 hy fun h₄ h2₄ hs₄=>wpAny_pure (wpAny_pure (wpAny_pure ?_)))
 refine wpAny_bind (wpAny_newTuple ?_ (show 2≤sizeLine by rw[sizeLine_eq];decide))
 have hsz:h₄.objs.size=s.heap.objs.size:=by rw[hs₄.1,hs₂.1,hs₁.1]
 have hz₄:zds h₄ z TI' TO (rawInt p) f:=hs₄.extBut _ _ D.i2z.symm (hs₂.extBut _ _ D.i1z.symm hz₁)
 have hk:∀ c o,c≠z→c≠i1→c≠i2→s.heap.get? c=some o→h₄.get? c=some o:=fun c o c1 c3 c4 e=>hs₄.extBut _ _ c4 (hs₂.extBut _ _ c3 (hs₁.extBut _ _ c1 e))
 refine wpAny_pure ⟨_,rfl,?_⟩
 show Q (.ref h₄.objs.size) _
 rw[hsz]
 refine hQ _ f (Heap.get?_push_of_some _ hz₄) ((h1₂.extBut hs₄.extBut D.i12).at fun o e=>Heap.get?_push_of_some _ e) (h2₄.at fun o e=>Heap.get?_push_of_some _ e) ?_ (by rw[Heap.size_push,hsz]) fun c o c1 c3 c4 e=>Heap.get?_push_of_some _ (hk c o c1 c3 c4 e)
 rw[←hsz]
 exact Heap.get?_push_size _ rfl
theorem zix {z TI' TO i1 i2 l1 l2:Addr} {k1:Nat} {xs:Array Value} {u0 v0 u v f1:Value} {p:Addr} {Q:Fin→Shared→Prop} (hh:A.handled=none) (D:ZipApart z TI' TO i1 i2 l1 l2)
  (hz:zds s.heap z TI' TO (rawInt p) f1) (hp:IsPair s.heap p u v) (hTI:IsPair s.heap TI' (.ref i1) (.ref i2)) (hTO:IsPair s.heap TO u0 v0) (h1:TuI s.heap i1 l1 k1 xs) (hx:xs[k1]?=none)
  (hE:∀ h' e,(∀ c o,c≠z→c≠TO→c≠i1→c≠i2→s.heap.get? c=some o→h'.get? c=some o)→(∃ o,h'.get? e=some o∧o.cls=.type "StopIteration")→E (.ref e) { s with heap:=h' }) :
  wpAny (model prog w) A (Builtin.«zip.__next__» ⟨[.ref z],[]⟩) Q E s:=by
 show wpAny _ _ (field (.ref z) 2 >>= _) _ _ _
 refine wpAny_bind (wpAny_field hz rfl (x:=.bool false) rfl ?_)
 show wpAny _ _ (field (.ref z) 3 >>= _) _ _ _
 refine wpAny_bind (wpAny_field hz rfl (x:=.ref TI') rfl ?_)
 refine wpAny_bind (wpAny_seqItems hTI rfl ?_)
 show wpAny _ _ (Builtin.SmallTypes.ownedTupleIsFree (.ref z) >>= _) _ _ _
 refine wpAny_bind (zgI hz hp fun h₁ f hz₁ hs₁=>?_)
 simp only[Bool.false_eq_true,if_false]
 refine wpAny_bind ?_
 rw[←Array.forIn_toList]
 simp only[List.forIn_cons,List.forIn_nil]
 refine wpAny_bind (wpAny_bind (wpAny_holding ?_))
 show wpAny _ _ (Builtin.SmallTypes.nextOf (.ref i1) >>= _) _ _ _
 have a1:=h1.ext hs₁.extBut D.i1z D.l1z
 refine wpAny_bind (zcU hh a1.1 a1.2 hx fun h₂ e hs₂ he=>hE h₂ e (fun c o c1 _ c3 _ x=>hs₂ _ _ c3 (hs₁.extBut _ _ c1 x)) he)
structure ZSt (h:Heap) (z TI' TO i1 i2 l1 l2:Addr) (k:Nat) (xs ys:Array Value):Prop where
 ow:Zow h z TI' TO i1 i2
 ti:IsPair h TI' (.ref i1) (.ref i2)
 to:∃ u v,IsPair h TO u v
 a:TuI h i1 l1 k xs
 b:TuI h i2 l2 k ys
theorem ziu {z TI' TO i1 i2 l1 l2:Addr} {k:Nat} {xs ys:Array Value} {x y:Value} {Q:Option Value→Shared→Prop} (D:ZipApart z TI' TO i1 i2 l1 l2) (Z:ZSt s.heap z TI' TO i1 i2 l1 l2 k xs ys) (hx:xs[k]?=some x) (hy:ys[k]?=some y)
  (hQ:∀ h',ZSt h' z TI' TO i1 i2 l1 l2 (k+1) xs ys→IsPair h' s.heap.objs.size x y→(∀ c o,c≠z→c≠TO→c≠i1→c≠i2→s.heap.get? c=some o→h'.get? c=some o)→h'.objs.size=s.heap.objs.size+1→Q (some (.ref s.heap.objs.size)) { s with heap:=h' }) :
  wpAny (model prog w) A (pyNext (.ref z)) Q E s:=by
 obtain⟨ow,ti,⟨u0,v0,hto⟩,a,b⟩:=Z
 have lt1:l1 < s.heap.objs.size:=by obtain⟨o,e,_⟩:=a.2;exact Heap.lt_size e
 have ltz:z < s.heap.objs.size:=by rcases ow with e | ⟨_,_,_,_,e,_⟩ <;> exact Heap.lt_size e
 have ltTO:TO < s.heap.objs.size:=Heap.lt_size hto
 have lti1:i1 < s.heap.objs.size:=by obtain⟨o,e,_⟩:=id a.1;exact Heap.lt_size e
 have lti2:i2 < s.heap.objs.size:=by obtain⟨o,e,_⟩:=id b.1;exact Heap.lt_size e
 rcases ow with e | ⟨p,f1,u,v,e,hp,np⟩
 ·refine zfb D e ti hto a b hx hy fun h' g1 g3 g4 g5 gT gz gk=>hQ h' ⟨.inr ⟨s.heap.objs.size,.bool false,x,y,g1,gT,Nat.ne_of_gt ltz,Nat.ne_of_gt ltTO,Nat.ne_of_gt lti1,Nat.ne_of_gt lti2⟩,gk _ _ D.TIz D.TITO D.TIi1 D.TIi2 ti,⟨x,y,g3⟩,⟨g4,?_⟩,⟨g5,?_⟩⟩ gT gk gz
  ·obtain⟨o,e1,e2⟩:=a.2
   exact⟨o,gk _ _ D.l1z D.l1TO D.l1i1 D.l1i2 e1,e2⟩
  ·obtain⟨o,e1,e2⟩:=b.2
   exact⟨o,gk _ _ D.l2z D.l2TO D.l2i1 D.l2i2 e1,e2⟩
 ·have hT:s.TypeIs (.ref z) "zip":=⟨_,e,rfl⟩
  unfold pyNext
  refine wpAny_bind (wpAny_attempt (wpAny_callSpecial?_slot (name:=Str.ofString "__next__") hT F.slot_zip_next
   (wpAny_call_entry F.slot_zip_next hT F.entry_zip_next (zh5 D e hp np ti hto a b hx hy fun h' f a1 a3 a4 a5 a6 a7=>wpAny_pure (hQ h' ⟨.inr ⟨p,f,u,v,a1,a7 _ _ np.1 np.2.2.1 np.2.2.2 hp,np⟩,a7 _ _ D.TIz D.TIi1 D.TIi2 ti,⟨u0,v0,a7 _ _ D.TOz D.TOi1 D.TOi2 hto⟩,⟨a3,?_⟩,⟨a4,?_⟩⟩ a5 (fun c o c1 _ c3 c4 q=>a7 c o c1 c3 c4 q) a6)) (F.args_zip_next_1 _))))
  ·obtain⟨o,e1,e2⟩:=a.2
   exact⟨o,a7 _ _ D.l1z D.l1i1 D.l1i2 e1,e2⟩
  ·obtain⟨o,e1,e2⟩:=b.2
   exact⟨o,a7 _ _ D.l2z D.l2i1 D.l2i2 e1,e2⟩
theorem zi8 {z TI' TO i1 i2 l1 l2:Addr} {k:Nat} {xs ys:Array Value} {Q:Option Value→Shared→Prop} (hh:A.handled=none) (D:ZipApart z TI' TO i1 i2 l1 l2) (Z:ZSt s.heap z TI' TO i1 i2 l1 l2 k xs ys) (hx:xs[k]?=none)
  (hQ:∀ h',(∀ c o,c≠z→c≠TO→c≠i1→c≠i2→s.heap.get? c=some o→h'.get? c=some o)→Q none { s with heap:=h' }):wpAny (model prog w) A (pyNext (.ref z)) Q E s:=by
 obtain⟨ow,ti,⟨u0,v0,hto⟩,a,b⟩:=Z
 rcases ow with e | ⟨p,f1,u,v,e,hp,np⟩
 ·exact zdS hh D e ti hto a b (.inl hx) hQ
 ·have hT:s.TypeIs (.ref z) "zip":=⟨_,e,rfl⟩
  unfold pyNext
  refine wpAny_bind (wpAny_attempt (wpAny_callSpecial?_slot (name:=Str.ofString "__next__") hT F.slot_zip_next
   (wpAny_call_entry F.slot_zip_next hT F.entry_zip_next (zix hh D e hp ti hto a hx fun h' e hk he=>?_) (F.args_zip_next_1 _))))
  obtain⟨o,ho,hc⟩:=he
  refine wpAny_bind (wpAny_isInstance (T:="StopIteration") (b:=true) ⟨o,ho,hc⟩ isSubtype_stop ?_)
  exact wpAny_pure (hQ _ hk)
def ze7 (N:Nat) (h:Heap) (z TO i1 i2 S:Addr) (xs ys:Array Value) (acc:Array Value) (k:Nat):Prop:=acc.size=k∧∀(j:Nat),j < k→∃ p x y,acc[j]?=some (.ref p)∧xs[j]?=some x∧ys[j]?=some y∧IsPair h p x y∧p≠z∧p≠TO∧p≠i1∧p≠i2∧p≠S∧N≤p
theorem zdu {h h':Heap} {z TI' TO i1 i2 l1 l2 S:Addr} {k:Nat} {xs ys:Array Value} (Z:ZSt h z TI' TO i1 i2 l1 l2 k xs ys) (kp:∀ c o,c≠S→h.get? c=some o→h'.get? c=some o) (n:S≠z∧S≠TI'∧S≠TO∧S≠i1∧S≠i2∧S≠l1∧S≠l2) (hS:∀ u v,¬IsPair h S u v):ZSt h' z TI' TO i1 i2 l1 l2 k xs ys:=by
 obtain⟨n1,n2,n3,n4,n5,n6,n7⟩:=n
 obtain⟨ow,ti,⟨u0,v0,hto⟩,⟨a1,o1,e1,r1⟩,b1,o2,e2,r2⟩:=Z
 refine⟨?_,kp _ _ n2.symm ti,⟨u0,v0,kp _ _ n3.symm hto⟩,⟨a1.at fun o e=>kp _ o n4.symm e,o1,kp _ _ n6.symm e1,r1⟩,b1.at fun o e=>kp _ o n5.symm e,o2,kp _ _ n7.symm e2,r2⟩
 rcases ow with e | ⟨p,f1,u,v,e,hp,np⟩
 ·exact .inl (kp _ _ n1.symm e)
 ·exact .inr ⟨p,f1,u,v,kp _ _ n1.symm e,kp _ _ (fun c=>hS u v (c ▸ hp)) hp,np⟩
theorem zhG {N:Nat} {R:Result→Shared→Prop} {z TI' TO i1 i2 l1 l2 S:Addr} {xs ys:Array Value} (hh:A.handled=none) (D:ZipApart z TI' TO i1 i2 l1 l2) (nS:S≠z∧S≠TI'∧S≠TO∧S≠i1∧S≠i2∧S≠l1∧S≠l2) (hl:xs.size=ys.size) (hn:xs.size≤sizeLine) (res:Value) :
  ∀(m k:Nat) (s:Shared) (acc:Array Value) (c:Nat),N≤s.heap.objs.size→xs.size - k=m→k≤xs.size→ZSt s.heap z TI' TO i1 i2 l1 l2 k xs ys→s.heap.get? S=some { cls:=.type "list",dict:=none,data:=.seq acc c,slots:=#[] }→ze7 N s.heap z TO i1 i2 S xs ys acc k →
  (∀ h' acc' c',(∀ b o,b≠S→b≠z→b≠TO→b≠i1→b≠i2→s.heap.get? b=some o→h'.get? b=some o)→h'.get? S=some { cls:=.type "list",dict:=none,data:=.seq acc' c',slots:=#[] }→ze7 N h' z TO i1 i2 S xs ys acc' xs.size→R (.ok (.ret res)) { s with heap:=h' }) →
  codeAny (model prog w) A (.builtin "list.extend.loop" ⟨[.ref S,.ref z,res],[]⟩) R s:=by
 obtain⟨n1,n2,n3,n4,n5,n6,n7⟩:=id nS
 intro m
 induction m with
 | zero =>
  intro k s acc c hN hk hi hst hS hacc hR
  have hin:k=xs.size:=by omega
  subst hin
  refine codeAny_builtin F.entry_extend_loop ?_
  rw[Around.under_plainId F.plain_extend_loop _]
  show wpAny _ A.in1 (pyNext (.ref z) >>= _) _ _ s
  refine wpAny_bind (zi8 hh D hst (by simp) fun h' kp=>?_)
  refine wpAny_pure (hR h' acc c (fun b o _ b1 b2 b3 b4 e=>kp b o b1 b2 b3 b4 e) (kp S _ n1 n3 n4 n5 hS) ⟨hacc.1,fun j hj=>?_⟩)
  obtain⟨p,x,y,e1,e2,e3,e4,q1,q2,q3,q4,q5⟩:=hacc.2 j hj
  exact⟨p,x,y,e1,e2,e3,kp p _ q1 q2 q3 q4 e4,q1,q2,q3,q4,q5⟩
 | succ m ih =>
  intro k s acc c hN hk hi hst hS hacc hR
  have hlt:k < xs.size:=by omega
  have hlt2:k < ys.size:=by omega
  have ltz:z < s.heap.objs.size:=by rcases hst.ow with e | ⟨_,_,_,_,e,_⟩ <;> exact Heap.lt_size e
  have ltTO:TO < s.heap.objs.size:=by obtain⟨_,_,e⟩:=hst.to;exact Heap.lt_size e
  have lti1:i1 < s.heap.objs.size:=by obtain⟨o,e,_⟩:=id hst.a.1;exact Heap.lt_size e
  have lti2:i2 < s.heap.objs.size:=by obtain⟨o,e,_⟩:=id hst.b.1;exact Heap.lt_size e
  have ltS:S < s.heap.objs.size:=Heap.lt_size hS
  refine codeAny_builtin F.entry_extend_loop ?_
  rw[Around.under_plainId F.plain_extend_loop _]
  show wpAny _ A.in1 (pyNext (.ref z) >>= _) _ _ s
  refine wpAny_bind (ziu D hst (Array.getElem?_eq_getElem hlt) (Array.getElem?_eq_getElem hlt2) fun h' Z' gT kp gz=>?_)
  have hS':=kp S _ n1 n3 n4 n5 hS
  show wpAny _ A.in1 (updateSeq S (·.push (.ref s.heap.objs.size)) >>= _) _ _ _
  refine wpAny_bind ?_
  have up:∀ b o,b≠S→h'.get? b=some o→(h'.update S (Obj.mapSeq (·.push (.ref s.heap.objs.size)))).get? b=some o:=fun b o hb e=>(Heap.get?_update_other _ _ (Ne.symm hb)).trans e
  refine wpAny_updateSeq hS' rfl (wpAny_pure ⟨plainId_quiet F.plain_extend_loop _,ih (k+1) _ (acc.push (.ref s.heap.objs.size)) _ (by show N≤(h'.update S _).objs.size;rw[(Heap.SameBut.update ..).1,gz];omega) (by omega) hlt (zdu Z' up nS fun u v e=>by have:=congrArg Obj.cls (Option.some.inj (hS'.symm.trans e));simp at this) (Heap.get?_update_self _ hS' rfl) ⟨by rw[Array.size_push,hacc.1],fun j hj=>?_⟩ fun h'' acc' c' kp2 hS'' hacc'=>?_⟩)
   (by rw[hacc.1];omega) (by show(acc.push _).size≤sizeLine+1;rw[Array.size_push,hacc.1];omega)
  ·by_cases ej:j=k
   ·subst ej
    refine⟨s.heap.objs.size,_,_,?_,Array.getElem?_eq_getElem hlt,Array.getElem?_eq_getElem hlt2,up _ _ (Nat.ne_of_gt ltS) gT,Nat.ne_of_gt ltz,Nat.ne_of_gt ltTO,Nat.ne_of_gt lti1,Nat.ne_of_gt lti2,Nat.ne_of_gt ltS,hN⟩
    rw[←hacc.1,Array.getElem?_push_size]
   ·obtain⟨p,x,y,e1,e2,e3,e4,q1,q2,q3,q4,q5⟩:=hacc.2 j (by omega)
    exact⟨p,x,y,by rw[Array.getElem?_push_lt (by rw[hacc.1];omega),←Array.getElem?_eq_getElem];exact e1,e2,e3,up _ _ q5.1 (kp _ _ q1 q2 q3 q4 e4),q1,q2,q3,q4,q5⟩
  ·exact hR h'' acc' c' (fun b o b0 b1 b2 b3 b4 e=>kp2 b o b0 b1 b2 b3 b4 (up b o b0 (kp b o b1 b2 b3 b4 e))) hS'' hacc'
theorem ziv {z TI' TO i1 i2 l1 l2:Addr} {k:Nat} {xs ys:Array Value} {Q:Bool→Shared→Prop} (Z:ZSt s.heap z TI' TO i1 i2 l1 l2 k xs ys) (h:Q true s):wpAny (model prog w) A (Builtin.List.listLengthHint (.ref z)) Q E s:=by
 have hT:s.TypeIs (.ref z) "zip":=by rcases Z.ow with e | ⟨_,_,_,_,e,_⟩ <;> exact⟨_,e,rfl⟩
 have l1:typeLookup (.type "zip") "__len__"=pure none:=by rw[typeLookup_type,builtinLookup_eq_fast];kernel_rfl
 have l2:typeLookup (.type "zip") "__length_hint__"=pure none:=by rw[typeLookup_type,builtinLookup_eq_fast];kernel_rfl
 unfold Builtin.List.listLengthHint
 repeat (any_goals (first | assumption | wp_step))
theorem zgv {Q:Value→Shared→Prop} {z TI' TO i1 i2 l1 l2:Addr} {xs ys:Array Value} (hh:A.handled=none) (D:ZipApart z TI' TO i1 i2 l1 l2) (Z:ZSt s.heap z TI' TO i1 i2 l1 l2 0 xs ys) (z0:IsZip s.heap z TI' TO .none) (hl:xs.size=ys.size) (hn:xs.size≤sizeLine)
  (hQ:∀ h' acc' c',(∀ b o,b≠z→b≠TO→b≠i1→b≠i2→s.heap.get? b=some o→h'.get? b=some o)→h'.get? s.heap.objs.size=some { cls:=.type "list",dict:=none,data:=.seq acc' c',slots:=#[] }→ze7 s.heap.objs.size h' z TO i1 i2 s.heap.objs.size xs ys acc' xs.size→Q (.ref s.heap.objs.size) { s with heap:=h' }) :
  wpAny (model prog w) A (call (.type "list") [.ref z]) Q E s:=by
 refine callType_codes (Q₁:=fun obj s₁=>obj=.ref s.heap.objs.size∧s₁={ s with heap:=s.heap.push { cls:=.type "list",data:=.seq #[] } }) PySem.F.called_list (PySem.F.typeCall_list_1 _) PySem.F.entry_list_init
  (code_list_new _ ⟨rfl,rfl⟩) fun obj s₁ h₁=>?_
 obtain⟨rfl,rfl⟩:=h₁
 have hS:(s.heap.push { cls:=.type "list",data:=.seq #[] }).get? s.heap.objs.size=some { cls:=.type "list",data:=.seq #[] }:=Heap.get?_push_size _ rfl
 refine⟨⟨_,hS,rfl⟩,PySem.F.args_list_init_2 _ _,?_⟩
 have ltz:z < s.heap.objs.size:=by rcases Z.ow with e | ⟨_,_,_,_,e,_⟩ <;> exact Heap.lt_size e
 have ltTI:TI' < s.heap.objs.size:=Heap.lt_size Z.ti
 have ltTO:TO < s.heap.objs.size:=by obtain⟨_,_,e⟩:=Z.to;exact Heap.lt_size e
 have lti1:i1 < s.heap.objs.size:=by obtain⟨o,e,_⟩:=id Z.a.1;exact Heap.lt_size e
 have lti2:i2 < s.heap.objs.size:=by obtain⟨o,e,_⟩:=id Z.b.1;exact Heap.lt_size e
 have ltl1:l1 < s.heap.objs.size:=by obtain⟨o,e,_⟩:=Z.a.2;exact Heap.lt_size e
 have ltl2:l2 < s.heap.objs.size:=by obtain⟨o,e,_⟩:=Z.b.2;exact Heap.lt_size e
 have nS:s.heap.objs.size≠z∧s.heap.objs.size≠TI'∧s.heap.objs.size≠TO∧s.heap.objs.size≠i1∧s.heap.objs.size≠i2∧s.heap.objs.size≠l1∧s.heap.objs.size≠l2:=⟨Nat.ne_of_gt ltz,Nat.ne_of_gt ltTI,Nat.ne_of_gt ltTO,Nat.ne_of_gt lti1,Nat.ne_of_gt lti2,Nat.ne_of_gt ltl1,Nat.ne_of_gt ltl2⟩
 have Z1:ZSt (s.heap.push { cls:=.type "list",data:=.seq #[] }) z TI' TO i1 i2 l1 l2 0 xs ys:=zdu (S:=s.heap.objs.size) Z (fun c o _ e=>Heap.get?_push_of_some _ e) nS fun u v e=>absurd (Heap.lt_size e) (Nat.lt_irrefl _)
 show wpAny _ _ (do let old ←Builtin.List.listItems (.ref s.heap.objs.size);Builtin.List.listUpdate (.ref s.heap.objs.size) (fun _=>#[]);letGo old.toList.reverse;Builtin.List.listExtendWith (.ref s.heap.objs.size) (.ref z) .none) _ _ _
 refine wpAny_bind ?_
 unfold Builtin.List.listItems
 refine wpAny_bind (wpAny_seqItems hS rfl (wpAny_pure ?_))
 show wpAny _ _ (updateSeq s.heap.objs.size (fun _=>#[]) >>= fun _=>letGo (#[]:Array Value).toList.reverse >>= fun _=>Builtin.List.listExtendWith (.ref s.heap.objs.size) (.ref z) .none) _ _ _
 refine wpAny_bind (wpAny_updateSeq hS rfl ?_)
 have hS₂:=Heap.get?_update_self (Obj.mapSeq (fun _=>(#[]:Array Value))) hS rfl
 have oth:∀(h:Heap) (f:Array Value→Array Value) b o,b≠s.heap.objs.size→h.get? b=some o→(h.update s.heap.objs.size (Obj.mapSeq f)).get? b=some o:=fun h f b o hb e=>(Heap.get?_update_other _ _ (Ne.symm hb)).trans e
 have nP:∀ {h:Heap} {a c},h.get? s.heap.objs.size=some { cls:=.type "list",dict:=none,data:=.seq a c,slots:=#[] }→∀ u v,¬IsPair h s.heap.objs.size u v:=fun hh u v e=>by have:=congrArg Obj.cls (Option.some.inj (hh.symm.trans e));simp at this
 have Z2:=zdu Z1 (oth _ fun _=>#[]) nS (nP hS)
 refine wpAny_bind (wpAny_letGo ?_)
 unfold Builtin.List.listExtendWith
 have hT:∀ {h:Heap} {g d t os},ZSt h z TI' TO i1 i2 l1 l2 0 xs ys→(⟨h,g,d,t,os⟩:Shared).TypeIs (.ref z) "zip":=fun Z=>by rcases Z.ow with e | ⟨_,_,_,_,e,_⟩ <;> exact⟨_,e,rfl⟩
 refine wpAny_bind (wpAny_typeOf (T:="zip") (hT Z2) ?_)
 have h1:Builtin.List.listSameRef (.ref s.heap.objs.size) (.ref z)=false:=by simp [Builtin.List.listSameRef,nS.1]
 simp only[h1,show(Value.type "zip" == Value.type "list")=false from by decide +kernel,show(Value.type "zip" == Value.type "tuple")=false from by decide +kernel,Bool.or_false,Bool.false_eq_true,if_false]
 have z2:=oth (s.heap.push { cls:=.type "list",data:=.seq #[] }) (fun _=>#[]) _ _ nS.1.symm (Heap.get?_push_of_some _ z0)
 refine wpAny_bind (wpAny_pyIter_zip z2 ?_)
 refine wpAny_bind (wpAny_holding (ziv Z2 ?_))
 refine wpAny_ite_split (fun _=>?_) (fun hab=>absurd rfl hab)
 refine wpAny_bind (wpAny_rule ?_)
 refine wpAny_bind ?_
 show wpAny _ _ (updateSeq s.heap.objs.size (·.push .none) >>= fun _=>updateSeq s.heap.objs.size (·.pop)) _ _ _
 refine wpAny_bind (wpAny_updateSeq hS₂ rfl ?_)
 have hS₃:=Heap.get?_update_self (Obj.mapSeq (·.push Value.none)) hS₂ rfl
 refine wpAny_updateSeq (hz:=by seq_fits) hS₃ rfl ?_
 have hS₄:=Heap.get?_update_self (Obj.mapSeq (·.pop)) hS₃ rfl
 have Z3:=zdu Z2 (oth _ (·.push Value.none)) nS (nP hS₂)
 have Z4:=zdu Z3 (oth _ (·.pop)) nS (nP hS₃)
 refine wpAny_pure ⟨plainId_quiet PySem.F.plain_extend_loop _,zhG (N:=s.heap.objs.size) (A:=A.in1) hh D nS hl hn .none xs.size 0 _ #[] _ (by show s.heap.objs.size≤(Heap.update _ _ _).objs.size;rw[(Heap.SameBut.update ..).1,(Heap.SameBut.update ..).1,(Heap.SameBut.update ..).1,Heap.size_push];omega) rfl (Nat.zero_le _) Z4 hS₄ ⟨rfl,fun j hj=>absurd hj (Nat.not_lt_zero _)⟩ fun h' acc' c' kp hS' hacc=>?_⟩
 exact⟨rfl,hQ h' acc' c' (fun b o b1 b2 b3 b4 e=>by
  have nb:b≠s.heap.objs.size:=Nat.ne_of_lt (Heap.lt_size e)
  exact kp b o nb b1 b2 b3 b4 (oth _ _ b o nb (oth _ _ b o nb (oth _ _ b o nb (Heap.get?_push_of_some _ e))))) hS' hacc⟩
end
section
variable {X:Cx} {pins:List (Addr × Obj)} {σ:St} {H H2:Hp} {s:Shared}
theorem Inv.grow {h':Heap} {t':Nat} (I:Inv X pins σ H s) (kk:∀ c o,s.heap.get? c=some o→h'.get? c=some o) (up:∀ c o,H c=some o→H2 c=some o)
  (new:∀ c o,H2 c=some o→H c=some o∨(s.heap.objs.size≤c∧zaL X.prog X.w H2 h' c o)):Inv X pins σ H2 { s with heap:=h',toks:=t' }:=by
 refine I.un ⟨fun b u q _ _ _=>kk b u q,fun b u q _ _ _=>⟨u.slots,kk b u q⟩,fun b u q n _=>?_,fun b u q _=>⟨u,kk b u q⟩,fun b xs q=>up _ _ q,fun b u xs q=>up _ _ q,fun b ps q=>⟨#[],by rw[up _ _ q];simp⟩⟩ fun b u e=>?_
 ·cases z:H2 b with
  | none=>rfl
  | some o =>
   rcases new b o z with e | ⟨e,_⟩
   ·rw[n]at e;cases e
   ·exact absurd (Nat.lt_of_lt_of_le (Heap.lt_size q) e) (Nat.lt_irrefl _)
 ·rcases new b u e with e | ⟨_,e⟩
  ·exact(I.hok b u e).stay (fun c v _ q=>kk c v q) (fun c q=>up _ _ q) fun c xs q=>up _ _ q
  ·exact e
def tLZip (K:W.Frag) (ta:TA):TE:=fun σ H Q=>ta σ H fun vs H1=>∃(a b:Addr) (xs ys:List V),vs=[.ref a,.ref b]∧SqT K H1 a xs∧SqT K H1 b ys∧xs.length=ys.length∧∀(H2:Hp) (l:Addr) (ps:List Addr),H1 l=none→(∀ c o,H1 c=some o→H2 c=some o)→H2 l=some (.lst (ps.map V.ref)) →
 (∀(j:Nat) x y,xs[j]?=some x→ys[j]?=some y→∃ p,ps[j]?=some p∧SqT K H2 p [x,y])→ps.length=xs.length→Q (.ref l) H2
theorem zjn {N:Nat} {h:Heap} {z TO i1 i2 S:Addr} {xs ys acc:Array Value}:∀ {k:Nat},ze7 N h z TO i1 i2 S xs ys acc k→∃ ps:List Addr,acc.toList=ps.map Value.ref∧ps.length=k∧∀(j:Nat) p,ps[j]?=some p→∃ x y,xs[j]?=some x∧ys[j]?=some y∧IsPair h p x y∧p≠S∧N≤p:=by
 intro k hp
 have key:∀ m,m≤k→∃ ps:List Addr,acc.toList.take m=ps.map Value.ref∧ps.length=m∧∀(j:Nat) p,ps[j]?=some p→∃ x y,xs[j]?=some x∧ys[j]?=some y∧IsPair h p x y∧p≠S∧N≤p:=by
  intro m
  induction m with
  | zero=>exact fun _=>⟨[],rfl,rfl,fun j p e=>by simp at e⟩
  | succ m ih =>
   intro hm
   obtain⟨ps,e1,e2,e3⟩:=ih (by omega)
   obtain⟨p,x,y,q1,q2,q3,q4,_,_,_,_,q5⟩:=hp.2 m (by omega)
   refine⟨ps++[p],?_,by rw[List.length_append,e2];rfl,fun j p' hj=>?_⟩
   ·rw[zaT (x:=Value.ref p) (by rw[Array.getElem?_toList];exact q1),e1,List.map_append]
    rfl
   ·by_cases lt:j < ps.length
    ·rw[List.getElem?_append_left lt]at hj
     exact e3 j p' hj
    ·have:=(List.getElem?_eq_some_iff.mp hj).1
     rw[List.length_append]at this
     have e:j=ps.length:=by have:j < ps.length+1:=this;omega
     subst e
     rw[List.getElem?_append_right (Nat.le_refl _),Nat.sub_self]at hj
     cases hj
     rw[e2]
     exact⟨x,y,q2,q3,q4,q5⟩
 obtain⟨ps,e1,e2,e3⟩:=key k (Nat.le_refl _)
 rw[List.take_of_length_le (by rw[Array.length_toList,hp.1];exact Nat.le_refl _)]at e1
 exact⟨ps,e1,e2,e3⟩
theorem zju {a b:Expr} {ta:TA} {p p2 pos pos2:Pos} (hc:X.calm=true) (hg:Gl X "zip") (hm:X.mg "zip"=none) (hg2:Gl X "list") (hm2:X.mg "list"=none) (ha:PA X [a,b] ta)
  (hs:starEach [a,b] X.env=[(false,eval a X.env),(false,eval b X.env)]:=by rfl) (hs2:starEach [b] X.env=[(false,eval b X.env)]:=by rfl)
  (hs3:starEach [.Call (.Name "zip" p) [a,b] [] pos] X.env=[(false,eval (.Call (.Name "zip" p) [a,b] [] pos) X.env)]:=by rfl) :
  PE X (.Call (.Name "list" p2) [.Call (.Name "zip" p) [a,b] [] pos] [] pos2) (tLZip X.K ta):=by
 intro pins s σ H Q I h
 unfold tLZip at h
 refine Call_ (zcI I hg2 hm2 PyProof.Rows.Boot.list (PyProof.Rows.callWith_type1 ?_ hs3 rfl))
 rw[hs3]
 show wpAny _ _ (spliced ((false,eval (.Call (.Name "zip" p) [a,b] [] pos) X.env) :: backTo pos2 [])) _ _ s
 refine Calls.spliced_cons ?_
 refine Call_ (zcI I hg hm boot_zip (PyProof.Rows.callWith_type1 (thn (ha pos pins s σ H _ I h) fun us s1 ⟨vs,H1,I1,r1,q1⟩=>?_) (by rw[hs,hs2]) (by rw[hs2];rfl)))
 obtain⟨a,b,xs,ys,e,hq,hq2,hl,q⟩:=q1
 subst e
 obtain⟨u,v,rfl,ru,rv'⟩:=r1.two
 cases ru
 cases rv'
 obtain⟨its,rv,pl,hz⟩:=I1.tuple hq
 obtain⟨its2,rv2,pl2,hz2⟩:=I1.tuple hq2
 have la:a < s1.heap.objs.size:=by obtain⟨o,e,_⟩:=pl;exact Heap.lt_size e
 have lb:b < s1.heap.objs.size:=by obtain⟨o,e,_⟩:=pl2;exact Heap.lt_size e
 refine zgk (show s1.heap.IsTuple a its.toArray from pl) (show s1.heap.IsTuple b its2.toArray from pl2) fun h' h1 h2 h3 h4 h5 hz' kk=>?_
 refine Calls.spliced_nil ?_
 have D:=zipApart_new la lb
 have kt:∀ {c:Addr} {zs:Array Value},s1.heap.IsTuple c zs→h'.IsTuple c zs:=fun⟨o,e1,e2⟩=>⟨o,kk _ _ e1,e2⟩
 have Z:ZSt h' (s1.heap.objs.size+4) (s1.heap.objs.size+2) (s1.heap.objs.size+3) s1.heap.objs.size (s1.heap.objs.size+1) a b 0 its.toArray its2.toArray:=⟨.inl h1,h2,⟨_,_,h3⟩,⟨h4,kt pl⟩,h5,kt pl2⟩
 have l1:=rv.length
 have l2:=rv2.length
 refine zgv (s:={ s1 with heap:=h' }) (I1.ok.hd hc) D Z h1 (by simp;omega) (by simp;omega) fun h'' acc cn kp hS hacc=>?_
 obtain⟨ps,e1,e2,e3⟩:=zjn hacc
 have big:∀ c,c < s1.heap.objs.size→c≠s1.heap.objs.size+4∧c≠s1.heap.objs.size+3∧c≠s1.heap.objs.size∧c≠s1.heap.objs.size+1:=fun c hc=>⟨by omega,by omega,by omega,by omega⟩
 have kk2:∀ c o,s1.heap.get? c=some o→h''.get? c=some o:=fun c o e=>by
  obtain⟨b1,b2,b3,b4⟩:=big c (Heap.lt_size e)
  exact kp c o b1 b2 b3 b4 (kk c o e)
 have hS':h''.get? h'.objs.size=some { cls:=.type "list",dict:=none,data:=.seq acc cn,slots:=#[] }:=hS
 have eN:s1.heap.objs.size+5=h'.objs.size:=hz'.symm
 let H2:Hp:=fun c=>if c=h'.objs.size then some (.lst (ps.map V.ref)) else if c∈ps then some (.tup [xs.getD (ps.idxOf c) .non,ys.getD (ps.idxOf c) .non]) else H1 c
 have inP:∀ c∈ps,s1.heap.objs.size≤c∧c≠h'.objs.size∧∃ x y:V,∃ ux uy:Value,xs.getD (ps.idxOf c) .non=x∧ys.getD (ps.idxOf c) .non=y∧xs[ps.idxOf c]?=some x∧ys[ps.idxOf c]?=some y∧ax x ux∧ax y uy∧IsPair h'' c ux uy:=fun c hc=>by
  have lt:=List.idxOf_lt_length_of_mem hc
  have at_:ps[ps.idxOf c]?=some c:=by rw[List.getElem?_eq_getElem lt];simp
  obtain⟨ux,uy,g1,g2,g3,g4,g5⟩:=e3 _ _ at_
  have g1':its[ps.idxOf c]?=some ux:=by simpa using g1
  have g2':its2[ps.idxOf c]?=some uy:=by simpa using g2
  have lx:ps.idxOf c < xs.length:=by rw[l1];exact(List.getElem?_eq_some_iff.mp g1').1
  have ly:ps.idxOf c < ys.length:=by rw[l2];exact(List.getElem?_eq_some_iff.mp g2').1
  obtain⟨w1,w2,w3⟩:=rv.get (List.getElem?_eq_getElem lx)
  obtain⟨w4,w5,w6⟩:=rv2.get (List.getElem?_eq_getElem ly)
  cases w2.symm.trans g1'
  cases w5.symm.trans g2'
  exact⟨by have:h'.objs.size≤c:=g5;omega,g4,xs[ps.idxOf c],ys[ps.idxOf c],ux,uy,by simp [lx],by simp [ly],List.getElem?_eq_getElem lx,List.getElem?_eq_getElem ly,w3,w6,g3⟩
 have up:∀ c o,H1 c=some o→H2 c=some o:=fun c o e=>by
  have lt:Nat.lt c s1.heap.objs.size:=I1.hok.lt e
  have lt:c < s1.heap.objs.size:=lt
  show(if c=h'.objs.size then _ else _)=_
  have n1:¬c=h'.objs.size:=Nat.ne_of_lt (Nat.lt_of_lt_of_le lt (by omega))
  have n2:¬c∈ps:=fun hc=>Nat.lt_irrefl _ (Nat.lt_of_lt_of_le lt (inP c hc).1)
  rw[if_neg n1,if_neg n2]
  exact e
 have I2:Inv X pins σ H2 { s1 with heap:=h'' }:=by
  refine Inv.grow (t':=s1.toks) I1 kk2 up fun c o e=>?_
  have e:(if c=h'.objs.size then some (HO.lst (ps.map V.ref)) else if c∈ps then some (.tup [xs.getD (ps.idxOf c) .non,ys.getD (ps.idxOf c) .non]) else H1 c)=some o:=e
  split at e
  ·rename_i ec
   cases e
   subst ec
   refine .inr ⟨by omega,?_,ps.map Value.ref,cn,?_,?_⟩
   ·rw[List.length_map,e2];simp;omega
   ·clear e1 e2 e3 up inP hacc hS hS' e
    induction ps with
    | nil=>exact .nil
    | cons p ps ih=>exact .cons rfl ih
   ·rw[hS',←e1,Array.toArray_toList]
  ·split at e
   ·rename_i hc
    cases e
    obtain⟨g0,_,x,y,ux,uy,g1,g2,_,_,g3,g4,g5⟩:=inP c hc
    refine .inr ⟨g0,?_⟩
    rw[g1,g2]
    exact⟨Nat.le_of_lt (zaU (show 2≤1000 by decide)),[ux,uy],.cons g3 (.cons g4 .nil),_,g5,rfl,_,rfl⟩
   ·exact .inl e
 refine⟨.ref h'.objs.size,H2,I2,rfl,q H2 h'.objs.size ps (I1.hok.fresh (by omega)) up (by show(if _ then _ else _)=_;rw[if_pos rfl]) (fun j x y hx hy=>?_) (by rw[e2];simp;omega)⟩
 have lj:j < ps.length:=by rw[e2];simp;rw[←l1];exact(List.getElem?_eq_some_iff.mp hx).1
 have hj:=List.getElem?_eq_getElem lj
 refine⟨ps[j],hj,.inl (.inl ?_)⟩
 obtain⟨g0,g00,x',y',ux,uy,g1,g2,g1',g2',g3,g4,g5⟩:=inP ps[j] (List.getElem_mem lj)
 obtain⟨vx,vy,k1,k2,k3,_⟩:=e3 _ _ hj
 have k1':its[j]?=some vx:=by simpa using k1
 have k2':its2[j]?=some vy:=by simpa using k2
 obtain⟨w1,w2,w3⟩:=rv.get hx
 obtain⟨w4,w5,w6⟩:=rv2.get hy
 cases w2.symm.trans k1'
 cases w5.symm.trans k2'
 have ee:=Option.some.inj (g5.symm.trans k3)
 injection ee with _ _ ee
 injection ee with ee
 have e5:[ux,uy]=[vx,vy]:=congrArg Array.toList ee
 injection e5 with e6 e7
 injection e7 with e7
 subst e6 e7
 show(if _ then _ else _)=_
 rw[if_neg g00,if_pos (List.getElem_mem lj),g1,g2,g3.inj w3,g4.inj w6]
end
end L2
namespace K14
open PySem L2
def top (i:Nat):Stmt:=PySem.Challenge.pw_yesorno_k14_ways_shown.main.body.getD i (.Pass ⟨0,0,0,0⟩)
abbrev zcq:Stmt:=top 11
abbrev zdb:Stmt:=top 12
abbrev zbW:Stmt:=top 13
abbrev zdn:Stmt:=top 14
abbrev zdY:Stmt:=ze5 (top 16) 0
abbrev zdZ:Stmt:=ze5 (top 16) 1
abbrev zcp:Stmt:=ze5 (top 16) 2
abbrev zco:Stmt:=ze5 (top 16) 3
abbrev zbE:Stmt:=top 17
abbrev zbq:Stmt:=top 18
abbrev zdi:Stmt:=top 19
abbrev zbA:Stmt:=top 21
abbrev zbZ:Stmt:=top 22
abbrev zbX:Stmt:=top 23
abbrev zce:Stmt:=top 24
abbrev zbY:Stmt:=top 25
abbrev za1:Stmt:=top 26
abbrev za2:Stmt:=top 27
abbrev zbz:Stmt:=top 28
abbrev zaJ:Stmt:=top 29
abbrev za9:Stmt:=top 30
abbrev zaY:Stmt:=top 31
abbrev zbi:Stmt:=top 32
abbrev zbF:Stmt:=top 33
abbrev zbR:Stmt:=top 34
abbrev zba:Stmt:=top 35
abbrev zb0:Stmt:=top 36
abbrev zbx:Stmt:=top 37
abbrev zby:Stmt:=top 38
abbrev zbh:Stmt:=top 39
abbrev zbr:Stmt:=top 40
abbrev zb3:Stmt:=top 41
structure TxG (K:W.Frag) (mg:Str→Option Value) (C:Addr):Prop where
 cl:Cls K C
 nL:zc3 K C "least"
 nG:zc3 K C "gathered"
 min:mg "min"=none
 max:mg "max"=none
 range:mg "range"=none
structure Txt (K:W.Frag) (mg:Str→Option Value):Prop where
 len:mg "len"=none
 list:mg "list"=none
 range:mg "range"=none
 isinstance:mg "isinstance"=none
 int:mg "int"=none
 bool:mg "bool"=none
 min:mg "min"=none
 max:mg "max"=none
 tuple:mg "tuple"=none
 enumerate:mg "enumerate"=none
 zip:mg "zip"=none
 sorted:mg "sorted"=none
 dict:mg "dict"=none
 ib:W.kitOne K (.type "int") (.type "bool")=some false
def zg5 (C:Addr):Sp:=fun vs H Q _=>∃(g dx:Addr),vs=[.ref g]∧H g=some (.ins C dx [])∧∀(H':Hp) (ld gd:Addr),(∀ b o,b≠g→H b=some o→H' b=some o)→H ld=none→H gd=none→ld≠gd→H' g=some (.ins C dx [("least",.ref ld),("gathered",.ref gd)])→H' ld=some (.dK [])→H' gd=some (.dK [])→Q .non H'
theorem zjl:zap ["self"] ["self"] (ai zdY):=⟨rfl,rfl,rfl,by decide +kernel,rfl,by decide +kernel,by decide +kernel⟩
section
variable {P:Program} {w:World} {K:W.Frag} {mg:Str→Option Value} {base:Heap} {C f fH fT fM fI fG:Addr} {fd dH dT' dM dI dG:FuncData}
theorem zjG (F:Fun K "__init__" "Groups.__init__" zdY f fd) (T:TxG K mg C):zay P w K mg base CX0 1 f fd ["self"] (zg5 C):=by
 refine F.ok zjl (fun vs H Q E h=>?_) (fun cdv A outer s H vs Q E hr h=>?_)
 ·obtain⟨g,dx,rfl,_⟩:=h
  rfl
 obtain⟨g,dx,rfl,hg,q⟩:=h
 refine⟨_,(af (zhP (pv 0) zdA rfl)
  (ak (zhP (pv 0) zdA rfl))),?_⟩
 refine fun ld hld=>?_
 have n1:g≠ld:=zaB hg hld
 have hg1:(upd H ld (.dK [])) g=some (.ins C dx []):=by rw[ap n1];exact hg
 have k1:∀ b o,H b=some o→(upd H ld (.dK [])) b=some o:=ah hld _
 have hl1:=ae (H:=H) (a:=ld) (o:=.dK [])
 generalize upd H ld (.dK [])=H1 at hg1 k1 hl1
 refine⟨_,rfl,g,C,dx,_,rfl,hg1,T.cl,T.nL,(by decide),?_⟩
 have hg2:(upd H1 g (.ins C dx (zbM "least" (.ref ld) []))) g=some (.ins C dx [("least",.ref ld)]):=ae
 have hl2:(upd H1 g (.ins C dx (zbM "least" (.ref ld) []))) ld=some (.dK []):=by rw[ap (Ne.symm n1)];exact hl1
 have k2:∀ b o,b≠g→H b=some o→(upd H1 g (.ins C dx (zbM "least" (.ref ld) []))) b=some o:=fun b o nb h=>by rw[ap nb];exact k1 b o h
 have f2:∀ b,(upd H1 g (.ins C dx (zbM "least" (.ref ld) []))) b=none→H b=none:=fun b h=>by
  cases e:H b with
  | none=>rfl
  | some o =>
   by_cases z:b=g
   ·rw[z,hg2]at h;cases h
   ·rw[k2 b o z e]at h;cases h
 generalize upd H1 g (.ins C dx (zbM "least" (.ref ld) []))=H2 at hg2 hl2 k2 f2
 refine fun gd hgd=>?_
 have n3:g≠gd:=zaB hg2 hgd
 have n4:ld≠gd:=zaB hl2 hgd
 refine⟨_,rfl,g,C,dx,_,rfl,by rw[ap n3];exact hg2,T.cl,T.nG,(by show 1 < 1000;decide),?_⟩
 refine q _ ld gd (fun b o nb h=>?_) hld (f2 gd hgd) n4 ae (by rw[ap (Ne.symm n1),ap n4];exact hl2) (by rw[ap (Ne.symm n3)];exact ae)
 have nbg:b≠gd:=fun z=>by rw[z,f2 gd hgd]at h;cases h
 rw[ap nb,ap nbg]
 exact k2 b o nb h
def zeW (C:Addr):Sp:=fun vs H Q _=>∃(g ld gd:Addr) (t:Int) (N b:Nat) (hd:Int→Int) (av:List Addr),vs=[.ref g,.int t]∧GO H C g ld gd N b hd av∧Q (.int (hd t)) H
theorem zjm:zap ["self","term"] ["self","term"] (ai zdZ):=⟨rfl,rfl,rfl,by decide +kernel,rfl,by decide +kernel,by decide +kernel⟩
theorem zjH (F:Fun K "head" "Groups.head" zdZ f fd) (T:TxG K mg C):zay P w K mg base CX0 1 f fd ["self","term"] (zeW C):=by
 refine F.ok zjm (fun vs H Q E h=>?_) (fun cdv A outer s H vs Q E hr h=>?_)
 ·obtain⟨g,ld,gd,t,N,b,hd,av,rfl,_⟩:=h
  rfl
 obtain⟨g,ld,gd,t,N,b,hd,av,rfl,G,q⟩:=h
 have hu:=zeP hr
 obtain⟨dx,kl,kg,h1,h2,h3,h4,h5,h6,h7⟩:=G.ex
 refine⟨_,(ak (zaj (zem hu (zey (pv 0) rfl) (pv 1) (pv 1) ⟨rfl,rfl,rfl,rfl⟩))),?_⟩
 refine⟨_,rfl,g,C,dx,_,_,rfl,h1,T.cl,T.nL,rfl,ld,rfl,.inl ⟨kl,.inl h2⟩,_,rfl,_,rfl,_,zbP.k (k:=Sum.inl t) h2,?_⟩
 rw[h4]
 exact q
def zdV (C:Addr):Sp:=fun vs H Q _=>∃(g ld gd:Addr) (t u:Int) (N b:Nat) (hd:Int→Int) (av:List Addr),vs=[.ref g,.int t,.int u]∧GO H C g ld gd N b hd av∧Q (.bl (decide (hd t=hd u))) H
theorem zgW:zap ["self","one","other"] ["self","one","other"] (ai zcp):=⟨rfl,rfl,rfl,by decide +kernel,rfl,by decide +kernel,by decide +kernel⟩
theorem decV (x y:Int):decide (V.int x=V.int y)=decide (x=y):=decide_eq_decide.mpr ⟨fun z=>by injection z,fun z=>by rw[z]⟩
theorem zgX (F:Fun K "together" "Groups.together" zcp f fd) (T:TxG K mg C) (M:zcN K C "head" fH) (Bh:zay P w K mg base CX0 1 fH dH ["self","term"] (zeW C)) (bh:zbI K dH ["self","term"] []):zay P w K mg base CX0 2 f fd ["self","one","other"] (zdV C):=by
 refine F.ok zgW (fun vs H Q E h=>?_) (fun cdv A outer s H vs Q E hr h=>?_)
 ·obtain⟨g,ld,gd,t,u,N,b,hd,av,rfl,_⟩:=h
  rfl
 obtain⟨g,ld,gd,t,u,N,b,hd,av,rfl,G,q⟩:=h
 obtain⟨dx,kl,kg,h1,h2,h3,h4,h5,h6,h7⟩:=G.ex
 refine⟨_,(ak (zaj (zcD zbk (zbU (pv 0) T.cl M Bh hr bh .nil ay (aa (pv 1) ac)) (zbU (pv 0) T.cl M Bh hr bh .nil ay (aa (pv 2) ac)) (zas _)))),?_⟩
 refine⟨_,rfl,g,dx,_,rfl,h1,rfl,_,rfl,g,ld,gd,t,N,b,hd,av,rfl,G,_,rfl,g,dx,_,rfl,h1,rfl,_,rfl,g,ld,gd,u,N,b,hd,av,rfl,G,rfl,?_⟩
 rw[decV]
 exact q
def zfo (C:Addr):Sp:=fun vs H Q _=>∃(g ld gd:Addr) (t u:Int) (N b:Nat) (hd:Int→Int) (av:List Addr),vs=[.ref g,.int t,.int u]∧GO H C g ld gd N b hd av∧(0≤t∧t < (N:Int))∧(0≤u∧u < (N:Int))∧N≤100∧b≤1000∧(∀ a∈av,H a≠none)∧∀ H',zaw ld gd H H'→GO H' C g ld gd N (b+1) (mrg hd t u) av→Q .non H'
theorem zdx:zap ["self","one","other","low","high","moved","term"] ["self","one","other"] (ai zco):=⟨rfl,rfl,rfl,by decide +kernel,rfl,by decide +kernel,by decide +kernel⟩
theorem zcV {n:Nat} (h:n≤200000):n≤sizeLine:=by rw[sizeLine_eq];omega
theorem zcF {n:Nat} (h:n≤200000):n < sizeLine:=by rw[sizeLine_eq];omega
set_option maxHeartbeats 1000000 in
theorem merge3 (T:TxG K mg C) {cdv:Value} {A:Around} {outer:List Env} {s:Shared} {H0:Hp} {E:XK} (hr:zaE 1 (A.deeper (PyProof.Rows.envOfC "Groups.merge" (ai zco) s.heap.objs.size f cdv))) :
  ∃ z,PSs (zb2 CX0 P w K mg base ["self","one","other","low","high","moved","term"] "Groups.merge" (ai zco) f cdv A outer s H0 E).nox ((zae zco).drop 3) z ∧
   ∀(D:zbO) (H:Hp) (g ld gd:Addr) (t u:Int) (N b:Nat) (hd:Int→Int) (av:List Addr),GO H C g ld gd N b hd av→(0≤t∧t < (N:Int))→(0≤u∧u < (N:Int))→N≤100→b≤1000→loF (hd t) (hd u)≠hiF (hd t) (hd u)→(∀ a∈av,H a≠none)→(∀ H' σ',zaw ld gd H H'→GO H' C g ld gd N (b+1) (mrg hd t u) av→D.nx σ' H') →
    z D [some (.ref g),some (.int t),some (.int u),some (.int (loF (hd t) (hd u))),some (.int (hiF (hd t) (hd u))),none,none] H:=by
 have hu:=zeP hr
 refine⟨_,(af (aq (i:=5) zdx.nd rfl (Or.inl rfl) (zem hu (zey (pv 0) rfl) (pv 4) (zaF (aa (pv 4) ac)) ⟨rfl,rfl,rfl,rfl⟩))
  (af (zbe PassesOwn.never rfl (zbw (pv 5)) (zan (i:=6) zdx.nd rfl (Or.inl rfl))
   (ak (zeY hu (zey (pv 0) rfl) (pv 6) (pv 3) rfl)))
  (ak (zeY hu (zey (pv 0) rfl) (pv 3) (ao zgz (zem hu (zey (pv 0) rfl) (pv 3) (zaF (aa (pv 3) ac)) ⟨rfl,rfl,rfl,rfl⟩) (pv 5)) rfl)))),?_⟩
 rintro D H g ld gd t u N b hd av G ht hu' N100 b1000 e hav q
 obtain⟨dx,kl,kg,h1,h2,h3,h4,h5,h6,h7⟩:=G.ex
 have bN:b * N≤100000:=Nat.mul_le_mul b1000 N100
 obtain⟨mh,k1,k2,k3⟩:=h5 _ (G.h.hi_id t u)
 obtain⟨ml,l1,l2,l3⟩:=h5 _ (G.h.lo_id t u)
 have tN:=G.h.in' ht
 have uN:=G.h.in' hu'
 have lh:=lohi (hd t) (hd u)
 have mhl:=zha G.h (x:=hiF (hd t) (hd u)) (by omega) k1 k2
 have mll:=zha G.h (x:=loF (hd t) (hd u)) (by omega) l1 l2
 have ngl:g≠ld:=za4 h1 h2 (by intro z;cases z)
 have ngg:g≠gd:=za4 h1 h3 (by intro z;cases z)
 refine⟨_,rfl,g,C,dx,_,_,rfl,h1,T.cl,T.nG,rfl,gd,rfl,.inl ⟨kg,.inl h3⟩,_,rfl,_,rfl,lS1,fun l hl=>?_⟩
 have s1:aj H (upd H l (.lst [.int (hiF (hd t) (hd u))])):=ah hl _
 have n1:(upd H l (.lst [.int (hiF (hd t) (hd u))])) l=some (.lst ([hiF (hd t) (hd u)].map V.int)):=ae
 generalize upd H l (.lst [.int (hiF (hd t) (hd u))])=H1 at s1 n1
 obtain⟨am,eam,ham⟩:∃ am,(zaz kg (Sum.inl (hiF (hd t) (hd u)))).getD (.ref l)=.ref am∧H1 am=some (.lst (mh.map V.int)):=by
  rcases k3 with ⟨k3,k4⟩ | ⟨a,k3,k4,_⟩
  ·rw[k3]
   refine⟨l,rfl,?_⟩
   rw[k4]
   exact n1
  ·rw[k3]
   exact⟨a,rfl,s1 _ _ k4⟩
 refine⟨_,zbP.k (k:=Sum.inl (hiF (hd t) (hd u))) (s1 _ _ h3),?_⟩
 rw[eam]
 have G1:=G.same s1
 have h11:=s1 _ _ h1
 have h21:=s1 _ _ h2
 have h31:=s1 _ _ h3
 have nal:am≠ld:=za4 ham h21 (by intro z;cases z)
 have nag:am≠gd:=za4 ham h31 (by intro z;cases z)
 refine⟨_,rfl,am,rfl,⟨_,SqL.of ham⟩,zcj zbv (fun i σ H'=>∃(v6:Option V) (kl':List (Key × V)),σ=[some (.ref g),some (.int t),some (.int u),some (.int (loF (hd t) (hd u))),some (.int (hiF (hd t) (hd u))),some (.ref am),v6]∧zaO ld H1 H'∧H' ld=some (.dK kl')∧kl'.length≤kl.length+i∧∀ x:Int,(zaz kl' (Sum.inl x)).getD (.int x)=.int (if x∈mh.take i then loF (hd t) (hd u) else hd x)) (fun i σ H' ⟨_,_,_,sx,_⟩=>SqL.of (sx _ _ nal ham)) ⟨none,kl,rfl,zaO.refl _ _,h21,Nat.le_refl _,fun x=>by simpa using h4 x⟩ ?_ ?_⟩
 ·rintro i σ H2 x H3 hi ⟨v6,kl',rfl,sx,hl2,ll,hv⟩ ⟨rfl,hx⟩
  obtain⟨k,hk,rfl⟩:=zcc (hx _ (SqL.of (sx _ _ nal ham)))
  rw[List.length_map]at hi
  refine⟨_,rfl,_,rfl,g,C,dx,_,_,rfl,sx _ _ ngl h11,T.cl,T.nL,rfl,_,rfl,ld,_,rfl,zew.k (k:=Sum.inl k) hl2 (zcF (by omega)),_,_,rfl,sx.trans (zaO.put _ _),ae,?_,fun x=>?_⟩
  ·have:=zgH kl' (Sum.inl k) (.int (loF (hd t) (hd u)))
   show(zaI kl' (Sum.inl k) (.int (loF (hd t) (hd u)))).length≤_
   omega
  ·rw[zcP,zaT hk]
   by_cases z:x=k
   ·subst z
    rw[if_pos rfl,if_pos (List.mem_append_right _ List.mem_cons_self)]
    rfl
   ·rw[if_neg (fun w=>z (by injection w)),hv]
    congr 1
    by_cases w:x∈mh.take i
    ·rw[if_pos w,if_pos (List.mem_append_left _ w)]
    ·rw[if_neg w,if_neg (fun y=>by
      rcases List.mem_append.mp y with y | y
      ·exact w y
      ·exact z (List.mem_singleton.mp y))]
 ·rintro σ H2 ⟨v6,kl',rfl,sx,hl2,ll,hv⟩
  rw[List.length_map]at ll
  rw[List.length_map,List.take_of_length_le (Nat.le_refl _)]at hv
  have h12:=sx _ _ ngl h11
  have h32:=sx _ _ (Ne.symm G.ne) h31
  have ham2:=sx _ _ nal ham
  refine⟨_,rfl,g,C,dx,_,_,rfl,h12,T.cl,T.nG,rfl,gd,rfl,.inl ⟨kg,.inl h32⟩,_,rfl,_,rfl,lS1,fun l2' hl2'=>?_⟩
  have s3:aj H2 (upd H2 l2' (.lst [.int (loF (hd t) (hd u))])):=ah hl2' _
  have n3:(upd H2 l2' (.lst [.int (loF (hd t) (hd u))])) l2'=some (.lst ([loF (hd t) (hd u)].map V.int)):=ae
  generalize upd H2 l2' (.lst [.int (loF (hd t) (hd u))])=H3 at s3 n3
  obtain⟨al,eal,hal⟩:∃ al,(zaz kg (Sum.inl (loF (hd t) (hd u)))).getD (.ref l2')=.ref al∧H3 al=some (.lst (ml.map V.int)):=by
   rcases l3 with ⟨l3,l4⟩ | ⟨a,l3,l4,_⟩
   ·rw[l3]
    refine⟨l2',rfl,?_⟩
    rw[l4]
    exact n3
   ·rw[l3]
    have na:a≠ld:=za4 l4 h2 (by intro z;cases z)
    exact⟨a,rfl,s3 _ _ (sx _ _ na (s1 _ _ l4))⟩
  refine⟨_,zbP.k (k:=Sum.inl (loF (hd t) (hd u))) (s3 _ _ h32),?_⟩
  rw[eal]
  refine⟨_,rfl,al,am,_,_,rfl,rfl,hal,s3 _ _ ham2,zcV (by rw[List.length_map,List.length_map];omega),fun p hp=>?_⟩
  rw[←List.map_append]
  have s4:aj H3 (upd H3 p (.lst ((ml++mh).map V.int))):=ah hp _
  have n4:=ae (H:=H3) (a:=p) (o:=.lst ((ml++mh).map V.int))
  generalize upd H3 p (.lst ((ml++mh).map V.int))=H4 at s4 n4
  have s24:=s3.trans s4
  have h14:=s24 _ _ h12
  have h34:=s24 _ _ h32
  have hl4:=s24 _ _ hl2
  have npg:p≠gd:=za4 n4 h34 (by intro z;cases z)
  refine⟨_,rfl,g,C,dx,_,_,rfl,h14,T.cl,T.nG,rfl,_,rfl,gd,_,rfl,zew.k (k:=Sum.inl (loF (hd t) (hd u))) h34 (zcF (by omega)),?_⟩
  refine q _ _ ?_ ?_
  ·intro b' o' nb1 nb2 hb
   rw[ap nb2]
   exact s24 _ _ (sx _ _ nb1 (s1 _ _ hb))
  ·have l4:kl'.length≤(b+1) * N:=by
    rw[Nat.add_mul,Nat.one_mul]
    omega
   refine GO.merged (kl:=kl') (kg:=kg) (p:=p) (ml:=ml) (mh:=mh) (dx:=dx) G.h G.ne ht hu' e (by rw[ap ngg];exact h14) (by rw[ap G.ne];exact hl4) ae hv (fun x hx=>?_) l1 l2 k1 k2 (by rw[ap npg];exact n4) l4 (by omega) (fun z=>?_)
   ·obtain⟨ms,m1,m2,m3⟩:=h5 x hx
    refine⟨ms,m1,m2,?_⟩
    rcases m3 with m3 | ⟨a,m3,m4,m5⟩
    ·exact .inl m3
    ·have na:a≠ld:=za4 m4 h2 (by intro z;cases z)
     have ng:a≠gd:=za4 m4 h3 (by intro z;cases z)
     exact .inr ⟨a,m3,(by rw[ap ng];exact s24 _ _ (sx _ _ na (s1 _ _ m4))),m5⟩
   ·cases eo:H p with
    | none=>exact hav p z eo
    | some o =>
     by_cases c:p=ld
     ·rw[c,s3 _ _ hl2]at hp
      cases hp
     ·rw[s3 _ _ (sx _ _ c (s1 _ _ eo))]at hp
      cases hp
theorem ziR (F:Fun K "merge" "Groups.merge" zco f fd) (T:TxG K mg C) (M:zcN K C "head" fH) (Bh:zay P w K mg base CX0 1 fH dH ["self","term"] (zeW C)) (bh:zbI K dH ["self","term"] []):zay P w K mg base CX0 2 f fd ["self","one","other"] (zfo C):=by
 refine F.ok zdx (fun vs H Q E h=>?_) (fun cdv A outer s H vs Q E hr h=>?_)
 ·obtain⟨g,ld,gd,t,u,N,b,hd,av,rfl,_⟩:=h
  rfl
 obtain⟨g,ld,gd,t,u,N,b,hd,av,rfl,G,ht,hu',N100,b1000,hav,q⟩:=h
 have hu:=zeP hr
 obtain⟨dx,kl,kg,h1,h2,h3,h4,h5,h6,h7⟩:=G.ex
 have bN:b * N≤100000:=Nat.mul_le_mul b1000 N100
 obtain⟨t3,h3',q3⟩:=merge3 (P:=P) (w:=w) (base:=base) (f:=f) (outer:=outer) (H0:=H) (E:=E) T hr
 refine⟨_,(af (aq (i:=3) zdx.nd rfl (Or.inl rfl) (zab (zeK rfl) rfl T.min PyProof.Rows.Boot.min (aa (zbU (pv 0) T.cl M Bh hr bh .nil ay (aa (pv 1) ac)) (aa (zbU (pv 0) T.cl M Bh hr bh .nil ay (aa (pv 2) ac)) ac))))
  (af (aq (i:=4) zdx.nd rfl (Or.inl rfl) (zab (zeL rfl) rfl T.max PyProof.Rows.Boot.max (aa (zbU (pv 0) T.cl M Bh hr bh .nil ay (aa (pv 1) ac)) (aa (zbU (pv 0) T.cl M Bh hr bh .nil ay (aa (pv 2) ac)) ac))))
  (af (zaA (zag zbk (pv 3) (pv 4) (zas _))
   (ak zjq)
   zaq)
  h3'))),?_⟩
 refine⟨_,rfl,g,dx,_,rfl,h1,rfl,_,rfl,g,ld,gd,t,N,b,hd,av,rfl,G,_,rfl,g,dx,_,rfl,h1,rfl,_,rfl,g,ld,gd,u,N,b,hd,av,rfl,G,_,_,rfl,?_⟩
 refine⟨_,rfl,g,dx,_,rfl,h1,rfl,_,rfl,g,ld,gd,t,N,b,hd,av,rfl,G,_,rfl,g,dx,_,rfl,h1,rfl,_,rfl,g,ld,gd,u,N,b,hd,av,rfl,G,_,_,rfl,?_⟩
 refine⟨_,rfl,_,rfl,rfl,_,rfl,?_⟩
 show if decide (V.int (loF (hd t) (hd u))=V.int (hiF (hd t) (hd u)))=true then _ else _
 rw[decV]
 by_cases e:loF (hd t) (hd u)=hiF (hd t) (hd u)
 ·rw[decide_eq_true e]
  refine zaQ (q H (fun _ _ _ _ h=>h) ?_)
  rw[zhT e]
  exact G.mono (Nat.le_succ _)
 rw[decide_eq_false e]
 exact zax (q3 _ H g ld gd t u N b hd av G ht hu' N100 b1000 e hav fun H' σ' s' G'=>q H' s' G')
end
end K14
namespace K14
open PySem L2
section
variable {P:Program} {w:World} {K:W.Frag} {mg:Str→Option Value} {base:Heap} {C f fd' fI fH fT fM fG fA:Addr} {fd dI dH dT' dM dG dA:FuncData}
def zcS (K:W.Frag) (C:Addr):Sp:=fun vs H Q _=>∃(a g ld gd:Addr) (ys:List V) (gs:List (Int × Int)) (ts:List Tm),vs=[.ref a,.ref g]∧SqL K H a ys∧ad K H (gs.map dP) ys∧zcd ts.length gs∧GO H C g ld gd ts.length 0 (hdL []) []∧ts.length≤100∧gs.length≤1000 ∧
 ∀(H':Hp) (fl:Addr) (ls:List Lk) (zs:List V),zaw ld gd H H'→H fl=none→H' fl=some (.lst zs)→ad K H' (ls.map dL) zs→GO H' C g ld gd ts.length ls.length (hdL ls) [fl]→zau ts gs ls→zdt gs (hdL ls)→ls=gvF gs→Q (.ref fl) H'
theorem zcr:zap ["given","groups","found","number","pair"] ["given","groups"] (ai zbE):=⟨rfl,rfl,rfl,by decide +kernel,rfl,by decide +kernel,by decide +kernel⟩
theorem zge (F:Fun K "given_links" "given_links" zbE f fd) (T:TxG K mg C) (TE:mg "enumerate"=none) (MT:zcN K C "together" fT) (Bt:zay P w K mg base CX0 2 fT dT' ["self","one","other"] (zdV C)) (bt:zbI K dT' ["self","one","other"] []) (MM:zcN K C "merge" fM) (Bm:zay P w K mg base CX0 2 fM dM ["self","one","other"] (zfo C)) (bm:zbI K dM ["self","one","other"] []):zay P w K mg base CX0 3 f fd ["given","groups"] (zcS K C):=by
 refine F.ok zcr (fun vs H Q E h=>?_) (fun cdv A outer s H vs Q E hr h=>?_)
 ·obtain⟨a,g,ld,gd,ys,gs,ts,rfl,_⟩:=h
  rfl
 obtain⟨a,g,ld,gd,ys,gs,ts,rfl,hS,hL,hP,G,N100,g1000,q⟩:=h
 have yl:ys.length=gs.length:=by rw[←hL.length,List.length_map]
 refine⟨_,(af (aq (i:=2) zcr.nd rfl (Or.inl rfl) (zaF ac))
  (af (zbe PassesOwn.never rfl (ze0 rfl TE (aa (pv 0) ac)) (zdp rfl (zaM (zan (i:=3) zcr.nd rfl (Or.inl rfl)) (zaM (zan (i:=4) zcr.nd rfl (Or.inl rfl)) zcb)))
   (ak (zaA (zb7 (zbt (zbU (pv 1) T.cl MT Bt hr bt .nil ay (aa (ar zal (pv 4) ag (fun _ _=>rfl)) (aa (ar zal (pv 4) ag (fun _ _=>rfl)) ac)))))
     (af (zaZ (zbU (pv 1) T.cl MM Bm hr bm .nil ay (aa (ar zal (pv 4) ag (fun _ _=>rfl)) (aa (ar zal (pv 4) ag (fun _ _=>rfl)) ac))))
      (ak (zaZ (zb4 PySem.F.plainAttrs_list PySem.F.slot_list_append PySem.F.type_list_append zaH (pv 2) (aa (zaN (aa (ar zal (pv 4) ag (fun _ _=>rfl)) (aa (ar zal (pv 4) ag (fun _ _=>rfl)) (aa (pv 3) ac)))) ac)))))
     zaq)))
  (ak (zaj (pv 2))))),?_⟩
 refine⟨lS0,fun fl hfl=>?_⟩
 have s1:zaw ld gd H (upd H fl (.lst [])):=(ah hfl _).g
 have G1:GO (upd H fl (.lst [])) C g ld gd ts.length 0 (hdL []) [fl]:=(G.avoid hfl).same (ah hfl _)
 have n1:=ae (H:=H) (a:=fl) (o:=.lst [])
 generalize upd H fl (.lst [])=H1 at s1 G1 n1
 refine⟨_,rfl,a,rfl,⟨_,G.seqG s1 hS⟩,zcj zeS (fun i σ H'=>∃(v3 v4:Option V) (ls:List Lk) (zs:List V),σ=[some (.ref a),some (.ref g),some (.ref fl),v3,v4]∧zaw ld gd H H'∧H' fl=some (.lst zs)∧ad K H' (ls.map dL) zs∧GO H' C g ld gd ts.length ls.length (hdL ls) [fl]∧zau ts gs ls∧(∀ j p,j < i→gs[j]?=some p→hdL ls p.1=hdL ls p.2)∧(gs.take i).foldl zd3 ([],0)=(ls,i))
  (fun i σ H' ⟨_,_,_,_,_,s2,_⟩=>G.seqG s2 hS) ⟨none,none,[],[],rfl,s1,n1,ad.nil,G1,zau.nil _ _,(fun j p hj=>absurd hj (Nat.not_lt_zero _)),rfl⟩ ?_ ?_⟩
 ·rintro i σ H2 x H3 hi ⟨v3,v4,ls,zs,rfl,s2,hf2,has2,G2,R2,g2,gf⟩ ⟨t,y,rfl,ht,rfl,hy⟩
  obtain⟨pr,p,hpr,rfl,hp⟩:=ze3 hL (hy _ (G.seqG s2 hS))
  have s3:zaw ld gd H (upd H2 t (.tup [.int i,.ref p])):=s2.trans (ah ht _).g
  have s23:aj H2 (upd H2 t (.tup [.int i,.ref p])):=ah ht _
  have G3:=G2.same s23
  have hf3:=s23 _ _ hf2
  have has3:=ad.keep s23.kt (zai _) has2
  have n3:=ae (H:=H2) (a:=t) (o:=.tup [.int i,.ref p])
  generalize upd H2 t (.tup [.int i,.ref p])=H3 at s3 s23 G3 hf3 has3 n3
  have hp3:=(G.ktG s3).sq hp
  have b:=hP pr (List.mem_of_getElem? hpr)
  have a0:atI [V.int pr.1,V.int pr.2] 0=some (.int pr.1):=zad (j:=0) rfl
  have a1:atI [V.int pr.1,V.int pr.2] 1=some (.int pr.2):=zad (j:=1) rfl
  have ll:=R2.len
  have gf':(gs.take (i+1)).foldl zd3 ([],0)=zd3 (ls,i) pr:=by rw[zaT hpr,List.foldl_append,gf];rfl
  obtain⟨dx,kl,kg,e1,_⟩:=id G3.ex
  refine⟨t,_,rfl,SqT.of n3,rfl,_,_,rfl,_,_,rfl,rfl,?_⟩
  refine⟨_,rfl,g,dx,_,rfl,e1,rfl,_,rfl,p,_,_,_,rfl,rfl,hp3,a0,_,rfl,p,_,_,_,rfl,rfl,hp3,a1,g,ld,gd,pr.1,pr.2,_,_,_,_,rfl,G3,_,rfl,?_⟩
  by_cases c:hdL ls pr.1=hdL ls pr.2
  ·rw[decide_eq_true c]
   refine zax ⟨_,_,ls,zs,rfl,s3,hf3,has3,G3,R2,fun j r hj hr'=>?_,?_⟩
   ·by_cases z:j=i
    ·subst z
     cases hpr.symm.trans hr'
     exact c
    ·exact g2 j r (by omega) hr'
   ·rw[gf']
    unfold zd3
    rw[if_pos c]
  ·rw[decide_eq_false c]
   refine zaQ ⟨_,rfl,g,dx,_,rfl,e1,rfl,_,rfl,p,_,_,_,rfl,rfl,hp3,a0,_,rfl,p,_,_,_,rfl,rfl,hp3,a1,g,ld,gd,pr.1,pr.2,_,_,_,_,rfl,G3,b.1,b.2,N100,by omega,(fun z hz=>by cases List.mem_singleton.mp hz;rw[hf3];exact fun e=>nomatch e),fun H4 s4 G4=>?_⟩
   have s34:=s3.trans s4
   have hf4:=G3.lstG s4 hf3
   have has4:=ad.keep (G3.ktG s4) (zai _) has3
   have hp4:=(G3.ktG s4).sq hp3
   refine⟨_,rfl,.inl ⟨rfl,_,SqL.of hf4⟩,_,rfl,p,_,_,_,rfl,rfl,hp4,a0,_,rfl,p,_,_,_,rfl,rfl,hp4,a1,_,rfl,lS3,fun u hu=>?_⟩
   have s5:aj H4 (upd H4 u (.tup [.int pr.1,.int pr.2,.int i])):=ah hu _
   have n5:=ae (H:=H4) (a:=u) (o:=.tup [.int pr.1,.int pr.2,.int i])
   have G5:=G4.same s5
   have s35:=s34.trans (s5.g (ld:=ld) (gd:=gd))
   have hf5:=s5 _ _ hf4
   have has5:=ad.keep s5.kt (zai _) has4
   generalize upd H4 u (.tup [.int pr.1,.int pr.2,.int i])=H5 at s5 n5 G5 s35 hf5 has5
   have zl:zs.length=ls.length:=by rw[←has5.length,List.length_map]
   refine⟨fl,_,_,rfl,rfl,hf5,zaU (by omega),_,_,ls++[(pr.1,pr.2,(i:Int))],zs++[.ref u],rfl,s35.grow hfl,ae,?_,?_,R2.snoc ⟨b.1,b.2,c,.inl ⟨by show(0:Int)≤(i:Int);omega,by show gs[((i:Nat):Int).toNat]?=_;rw[Int.toNat_natCast];exact hpr⟩⟩,fun j r hj hr'=>?_,?_⟩
   ·rw[List.map_append]
    have kt:=zam.lst (ys:=zs++[.ref u]) hf5
    exact ad.append (ad.keep kt (zai _) has5) (ad.one (zdc (l:=(pr.1,pr.2,(i:Int))) (kt.sq (SqT.of n5))))
   ·rw[zbo,List.length_append]
    exact G5.putL List.mem_cons_self hf5
   ·by_cases z:j=i
    ·subst z
     cases hpr.symm.trans hr'
     exact zdD _ _ (List.mem_append_right _ List.mem_cons_self)
    ·exact zdO _ (g2 j r (by omega) hr')
   ·rw[gf']
    unfold zd3
    rw[if_neg c]
 ·rintro σ H2 ⟨v3,v4,ls,zs,rfl,s2,hf2,has2,G2,R2,g2,gf⟩
  rw[yl]at g2 gf
  rw[List.take_length]at gf
  refine⟨_,rfl,q H2 fl ls zs s2 hfl hf2 has2 G2 R2 (fun p hp=>?_) (by unfold gvF;rw[gf])⟩
  obtain⟨j,hj⟩:=List.mem_iff_getElem?.mp hp
  exact g2 j p (List.getElem?_eq_some_iff.mp hj).1 hj
def zcT (K:W.Frag) (C:Addr):Sp:=fun vs H Q _=>∃(a g ld gd:Addr) (xs:List V) (gs:List (Int × Int)) (ts:List Tm) (ls:List Lk) (av:List Addr),vs=[.ref a,.ref g]∧SqL K H a xs∧ad K H (ts.map dTm) xs∧GO H C g ld gd ts.length ls.length (hdL ls) av∧(∀ z∈av,H z≠none)∧(∀ t∈ts,t.2.length≤100)∧ts.length≤100∧zau ts gs ls ∧
 ∀(H':Hp) (fl:Addr) (ms:List Lk) (zs:List V),zaw ld gd H H'→H fl=none→H' fl=some (.lst zs)→ad K H' (ms.map dL) zs→GO H' C g ld gd ts.length (ls++ms).length (hdL (ls++ms)) av→zau ts gs (ls++ms)→(ms=[]→zec ts (hdL ls))→ms=alF ts ls→Q (.ref fl) H'
theorem zbg:zap ["terms","groups","noted","found","number","term","sign","first"] ["terms","groups"] (ai zbq):=⟨rfl,rfl,rfl,by decide +kernel,rfl,by decide +kernel,by decide +kernel⟩
set_option maxHeartbeats 1000000 in
theorem zgf (F:Fun K "alike_links" "alike_links" zbq f fd) (T:TxG K mg C) (TE:mg "enumerate"=none) (TT:mg "tuple"=none) (MH:zcN K C "head" fH) (Bh:zay P w K mg base CX0 1 fH dH ["self","term"] (zeW C)) (bh:zbI K dH ["self","term"] []) (MT:zcN K C "together" fT) (Bt:zay P w K mg base CX0 2 fT dT' ["self","one","other"] (zdV C)) (bt:zbI K dT' ["self","one","other"] []) (MM:zcN K C "merge" fM) (Bm:zay P w K mg base CX0 2 fM dM ["self","one","other"] (zfo C)) (bm:zbI K dM ["self","one","other"] []):zay P w K mg base CX0 3 f fd ["terms","groups"] (zcT K C):=by
 refine F.ok zbg (fun vs H Q E h=>?_) (fun cdv A outer s H vs Q E hr h=>?_)
 ·obtain⟨a,g,ld,gd,xs,gs,ts,ls,av,rfl,_⟩:=h
  rfl
 obtain⟨a,g,ld,gd,xs,gs,ts,ls,av,rfl,hS,hL,G,hav,t100,N100,R,q⟩:=h
 have hu:=zbT hr
 have hr1:zaE 1 _:=hr.mono (by decide)
 have xl:xs.length=ts.length:=by rw[←hL.length,List.length_map]
 refine⟨_,(af (aq (i:=2) zbg.nd rfl (Or.inl rfl) zdA)
  (af (aq (i:=3) zbg.nd rfl (Or.inl rfl) (zaF ac))
  (af (zbe PassesOwn.never rfl (ze0 rfl TE (aa (pv 0) ac)) (zdp rfl (zaM (zan (i:=4) zbg.nd rfl (Or.inl rfl)) (zaM (zan (i:=5) zbg.nd rfl (Or.inl rfl)) zcb)))
   (af (aq (i:=6) zbg.nd rfl (Or.inl rfl) (zaN (aa (ar zal (pv 5) ag (fun _ _=>rfl)) (aa (zaD zc8 rfl TT PyProof.Rows.Boot.tuple (aa (zeM (N':=["part","groups"]) (ix:=[1]) rfl rfl (by decide +kernel) (by decide +kernel) rfl (fun ok=>zcJ (sc:=ai zbq) ok rfl (by decide +kernel) (by decide +kernel)) (by decide +kernel) rfl rfl (fun j i h=>match j,h with | 0,h=>by cases h;exact⟨_,rfl,rfl,.inl rfl,.inl rfl⟩ | n+1,h=>by simp at h) (zfG (ar zal (pv 5) ag (fun _ _=>rfl))) (fun _ _ _ _=>(zbU (pv 1) T.cl MH Bh hr1 bh .nil ay (aa (pv 0) ac)))) ac)) ac))))
    (af (aq (i:=7) zbg.nd rfl (Or.inl rfl) (zjs hu (pv 2) (aa (pv 6) (aa (pv 4) ac))))
    (ak (zaA (zb7 (zbt (zbU (pv 1) T.cl MT Bt hr bt .nil ay (aa (pv 7) (aa (pv 4) ac)))))
     (af (zaZ (zbU (pv 1) T.cl MM Bm hr bm .nil ay (aa (pv 7) (aa (pv 4) ac))))
      (ak (zaZ (zb4 PySem.F.plainAttrs_list PySem.F.slot_list_append PySem.F.type_list_append zaH (pv 3) (aa (zaN (aa (pv 7) (aa (pv 4) (aa (zeh zdm ag) ac)))) ac)))))
     zaq)))))
  (ak (zaj (pv 3)))))),?_⟩
 refine fun nd hnd=>?_
 have s0:aj H (upd H nd (.dK [])):=ah hnd _
 have d0:SD P w (upd H nd (.dK [])) nd []:=.inl ⟨ae,rfl⟩
 generalize upd H nd (.dK [])=H0 at s0 d0
 refine⟨lS0,fun fl hfl=>?_⟩
 have hfl0:H fl=none:=s0.free hfl
 have s01:aj H0 (upd H0 fl (.lst [])):=ah hfl _
 have s1:zaw ld gd H (upd H0 fl (.lst [])):=(s0.trans s01).g
 have G1:GO (upd H0 fl (.lst [])) C g ld gd ts.length ls.length (hdL ls) (fl :: av):=((G.same s0).avoid hfl).same s01
 have n1:=ae (H:=H0) (a:=fl) (o:=.lst [])
 have d1:SD P w (upd H0 fl (.lst [])) nd []:=d0.to fun o z=>s01 _ _ z
 generalize upd H0 fl (.lst [])=H1 at s1 G1 n1 d1 s01
 obtain⟨dx0,kl0,kg0,e10,e20,e30,_⟩:=id G.ex
 have ndl:nd≠ld:=Ne.symm (zaB e20 hnd)
 have ndg:nd≠gd:=Ne.symm (zaB e30 hnd)
 have ndf:nd≠fl:=fun e=>(e ▸ d1).nol _ n1
 have avl:∀ {H':Hp},zaw ld gd H H'→(∃ zs,H' fl=some (.lst zs))→(∃ dx kl kg,H' g=some (.ins C dx [("least",.ref ld),("gathered",.ref gd)])∧H' ld=some (.dK kl)∧H' gd=some (.dK kg))→∀ z∈fl :: av,H' z≠none:=by
  rintro H' s' ⟨zs,hz⟩ ⟨dx,kl,kg,_,e2,e3⟩ z hz'
  rcases List.mem_cons.mp hz' with rfl | hz'
  ·rw[hz];exact fun e=>nomatch e
  ·by_cases c1:z=ld
   ·rw[c1,e2];exact fun e=>nomatch e
   ·by_cases c2:z=gd
    ·rw[c2,e3];exact fun e=>nomatch e
    ·cases eo:H z with
     | none=>exact absurd eo (hav z hz')
     | some o=>rw[s' z o c1 c2 eo];exact fun e=>nomatch e
 refine⟨_,rfl,a,rfl,⟨_,G.seqG s1 hS⟩,zcj zeS (fun i σ H'=>∃(v4 v5 v6 v7:Option V) (ms:List Lk) (zs:List V) (kvs:List SE),σ=[some (.ref a),some (.ref g),some (.ref nd),some (.ref fl),v4,v5,v6,v7]∧zaw ld gd H H'∧H' fl=some (.lst zs)∧ad K H' (ms.map dL) zs∧GO H' C g ld gd ts.length (ls++ms).length (hdL (ls++ms)) (fl :: av)∧zau ts gs (ls++ms)∧SD P w H' nd kvs∧kvs.length≤i∧(∀ e∈kvs,zcH K H' e.1 e.2.1)∧ze8 ts (hdL (ls++ms)) i kvs∧(ms=[]→zfy ts (hdL ls) i kvs)∧∃ nt,(ts.take i).foldl (zdr ls) ([],[],0)=(ms,nt,i)∧NtR kvs nt)
  (fun i σ H' ⟨_,_,_,_,_,_,_,_,s2,_⟩=>G.seqG s2 hS) ⟨none,none,none,none,[],[],[],rfl,s1,n1,ad.nil,by rw[List.append_nil];exact G1,by rw[List.append_nil];exact R,d1,Nat.le_refl _,(fun e he=>nomatch he),(fun e he=>nomatch he),(fun _ j t hj=>absurd hj (Nat.not_lt_zero _)),[],rfl,rfl⟩ ?_ ?_⟩
 ·rintro i σ H2 x H3 hi ⟨v4,v5,v6,v7,ms,zs,kvs,rfl,s2,hf2,has2,G2,R2,D2,l2,sg2,N2,A2,nt,nf,NR⟩ ⟨t,y,rfl,ht,rfl,hy⟩
  obtain⟨tm,p,pq,htm,rfl,hp,hpq⟩:=zdJ hL (hy _ (G.seqG s2 hS))
  have s23:aj H2 (upd H2 t (.tup [.int i,.ref p])):=ah ht _
  have n3:=ae (H:=H2) (a:=t) (o:=.tup [.int i,.ref p])
  generalize upd H2 t (.tup [.int i,.ref p])=H3 at s23 n3
  have k23:=(G.ktG s2).trans s23.kt
  have hp3:=k23.sq hp
  have hpq3:=k23.sq hpq
  have a0:atI [V.str tm.1,V.ref pq] 0=some (.str tm.1):=zad (j:=0) rfl
  have a1:atI [V.str tm.1,V.ref pq] 1=some (.ref pq):=zad (j:=1) rfl
  have lt:=t100 tm (List.mem_of_getElem? htm)
  refine⟨t,_,rfl,SqT.of n3,rfl,_,_,rfl,_,_,rfl,rfl,?_⟩
  refine⟨_,rfl,p,_,_,_,rfl,rfl,hp3,a0,_,rfl,p,_,_,_,rfl,rfl,hp3,a1,pq,rfl,⟨_,hpq3⟩,fun D hD=>zeO zfC (fun j ys H'=>aj H3 H'∧ys=((tm.2.take j).map (hdL (ls++ms))).map V.int) (fun j ys H' ⟨s4,_⟩=>s4.tup hpq3) ⟨ah hD _,rfl⟩ ?_ ?_⟩
  ·rintro j ys H4 x H5 hj hly hDs ⟨s4,rfl⟩ ⟨rfl,hx⟩
   obtain⟨n,hn,rfl⟩:=zcc (hx _ (s4.tup hpq3))
   have G4:=(G2.same s23).same s4
   obtain⟨dx,kl,kg,e1,_⟩:=id G4.ex
   rw[List.length_map]at hj
   refine⟨_,rfl,g,dx,_,rfl,e1,rfl,_,rfl,g,ld,gd,n,_,_,_,_,rfl,G4,zbC (bsz _ (by rw[List.length_map];omega)) (by rw[List.length_map];exact hj) hly hDs ⟨s4.upd hD,?_⟩⟩
   rw[zaT hn,List.map_append,List.map_append]
   rfl
  rintro ys H4 hDs ⟨s4,rfl⟩
  rw[List.length_map,List.take_of_length_le (Nat.le_refl _)]at hDs
  refine⟨D,_,rfl,.inl ⟨SqL.of hDs,fun u hu'=>?_⟩⟩
  have s45:aj H4 (upd H4 u (.tup ((tm.2.map (hdL (ls++ms))).map V.int))):=ah hu' _
  have n5:=ae (H:=H4) (a:=u) (o:=.tup ((tm.2.map (hdL (ls++ms))).map V.int))
  generalize upd H4 u (.tup ((tm.2.map (hdL (ls++ms))).map V.int))=H5 at s45 n5
  refine⟨lS2,fun sg hsg=>?_⟩
  have s56:aj H5 (upd H5 sg (.tup [.str tm.1,.ref u])):=ah hsg _
  have n6:=ae (H:=H5) (a:=sg) (o:=.tup [.str tm.1,.ref u])
  have n65:=s56 _ _ n5
  generalize upd H5 sg (.tup [.str tm.1,.ref u])=H6 at s56 n6 n65
  have s26:aj H2 H6:=((s23.trans s4).trans s45).trans s56
  have sH6:zaw ld gd H H6:=s2.trans s26.g
  have G6:=G2.same s26
  have hf6:=s26 _ _ hf2
  have has6:=ad.keep s26.kt (zai _) has2
  have D6:SD P w H6 nd kvs:=D2.to fun o z=>s26 _ _ z
  have sg6:∀ e∈kvs,zcH K H6 e.1 e.2.1:=fun e he=>(sg2 e he).keep s26.kt
  have sgn6:zcH K H6 (zbL tm (hdL (ls++ms))) sg:=⟨u,SqT.of n6,by
   show SqT K H6 u (((tm.2.map (hdL (ls++ms))).map Sum.inl).map kV)
   rw[List.map_map]
   exact SqT.of n65⟩
  have Hh:=zjR R2.inn
  have idm:(tm.2.map (hdL (ls++ms))).map (hdL (ls++ms))=tm.2.map (hdL (ls++ms)):=by
   rw[List.map_map]
   exact List.map_congr_left fun z _=>Hh.idem z
  have iN:i < ts.length:=by rw[←xl];exact hi
  have zl:zs.length=ms.length:=by rw[←has6.length,List.length_map]
  have ll:=R2.len
  rw[List.length_append]at ll
  have nf':(ts.take (i+1)).foldl (zdr ls) ([],[],0)=zdr ls (ms,nt,i) tm:=by rw[zaT htm,List.foldl_append,nf];rfl
  obtain⟨dx,kl,kg,e1,e2,e3,_⟩:=id G6.ex
  refine⟨_,rfl,⟨nd,kvs,rfl,D6⟩,_,rfl,_,rfl,nd,sg,zbL tm (hdL (ls++ms)),.int i,kvs,rfl,rfl,D6,zaU (by omega),sg6,sgn6,?_⟩
  cases ha:atS kvs (zbL tm (hdL (ls++ms))) with
  | none =>
   have fn:nt.find? (fun e=>decide (e.1=zbL tm (hdL (ls++ms))))=none:=by
    rcases NR.at (k:=zbL tm (hdL (ls++ms))) with ⟨e,x,y1,y2,y3⟩ | ⟨y1,y2⟩
    ·rw[ha]at y1;cases y1
    ·exact y2
   refine .inr ⟨rfl,?_⟩
   have G7:GO (upd H6 nd (zdf P w nd (kvs++[(zbL tm (hdL (ls++ms)),sg,.int i)]))) C g ld gd ts.length (ls++ms).length (hdL (ls++ms)) (fl :: av):=G6.put (.inr D6.nol) (fun z=>D6.noi (z ▸ e1)) ndl ndg
   have kt:=zam.sd (o:=zdf P w nd (kvs++[(zbL tm (hdL (ls++ms)),sg,.int i)])) D6
   have D7:SD P w (upd H6 nd (zdf P w nd (kvs++[(zbL tm (hdL (ls++ms)),sg,.int i)]))) nd (kvs++[(zbL tm (hdL (ls++ms)),sg,.int i)]):=.inr ae
   have sH7:zaw ld gd H (upd H6 nd (zdf P w nd (kvs++[(zbL tm (hdL (ls++ms)),sg,.int i)]))):=sH6.grow hnd
   have hf7:(upd H6 nd (zdf P w nd (kvs++[(zbL tm (hdL (ls++ms)),sg,.int i)]))) fl=some (.lst zs):=by rw[ap (Ne.symm ndf)];exact hf6
   obtain⟨dx7,kl7,kg7,e17,_⟩:=id G7.ex
   refine⟨_,rfl,g,dx7,_,rfl,e17,rfl,_,rfl,_,rfl,g,ld,gd,i,i,_,_,_,_,rfl,G7,_,rfl,?_⟩
   rw[decide_eq_true (show hdL (ls++ms) (i:Int)=hdL (ls++ms) (i:Int) from rfl)]
   refine zax ⟨_,_,_,_,ms,zs,_,rfl,sH7,hf7,ad.keep kt (zai _) has6,G7,R2,D7,?_,fun e he=>?_,fun e he=>?_,fun em j t' hj ht'=>?_,nt++[(zbL tm (hdL (ls++ms)),(i:Int))],?_,NR.snoc⟩
   ·rw[List.length_append]
    show kvs.length+1≤i+1
    omega
   ·rcases List.mem_append.mp he with he | he
    ·exact(sg6 e he).keep kt
    ·cases List.mem_singleton.mp he
     exact sgn6.keep kt
   ·rcases List.mem_append.mp he with he | he
    ·obtain⟨j,t',es,z1,z2,z3⟩:=N2 e he
     exact⟨j,t',es,z1,by omega,z3⟩
    ·cases List.mem_singleton.mp he
     exact⟨i,tm,_,rfl,by omega,htm,rfl,idm⟩
   ·subst em
    rw[List.append_nil]at ha
    rw[List.append_nil]
    by_cases c:j=i
    ·subst c
     cases htm.symm.trans ht'
     exact⟨_,_,zjW ha,rfl,rfl⟩
    ·obtain⟨e,k,z1,z2,z3⟩:=A2 rfl j t' (by omega) ht'
     exact⟨e,k,zi6 (k2:=zbL tm (hdL ls)) z1,z2,z3⟩
   ·rw[nf']
    unfold zdr
    rw[fn]
  | some e =>
   refine .inl ⟨e,rfl,?_⟩
   obtain⟨em,ek⟩:=zjX ha
   obtain⟨j,tj,es,z1,z2,z3,z4,z5⟩:=N2 e em
   obtain⟨x,fx,xj⟩:∃ x,nt.find? (fun e=>decide (e.1=zbL tm (hdL (ls++ms))))=some x∧x.2=(j:Int):=by
    rcases NR.at (k:=zbL tm (hdL (ls++ms))) with ⟨e',x,y1,y2,y3⟩ | ⟨y1,y2⟩
    ·cases ha.symm.trans y1
     refine⟨x,y2,?_⟩
     have:=y3.symm.trans z1
     injection this
    ·rw[ha]at y1;cases y1
   rw[z1]
   refine⟨_,rfl,g,dx,_,rfl,e1,rfl,_,rfl,_,rfl,g,ld,gd,j,i,_,_,_,_,rfl,G6,_,rfl,?_⟩
   by_cases c:hdL (ls++ms) (j:Int)=hdL (ls++ms) (i:Int)
   ·rw[decide_eq_true c]
    refine zax ⟨_,_,_,_,ms,zs,kvs,rfl,sH6,hf6,has6,G6,R2,D6,by omega,sg6,(fun e he=>by
     obtain⟨j,t',es,z1,z2,z3⟩:=N2 e he
     exact⟨j,t',es,z1,by omega,z3⟩),fun em' k t' hk ht'=>?_,nt,?_,NR⟩
    ·by_cases c2:k=i
     ·subst c2
      cases htm.symm.trans ht'
      subst em'
      rw[List.append_nil]at ha c
      exact⟨e,j,ha,z1,c⟩
     ·exact A2 em' k t' (by omega) ht'
    ·rw[nf']
     unfold zdr
     rw[fx]
     show(if hdL (ls++ms) x.2=hdL (ls++ms) (i:Int) then _ else _)=_
     rw[xj,if_pos c]
   ·rw[decide_eq_false c]
    have b1:(0:Int)≤(j:Int)∧(j:Int) < (ts.length:Int):=by omega
    have b2:(0:Int)≤(i:Int)∧(i:Int) < (ts.length:Int):=by omega
    refine zaQ ⟨_,rfl,g,dx,_,rfl,e1,rfl,_,rfl,_,rfl,g,ld,gd,j,i,_,_,_,_,rfl,G6,b1,b2,N100,by rw[List.length_append];omega,avl sH6 ⟨_,hf6⟩ ⟨_,_,_,e1,e2,e3⟩,fun H7 s7 G7=>?_⟩
    have sH7:=sH6.trans s7
    have hf7:=G6.lstG s7 hf6
    have has7:=ad.keep (G6.ktG s7) (zai _) has6
    have D7:SD P w H7 nd kvs:=D6.to fun o z=>s7 _ _ ndl ndg z
    have sg7:∀ e∈kvs,zcH K H7 e.1 e.2.1:=fun e he=>(sg6 e he).keep (G6.ktG s7)
    refine⟨_,rfl,.inl ⟨rfl,_,SqL.of hf7⟩,_,rfl,_,rfl,_,rfl,lS3,fun r hr'=>?_⟩
    have s78:aj H7 (upd H7 r (.tup [.int j,.int i,.int (-1)])):=ah hr' _
    have n8:=ae (H:=H7) (a:=r) (o:=.tup [.int j,.int i,.int (-1)])
    have G8:=G7.same s78
    have sH8:=sH7.trans (s78.g (ld:=ld) (gd:=gd))
    have hf8:=s78 _ _ hf7
    have has8:=ad.keep s78.kt (zai _) has7
    have D8:SD P w (upd H7 r (.tup [.int j,.int i,.int (-1)])) nd kvs:=D7.to fun o z=>s78 _ _ z
    have sg8:∀ e∈kvs,zcH K (upd H7 r (.tup [.int j,.int i,.int (-1)])) e.1 e.2.1:=fun e he=>(sg7 e he).keep s78.kt
    generalize upd H7 r (.tup [.int j,.int i,.int (-1)])=H8 at s78 n8 G8 sH8 hf8 has8 D8 sg8
    have kt:=zam.lst (ys:=zs++[.ref r]) hf8
    have al:zd5 ts (hdL (ls++ms)) (j:Int) (i:Int):=by
     refine⟨tj,tm,by rw[Int.toNat_natCast];exact z3,by rw[Int.toNat_natCast];exact htm,?_,?_⟩
     ·have:=congrArg Prod.fst (z4.symm.trans ek)
      exact this
     ·have h2:es.map Sum.inl=(tm.2.map (hdL (ls++ms))).map Sum.inl:=congrArg Prod.snd (z4.symm.trans ek)
      rw[←z5,zhd h2]
      exact idm
    have R8:zau ts gs (ls++(ms++[((j:Int),(i:Int),(-1:Int))])):=by
     rw[←List.append_assoc]
     exact R2.snoc ⟨b1,b2,c,.inr ⟨rfl,al⟩⟩
    refine⟨fl,_,_,rfl,rfl,hf8,zaU (by omega),_,_,_,_,ms++[((j:Int),(i:Int),(-1:Int))],zs++[.ref r],kvs,rfl,sH8.grow hfl0,ae,?_,?_,R8,D8.to fun o z=>by rw[ap ndf];exact z,by omega,fun e he=>(sg8 e he).keep kt,?_,(fun z=>absurd z (by simp)),nt,?_,NR⟩
    ·rw[List.map_append]
     exact ad.append (ad.keep kt (zai _) has8) (ad.one (zdc (l:=((j:Int),(i:Int),(-1:Int))) (kt.sq (SqT.of n8))))
    ·rw[←List.append_assoc,zbo,List.length_append]
     exact G8.putL List.mem_cons_self hf8
    ·rw[←List.append_assoc]
     exact N2.more _ (by omega)
    ·rw[nf']
     unfold zdr
     rw[fx]
     show(if hdL (ls++ms) x.2=hdL (ls++ms) (i:Int) then _ else _)=_
     rw[xj,if_neg c]
 ·rintro σ H2 ⟨v4,v5,v6,v7,ms,zs,kvs,rfl,s2,hf2,has2,G2,R2,D2,l2,sg2,N2,A2,nt,nf,NR⟩
  rw[xl]at A2 nf
  rw[List.take_length]at nf
  exact⟨_,rfl,q H2 fl ms zs s2 hfl0 hf2 has2 (G2.sub fun z hz=>List.mem_cons_of_mem _ hz) R2 (fun z=>(A2 z).closed) (by unfold alF;rw[nf])⟩
def zfp (K:W.Frag):Sp:=fun vs H Q _=>∃(a ga:Addr) (xs ys:List V) (gs:List (Int × Int)) (ts:List Tm),vs=[.ref a,.ref ga]∧SqL K H a xs∧ad K H (ts.map dTm) xs∧SqL K H ga ys∧ad K H (gs.map dP) ys∧zcd ts.length gs∧(∀ t∈ts,t.2.length≤100)∧ts.length≤100∧gs.length≤1000 ∧
 ∀(H':Hp) (l:Addr) (ls:List Lk) (zs:List V),aj H H'→H l=none→H' l=some (.lst zs)→ad K H' (ls.map dL) zs→zau ts gs ls→zdt gs (hdL ls)→zec ts (hdL ls)→ls=zfJ ts gs→Q (.ref l) H'
theorem zdy:zap ["terms","given","groups","found","more"] ["terms","given"] (ai zdi):=⟨rfl,rfl,rfl,by decide +kernel,rfl,by decide +kernel,by decide +kernel⟩
set_option maxHeartbeats 1000000 in
theorem ziS (F:Fun K "links" "links" zdi f fd) (TL:mg "len"=none) (MK:Mk K C fI) (mC:mg "Groups"=some (.ref C)) (Bi:zay P w K mg base CX0 1 fI dI ["self"] (zg5 C)) (bi:zbI K dI ["self"] []) (Bgv:FB P w K mg base CX0 3 "given_links" fG dG ["given","groups"] (zcS K C)) (Bal:FB P w K mg base CX0 3 "alike_links" fA dA ["terms","groups"] (zcT K C)):zay P w K mg base CX0 4 f fd ["terms","given"] (zfp K):=by
 refine F.ok zdy (fun vs H Q E h=>?_) (fun cdv A outer s H vs Q E hr h=>?_)
 ·obtain⟨a,ga,xs,ys,gs,ts,rfl,_⟩:=h
  rfl
 obtain⟨a,ga,xs,ys,gs,ts,rfl,hS,hL,hSg,hLg,hP,t100,N100,g1000,q⟩:=h
 have hr2:zaE 2 _:=hr.mono (by decide)
 refine⟨_,(af (aq (i:=2) zdy.nd rfl (Or.inl rfl) (ziJ MK Bi hr2 rfl mC bi .nil ay))
  (af (aq (i:=3) zdy.nd rfl (Or.inl rfl) (zac Bgv.ok hr rfl Bgv.m Bgv.kp Bgv.b .nil ay (aa (pv 1) (aa (pv 2) ac))))
  (af (aq (i:=4) zdy.nd rfl (Or.inl rfl) (zac Bal.ok hr rfl Bal.m Bal.kp Bal.b .nil ay (aa (pv 0) (aa (pv 2) ac))))
  (af (zdz PassesOwn.never (zag zeN (zab zaa rfl TL PySem.boot_len (aa (pv 4) ac)) ag (zas _))
   (af (zaZ (zb4 PySem.F.plainAttrs_list PySem.F.slot_list_extend PySem.F.type_list_extend zgi (pv 3) (aa (pv 4) ac)))
    (ak (aq (i:=4) zdy.nd rfl (Or.inl rfl) (zac Bal.ok hr rfl Bal.m Bal.kp Bal.b .nil ay (aa (pv 0) (aa (pv 2) ac)))))))
  (ak (zaj (pv 3))))))),?_⟩
 intro g dx ng ndx nex
 have s0:∀ b o,H b=some o→(upd (upd H dx (.own g)) g (.ins C dx [])) b=some o:=fun b o h=>by
  rw[ap (fun e=>by rw[e,ng]at h;cases h),ap (fun e=>by rw[e,ndx]at h;cases h)]
  exact h
 have hg0:=ae (H:=upd H dx (.own g)) (a:=g) (o:=.ins C dx [])
 have f0:∀ b,(upd (upd H dx (.own g)) g (.ins C dx [])) b=none→H b=none:=fun b h=>by
  cases e:H b with
  | none=>rfl
  | some o=>rw[s0 b o e]at h;cases h
 generalize upd (upd H dx (.own g)) g (.ins C dx [])=H0 at s0 hg0 f0
 refine⟨g,dx,rfl,hg0,fun H1 ld gd k1 nl ngd ne hg1 hl1 hgd1=>⟨rfl,?_⟩⟩
 have s1:aj H H1:=fun b o h=>k1 b o (fun e=>by rw[e,ng]at h;cases h) (s0 b o h)
 have G1:GO H1 C g ld gd ts.length 0 (hdL []) []:=⟨Hd.zero _,ne,dx,[],[],hg1,hl1,hgd1,fun t=>rfl,fun x _=>⟨[x],by simp,fun t=>by show t∈[x]↔t=x;simp,.inl ⟨rfl,rfl⟩⟩,Nat.zero_le _,Nat.zero_le _⟩
 have nld:H ld=none:=f0 ld nl
 have ngd':H gd=none:=f0 gd ngd
 refine⟨_,rfl,_,rfl,ga,g,ld,gd,ys,gs,ts,rfl,s1.seq hSg,ad.keep s1.kt (zaG _) hLg,hP,G1,N100,g1000,fun H2 fl fs zs s2 hfl hfl2 has2 G2 R2 g2 ef=>?_⟩
 have sH2:=s1.ofG nld ngd' s2
 refine⟨_,rfl,_,rfl,a,g,ld,gd,xs,gs,ts,fs,[fl],rfl,sH2.seq hS,ad.keep sH2.kt (zaf _) hL,G2,(fun z hz=>by cases List.mem_singleton.mp hz;rw[hfl2];exact fun e=>nomatch e),t100,N100,R2,fun H3 ml ms ws s3 hml hml3 has3 G3 R3 c3 em=>?_⟩
 have sH3:=sH2.ofG nld ngd' s3
 have hflH:H fl=none:=s1.free hfl
 refine⟨fun m σ H'=>∃(ml:Addr) (fs ms:List Lk) (zs ws:List V),σ=[some (.ref a),some (.ref ga),some (.ref g),some (.ref fl),some (.ref ml)]∧m=ts.length+1 - fs.length∧aj H H'∧H' fl=some (.lst zs)∧ad K H' (fs.map dL) zs∧H' ml=some (.lst ws)∧ad K H' (ms.map dL) ws∧GO H' C g ld gd ts.length (fs++ms).length (hdL (fs++ms)) [fl]∧zau ts gs (fs++ms)∧zdt gs (hdL (fs++ms))∧(ms=[]→zec ts (hdL fs))∧ms=alF ts fs∧∃ k:Nat,ts.length < k+fs.length∧lkF ts k fs=zfJ ts gs,
  ⟨_,ml,fs,ms,zs,ws,rfl,rfl,sH3,G2.lstG s3 hfl2,ad.keep (G2.ktG s3) (zai _) has2,hml3,has3,G3,R3,g2.more _,c3,em,ts.length+1,by omega,by rw[ef];rfl⟩,?_⟩
 rintro m σ H4 ⟨ml,fs,ms,zs,ws,rfl,rfl,s4,hf4,has4,hm4,hasm4,G4,R4,g4,c4,em4,k4,kl4,ek4⟩
 have wl:ws.length=ms.length:=by rw[←hasm4.length,List.length_map]
 have zl:zs.length=fs.length:=by rw[←has4.length,List.length_map]
 have ll:=R4.len
 rw[List.length_append]at ll
 refine⟨_,rfl,ml,_,rfl,.inl (SqL.of hm4),_,_,rfl,rfl,_,rfl,?_⟩
 by_cases c:ms=[]
 ·subst c
  rw[List.length_nil]at wl
  rw[List.append_nil]at G4 R4 g4
  rw[show decide (((ws.length:Nat):Int) > 0)=false by rw[wl];rfl]
  have er:fs=zfJ ts gs:=by
   rw[←ek4]
   cases k4 with
   | zero =>
    rfl
   | succ k =>
    show fs=if alF ts fs=[] then fs else _
    rw[if_pos em4.symm]
  exact zax ⟨_,rfl,q H4 fl fs zs s4 hflH hf4 has4 R4 g4 (c4 rfl) er⟩
 have mp:0 < ms.length:=List.length_pos_iff.mpr c
 rw[show decide (((ws.length:Nat):Int) > 0)=true from decide_eq_true (by omega)]
 refine zaQ ⟨fun σ' H'=>∃(ml':Addr) (ms':List Lk) (ws':List V),σ'=[some (.ref a),some (.ref ga),some (.ref g),some (.ref fl),some (.ref ml')]∧aj H H'∧H' fl=some (.lst (zs++ws))∧ad K H' ((fs++ms).map dL) (zs++ws)∧H' ml'=some (.lst ws')∧ad K H' (ms'.map dL) ws'∧GO H' C g ld gd ts.length ((fs++ms)++ms').length (hdL ((fs++ms)++ms')) [fl]∧zau ts gs ((fs++ms)++ms')∧zdt gs (hdL ((fs++ms)++ms'))∧(ms'=[]→zec ts (hdL (fs++ms)))∧ms'=alF ts (fs++ms)∧∃ k:Nat,ts.length < k+(fs++ms).length∧lkF ts k (fs++ms)=zfJ ts gs,?_,?_⟩
 ·rintro σ' H' ⟨ml',ms',ws',rfl,z⟩
  refine⟨_,?_,ml',fs++ms,ms',zs++ws,ws',rfl,rfl,z⟩
  rw[List.length_append]
  omega
 refine⟨_,rfl,.inl ⟨rfl,_,SqL.of hf4⟩,_,rfl,fl,ml,zs,ws,rfl,rfl,hf4,hm4,zcV (by omega),?_⟩
 have kt:=zam.lst (ys:=zs++ws) hf4
 have s5:aj H (upd H4 fl (.lst (zs++ws))):=s4.upd hflH
 have G5:GO (upd H4 fl (.lst (zs++ws))) C g ld gd ts.length (fs++ms).length (hdL (fs++ms)) [fl]:=G4.putL List.mem_cons_self hf4
 have n5:=ae (H:=H4) (a:=fl) (o:=.lst (zs++ws))
 have has5:ad K (upd H4 fl (.lst (zs++ws))) ((fs++ms).map dL) (zs++ws):=by
  rw[List.map_append]
  exact ad.append (ad.keep kt (zai _) has4) (ad.keep kt (zai _) hasm4)
 generalize upd H4 fl (.lst (zs++ws))=H5 at s5 G5 n5 has5
 refine⟨_,rfl,_,rfl,a,g,ld,gd,xs,gs,ts,fs++ms,[fl],rfl,s5.seq hS,ad.keep s5.kt (zaf _) hL,G5,(fun z hz=>by cases List.mem_singleton.mp hz;rw[n5];exact fun e=>nomatch e),t100,N100,R4,fun H6 ml6 ms6 ws6 s6 hml6 hml66 has6 G6 R6 c6 em6=>?_⟩
 exact⟨ml6,ms6,ws6,rfl,s5.ofG nld ngd' s6,G5.lstG s6 n5,ad.keep (G5.ktG s6) (zai _) has5,hml66,has6,G6,R6,g4.more _,c6,em6,k4 - 1,(by rw[List.length_append];omega),by
  cases k4 with
  | zero=>omega
  | succ k =>
   rw[←ek4]
   show lkF ts k (fs++ms)=if alF ts fs=[] then fs else lkF ts k (fs++alF ts fs)
   rw[←em4,if_neg c]⟩
end
end K14
namespace K14
open PySem L2
def zdg (K:W.Frag):Sp:=fun vs H Q _=>∃(a:Addr) (ns:List Int) (k:Nat),vs=[.ref a,.int (k:Int)]∧SqL K H a (ns.map V.int)∧Q (.int (ns.getD k 0)) H
theorem zfX:zap ["_law_script","_law_k"] ["_law_script","_law_k"] (ai zbA):=⟨rfl,rfl,rfl,by decide +kernel,rfl,by decide +kernel,by decide +kernel⟩
theorem zjI {P:Program} {w:World} {K:W.Frag} {mg:Str→Option Value} {base:Heap} {f:Addr} {fd:FuncData} (F:Fun K "_law_cell_at" "_law_cell_at" zbA f fd) (T:Txt K mg):zay P w K mg base CX0 1 f fd ["_law_script","_law_k"] (zdg K):=by
 refine F.ok zfX (fun vs H Q E h=>?_) (fun cdv A outer s H vs Q E hr h=>?_)
 ·obtain⟨a,ns,k,rfl,_⟩:=h
  rfl
 obtain⟨a,ns,k,rfl,hS,q⟩:=h
 refine⟨_,(af (zaA (zag zfA (pv 1) (zab zaa rfl T.len PySem.boot_len (aa (pv 0) ac)) (zas _))
   (ak (zaj (ar zah (pv 0) (pv 1) (fun _ _=>rfl))))
   zaq)
  (ak (zaj ag))),?_⟩
 refine⟨_,rfl,_,rfl,a,_,rfl,.inl hS,_,_,rfl,rfl,_,rfl,zbN (fun c=>?_) (fun c=>?_)⟩
 ·have hc:(k:Int) < ((ns.map V.int).length:Nat):=of_decide_eq_true c
  rw[List.length_map]at hc
  have hn:ns[k]?=some (ns.getD k 0):=by
   rw[List.getD_eq_getElem?_getD,List.getElem?_eq_getElem (by omega)]
   rfl
  exact⟨_,rfl,_,rfl,a,_,_,_,rfl,rfl,hS,zgP hn,q⟩
 ·have hc:¬((k:Int) < ((ns.map V.int).length:Nat)):=fun z=>c (decide_eq_true z)
  rw[List.length_map]at hc
  have e:ns.getD k 0=0:=by
   rw[List.getD_eq_getElem?_getD,List.getElem?_eq_none (by omega)]
   rfl
  rw[e]at q
  exact q
def zfk:Sp:=fun vs H Q _=>∃ n:Int,vs=[.int n]∧Q (.bl true) H
theorem zgt:zap ["_law_found"] ["_law_found"] (ai zbX):=⟨rfl,rfl,rfl,by decide +kernel,rfl,by decide +kernel,by decide +kernel⟩
theorem ziL {P:Program} {w:World} {K:W.Frag} {mg:Str→Option Value} {base:Heap} {f:Addr} {fd:FuncData} (F:Fun K "_law_whole" "_law_whole" zbX f fd) (T:Txt K mg):zay P w K mg base CX0 1 f fd ["_law_found"] zfk:=by
 refine F.ok zgt (fun vs H Q E h=>?_) (fun cdv A outer s H vs Q E hr h=>?_)
 ·obtain⟨n,rfl,_⟩:=h
  rfl
 obtain⟨n,rfl,q⟩:=h
 refine⟨_,(ak (zaj (zfH (zab zff rfl T.isinstance PyProof.Rows.Boot.isinstance (aa (pv 0) (aa (zd6 (v:=.ty "int") rfl T.int PyProof.Rows.Boot.int rfl) ac))) (zgx (pe_not (zab zff rfl T.isinstance PyProof.Rows.Boot.isinstance (aa (pv 0) (aa (zd6 (v:=.ty "bool") rfl T.bool PyProof.Rows.Boot.bool rfl) ac)))))))),?_⟩
 exact⟨_,rfl,_,.type "int","int",true,rfl,zcw.int _,zf8 K "int",_,rfl,zaQ ⟨_,rfl,_,.type "int","bool",false,rfl,zcw.int _,T.ib,_,rfl,q⟩⟩
def zbB (c k:Int):Int:=(c+7919 * k+11) * 48271 % 2147483647 * ((c+7919 * k+11) * 48271 % 2147483647 / 65536+3) % 2147483647
def zbQ:Sp:=fun vs H Q _=>∃ c k:Int,vs=[.int c,.int k]∧Q (.int (zbB c k)) H
theorem zeu:zap ["_law_cell","_law_k","_law_mixed_here"] ["_law_cell","_law_k"] (ai zbZ):=⟨rfl,rfl,rfl,by decide +kernel,rfl,by decide +kernel,by decide +kernel⟩
theorem ziQ {P:Program} {w:World} {K:W.Frag} {mg:Str→Option Value} {base:Heap} {f:Addr} {fd:FuncData} (F:Fun K "_law_mixed" "_law_mixed" zbZ f fd):zay P w K mg base CX0 1 f fd ["_law_cell","_law_k"] zbQ:=by
 refine F.ok zeu (fun vs H Q E h=>?_) (fun cdv A outer s H vs Q E hr h=>?_)
 ·obtain⟨c,k,rfl,_⟩:=h
  rfl
 obtain⟨c,k,rfl,q⟩:=h
 refine⟨_,(af (aq (i:=2) zeu.nd rfl (Or.inl rfl) (ao zak (ao zdq (ao zbf (ao zbf (pv 0) (ao zdq ag (pv 1))) ag) ag) ag))
  (ak (zaj (ao zak (ao zdq (pv 2) (ao zbf (ao zar (pv 2) ag) ag)) ag)))),?_⟩
 have b:=za3 ((c+7919 * k+11) * 48271) (show(0:Int) < 2147483647 by decide)
 exact⟨_,rfl,_,rfl,_,_,rfl,rfl,.inl ⟨by decide,by decide⟩,_,_,rfl,rfl,_,_,rfl,rfl,_,_,rfl,rfl,.inr ⟨by decide,by decide⟩,_,_,rfl,rfl,(by show(0:Int) < 2147483647;decide),_,rfl,_,rfl,_,_,rfl,rfl,⟨by decide,by decide⟩,_,_,rfl,rfl,_,_,rfl,rfl,.inl ⟨by omega,by omega⟩,_,_,rfl,rfl,(by show(0:Int) < 2147483647;decide),q⟩
section
variable {P:Program} {w:World} {K:W.Frag} {mg:Str→Option Value} {base:Heap} {f fM fW:Addr} {fd dM dW:FuncData}
def zfZ:Sp:=fun vs H Q _=>∃ c n:Int,vs=[.int c,.int n]∧0≤n∧n≤8∧∀(H':Hp) (z:Str),aj H H'→z.length≤9→Q (.str z) H'
theorem zbV:zap ["_law_cell","_law_size","_law_some","_law_word_here","_law_k"] ["_law_cell","_law_size"] (ai zce):=⟨rfl,rfl,rfl,by decide +kernel,rfl,by decide +kernel,by decide +kernel⟩
theorem zjz (F:Fun K "_law_word" "_law_word" zce f fd) (T:Txt K mg) (B_law_mixed:FB P w K mg base CX0 1 "_law_mixed" fM dM ["_law_cell","_law_k"] zbQ):zay P w K mg base CX0 2 f fd ["_law_cell","_law_size"] zfZ:=by
 refine F.ok zbV (fun vs H Q E h=>?_) (fun cdv A outer s H vs Q E hr h=>?_)
 ·obtain⟨c,n,rfl,_⟩:=h
  rfl
 obtain⟨c,n,rfl,h0,h8,q⟩:=h
 refine⟨_,(af (aq (i:=2) zbV.nd rfl (Or.inl rfl) zaV)
  (af (aq (i:=3) zbV.nd rfl (Or.inl rfl) zaV)
  (af (zbe PassesOwn.never rfl (zbJ rfl T.range (aa (pv 1) ac)) (zan (i:=4) zbV.nd rfl (Or.inl rfl))
   (ak (aq (i:=3) zbV.nd rfl (Or.inl rfl) (ao zcK (pv 3) (ar zhW (pv 2) (ao zak (ao zar (zac B_law_mixed.ok hr rfl B_law_mixed.m B_law_mixed.kp B_law_mixed.b .nil ay (aa (pv 0) (aa (pv 4) ac))) ag) ag) (fun _ _=>rfl))))))
  (af (zaA (zag zeH (pv 3) (zaN (aa zaV (aa zaV (aa zaV (aa zaV (aa zaV (aa zaV (aa zaV (aa zaV ac))))))))) rfl)
   (ak (aq (i:=3) zbV.nd rfl (Or.inl rfl) (ao zcK (pv 3) zaV)))
   zaq)
  (ak (zaj (pv 3))))))),?_⟩
 refine⟨_,rfl,n,rfl,by omega,by omega,zck (lo:=0) (n:=n.toNat) (fun i σ H'=>H'=H∧∃(y:Str) (k:Option V),σ=[some (.int c),some (.int n),some (.str zfh),some (.str y),k]∧y.length=i)
  ⟨rfl,"",none,rfl,by decide +kernel⟩ ?_ ?_⟩
 ·rintro i σ H' hi ⟨rfl,y,k,rfl,hy⟩
  have m:=za3 (zbB c (0+(i:Int)) / 31) (show(0:Int) < 26 by decide)
  obtain⟨ch,hch⟩:=zgB (xs:=zfh.cps.toList) m.1 (by rw[zgQ];exact m.2)
  refine⟨_,rfl,_,rfl,_,rfl,_,rfl,c,_,rfl,_,_,rfl,rfl,⟨by decide,by decide⟩,_,_,rfl,rfl,(by show(0:Int) < 26;decide),zfh,_,ch,rfl,rfl,szS (by decide +kernel),hch,y,_,rfl,rfl,szS (by rw[zdB];omega),rfl,_,_,rfl,?_⟩
  rw[zdE,zdB,hy]
 ·rintro σ H' ⟨rfl,y,k,rfl,hy⟩
  refine⟨_,rfl,(by show 8≤sizeLine;decide),fun p hp=>?_⟩
  have s1:aj H' (upd H' p (.tup [.str "or",.str "and",.str "not",.str "never",.str "always",.str "then",.str "as",.str "unlike"])):=ah hp _
  refine⟨p,_,rfl,.inr (SqT.of ae),rfl,rfl,_,rfl,zbN (fun _=>?_) (fun _=>?_)⟩
  ·refine⟨_,rfl,y,"x",rfl,rfl,szS (by rw[show("x":Str).length=1 by decide +kernel];omega),_,rfl,q _ _ s1 ?_⟩
   rw[zdE,show("x":Str).length=1 by decide +kernel]
   omega
  ·exact⟨_,rfl,q _ _ s1 (by omega)⟩
def zfn:Sp:=fun vs H Q _=>∃ c:Int,vs=[.int c]∧∀(H':Hp) (l:Addr) (zs:List Str),aj H H'→H l=none→H' l=some (.lst (zs.map V.str))→zs.length=4→Q (.ref l) H'
theorem zaR:zap ["_law_cell","_law_some","_law_size","_law_place","_law_names_here","_law_k","_law_word_here","_law_letter"] ["_law_cell"] (ai zbY):=⟨rfl,rfl,rfl,by decide +kernel,rfl,by decide +kernel,by decide +kernel⟩
theorem ziP (F:Fun K "_law_names" "_law_names" zbY f fd) (T:Txt K mg) (B_law_word:FB P w K mg base CX0 2 "_law_word" fW dW ["_law_cell","_law_size"] zfZ):zay P w K mg base CX0 3 f fd ["_law_cell"] zfn:=by
 refine F.ok zaR (fun vs H Q E h=>?_) (fun cdv A outer s H vs Q E hr h=>?_)
 ·obtain⟨c,rfl,_⟩:=h
  rfl
 obtain⟨c,rfl,q⟩:=h
 refine⟨_,(af (aq (i:=1) zaR.nd rfl (Or.inl rfl) zaV)
  (af (aq (i:=2) zaR.nd rfl (Or.inl rfl) (ao zbf ag (ao zak (pv 0) ag)))
  (af (aq (i:=3) zaR.nd rfl (Or.inl rfl) (ao zak (ao zar (pv 0) ag) (pv 2)))
  (af (aq (i:=4) zaR.nd rfl (Or.inl rfl) (zaF ac))
  (af (zbe PassesOwn.never rfl (zbJ rfl T.range (aa ag ac)) (zan (i:=5) zaR.nd rfl (Or.inl rfl))
   (af (aq (i:=6) zaR.nd rfl (Or.inl rfl) (zac B_law_word.ok hr rfl B_law_word.m B_law_word.kp B_law_word.b .nil ay (aa (ao zar (pv 0) ag) (aa (pv 2) ac))))
    (af (zaA (zag zbk (ao zak (ao zar (pv 0) ag) ag) ag (zas _))
     (af (aq (i:=7) zaR.nd rfl (Or.inl rfl) (ar zhW (pv 1) (ao zak (ao zbf (ao zar (pv 0) ag) (ao zdq ag (pv 5))) ag) (fun _ _=>rfl)))
      (ak (aq (i:=6) zaR.nd rfl (Or.inl rfl) (ao zcK (ao zcK (zcQ zhL (pv 6) zdk (zdj (pv 3))) (pv 7)) (zcQ zhL (pv 6) (zdj (ao zbf (pv 3) ag)) zdk)))))
     (ak (aq (i:=6) zaR.nd rfl (Or.inl rfl) (zac B_law_word.ok hr rfl B_law_word.m B_law_word.kp B_law_word.b .nil ay (aa (ao zbf (ao zar (pv 0) ag) (ao zdq ag (pv 5))) (aa (ao zbf ag (ao zak (ao zbf (ao zar (pv 0) ag) (pv 5)) ag)) ac))))))
    (af (zaA (zag zeH (pv 6) (zaN (aa zaV (aa zaV (aa zaV (aa zaV (aa zaV (aa zaV (aa zaV (aa zaV ac))))))))) rfl)
     (ak (aq (i:=6) zaR.nd rfl (Or.inl rfl) (ao zcK (pv 6) zaV)))
     zaq)
    (ak (zaZ (zb4 PySem.F.plainAttrs_list PySem.F.slot_list_append PySem.F.type_list_append zaH (pv 4) (aa (pv 6) ac))))))))
  (ak (zaj (pv 4)))))))),?_⟩
 have b8:=za3 c (show(0:Int) < 8 by decide)
 refine⟨_,rfl,_,_,rfl,rfl,(by show(0:Int) < 8;decide),_,_,rfl,rfl,_,rfl,_,_,rfl,rfl,⟨by decide,by decide⟩,_,rfl,_,_,rfl,rfl,(by show(0:Int) < 1+c % 8;omega),lS0,fun l hl=>?_⟩
 have s1:aj H (upd H l (.lst [])):=ah hl _
 have n1:=ae (H:=H) (a:=l) (o:=.lst [])
 generalize upd H l (.lst [])=H1 at s1 n1
 refine⟨4,rfl,by decide,by decide,zck (lo:=0) (n:=4) (fun i σ H'=>∃(v5 v6 v7:Option V) (zs:List Str),σ=[some (.int c),some (.str zfh),some (.int (1+c % 8)),some (.int (c / 8 % (1+c % 8))),some (.ref l),v5,v6,v7]∧aj H H'∧H' l=some (.lst (zs.map V.str))∧zs.length=i) ⟨none,none,none,[],rfl,s1,n1,rfl⟩ ?_ ?_⟩
 ·rintro i σ H2 hi ⟨v5,v6,v7,zs,rfl,s2,hl2,zl⟩
  refine⟨_,rfl,_,_,rfl,rfl,⟨by decide,by decide⟩,_,rfl,_,_,rfl,by omega,by omega,fun H3 z s3 z9=>?_⟩
  refine⟨_,rfl,_,_,rfl,rfl,⟨by decide,by decide⟩,_,_,rfl,rfl,(by show(0:Int) < 2;decide),rfl,_,rfl,zbN (fun _=>?_) (fun _=>?_)⟩
  ·have m:=za3 (c / 128+5 * (0+(i:Int))) (show(0:Int) < 26 by decide)
   obtain⟨ch,hch⟩:=zgB (xs:=zfh.cps.toList) m.1 (by rw[zgQ];exact m.2)
   have c1:(Txt.slice z none (some (c / 8 % (1+c % 8)))).length≤9:=zhl z9
   have c2:(Txt.slice z (some (c / 8 % (1+c % 8)+1)) none).length≤9:=zhl z9
   refine⟨_,rfl,_,rfl,_,_,rfl,rfl,⟨by decide,by decide⟩,_,rfl,_,_,rfl,rfl,.inl ⟨by decide,by decide⟩,_,_,rfl,rfl,_,_,rfl,rfl,(by show(0:Int) < 26;decide),zfh,_,ch,rfl,rfl,szS (by decide +kernel),hch,?_⟩
   refine⟨_,rfl,_,rfl,_,rfl,z,rfl,szS (by omega),_,rfl,_,_,rfl,rfl,szS (by rw[zdB];omega),_,rfl,_,rfl,_,_,rfl,rfl,_,rfl,z,rfl,szS (by omega),_,_,rfl,rfl,szS (by rw[zdE,zdB];omega),?_⟩
   have yl:(Txt.slice z none (some (c / 8 % (1+c % 8)))++(⟨#[ch]⟩:Str)++Txt.slice z (some (c / 8 % (1+c % 8)+1)) none).length≤20:=by
    rw[zdE,zdE,zdB]
    omega
   refine⟨_,rfl,(by show 8≤sizeLine;decide),fun p hp=>?_⟩
   have s4:=s3.trans (ah hp (.tup [.str "or",.str "and",.str "not",.str "never",.str "always",.str "then",.str "as",.str "unlike"]))
   refine⟨p,_,rfl,.inr (SqT.of ae),rfl,rfl,_,rfl,zbN (fun _=>?_) (fun _=>?_)⟩
   ·refine⟨_,rfl,_,"x",rfl,rfl,szS (by rw[show("x":Str).length=1 by decide +kernel];omega),_,rfl,.inl ⟨rfl,_,SqL.of (s4 _ _ hl2)⟩,_,rfl,l,_,_,rfl,rfl,s4 _ _ hl2,zaU (by rw[List.length_map];omega),_,_,_,zs++[Txt.slice z none (some (c / 8 % (1+c % 8)))++(⟨#[ch]⟩:Str)++Txt.slice z (some (c / 8 % (1+c % 8)+1)) none++"x"],rfl,(s2.trans s4).upd hl,?_,by rw[List.length_append,zl];rfl⟩
    rw[List.map_append]
    exact ae
   ·refine⟨_,rfl,.inl ⟨rfl,_,SqL.of (s4 _ _ hl2)⟩,_,rfl,l,_,_,rfl,rfl,s4 _ _ hl2,zaU (by rw[List.length_map];omega),_,_,_,zs++[Txt.slice z none (some (c / 8 % (1+c % 8)))++(⟨#[ch]⟩:Str)++Txt.slice z (some (c / 8 % (1+c % 8)+1)) none],rfl,(s2.trans s4).upd hl,?_,by rw[List.length_append,zl];rfl⟩
    rw[List.map_append]
    exact ae
  ·have m:=za3 (c / 128+(0+(i:Int))) (show(0:Int) < 8 by decide)
   refine⟨_,rfl,_,_,rfl,rfl,⟨by decide,by decide⟩,_,rfl,_,_,rfl,rfl,.inl ⟨by decide,by decide⟩,_,_,rfl,rfl,_,rfl,_,_,rfl,rfl,⟨by decide,by decide⟩,_,rfl,_,_,rfl,rfl,_,_,rfl,rfl,(by show(0:Int) < 8;decide),_,_,rfl,rfl,_,_,rfl,by omega,by omega,fun H4 y s34 y9=>?_⟩
   refine⟨_,rfl,(by show 8≤sizeLine;decide),fun p hp=>?_⟩
   have s4:=(s3.trans s34).trans (ah hp (.tup [.str "or",.str "and",.str "not",.str "never",.str "always",.str "then",.str "as",.str "unlike"]))
   refine⟨p,_,rfl,.inr (SqT.of ae),rfl,rfl,_,rfl,zbN (fun _=>?_) (fun _=>?_)⟩
   ·refine⟨_,rfl,y,"x",rfl,rfl,szS (by rw[show("x":Str).length=1 by decide +kernel];omega),_,rfl,.inl ⟨rfl,_,SqL.of (s4 _ _ hl2)⟩,_,rfl,l,_,_,rfl,rfl,s4 _ _ hl2,zaU (by rw[List.length_map];omega),_,_,_,zs++[y++"x"],rfl,(s2.trans s4).upd hl,?_,by rw[List.length_append,zl];rfl⟩
    rw[List.map_append]
    exact ae
   ·refine⟨_,rfl,.inl ⟨rfl,_,SqL.of (s4 _ _ hl2)⟩,_,rfl,l,_,_,rfl,rfl,s4 _ _ hl2,zaU (by rw[List.length_map];omega),_,_,_,zs++[y],rfl,(s2.trans s4).upd hl,?_,by rw[List.length_append,zl];rfl⟩
    rw[List.map_append]
    exact ae
 ·rintro σ H2 ⟨v5,v6,v7,zs,rfl,s2,hl2,zl⟩
  exact⟨_,rfl,q H2 l zs s2 hl hl2 zl⟩
def zeq:Sp:=fun vs H Q _=>∃ c:Int,vs=[.int c]∧∀ m:Nat,m≤60→Q (.int (m:Int)) H
theorem zfW:zap ["_law_cell"] ["_law_cell"] (ai zbz):=⟨rfl,rfl,rfl,by decide +kernel,rfl,by decide +kernel,by decide +kernel⟩
theorem zhz (F:Fun K "_law_many_by" "_law_many_by" zbz f fd):zay P w K mg base CX0 1 f fd ["_law_cell"] zeq:=by
 refine F.ok zfW (fun vs H Q E h=>?_) (fun cdv A outer s H vs Q E hr h=>?_)
 ·obtain⟨c,rfl,_⟩:=h
  rfl
 obtain⟨c,rfl,q⟩:=h
 refine⟨_,(af (zaA (zag zbk (ao zak (ao zar (pv 0) ag) ag) ag (zas _))
   (ak (zaj (ao zbf ag (ao zak (ao zar (pv 0) ag) ag))))
   zaq)
  (ak (zaj (ao zak (pv 0) ag)))),?_⟩
 have b1:=za3 (c / 104) (show(0:Int) < 41 by decide)
 have b2:=za3 c (show(0:Int) < 13 by decide)
 have go:∀ m:Int,0≤m→m≤60→Q (.int m) H:=fun m m0 m1=>by
  have:=q m.toNat (by omega)
  rw[Int.toNat_of_nonneg m0]at this
  exact this
 refine⟨_,rfl,_,_,rfl,rfl,⟨by decide,by decide⟩,_,_,rfl,rfl,(by show(0:Int) < 8;decide),rfl,_,rfl,zbN (fun _=>?_) (fun _=>?_)⟩
 ·exact⟨_,rfl,_,_,rfl,rfl,⟨by decide,by decide⟩,_,_,rfl,rfl,(by show(0:Int) < 41;decide),_,_,rfl,rfl,go (20+c / 104 % 41) (by omega) (by omega)⟩
 ·exact⟨_,rfl,_,_,rfl,rfl,(by show(0:Int) < 13;decide),go (c % 13) b2.1 (by omega)⟩
end
end K14
namespace K14
open PySem L2
section
variable {P:Program} {w:World} {K:W.Frag} {mg:Str→Option Value} {base:Heap} {f fM fW fC fT:Addr} {fd dM dW dC dT':FuncData}
abbrev NTm:List Str:=["_law_cell","_law_names_here","_law_terms_here","_law_size","_law_parts","_law_turn","_law_far","_law_old","_law_name","_law_some"]
theorem za8:zap ["_law_cell","_law_names_here","_law_terms_here","_law_size","_law_parts","_law_turn","_law_far","_law_old","_law_name","_law_some"] ["_law_cell","_law_names_here","_law_terms_here","_law_size"] (ai za1):=⟨rfl,rfl,rfl,by decide +kernel,rfl,by decide +kernel,by decide +kernel⟩
theorem term7 (T:Txt K mg) {cdv:Value} {A:Around} {outer:List Env} {s:Shared} {H0:Hp} {E:XK} :
  ∃ t,PSs (zb2 CX0 P w K mg base NTm "_law_term" (ai za1) f cdv A outer s H0 E).nox ((zae za1).drop 7) t ∧
   ∀(D:zbO) (H:Hp) (pl:Addr) (z:Str) (ns:List Int) (v0 v1 v2 v3 v5 v6 v7 v9:Option V),H pl=some (.lst (ns.map V.int))→(∀(H':Hp) (p q:Addr),aj H H'→SqT K H' p [.str z,.ref q]→SqT K H' q (ns.map V.int)→D.rt (.ref p) H') →
    t D [v0,v1,v2,v3,some (.ref pl),v5,v6,v7,some (.str z),v9] H:=by
 refine⟨_,(ak (zaj (zaN (aa (pv 8) (aa (zaD zc8 rfl T.tuple PyProof.Rows.Boot.tuple (aa (pv 4) ac)) ac))))),?_⟩
 rintro D H pl z ns v0 v1 v2 v3 v5 v6 v7 v9 hpl q
 refine⟨_,rfl,_,rfl,pl,_,rfl,.inl ⟨SqL.of hpl,fun l hl=>?_⟩⟩
 have s1:aj H (upd H l (.tup (ns.map V.int))):=ah hl _
 have n1:=ae (H:=H) (a:=l) (o:=.tup (ns.map V.int))
 generalize upd H l (.tup (ns.map V.int))=H1 at s1 n1
 refine⟨lS2,fun p hp=>?_⟩
 have s2:aj H1 (upd H1 p (.tup [.str z,.ref l])):=ah hp _
 exact q _ p l (s1.trans s2) (SqT.of ae) (SqT.of (s2 _ _ n1))
set_option maxHeartbeats 1000000 in
theorem term4 (T:Txt K mg) (B_law_mixed:FB P w K mg base CX0 1 "_law_mixed" fM dM ["_law_cell","_law_k"] zbQ) {cdv:Value} {A:Around} {outer:List Env} {s:Shared} {H0:Hp} {E:XK} (hr:zaE 1 (A.deeper (PyProof.Rows.envOfC "_law_term" (ai za1) s.heap.objs.size f cdv))) :
  ∃ t,PSs (zb2 CX0 P w K mg base NTm "_law_term" (ai za1) f cdv A outer s H0 E).nox ((zae za1).drop 4) t ∧
   ∀(D:zbO) (H:Hp) (c:Int) (tl ol:Addr) (xs ys:List V) (os:List Tm) (zs:List Str) (v1 v3 v4 v5 v6 v8 v9:Option V),SqL K H tl xs→1≤xs.length→H ol=some (.lst ys)→ad K H (os.map dTm) ys→os≠[]→(∀ o∈os,zdl zs xs.length o∧o.2≠[])→(∀(H':Hp) (p q:Addr) (t:Tm),aj H H'→SqT K H' p [.str t.1,.ref q]→SqT K H' q (t.2.map V.int)→zdl zs xs.length t→D.rt (.ref p) H') →
    t D [some (.int c),v1,some (.ref tl),v3,v4,v5,v6,some (.ref ol),v8,v9] H:=by
 obtain⟨t7,h7,q7⟩:=term7 (P:=P) (w:=w) (base:=base) (f:=f) (cdv:=cdv) (A:=A) (outer:=outer) (s:=s) (H0:=H0) (E:=E) T
 refine⟨_,(af (zfF (ar zah (pv 7) (ao zak (ao zar (pv 0) ag) (zab zaa rfl T.len PySem.boot_len (aa (pv 7) ac))) (fun _ _=>rfl)) (zdp rfl (zaM (zan (i:=8) za8.nd rfl (Or.inl rfl)) (zaM (zan (i:=9) za8.nd rfl (Or.inl rfl)) zcb))))
  (af (aq (i:=4) za8.nd rfl (Or.inl rfl) (zaD zbb rfl T.list PyProof.Rows.Boot.list (aa (zjt (pv 9) (zeh zdm ag)) ac)))
  (af (zaA (zag zeN (ao zak (pv 0) ag) ag (zas _))
   (af (aq (i:=4) za8.nd rfl (Or.inl rfl) (zaD zbb rfl T.list PyProof.Rows.Boot.list (aa (pv 9) ac)))
    (ak (zfF (ao zak (zac B_law_mixed.ok hr rfl B_law_mixed.m B_law_mixed.kp B_law_mixed.b .nil ay (aa (pv 0) (aa ag ac))) (zab zaa rfl T.len PySem.boot_len (aa (pv 2) ac))) (pg_sub (pv 4) (ao zak (ao zar (pv 0) ag) (zab zaa rfl T.len PySem.boot_len (aa (pv 4) ac))) ziB))))
   zaq) h7))),?_⟩
 rintro D H c tl ol xs ys os zs v1 v3 v4 v5 v6 v8 v9 hT x1 hol has one hos q
 have yl:ys.length=os.length:=by rw[←has.length,List.length_map]
 have ol1:0 < os.length:=List.length_pos_iff.mpr one
 have m:=za3 (c / 64) (show(0:Int) < ((ys.length:Nat):Int) by omega)
 obtain⟨v,hv,hvm⟩:=zfL (xs:=ys) m.1 m.2
 obtain⟨o,p,pq,ho,rfl,hp,hpq⟩:=zgL has hvm
 obtain⟨oin,one'⟩:=hos o ho
 refine⟨_,rfl,_,rfl,_,_,rfl,rfl,⟨by decide,by decide⟩,_,rfl,ol,_,rfl,.inl (SqL.of hol),_,_,rfl,rfl,(by omega),ol,_,_,_,rfl,rfl,SqL.of hol,hv,?_⟩
 refine⟨p,_,rfl,hp,rfl,_,_,rfl,_,_,rfl,rfl,?_⟩
 refine⟨_,rfl,_,rfl,rfl,pq,_,rfl,hpq,fun r hr'=>?_⟩
 have s1:aj H (upd H r (.tup (o.2.map V.int).reverse)):=ah hr' _
 have n1:=ae (H:=H) (a:=r) (o:=.tup (o.2.map V.int).reverse)
 generalize upd H r (.tup (o.2.map V.int).reverse)=H1 at s1 n1
 refine⟨r,_,rfl,.inr (SqT.of n1),fun l hl=>?_⟩
 have s2:aj H1 (upd H1 l (.lst (o.2.map V.int).reverse)):=ah hl _
 have n2:(upd H1 l (.lst (o.2.map V.int).reverse)) l=some (.lst (o.2.reverse.map V.int)):=by rw[ae,List.map_reverse]
 generalize upd H1 l (.lst (o.2.map V.int).reverse)=H2 at s2 n2
 have s02:=s1.trans s2
 have m3:=za3 c (show(0:Int) < 3 by decide)
 refine⟨_,rfl,_,_,rfl,rfl,(by show(0:Int) < 3;decide),_,_,rfl,rfl,_,rfl,zbN (fun _=>?_) (fun _=>?_)⟩
 ·refine⟨_,rfl,pq,_,rfl,.inr (s02.tup hpq),fun k hk=>?_⟩
  have s3:aj H2 (upd H2 k (.lst (o.2.map V.int))):=ah hk _
  have n3:=ae (H:=H2) (a:=k) (o:=.lst (o.2.map V.int))
  have hk0:=s02.free hk
  generalize upd H2 k (.lst (o.2.map V.int))=H3 at s3 n3
  have s03:=s02.trans s3
  have ol2:0 < (o.2.map V.int).length:=by rw[List.length_map];exact List.length_pos_iff.mpr one'
  have mi:=za3 (c / 3) (show(0:Int) < (((o.2.map V.int).length:Nat):Int) by omega)
  have mx:=za3 (zbB c 9) (show(0:Int) < ((xs.length:Nat):Int) by omega)
  obtain⟨j,hj,hj2⟩:=ixN_in mi.1 mi.2
  refine⟨_,rfl,c,9,rfl,_,rfl,tl,_,rfl,.inl (s03.seq hT),_,_,rfl,rfl,(by omega),_,rfl,_,rfl,_,_,rfl,rfl,⟨by decide,by decide⟩,_,rfl,k,_,rfl,.inl (SqL.of n3),_,_,rfl,rfl,(by omega),k,_,_,j,rfl,rfl,n3,hj,?_⟩
  have e:(o.2.map V.int).set j (.int (zbB c 9 % ((xs.length:Nat):Int)))=(o.2.set j (zbB c 9 % ((xs.length:Nat):Int))).map V.int:=(List.map_set).symm
  refine q7 D _ k o.1 (o.2.set j (zbB c 9 % ((xs.length:Nat):Int))) _ _ _ _ _ _ _ _ (by rw[ae];exact congrArg (fun z=>some (HO.lst z)) e) fun H' p' q' s' h1 h2=>q H' p' q' (o.1,o.2.set j (zbB c 9 % ((xs.length:Nat):Int))) ((s03.upd hk0).trans s') h1 h2 ⟨oin.1,by show(o.2.set j _).length≤3;rw[List.length_set];exact oin.2.1,fun x hx=>?_⟩
  rcases List.mem_or_eq_of_mem_set hx with hx | hx
  ·exact oin.2.2 x hx
  ·rw[hx];exact mx
 ·exact q7 D _ l o.1 o.2.reverse _ _ _ _ _ _ _ _ n2 fun H' p' q' s' h1 h2=>q H' p' q' (o.1,o.2.reverse) (s02.trans s') h1 h2 ⟨oin.1,by show o.2.reverse.length≤3;rw[List.length_reverse];exact oin.2.1,fun x hx=>oin.2.2 x (List.mem_reverse.mp hx)⟩
def zf1 (K:W.Frag):Sp:=fun vs H Q _=>∃(c sz:Int) (nl tl:Addr) (zs:List Str) (xs:List V) (ts:List Tm),vs=[.int c,.ref nl,.ref tl,.int sz]∧SqL K H nl (zs.map V.str)∧zs.length=4∧SqL K H tl xs∧ad K H (ts.map dTm) xs∧TmW zs ts∧ts.length≤60∧0≤sz∧sz≤3 ∧
 ∀(H':Hp) (p q:Addr) (t:Tm),aj H H'→SqT K H' p [.str t.1,.ref q]→SqT K H' q (t.2.map V.int)→zdl zs ts.length t→Q (.ref p) H'
set_option maxHeartbeats 1000000 in
theorem zjD (F:Fun K "_law_term" "_law_term" za1 f fd) (T:Txt K mg) (B_law_mixed:FB P w K mg base CX0 1 "_law_mixed" fM dM ["_law_cell","_law_k"] zbQ):zay P w K mg base CX0 2 f fd ["_law_cell","_law_names_here","_law_terms_here","_law_size"] (zf1 K):=by
 refine F.ok za8 (fun vs H Q E h=>?_) (fun cdv A outer s H vs Q E hr h=>?_)
 ·obtain⟨c,sz,nl,tl,zs,xs,ts,rfl,_⟩:=h
  rfl
 obtain⟨c,sz,nl,tl,zs,xs,ts,rfl,hN,z4,hT,hL,hW,t60,sz0,sz3,q⟩:=h
 have hu:=zbT hr
 have xl:xs.length=ts.length:=by rw[←hL.length,List.length_map]
 obtain⟨t4,h4,q4⟩:=term4 (f:=f) (outer:=outer) (H0:=H) (E:=E) T B_law_mixed hr
 refine⟨_,(af (aq (i:=4) za8.nd rfl (Or.inl rfl) (zaF ac))
  (af (zbe PassesOwn.never rfl (zbJ rfl T.range (aa (ao zdq (pv 3) (zaD zdQ rfl T.int PyProof.Rows.Boot.int (aa (zcD (zc2 hu) (pv 2) (zaF ac) rfl) ac))) ac)) (zan (i:=5) za8.nd rfl (Or.inl rfl))
   (af (aq (i:=6) za8.nd rfl (Or.inl rfl) (zac B_law_mixed.ok hr rfl B_law_mixed.m B_law_mixed.kp B_law_mixed.b .nil ay (aa (pv 0) (aa (ao zbf ag (pv 5)) ac))))
    (ak (zaZ (zb4 PySem.F.plainAttrs_list PySem.F.slot_list_append PySem.F.type_list_append zaH (pv 4) (aa (ao zgy (ao zgy (zab zaa rfl T.len PySem.boot_len (aa (pv 2) ac)) ag) (ao zak (ao zar (pv 6) ag) (ar zah (zaF (aa (zab zaa rfl T.len PySem.boot_len (aa (pv 2) ac)) (aa (zab (zeK rfl) rfl T.min PyProof.Rows.Boot.min (aa ag (aa (zab zaa rfl T.len PySem.boot_len (aa (pv 2) ac)) ac))) ac))) (ao zak (pv 6) ag) (fun _ _=>rfl)))) ac))))))
  (af (zdM (i:=7) (N':=["_law_term_here"]) (ix:=[]) za8.nd rfl (Or.inl rfl) rfl rfl (by decide +kernel) (by decide +kernel) rfl (fun _=>⟨[],zeo (by decide +kernel) (by decide +kernel)⟩) (by decide +kernel) rfl rfl (fun j i h=>by simp at h) (zbw (pv 2)) (fun _ _ _ _=>(zag (r:=rNeD K) (zc2 hu) (ar (r:=zfg K) zal (pv 0) ag (fun _ _=>rfl)) (zaN ac) rfl)) (fun _ _ _ _=>(pv 0)))
  (af (zaA (PW.pt (zeg (zag (zfI hu) (pv 7) (zaF ac) rfl) (zd0 (zag zbk (ao zak (ao zar (pv 0) ag) ag) ag (zas _)))))
   (ak (zaj (zaN (aa (ar zah (pv 1) (ao zak (pv 0) ag) (fun _ _=>rfl)) (aa (zaD zc8 rfl T.tuple PyProof.Rows.Boot.tuple (aa (pv 4) ac)) ac)))))
   zaq) h4)))),?_⟩
 refine⟨lS0,fun pl hpl=>?_⟩
 have s1:aj H (upd H pl (.lst [])):=ah hpl _
 have n1:=ae (H:=H) (a:=pl) (o:=.lst [])
 generalize upd H pl (.lst [])=H1 at s1 n1
 refine⟨_,rfl,_,rfl,lS0,fun el hel=>?_⟩
 have s2:aj H1 (upd H1 el (.lst [])):=ah hel _
 have n2:=ae (H:=H1) (a:=el) (o:=.lst [])
 generalize upd H1 el (.lst [])=H2 at s2 n2
 have s12:=s1.trans s2
 have d2:=zcR ts
 refine⟨.lst (ts.map dTm),.lst [],Has.lst' (s12.seq hT) (ad.keep s12.kt (zaf _) hL),Has.lst' (SqL.of n2) ad.nil,(by simp only[dep,za0];omega),.inr ⟨_,rfl,_,_,rfl,rfl,.inl ⟨by omega,by omega⟩,?_⟩⟩
 rw[ze2]
 obtain⟨k,hk,k0⟩:∃ k:Nat,sz * (if(!(ts.map dTm).isEmpty)=true then(1:Int) else 0)=(k:Int)∧(0 < k→1≤ts.length)∧k≤3:=by
  cases ts with
  | nil=>exact⟨0,by simp,fun z=>absurd z (Nat.lt_irrefl _),by omega⟩
  | cons t ts'=>exact⟨sz.toNat,by simp;omega,fun _=>by simp,by omega⟩
 refine⟨(k:Int),congrArg (fun z=>[V.int z]) hk,by omega,by omega,zck (lo:=0) (n:=((k:Int)).toNat) (fun i σ H'=>∃(v5 v6:Option V) (ns:List Int),σ=[some (.int c),some (.ref nl),some (.ref tl),some (.int sz),some (.ref pl),v5,v6,none,none,none]∧aj H H'∧H' pl=some (.lst (ns.map V.int))∧ns.length=i∧∀ x∈ns,0≤x∧x < (ts.length:Int)) ⟨none,none,[],rfl,s12,s2 _ _ n1,rfl,fun x hx=>nomatch hx⟩ ?_ ?_⟩
 ·rintro i σ H3 hi ⟨v5,v6,ns,rfl,s3,hp3,nl3,hb⟩
  have k1:1≤ts.length:=k0.1 (by omega)
  have hT3:=s3.seq hT
  refine⟨_,rfl,_,rfl,_,_,rfl,rfl,c,_,rfl,?_⟩
  obtain⟨d,hd,d1,d2⟩:∃ d:Int,atI [V.int ((xs.length:Nat):Int),V.int (loF 3 ((xs.length:Nat):Int))] (zbB c (5+(0+(i:Int))) % 2)=some (.int d)∧1≤d∧d≤((xs.length:Nat):Int):=by
   rcases two_at (V.int ((xs.length:Nat):Int)) (V.int (loF 3 ((xs.length:Nat):Int))) (zbB c (5+(0+(i:Int)))) with ⟨_,e⟩ | ⟨_,e⟩
   ·exact⟨_,e,by omega,Int.le_refl _⟩
   ·refine⟨_,e,?_⟩
    unfold loF
    split <;> omega
  have md:=za3 (zbB c (5+(0+(i:Int))) / 2) (show(0:Int) < d by omega)
  refine⟨_,rfl,.inl ⟨rfl,_,SqL.of hp3⟩,_,rfl,tl,_,rfl,.inl hT3,_,_,rfl,rfl,_,rfl,_,_,rfl,rfl,⟨by decide,by decide⟩,_,rfl,tl,_,rfl,.inl hT3,_,rfl,tl,_,rfl,.inl hT3,_,_,rfl,lS2,fun dl hdl=>?_⟩
  have s4:aj H3 (upd H3 dl (.lst [V.int ((xs.length:Nat):Int),V.int (loF 3 ((xs.length:Nat):Int))])):=ah hdl _
  refine⟨_,rfl,_,_,rfl,rfl,(by show(0:Int) < 2;decide),dl,_,_,_,rfl,rfl,SqL.of ae,hd,_,_,rfl,rfl,(by omega),_,_,rfl,rfl,pl,_,_,rfl,rfl,s4 _ _ hp3,zaU (by rw[List.length_map];omega),_,_,ns++[((xs.length:Nat):Int) - 1 - zbB c (5+(0+(i:Int))) / 2 % d],rfl,(s3.trans s4).upd hpl,?_,by rw[List.length_append,nl3];rfl,fun x hx=>?_⟩
  ·rw[List.map_append]
   exact ae
  ·rcases List.mem_append.mp hx with hx | hx
   ·exact hb x hx
   ·rw[List.mem_singleton.mp hx]
    omega
 rintro σ H3 ⟨v5,v6,ns,rfl,s3,hp3,nl3,hb⟩
 have hT3:=s3.seq hT
 have hL3:=ad.keep s3.kt (zaf _) hL
 refine⟨_,rfl,tl,rfl,⟨_,hT3⟩,fun D hD=>zfK zbv (fun i ys H'=>aj H3 H'∧∃ os:List Tm,ad K H' (os.map dTm) ys∧∀ o∈os,o∈ts∧o.2≠[]) (fun i ys H' ⟨s4,_⟩=>s4.seq hT3) ⟨ah hD _,[],ad.nil,fun o ho=>nomatch ho⟩ ?_ ?_⟩
 ·rintro i ys H9 x H4 hi hly hDs ⟨s4,os,ho,hos⟩ ⟨rfl,hx⟩
  obtain⟨t,p,pq,ht,rfl,hp,hpq⟩:=zdJ hL3 (hx _ (s4.seq hT3))
  have a1:atI [V.str t.1,V.ref pq] 1=some (.ref pq):=zad (j:=1) rfl
  refine⟨_,rfl,p,_,_,_,rfl,rfl,s4.tup hp,a1,lS0,fun e he=>?_⟩
  have s5:aj H4 (upd H4 e (.tup [])):=ah he _
  have n5:=ae (H:=H4) (a:=e) (o:=.tup [])
  have hD5:=s5 _ _ hDs
  generalize upd H4 e (.tup [])=H5 at s5 n5 hD5
  have s35:=s4.trans s5
  refine⟨.tup (t.2.map Dt.int),.tup [],Has.tup' (s35.tup hpq) (ad.ints _),Has.tup' (SqT.of n5) ad.nil,(by simp only[dep,zen];decide),_,rfl,?_⟩
  rw[ziI]
  have ho5:=ad.keep s5.kt (zaf _) ho
  cases e2:t.2 with
  | nil=>exact zax (zcE hi hly hD5 ⟨s35,os,ho5,hos⟩)
  | cons a r =>
   have kt:=zam.lst (ys:=ys++[.ref p]) hD5
   refine zaQ ⟨_,rfl,zbC (bsz _ (by omega)) hi hly hD5 ⟨s35.upd hD,os++[t],?_,fun o ho'=>?_⟩⟩
   ·rw[List.map_append]
    exact ad.append (ad.keep kt (zaf _) ho5) (ad.one (zd1 (kt.sq (s35.tup hp)) (kt.sq (s35.tup hpq))))
   ·rcases List.mem_append.mp ho' with ho' | ho'
    ·exact hos o ho'
    ·cases List.mem_singleton.mp ho'
     exact⟨List.mem_of_getElem? ht,by rw[e2];exact List.cons_ne_nil _ _⟩
 rintro ys H4 hDs ⟨s4,os,ho,hos⟩
 have s04:=s3.trans s4
 have hp4:=s4 _ _ hp3
 refine⟨_,rfl,lS0,fun el2 hel2=>?_⟩
 have s5:aj H4 (upd H4 el2 (.lst [])):=ah hel2 _
 have n5:=ae (H:=H4) (a:=el2) (o:=.lst [])
 have hD5:=s5 _ _ hDs
 have hp5:=s5 _ _ hp4
 have ho5:=ad.keep s5.kt (zaf _) ho
 generalize upd H4 el2 (.lst [])=H5 at s5 n5 hD5 hp5 ho5
 have s05:=s04.trans s5
 have d3:=zcR os
 have yl:ys.length=os.length:=by rw[←ho5.length,List.length_map]
 refine⟨.lst (os.map dTm),.lst [],Has.lst' (SqL.of hD5) ho5,Has.lst' (SqL.of n5) ad.nil,(by simp only[dep,za0];omega),_,rfl,?_⟩
 rw[ze2]
 have m4:=za3 c (show(0:Int) < 4 by decide)
 obtain⟨zv,hz,hzm⟩:=zfL (xs:=zs.map V.str) m4.1 (by rw[List.length_map,z4];exact m4.2)
 obtain⟨z,hzz,rfl⟩:=List.mem_map.mp hzm
 have ret:∀ l p,H5 l=none→(upd H5 l (.tup (ns.map V.int))) p=none→Q (.ref p) (upd (upd H5 l (.tup (ns.map V.int))) p (.tup [.str z,.ref l])):=fun l p hl hp=>by
  have s6:aj H5 (upd H5 l (.tup (ns.map V.int))):=ah hl _
  have n6:=ae (H:=H5) (a:=l) (o:=.tup (ns.map V.int))
  have s7:=ah hp (.tup [.str z,.ref l])
  exact q _ p l (z,ns) ((s05.trans s6).trans s7) (SqT.of ae) (SqT.of (s7 _ _ n6)) ⟨hzz,by show ns.length≤3;rw[nl3];omega,hb⟩
 cases eo:os with
 | nil=>exact zaQ (zaQ ⟨_,rfl,_,rfl,_,_,rfl,rfl,(by show(0:Int) < 4;decide),nl,_,_,_,rfl,rfl,s05.seq hN,hz,_,rfl,pl,_,rfl,.inl ⟨SqL.of hp5,fun l hl=>⟨lS2,fun p hp=>ret l p hl hp⟩⟩⟩)
 | cons o1 os' =>
  refine zax ⟨_,rfl,_,_,rfl,rfl,⟨by decide,by decide⟩,_,_,rfl,rfl,(by show(0:Int) < 2;decide),rfl,_,rfl,zbN (fun _=>?_) (fun _=>?_)⟩
  ·exact⟨_,rfl,_,rfl,_,_,rfl,rfl,(by show(0:Int) < 4;decide),nl,_,_,_,rfl,rfl,s05.seq hN,hz,_,rfl,pl,_,rfl,.inl ⟨SqL.of hp5,fun l hl=>⟨lS2,fun p hp=>ret l p hl hp⟩⟩⟩
  ·refine q4 _ H5 c tl D xs ys os zs _ _ _ _ _ _ _ (s05.seq hT) ?_ hD5 ho5 (by rw[eo];exact List.cons_ne_nil _ _) (fun o ho'=>⟨by rw[xl];exact hW.all (hos o ho').1,(hos o ho').2⟩) fun H' p' q' t s' h1 h2 h3=>q H' p' q' t (s05.trans s') h1 h2 (by rw[←xl];exact h3)
   rw[xl]
   exact List.length_pos_of_mem (hos o1 (by rw[eo];exact List.mem_cons_self)).1
end
end K14
namespace K14
open PySem L2
section
variable {P:Program} {w:World} {K:W.Frag} {mg:Str→Option Value} {base:Heap} {f fM fC fT:Addr} {fd dM dC dT':FuncData}
def zeU (K:W.Frag):Sp:=fun vs H Q _=>∃(tl:Addr) (mix:Int) (xs:List V) (ts:List Tm) (zs:List Str),vs=[.ref tl,.int mix]∧SqL K H tl xs∧ad K H (ts.map dTm) xs∧TmW zs ts∧1≤ts.length∧ts.length≤60 ∧
 ∀(H':Hp) (p:Addr) (x y:Int),aj H H'→SqT K H' p [.int x,.int y]→(0≤x∧x < (ts.length:Int))→(0≤y∧y < (ts.length:Int))→Q (.ref p) H'
abbrev NTw:List Str:=["_law_terms_here","_law_mix","_law_one","_law_some","_law_other","_law_pairs"]
theorem zbj:zap ["_law_terms_here","_law_mix","_law_one","_law_some","_law_other","_law_pairs"] ["_law_terms_here","_law_mix"] (ai zaJ):=⟨rfl,rfl,rfl,by decide +kernel,rfl,by decide +kernel,by decide +kernel⟩
set_option maxHeartbeats 1000000 in
theorem twin3 (T:Txt K mg) {cdv:Value} {A:Around} {outer:List Env} {s:Shared} {H0:Hp} {E:XK} (hu:(A.deeper (PyProof.Rows.envOfC "_law_twin_parts" (ai zaJ) s.heap.objs.size f cdv)).units+64 < cLine) :
  ∃ t,PSs (zb2 CX0 P w K mg base NTw "_law_twin_parts" (ai zaJ) f cdv A outer s H0 E).nox ((zae zaJ).drop 3) t ∧
   ∀(D:zbO) (H:Hp) (tl po qo:Addr) (mix one:Int) (xs:List V) (ts:List Tm) (t1 ot:Tm) (v3:Option V),SqL K H tl xs→ad K H (ts.map dTm) xs→ts.length≤60→0≤one→one < (ts.length:Int)→ts[one.toNat]?=some t1→SqT K H po [.str ot.1,.ref qo]→SqT K H qo (ot.2.map V.int)→ot.2.length=t1.2.length→t1.2.length≤3→(∀ x∈t1.2,0≤x∧x < (ts.length:Int))→(∀ x∈ot.2,0≤x∧x < (ts.length:Int)) →
    (∀(H':Hp) (p:Addr) (x y:Int),aj H H'→SqT K H' p [.int x,.int y]→(0≤x∧x < (ts.length:Int))→(0≤y∧y < (ts.length:Int))→D.rt (.ref p) H') →
    t D [some (.ref tl),some (.int mix),some (.int one),v3,some (.ref po),none] H:=by
 refine⟨_,(af (zfO (i:=5) (N':=["_law_a","_law_b"]) (L:=2) (ix:=[]) zbj.nd rfl (Or.inl rfl) rfl rfl (by decide +kernel) (by decide +kernel) (fun _=>⟨[],zeo (by decide +kernel) (by decide +kernel)⟩) rfl (fun j i h=>by simp at h) (zjr rfl T.zip (aa (ar zal (ar zah (pv 0) (pv 2) (fun _ _=>rfl)) ag (fun _ _=>rfl)) (aa (ar zal (pv 4) ag (fun _ _=>rfl)) ac))) (fun _ _ _ _=>(ze1 2 K rfl rfl (zaM (zan (i:=0) (show(["_law_a","_law_b"]:List Str).Nodup by decide +kernel) rfl (Or.inl rfl)) (zaM (zan (i:=1) (show(["_law_a","_law_b"]:List Str).Nodup by decide +kernel) rfl (Or.inl rfl)) zcb)))) (fun _ _ _ _=>(zag zei (pv 0) (pv 1) (zas _))) (fun _ _ _ _=>(zaN (aa (pv 0) (aa (pv 1) ac)))))
  (af (zaA (zag (zfI hu) (pv 5) (zaF ac) rfl)
   (ak (zaj (zaN (aa (pv 2) (aa (ao zak (ao zar (pv 1) ag) (zab zaa rfl T.len PySem.boot_len (aa (pv 0) ac))) ac)))))
   zaq)
  (ak (zaj (ar zah (pv 5) (ao zak (ao zar (pv 1) ag) (zab zaa rfl T.len PySem.boot_len (aa (pv 5) ac))) (fun _ _=>rfl)))))),?_⟩
 rintro D H tl po qo mix one xs ts t1 ot v3 hT hL t60 o0 o1 ht1 hpo hqo leq l3 b1 b2 q
 have xl:xs.length=ts.length:=by rw[←hL.length,List.length_map]
 obtain⟨v,hv⟩:=zgB (xs:=xs) o0 (by rw[xl];exact o1)
 have hv2:xs[one.toNat]?=some v:=by
  have e:one=((one.toNat:Nat):Int):=by omega
  have lt:one.toNat < xs.length:=by omega
  have h2:atI xs ((one.toNat:Nat):Int)=some xs[one.toNat]:=zad (List.getElem?_eq_getElem lt)
  rw[←e,hv]at h2
  rw[List.getElem?_eq_getElem lt]
  exact h2.symm
 obtain⟨t1',p1,q1,ht1',rfl,hp1,hq1⟩:=zdJ hL hv2
 cases ht1.symm.trans ht1'
 have a1:atI [V.str t1.1,V.ref q1] 1=some (.ref q1):=zad (j:=1) rfl
 have a2:atI [V.str ot.1,V.ref qo] 1=some (.ref qo):=zad (j:=1) rfl
 refine⟨_,rfl,_,rfl,tl,_,_,_,rfl,rfl,hT,hv,p1,_,_,_,rfl,rfl,hp1,a1,_,rfl,po,_,_,_,rfl,rfl,hpo,a2,q1,qo,rfl,⟨_,hq1⟩,⟨_,hqo⟩,fun Dl hDl=>zf7 (zjc (xs:=t1.2.map V.int) (ys:=ot.2.map V.int) (by rw[List.length_map,List.length_map,leq])) (fun i ys H'=>aj H H'∧∃ ps:List (Int × Int),ad K H' (ps.map dP) ys∧zcd ts.length ps) (fun i ys H' ⟨s1,_⟩=>⟨s1.tup hq1,s1.tup hqo⟩) ⟨ah hDl _,[],ad.nil,fun p hp=>nomatch hp⟩ ?_ ?_⟩
 ·rintro i ys H1 x H2 hi hly hDs ⟨s1,ps,has,pin⟩ ⟨p,y,z,rfl,hp,rfl,hy,hz⟩ σ0 hσ0
  obtain⟨n,hn,rfl⟩:=zcc (hy _ (s1.tup hq1))
  obtain⟨m,hm,rfl⟩:=zcc (hz _ (s1.tup hqo))
  have nb:=b1 n (List.mem_of_getElem? hn)
  have mb:=b2 m (List.mem_of_getElem? hm)
  have s2:aj H1 (upd H1 p (.tup [.int n,.int m])):=ah hp _
  have n2:=ae (H:=H1) (a:=p) (o:=.tup [.int n,.int m])
  have hD2:=s2 _ _ hDs
  have has2:=ad.keep s2.kt (zaG _) has
  generalize upd H1 p (.tup [.int n,.int m])=H2 at s2 n2 hD2 has2
  match σ0,hσ0 with
  | [w0,w1],_ =>
   refine⟨p,_,rfl,SqT.of n2,rfl,_,_,rfl,_,_,rfl,rfl,[some (.int n),some (.int m)],rfl,rfl,?_⟩
   refine⟨_,rfl,_,rfl,rfl,_,rfl,?_⟩
   rw[decV]
   have il:i < t1.2.length:=by rw[←List.length_map (f:=V.int)];exact hi
   by_cases c:n=m
   ·rw[decide_eq_true c]
    exact zax (zcE hi hly hD2 ⟨s1.trans s2,ps,has2,pin⟩)
   ·rw[decide_eq_false c]
    refine zaQ ⟨_,rfl,_,rfl,lS2,fun r hr'=>?_⟩
    have s3:aj H2 (upd H2 r (.tup [.int n,.int m])):=ah hr' _
    have n3:=ae (H:=H2) (a:=r) (o:=.tup [.int n,.int m])
    have hD3:=s3 _ _ hD2
    have has3:=ad.keep s3.kt (zaG _) has2
    generalize upd H2 r (.tup [.int n,.int m])=H3 at s3 n3 hD3 has3
    have kt:=zam.lst (ys:=ys++[.ref r]) hD3
    refine zbC (bsz _ (by rw[List.length_map];omega)) hi hly hD3 ⟨((s1.trans s2).trans s3).upd hDl,ps++[(n,m)],?_,fun pr hpr=>?_⟩
    ·rw[List.map_append]
     exact ad.append (ad.keep kt (zaG _) has3) (ad.one (Has.tup' (kt.sq (SqT.of n3)) (.cons Has.int (.cons Has.int .nil))))
    ·rcases List.mem_append.mp hpr with hpr | hpr
     ·exact pin pr hpr
     ·cases List.mem_singleton.mp hpr
      exact⟨nb,mb⟩
 rintro ys H1 hDs ⟨s1,ps,has,pin⟩
 have yl:ys.length=ps.length:=by rw[←has.length,List.length_map]
 refine⟨_,rfl,lS0,fun e he=>?_⟩
 have s2:aj H1 (upd H1 e (.lst [])):=ah he _
 have n2:=ae (H:=H1) (a:=e) (o:=.lst [])
 have hD2:=s2 _ _ hDs
 have has2:=ad.keep s2.kt (zaG _) has
 generalize upd H1 e (.lst [])=H2 at s2 n2 hD2 has2
 have s02:=s1.trans s2
 have dp:=zgN ps
 refine⟨.lst (ps.map dP),.lst [],Has.lst' (SqL.of hD2) has2,Has.lst' (SqL.of n2) ad.nil,(by simp only[dep];omega),_,rfl,?_⟩
 rw[ze2]
 cases ep:ps with
 | nil =>
  have m:=za3 (mix / 3721) (show(0:Int) < ((xs.length:Nat):Int) by omega)
  refine zaQ ⟨_,rfl,_,rfl,_,_,rfl,rfl,⟨by decide,by decide⟩,_,rfl,tl,_,rfl,.inl (s02.seq hT),_,_,rfl,rfl,(by omega),lS2,fun r hr'=>?_⟩
  exact q _ r one (mix / 3721 % ((xs.length:Nat):Int)) (s02.trans (ah hr' _)) (SqT.of ae) ⟨o0,o1⟩ (by omega)
 | cons p0 ps' =>
  have pl:0 < ps.length:=by rw[ep];simp
  have m:=za3 (mix / 3721) (show(0:Int) < ((ys.length:Nat):Int) by omega)
  obtain⟨v,hv',hvm⟩:=zfL (xs:=ys) m.1 m.2
  obtain⟨j,hj⟩:=List.mem_iff_getElem?.mp hvm
  obtain⟨pr,p',hpr,rfl,hp'⟩:=zhf has2 hj
  have pb:=pin pr (List.mem_of_getElem? hpr)
  exact zax ⟨_,rfl,_,rfl,_,_,rfl,rfl,⟨by decide,by decide⟩,_,rfl,Dl,_,rfl,.inl (SqL.of hD2),_,_,rfl,rfl,(by omega),Dl,_,_,_,rfl,rfl,SqL.of hD2,hv',q _ p' pr.1 pr.2 s02 hp' pb.1 pb.2⟩
set_option maxHeartbeats 1000000 in
theorem zjB (F:Fun K "_law_twin_parts" "_law_twin_parts" zaJ f fd) (T:Txt K mg):zay P w K mg base CX0 1 f fd ["_law_terms_here","_law_mix"] (zeU K):=by
 refine F.ok zbj (fun vs H Q E h=>?_) (fun cdv A outer s H vs Q E hr h=>?_)
 ·obtain⟨tl,mix,xs,ts,zs,rfl,_⟩:=h
  rfl
 obtain⟨tl,mix,xs,ts,zs,rfl,hT,hL,hW,t1',t60,q⟩:=h
 have hu:=zbT hr
 have xl:xs.length=ts.length:=by rw[←hL.length,List.length_map]
 obtain⟨t3,h3,q3⟩:=twin3 (P:=P) (w:=w) (K:=K) (mg:=mg) (base:=base) (f:=f) (outer:=outer) (H0:=H) (E:=E) T hu
 refine⟨_,(af (aq (i:=2) zbj.nd rfl (Or.inr rfl) (ao zak (pv 1) (zab zaa rfl T.len PySem.boot_len (aa (pv 0) ac))))
  (af (zdM (i:=3) (N':=["_law_term_here","_law_terms_here","_law_one"]) (ix:=[0,2]) zbj.nd rfl (Or.inl rfl) rfl rfl (by decide +kernel) (by decide +kernel) rfl (fun ok=>zcJ (sc:=ai zaJ) ok rfl (by decide +kernel) (by decide +kernel)) (by decide +kernel) rfl rfl (fun j i h=>match j,h with | 0,h=>by cases h;exact⟨_,rfl,rfl,.inl rfl,.inl rfl⟩ | 1,h=>by cases h;exact⟨_,rfl,rfl,.inl rfl,.inl rfl⟩ | n+2,h=>by simp at h) (zbw (pv 0)) (fun _ _ _ _=>(PW.pt (zc1 (zag zbk (ar (r:=zfg K) zal (pv 0) ag (fun _ _=>rfl)) (ar (r:=zfg K) zal (ar (r:=zc6 K) zah (pv 1) (pv 2) (fun _ _=>rfl)) ag (fun _ _=>rfl)) (zas _)) (zcB (zag zbk (zab (r:=rLenS K) zaa rfl T.len PySem.boot_len (aa (ar (r:=zfg K) zal (pv 0) ag (fun _ _=>rfl)) ac)) (zab (r:=rLenS K) zaa rfl T.len PySem.boot_len (aa (ar (r:=zfg K) zal (ar (r:=zc6 K) zah (pv 1) (pv 2) (fun _ _=>rfl)) ag (fun _ _=>rfl)) ac)) (zas _)))))) (fun _ _ _ _=>(pv 0)))
  (af (aq (i:=4) zbj.nd rfl (Or.inl rfl) (ar zah (pv 3) (ao zak (ao zar (pv 1) ag) (zab zaa rfl T.len PySem.boot_len (aa (pv 3) ac))) (fun _ _=>rfl))) h3))),?_⟩
 have mo:=za3 mix (show(0:Int) < ((xs.length:Nat):Int) by omega)
 have lt:(mix % ((xs.length:Nat):Int)).toNat < xs.length:=by omega
 have ltt:(mix % ((xs.length:Nat):Int)).toNat < ts.length:=by omega
 have eo:mix % ((xs.length:Nat):Int)=(((mix % ((xs.length:Nat):Int)).toNat:Nat):Int):=by omega
 have hv:atI xs (mix % ((xs.length:Nat):Int))=some xs[(mix % ((xs.length:Nat):Int)).toNat]:=by
  have:atI xs (((mix % ((xs.length:Nat):Int)).toNat:Nat):Int)=some xs[(mix % ((xs.length:Nat):Int)).toNat]:=zad (List.getElem?_eq_getElem lt)
  rw[←eo]at this
  exact this
 obtain⟨t1,p1,q1,ht1,ev,hp1,hq1⟩:=zdJ hL (List.getElem?_eq_getElem lt)
 rw[ev]at hv
 have c0:atI [V.str t1.1,V.ref q1] 0=some (.str t1.1):=zad (j:=0) rfl
 have c1:atI [V.str t1.1,V.ref q1] 1=some (.ref q1):=zad (j:=1) rfl
 refine⟨_,rfl,_,rfl,tl,_,rfl,.inl hT,_,_,rfl,rfl,(by omega),?_⟩
 refine⟨_,rfl,tl,rfl,⟨_,hT⟩,fun Dl hDl=>zfK zbv (fun i ys H'=>aj H H'∧∃ os:List Tm,ad K H' (os.map dTm) ys∧(∀ o∈os,o∈ts∧o.2.length=t1.2.length)∧(mix % ((xs.length:Nat):Int) < (i:Int)→os≠[])) (fun i ys H' ⟨s1,_⟩=>s1.seq hT) ⟨ah hDl _,[],ad.nil,(fun o ho=>nomatch ho),fun z=>absurd z (by omega)⟩ ?_ ?_⟩
 ·rintro i ys H9 x H1 hi hly hDs ⟨s1,os,ho,hos,hne⟩ ⟨rfl,hx⟩
  obtain⟨t,p,pq,ht,rfl,hp,hpq⟩:=zdJ hL (hx _ (s1.seq hT))
  have d0:atI [V.str t.1,V.ref pq] 0=some (.str t.1):=zad (j:=0) rfl
  have d1:atI [V.str t.1,V.ref pq] 1=some (.ref pq):=zad (j:=1) rfl
  have kt:=zam.lst (ys:=ys++[.ref p]) hDs
  have skip:(t.1≠t1.1∨t.2.length≠t1.2.length)→aj H H1∧∃ os:List Tm,ad K H1 (os.map dTm) ys∧(∀ o∈os,o∈ts∧o.2.length=t1.2.length)∧(mix % ((xs.length:Nat):Int) < ((i+1:Nat):Int)→os≠[]):=fun z=>by
   refine⟨s1,os,ho,hos,fun z2=>hne ?_⟩
   by_cases e:mix % ((xs.length:Nat):Int)=(i:Int)
   ·exfalso
    have e2:(mix % ((xs.length:Nat):Int)).toNat=i:=by omega
    rw[e2]at ht1
    cases ht1.symm.trans ht
    rcases z with z | z
    ·exact z rfl
    ·exact z rfl
   ·omega
  refine⟨_,rfl,p,_,_,_,rfl,rfl,s1.tup hp,d0,_,rfl,_,rfl,tl,_,_,_,rfl,rfl,s1.seq hT,hv,p1,_,_,_,rfl,rfl,s1.tup hp1,c0,rfl,_,rfl,?_⟩
  rw[decS]
  by_cases e1:t.1=t1.1
  ·rw[decide_eq_true e1]
   refine zaQ ⟨_,rfl,p,_,_,_,rfl,rfl,s1.tup hp,d1,pq,_,rfl,.inr (s1.tup hpq),_,rfl,_,rfl,tl,_,_,_,rfl,rfl,s1.seq hT,hv,p1,_,_,_,rfl,rfl,s1.tup hp1,c1,q1,_,rfl,.inr (s1.tup hq1),rfl,_,rfl,?_⟩
   rw[List.length_map,List.length_map,decV]
   by_cases e2:t.2.length=t1.2.length
   ·rw[decide_eq_true (by rw[e2])]
    refine zaQ ⟨_,rfl,zbC (bsz _ (by omega)) hi hly hDs ⟨s1.upd hDl,os++[t],?_,fun o ho'=>?_,fun _=>by simp⟩⟩
    ·rw[List.map_append]
     exact ad.append (ad.keep kt (zaf _) ho) (ad.one (zd1 (kt.sq (s1.tup hp)) (kt.sq (s1.tup hpq))))
    ·rcases List.mem_append.mp ho' with ho' | ho'
     ·exact hos o ho'
     ·cases List.mem_singleton.mp ho'
      exact⟨List.mem_of_getElem? ht,e2⟩
   ·rw[decide_eq_false (by omega)]
    exact zax (zcE hi hly hDs (skip (.inr e2)))
  ·rw[decide_eq_false e1]
   exact zax (zax (zcE hi hly hDs (skip (.inl e1))))
 rintro ys H1 hDs ⟨s1,os,ho,hos,hne⟩
 have ne:=hne mo.2
 have ol:0 < os.length:=List.length_pos_iff.mpr ne
 have yl:ys.length=os.length:=by rw[←ho.length,List.length_map]
 have mi:=za3 (mix / 61) (show(0:Int) < ((ys.length:Nat):Int) by omega)
 obtain⟨v,hv',hvm⟩:=zfL (xs:=ys) mi.1 mi.2
 obtain⟨ot,po,qo,hot,rfl,hpo,hqo⟩:=zgL ho hvm
 obtain⟨o1,o2⟩:=hos ot hot
 refine⟨_,rfl,_,rfl,_,_,rfl,rfl,⟨by decide,by decide⟩,_,rfl,Dl,_,rfl,.inl (SqL.of hDs),_,_,rfl,rfl,(by omega),Dl,_,_,_,rfl,rfl,SqL.of hDs,hv',?_⟩
 have w1:=hW.all (List.mem_of_getElem? ht1)
 have w2:=hW.all o1
 exact q3 _ H1 tl po qo mix (mix % ((xs.length:Nat):Int)) xs ts t1 ot _ (s1.seq hT) (ad.keep s1.kt (zaf _) hL) t60 mo.1 (by omega) ht1 hpo hqo o2 w1.2.1 w1.2.2 w2.2.2 fun H' p x y s' k1 k2 k3=>q H' p x y (s1.trans s') k1 k2 k3
end
end K14
namespace K14
open PySem L2
section
variable {P:Program} {w:World} {K:W.Frag} {mg:Str→Option Value} {base:Heap} {f fM fC fT:Addr} {fd dM dC dT':FuncData}
def zfq (K:W.Frag):Sp:=fun vs H Q _=>∃(a tl:Addr) (ns:List Int) (b:Nat) (xs:List V) (ts:List Tm) (zs:List Str),vs=[.ref a,.int (b:Int),.ref tl]∧SqL K H a (ns.map V.int)∧SqL K H tl xs∧ad K H (ts.map dTm) xs∧TmW zs ts∧ts.length≤60 ∧
 ∀(H':Hp) (l:Addr) (gs:List (Int × Int)) (ys:List V),aj H H'→H l=none→H' l=some (.lst ys)→ad K H' (gs.map dP) ys→zcd ts.length gs→gs.length≤201→Q (.ref l) H'
abbrev NGv:List Str:=["_law_script","_law_first","_law_terms_here","_law_cell","_law_many","_law_given_here","_law_k","_law_mix"]
theorem zbp:zap ["_law_script","_law_first","_law_terms_here","_law_cell","_law_many","_law_given_here","_law_k","_law_mix"] ["_law_script","_law_first","_law_terms_here"] (ai za9):=⟨rfl,rfl,rfl,by decide +kernel,rfl,by decide +kernel,by decide +kernel⟩
set_option maxHeartbeats 1000000 in
theorem given3 (T:Txt K mg) (B_law_cell_at:FB P w K mg base CX0 1 "_law_cell_at" fC dC ["_law_script","_law_k"] (zdg K)) (B_law_mixed:FB P w K mg base CX0 1 "_law_mixed" fM dM ["_law_cell","_law_k"] zbQ) (Btw:FB P w K mg base CX0 1 "_law_twin_parts" fT dT' ["_law_terms_here","_law_mix"] (zeU K)) {cdv:Value} {A:Around} {outer:List Env} {s:Shared} {H0:Hp} {E:XK} (hr:zaE 1 (A.deeper (PyProof.Rows.envOfC "_law_given" (ai za9) s.heap.objs.size f cdv))) :
  ∃ t,PSs (zb2 CX0 P w K mg base NGv "_law_given" (ai za9) f cdv A outer s H0 E).nox ((zae za9).drop 3) t ∧
   ∀(D:zbO) (H:Hp) (a tl:Addr) (ns:List Int) (b m:Nat) (xs:List V) (ts:List Tm) (zs:List Str) (v3:Option V),SqL K H a (ns.map V.int)→SqL K H tl xs→ad K H (ts.map dTm) xs→TmW zs ts→ts.length≤60→m≤201 →
    (∀(H':Hp) (l:Addr) (gs:List (Int × Int)) (ys:List V),aj H H'→H l=none→H' l=some (.lst ys)→ad K H' (gs.map dP) ys→zcd ts.length gs→gs.length≤201→D.rt (.ref l) H') →
    t D [some (.ref a),some (.int (b:Int)),some (.ref tl),v3,some (.int (m:Int)),none,none,none] H:=by
 have hu:=zbT hr
 refine⟨_,(af (aq (i:=5) zbp.nd rfl (Or.inl rfl) (zaF ac))
  (af (zbe PassesOwn.never rfl (zbJ rfl T.range (aa (ao zdq (pv 4) (zaD zdQ rfl T.int PyProof.Rows.Boot.int (aa (zcD (zc2 hu) (pv 2) (zaF ac) rfl) ac))) ac)) (zan (i:=6) zbp.nd rfl (Or.inl rfl))
   (af (aq (i:=7) zbp.nd rfl (Or.inl rfl) (zac B_law_mixed.ok hr rfl B_law_mixed.m B_law_mixed.kp B_law_mixed.b .nil ay (aa (zac B_law_cell_at.ok hr rfl B_law_cell_at.m B_law_cell_at.kp B_law_cell_at.b .nil ay (aa (pv 0) (aa (ao zbf (ao zbf (pv 1) ag) (ao zak (pv 6) ag)) ac))) (aa (pv 6) ac))))
    (ak (zaA (zag zbk (ao zak (pv 7) ag) ag (zas _))
     (ak (zaZ (zb4 PySem.F.plainAttrs_list PySem.F.slot_list_append PySem.F.type_list_append zaH (pv 5) (aa (zaN (aa (ao zak (ao zar (pv 7) ag) (zab zaa rfl T.len PySem.boot_len (aa (pv 2) ac))) (aa (ao zak (ao zar (pv 7) ag) (zab zaa rfl T.len PySem.boot_len (aa (pv 2) ac))) ac))) ac))))
     (ak (zaZ (zb4 PySem.F.plainAttrs_list PySem.F.slot_list_append PySem.F.type_list_append zaH (pv 5) (aa (zac Btw.ok hr rfl Btw.m Btw.kp Btw.b .nil ay (aa (pv 2) (aa (ao zar (pv 7) ag) ac))) ac))))))))
  (ak (zaj (pv 5))))),?_⟩
 rintro D H a tl ns b m xs ts zs v3 hS hT hL hW t60 m201 q
 have xl:xs.length=ts.length:=by rw[←hL.length,List.length_map]
 refine⟨lS0,fun l hl=>?_⟩
 have s1:aj H (upd H l (.lst [])):=ah hl _
 have n1:=ae (H:=H) (a:=l) (o:=.lst [])
 generalize upd H l (.lst [])=H1 at s1 n1
 refine⟨_,rfl,_,rfl,lS0,fun el hel=>?_⟩
 have s2:aj H1 (upd H1 el (.lst [])):=ah hel _
 have n2:=ae (H:=H1) (a:=el) (o:=.lst [])
 generalize upd H1 el (.lst [])=H2 at s2 n2
 have s12:=s1.trans s2
 have d2:=zcR ts
 refine⟨.lst (ts.map dTm),.lst [],Has.lst' (s12.seq hT) (ad.keep s12.kt (zaf _) hL),Has.lst' (SqL.of n2) ad.nil,(by simp only[dep,za0];omega),.inr ⟨_,rfl,_,_,rfl,rfl,.inl ⟨by omega,by omega⟩,?_⟩⟩
 rw[ze2]
 obtain⟨k,hk,k0⟩:∃ k:Nat,(m:Int) * (if(!(ts.map dTm).isEmpty)=true then(1:Int) else 0)=(k:Int)∧(0 < k→1≤ts.length)∧k≤201:=by
  cases ts with
  | nil=>exact⟨0,by simp,fun z=>absurd z (Nat.lt_irrefl _),by omega⟩
  | cons t ts'=>exact⟨m,by simp,fun _=>by simp,m201⟩
 refine⟨(k:Int),congrArg (fun z=>[V.int z]) hk,by omega,by omega,zck (lo:=0) (n:=((k:Int)).toNat) (fun i σ H'=>∃(v6 v7:Option V) (gs:List (Int × Int)) (ys:List V),σ=[some (.ref a),some (.int (b:Int)),some (.ref tl),v3,some (.int (m:Int)),some (.ref l),v6,v7]∧aj H H'∧H' l=some (.lst ys)∧ad K H' (gs.map dP) ys∧gs.length=i∧zcd ts.length gs)
  ⟨none,none,[],[],rfl,s12,s2 _ _ n1,ad.nil,rfl,fun p hp=>nomatch hp⟩ ?_ ?_⟩
 ·rintro i σ H3 hi ⟨v6,v7,gs,ys,rfl,s3,hl3,has3,gl,pin⟩
  have hi':i < k:=by
   have:i < ((k:Int)).toNat:=hi
   omega
  have u1:=k0.1 (by omega)
  have yl:ys.length=gs.length:=by rw[←has3.length,List.length_map]
  have ei:(b:Int)+1+(0+(i:Int)) % 4=((b+1+i % 4:Nat):Int):=by omega
  refine⟨_,rfl,_,rfl,_,_,rfl,rfl,_,rfl,_,_,rfl,rfl,(by show(0:Int) < 4;decide),_,_,rfl,rfl,a,ns,b+1+i % 4,congrArg (fun z=>[V.ref a,V.int z]) ei,s3.seq hS,_,rfl,_,_,rfl,?_⟩
  generalize zbB (ns.getD (b+1+i % 4) 0) (0+(i:Int))=mix
  have next:∀(H4:Hp) (p:Addr) (x y:Int) (D':zbO) (w6 w7:Option V),aj H3 H4→SqT K H4 p [.int x,.int y]→(0≤x∧x < (ts.length:Int))→(0≤y∧y < (ts.length:Int))→H4 l=some (.lst ys)∧ys.length < sizeLine∧∃(v6 v7:Option V) (gs:List (Int × Int)) (ys':List V),[some (V.ref a),some (.int (b:Int)),some (.ref tl),v3,some (.int (m:Int)),some (.ref l),w6,w7]=[some (V.ref a),some (.int (b:Int)),some (.ref tl),v3,some (.int (m:Int)),some (.ref l),v6,v7]∧aj H (upd H4 l (.lst (ys++[.ref p])))∧(upd H4 l (.lst (ys++[.ref p]))) l=some (.lst ys')∧ad K (upd H4 l (.lst (ys++[.ref p]))) (gs.map dP) ys'∧gs.length=i+1∧zcd ts.length gs:=fun H4 p x y D' w6 w7 s4 hp hx hy=>by
   have hl4:=s4 _ _ hl3
   have kt:=zam.lst (ys:=ys++[.ref p]) hl4
   refine⟨hl4,zaU (by omega),w6,w7,gs++[(x,y)],ys++[.ref p],rfl,(s3.trans s4).upd hl,ae,?_,by rw[List.length_append,gl];rfl,fun r hr'=>?_⟩
   ·rw[List.map_append]
    exact ad.append (ad.keep kt (zaG _) (ad.keep s4.kt (zaG _) has3)) (ad.one (Has.tup' (kt.sq hp) (.cons Has.int (.cons Has.int .nil))))
   ·rcases List.mem_append.mp hr' with hr' | hr'
    ·exact pin r hr'
    ·cases List.mem_singleton.mp hr'
     exact⟨hx,hy⟩
  refine⟨_,rfl,_,_,rfl,rfl,(by show(0:Int) < 2;decide),rfl,_,rfl,zbN (fun _=>?_) (fun _=>?_)⟩
  ·have m1:=za3 (mix / 2) (show(0:Int) < ((xs.length:Nat):Int) by omega)
   have m2:=za3 (mix / 122) (show(0:Int) < ((xs.length:Nat):Int) by omega)
   refine⟨_,rfl,.inl ⟨rfl,_,SqL.of hl3⟩,_,rfl,_,_,rfl,rfl,⟨by decide,by decide⟩,_,rfl,tl,_,rfl,.inl (s3.seq hT),_,_,rfl,rfl,(by omega),_,rfl,_,_,rfl,rfl,⟨by decide,by decide⟩,_,rfl,tl,_,rfl,.inl (s3.seq hT),_,_,rfl,rfl,(by omega),lS2,fun p hp=>?_⟩
   obtain⟨k1,k2,k3⟩:=next _ p _ _ D (some (.int (0+(i:Int)))) (some (.int mix)) (ah hp (.tup [.int (mix / 2 % ((xs.length:Nat):Int)),.int (mix / 122 % ((xs.length:Nat):Int))])) (SqT.of ae) (by omega) (by omega)
   exact⟨l,_,_,rfl,rfl,k1,k2,k3⟩
  ·refine⟨_,rfl,.inl ⟨rfl,_,SqL.of hl3⟩,_,rfl,_,rfl,_,_,rfl,rfl,⟨by decide,by decide⟩,tl,_,xs,ts,zs,rfl,s3.seq hT,ad.keep s3.kt (zaf _) hL,hW,u1,t60,fun H4 p x y s4 hp hx hy=>?_⟩
   obtain⟨k1,k2,k3⟩:=next H4 p x y D (some (.int (0+(i:Int)))) (some (.int mix)) s4 hp hx hy
   exact⟨l,_,_,rfl,rfl,k1,k2,k3⟩
 ·rintro σ H3 ⟨v6,v7,gs,ys,rfl,s3,hl3,has3,gl,pin⟩
  have gl':gs.length=((k:Int)).toNat:=gl
  exact⟨_,rfl,q H3 l gs ys s3 hl hl3 has3 pin (by omega)⟩
theorem ziU (F:Fun K "_law_given" "_law_given" za9 f fd) (T:Txt K mg) (B_law_cell_at:FB P w K mg base CX0 1 "_law_cell_at" fC dC ["_law_script","_law_k"] (zdg K)) (B_law_mixed:FB P w K mg base CX0 1 "_law_mixed" fM dM ["_law_cell","_law_k"] zbQ) (Btw:FB P w K mg base CX0 1 "_law_twin_parts" fT dT' ["_law_terms_here","_law_mix"] (zeU K)):zay P w K mg base CX0 2 f fd ["_law_script","_law_first","_law_terms_here"] (zfq K):=by
 refine F.ok zbp (fun vs H Q E h=>?_) (fun cdv A outer s H vs Q E hr h=>?_)
 ·obtain⟨a,tl,ns,b,xs,ts,zs,rfl,_⟩:=h
  rfl
 obtain⟨a,tl,ns,b,xs,ts,zs,rfl,hS,hT,hL,hW,t60,q⟩:=h
 obtain⟨t3,h3,q3⟩:=given3 (f:=f) (outer:=outer) (H0:=H) (E:=E) T B_law_cell_at B_law_mixed Btw hr
 refine⟨_,(af (aq (i:=3) zbp.nd rfl (Or.inl rfl) (zac B_law_cell_at.ok hr rfl B_law_cell_at.m B_law_cell_at.kp B_law_cell_at.b .nil ay (aa (pv 0) (aa (pv 1) ac))))
  (af (aq (i:=4) zbp.nd rfl (Or.inl rfl) (ao zak (pv 3) ag))
  (af (zaA (zag zbk (ao zak (ao zar (pv 3) ag) ag) ag (zas _))
   (ak (aq (i:=4) zbp.nd rfl (Or.inl rfl) (ao zak (ao zar (pv 3) ag) ag)))
   zaq) h3))),?_⟩
 have b9:=za3 (ns.getD b 0) (show(0:Int) < 9 by decide)
 have b2:=za3 (ns.getD b 0 / 72) (show(0:Int) < 201 by decide)
 have go:∀(m:Int) (D':zbO),D'.rt=Q→0≤m→m≤201→t3 D' [some (.ref a),some (.int (b:Int)),some (.ref tl),some (.int (ns.getD b 0)),some (.int m),none,none,none] H:=fun m D' eD m0 m1=>by
  have:=q3 D' H a tl ns b m.toNat xs ts zs (some (.int (ns.getD b 0))) hS hT hL hW t60 (by omega) (by rw[eD];exact q)
  rw[Int.toNat_of_nonneg m0]at this
  exact this
 refine⟨_,rfl,_,rfl,a,ns,b,rfl,hS,_,rfl,_,_,rfl,rfl,(by show(0:Int) < 9;decide),_,rfl,_,_,rfl,rfl,⟨by decide,by decide⟩,_,_,rfl,rfl,(by show(0:Int) < 8;decide),rfl,_,rfl,zbN (fun _=>?_) (fun _=>?_)⟩
 ·exact⟨_,rfl,_,_,rfl,rfl,⟨by decide,by decide⟩,_,_,rfl,rfl,(by show(0:Int) < 201;decide),go (ns.getD b 0 / 72 % 201) _ rfl b2.1 (by omega)⟩
 ·exact go (ns.getD b 0 % 9) _ rfl b9.1 (by omega)
end
section
variable {P:Program} {w:World} {K:W.Frag} {mg:Str→Option Value} {base:Heap} {f fM fC fT:Addr} {fd dM dC dT':FuncData}
def zcy (K:W.Frag):Sp:=fun vs H Q _=>∃(l:Addr) (a b:Int) (n:Nat) (hd:Int→Int),vs=[.ref l,.int a,.int b]∧SqL K H l ((zcf hd n).map V.int)∧(0≤a∧a < (n:Int))∧(0≤b∧b < (n:Int))∧n≤100∧∀(H':Hp) (r:Addr),aj H H'→H r=none→H' r=some (.lst ((zcf (mrg hd a b) n).map V.int))→Q (.ref r) H'
theorem zcl:zap ["_law_tops","_law_one","_law_other","_law_low","_law_high"] ["_law_tops","_law_one","_law_other"] (ai zaY):=⟨rfl,rfl,rfl,by decide +kernel,rfl,by decide +kernel,by decide +kernel⟩
theorem ziN (F:Fun K "_law_relabelled" "_law_relabelled" zaY f fd) (T:Txt K mg):zay P w K mg base CX0 1 f fd ["_law_tops","_law_one","_law_other"] (zcy K):=by
 refine F.ok zcl (fun vs H Q E h=>?_) (fun cdv A outer s H vs Q E hr h=>?_)
 ·obtain⟨l,a,b,n,hd,rfl,_⟩:=h
  rfl
 obtain⟨l,a,b,n,hd,rfl,hl,ha,hb,n100,q⟩:=h
 refine⟨_,(af (aq (i:=3) zcl.nd rfl (Or.inr rfl) (zab (zeK rfl) rfl T.min PyProof.Rows.Boot.min (aa (ar zah (pv 0) (pv 1) (fun _ _=>rfl)) (aa (ar zah (pv 0) (pv 2) (fun _ _=>rfl)) ac))))
  (af (aq (i:=4) zcl.nd rfl (Or.inr rfl) (zab (zeL rfl) rfl T.max PyProof.Rows.Boot.max (aa (ar zah (pv 0) (pv 1) (fun _ _=>rfl)) (aa (ar zah (pv 0) (pv 2) (fun _ _=>rfl)) ac))))
  (ak (zaj (zeM (N':=["_law_top","_law_low","_law_high"]) (ix:=[3,4]) rfl rfl (by decide +kernel) (by decide +kernel) rfl (fun ok=>zcJ (sc:=ai zaY) ok rfl (by decide +kernel) (by decide +kernel)) (by decide +kernel) rfl rfl (fun j i h=>match j,h with | 0,h=>by cases h;exact⟨_,rfl,rfl,.inl rfl,.inl rfl⟩ | 1,h=>by cases h;exact⟨_,rfl,rfl,.inl rfl,.inl rfl⟩ | n+2,h=>by simp at h) (zbw (pv 0)) (fun _ _ _ _=>(ar (r:=zc6 K) zah (zaF (aa (pv 0) (aa (pv 1) ac))) (zaD zdQ rfl T.int PyProof.Rows.Boot.int (aa (zcD zbk (pv 0) (pv 2) (zas _)) ac)) (fun _ _=>rfl)))))))),?_⟩
 have ga:=zfv (ls:=[]) hd ha.1 ha.2
 have gb:=zfv (ls:=[]) hd hb.1 hb.2
 refine⟨_,rfl,_,rfl,l,_,_,_,rfl,rfl,hl,ga,_,rfl,_,rfl,l,_,_,_,rfl,rfl,hl,gb,_,_,rfl,?_⟩
 refine⟨_,rfl,_,rfl,l,_,_,_,rfl,rfl,hl,ga,_,rfl,_,rfl,l,_,_,_,rfl,rfl,hl,gb,_,_,rfl,?_⟩
 refine⟨_,rfl,l,rfl,⟨_,hl⟩,fun D hD=>zeO zbv (fun i ys H'=>aj H H'∧ys=(((zcf hd n).take i).map fun u=>if u=hiF (hd a) (hd b) then loF (hd a) (hd b) else u).map V.int) (fun i ys H' ⟨s1,_⟩=>s1.seq hl) ⟨ah hD _,rfl⟩ ?_ ?_⟩
 ·rintro i ys H9 x H1 hi hly hDs ⟨s1,rfl⟩ ⟨rfl,hx⟩
  obtain⟨u,hu,rfl⟩:=zcc (hx _ (s1.seq hl))
  refine⟨_,rfl,_,rfl,lS2,fun dl hdl=>?_⟩
  have s2:aj H1 (upd H1 dl (.lst [.int u,.int (loF (hd a) (hd b))])):=ah hdl _
  have n2:=ae (H:=H1) (a:=dl) (o:=.lst [.int u,.int (loF (hd a) (hd b))])
  have hD2:=s2 _ _ hDs
  have ed:(.lst [.int u,.int (loF (hd a) (hd b))]:HO)=.lst [.int u,.int (loF (hd a) (hd b))]:=rfl
  have hn:(zcf hd n).length≤100:=by unfold zcf;rw[List.length_map,List.length_range];exact n100
  refine⟨_,rfl,_,rfl,rfl,.inr ⟨_,rfl,dl,_,_,.int (if u=hiF (hd a) (hd b) then loF (hd a) (hd b) else u),rfl,rfl,SqL.of n2,?_,zbC (bsz _ (by rw[List.length_map];omega)) hi hly hD2 ⟨(s1.trans s2).upd hD,?_⟩⟩⟩
  ·show atI [V.int u,V.int (loF (hd a) (hd b))] (if decide (V.int u=V.int (hiF (hd a) (hd b)))=true then 1 else 0)=_
   rw[zdT]
   by_cases c:u=hiF (hd a) (hd b)
   ·rw[decide_eq_true c,if_pos rfl,if_pos c]
    exact zad (j:=1) rfl
   ·rw[decide_eq_false c,if_neg (by decide),if_neg c]
    exact zad (j:=0) rfl
  ·rw[zaT hu,List.map_append,List.map_append]
   rfl
 ·rintro ys H1 hDs ⟨s1,rfl⟩
  refine q H1 D s1 hD ?_
  rw[hDs,List.length_map,List.take_of_length_le (Nat.le_refl _)]
  unfold zcf
  rw[List.map_map (l:=List.range n)]
  rfl
end
end K14
namespace K14
open PySem L2
section
variable {P:Program} {w:World} {K:W.Frag} {mg:Str→Option Value} {base:Heap} {f fW fA:Addr} {fd dW dA:FuncData}
def zb9 (ts:List Tm) (hd:Int→Int) (a b:Int):Bool:=match ts[a.toNat]?,ts[b.toNat]? with
 | some t,some u=>decide (t.1=u.1)&&decide (t.2.map hd=u.2.map hd)
 | _,_=>false
theorem zet {ts:List Tm} {hd:Int→Int} {a b:Int}:zb9 ts hd a b=true↔zd5 ts hd a b:=by
 unfold zb9 zd5
 cases h1:ts[a.toNat]? with
 | none=>simp
 | some t =>
  cases h2:ts[b.toNat]? with
  | none=>simp
  | some u=>simp
theorem zic (xs ys:List Int):za5 (xs.map Dt.int) (ys.map Dt.int)=decide (xs=ys):=by
 induction xs generalizing ys with
 | nil=>cases ys <;> simp [za5]
 | cons x xs ih =>
  cases ys with
  | nil=>simp [za5]
  | cons y ys=>simp [za5,peq,ih ys,Bool.decide_and,Bool.beq_eq_decide_eq]
def zel (K:W.Frag):Sp:=fun vs H Q _=>∃(tl tp:Addr) (a b:Int) (xs:List V) (ts:List Tm) (zs:List Str) (hd:Int→Int),vs=[.ref tl,.ref tp,.int a,.int b]∧SqL K H tl xs∧ad K H (ts.map dTm) xs∧TmW zs ts∧ts.length≤60∧SqL K H tp ((zcf hd ts.length).map V.int)∧(0≤a∧a < (ts.length:Int))∧(0≤b∧b < (ts.length:Int))∧∀ H',aj H H'→Q (.bl (zb9 ts hd a b)) H'
theorem zgu:zap ["_law_terms_here","_law_tops","_law_one","_law_other"] ["_law_terms_here","_law_tops","_law_one","_law_other"] (ai zbi):=⟨rfl,rfl,rfl,by decide +kernel,rfl,by decide +kernel,by decide +kernel⟩
theorem ziW (F:Fun K "_law_alike" "_law_alike" zbi f fd) (T:Txt K mg):zay P w K mg base CX0 1 f fd ["_law_terms_here","_law_tops","_law_one","_law_other"] (zel K):=by
 refine F.ok zgu (fun vs H Q E h=>?_) (fun cdv A outer s H vs Q E hr h=>?_)
 ·obtain⟨tl,tp,a,b,xs,ts,zs,hd,rfl,_⟩:=h
  rfl
 obtain⟨tl,tp,a,b,xs,ts,zs,hd,rfl,hT,hL,hW,t60,hP,ha,hb,q⟩:=h
 obtain⟨t,e1⟩:∃ t,ts[a.toNat]?=some t:=⟨_,List.getElem?_eq_getElem (show a.toNat < ts.length by omega)⟩
 obtain⟨u,e2⟩:∃ u,ts[b.toNat]?=some u:=⟨_,List.getElem?_eq_getElem (show b.toNat < ts.length by omega)⟩
 have eB:zb9 ts hd a b=(decide (t.1=u.1)&&decide (t.2.map hd=u.2.map hd)):=by unfold zb9;rw[e1,e2]
 rw[eB]at q
 have hu:=zbT hr
 have xl:xs.length=ts.length:=by rw[←hL.length,List.length_map]
 refine⟨_,(af (zaA (zag zei (ar zal (ar zah (pv 0) (pv 2) (fun _ _=>rfl)) ag (fun _ _=>rfl)) (ar zal (ar zah (pv 0) (pv 3) (fun _ _=>rfl)) ag (fun _ _=>rfl)) (zas _))
   (ak (zaj zb5))
   zaq)
  (ak (zaj (zcD (zfI hu) (zeM (N':=["_law_part","_law_tops"]) (ix:=[1]) rfl rfl (by decide +kernel) (by decide +kernel) rfl (fun ok=>zcJ (sc:=ai zbi) ok rfl (by decide +kernel) (by decide +kernel)) (by decide +kernel) rfl rfl (fun j i h=>match j,h with | 0,h=>by cases h;exact⟨_,rfl,rfl,.inl rfl,.inl rfl⟩ | n+1,h=>by simp at h) (zfG (ar zal (ar zah (pv 0) (pv 2) (fun _ _=>rfl)) ag (fun _ _=>rfl))) (fun _ _ _ _=>(ar (r:=zc6 K) zah (pv 1) (pv 0) (fun _ _=>rfl)))) (zeM (N':=["_law_part","_law_tops"]) (ix:=[1]) rfl rfl (by decide +kernel) (by decide +kernel) rfl (fun ok=>zcJ (sc:=ai zbi) ok rfl (by decide +kernel) (by decide +kernel)) (by decide +kernel) rfl rfl (fun j i h=>match j,h with | 0,h=>by cases h;exact⟨_,rfl,rfl,.inl rfl,.inl rfl⟩ | n+1,h=>by simp at h) (zfG (ar zal (ar zah (pv 0) (pv 3) (fun _ _=>rfl)) ag (fun _ _=>rfl))) (fun _ _ _ _=>(ar (r:=zc6 K) zah (pv 1) (pv 0) (fun _ _=>rfl)))) rfl)))),?_⟩
 have at_of:∀ {k:Int} {t:Tm},0≤k→k < (ts.length:Int)→ts[k.toNat]?=some t→∃ p pq,atI xs k=some (.ref p)∧SqT K H p [.str t.1,.ref pq]∧SqT K H pq (t.2.map V.int):=fun {k t} k0 k1 ht=>by
  have lt:k.toNat < xs.length:=by omega
  have ek:k=((k.toNat:Nat):Int):=by omega
  have h2:atI xs ((k.toNat:Nat):Int)=some xs[k.toNat]:=zad (List.getElem?_eq_getElem lt)
  rw[←ek]at h2
  obtain⟨t',p,pq,ht',ev,hp,hpq⟩:=zdJ hL (List.getElem?_eq_getElem lt)
  cases ht.symm.trans ht'
  rw[ev]at h2
  exact⟨p,pq,h2,hp,hpq⟩
 obtain⟨p1,q1,at1,hp1,hq1⟩:=at_of ha.1 ha.2 e1
 obtain⟨p2,q2,at2,hp2,hq2⟩:=at_of hb.1 hb.2 e2
 have a0:atI [V.str t.1,V.ref q1] 0=some (.str t.1):=zad (j:=0) rfl
 have a1:atI [V.str t.1,V.ref q1] 1=some (.ref q1):=zad (j:=1) rfl
 have b0:atI [V.str u.1,V.ref q2] 0=some (.str u.1):=zad (j:=0) rfl
 have b1:atI [V.str u.1,V.ref q2] 1=some (.ref q2):=zad (j:=1) rfl
 have w1:=hW.all (List.mem_of_getElem? e1)
 have w2:=hW.all (List.mem_of_getElem? e2)
 refine⟨_,rfl,_,rfl,tl,_,_,_,rfl,rfl,hT,at1,p1,_,_,_,rfl,rfl,hp1,a0,_,rfl,_,rfl,tl,_,_,_,rfl,rfl,hT,at2,p2,_,_,_,rfl,rfl,hp2,b0,rfl,_,rfl,?_⟩
 rw[decS]
 by_cases e3:t.1=u.1
 case neg =>
  rw[decide_eq_false e3]at q ⊢
  exact zaQ (q _ (aj.refl _))
 rw[decide_eq_true e3]at q ⊢
 rw[Bool.true_and]at q
 refine zax ⟨_,rfl,_,rfl,tl,_,_,_,rfl,rfl,hT,at1,p1,_,_,_,rfl,rfl,hp1,a1,q1,rfl,⟨_,hq1⟩,fun D1 hD1=>zeO zfC (fun j us H'=>aj H H'∧us=((t.2.take j).map hd).map V.int) (fun j us H' ⟨s1,_⟩=>s1.tup hq1) ⟨ah hD1 _,rfl⟩ ?_ ?_⟩
 ·rintro j us H8 x H1 hj hly hDs ⟨s1,rfl⟩ ⟨rfl,hx⟩
  obtain⟨n,hn,rfl⟩:=zcc (hx _ (s1.tup hq1))
  have nb:=w1.2.2 n (List.mem_of_getElem? hn)
  have l3:=w1.2.1
  refine⟨_,rfl,_,rfl,tp,_,_,_,rfl,rfl,s1.seq hP,zbD _ nb.1 nb.2,zbC (bsz _ (by rw[List.length_map];omega)) hj hly hDs ⟨s1.upd hD1,?_⟩⟩
  rw[zaT hn,List.map_append,List.map_append]
  rfl
 rintro us1 H1 hDs1 ⟨s1,rfl⟩
 rw[List.length_map,List.take_of_length_le (Nat.le_refl _)]at hDs1
 refine⟨_,rfl,_,rfl,tl,_,_,_,rfl,rfl,s1.seq hT,at2,p2,_,_,_,rfl,rfl,s1.tup hp2,b1,q2,rfl,⟨_,s1.tup hq2⟩,fun D2 hD2=>zeO zfC (fun j us H'=>aj H1 H'∧us=((u.2.take j).map hd).map V.int) (fun j us H' ⟨s2,_⟩=>(s1.trans s2).tup hq2) ⟨ah hD2 _,rfl⟩ ?_ ?_⟩
 ·rintro j us H8 x H2 hj hly hDs ⟨s2,rfl⟩ ⟨rfl,hx⟩
  obtain⟨n,hn,rfl⟩:=zcc (hx _ ((s1.trans s2).tup hq2))
  have nb:=w2.2.2 n (List.mem_of_getElem? hn)
  have l3:=w2.2.1
  refine⟨_,rfl,_,rfl,tp,_,_,_,rfl,rfl,(s1.trans s2).seq hP,zbD _ nb.1 nb.2,zbC (bsz _ (by rw[List.length_map];omega)) hj hly hDs ⟨s2.upd hD2,?_⟩⟩
  rw[zaT hn,List.map_append,List.map_append]
  rfl
 rintro us2 H2 hDs2 ⟨s2,rfl⟩
 rw[List.length_map,List.take_of_length_le (Nat.le_refl _)]at hDs2
 refine⟨.lst ((t.2.map hd).map Dt.int),.lst ((u.2.map hd).map Dt.int),Has.lst' (SqL.of (s2 _ _ hDs1)) (ad.ints _),Has.lst' (SqL.of hDs2) (ad.ints _),(by simp only[dep,zen];decide),?_⟩
 rw[show peq (.lst ((t.2.map hd).map Dt.int)) (.lst ((u.2.map hd).map Dt.int))=za5 ((t.2.map hd).map Dt.int) ((u.2.map hd).map Dt.int) by simp only[peq],zic]
 exact q _ (s1.trans s2)
def zeE (K:W.Frag):Sp:=fun vs H Q _=>∃(p:Addr) (l:Lk),vs=[.ref p]∧SqT K H p [.int l.1,.int l.2.1,.int l.2.2]∧Q (.bl true) H
theorem zgd:zap ["_law_link"] ["_law_link"] (ai zbF):=⟨rfl,rfl,rfl,by decide +kernel,rfl,by decide +kernel,by decide +kernel⟩
theorem zif (F:Fun K "_law_triple" "_law_triple" zbF f fd) (T:Txt K mg) (B_law_whole:FB P w K mg base CX0 1 "_law_whole" fW dW ["_law_found"] zfk):zay P w K mg base CX0 2 f fd ["_law_link"] (zeE K):=by
 refine F.ok zgd (fun vs H Q E h=>?_) (fun cdv A outer s H vs Q E hr h=>?_)
 ·obtain⟨p,l,rfl,_⟩:=h
  rfl
 obtain⟨p,l,rfl,hp,q⟩:=h
 refine⟨_,(af (zaA (PW.pt (zeg (zb7 (zbt (zab zgU rfl T.isinstance PyProof.Rows.Boot.isinstance (aa (pv 0) (aa (zd6 (v:=.ty "tuple") rfl T.tuple PyProof.Rows.Boot.tuple rfl) ac))))) (zd0 (zag zei (zab zaa rfl T.len PySem.boot_len (aa (pv 0) ac)) ag (zas _)))))
   (ak (zaj zb5))
   zaq)
  (ak (zaj (zfH (zac B_law_whole.ok hr rfl B_law_whole.m B_law_whole.kp B_law_whole.b .nil ay (aa (ar zal (pv 0) ag (fun _ _=>rfl)) ac)) (zfH (zac B_law_whole.ok hr rfl B_law_whole.m B_law_whole.kp B_law_whole.b .nil ay (aa (ar zal (pv 0) ag (fun _ _=>rfl)) ac)) (zgx (zac B_law_whole.ok hr rfl B_law_whole.m B_law_whole.kp B_law_whole.b .nil ay (aa (ar zal (pv 0) ag (fun _ _=>rfl)) ac)))))))),?_⟩
 have a0:atI [V.int l.1,V.int l.2.1,V.int l.2.2] 0=some (.int l.1):=zad (j:=0) rfl
 have a1:atI [V.int l.1,V.int l.2.1,V.int l.2.2] 1=some (.int l.2.1):=zad (j:=1) rfl
 have a2:atI [V.int l.1,V.int l.2.1,V.int l.2.2] 2=some (.int l.2.2):=zad (j:=2) rfl
 refine⟨_,rfl,p,_,"tuple",true,rfl,hp,zf8 K "tuple",_,rfl,zax ⟨_,rfl,p,_,rfl,.inr hp,rfl,_,rfl,zax ?_⟩⟩
 exact⟨_,rfl,p,_,_,_,rfl,rfl,hp,a0,l.1,rfl,_,rfl,zaQ ⟨_,rfl,p,_,_,_,rfl,rfl,hp,a1,l.2.1,rfl,_,rfl,zaQ ⟨_,rfl,p,_,_,_,rfl,rfl,hp,a2,l.2.2,rfl,q⟩⟩⟩
end
end K14
namespace K14
open PySem L2
def zfN (L:List Lk):Prop:=∀ i l,L[i]?=some l→hdL (L.take i) l.1≠hdL (L.take i) l.2.1
def Cut (L:List Lk) (q:Nat) (c:Int→Bool):Prop:=∀ i l,L[i]?=some l→(if i=q then c l.1≠c l.2.1 else c l.1=c l.2.1)
theorem zgh {L:List Lk} {i j:Nat} {l:Lk} (h:L[j]?=some l) (hj:j < i):hdL (L.take i) l.1=hdL (L.take i) l.2.1 :=
 zdD _ l (List.mem_of_getElem? (i:=j) (by rw[List.getElem?_take,if_pos hj];exact h))
theorem zh2 {L:List Lk} (F:zfN L) {q:Nat} {lq:Lk} (hq:L[q]?=some lq):∀ n,q+1+n≤L.length→∃ c,Cut (L.take (q+1+n)) q c
 | 0,_=>by
  refine⟨fun t=>decide (hdL (L.take q) t=hdL (L.take q) lq.1),fun i l hi=>?_⟩
  rw[List.getElem?_take]at hi
  split at hi
  ·rename_i lt
   split
   ·rename_i e
    subst e
    cases hq.symm.trans hi
    have:=F i lq hq
    simp only[decide_true,ne_eq]
    intro z
    exact this (of_decide_eq_true z.symm).symm
   ·rename_i e
    dsimp only
    rw[zgh hi (show i < q by omega)]
  ·cases hi
 | n+1,h=>by
  obtain⟨c,hc⟩:=zh2 F hq n (by omega)
  have lt:q+1+n < L.length:=by omega
  obtain⟨r,hr⟩:∃ r,L[q+1+n]?=some r:=⟨_,List.getElem?_eq_getElem lt⟩
  have old:∀ i l,L[i]?=some l→i < q+1+n→(if i=q then c l.1≠c l.2.1 else c l.1=c l.2.1):=fun i l hi lt=>hc i l (by rw[List.getElem?_take,if_pos lt];exact hi)
  by_cases e:c r.1=c r.2.1
  ·refine⟨c,fun i l hi=>?_⟩
   rw[List.getElem?_take]at hi
   split at hi
   ·rename_i lt2
    by_cases ei:i=q+1+n
    ·subst ei
     cases hr.symm.trans hi
     rw[if_neg (by omega)]
     exact e
    ·exact old i l hi (by omega)
   ·cases hi
  ·refine⟨fun t=>if hdL (L.take (q+1+n)) t=hdL (L.take (q+1+n)) r.2.1 then !c t else c t,fun i l hi=>?_⟩
   rw[List.getElem?_take]at hi
   split at hi
   ·rename_i lt2
    by_cases ei:i=q+1+n
    ·subst ei
     cases hr.symm.trans hi
     rw[if_neg (by omega)]
     dsimp only
     rw[if_pos rfl,if_neg (F _ _ hr)]
     revert e
     cases c r.1 <;> cases c r.2.1 <;> simp
    ·have o:=old i l hi (by omega)
     have tl:=zgh hi (show i < q+1+n by omega)
     dsimp only
     rw[tl]
     by_cases z:hdL (L.take (q+1+n)) l.2.1=hdL (L.take (q+1+n)) r.2.1
     ·rw[if_pos z,if_pos z]
      split at o
      ·rw[if_pos ‹_›]
       revert o
       cases c l.1 <;> cases c l.2.1 <;> simp
      ·rw[if_neg ‹_›,o]
     ·rw[if_neg z,if_neg z]
      exact o
   ·cases hi
theorem zh3 {L:List Lk} (F:zfN L) {q:Nat} (hq:q < L.length):∃ c,Cut L q c:=by
 obtain⟨c,h⟩:=zh2 F (List.getElem?_eq_getElem hq) (L.length - (q+1)) (by omega)
 rw[show q+1+(L.length - (q+1))=L.length by omega,List.take_length]at h
 exact⟨c,h⟩
theorem zc9 {ts:List Tm} {gs:List (Int × Int)} {L:List Lk} (h:zau ts gs L):zfN L:=fun i l hi=>(h i l hi).new
theorem zft {α:Type} (c:Int→α) {S:List Lk} (h:∀ l∈S,c l.1=c l.2.1) {t u:Int} (e:hdL S t=hdL S u):c t=c u :=
 ((zfS (fun x=>c x=c u) S (fun l hl=>by rw[h l hl]) t u e).mpr rfl)
structure zaX (L:List Lk) (π:List Nat) (x y:Int):Prop where
 inn:∀ q∈π,q < L.length
 walk:∀(c:Int→Int),(∀ q∈π,∀ l,L[q]?=some l→c l.1=c l.2.1)→c x=c y
 cut:∀ q∈π,∀ c:Int→Bool,Cut L q c→c x≠c y
theorem zaX.nil (L:List Lk) (x:Int):zaX L [] x x:=⟨by simp,fun _ _=>rfl,by simp⟩
theorem zaX.step {L:List Lk} {π:List Nat} {x y z:Int} {p:Nat} {l:Lk} (h:zaX L π x y) (hp:L[p]?=some l) (hz:(l.1=y∧l.2.1=z)∨(l.2.1=y∧l.1=z)) (np:p∉π):zaX L (π++[p]) x z:=by
 have lt:=(List.getElem?_eq_some_iff.mp hp).1
 refine⟨fun q hq=>?_,fun c hc=>?_,fun q hq c hc=>?_⟩
 ·rcases List.mem_append.mp hq with a | a
  ·exact h.inn q a
  ·rw[List.mem_singleton.mp a];exact lt
 ·have e1:=h.walk c fun q hq l hl=>hc q (List.mem_append_left _ hq) l hl
  have e2:=hc p (List.mem_append_right _ (List.mem_singleton.mpr rfl)) l hp
  rcases hz with ⟨a,b⟩ | ⟨a,b⟩
  ·rw[e1,←a,e2,b]
  ·rw[e1,←a,←e2,b]
 ·by_cases eq:q=p
  ·subst eq
   have e1:(if c x=true then(1:Int) else 0)=if c y=true then 1 else 0:=h.walk (fun t=>if c t=true then 1 else 0) fun q' hq' l' hl'=>by
    have:=hc q' l' hl'
    rw[if_neg (fun e:q'=q=>np (e ▸ hq'))]at this
    rw[this]
   have e2:=hc q l hp
   rw[if_pos rfl]at e2
   have e3:c x=c y:=by revert e1;cases c x <;> cases c y <;> simp
   rcases hz with ⟨a,b⟩ | ⟨a,b⟩
   ·rw[e3,←a,←b];exact e2
   ·rw[e3,←a,←b];exact fun z=>e2 z.symm
  ·have hq':q∈π:=by
    rcases List.mem_append.mp hq with a | a
    ·exact a
    ·exact absurd (List.mem_singleton.mp a) eq
   have e1:=h.cut q hq' c hc
   have e2:=hc p l hp
   rw[if_neg (fun e=>eq e.symm)]at e2
   rcases hz with ⟨a,b⟩ | ⟨a,b⟩
   ·rw[←b,←e2,a];exact e1
   ·rw[←b,e2,a];exact e1
theorem zaX.below {L:List Lk} (F:zfN L) {π:List Nat} {x y:Int} {k:Nat} (h:zaX L π x y) (e:hdL (L.take k) x=hdL (L.take k) y):∀ q∈π,q < k:=fun q hq=>by
 refine Decidable.byContradiction fun n=>?_
 obtain⟨c,hc⟩:=zh3 F (h.inn q hq)
 refine h.cut q hq c hc (zft c (S:=L.take k) (fun l hl=>?_) e)
 obtain⟨i,hi⟩:=List.mem_iff_getElem?.mp hl
 rw[List.getElem?_take]at hi
 split at hi
 ·have:=hc i l hi
  rw[if_neg (by omega)]at this
  exact this
 ·cases hi
theorem zaX.joins {L:List Lk} {π:List Nat} {x y:Int} (h:zaX L π x y):hdL L x=hdL L y:=h.walk (hdL L) fun q _ l hl=>zdD L l (List.mem_of_getElem? hl)
def zaW (ts:List Tm) (l:Lk):List (Int × Int):=if l.2.2=-1 then(match ts[l.1.toNat]?,ts[l.2.1.toNat]? with | some t,some u=>t.2.zip u.2 | _,_=>[]) else []
theorem zer {hd:Int→Int}:∀ {as bs:List Int},as.map hd=bs.map hd→∀ p∈as.zip bs,hd p.1=hd p.2
 | [],_,_,p,h=>by simp at h
 | _ :: _,[],h,_,_=>by simp at h
 | a :: as,b :: bs,h,p,hp=>by
  rw[List.map_cons,List.map_cons]at h
  injection h with h1 h2
  rw[List.zip_cons_cons]at hp
  rcases List.mem_cons.mp hp with e | e
  ·rw[e];exact h1
  ·exact zer h2 p e
theorem zfU {hd:Int→Int}:∀ {as bs:List Int},as.length=bs.length→(∀ p∈as.zip bs,hd p.1=hd p.2)→as.map hd=bs.map hd
 | [],[],_,_=>rfl
 | a :: as,b :: bs,h,hp=>by
  rw[List.map_cons,List.map_cons,hp (a,b) (by rw[List.zip_cons_cons];exact List.mem_cons_self),zfU (by simpa using h) fun p q=>hp p (by rw[List.zip_cons_cons];exact List.mem_cons_of_mem _ q)]
theorem zdG {ts:List Tm} {gs:List (Int × Int)} {L:List Lk} (R:zau ts gs L) {k:Nat} {l:Lk} (hl:L[k]?=some l):∀ p∈zaW ts l,hdL (L.take k) p.1=hdL (L.take k) p.2:=fun p hp=>by
 unfold zaW at hp
 split at hp
 ·rename_i e
  rcases(R k l hl).how with ⟨a,_⟩ | ⟨_,t,u,e1,e2,_,e4⟩
  ·omega
  ·rw[e1,e2]at hp
   exact zer e4 p hp
 ·simp at hp
structure zdL (ts:List Tm) (L:List Lk) (x y:Int) (M:List Nat):Prop where
 inn:∀ q∈M,q < L.length
 why:∀ q∈M,∃ π a b,zaX L π a b∧q∈π∧((a=x∧b=y)∨∃ p∈M,∃ l,L[p]?=some l∧(a,b)∈zaW ts l)
 top:∃ π,zaX L π x y∧∀ q∈π,q∈M
 all:∀ p∈M,∀ l,L[p]?=some l→∀ ab∈zaW ts l,∃ π,zaX L π ab.1 ab.2∧∀ q∈π,q∈M
def atP (L:List Lk) (M:List Nat):List Lk:=M.map fun q=>L.getD q (0,0,0)
theorem zd9 {L:List Lk} {q:Nat} {l:Lk} (h:L[q]?=some l):L.getD q (0,0,0)=l:=by rw[List.getD_eq_getElem?_getD,h];rfl
theorem zf6 {L:List Lk} {M:List Nat} {q:Nat} {l:Lk} (hq:q∈M) (h:L[q]?=some l):l∈atP L M:=List.mem_map.mpr ⟨q,hq,zd9 h⟩
theorem zhR {L:List Lk} {M:List Nat} (hM:∀ q∈M,q < L.length) {l:Lk} (h:l∈atP L M):∃ q∈M,L[q]?=some l:=by
 obtain⟨q,hq,e⟩:=List.mem_map.mp h
 have e2:=List.getElem?_eq_getElem (hM q hq)
 rw[zd9 e2]at e
 exact⟨q,hq,by rw[e2,e]⟩
def zb8 (ts:List Tm):List Lk→List Lk→Int→Int→Bool
 | pre,[],x,y=>decide (hdL pre x=hdL pre y)
 | pre,l :: zav,x,y=>if l.2.2=-1∧zb9 ts (hdL pre) l.1 l.2.1=false then false else zb8 ts (pre++[l]) zav x y
theorem zfQ {ts:List Tm} {x y:Int}:∀(zav pre:List Lk),(∀(i:Nat) l,zav[i]?=some l→l.2.2=-1→zd5 ts (hdL (pre++zav.take i)) l.1 l.2.1)→hdL (pre++zav) x=hdL (pre++zav) y→zb8 ts pre zav x y=true
 | [],pre,_,h2=>by
  rw[List.append_nil]at h2
  exact decide_eq_true h2
 | l :: zav,pre,h1,h2=>by
  unfold zb8
  have n:¬(l.2.2=-1∧zb9 ts (hdL pre) l.1 l.2.1=false):=fun⟨a,b⟩=>by
   have:=zet.mpr (h1 0 l rfl a)
   rw[List.take_zero,List.append_nil,b]at this
   cases this
  rw[if_neg n]
  refine zfQ zav (pre++[l]) (fun i m hi hm=>?_) ?_
  ·have:=h1 (i+1) m hi hm
   rw[List.take_succ_cons]at this
   rw[List.append_assoc]
   exact this
  ·rw[List.append_assoc]
   exact h2
theorem zgj {ts:List Tm} {x y:Int}:∀(zav pre:List Lk),zb8 ts pre zav x y=true→(∀ l∈zav,l.2.2=-1→zd5 ts (hdL (pre++zav)) l.1 l.2.1)∧hdL (pre++zav) x=hdL (pre++zav) y
 | [],pre,h=>by
  rw[List.append_nil]
  exact⟨by simp,of_decide_eq_true h⟩
 | l :: zav,pre,h=>by
  unfold zb8 at h
  split at h
  ·cases h
  ·rename_i n
   obtain⟨h1,h2⟩:=zgj zav (pre++[l]) h
   rw[List.append_assoc]at h1 h2
   refine⟨fun m hm e=>?_,h2⟩
   rcases List.mem_cons.mp hm with z | z
   ·subst z
    have a:zb9 ts (hdL pre) m.1 m.2.1=true:=by
     cases b:zb9 ts (hdL pre) m.1 m.2.1 with
     | true=>rfl
     | false=>exact absurd ⟨e,b⟩ n
    obtain⟨t,u,e1,e2,e3,e4⟩:=zet.mp a
    exact⟨t,u,e1,e2,e3,zdX _ e4⟩
   ·exact h1 m z e
theorem zdL.joins {ts:List Tm} {gs:List (Int × Int)} {L:List Lk} {x y:Int} {M:List Nat} (h:zdL ts L x y M) (R:zau ts gs L) (so:M.Pairwise (· < ·)):zb8 ts [] (atP L M) x y=true:=by
 refine zfQ _ _ (fun i l hi hm=>?_) ?_
 ·rw[List.nil_append]
  unfold atP at hi ⊢
  rw[List.getElem?_map]at hi
  obtain⟨q,hq,e⟩:=Option.map_eq_some_iff.mp hi
  have hqM:=List.mem_of_getElem? hq
  have e2:=List.getElem?_eq_getElem (h.inn q hqM)
  rw[zd9 e2]at e
  rw[e]at e2
  rcases(R q l e2).how with ⟨a,_⟩ | ⟨_,t,u,t1,t2,t3,t4⟩
  ·omega
  have len:t.2.length=u.2.length:=by have:=congrArg List.length t4;simpa using this
  refine⟨t,u,t1,t2,t3,zfU len fun ab hab=>?_⟩
  have hp:ab∈zaW ts l:=by unfold zaW;rw[if_pos hm,t1,t2];exact hab
  obtain⟨π,P,sub⟩:=h.all q hqM l e2 ab hp
  have low:=P.below (zc9 R) (zdG R e2 ab hp)
  refine P.walk _ fun r hr m hrm=>?_
  rw[←List.map_take]
  refine zdD _ m (zf6 (q:=r) ?_ hrm)
  have hrM:=sub r hr
  obtain⟨j,hj⟩:=List.mem_iff_getElem?.mp hrM
  have hjl:=(List.getElem?_eq_some_iff.mp hj)
  have hil:=(List.getElem?_eq_some_iff.mp hq)
  have lt:j < i:=by
   refine Decidable.byContradiction fun n=>?_
   have rq:=low r hr
   by_cases ej:j=i
   ·subst ej
    cases hj.symm.trans hq
    omega
   ·have:=List.pairwise_iff_getElem.mp so i j hil.1 hjl.1 (by omega)
    rw[hil.2,hjl.2]at this
    omega
  exact List.mem_of_getElem? (i:=j) (by rw[List.getElem?_take,if_pos lt];exact hj)
 ·rw[List.nil_append]
  obtain⟨π,P,sub⟩:=h.top
  exact P.walk _ fun r hr m hrm=>zdD _ m (zf6 (sub r hr) hrm)
theorem zdL.least {ts:List Tm} {gs:List (Int × Int)} {L:List Lk} {x y:Int} {M M':List Nat} {q:Nat} (h:zdL ts L x y M) (R:zau ts gs L) (hq:q∈M) (h1:∀ p∈M',p∈M∧p≠q) (h2:∀ p∈M,p≠q→p∈M'):zb8 ts [] (atP L M') x y=false:=by
 refine Bool.eq_false_iff.mpr fun z=>?_
 obtain⟨j1,j2⟩:=zgj _ _ z
 rw[List.nil_append]at j1 j2
 obtain⟨c,hc⟩:=zh3 (zc9 R) (h.inn q hq)
 have cst:∀ l∈atP L M',c l.1=c l.2.1:=fun l hl=>by
  obtain⟨p,hp,e⟩:=zhR (fun p hp=>h.inn p (h1 p hp).1) hl
  have:=hc p l e
  rw[if_neg (h1 p hp).2]at this
  exact this
 obtain⟨π,a,b,P,hqπ,w⟩:=h.why q hq
 refine P.cut q hqπ c hc ?_
 rcases w with ⟨rfl,rfl⟩ | ⟨p,hp,l,hl,hab⟩
 ·exact zft c cst j2
 ·by_cases ep:p=q
  ·subst ep
   have:=P.below (zc9 R) (zdG R hl (a,b) hab) p hqπ
   omega
  ·have hm:l.2.2=-1:=by
    unfold zaW at hab
    split at hab
    ·assumption
    ·simp at hab
   obtain⟨t,u,t1,t2,_,t4⟩:=j1 l (zf6 (h2 p hp ep) hl) hm
   unfold zaW at hab
   rw[if_pos hm,t1,t2]at hab
   exact zft c cst (zer t4 (a,b) hab)
end K14
namespace K14
open PySem L2
def nbr1 (L:List Lk) (t:Int) (i:Nat):List (Int × Int):=match L[i]? with
 | some l=>(if l.1=t then [(l.2.1,(i:Int))] else [])++(if l.2.1=t then [(l.1,(i:Int))] else [])
 | none=>[]
def nbr (L:List Lk) (n:Nat) (t:Int):List (Int × Int):=(List.range n).flatMap (nbr1 L t)
theorem ziY (L:List Lk) (n:Nat) (t:Int):nbr L (n+1) t=nbr L n t++nbr1 L t n:=by
 unfold nbr
 rw[List.range_succ,List.flatMap_append,List.flatMap_cons,List.flatMap_nil,List.append_nil]
theorem zjN {L:List Lk} {n:Nat} {t u p:Int} (h:(u,p)∈nbr L n t):∃(i:Nat) (l:Lk),p=(i:Int)∧L[i]?=some l∧((l.1=t∧l.2.1=u)∨(l.2.1=t∧l.1=u)):=by
 unfold nbr at h
 obtain⟨i,_,hi⟩:=List.mem_flatMap.mp h
 unfold nbr1 at hi
 cases e:L[i]? with
 | none=>rw[e]at hi;simp at hi
 | some l =>
  rw[e]at hi
  dsimp only at hi
  refine⟨i,l,?_⟩
  rcases List.mem_append.mp hi with a | a
  ·by_cases c:l.1=t
   ·rw[if_pos c]at a
    have:=List.mem_singleton.mp a
    injection this with a1 a2
    exact⟨a2,e,.inl ⟨c,a1.symm⟩⟩
   ·rw[if_neg c]at a;simp at a
  ·by_cases c:l.2.1=t
   ·rw[if_pos c]at a
    have:=List.mem_singleton.mp a
    injection this with a1 a2
    exact⟨a2,e,.inr ⟨c,a1.symm⟩⟩
   ·rw[if_neg c]at a;simp at a
theorem zjK {L:List Lk} {n i:Nat} {l:Lk} (hi:i < n) (h:L[i]?=some l):(l.2.1,(i:Int))∈nbr L n l.1∧(l.1,(i:Int))∈nbr L n l.2.1:=by
 unfold nbr
 constructor
 ·refine List.mem_flatMap.mpr ⟨i,List.mem_range.mpr hi,?_⟩
  unfold nbr1
  rw[h]
  dsimp only
  rw[if_pos rfl]
  exact List.mem_append_left _ (List.mem_singleton.mpr rfl)
 ·refine List.mem_flatMap.mpr ⟨i,List.mem_range.mpr hi,?_⟩
  unfold nbr1
  rw[h]
  dsimp only
  exact List.mem_append_right _ (by rw[if_pos rfl];exact List.mem_singleton.mpr rfl)
structure StD (K:W.Frag) (H0 H:Hp) (d:Addr) (kvs:List (Key × V)) (N:Int→List (Int × Int)) (b:Nat):Prop where
 hd:H d=some (.dK kvs)
 nd:H0 d=none
 len:kvs.length≤b
 big:∀ t,(N t).length≤b
 at_:∀ t,(zaz kvs (.inl t)=none∧N t=[])∨∃ l xs,zaz kvs (.inl t)=some (.ref l)∧H l=some (.lst xs)∧H0 l=none∧l≠d∧ad K H ((N t).map dP) xs
 inj:∀ t u l,zaz kvs (.inl t)=some (.ref l)→zaz kvs (.inl u)=some (.ref l)→t=u
 same:aj H0 H
theorem StD.step {K:W.Frag} {H0 H H':Hp} {d l:Addr} {kvs kvs':List (Key × V)} {N:Int→List (Int × Int)} {b:Nat} {k u i:Int} {xs':List V} (S:StD K H0 H d kvs N b) (same:aj H0 H') (hd:H' d=some (.dK kvs')) (len:kvs'.length≤b+1) (kt:zam H H')
  (hk:zaz kvs' (.inl k)=some (.ref l)) (hl:H' l=some (.lst xs')) (nl:H0 l=none) (ld:l≠d) (has:ad K H' ((N k++[(u,i)]).map dP) xs') (oth:∀ t,t≠k→zaz kvs' (.inl t)=zaz kvs (.inl t))
  (kl:∀ t l' ys,t≠k→zaz kvs (.inl t)=some (.ref l')→H l'=some (.lst ys)→H' l'=some (.lst ys)∧l'≠l):StD K H0 H' d kvs' (fun t=>if t=k then N t++[(u,i)] else N t) (b+1):=by
 refine⟨hd,S.nd,len,fun t=>?_,fun t=>?_,fun t v l2 h1 h2=>?_,same⟩
 ·have:=S.big t
  split
  ·rw[List.length_append];show _+1≤_;omega
  ·omega
 ·by_cases e:t=k
  ·subst e
   refine .inr ⟨l,xs',hk,hl,nl,ld,?_⟩
   rw[if_pos rfl]
   exact has
  ·rw[if_neg e,oth t e]
   rcases S.at_ t with a | ⟨l2,ys,a1,a2,a3,a4,a5⟩
   ·exact .inl a
   ·exact .inr ⟨l2,ys,a1,(kl t l2 ys e a1 a2).1,a3,a4,ad.keep kt (zaG _) a5⟩
 ·by_cases e1:t=k
  ·by_cases e2:v=k
   ·rw[e1,e2]
   ·subst e1
    rw[hk]at h1
    cases h1
    rw[oth v e2]at h2
    rcases S.at_ v with a | ⟨l3,ys,a1,a2,_⟩
    ·rw[a.1]at h2;cases h2
    ·rw[a1]at h2
     cases h2
     exact absurd rfl (kl v _ ys e2 a1 a2).2
  ·by_cases e2:v=k
   ·subst e2
    rw[hk]at h2
    cases h2
    rw[oth t e1]at h1
    rcases S.at_ t with a | ⟨l3,ys,a1,a2,_⟩
    ·rw[a.1]at h1;cases h1
    ·rw[a1]at h1
     cases h1
     exact absurd rfl (kl t _ ys e1 a1 a2).2
   ·rw[oth t e1]at h1
    rw[oth v e2]at h2
    exact S.inj t v l2 h1 h2
theorem StD.old {K:W.Frag} {H0 H:Hp} {d l e p:Addr} {kvs:List (Key × V)} {N:Int→List (Int × Int)} {b:Nat} {k u i:Int} {xs:List V} (S:StD K H0 H d kvs N b) (he:H e=none) (hp:(upd H e (.lst [])) p=none)
  (hk:zaz kvs (.inl k)=some (.ref l)) (hl:H l=some (.lst xs)) (has:ad K H ((N k).map dP) xs) (nl:H0 l=none) (ld:l≠d) :
  StD K H0 (upd (upd (upd H e (.lst [])) p (.tup [.int u,.int i])) l (.lst (xs++[.ref p]))) d kvs (fun t=>if t=k then N t++[(u,i)] else N t) (b+1):=by
 have s1:aj H (upd H e (.lst [])):=ah he _
 have s2:aj H (upd (upd H e (.lst [])) p (.tup [.int u,.int i])):=s1.trans (ah hp _)
 have n2:=ae (H:=upd H e (.lst [])) (a:=p) (o:=.tup [.int u,.int i])
 generalize upd (upd H e (.lst [])) p (.tup [.int u,.int i])=H2 at s2 n2
 have kt:zam H (upd H2 l (.lst (xs++[.ref p]))):=s2.kt.trans (zam.lst (s2 _ _ hl))
 have lp:p≠l:=fun z=>by rw[z,s2 _ _ hl]at n2;cases n2
 refine S.step (S.same.trans s2 |>.upd nl) (by rw[ap ld.symm];exact s2 _ _ S.hd) (by have:=S.len;omega) kt hk (ae ..) nl ld ?_ (fun _ _=>rfl) fun t l' ys ht h1 h2=>?_
 ·rw[List.map_append]
  refine ad.append (ad.keep kt (zaG _) has) (.cons (Has.tup' (SqT.of (by rw[ap lp];exact n2)) (.cons Has.int (.cons Has.int .nil))) .nil)
 ·have ne:l'≠l:=fun z=>ht (S.inj t k l (z ▸ h1) hk)
  exact⟨by rw[ap ne];exact s2 _ _ h2,ne⟩
theorem StD.new {K:W.Frag} {H0 H:Hp} {d e p:Addr} {kvs:List (Key × V)} {N:Int→List (Int × Int)} {b:Nat} {k u i:Int} (S:StD K H0 H d kvs N b) (he:H e=none) (hp:(upd (upd H e (.lst [])) d (.dK (zaI kvs (.inl k) (.ref e)))) p=none)
  (hk:zaz kvs (.inl k)=none) (nk:N k=[]) :
  StD K H0 (upd (upd (upd (upd H e (.lst [])) d (.dK (zaI kvs (.inl k) (.ref e)))) p (.tup [.int u,.int i])) e (.lst [.ref p])) d (zaI kvs (.inl k) (.ref e)) (fun t=>if t=k then N t++[(u,i)] else N t) (b+1):=by
 have ed:e≠d:=fun z=>by rw[z,S.hd]at he;cases he
 have ne0:H0 e=none:=by
  cases z:H0 e with
  | none=>rfl
  | some o=>rw[S.same _ _ z]at he;cases he
 have x1:zaO d H (upd (upd H e (.lst [])) d (.dK (zaI kvs (.inl k) (.ref e)))):=((ah he _).x d).trans (zaO.put _ _)
 have k1:zam H (upd (upd H e (.lst [])) d (.dK (zaI kvs (.inl k) (.ref e)))):=x1.kt S.hd
 have d1:=ae (H:=upd H e (.lst [])) (a:=d) (o:=.dK (zaI kvs (.inl k) (.ref e)))
 have e1:(upd (upd H e (.lst [])) d (.dK (zaI kvs (.inl k) (.ref e)))) e=some (.lst []):=by rw[ap ed,ae]
 generalize upd (upd H e (.lst [])) d (.dK (zaI kvs (.inl k) (.ref e)))=H1 at hp x1 k1 d1 e1
 have s2:aj H1 (upd H1 p (.tup [.int u,.int i])):=ah hp _
 have n2:=ae (H:=H1) (a:=p) (o:=.tup [.int u,.int i])
 generalize upd H1 p (.tup [.int u,.int i])=H2 at s2 n2
 have e2:=s2 _ _ e1
 have lp:p≠e:=fun z=>by rw[z,e2]at n2;cases n2
 have kt:zam H (upd H2 e (.lst [.ref p])):=(k1.trans s2.kt).trans (zam.lst e2)
 have sm:aj H0 (upd H2 e (.lst [.ref p])):=fun c o hc=>by
  have n1:c≠d:=fun z=>by rw[z,S.nd]at hc;cases hc
  have n2:c≠e:=fun z=>by rw[z,ne0]at hc;cases hc
  rw[ap n2]
  exact s2 _ _ (x1 _ _ n1 (S.same _ _ hc))
 refine S.step (l:=e) sm (by rw[ap ed.symm];exact s2 _ _ d1) (by have:=zcY kvs (Sum.inl k) (.ref e);have:=S.len;omega) kt (by rw[zcP,if_pos rfl]) (ae ..) ne0 ed ?_ (fun t ht=>by rw[zcP,if_neg (fun z=>ht (Sum.inl.inj z))]) fun t l' ys ht h1 h2=>?_
 ·rw[nk]
  exact .cons (Has.tup' (SqT.of (by rw[ap lp];exact n2)) (.cons Has.int (.cons Has.int .nil))) .nil
 ·have ne:l'≠e:=fun z=>by rw[z,he]at h2;cases h2
  have nd:l'≠d:=fun z=>by rw[z,S.hd]at h2;cases h2
  exact⟨by rw[ap ne];exact s2 _ _ (x1 _ _ nd h2),ne⟩
theorem zhN {K:W.Frag} {H0 H:Hp} {d e:Addr} {kvs:List (Key × V)} {N:Int→List (Int × Int)} {b:Nat} {k:Int} {Q:VK} (S:StD K H0 H d kvs N b) (hb:b≤1000) (he:H e=none)
  (q:∀ l xs H' kvs',aj H0 H'→H' l=some (.lst xs)→xs.length≤b→(∀ p u i,H' p=none→StD K H0 (upd (upd H' p (.tup [.int u,.int i])) l (.lst (xs++[.ref p]))) d kvs' (fun t=>if t=k then N t++[(u,i)] else N t) (b+1))→Q (.ref l) H') :
  zho (.ref d) [.int k,.ref e] (upd H e (.lst [])) Q:=by
 have ed:e≠d:=fun z=>by rw[z,S.hd]at he;cases he
 refine⟨d,.inl k,.ref e,kvs,rfl,rfl,by rw[ap ed.symm];exact S.hd,zcF (by have:=S.len;omega),?_⟩
 rcases S.at_ k with ⟨a1,a2⟩ | ⟨l,xs,a1,a2,a3,a4,a5⟩
 ·refine .inr ⟨a1,q e [] _ _ (fun c o hc=>?_) (by rw[ap ed,ae]) (Nat.zero_le _) fun p u i hp=>S.new he hp a1 a2⟩
  have n1:c≠d:=fun z=>by rw[z,S.nd]at hc;cases hc
  rw[ap n1]
  exact ah he _ _ _ (S.same _ _ hc)
 ·have hx:xs.length≤b:=by have:=a5.length;rw[List.length_map]at this;have:=S.big k;omega
  exact .inl ⟨_,a1,q l xs _ kvs (S.same.trans (ah he _)) (ah he _ _ _ a2) hx fun p u i hp=>S.old he hp a1 a2 a5 a3 a4⟩
section
variable {P:Program} {w:World} {K:W.Frag} {mg:Str→Option Value} {base:Heap} {f:Addr} {fd:FuncData}
def zdW (K:W.Frag):Sp:=fun vs H Q _=>∃(a:Addr) (ys:List V) (L:List Lk),vs=[.ref a]∧SqL K H a ys∧ad K H (L.map dL) ys∧L.length≤100∧∀(H':Hp) (d:Addr) (kvs:List (Key × V)),StD K H H' d kvs (nbr L L.length) (2 * L.length)→Q (.ref d) H'
theorem zcW:zap ["links","steps","place","link"] ["links"] (ai zcq):=⟨rfl,rfl,rfl,by decide +kernel,rfl,by decide +kernel,by decide +kernel⟩
theorem zgY (F:Fun K "steps_of" "steps_of" zcq f fd) (T:Txt K mg):zay P w K mg base CX0 1 f fd ["links"] (zdW K):=by
 refine F.ok zcW (fun vs H Q E h=>?_) (fun cdv A outer s H vs Q E hr h=>?_)
 ·obtain⟨a,ys,L,rfl,_⟩:=h
  rfl
 obtain⟨a,ys,L,rfl,hS,hL,L100,q⟩:=h
 have yl:ys.length=L.length:=by rw[←hL.length,List.length_map]
 refine⟨_,(af (aq (i:=1) zcW.nd rfl (Or.inl rfl) zdA)
  (af (zbe PassesOwn.never rfl (ze0 rfl T.enumerate (aa (pv 0) ac)) (zdp rfl (zaM (zan (i:=2) zcW.nd rfl (Or.inl rfl)) (zaM (zan (i:=3) zcW.nd rfl (Or.inl rfl)) zcb)))
   (af (zaZ (zb4 PySem.F.plainAttrs_list PySem.F.slot_list_append PySem.F.type_list_append zaH (zg6 (pv 1) (aa (ar zal (pv 3) ag (fun _ _=>rfl)) (aa (zaF ac) ac))) (aa (zaN (aa (ar zal (pv 3) ag (fun _ _=>rfl)) (aa (pv 2) ac))) ac)))
    (ak (zaZ (zb4 PySem.F.plainAttrs_list PySem.F.slot_list_append PySem.F.type_list_append zaH (zg6 (pv 1) (aa (ar zal (pv 3) ag (fun _ _=>rfl)) (aa (zaF ac) ac))) (aa (zaN (aa (ar zal (pv 3) ag (fun _ _=>rfl)) (aa (pv 2) ac))) ac))))))
  (ak (zaj (pv 1))))),?_⟩
 intro d hd
 have S0:StD K H (upd H d (.dK [])) d [] (nbr L 0) 0:=⟨ae ..,hd,Nat.le_refl _,fun t=>Nat.le_refl _,fun t=>.inl ⟨rfl,rfl⟩,fun t u l h1=>(by cases h1),ah hd _⟩
 generalize upd H d (.dK [])=H1 at S0
 refine⟨_,rfl,a,rfl,⟨_,S0.same.seq hS⟩,zcj zeS (fun i σ H'=>∃(v2 v3:Option V) (kvs:List (Key × V)),σ=[some (.ref a),some (.ref d),v2,v3]∧StD K H H' d kvs (nbr L i) (2 * i))
  (fun i σ H' ⟨_,_,_,_,S⟩=>S.same.seq hS) ⟨none,none,[],rfl,S0⟩ ?_ ?_⟩
 ·rintro i σ H2 x H3 hi ⟨v2,v3,kvs,rfl,S⟩ ⟨t,y,rfl,ht,rfl,hy⟩
  obtain⟨l,p,hl,rfl,hp⟩:=zcG hL (hy _ (S.same.seq hS))
  have s23:aj H2 (upd H2 t (.tup [.int i,.ref p])):=ah ht _
  have S3:StD K H (upd H2 t (.tup [.int i,.ref p])) d kvs (nbr L i) (2 * i):=⟨s23 _ _ S.hd,S.nd,S.len,S.big,fun u=>by
   rcases S.at_ u with a | ⟨l2,ys,a1,a2,a3,a4,a5⟩
   ·exact .inl a
   ·exact .inr ⟨l2,ys,a1,s23 _ _ a2,a3,a4,ad.keep s23.kt (zaG _) a5⟩,S.inj,S.same.trans s23⟩
  have n3:=ae (H:=H2) (a:=t) (o:=.tup [.int i,.ref p])
  generalize upd H2 t (.tup [.int i,.ref p])=H3 at S3 n3
  have a0:atI [V.int l.1,V.int l.2.1,V.int l.2.2] 0=some (.int l.1):=zad (j:=0) rfl
  have a1:atI [V.int l.1,V.int l.2.1,V.int l.2.2] 1=some (.int l.2.1):=zad (j:=1) rfl
  refine⟨t,_,rfl,SqT.of n3,rfl,_,_,rfl,_,_,rfl,rfl,?_⟩
  clear n3 s23 ht hy
  have i100:i < 100:=by omega
  refine⟨_,rfl,⟨d,_,rfl,S3.hd⟩,_,rfl,p,_,_,_,rfl,rfl,S3.same.tup hp,a0,lS0,fun e he=>?_⟩
  dsimp only [tNil]
  refine zhN S3 (by omega) he fun l1 xs H4 kvs4 s4 hl4 x4 k4=>?_
  refine⟨.inl ⟨rfl,_,SqL.of hl4⟩,_,rfl,p,_,_,_,rfl,rfl,s4.tup hp,a1,_,rfl,lS2,fun p5 hp5=>⟨l1,_,_,rfl,rfl,(by rw[ap (fun z=>by rw[←z,hl4]at hp5;cases hp5)];exact hl4),zcF (by omega),?_⟩⟩
  have S5:=k4 p5 l.2.1 i hp5
  generalize upd (upd H4 p5 (.tup [.int l.2.1,.int i])) l1 (.lst (xs++[.ref p5]))=H5 at S5
  refine⟨_,rfl,⟨d,_,rfl,S5.hd⟩,_,rfl,p,_,_,_,rfl,rfl,S5.same.tup hp,a1,lS0,fun e2 he2=>?_⟩
  dsimp only [tNil]
  refine zhN S5 (by omega) he2 fun l2 xs2 H6 kvs6 s6 hl6 x6 k6=>?_
  refine⟨.inl ⟨rfl,_,SqL.of hl6⟩,_,rfl,p,_,_,_,rfl,rfl,s6.tup hp,a0,_,rfl,lS2,fun p7 hp7=>⟨l2,_,_,rfl,rfl,(by rw[ap (fun z=>by rw[←z,hl6]at hp7;cases hp7)];exact hl6),zcF (by omega),?_⟩⟩
  have S7:=k6 p7 l.1 i hp7
  refine⟨_,_,kvs6,rfl,?_⟩
  have e:(fun t=>if t=l.2.1 then(if t=l.1 then nbr L i t++[(l.2.1,(i:Int))] else nbr L i t)++[(l.1,(i:Int))] else(if t=l.1 then nbr L i t++[(l.2.1,(i:Int))] else nbr L i t))=nbr L (i+1):=by
   funext t
   rw[ziY]
   unfold nbr1
   rw[hl]
   dsimp only
   by_cases c1:t=l.1
   ·by_cases c2:t=l.2.1
    ·rw[if_pos c2,if_pos c1,if_pos c1.symm,if_pos c2.symm,List.append_assoc]
    ·rw[if_neg c2,if_pos c1,if_pos c1.symm,if_neg (fun z=>c2 z.symm),List.append_nil]
   ·by_cases c2:t=l.2.1
    ·rw[if_pos c2,if_neg c1,if_neg (fun z=>c1 z.symm),if_pos c2.symm,List.nil_append]
    ·rw[if_neg c2,if_neg c1,if_neg (fun z=>c1 z.symm),if_neg (fun z=>c2 z.symm),List.append_nil,List.append_nil]
  rw[e]at S7
  exact S7
 rintro σ H2 ⟨v2,v3,kvs,rfl,S⟩
 refine⟨_,rfl,q H2 d kvs ?_⟩
 rw[yl]at S
 exact S
end
end K14
namespace K14
open PySem L2
abbrev bmV:List Value:=[.type "ValueError",.type "Exception",.type "BaseException",.type "object"]
theorem zgb (a b:Str):(a++b).length=a.length+b.length:=by
 show(a.cps++b.cps).size=a.cps.size+b.cps.size
 exact Array.size_append
theorem zg9 {n:Int} (h1:-1000≤n) (h2:n≤1000):n.natAbs.log2 < 1920∧((toString n:String):Str).length≤1002:=by
 have hb:n.natAbs≤1000:=by omega
 refine⟨?_,?_⟩
 ·by_cases h0:n.natAbs=0
  ·rw[h0]
   decide
  ·have:=(Nat.log2_lt h0 (k:=1920)).mpr (Nat.lt_of_le_of_lt hb (by decide +kernel))
   exact this
 ·have:=PyProof.Rows.len_str_of_int n
  omega
def plV (π:List Nat):List V:=π.map fun q:Nat=>V.int (q:Int)
def StR (K:W.Frag) (H:Hp) (d:Addr) (N:Int→List (Int × Int)):Prop:=∃ kvs,H d=some (.dK kvs)∧∀ t,(N t).length≤1000∧((zaz kvs (.inl t)=none∧N t=[])∨∃ l xs,zaz kvs (.inl t)=some (.ref l)∧H l=some (.lst xs)∧ad K H ((N t).map dP) xs)
theorem StR.same {K:W.Frag} {H H':Hp} {d:Addr} {N:Int→List (Int × Int)} (h:StR K H d N) (s:aj H H'):StR K H' d N:=by
 obtain⟨kvs,h1,h2⟩:=h
 refine⟨kvs,s _ _ h1,fun t=>⟨(h2 t).1,?_⟩⟩
 rcases(h2 t).2 with a | ⟨l,xs,a1,a2,a3⟩
 ·exact .inl a
 ·exact .inr ⟨l,xs,a1,s _ _ a2,ad.keep s.kt (zaG _) a3⟩
theorem StD.r {K:W.Frag} {H0 H:Hp} {d:Addr} {kvs:List (Key × V)} {N:Int→List (Int × Int)} {b:Nat} (S:StD K H0 H d kvs N b) (hb:b≤1000):StR K H d N:=⟨kvs,S.hd,fun t=>⟨Nat.le_trans (S.big t) hb,by
 rcases S.at_ t with a | ⟨l,xs,a1,a2,_,_,a3⟩
 ·exact .inl a
 ·exact .inr ⟨l,xs,a1,a2,a3⟩⟩⟩
structure zb6 (K:W.Frag) (H0 H:Hp) (fd wl:Addr) (L:List Lk) (n:Nat) (x:Int) (kf:List (Key × V)) (F W:List Int):Prop where
 same:aj H0 H
 hf:H fd=some (.dK kf)
 hw:H wl=some (.lst (W.map V.int))
 keys:kf.map (·.1)=F.map Sum.inl
 nd:F.Nodup
 inn:∀ t∈F,0≤t∧t < (n:Int)
 st:x∈F
 sub:∀ t∈W,t∈F
 wb:W.length≤2 * F.length
 val:∀ t v,zaz kf (.inl t)=some v→∃ p π,v=.ref p∧SqT K H p (plV π)∧zaX L π x t∧π.length < F.length∧∀ q∈π,∀ l,L[q]?=some l→l.1∈F∧l.2.1∈F
theorem zb6.len {K:W.Frag} {H0 H:Hp} {fd wl:Addr} {L:List Lk} {n:Nat} {x:Int} {kf:List (Key × V)} {F W:List Int} (S:zb6 K H0 H fd wl L n x kf F W):F.length≤n:=zbG n S.nd S.inn
theorem zb6.to {K:W.Frag} {H0 H H2:Hp} {fd wl:Addr} {L:List Lk} {n:Nat} {x:Int} {kf:List (Key × V)} {F W:List Int} (S:zb6 K H0 H fd wl L n x kf F W) (s:aj H H2):zb6 K H0 H2 fd wl L n x kf F W :=
 ⟨S.same.trans s,s _ _ S.hf,s _ _ S.hw,S.keys,S.nd,S.inn,S.st,S.sub,S.wb,fun t v h=>let ⟨p,π,a,b,c⟩:=S.val t v h;⟨p,π,a,s.tup b,c⟩⟩
theorem zb6.add {K:W.Frag} {H0 H:Hp} {fd wl pc:Addr} {L:List Lk} {n:Nat} {x u:Int} {kf:List (Key × V)} {F W:List Int} {π:List Nat} (S:zb6 K H0 H fd wl L n x kf F W) (nf:H0 fd=none) (nw:H0 wl=none)
  (hu:u∉F) (ub:0≤u∧u < (n:Int)) (hp:SqT K H pc (plV π)) (P:zaX L π x u) (pl:π.length≤F.length) (en:∀ q∈π,∀ l,L[q]?=some l→l.1∈F++[u]∧l.2.1∈F++[u]) :
  zb6 K H0 (upd (upd H fd (.dK (zaI kf (.inl u) (.ref pc)))) wl (.lst (W.map V.int++[.int u]))) fd wl L n x (zaI kf (.inl u) (.ref pc)) (F++[u]) (W++[u]):=by
 have ne:fd≠wl:=fun e=>by have:=S.hf;rw[e,S.hw]at this;cases this
 have x1:zaO fd H (upd H fd (.dK (zaI kf (.inl u) (.ref pc)))):=zaO.put _ _
 have w1:(upd H fd (.dK (zaI kf (.inl u) (.ref pc)))) wl=some (.lst (W.map V.int)):=by rw[ap ne.symm];exact S.hw
 have kt:zam H (upd (upd H fd (.dK (zaI kf (.inl u) (.ref pc)))) wl (.lst (W.map V.int++[.int u]))):=(x1.kt S.hf).trans (zam.lst w1)
 have keys:(zaI kf (.inl u) (.ref pc)).map (·.1)=(F++[u]).map Sum.inl:=by
  have:=zhU S.keys u (.ref pc)
  unfold addK at this
  rw[if_neg hu]at this
  exact this
 refine⟨(S.same.upd nf).upd nw,by rw[ap ne,ae],by rw[ae,List.map_append];rfl,keys,?_,?_,List.mem_append_left _ S.st,?_,?_,?_⟩
 ·refine List.nodup_append.mpr ⟨S.nd,by simp,fun a ha b hb=>?_⟩
  rw[List.mem_singleton.mp hb]
  exact fun e=>hu (e ▸ ha)
 ·intro t ht
  rcases List.mem_append.mp ht with a | a
  ·exact S.inn t a
  ·rw[List.mem_singleton.mp a];exact ub
 ·intro t ht
  rcases List.mem_append.mp ht with a | a
  ·exact List.mem_append_left _ (S.sub t a)
  ·exact List.mem_append_right _ a
 ·have:=S.wb
  rw[List.length_append,List.length_append]
  show _+1≤2 * (_+1)
  omega
 ·intro t v h
  rw[zcP]at h
  split at h
  ·rename_i e
   cases h
   cases Sum.inl.inj e
   exact⟨pc,π,rfl,kt.sq hp,P,by rw[List.length_append];show _ < _+1;omega,en⟩
  ·obtain⟨p,ρ,a,b,c,d,e⟩:=S.val t v h
   exact⟨p,ρ,a,kt.sq b,c,by rw[List.length_append];omega,fun q hq l hl=>⟨List.mem_append_left _ (e q hq l hl).1,List.mem_append_left _ (e q hq l hl).2⟩⟩
section
variable {P:Program} {w:World} {K:W.Frag} {mg:Str→Option Value} {base:Heap} {f CJ:Addr} {fd:FuncData}
theorem Fun.okX {x qual:Str} {st:Stmt} {f:Addr} {fd:FuncData} {N ps:List Str} {k:Nat} {sp:Sp} (F:Fun K x qual st f fd) (S:zap N ps (ai st)) (len:∀ vs H Q E,sp vs H Q E→vs.length=ps.length)
  (hbody:∀(cdv:Value) (A:Around) (outer:List Env) (s:Shared) (H:Hp) (vs:List V) (Q:VK) (E:XK),zaE k (A.deeper (PyProof.Rows.envOfC qual (ai st) s.heap.objs.size f cdv))→sp vs H Q E →
   ∃ t,PSs (zb2 (CX1 P w) P w K mg base N qual (ai st) f cdv A outer s H E) (zae st) t∧t { nx:=fun _ H'=>Q .non H',rt:=Q } (zda N vs) H):zay P w K mg base (CX1 P w) (k+1) f fd ps sp:=by
 obtain⟨oc,od,kV,doc,pm,an,cdv,ct,osl,rfl,lk,hcd⟩:=F.ex
 exact fn_of lk hcd S len fun A outer s H vs Q E hr hsp=>hbody cdv A outer s H vs Q E hr hsp
theorem xe1 {N:List Str} {qual:Str} {scope:Scope} {f:Addr} {cd:Value} {A:Around} {outer:List Env} {s:Shared} {H:Hp} {E:XK}:Xe1 (zb2 (CX1 P w) P w K mg base N qual scope f cd A outer s H E) E:=⟨rfl,rfl,rfl,rfl⟩
theorem passF {P:Program} {w:World} {X:Cx}:zct (CX1 P w) X E0:=fun _ _ _ _ _ _ _ h=>by
 obtain⟨_,_,_,_,_,_,_,_,_,_,_,_,_,hE⟩:=h
 exact hE.elim
def zgw (K:W.Frag) (CJ:Addr):Sp:=fun vs H Q E=>∃(d:Addr) (x y:Int) (L:List Lk) (n:Nat),vs=[.ref d,.int x,.int y]∧StR K H d (nbr L L.length)∧InN n L∧n≤100∧(0≤x∧x < (n:Int))∧(0≤y∧y < (n:Int)) ∧
 (hdL L x=hdL L y→∀(H':Hp) (p:Addr) (π:List Nat),aj H H'→SqT K H' p (plV π)→zaX L π x y→π.length < n→Q (.ref p) H')∧(hdL L x≠hdL L y→∀ H',aj H H'→E (.ref CJ) none H')
theorem zex:zap ["steps","one","other","found","waiting","term","step"] ["steps","one","other"] (ai zdb):=⟨rfl,rfl,rfl,by decide +kernel,rfl,by decide +kernel,by decide +kernel⟩
abbrev NWy:List Str:=["steps","one","other","found","waiting","term","step"]
theorem ziA (T:Txt K mg) (bJ:mg "NotJoined"=some (.ref CJ)) (xJ:W.excIn K CJ bmV "ValueError.__new__"=true) {cdv:Value} {A:Around} {outer:List Env} {s:Shared} {H0:Hp} {E:XK} {k:Nat} (hr:zaE k (A.deeper (PyProof.Rows.envOfC "way" (ai zdb) s.heap.objs.size f cdv))) :
  ∃ t,PSs (zb2 (CX1 P w) P w K mg base NWy "way" (ai zdb) f cdv A outer s H0 E) ((zae zdb).drop 3) t∧∀(Q:VK) (H H':Hp) (d fd wl:Addr) (x y:Int) (L:List Lk) (n:Nat) (kf:List (Key × V)) (F W:List Int) (v5 v6:Option V),zb6 K H H' fd wl L n x kf F W→(0≤x∧x < (n:Int))→(0≤y∧y < (n:Int))→n≤100→(y∈F∨∀ t∈F,∀ up∈nbr L L.length t,up.1∈F) →
   (hdL L x=hdL L y→∀(H':Hp) (p:Addr) (π:List Nat),aj H H'→SqT K H' p (plV π)→zaX L π x y→π.length < n→Q (.ref p) H')→(hdL L x≠hdL L y→∀ H',aj H H'→E (.ref CJ) none H') →
   t { nx:=fun _ H'=>Q .non H',rt:=Q } [some (.ref d),some (.int x),some (.int y),some (.ref fd),some (.ref wl),v5,v6] H':=by
 have hu:=zeP hr
 refine⟨_,(af (zaA (zfE (zdN hu (pv 2) (pv 3)))
   (ak (ziE (C:=CJ) xe1 rfl rfl bJ PySem.F.excBase_ValueError xJ (aa (zid (zeZ zaV (zeZ (pe_fv (pv 1)) (zeZ zaV (zeZ (pe_fv (pv 2)) pj_nil))))) ac)))
   zaq)
  (ak (zaj (zg7 hu (pv 3) (pv 2) (fun _ _=>rfl))))),?_⟩
 intro Q H H' d fd wl x y L n kf F W v5 v6 S hx hy n100 cl qY qN
 refine⟨_,rfl,_,rfl,fd,_,rfl,zbP.k (k:=.inl y) S.hf,_,rfl,?_⟩
 rw[zd2 S.keys y]
 by_cases c:y∈F
 ·rw[decide_eq_true c]
  have hs:(zaz kf (.inl y)).isSome=true:=by rw[zd2 S.keys y];exact decide_eq_true c
  obtain⟨v,hv⟩:=Option.isSome_iff_exists.mp hs
  obtain⟨p,π,rfl,hp,PO,pl,_⟩:=S.val y v hv
  have fl:=S.len
  have g:=zbP.k (k:=.inl y) S.hf
  rw[hv]at g
  exact zax ⟨_,rfl,_,rfl,fd,_,rfl,g,qY PO.joins H' p π S.same hp PO (by omega)⟩
 ·rw[decide_eq_false c]
  obtain⟨a1,a2⟩:=zg9 (n:=x) (by omega) (by omega)
  obtain⟨b1,b2⟩:=zg9 (n:=y) (by omega) (by omega)
  have nj:hdL L x≠hdL L y:=fun e=>by
   rcases cl with z | z
   ·exact c z
   ·refine c ((zfS (fun t=>t∈F) L (fun l hl=>?_) x y e).mp S.st)
    obtain⟨i,hi⟩:=List.mem_iff_getElem?.mp hl
    obtain⟨m1,m2⟩:=zjK (List.getElem?_eq_some_iff.mp hi).1 hi
    exact⟨fun h=>z _ h (l.2.1,(i:Int)) m1,fun h=>z _ h (l.1,(i:Int)) m2⟩
  have e1:(Str.empty++("no links lead from ":Str)).length≤100:=by decide +kernel
  have e2:(" to ":Str).length≤100:=by decide +kernel
  have w1:(Str.empty++("no links lead from ":Str)++((toString x:String):Str)).length≤2000:=by rw[zgb];omega
  have w2:(Str.empty++("no links lead from ":Str)++((toString x:String):Str)++(" to ":Str)).length≤3000:=by rw[zgb];omega
  have w3:(Str.empty++("no links lead from ":Str)++((toString x:String):Str)++(" to ":Str)++((toString y:String):Str)).length≤5000:=by rw[zgb];omega
  exact zaQ ⟨_,rfl,zcV (by omega),_,rfl,.inr ⟨x,rfl,a1,_,rfl,zcV (by omega),_,rfl,zcV (by omega),_,rfl,.inr ⟨y,rfl,b1,_,rfl,zcV (by omega),zcV (by omega),(by show 1≤sizeLine;decide),qN nj H' S.same⟩⟩⟩
theorem ok_way (F:Fun K "way" "way" zdb f fd) (T:Txt K mg) (bJ:mg "NotJoined"=some (.ref CJ)) (xJ:W.excIn K CJ bmV "ValueError.__new__"=true):zay P w K mg base (CX1 P w) 1 f fd ["steps","one","other"] (zgw K CJ):=by
 refine Fun.okX F zex (fun vs H Q E h=>?_) (fun cdv A outer s H vs Q E hr h=>?_)
 ·obtain⟨d,x,y,L,n,rfl,_⟩:=h
  rfl
 obtain⟨d,x,y,L,n,rfl,hSt,hN,n100,hx,hy,qY,qN⟩:=h
 have hu:=zeP hr
 obtain⟨tt,ht,tq⟩:=ziA (P:=P) (w:=w) (base:=base) (f:=f) (cdv:=cdv) (outer:=outer) (H0:=H) (E:=E) T bJ xJ hr
 refine⟨_,(af (aq (i:=3) zex.nd rfl (Or.inl rfl) (pe_d1 (pv 1) (zaN ac)))
  (af (aq (i:=4) zex.nd rfl (Or.inl rfl) (zaF (aa (pv 1) ac)))
  (af (zdz PassesOwn.leaving (PW.pt (zc1 (zag zeN (zab zaa rfl T.len PySem.boot_len (aa (pv 4) ac)) ag (zas _)) (zcB (zfE (zdN hu (pv 2) (pv 3))))))
   (af (aq (i:=5) zex.nd rfl (Or.inl rfl) (zhQ PySem.F.plainAttrs_list PySem.F.slot_list_pop PySem.F.type_list_pop zhS (pv 4)))
    (ak (zbe PassesOwn.leaving rfl (zbw (zem hu (pv 0) (pv 5) (zaF ac) ⟨rfl,rfl,rfl,rfl⟩)) (zan (i:=6) zex.nd rfl (Or.inl rfl))
     (ak (zaA (zfE (zdN hu (ar zal (pv 6) ag (fun _ _=>rfl)) (pv 3)))
       (af (zeY hu (pv 3) (ar zal (pv 6) ag (fun _ _=>rfl)) (ao zjy (zg7 hu (pv 3) (pv 5) (fun _ _=>rfl)) (zaN (aa (ar zal (pv 6) ag (fun _ _=>rfl)) ac))) rfl)
        (ak (zaZ (zb4 PySem.F.plainAttrs_list PySem.F.slot_list_append PySem.F.type_list_append zaH (pv 4) (aa (ar zal (pv 6) ag (fun _ _=>rfl)) ac)))))
       zaq))))))
  ht))),?_⟩
 intro fd hfd
 refine⟨_,rfl,lS0,fun pt hpt=>⟨.inl x,rfl,?_,?_⟩⟩
 ·rw[ap (fun e=>by rw[←e,ae]at hpt;cases hpt),ae]
 have nfd:fd≠pt:=fun e=>by rw[←e,ae]at hpt;cases hpt
 have npt:H pt=none:=by
  have h0:=hpt
  rw[ap nfd.symm]at h0
  exact h0
 have s1:aj H (upd (upd (upd H fd (.dK [])) pt (.tup [])) fd (.dK [(.inl x,.ref pt)])):=((ah hfd _).upd npt).upd hfd
 have f1:=ae (H:=upd (upd H fd (.dK [])) pt (.tup [])) (a:=fd) (o:=.dK [(.inl x,.ref pt)])
 have t1:(upd (upd (upd H fd (.dK [])) pt (.tup [])) fd (.dK [(.inl x,.ref pt)])) pt=some (.tup []):=by rw[ap nfd.symm,ae]
 generalize upd (upd (upd H fd (.dK [])) pt (.tup [])) fd (.dK [(.inl x,.ref pt)])=H1 at s1 f1 t1
 refine⟨_,rfl,lS1,fun wl hwl=>?_⟩
 have nwl:H wl=none:=s1.free hwl
 have S0:zb6 K H (upd H1 wl (.lst [.int x])) fd wl L n x [(.inl x,.ref pt)] [x] [x]:=by
  have s2:aj H1 (upd H1 wl (.lst [.int x])):=ah hwl _
  refine⟨s1.trans s2,s2 _ _ f1,ae ..,rfl,by simp,fun t ht=>by rw[List.mem_singleton.mp ht];exact hx,List.mem_cons_self,fun t ht=>ht,by simp,fun t v h=>?_⟩
  by_cases e:(Sum.inl x:Key)=.inl t
  ·rw[zbm e]at h
   cases h
   cases Sum.inl.inj e
   exact⟨pt,[],rfl,SqT.of (s2 _ _ t1),zaX.nil L x,by simp,fun q hq=>by simp at hq⟩
  ·rw[zbn e]at h
   cases h
 generalize upd H1 wl (.lst [.int x])=H2 at S0
 clear s1 f1 t1 hwl hpt
 let Cl:List Int→List Int→Prop:=fun F W=>∀ t∈F,t∉W→∀ up∈nbr L L.length t,up.1∈F
 refine⟨fun m σ H'=>∃(v5 v6:Option V) (kf:List (Key × V)) (F W:List Int),σ=[some (.ref d),some (.int x),some (.int y),some (.ref fd),some (.ref wl),v5,v6]∧zb6 K H H' fd wl L n x kf F W∧Cl F W∧m=2 * (n - F.length)+W.length,
  ⟨_,none,none,_,[x],[x],rfl,S0,(fun t ht hn=>absurd ht hn),rfl⟩,?_⟩
 rintro m σ H3 ⟨v5,v6,kf,F,W,rfl,S,cl,rfl⟩
 have inF:∀ {H' kf F W},zb6 K H H' fd wl L n x kf F W→∀ u,(zaz kf (.inl u)).isSome=decide (u∈F):=fun S u=>zd2 S.keys u
 refine⟨_,rfl,wl,_,rfl,.inl (SqL.of S.hw),_,_,rfl,rfl,_,rfl,?_⟩
 by_cases cW:W=[]
 ·subst cW
  exact zax (zax (tq Q H H3 d fd wl x y L n kf F [] v5 v6 S hx hy n100 (.inr fun t ht up hup=>cl t ht (by simp) up hup) qY qN))
 have wp:0 < W.length:=List.length_pos_iff.mpr cW
 rw[show decide ((((W.map V.int).length:Nat):Int) > 0)=true from decide_eq_true (by rw[List.length_map];omega)]
 refine zaQ ⟨_,rfl,_,rfl,fd,_,rfl,zbP.k (k:=.inl y) S.hf,_,rfl,?_⟩
 rw[inF S y]
 by_cases cy:y∈F
 ·rw[decide_eq_true cy]
  exact zax (tq Q H H3 d fd wl x y L n kf F W v5 v6 S hx hy n100 (.inl cy) qY qN)
 rw[decide_eq_false cy]
 refine zaQ ⟨fun σ' H'=>∃(v5 v6:Option V) (kf':List (Key × V)) (F' W':List Int),σ'=[some (.ref d),some (.int x),some (.int y),some (.ref fd),some (.ref wl),v5,v6]∧zb6 K H H' fd wl L n x kf' F' W'∧Cl F' W'∧2 * (n - F'.length)+W'.length < 2 * (n - F.length)+W.length,?_,?_⟩
 ·rintro σ' H' ⟨v5',v6',kf',F',W',rfl,a,b,c⟩
  exact⟨_,c,v5',v6',kf',F',W',rfl,a,b,rfl⟩
 obtain⟨W0,t,rfl⟩:∃ W0 t,W=W0++[t]:=⟨W.dropLast,W.getLast cW,(List.dropLast_concat_getLast cW).symm⟩
 have tF:t∈F:=S.sub t (by simp)
 refine⟨_,rfl,.inl ⟨rfl,_,SqL.of S.hw⟩,wl,_,.int t,rfl,rfl,S.hw,?_,?_⟩
 ·rw[List.map_append,List.length_append,List.getElem?_append_right (by show _≤_+1 - 1;omega)]
  show [V.int t][_]?=_
  rw[show(W0.map V.int).length+([t].map V.int).length - 1 - (W0.map V.int).length=0 by show _+1 - 1 - _=0;omega]
  rfl
 have ew:((W0++[t]).map V.int).dropLast=W0.map V.int:=by rw[List.map_append];simp
 rw[ew]
 have nwf:fd≠wl:=fun e=>by have:=S.hf;rw[e,S.hw]at this;cases this
 have S1:zb6 K H (upd H3 wl (.lst (W0.map V.int))) fd wl L n x kf F W0:=⟨S.same.upd nwl,by rw[ap nwf];exact S.hf,ae ..,S.keys,S.nd,S.inn,S.st,fun u hu=>S.sub u (List.mem_append_left _ hu),by have:=S.wb;rw[List.length_append]at this;omega,fun u v h=>let ⟨p,π,a,b,c⟩:=S.val u v h;⟨p,π,a,(zam.lst S.hw).sq b,c⟩⟩
 generalize upd H3 wl (.lst (W0.map V.int))=H4 at S1
 obtain⟨kst,hst,stAt⟩:=hSt.same S1.same
 refine⟨_,rfl,d,rfl,.inl ⟨_,.inl hst⟩,_,rfl,lS0,fun e he=>⟨_,zbP.k (k:=.inl t) (ah he _ _ _ hst),?_⟩⟩
 have s5:aj H4 (upd H4 e (.lst [])):=ah he _
 have S5:=S1.to s5
 obtain⟨lv,xs,elv,hlv,hxs,nlw,nlf⟩:∃ lv xs,(zaz kst (.inl t)).getD (.ref e)=.ref lv∧(upd H4 e (.lst [])) lv=some (.lst xs)∧ad K (upd H4 e (.lst [])) ((nbr L L.length t).map dP) xs∧lv≠wl∧lv≠fd:=by
  rcases(stAt t).2 with ⟨a1,a2⟩ | ⟨l,xs,a1,a2,a3⟩
  ·rw[a1,a2]
   exact⟨e,[],rfl,ae ..,ad.nil,(fun z=>by rw[z,S1.hw]at he;cases he),(fun z=>by rw[z,S1.hf]at he;cases he)⟩
  ·rw[a1]
   obtain⟨_,hst0,stAt0⟩:=hSt
   cases (S1.same _ _ hst0).symm.trans hst
   rcases(stAt0 t).2 with ⟨b1,_⟩ | ⟨l',xs',b1,b2,_⟩
   ·rw[a1]at b1;cases b1
   ·cases a1.symm.trans b1
    exact⟨l,xs,rfl,s5 _ _ a2,ad.keep s5.kt (zaG _) a3,(fun z=>by rw[z,nwl]at b2;cases b2),(fun z=>by rw[z,hfd]at b2;cases b2)⟩
 rw[elv]
 have big:=(stAt t).1
 generalize upd H4 e (.lst [])=H5 at s5 S5 hlv hxs
 have xl:xs.length=(nbr L L.length t).length:=by rw[←hxs.length,List.length_map]
 refine⟨lv,rfl,⟨_,SqL.of hlv⟩,zcj zbv (fun i σ H'=>∃(v6:Option V) (kf':List (Key × V)) (F' W':List Int),σ=[some (.ref d),some (.int x),some (.int y),some (.ref fd),some (.ref wl),some (.int t),v6]∧zb6 K H H' fd wl L n x kf' F' W'∧zaw fd wl H5 H'∧(∀ u∈F,u∈F')∧(∀ u∈W0,u∈W')∧(∀ u∈F',u∈F∨u∈W')∧(∀ j up,j < i→(nbr L L.length t)[j]?=some up→up.1∈F')∧2 * (n - F'.length)+W'.length≤2 * (n - F.length)+W0.length)
  (fun i σ H' ⟨_,_,_,_,_,_,sg,_⟩=>SqL.of (sg _ _ nlf nlw hlv)) ⟨v6,kf,F,W0,rfl,S5,aj.g (aj.refl _),(fun _ h=>h),(fun _ h=>h),(fun _ h=>.inl h),(fun j up hj=>absurd hj (Nat.not_lt_zero _)),Nat.le_refl _⟩ ?_ ?_⟩
 ·rintro i σ H7 z H6 hi ⟨v6,kf6,F6,W6,rfl,S6,sg6,f6,w6,fw6,n6,m6⟩ ⟨rfl,hz⟩
  obtain⟨up,p,hup,rfl,hp5⟩:=ze3 hxs (hz _ (SqL.of (sg6 _ _ nlf nlw hlv)))
  have hp:SqT K H6 p [.int up.1,.int up.2]:=by
   rcases hp5 with a | a
   ·rcases a with a | ⟨o,a⟩
    ·exact .inl (.inl (sg6 _ _ (fun e=>by rw[e,S5.hf]at a;cases a) (fun e=>by rw[e,S5.hw]at a;cases a) a))
    ·exact .inl (.inr ⟨o,sg6 _ _ (fun e=>by rw[e,S5.hf]at a;cases a) (fun e=>by rw[e,S5.hw]at a;cases a) a⟩)
   ·exact .inr a
  have a0:atI [V.int up.1,V.int up.2] 0=some (.int up.1):=zad (j:=0) rfl
  have a1:atI [V.int up.1,V.int up.2] 1=some (.int up.2):=zad (j:=1) rfl
  refine⟨_,rfl,p,_,_,_,rfl,rfl,hp,a0,_,rfl,fd,_,rfl,zbP.k (k:=.inl up.1) S6.hf,_,rfl,?_⟩
  rw[inF S6 up.1]
  by_cases c:up.1∈F6
  ·rw[decide_eq_true c]
   refine zax ⟨_,kf6,F6,W6,rfl,S6,sg6,f6,w6,fw6,fun j r hj hr'=>?_,m6⟩
   by_cases z:j=i
   ·subst z
    cases hup.symm.trans hr'
    exact c
   ·exact n6 j r (by omega) hr'
  rw[decide_eq_false c]
  have tF6:t∈F6:=f6 t tF
  have hs:(zaz kf6 (.inl t)).isSome=true:=by rw[inF S6 t];exact decide_eq_true tF6
  obtain⟨v,hv⟩:=Option.isSome_iff_exists.mp hs
  obtain⟨pt2,π,rfl,hpt2,PO,pl,ends⟩:=S6.val t v hv
  have g:=zbP.k (k:=.inl t) S6.hf
  rw[hv]at g
  obtain⟨i',l,ei',hl,hor⟩:=zjN (List.mem_of_getElem? hup)
  have fl6:=S6.len
  refine zaQ ⟨_,rfl,_,rfl,fd,_,rfl,g,_,rfl,p,_,_,_,rfl,rfl,hp,a1,lS1,fun q8 hq8=>⟨pt2,q8,_,_,rfl,rfl,((ah hq8 _).tup hpt2),SqT.of (ae ..),?_,fun H9 pc s9 hpc=>?_⟩⟩
  ·unfold plV
   rw[List.length_map]
   exact zcV (by show _+1≤_;omega)
  have s69:aj H6 H9:=(ah hq8 _).trans s9
  have S9:=S6.to s69
  have ep:plV π++[V.int up.2]=plV (π++[i']):=by unfold plV;rw[List.map_append,ei'];rfl
  rw[ep]at hpc
  have ub:0≤up.1∧up.1 < (n:Int):=by
   have:=hN l (List.mem_of_getElem? hl)
   rcases hor with ⟨_,b⟩ | ⟨_,b⟩
   ·rw[←b];exact this.2
   ·rw[←b];exact this.1
  have np:i'∉π:=fun hm=>by
   have:=ends i' hm l hl
   rcases hor with ⟨_,b⟩ | ⟨_,b⟩
   ·exact c (b ▸ this.2)
   ·exact c (b ▸ this.1)
  have PO2:=PO.step hl hor np
  refine⟨_,rfl,_,rfl,p,_,_,_,rfl,rfl,s69.tup hp,a0,fd,_,rfl,.inl ⟨_,.inl up.1,S9.hf,rfl,zcF (by rw[zhV S9.keys];omega),rfl⟩,?_⟩
  have S10:=S9.add hfd nwl c ub hpc PO2 (by rw[List.length_append];show _+1≤_;omega) fun q hq m hm=>by
   rcases List.mem_append.mp hq with a | a
   ·exact⟨List.mem_append_left _ (ends q a m hm).1,List.mem_append_left _ (ends q a m hm).2⟩
   ·rw[List.mem_singleton.mp a,hl]at hm
    cases hm
    rcases hor with ⟨b1,b2⟩ | ⟨b1,b2⟩
    ·exact⟨List.mem_append_left _ (b1 ▸ tF6),List.mem_append_right _ (by rw[b2];simp)⟩
    ·exact⟨List.mem_append_right _ (by rw[b2];simp),List.mem_append_left _ (b1 ▸ tF6)⟩
  have sg10:zaw fd wl H5 (upd (upd H9 fd (.dK (zaI kf6 (.inl up.1) (.ref pc)))) wl (.lst (W6.map V.int++[.int up.1]))):=((sg6.trans s69.g).trans (zaw.put1 _ _)).trans (zaw.put2 _ _)
  have hpk:SqT K (upd H9 fd (.dK (zaI kf6 (.inl up.1) (.ref pc)))) p [.int up.1,.int up.2]:=(zaO.kt (zaO.put _ _) S9.hf).sq (s69.tup hp)
  have hwk:(upd H9 fd (.dK (zaI kf6 (.inl up.1) (.ref pc)))) wl=some (.lst (W6.map V.int)):=by rw[ap nwf.symm];exact S9.hw
  refine⟨_,rfl,.inl ⟨rfl,_,SqL.of hwk⟩,_,rfl,p,_,_,_,rfl,rfl,hpk,a0,wl,_,_,rfl,rfl,hwk,zcF (by rw[List.length_map];have:=S9.wb;omega),?_⟩
  refine⟨_,_,F6++[up.1],W6++[up.1],rfl,S10,sg10,fun u hu=>List.mem_append_left _ (f6 u hu),fun u hu=>List.mem_append_left _ (w6 u hu),fun u hu=>?_,fun j r hj hr'=>?_,?_⟩
  ·rcases List.mem_append.mp hu with a | a
   ·rcases fw6 u a with b | b
    ·exact .inl b
    ·exact .inr (List.mem_append_left _ b)
   ·exact .inr (List.mem_append_right _ a)
  ·by_cases z:j=i
   ·subst z
    cases hup.symm.trans hr'
    exact List.mem_append_right _ (by simp)
   ·exact List.mem_append_left _ (n6 j r (by omega) hr')
  ·have:=S10.len
   rw[List.length_append]at this
   rw[List.length_append,List.length_append]
   have this:F6.length+1≤n:=this
   show 2 * (n - (F6.length+1))+(W6.length+1)≤_
   omega
 rintro σ H6 ⟨v6',kf6,F6,W6,rfl,S6,sg6,f6,w6,fw6,n6,m6⟩
 refine⟨_,_,kf6,F6,W6,rfl,S6,fun u hu hn up hup=>?_,by rw[List.length_append];show _ < _+(_+1);omega⟩
 by_cases eu:u=t
 ·subst eu
  obtain⟨j,hj⟩:=List.mem_iff_getElem?.mp hup
  exact n6 j up (by rw[xl];exact(List.getElem?_eq_some_iff.mp hj).1) hj
 ·have uF:u∈F:=(fw6 u hu).resolve_right hn
  refine f6 _ (cl u uF (fun h=>?_) up hup)
  rcases List.mem_append.mp h with a | a
  ·exact hn (w6 u a)
  ·exact eu (List.mem_singleton.mp a)
end
end K14
namespace K14
open PySem L2
section
variable {P:Program} {w:World} {K:W.Frag} {mg:Str→Option Value} {base:Heap} {f fS fW fP CJ:Addr} {fd dS dW dP':FuncData}
theorem zhg {K:W.Frag} {H:Hp}:∀ {as bs:List Int} {ps:List Addr},as.length=bs.length→ps.length=as.length→(∀(j:Nat) x y,(as.map V.int)[j]?=some x→(bs.map V.int)[j]?=some y→∃ p,ps[j]?=some p∧SqT K H p [x,y])→ad K H ((as.zip bs).map dP) (ps.map V.ref)
 | [],[],[],_,_,_=>ad.nil
 | a :: as,b :: bs,p :: ps,h1,h2,h3=>by
  rw[List.zip_cons_cons,List.map_cons,List.map_cons]
  obtain⟨p',e,hp⟩:=h3 0 (.int a) (.int b) rfl rfl
  cases e
  exact .cons (Has.tup' hp (.cons Has.int (.cons Has.int .nil))) (zhg (by simpa using h1) (by simpa using h2) fun j x y hx hy=>h3 (j+1) x y hx hy)
def zfm (K:W.Frag):Sp:=fun vs H Q _=>∃(tl lp:Addr) (xs:List V) (ts:List Tm) (l:Lk),vs=[.ref tl,.ref lp]∧SqL K H tl xs∧ad K H (ts.map dTm) xs∧SqT K H lp [.int l.1,.int l.2.1,.int l.2.2]∧(0≤l.1∧l.1 < (ts.length:Int))∧(0≤l.2.1∧l.2.1 < (ts.length:Int)) ∧
 (l.2.2=-1→∀ t u,ts[l.1.toNat]?=some t→ts[l.2.1.toNat]?=some u→t.2.length=u.2.length)∧∀(H':Hp) (r:Addr) (zs:List V),aj H H'→H r=none→H' r=some (.lst zs)→ad K H' ((zaW ts l).map dP) zs→Q (.ref r) H'
theorem zgs:zap ["terms","link"] ["terms","link"] (ai zbW):=⟨rfl,rfl,rfl,by decide +kernel,rfl,by decide +kernel,by decide +kernel⟩
theorem ziO (F:Fun K "part_pairs" "part_pairs" zbW f fd) (T:Txt K mg):zay P w K mg base CX0 1 f fd ["terms","link"] (zfm K):=by
 refine F.ok zgs (fun vs H Q E h=>?_) (fun cdv A outer s H vs Q E hr h=>?_)
 ·obtain⟨tl,lp,xs,ts,l,rfl,_⟩:=h
  rfl
 obtain⟨tl,lp,xs,ts,l,rfl,hT,hL,hp,ha,hb,hlen,q⟩:=h
 refine⟨_,(af (zaA (zag zei (ar zal (pv 1) ag (fun _ _=>rfl)) (zeh zdm ag) (zas _))
   (ak (zaj (zaF ac)))
   zaq)
  (ak (zaj (zju rfl rfl T.zip rfl T.list (aa (ar zal (ar zah (pv 0) (ar zal (pv 1) ag (fun _ _=>rfl)) (fun _ _=>rfl)) ag (fun _ _=>rfl)) (aa (ar zal (ar zah (pv 0) (ar zal (pv 1) ag (fun _ _=>rfl)) (fun _ _=>rfl)) ag (fun _ _=>rfl)) ac)))))),?_⟩
 have a0:atI [V.int l.1,V.int l.2.1,V.int l.2.2] 0=some (.int l.1):=zad (j:=0) rfl
 have a1:atI [V.int l.1,V.int l.2.1,V.int l.2.2] 1=some (.int l.2.1):=zad (j:=1) rfl
 have a2:atI [V.int l.1,V.int l.2.1,V.int l.2.2] 2=some (.int l.2.2):=zad (j:=2) rfl
 refine⟨_,rfl,lp,_,_,_,rfl,rfl,hp,a2,_,rfl,rfl,_,rfl,?_⟩
 rw[zdT]
 by_cases c:l.2.2=-1
 case neg =>
  rw[decide_eq_false c]
  refine zaQ ⟨lS0,fun r hr=>q _ r [] (ah hr _) hr (ae ..) ?_⟩
  unfold zaW
  rw[if_neg c]
  exact ad.nil
 rw[decide_eq_true c]
 have xl:xs.length=ts.length:=by rw[←hL.length,List.length_map]
 obtain⟨t,e1⟩:∃ t,ts[l.1.toNat]?=some t:=⟨_,List.getElem?_eq_getElem (show l.1.toNat < ts.length by omega)⟩
 obtain⟨u,e2⟩:∃ u,ts[l.2.1.toNat]?=some u:=⟨_,List.getElem?_eq_getElem (show l.2.1.toNat < ts.length by omega)⟩
 have at_of:∀ {k:Int} {t:Tm},0≤k→k < (ts.length:Int)→ts[k.toNat]?=some t→∃ p pq,atI xs k=some (.ref p)∧SqT K H p [.str t.1,.ref pq]∧SqT K H pq (t.2.map V.int):=fun {k t} k0 k1 ht=>by
  have lt:k.toNat < xs.length:=by omega
  have ek:k=((k.toNat:Nat):Int):=by omega
  have h2:atI xs ((k.toNat:Nat):Int)=some xs[k.toNat]:=zad (List.getElem?_eq_getElem lt)
  rw[←ek]at h2
  obtain⟨t',p,pq,ht',ev,hp,hpq⟩:=zdJ hL (List.getElem?_eq_getElem lt)
  cases ht.symm.trans ht'
  rw[ev]at h2
  exact⟨p,pq,h2,hp,hpq⟩
 obtain⟨p1,q1,at1,hp1,hq1⟩:=at_of ha.1 ha.2 e1
 obtain⟨p2,q2,at2,hp2,hq2⟩:=at_of hb.1 hb.2 e2
 have c1:atI [V.str t.1,V.ref q1] 1=some (.ref q1):=zad (j:=1) rfl
 have d1:atI [V.str u.1,V.ref q2] 1=some (.ref q2):=zad (j:=1) rfl
 have hl:=hlen c t u e1 e2
 refine zax ⟨_,rfl,_,rfl,lp,_,_,_,rfl,rfl,hp,a0,tl,_,_,_,rfl,rfl,hT,at1,p1,_,_,_,rfl,rfl,hp1,c1,_,rfl,_,rfl,lp,_,_,_,rfl,rfl,hp,a1,tl,_,_,_,rfl,rfl,hT,at2,p2,_,_,_,rfl,rfl,hp2,d1,?_⟩
 refine⟨q1,q2,_,_,rfl,hq1,hq2,by rw[List.length_map,List.length_map,hl],fun H2 r ps hr s2 h2 h3 h4=>q H2 r _ s2 hr h2 ?_⟩
 unfold zaW
 rw[if_pos c,e1,e2]
 exact zhg hl (by rw[h4,List.length_map]) h3
def Src (ts:List Tm) (L:List Lk) (x y:Int) (M:List Nat) (pr:Int × Int):Prop:=pr=(x,y)∨∃ p∈M,∃ l,L[p]?=some l∧pr∈zaW ts l
theorem Src.mono {ts:List Tm} {L:List Lk} {x y:Int} {M M':List Nat} {pr:Int × Int} (h:Src ts L x y M pr) (hm:∀ q∈M,q∈M'):Src ts L x y M' pr:=h.imp id fun⟨p,hp,r⟩=>⟨p,hm p hp,r⟩
structure zcn (K:W.Frag) (H0 H:Hp) (nd wl:Addr) (ts:List Tm) (L:List Lk) (x y:Int) (kn:List (Key × V)) (M:List Nat) (Wp:List (Int × Int)) (ws:List V) (cur:Option (Int × Int)):Prop where
 same:aj H0 H
 hn:H nd=some (.dK kn)
 hw:H wl=some (.lst ws)
 has:ad K H (Wp.map dP) ws
 keys:kn.map (·.1)=(M.map fun q:Nat=>(q:Int)).map Sum.inl
 ndp:M.Nodup
 inn:∀ q∈M,q < L.length
 wb:Wp.length≤1+3 * M.length
 ok:∀ pr∈Wp,Src ts L x y M pr
 why:∀ q∈M,∃ π a b,zaX L π a b∧q∈π∧Src ts L x y M (a,b)
 cov:∀ pr,Src ts L x y M pr→pr∈Wp∨some pr=cur∨∃ π,zaX L π pr.1 pr.2∧∀ q∈π,q∈M
theorem zcv:∀(n:Nat) {M:List Nat},M.Nodup→(∀ q∈M,q < n)→M.length≤n:=fun n M h1 h2=>by
 have:=zbG n (xs:=M.map fun q:Nat=>(q:Int)) (List.pairwise_map.mpr (h1.imp fun {a b} h e=>h (by omega))) fun x hx=>by
  obtain⟨q,hq,rfl⟩:=List.mem_map.mp hx
  have:=h2 q hq
  omega
 rwa [List.length_map]at this
theorem zcn.len {H0 H:Hp} {nd wl:Addr} {ts:List Tm} {L:List Lk} {x y:Int} {kn:List (Key × V)} {M:List Nat} {Wp:List (Int × Int)} {ws:List V} {cur:Option (Int × Int)} (S:zcn K H0 H nd wl ts L x y kn M Wp ws cur):M.length≤L.length:=zcv _ S.ndp S.inn
theorem zcn.to {H0 H H2:Hp} {nd wl:Addr} {ts:List Tm} {L:List Lk} {x y:Int} {kn:List (Key × V)} {M:List Nat} {Wp:List (Int × Int)} {ws:List V} {cur:Option (Int × Int)} (S:zcn K H0 H nd wl ts L x y kn M Wp ws cur) (s:aj H H2):zcn K H0 H2 nd wl ts L x y kn M Wp ws cur :=
 ⟨S.same.trans s,s _ _ S.hn,s _ _ S.hw,ad.keep s.kt (zaG _) S.has,S.keys,S.ndp,S.inn,S.wb,S.ok,S.why,S.cov⟩
theorem zd8 {M:List Nat} {q:Nat}:((q:Int)∈M.map fun q:Nat=>(q:Int))↔q∈M:=⟨fun h=>by
 obtain⟨r,hr,e⟩:=List.mem_map.mp h
 have:r=q:=by omega
 exact this ▸ hr,fun h=>List.mem_map.mpr ⟨q,h,rfl⟩⟩
theorem zcn.add {H0 H H2:Hp} {nd wl:Addr} {ts:List Tm} {L:List Lk} {x y:Int} {kn:List (Key × V)} {M:List Nat} {Wp:List (Int × Int)} {ws zs:List V} {cur:Option (Int × Int)} {q:Nat} {l:Lk} {π:List Nat} {a b:Int} (S:zcn K H0 H nd wl ts L x y kn M Wp ws cur)
  (nn:H0 nd=none) (nw:H0 wl=none) (nq:q∉M) (hl:L[q]?=some l) (P:zaX L π a b) (hq:q∈π) (sc:Src ts L x y M (a,b)) (p3:(zaW ts l).length≤3) (s2:aj (upd H nd (.dK (zaI kn (.inl (q:Int)) (.bl true)))) H2) (hz:ad K H2 ((zaW ts l).map dP) zs) :
  zcn K H0 (upd H2 wl (.lst (ws++zs))) nd wl ts L x y (zaI kn (.inl (q:Int)) (.bl true)) (M++[q]) (Wp++zaW ts l) (ws++zs) cur:=by
 have ne:nd≠wl:=fun e=>by have:=S.hn;rw[e,S.hw]at this;cases this
 have x1:zaO nd H (upd H nd (.dK (zaI kn (.inl (q:Int)) (.bl true)))):=zaO.put _ _
 have k1:=(x1.kt S.hn).trans s2.kt
 have w2:H2 wl=some (.lst ws):=s2 _ _ (x1 _ _ ne.symm S.hw)
 have n2:H2 nd=some (.dK (zaI kn (.inl (q:Int)) (.bl true))):=s2 _ _ (ae ..)
 have k2:zam H2 (upd H2 wl (.lst (ws++zs))):=zam.lst w2
 have hm:∀ p∈M,p∈M++[q]:=fun p hp=>List.mem_append_left _ hp
 have keys:(zaI kn (.inl (q:Int)) (.bl true)).map (·.1)=((M++[q]).map fun q:Nat=>(q:Int)).map Sum.inl:=by
  have:=zhU S.keys (q:Int) (.bl true)
  unfold addK at this
  rw[if_neg (fun h=>nq (zd8.mp h))]at this
  rw[this]
  simp
 refine⟨((S.same.upd nn).trans s2).upd nw,by rw[ap ne];exact n2,ae ..,?_,keys,?_,?_,?_,?_,?_,?_⟩
 ·rw[List.map_append]
  exact ad.append (ad.keep (k1.trans k2) (zaG _) S.has) (ad.keep k2 (zaG _) hz)
 ·refine List.nodup_append.mpr ⟨S.ndp,by simp,fun a ha b hb=>?_⟩
  rw[List.mem_singleton.mp hb]
  exact fun e=>nq (e ▸ ha)
 ·intro p hp
  rcases List.mem_append.mp hp with h | h
  ·exact S.inn p h
  ·rw[List.mem_singleton.mp h];exact(List.getElem?_eq_some_iff.mp hl).1
 ·have:=S.wb
  rw[List.length_append,List.length_append]
  show _≤1+3 * (_+1)
  omega
 ·intro pr hpr
  rcases List.mem_append.mp hpr with h | h
  ·exact(S.ok pr h).mono hm
  ·exact .inr ⟨q,by simp,l,hl,h⟩
 ·intro p hp
  rcases List.mem_append.mp hp with h | h
  ·obtain⟨ρ,a,b,h1,h2,h3⟩:=S.why p h
   exact⟨ρ,a,b,h1,h2,h3.mono hm⟩
  ·rw[List.mem_singleton.mp h]
   exact⟨π,a,b,P,hq,sc.mono hm⟩
 ·intro pr hpr
  have old:Src ts L x y M pr→pr∈Wp++zaW ts l∨some pr=cur∨∃ π,zaX L π pr.1 pr.2∧∀ p∈π,p∈M++[q]:=fun h=>by
   rcases S.cov pr h with h | h | ⟨ρ,h1,h2⟩
   ·exact .inl (List.mem_append_left _ h)
   ·exact .inr (.inl h)
   ·exact .inr (.inr ⟨ρ,h1,fun p hp=>hm p (h2 p hp)⟩)
  rcases hpr with h | ⟨p,hp,m,hpm,h⟩
  ·exact old (.inl h)
  ·rcases List.mem_append.mp hp with z | z
   ·exact old (.inr ⟨p,z,m,hpm,h⟩)
   ·rw[List.mem_singleton.mp z,hl]at hpm
    cases hpm
    exact .inl (List.mem_append_right _ h)
def zeT (K:W.Frag) (CJ:Addr):Sp:=fun vs H Q E=>∃(tl la:Addr) (x y:Int) (xs ys:List V) (ts:List Tm) (zs:List Str) (gs:List (Int × Int)) (L:List Lk),vs=[.ref tl,.ref la,.int x,.int y]∧SqL K H tl xs∧ad K H (ts.map dTm) xs∧SqL K H la ys∧ad K H (L.map dL) ys∧TmW zs ts∧zau ts gs L∧ts.length≤60∧(0≤x∧x < (ts.length:Int))∧(0≤y∧y < (ts.length:Int)) ∧
 (hdL L x=hdL L y→∀(H':Hp) (r:Addr) (M:List Nat) (rs:List V),aj H H'→H r=none→H' r=some (.lst rs)→ad K H' ((atP L M).map dL) rs→zdL ts L x y M→M.Pairwise (· < ·)→Q (.ref r) H')∧(hdL L x≠hdL L y→∀ H',aj H H'→E (.ref CJ) none H')
theorem zdh:zap ["terms","links","one","other","steps","needed","waiting","pair","place"] ["terms","links","one","other"] (ai zdn):=⟨rfl,rfl,rfl,by decide +kernel,rfl,by decide +kernel,by decide +kernel⟩
theorem zgq {M:List Nat} {ms:List Int} (hp:ms.Perm (M.map fun q:Nat=>(q:Int))) (so:ms.Pairwise (·≤·)) (nd:M.Nodup):∃ M':List Nat,ms=M'.map (fun q:Nat=>(q:Int))∧(∀ q,q∈M'↔q∈M)∧M'.Pairwise (· < ·):=by
 have pos:∀ z∈ms,0≤z:=fun z hz=>by
  obtain⟨q,_,rfl⟩:=List.mem_map.mp (hp.mem_iff.mp hz)
  omega
 have e:ms=(ms.map Int.toNat).map fun q:Nat=>(q:Int):=by
  rw[List.map_map]
  conv=>lhs;rw[←List.map_id ms]
  refine List.map_congr_left fun z hz=>?_
  have:=pos z hz
  show z=((z.toNat:Nat):Int)
  omega
 have ndm:ms.Nodup:=hp.nodup_iff.mpr (List.pairwise_map.mpr (nd.imp fun {a b} h e=>h (by omega)))
 refine⟨ms.map Int.toNat,e,fun q=>?_,?_⟩
 ·rw[←zd8 (M:=M),←hp.mem_iff,←zd8 (M:=ms.map Int.toNat),←e]
 ·refine List.pairwise_map.mpr ?_
  have lt:ms.Pairwise (· < ·):=by
   have:=so.and ndm
   exact this.imp fun {a b} h=>by have:=h.1;have:=h.2;omega
  refine List.Pairwise.imp_of_mem ?_ lt
  intro a b ha hb h
  have:=pos a ha
  have:=pos b hb
  omega
theorem pairs3 {ts:List Tm} {zs:List Str} (hW:TmW zs ts) (l:Lk):(zaW ts l).length≤3:=by
 unfold zaW
 split
 ·split
  ·rename_i t u h1 h2
   rw[List.length_zip]
   have:=(hW.all (List.mem_of_getElem? h1)).2.1
   omega
  ·exact Nat.zero_le _
 ·exact Nat.zero_le _
theorem ziK {ts:List Tm} {zs:List Str} (hW:TmW zs ts) {l:Lk} {pr:Int × Int} (h:pr∈zaW ts l):(0≤pr.1∧pr.1 < (ts.length:Int))∧0≤pr.2∧pr.2 < (ts.length:Int):=by
 unfold zaW at h
 split at h
 ·split at h
  ·rename_i t u h1 h2
   obtain⟨a,b⟩:=List.of_mem_zip h
   exact⟨(hW.all (List.mem_of_getElem? h1)).2.2 _ a,(hW.all (List.mem_of_getElem? h2)).2.2 _ b⟩
  ·simp at h
 ·simp at h
theorem zjA (F:Fun K "ways" "ways" zdn f fd) (T:Txt K mg) (Bs:FB P w K mg base CX0 1 "steps_of" fS dS ["links"] (zdW K)) (Bw:FB P w K mg base (CX1 P w) 1 "way" fW dW ["steps","one","other"] (zgw K CJ)) (Bp:FB P w K mg base CX0 1 "part_pairs" fP dP' ["terms","link"] (zfm K)):zay P w K mg base (CX1 P w) 2 f fd ["terms","links","one","other"] (zeT K CJ):=by
 refine Fun.okX F zdh (fun vs H Q E h=>?_) (fun cdv A outer s H vs Q E hr h=>?_)
 ·obtain⟨tl,la,x,y,xs,ys,ts,zs,gs,L,rfl,_⟩:=h
  rfl
 obtain⟨tl,la,x,y,xs,ys,ts,zs,gs,L,rfl,hT,hL,hS,hY,hW,R,t60,hx,hy,qY,qN⟩:=h
 have hu:=zeP hr
 refine⟨_,(af (aq (i:=4) zdh.nd rfl (Or.inl rfl) (zac Bs.ok hr rfl Bs.m Bs.kp Bs.b .nil ay (aa (pv 1) ac)))
  (af (aq (i:=5) zdh.nd rfl (Or.inl rfl) zdA)
  (af (aq (i:=6) zdh.nd rfl (Or.inl rfl) (zaF (aa (zaN (aa (pv 2) (aa (pv 3) ac))) ac)))
  (af (zdz PassesOwn.leaving (zag zeN (zab zaa rfl T.len PySem.boot_len (aa (pv 6) ac)) ag (zas _))
   (af (aq (i:=7) zdh.nd rfl (Or.inl rfl) (zhQ PySem.F.plainAttrs_list PySem.F.slot_list_pop PySem.F.type_list_pop zhS (pv 6)))
    (ak (zbe PassesOwn.leaving rfl (zfG (zac Bw.ok hr rfl Bw.m Bw.kp Bw.b .nil (zjw xe1) (aa (pv 4) (aa (ar zal (pv 7) ag (fun _ _=>rfl)) (aa (ar zal (pv 7) ag (fun _ _=>rfl)) ac))))) (zan (i:=8) zdh.nd rfl (Or.inl rfl))
     (ak (zaA (zfE (zdN hu (pv 8) (pv 5)))
       (af (zeY hu (pv 5) (pv 8) zb5 rfl)
        (ak (zaZ (zb4 PySem.F.plainAttrs_list PySem.F.slot_list_extend PySem.F.type_list_extend zgi (pv 6) (aa (zac Bp.ok hr rfl Bp.m Bp.kp Bp.b .nil ay (aa (pv 0) (aa (ar zah (pv 1) (pv 8) (fun _ _=>rfl)) ac))) ac)))))
       zaq))))))
  (ak (zaj (zeM (N':=["place","links"]) (ix:=[1]) rfl rfl (by decide +kernel) (by decide +kernel) rfl (fun ok=>zcJ (sc:=ai zdn) ok rfl (by decide +kernel) (by decide +kernel)) (by decide +kernel) rfl rfl (fun j i h=>match j,h with | 0,h=>by cases h;exact⟨_,rfl,rfl,.inl rfl,.inl rfl⟩ | n+1,h=>by simp at h) (zbw (zab (zgT rfl) rfl T.sorted PyProof.Rows.Boot.sorted (aa (pv 5) ac))) (fun _ _ _ _=>(ar (r:=zc6 K) zah (pv 1) (pv 0) (fun _ _=>rfl)))))))))),?_⟩
 have yl:ys.length=L.length:=by rw[←hY.length,List.length_map]
 have L60:L.length≤60:=Nat.le_trans R.len t60
 refine⟨_,rfl,la,ys,L,rfl,hS,hY,by omega,fun H1 sd kst S1=>?_⟩
 intro nd hnd
 have s2:aj H1 (upd H1 nd (.dK [])):=ah hnd _
 refine⟨_,rfl,_,rfl,lS2,fun pp hpp=>⟨lS1,fun wl hwl=>?_⟩⟩
 have s3:aj (upd H1 nd (.dK [])) (upd (upd H1 nd (.dK [])) pp (.tup [.int x,.int y])):=ah hpp _
 have s4:=ah hwl (.lst [.ref pp])
 have sA:aj H1 (upd (upd (upd H1 nd (.dK [])) pp (.tup [.int x,.int y])) wl (.lst [.ref pp])):=(s2.trans s3).trans s4
 have St:StR K (upd (upd (upd H1 nd (.dK [])) pp (.tup [.int x,.int y])) wl (.lst [.ref pp])) sd (nbr L L.length):=(S1.r (by omega)).same sA
 have nnd:H nd=none:=S1.same.free hnd
 have nwl:H wl=none:=(S1.same.trans (s2.trans s3)).free hwl
 have S0:zcn K H (upd (upd (upd H1 nd (.dK [])) pp (.tup [.int x,.int y])) wl (.lst [.ref pp])) nd wl ts L x y [] [] [(x,y)] [.ref pp] none :=
  ⟨S1.same.trans sA,s4 _ _ (s3 _ _ (ae ..)),ae ..,.cons (Has.tup' (SqT.of (s4 _ _ (ae ..))) (.cons Has.int (.cons Has.int .nil))) .nil,rfl,by simp,by simp,by simp,fun pr h=>.inl (List.mem_singleton.mp h),by simp,fun pr h=>.inl (by
   rcases h with h | ⟨p,hp,_⟩
   ·rw[h];simp
   ·simp at hp)⟩
 have nw1:H1 wl=none:=(s2.trans s3).free hwl
 generalize eHA:upd (upd (upd H1 nd (.dK [])) pp (.tup [.int x,.int y])) wl (.lst [.ref pp])=HA at sA St S0
 have ktG:∀ {H'},zaw nd wl HA H'→zam HA H':=fun {H'} sg b us z=>by
  have nb1:b≠nd:=fun e=>by
   rw[e]at z
   rcases z with z | ⟨o,z⟩ <;> (rw[S0.hn]at z;cases z)
  have nb2:b≠wl:=fun e=>by
   rw[e]at z
   rcases z with z | ⟨o,z⟩ <;> (rw[S0.hw]at z;cases z)
  rcases z with z | ⟨o,z⟩
  ·exact .inl (sg _ _ nb1 nb2 z)
  ·exact .inr ⟨o,sg _ _ nb1 nb2 z⟩
 have stOf:∀ {H'},zaw nd wl HA H'→StR K H' sd (nbr L L.length):=fun {H'} sg=>by
  refine⟨kst,sg _ _ (fun e=>?_) (fun e=>?_) (sA _ _ S1.hd),fun t=>⟨Nat.le_trans (S1.big t) (by omega),?_⟩⟩
  ·have:=S1.hd
   rw[e,hnd]at this
   cases this
  ·have:=S1.hd
   rw[e,nw1]at this
   cases this
  ·rcases S1.at_ t with a | ⟨l,us,a1,a2,_,_,a3⟩
   ·exact .inl a
   ·exact .inr ⟨l,us,a1,sg _ _ (fun e=>by rw[e,hnd]at a2;cases a2) (fun e=>by rw[e,nw1]at a2;cases a2) (sA _ _ a2),ad.keep (sA.kt.trans (ktG sg)) (zaG _) a3⟩
 clear s2 s3 s4 eHA hpp hwl
 refine⟨fun m σ H'=>∃(v7 v8:Option V) (kn:List (Key × V)) (M:List Nat) (Wp:List (Int × Int)) (ws:List V),σ=[some (.ref tl),some (.ref la),some (.int x),some (.int y),some (.ref sd),some (.ref nd),some (.ref wl),v7,v8]∧zcn K H H' nd wl ts L x y kn M Wp ws none∧zaw nd wl HA H'∧m=4 * (L.length - M.length)+Wp.length,
  ⟨_,none,none,_,_,_,_,rfl,S0,aj.g (aj.refl _),rfl⟩,?_⟩
 rintro m σ H3 ⟨v7,v8,kn,M,Wp,ws,rfl,S,sg,rfl⟩
 have wl3:ws.length=Wp.length:=by rw[←S.has.length,List.length_map]
 have ml:=S.len
 have wb:=S.wb
 refine⟨_,rfl,wl,_,rfl,.inl (SqL.of S.hw),_,_,rfl,rfl,_,rfl,?_⟩
 by_cases cW:Wp=[]
 ·-- all are found
  subst cW
  rw[show decide (((ws.length:Nat):Int) > 0)=false from decide_eq_false (by rw[wl3];simp)]
  have nope:∀ pr,Src ts L x y M pr→∃ π,zaX L π pr.1 pr.2∧∀ q∈π,q∈M:=fun pr h=>by
   rcases S.cov pr h with z | z | z
   ·simp at z
   ·cases z
   ·exact z
  obtain⟨π0,P0,sub0⟩:=nope (x,y) (.inl rfl)
  have ND:zdL ts L x y M:=⟨S.inn,fun q hq=>by
   obtain⟨π,a,b,h1,h2,h3⟩:=S.why q hq
   refine⟨π,a,b,h1,h2,?_⟩
   rcases h3 with h3 | ⟨p,hp,l,hl,h3⟩
   ·injection h3 with e1 e2
    exact .inl ⟨e1,e2⟩
   ·exact .inr ⟨p,hp,l,hl,h3⟩,⟨π0,P0,sub0⟩,fun p hp l hl ab hab=>nope ab (.inr ⟨p,hp,l,hl,hab⟩)⟩
  have ek:kn.map (fun kv=>kV kv.1)=(M.map fun q:Nat=>(q:Int)).map V.int:=zjP S.keys
  refine zax ⟨_,rfl,nd,kn,_,rfl,S.hn,ek,by rw[List.length_map];omega,fun so ms hso pm pw=>?_⟩
  obtain⟨M',rfl,mm,lt⟩:=zgq pm pw S.ndp
  have ml':M'.length≤L.length:=zcv _ (lt.imp fun h=>Nat.ne_of_lt h) fun q hq=>S.inn q ((mm q).mp hq)
  have ND':zdL ts L x y M':=⟨fun q hq=>ND.inn q ((mm q).mp hq),fun q hq=>by
   obtain⟨π,a,b,h1,h2,h3⟩:=ND.why q ((mm q).mp hq)
   exact⟨π,a,b,h1,h2,h3.imp id fun⟨p,hp,r⟩=>⟨p,(mm p).mpr hp,r⟩⟩,⟨π0,P0,fun q hq=>(mm q).mpr (sub0 q hq)⟩,fun p hp l hl ab hab=>by
   obtain⟨π,h1,h2⟩:=ND.all p ((mm p).mp hp) l hl ab hab
   exact⟨π,h1,fun q hq=>(mm q).mpr (h2 q hq)⟩⟩
  have s4:aj H3 (upd H3 so (.lst ((M'.map fun q:Nat=>(q:Int)).map V.int))):=ah hso _
  have n4:=ae (H:=H3) (a:=so) (o:=.lst ((M'.map fun q:Nat=>(q:Int)).map V.int))
  generalize upd H3 so (.lst ((M'.map fun q:Nat=>(q:Int)).map V.int))=H4 at s4 n4
  have sH4:=S.same.trans s4
  refine⟨so,rfl,⟨_,SqL.of n4⟩,fun D hD=>zeO zbv (fun j us H'=>aj H4 H'∧ad K H' (((atP L M').take j).map dL) us) (fun j us H' ⟨s1,_⟩=>s1.seq (SqL.of n4)) ⟨ah hD _,ad.nil⟩ ?_ ?_⟩
  ·rintro j us H8 z H5 hj hly hDs ⟨s5,hus⟩ ⟨rfl,hz⟩
   obtain⟨n,hn,rfl⟩:=zcc (hz _ (s5.seq (SqL.of n4)))
   rw[List.getElem?_map]at hn
   obtain⟨q,hq,rfl⟩:=Option.map_eq_some_iff.mp hn
   have ql:=ND'.inn q (List.mem_of_getElem? hq)
   have hlq:=List.getElem?_eq_getElem ql
   have at1:atI ys (q:Int)=some (ys[q]'(by omega)):=zad (List.getElem?_eq_getElem (by omega))
   obtain⟨l,p,el,ep,hp⟩:=zcG (ad.keep sH4.kt (zai _) hY) (List.getElem?_eq_getElem (show q < ys.length by omega))
   rw[ep]at at1
   refine⟨_,rfl,_,rfl,la,_,_,_,rfl,rfl,s5.seq (sH4.seq hS),at1,zbC (bsz _ (by simp;omega)) hj hly hDs ⟨s5.upd hD,?_⟩⟩
   have hal:(atP L M')[j]?=some l:=by
    unfold atP
    rw[List.getElem?_map,hq]
    exact congrArg some (zd9 el)
   rw[zaT hal,List.map_append]
   have kt5:zam H5 (upd H5 D (.lst (us++[.ref p]))):=zam.lst hDs
   exact ad.append (ad.keep kt5 (zai _) hus) (.cons (zdc (kt5.sq (s5.tup hp))) .nil)
  rintro us H5 hDs ⟨s5,hus⟩
  refine qY P0.joins H5 D M' us (sH4.trans s5) (sH4.free hD) hDs ?_ ND' lt
  rw[List.length_map,List.length_map,List.take_of_length_le (by unfold atP;rw[List.length_map];exact Nat.le_refl _)]at hus
  exact hus
 have wp:0 < Wp.length:=List.length_pos_iff.mpr cW
 rw[show decide (((ws.length:Nat):Int) > 0)=true from decide_eq_true (by omega)]
 refine zaQ ⟨fun σ' H'=>∃(v7 v8:Option V) (kn':List (Key × V)) (M':List Nat) (Wp':List (Int × Int)) (ws':List V),σ'=[some (.ref tl),some (.ref la),some (.int x),some (.int y),some (.ref sd),some (.ref nd),some (.ref wl),v7,v8]∧zcn K H H' nd wl ts L x y kn' M' Wp' ws' none∧zaw nd wl HA H'∧4 * (L.length - M'.length)+Wp'.length < 4 * (L.length - M.length)+Wp.length,?_,?_⟩
 ·rintro σ' H' ⟨v7',v8',kn',M',Wp',ws',rfl,a,b,c⟩
  exact⟨_,c,v7',v8',kn',M',Wp',ws',rfl,a,b,rfl⟩
 obtain⟨W0,pr,rfl⟩:∃ W0 pr,Wp=W0++[pr]:=⟨Wp.dropLast,Wp.getLast cW,(List.dropLast_concat_getLast cW).symm⟩
 have lw:ws.length=W0.length+1:=by rw[wl3,List.length_append];rfl
 have ew:=List.getElem?_eq_getElem (show W0.length < ws.length by omega)
 obtain⟨pr',p,hpr,ev,hp⟩:=ze3 S.has ew
 have e0:pr=pr':=by simpa using hpr
 subst e0
 refine⟨_,rfl,.inl ⟨rfl,_,SqL.of S.hw⟩,wl,_,_,rfl,rfl,S.hw,(by rw[show ws.length - 1=W0.length by omega];exact ew.trans (congrArg some ev)),?_⟩
 have hdl:ad K H3 (W0.map dP) ws.dropLast:=by
  have:=ad.take W0.length S.has
  rw[←List.map_take,List.take_left]at this
  rw[List.dropLast_eq_take,show ws.length - 1=W0.length by omega]
  exact this
 have nwf:nd≠wl:=fun e=>by have:=S.hn;rw[e,S.hw]at this;cases this
 have sc0:Src ts L x y M pr:=S.ok pr (by simp)
 have S1:zcn K H (upd H3 wl (.lst ws.dropLast)) nd wl ts L x y kn M W0 ws.dropLast (some pr) :=
  ⟨S.same.upd nwl,by rw[ap nwf];exact S.hn,ae ..,ad.keep (zam.lst S.hw) (zaG _) hdl,S.keys,S.ndp,S.inn,by have:=S.wb;rw[List.length_append]at this;omega,fun q hq=>S.ok q (List.mem_append_left _ hq),S.why,fun q hq=>by
   rcases S.cov q hq with z | z | z
   ·rcases List.mem_append.mp z with z | z
    ·exact .inl z
    ·exact .inr (.inl (congrArg some (List.mem_singleton.mp z)))
   ·cases z
   ·exact .inr (.inr z)⟩
 have sg1:zaw nd wl HA (upd H3 wl (.lst ws.dropLast)):=sg.trans (zaw.put2 _ _)
 have hp4:SqT K (upd H3 wl (.lst ws.dropLast)) p [.int pr.1,.int pr.2]:=(zam.lst S.hw).sq hp
 generalize upd H3 wl (.lst ws.dropLast)=H4 at S1 sg1 hp4
 have a0:atI [V.int pr.1,V.int pr.2] 0=some (.int pr.1):=zad (j:=0) rfl
 have a1:atI [V.int pr.1,V.int pr.2] 1=some (.int pr.2):=zad (j:=1) rfl
 have pin:(0≤pr.1∧pr.1 < (ts.length:Int))∧0≤pr.2∧pr.2 < (ts.length:Int):=by
  rcases sc0 with z | ⟨q,hq,l,hl,z⟩
  ·rw[z];exact⟨hx,hy⟩
  ·exact ziK hW z
 refine⟨_,rfl,_,rfl,p,_,_,_,rfl,rfl,hp4,a0,_,rfl,p,_,_,_,rfl,rfl,hp4,a1,sd,pr.1,pr.2,L,ts.length,rfl,stOf sg1,R.inn,by omega,pin.1,pin.2,fun _ H5 pw π s5 hpw PO _=>?_,fun nj H5 s5=>?_⟩
 case refine_2 =>
  refine qN ?_ H5 (S1.same.trans s5)
  rcases sc0 with z | ⟨q,hq,l,hl,z⟩
  ·rw[z]at nj;exact nj
  ·refine absurd ?_ nj
   have:=zdO (L.drop q) (zdG R hl pr z)
   rwa [List.take_append_drop]at this
 have S5:=S1.to s5
 have sg5:zaw nd wl HA H5:=sg1.trans s5.g
 clear hp4
 have xk:plV π=(π.map fun q:Nat=>(q:Int)).map V.int:=by unfold plV;rw[List.map_map];rfl
 have ktH:∀ {H6},zaw nd wl H5 H6→zam H5 H6:=fun {H'} sg b us z=>by
  have nb1:b≠nd:=fun e=>by
   rw[e]at z
   rcases z with z | ⟨o,z⟩ <;> (rw[S5.hn]at z;cases z)
  have nb2:b≠wl:=fun e=>by
   rw[e]at z
   rcases z with z | ⟨o,z⟩ <;> (rw[S5.hw]at z;cases z)
  rcases z with z | ⟨o,z⟩
  ·exact .inl (sg _ _ nb1 nb2 z)
  ·exact .inr ⟨o,sg _ _ nb1 nb2 z⟩
 refine⟨pw,rfl,⟨_,hpw⟩,zcj zfC (fun j σ H'=>∃(v8:Option V) (kn':List (Key × V)) (M':List Nat) (W':List (Int × Int)) (ws':List V),σ=[some (.ref tl),some (.ref la),some (.int x),some (.int y),some (.ref sd),some (.ref nd),some (.ref wl),some (.ref p),v8]∧zcn K H H' nd wl ts L x y kn' M' W' ws' (some pr)∧zaw nd wl H5 H'∧(∀ q∈M,q∈M')∧(∀ i q,i < j→π[i]?=some q→q∈M')∧4 * (L.length - M'.length)+W'.length≤4 * (L.length - M.length)+W0.length)
  (fun i σ H' ⟨_,_,_,_,_,_,_,sg,_⟩=>(ktH sg).sq hpw) ⟨v8,kn,M,W0,_,rfl,S5,aj.g (aj.refl _),(fun _ h=>h),(fun i q hi=>absurd hi (Nat.not_lt_zero _)),Nat.le_refl _⟩ ?_ ?_⟩
 ·rintro i σ H7 z H6 hi ⟨v8,kn6,M6,W6,ws6,rfl,S6,sg6,m6,n6,b6⟩ ⟨rfl,hz⟩
  have hz:=hz _ ((ktH sg6).sq hpw)
  rw[xk]at hz
  obtain⟨n,hn,rfl⟩:=zcc hz
  rw[List.getElem?_map]at hn
  obtain⟨q,hq,rfl⟩:=Option.map_eq_some_iff.mp hn
  refine⟨_,rfl,_,rfl,nd,_,rfl,zbP.k (k:=.inl (q:Int)) S6.hn,_,rfl,?_⟩
  rw[zd2 S6.keys]
  have up:∀ {M7:List Nat},(∀ r∈M6,r∈M7)→q∈M7→∀ j r,j < i+1→π[j]?=some r→r∈M7:=fun h1 h2 j r hj hr'=>by
   by_cases z:j=i
   ·subst z
    cases hq.symm.trans hr'
    exact h2
   ·exact h1 r (n6 j r (by omega) hr')
  by_cases c:q∈M6
  ·rw[decide_eq_true (zd8.mpr c)]
   exact zax ⟨_,kn6,M6,W6,ws6,rfl,S6,sg6,m6,up (fun _ h=>h) c,b6⟩
  rw[decide_eq_false (fun h=>c (zd8.mp h))]
  have ql:=PO.inn q (List.mem_of_getElem? hq)
  have hYq:=List.getElem?_eq_getElem (show q < ys.length by omega)
  have ml6:=S6.len
  have wb6:=S6.wb
  obtain⟨l,lp,hl,el,hlp0⟩:=zcG hY hYq
  have at1:atI ys (q:Int)=some (.ref lp):=zad (hYq.trans (congrArg some el))
  have wl6:ws6.length=W6.length:=by rw[←S6.has.length,List.length_map]
  have hw7:(upd H6 nd (.dK (zaI kn6 (.inl (q:Int)) (.bl true)))) wl=some (.lst ws6):=by rw[ap nwf.symm];exact S6.hw
  have sH7:aj H (upd H6 nd (.dK (zaI kn6 (.inl (q:Int)) (.bl true)))):=S6.same.upd nnd
  have lin:=R.inn l (List.mem_of_getElem? hl)
  refine zaQ ⟨_,rfl,_,rfl,nd,_,rfl,.inl ⟨_,.inl (q:Int),S6.hn,rfl,zcF (by rw[zhV S6.keys,List.length_map];omega),rfl⟩,?_⟩
  refine⟨_,rfl,.inl ⟨rfl,_,SqL.of hw7⟩,_,rfl,_,rfl,_,rfl,la,_,_,_,rfl,rfl,sH7.seq hS,at1,tl,lp,xs,ts,l,rfl,sH7.seq hT,ad.keep sH7.kt (zaf _) hL,sH7.tup hlp0,lin.1,lin.2,fun hm t u ht hu'=>?_,fun H8 r zs8 s8 hr8 h8 hz8=>?_⟩
  ·rcases(R q l hl).how with ⟨a,_⟩ | ⟨_,t',u',t1,t2,t3,t4⟩
   ·omega
   ·cases ht.symm.trans t1
    cases hu'.symm.trans t2
    have:=congrArg List.length t4
    simpa using this
  have p3:=pairs3 hW l
  have zl:zs8.length=(zaW ts l).length:=by rw[←hz8.length,List.length_map]
  refine⟨wl,r,ws6,zs8,rfl,rfl,s8 _ _ hw7,h8,zcV (n:=ws6.length+zs8.length) (by omega),?_⟩
  have S9:=S6.add nnd nwl c hl PO (List.mem_of_getElem? hq) (sc0.mono m6) p3 s8 hz8
  have ml9:=S9.len
  rw[List.length_append]at ml9
  have ml9:M6.length+1≤L.length:=ml9
  refine⟨_,_,M6++[q],W6++zaW ts l,_,rfl,S9,((sg6.trans (zaw.put1 _ _)).trans s8.g).trans (zaw.put2 _ _),fun r hr'=>List.mem_append_left _ (m6 r hr'),up (fun r h=>List.mem_append_left _ h) (by simp),?_⟩
  rw[List.length_append,List.length_append]
  show 4 * (L.length - (M6.length+1))+_≤_
  omega
 rintro σ H6 ⟨v8',kn6,M6,W6,ws6,rfl,S6,sg6,m6,n6,b6⟩
 refine⟨_,_,kn6,M6,W6,ws6,rfl,⟨S6.same,S6.hn,S6.hw,S6.has,S6.keys,S6.ndp,S6.inn,S6.wb,S6.ok,S6.why,fun q hq=>?_⟩,sg5.trans sg6,by rw[List.length_append];show _ < _+(_+1);omega⟩
 rcases S6.cov q hq with z | z | z
 ·exact .inl z
 ·cases z
  refine .inr (.inr ⟨π,PO,fun r hr'=>?_⟩)
  obtain⟨j,hj⟩:=List.mem_iff_getElem?.mp hr'
  exact n6 j r (by rw[xk,List.length_map,List.length_map];exact(List.getElem?_eq_some_iff.mp hj).1) hj
 ·exact .inr (.inr z)
end
end K14
namespace K14
open PySem L2
section
variable {P:Program} {w:World} {K:W.Frag} {mg:Str→Option Value} {base:Heap} {f fM fW fC fT:Addr} {fd dM dW dC dT':FuncData}
abbrev NTs:List Str:=["_law_script","_law_first","_law_names_here","_law_many","_law_chain_here","_law_wide","_law_terms_here","_law_k","_law_mix","_law_term_here"]
theorem zbd:zap ["_law_script","_law_first","_law_names_here","_law_many","_law_chain_here","_law_wide","_law_terms_here","_law_k","_law_mix","_law_term_here"] ["_law_script","_law_first","_law_names_here","_law_many"] (ai za2):=⟨rfl,rfl,rfl,by decide +kernel,rfl,by decide +kernel,by decide +kernel⟩
def forB (s:Stmt):List Stmt:=match s with
 | .For _ _ b _ _=>b
 | _=>[]
theorem terms3 {cdv:Value} {A:Around} {outer:List Env} {s:Shared} {H0:Hp} {E:XK} (hr:zaE 2 (A.deeper (PyProof.Rows.envOfC "_law_terms" (ai za2) s.heap.objs.size f cdv))) :
  ∃ t,PSs (zb2 CX0 P w K mg base NTs "_law_terms" (ai za2) f cdv A outer s H0 E).nox ((forB ((zae za2).getD 3 (.Pass ⟨0,0,0,0⟩))).drop 3) t ∧
   ∀(D:zbO) (H:Hp) (tl p q:Addr) (xs:List V) (ts:List Tm) (t':Tm) (zs:List Str) (i:Nat) (v0 v1 v2 v3 v4 v5 v7 v8:Option V),H tl=some (.lst xs)→ad K H (ts.map dTm) xs→TmW zs ts→ts.length≤i→i < 60→SqT K H p [.str t'.1,.ref q]→SqT K H q (t'.2.map V.int)→zdl zs ts.length t' →
    (∀(H':Hp) (xs':List V) (ts':List Tm),(∀ H0,H0 tl=none→aj H0 H→aj H0 H')→H' tl=some (.lst xs')→ad K H' (ts'.map dTm) xs'→TmW zs ts'→ts'.length≤i+1→0 < ts'.length→D.nx [v0,v1,v2,v3,v4,v5,some (.ref tl),v7,v8,some (.ref p)] H') →
    t D [v0,v1,v2,v3,v4,v5,some (.ref tl),v7,v8,some (.ref p)] H:=by
 have hu:=zbT hr
 refine⟨_,(ak (zaA (zag (zie hu) (pv 9) (pv 6) rfl)
     (ak (zaZ (zb4 PySem.F.plainAttrs_list PySem.F.slot_list_append PySem.F.type_list_append zaH (pv 6) (aa (pv 9) ac))))
     zaq)),?_⟩
 rintro D H tl p q xs ts t' zs i v0 v1 v2 v3 v4 v5 v7 v8 htl has hW li i60 hp hq hin nx
 have xl:xs.length=ts.length:=by rw[←has.length,List.length_map]
 have d2:=zcR ts
 refine⟨_,rfl,_,rfl,tl,xs,ts.map dTm,dTm t',rfl,.inl (SqL.of htl),has,zd1 hp hq,by omega,_,rfl,zbN (fun _=>?_) (fun hc=>?_)⟩
 ·have kt:=zam.lst (ys:=xs++[.ref p]) htl
  refine⟨_,rfl,.inl ⟨rfl,_,SqL.of htl⟩,_,rfl,tl,_,_,rfl,rfl,htl,zaU (by omega),nx _ (xs++[.ref p]) (ts++[t']) (fun H0 h0 s0=>s0.upd h0) ae ?_ (hW.snoc hin) (by rw[List.length_append];show ts.length+1≤i+1;omega) (by rw[List.length_append];show 0 < ts.length+1;omega)⟩
  rw[List.map_append]
  exact ad.append (ad.keep kt (zaf _) has) (ad.one (zd1 (kt.sq hp) (kt.sq hq)))
 ·have ne:0 < ts.length:=by
   cases ts with
   | nil=>exact absurd rfl hc
   | cons _ _=>exact Nat.succ_pos _
  exact nx H xs ts (fun _ _ s0=>s0) htl has hW (by omega) ne
def zfl (K:W.Frag):Sp:=fun vs H Q _=>∃(a nl:Addr) (ns:List Int) (b m:Nat) (zs:List Str),vs=[.ref a,.int (b:Int),.ref nl,.int (m:Int)]∧SqL K H a (ns.map V.int)∧SqL K H nl (zs.map V.str)∧zs.length=4∧m≤60 ∧
 ∀(H':Hp) (l:Addr) (xs:List V) (ts:List Tm),aj H H'→H l=none→H' l=some (.lst xs)→ad K H' (ts.map dTm) xs→TmW zs ts→ts.length≤60→(0 < m→0 < ts.length)→Q (.ref l) H'
set_option maxHeartbeats 1000000 in
theorem ziM (F:Fun K "_law_terms" "_law_terms" za2 f fd) (T:Txt K mg) (B_law_cell_at:FB P w K mg base CX0 1 "_law_cell_at" fC dC ["_law_script","_law_k"] (zdg K)) (B_law_mixed:FB P w K mg base CX0 1 "_law_mixed" fM dM ["_law_cell","_law_k"] zbQ) (B_law_term:FB P w K mg base CX0 2 "_law_term" fT dT' ["_law_cell","_law_names_here","_law_terms_here","_law_size"] (zf1 K)):zay P w K mg base CX0 3 f fd ["_law_script","_law_first","_law_names_here","_law_many"] (zfl K):=by
 refine F.ok zbd (fun vs H Q E h=>?_) (fun cdv A outer s H vs Q E hr h=>?_)
 ·obtain⟨a,nl,ns,b,m,zs,rfl,_⟩:=h
  rfl
 obtain⟨a,nl,ns,b,m,zs,rfl,hS,hN,z4,m60,q⟩:=h
 have hr1:zaE 1 _:=hr.mono (by decide)
 obtain⟨t3,h3,q3⟩:=terms3 (P:=P) (w:=w) (K:=K) (mg:=mg) (base:=base) (f:=f) (outer:=outer) (H0:=H) (E:=E) hr
 refine⟨_,(af (zaA (zag zbk (ao zak (zac B_law_cell_at.ok hr1 rfl B_law_cell_at.m B_law_cell_at.kp B_law_cell_at.b .nil ay (aa (pv 0) (aa (pv 1) ac))) ag) ag (zas _))
   (af (aq (i:=4) zbd.nd rfl (Or.inl rfl) (ao zgz (zaF (aa (zaN (aa (ar zah (pv 2) ag (fun _ _=>rfl)) (aa (zaN ac) ac))) ac)) (zeM (N':=["_law_k","_law_names_here"]) (ix:=[2]) rfl rfl (by decide +kernel) (by decide +kernel) rfl (fun ok=>zcJ (sc:=ai za2) ok rfl (by decide +kernel) (by decide +kernel)) (by decide +kernel) rfl rfl (fun j i h=>match j,h with | 0,h=>by cases h;exact⟨_,rfl,rfl,.inl rfl,.inl rfl⟩ | n+1,h=>by simp at h) (zbJ rfl T.range (aa (ao zgy (pv 3) ag) ac)) (fun _ _ _ _=>(zaN (aa (ar (r:=zc6 K) zah (pv 1) ag (fun _ _=>rfl)) (aa (zaN (aa (pv 0) ac)) ac)))))))
    (ak (zaj (zcQ zeX (pv 4) zdk (zdj (pv 3))))))
   zaq)
  (af (aq (i:=5) zbd.nd rfl (Or.inl rfl) (zcD zeH (ao zak (zac B_law_cell_at.ok hr1 rfl B_law_cell_at.m B_law_cell_at.kp B_law_cell_at.b .nil ay (aa (pv 0) (aa (pv 1) ac))) ag) (zaN (aa ag (aa ag ac))) rfl))
  (af (aq (i:=6) zbd.nd rfl (Or.inl rfl) (zaF ac))
  (af (zbe PassesOwn.never rfl (zbJ rfl T.range (aa (pv 3) ac)) (zan (i:=7) zbd.nd rfl (Or.inl rfl))
   (af (aq (i:=8) zbd.nd rfl (Or.inl rfl) (zac B_law_mixed.ok hr1 rfl B_law_mixed.m B_law_mixed.kp B_law_mixed.b .nil ay (aa (zac B_law_cell_at.ok hr1 rfl B_law_cell_at.m B_law_cell_at.kp B_law_cell_at.b .nil ay (aa (pv 0) (aa (ao zbf (pv 1) (ao zak (pv 7) ag)) ac))) (aa (pv 7) ac))))
    (af (aq (i:=9) zbd.nd rfl (Or.inl rfl) (zaN (aa (ar zah (pv 2) (ao zak (pv 7) ag) (fun _ _=>rfl)) (aa (zaN ac) ac))))
    (af (zaA (PW.pt (zeg (zb7 (zbt (pv 5))) (zd0 (zag zeN (pv 7) ag (zas _)))))
     (ak (aq (i:=9) zbd.nd rfl (Or.inl rfl) (zac B_law_term.ok hr rfl B_law_term.m B_law_term.kp B_law_term.b .nil ay (aa (pv 8) (aa (pv 2) (aa (pv 6) (aa (ar zah (zaF (aa (ao zar (ao zak (ao zar (pv 8) ag) ag) ag) (aa ag ac))) (zaD zdQ rfl T.int PyProof.Rows.Boot.int (aa (pv 5) ac)) (fun _ _=>rfl)) ac)))))))
     zaq) h3))))
  (ak (zaj (pv 6))))))),?_⟩
 have nat_at:∀ {j:Nat},j < 4→∃ z,z∈zs∧atI (zs.map V.str) (j:Int)=some (.str z):=fun {j} hj=>by
  have lt:j < zs.length:=by omega
  refine⟨zs[j],List.getElem_mem lt,zad (j:=j) ?_⟩
  rw[List.getElem?_map,List.getElem?_eq_getElem lt]
  rfl
 refine⟨_,rfl,_,rfl,a,ns,b,rfl,hS,_,_,rfl,rfl,(by show(0:Int) < 8;decide),rfl,_,rfl,zbN (fun _=>?_) (fun _=>?_)⟩
 ·obtain⟨z0,hz0,az0⟩:=nat_at (j:=0) (by omega)
  obtain⟨z1,hz1,az1⟩:=nat_at (j:=1) (by omega)
  refine⟨_,rfl,nl,_,_,_,rfl,rfl,hN,az0,lS0,fun e he=>?_⟩
  have s1:aj H (upd H e (.tup [])):=ah he _
  have n1:=ae (H:=H) (a:=e) (o:=.tup [])
  generalize upd H e (.tup [])=H1 at s1 n1
  refine⟨lS2,fun p0 hp0=>?_⟩
  have s2:aj H1 (upd H1 p0 (.tup [.str z0,.ref e])):=ah hp0 _
  have n2:=ae (H:=H1) (a:=p0) (o:=.tup [.str z0,.ref e])
  have n12:=s2 _ _ n1
  generalize upd H1 p0 (.tup [.str z0,.ref e])=H2 at s2 n2 n12
  refine⟨lS1,fun l0 hl0=>?_⟩
  have s3:aj H2 (upd H2 l0 (.lst [.ref p0])):=ah hl0 _
  have n3:=ae (H:=H2) (a:=l0) (o:=.lst [.ref p0])
  have n13:=s3 _ _ n12
  have n23:=s3 _ _ n2
  generalize upd H2 l0 (.lst [.ref p0])=H3 at s3 n3 n13 n23
  have s03:=(s1.trans s2).trans s3
  have hN3:=s03.seq hN
  refine⟨_,rfl,_,_,rfl,rfl,_,rfl,by omega,by omega,fun D hD=>zeO zgD (fun i ys H'=>aj H3 H'∧ad K H' (((List.range i).map fun j:Nat=>((z1,[(j:Int)]):Tm)).map dTm) ys) (fun _ _ _ _=>trivial) ⟨ah hD _,ad.nil⟩ ?_ ?_⟩
  ·rintro i ys H9 x H4 hi hly hDs ⟨s4,hy⟩ ⟨rfl,rfl⟩
   have hi':(i:Int) < (m:Int) - 1:=by
    have:i < ((m:Int) - 1).toNat:=hi
    omega
   refine⟨_,rfl,nl,_,_,_,rfl,rfl,s4.seq hN3,az1,_,rfl,lS1,fun e1 he1=>?_⟩
   have s5:aj H4 (upd H4 e1 (.tup [.int (0+(i:Int))])):=ah he1 _
   have n5:=ae (H:=H4) (a:=e1) (o:=.tup [.int (0+(i:Int))])
   generalize upd H4 e1 (.tup [.int (0+(i:Int))])=H5 at s5 n5
   refine⟨lS2,fun p1 hp1=>?_⟩
   have s6:aj H5 (upd H5 p1 (.tup [.str z1,.ref e1])):=ah hp1 _
   have n6:=ae (H:=H5) (a:=p1) (o:=.tup [.str z1,.ref e1])
   have n56:=s6 _ _ n5
   have s46:=s5.trans s6
   have hD6:=s46 _ _ hDs
   have hy6:=ad.keep s46.kt (zaf _) hy
   generalize upd H5 p1 (.tup [.str z1,.ref e1])=H6 at s6 n6 n56 s46 hD6 hy6
   have kt:=zam.lst (ys:=ys++[.ref p1]) hD6
   refine zbC (bsz _ (by omega)) hi hly hD6 ⟨(s4.trans s46).upd hD,?_⟩
   rw[List.range_succ,List.map_append,List.map_append]
   refine ad.append (ad.keep kt (zaf _) hy6) (ad.one (zd1 (t:=(z1,[(i:Int)])) (kt.sq (SqT.of n6)) ?_))
   rw[Int.zero_add]at n56
   exact kt.sq (SqT.of n56)
  rintro ys H4 hDs ⟨s4,hy⟩
  have yl:ys.length=((m:Int) - 1).toNat:=by rw[←hy.length,List.length_map,List.length_map,List.length_range]
  have hl0:=s4 _ _ n3
  refine⟨l0,D,_,_,rfl,rfl,hl0,hDs,bsz _ (by show 1+ys.length≤1000;omega),fun cl hcl=>?_⟩
  have s5:aj H4 (upd H4 cl (.lst ([.ref p0]++ys))):=ah hcl _
  have n5:=ae (H:=H4) (a:=cl) (o:=.lst ([.ref p0]++ys))
  have n15:=s5 _ _ (s4 _ _ n13)
  have n25:=s5 _ _ (s4 _ _ n23)
  have hy5:=ad.keep s5.kt (zaf _) hy
  generalize upd H4 cl (.lst ([.ref p0]++ys))=H5 at s5 n5 n15 n25 hy5
  refine⟨_,rfl,_,rfl,_,rfl,cl,_,rfl,SqL.of n5,fun rl hrl=>?_⟩
  have s6:aj H5 (upd H5 rl (.lst (zee ([.ref p0]++ys) none (some (m:Int))))):=ah hrl _
  have s06:=(((s03.trans s4).trans s5).trans s6)
  have all:ad K H5 (((z0,[]) :: (List.range ((m:Int) - 1).toNat).map fun j:Nat=>((z1,[(j:Int)]):Tm)).map dTm) ([.ref p0]++ys):=by
   rw[List.map_cons]
   exact ad.cons (zd1 (t:=(z0,[])) (SqT.of n25) (SqT.of n15)) hy5
  have cut:=zfw ([V.ref p0]++ys) m
  rw[cut]at s06 ⊢
  have w:TmW zs ((z0,[]) :: (List.range ((m:Int) - 1).toNat).map fun j:Nat=>((z1,[(j:Int)]):Tm)):=by
   intro i t ht
   cases i with
   | zero =>
    cases ht
    exact⟨hz0,by show(0:Nat)≤3;omega,fun x hx=>nomatch hx⟩
   | succ i =>
    rw[List.getElem?_cons_succ,List.getElem?_map]at ht
    obtain⟨j,hj,rfl⟩:=Option.map_eq_some_iff.mp ht
    have lt:=(List.getElem?_eq_some_iff.mp hj).1
    rw[List.length_range]at lt
    rw[List.getElem?_range lt]at hj
    cases hj
    refine⟨hz1,by show(1:Nat)≤3;omega,fun x hx=>?_⟩
    rw[List.mem_singleton.mp hx]
    omega
  refine q _ rl _ (((z0,[]) :: (List.range ((m:Int) - 1).toNat).map fun j:Nat=>((z1,[(j:Int)]):Tm)).take m) s06 (((s03.trans s4).trans s5).free hrl) ae ?_ (fun i t ht=>w i t ?_) ?_ (fun m0=>?_)
  ·rw[List.map_take]
   exact(ad.keep (ah hrl _).kt (zaf _) all).take m
  ·by_cases c:i < m
   ·rw[List.getElem?_take,if_pos c]at ht
    exact ht
   ·rw[List.getElem?_take,if_neg c]at ht
    cases ht
  ·rw[List.length_take]
   omega
  ·rw[List.length_take,List.length_cons]
   omega
 refine⟨_,rfl,_,rfl,a,ns,b,rfl,hS,_,_,rfl,rfl,(by show(0:Int) < 8;decide),lS2,fun e he=>?_⟩
 have s1:aj H (upd H e (.tup [.int 2,.int 6])):=ah he _
 have n1:=ae (H:=H) (a:=e) (o:=.tup [.int 2,.int 6])
 generalize upd H e (.tup [.int 2,.int 6])=H1 at s1 n1
 refine⟨e,_,rfl,.inr (SqT.of n1),rfl,rfl,?_⟩
 generalize inV (.int (ns.getD b 0 % 8)) [.int 2,.int 6]=wide
 refine⟨lS0,fun tl htl=>?_⟩
 have s2:aj H1 (upd H1 tl (.lst [])):=ah htl _
 have n2:=ae (H:=H1) (a:=tl) (o:=.lst [])
 generalize upd H1 tl (.lst [])=H2 at s2 n2
 have s02:=s1.trans s2
 have htl0:=s1.free htl
 refine⟨_,rfl,(m:Int),rfl,by omega,by omega,zck (lo:=0) (n:=((m:Int)).toNat) (fun i σ H'=>∃(v7 v8 v9:Option V) (xs:List V) (ts:List Tm),σ=[some (.ref a),some (.int (b:Int)),some (.ref nl),some (.int (m:Int)),none,some (.bl wide),some (.ref tl),v7,v8,v9]∧aj H H'∧H' tl=some (.lst xs)∧ad K H' (ts.map dTm) xs∧TmW zs ts∧ts.length≤i∧(0 < i→0 < ts.length)) ⟨none,none,none,[],[],rfl,s02,n2,ad.nil,TmW.nil _,Nat.le_refl _,fun h=>h⟩ ?_ ?_⟩
 ·rintro i σ H3 hi ⟨v7,v8,v9,xs,ts,rfl,s3,tl3,has3,hW,li,pos⟩
  have hi':i < m:=by
   have:i < ((m:Int)).toNat:=hi
   omega
  have xl:xs.length=ts.length:=by rw[←has3.length,List.length_map]
  obtain⟨z,hz,az⟩:=nat_at (j:=i % 4) (by omega)
  have az':atI (zs.map V.str) ((0+(i:Int)) % 4)=some (.str z):=by
   rw[show(0+(i:Int)) % 4=((i % 4:Nat):Int) by omega]
   exact az
  have ei:(b:Int)+(0+(i:Int)) % 6=((b+i % 6:Nat):Int):=by omega
  refine⟨_,rfl,_,rfl,_,rfl,_,_,rfl,rfl,(by show(0:Int) < 6;decide),_,_,rfl,rfl,a,ns,b+i % 6,congrArg (fun z=>[V.ref a,V.int z]) ei,s3.seq hS,_,rfl,_,_,rfl,?_⟩
  generalize zbB (ns.getD (b+i % 6) 0) (0+(i:Int))=mix
  refine⟨_,rfl,_,rfl,_,_,rfl,rfl,(by show(0:Int) < 4;decide),nl,_,_,_,rfl,rfl,s3.seq hN,az',lS0,fun e1 he1=>?_⟩
  have s4:aj H3 (upd H3 e1 (.tup [])):=ah he1 _
  have n4:=ae (H:=H3) (a:=e1) (o:=.tup [])
  generalize upd H3 e1 (.tup [])=H4 at s4 n4
  refine⟨lS2,fun p1 hp1=>?_⟩
  have s5:aj H4 (upd H4 p1 (.tup [.str z,.ref e1])):=ah hp1 _
  have n5:=ae (H:=H4) (a:=p1) (o:=.tup [.str z,.ref e1])
  have n45:=s5 _ _ n4
  have s56:=s4.trans s5
  have tl6:=s56 _ _ tl3
  have has6:=ad.keep s56.kt (zaf _) has3
  generalize upd H4 p1 (.tup [.str z,.ref e1])=H6 at s5 n5 n45 s56 tl6 has6
  have s06:=s3.trans s56
  have next:∀(H7:Hp) (p q:Addr) (t:Tm) (D:zbO) (x8:Option V),aj H3 H7→SqT K H7 p [.str t.1,.ref q]→SqT K H7 q (t.2.map V.int)→zdl zs ts.length t→(D.nx=fun σ H'=>∃(v7 v8 v9:Option V) (xs:List V) (ts:List Tm),σ=[some (.ref a),some (.int (b:Int)),some (.ref nl),some (.int (m:Int)),none,some (.bl wide),some (.ref tl),v7,v8,v9]∧aj H H'∧H' tl=some (.lst xs)∧ad K H' (ts.map dTm) xs∧TmW zs ts∧ts.length≤i+1∧(0 < i+1→0 < ts.length)) →
    t3 D [some (.ref a),some (.int (b:Int)),some (.ref nl),some (.int (m:Int)),none,some (.bl wide),some (.ref tl),some (.int (0+(i:Int))),x8,some (.ref p)] H7:=fun H7 p q t D x8 s7 k1 k2 k3 eD=>by
   refine q3 D H7 tl p q xs ts t zs i _ _ _ _ _ _ _ _ (s7 _ _ tl3) (ad.keep s7.kt (zaf _) has3) hW li (by omega) k1 k2 k3 fun H8 xs' ts' k4 k5 k6 k7 k8 k9=>?_
   rw[eD]
   exact⟨_,_,_,xs',ts',rfl,k4 H htl0 (s3.trans s7),k5,k6,k7,k8,fun _=>k9⟩
  have m8:=za3 (mix / 4) (show(0:Int) < 8 by decide)
  refine⟨_,rfl,_,rfl,?_⟩
  cases wide with
  | false=>exact zaQ (zaQ ⟨_,rfl,_,rfl,_,rfl,_,rfl,_,_,rfl,rfl,⟨by decide,by decide⟩,_,_,rfl,rfl,(by show(0:Int) < 8;decide),_,_,rfl,rfl,⟨by decide,by decide⟩,lS2,fun dl hdl=>⟨_,rfl,.inr ⟨_,rfl,dl,_,_,_,rfl,rfl,SqL.of ae,zad (j:=0) rfl,_,mix / 4 % 8 / 2,nl,tl,zs,xs,ts,rfl,((s06.trans (ah hdl _)).seq hN),z4,SqL.of (ah hdl _ _ _ tl6),ad.keep (ah hdl _).kt (zaf _) has6,hW,by omega,(by omega),(by omega),fun H7 p7 q7 t7 s7 k1 k2 k3=>next H7 p7 q7 t7 _ _ (s56.trans ((ah hdl _).trans s7)) k1 k2 k3 rfl⟩⟩⟩)
  | true =>
   refine zax ⟨_,rfl,_,_,rfl,rfl,_,rfl,zbN (fun _=>?_) (fun _=>?_)⟩
   ·exact⟨_,rfl,_,rfl,_,rfl,_,rfl,_,_,rfl,rfl,⟨by decide,by decide⟩,_,_,rfl,rfl,(by show(0:Int) < 8;decide),_,_,rfl,rfl,⟨by decide,by decide⟩,lS2,fun dl hdl=>⟨_,rfl,.inr ⟨_,rfl,dl,_,_,_,rfl,rfl,SqL.of ae,zad (j:=1) rfl,_,3,nl,tl,zs,xs,ts,rfl,((s06.trans (ah hdl _)).seq hN),z4,SqL.of (ah hdl _ _ _ tl6),ad.keep (ah hdl _).kt (zaf _) has6,hW,by omega,(by decide),(by decide),fun H7 p7 q7 t7 s7 k1 k2 k3=>next H7 p7 q7 t7 _ _ (s56.trans ((ah hdl _).trans s7)) k1 k2 k3 rfl⟩⟩⟩
   ·exact next H6 p1 e1 (z,[]) _ _ s56 (SqT.of n5) (SqT.of n45) ⟨hz,by show(0:Nat)≤3;omega,fun x hx=>nomatch hx⟩ rfl
 ·rintro σ H3 ⟨v7,v8,v9,xs,ts,rfl,s3,tl3,has3,hW,li,pos⟩
  have li':ts.length≤((m:Int)).toNat:=li
  exact⟨_,rfl,q H3 tl xs ts s3 htl0 tl3 has3 hW (by omega) (fun m0=>pos (by show 0 < (m:Int).toNat;omega))⟩
end
end K14
namespace K14
open PySem L2
theorem zf9 {xs:List V} (c:Int) (h:0 < xs.length):∃(i:Nat) (lt:i < xs.length),c % ((xs.length:Nat):Int)=(i:Int)∧atI xs (c % ((xs.length:Nat):Int))=some xs[i]:=by
 have mo:=za3 c (show(0:Int) < ((xs.length:Nat):Int) by omega)
 have lt:(c % ((xs.length:Nat):Int)).toNat < xs.length:=by omega
 have e:c % ((xs.length:Nat):Int)=(((c % ((xs.length:Nat):Int)).toNat:Nat):Int):=by omega
 refine⟨_,lt,e,?_⟩
 have:atI xs (((c % ((xs.length:Nat):Int)).toNat:Nat):Int)=some xs[(c % ((xs.length:Nat):Int)).toNat]:=zad (List.getElem?_eq_getElem lt)
 rw[←e]at this
 exact this
theorem zg1 {ts:List Tm} {L:List Lk} {x y:Int} {i:Nat} {l:Lk} (h:L[i]?=some l):zb8 ts (L.take i) (L.drop i) x y=if l.2.2=-1∧zb9 ts (hdL (L.take i)) l.1 l.2.1=false then false else zb8 ts (L.take (i+1)) (L.drop (i+1)) x y:=by
 obtain⟨lt,e⟩:=List.getElem?_eq_some_iff.mp h
 rw[List.drop_eq_getElem_cons lt,e,zaT h]
 rfl
section
variable {P:Program} {w:World} {K:W.Frag} {mg:Str→Option Value} {base:Heap} {f fA fR fT:Addr} {fd dA dR dT':FuncData}
def zek (K:W.Frag):Sp:=fun vs H Q _=>∃(tl la:Addr) (x y:Int) (xs ys:List V) (ts:List Tm) (zs:List Str) (L:List Lk),vs=[.ref tl,.ref la,.int x,.int y]∧SqL K H tl xs∧ad K H (ts.map dTm) xs∧TmW zs ts∧ts.length≤60∧SqL K H la ys∧ad K H (L.map dL) ys∧InN ts.length L∧(0≤x∧x < (ts.length:Int))∧(0≤y∧y < (ts.length:Int))∧∀ H',aj H H'→Q (.bl (zb8 ts [] L x y)) H'
theorem zcu:zap ["_law_terms_here","_law_chain_here","_law_one","_law_other","_law_tops","_law_link"] ["_law_terms_here","_law_chain_here","_law_one","_law_other"] (ai zb0):=⟨rfl,rfl,rfl,by decide +kernel,rfl,by decide +kernel,by decide +kernel⟩
theorem ziT (F:Fun K "_law_joins" "_law_joins" zb0 f fd) (T:Txt K mg) (Ba:FB P w K mg base CX0 1 "_law_alike" fA dA ["_law_terms_here","_law_tops","_law_one","_law_other"] (zel K)) (Br:FB P w K mg base CX0 1 "_law_relabelled" fR dR ["_law_tops","_law_one","_law_other"] (zcy K)):zay P w K mg base CX0 2 f fd ["_law_terms_here","_law_chain_here","_law_one","_law_other"] (zek K):=by
 refine F.ok zcu (fun vs H Q E h=>?_) (fun cdv A outer s H vs Q E hr h=>?_)
 ·obtain⟨tl,la,x,y,xs,ys,ts,zs,L,rfl,_⟩:=h
  rfl
 obtain⟨tl,la,x,y,xs,ys,ts,zs,L,rfl,hT,hL,hW,t60,hS,hY,inn,hx,hy,q⟩:=h
 have xl:xs.length=ts.length:=by rw[←hL.length,List.length_map]
 have yl:ys.length=L.length:=by rw[←hY.length,List.length_map]
 refine⟨_,(af (aq (i:=4) zcu.nd rfl (Or.inl rfl) (zaD (zca rfl) rfl T.list PyProof.Rows.Boot.list (aa (zc5 rfl T.range (aa (zab zaa rfl T.len PySem.boot_len (aa (pv 0) ac)) ac)) ac)))
  (af (zbe PassesOwn.never rfl (zbw (pv 1)) (zan (i:=5) zcu.nd rfl (Or.inl rfl))
   (af (zaA (PW.pt (zc1 (zag zbk (ar zal (pv 5) ag (fun _ _=>rfl)) (zeh zdm ag) (zas _)) (zcB (zb7 (zbt (zac Ba.ok hr rfl Ba.m Ba.kp Ba.b .nil ay (aa (pv 0) (aa (pv 4) (aa (ar zal (pv 5) ag (fun _ _=>rfl)) (aa (ar zal (pv 5) ag (fun _ _=>rfl)) ac))))))))))
     (ak (zaj zb5))
     zaq)
    (ak (aq (i:=4) zcu.nd rfl (Or.inl rfl) (zac Br.ok hr rfl Br.m Br.kp Br.b .nil ay (aa (pv 4) (aa (ar zal (pv 5) ag (fun _ _=>rfl)) (aa (ar zal (pv 5) ag (fun _ _=>rfl)) ac))))))))
  (ak (zaj (zcD zbk (ar zah (pv 4) (pv 2) (fun _ _=>rfl)) (ar zah (pv 4) (pv 3) (fun _ _=>rfl)) (zas _)))))),?_⟩
 refine⟨_,rfl,tl,_,rfl,.inl hT,((xs.length:Nat):Int),rfl,fun r hr'=>?_⟩
 have s1:aj H (upd H r (.rng 0 ((xs.length:Nat):Int))):=ah hr' _
 have n1:=ae (H:=H) (a:=r) (o:=.rng 0 ((xs.length:Nat):Int))
 generalize upd H r (.rng 0 ((xs.length:Nat):Int))=H1 at s1 n1
 refine⟨r,((xs.length:Nat):Int),rfl,n1,by omega,by omega,fun l hl=>?_⟩
 have s2:aj H1 (upd H1 l (.lst (((List.range (((xs.length:Nat):Int)).toNat).map fun i:Nat=>(i:Int)).map V.int))):=ah hl _
 have n2:(upd H1 l (.lst (((List.range (((xs.length:Nat):Int)).toNat).map fun i:Nat=>(i:Int)).map V.int))) l=some (.lst ((zcf (hdL []) xs.length).map V.int)):=ae
 generalize upd H1 l (.lst (((List.range (((xs.length:Nat):Int)).toNat).map fun i:Nat=>(i:Int)).map V.int))=H2 at s2 n2
 rw[xl]at n2
 have s02:=s1.trans s2
 refine⟨_,rfl,la,rfl,⟨_,s02.seq hS⟩,zcj zbv (fun i σ H'=>∃(v5:Option V) (tp:Addr),σ=[some (.ref tl),some (.ref la),some (.int x),some (.int y),some (.ref tp),v5]∧aj H H'∧H' tp=some (.lst ((zcf (hdL (L.take i)) ts.length).map V.int))∧zb8 ts [] L x y=zb8 ts (L.take i) (L.drop i) x y) (fun i σ H' ⟨_,_,_,s3,_⟩=>s3.seq hS) ⟨none,l,rfl,s02,n2,rfl⟩ ?_ ?_⟩
 ·rintro i σ H9 z H3 hi ⟨v5,tp,rfl,s3,tp3,ej⟩ ⟨rfl,hz⟩
  obtain⟨k,p,hk,rfl,hp⟩:=zcG hY (hz _ (s3.seq hS))
  have kb:=inn k (List.mem_of_getElem? hk)
  have a0:atI [V.int k.1,V.int k.2.1,V.int k.2.2] 0=some (.int k.1):=zad (j:=0) rfl
  have a1:atI [V.int k.1,V.int k.2.1,V.int k.2.2] 1=some (.int k.2.1):=zad (j:=1) rfl
  have a2:atI [V.int k.1,V.int k.2.1,V.int k.2.2] 2=some (.int k.2.2):=zad (j:=2) rfl
  rw[zg1 hk]at ej
  refine⟨_,rfl,p,_,_,_,rfl,rfl,s3.tup hp,a2,_,rfl,rfl,_,rfl,?_⟩
  rw[zdT]
  by_cases c:k.2.2=-1
  ·rw[decide_eq_true c]
   refine zaQ ⟨_,rfl,_,rfl,_,rfl,p,_,_,_,rfl,rfl,s3.tup hp,a0,_,rfl,p,_,_,_,rfl,rfl,s3.tup hp,a1,tl,tp,k.1,k.2.1,xs,ts,zs,_,rfl,s3.seq hT,ad.keep s3.kt (zaf _) hL,hW,t60,SqL.of tp3,kb.1,kb.2,fun H4 s4=>⟨_,rfl,?_⟩⟩
   cases eb:zb9 ts (hdL (L.take i)) k.1 k.2.1 with
   | false =>
    rw[if_pos ⟨c,eb⟩]at ej
    rw[ej]at q
    exact zaQ (q _ (s3.trans s4))
   | true =>
    rw[if_neg (fun z=>by rw[eb]at z;cases z.2)]at ej
    refine zax ⟨_,rfl,_,rfl,p,_,_,_,rfl,rfl,(s3.trans s4).tup hp,a0,_,rfl,p,_,_,_,rfl,rfl,(s3.trans s4).tup hp,a1,tp,k.1,k.2.1,ts.length,_,rfl,SqL.of (s4 _ _ tp3),kb.1,kb.2,by omega,fun H5 t5 s5 _ ht5=>⟨_,t5,rfl,(s3.trans s4).trans s5,?_,ej⟩⟩
    rw[zaT hk,zbo]
    exact ht5
  ·rw[decide_eq_false c]
   rw[if_neg (fun z=>c z.1)]at ej
   refine zax (zax ⟨_,rfl,_,rfl,p,_,_,_,rfl,rfl,s3.tup hp,a0,_,rfl,p,_,_,_,rfl,rfl,s3.tup hp,a1,tp,k.1,k.2.1,ts.length,_,rfl,SqL.of tp3,kb.1,kb.2,by omega,fun H5 t5 s5 _ ht5=>⟨_,t5,rfl,s3.trans s5,?_,ej⟩⟩)
   rw[zaT hk,zbo]
   exact ht5
 rintro σ H3 ⟨v5,tp,rfl,s3,tp3,ej⟩
 rw[yl,List.take_length,List.drop_length]at ej
 rw[yl,List.take_length]at tp3
 refine⟨_,rfl,_,rfl,tp,_,_,_,rfl,rfl,SqL.of tp3,zbD _ hx.1 hx.2,_,rfl,_,rfl,tp,_,_,_,rfl,rfl,SqL.of tp3,zbD _ hy.1 hy.2,rfl,?_⟩
 rw[zdT]
 rw[ej]at q
 exact q _ s3
def zf2 (K:W.Frag):Sp:=fun vs H Q _=>∃(fl la:Addr) (ws ys:List V) (M:List Nat) (L:List Lk),vs=[.ref fl,.ref la]∧SqL K H fl ws∧ad K H ((atP L M).map dL) ws∧SqL K H la ys∧ad K H (L.map dL) ys∧M.Pairwise (· < ·)∧(∀ q∈M,q < L.length)∧∀ H',aj H H'→Q (.bl true) H'
theorem zbK:zap ["_law_found","_law_chain_here","_law_at","_law_link"] ["_law_found","_law_chain_here"] (ai zbx):=⟨rfl,rfl,rfl,by decide +kernel,rfl,by decide +kernel,by decide +kernel⟩
theorem zjE (F:Fun K "_law_some_of" "_law_some_of" zbx f fd) (T:Txt K mg) (Bt:FB P w K mg base CX0 2 "_law_triple" fT dT' ["_law_link"] (zeE K)):zay P w K mg base CX0 3 f fd ["_law_found","_law_chain_here"] (zf2 K):=by
 refine F.ok zbK (fun vs H Q E h=>?_) (fun cdv A outer s H vs Q E hr h=>?_)
 ·obtain⟨fl,la,ws,ys,M,L,rfl,_⟩:=h
  rfl
 obtain⟨fl,la,ws,ys,M,L,rfl,hF,hf,hS,hY,lt,inn,q⟩:=h
 have hu:=zbT hr
 have yl:ys.length=L.length:=by rw[←hY.length,List.length_map]
 refine⟨_,(af (zaA (zb7 (zbt (zab zgV rfl T.isinstance PyProof.Rows.Boot.isinstance (aa (pv 0) (aa (zd6 (v:=.ty "list") rfl T.list PyProof.Rows.Boot.list rfl) ac)))))
   (ak (zaj zb5))
   zaq)
  (af (aq (i:=2) zbK.nd rfl (Or.inl rfl) ag)
  (af (zbe PassesOwn.never rfl (zbw (pv 0)) (zan (i:=3) zbK.nd rfl (Or.inl rfl))
   (af (zdz PassesOwn.never (PW.pt (zc1 (zag zfA (pv 2) (zab zaa rfl T.len PySem.boot_len (aa (pv 1) ac)) (zas _)) (zcB (zag (zc2 hu) (ar zah (pv 1) (pv 2) (fun _ _=>rfl)) (pv 3) rfl))))
     (ak (aq (i:=2) zbK.nd rfl (Or.inl rfl) (ao zbf (pv 2) ag))))
    (af (zaA (PW.pt (zeg (zag zbk (pv 2) (zab zaa rfl T.len PySem.boot_len (aa (pv 1) ac)) (zas _)) (zd0 (zb7 (zbt (zac Bt.ok hr rfl Bt.m Bt.kp Bt.b .nil ay (aa (pv 3) ac)))))))
     (ak (zaj zb5))
     zaq)
    (ak (aq (i:=2) zbK.nd rfl (Or.inl rfl) (ao zbf (pv 2) ag))))))
  (ak (zaj zb5))))),?_⟩
 refine⟨_,rfl,fl,_,"list",true,rfl,hF,zf8 K "list",_,rfl,zax ⟨_,rfl,fl,rfl,⟨_,hF⟩,zcj zbv (fun j σ H'=>∃(v3:Option V) (a:Nat),σ=[some (.ref fl),some (.ref la),some (.int (a:Int)),v3]∧aj H H'∧∀ i q,j≤i→M[i]?=some q→a≤q) (fun j σ H' ⟨_,_,_,s,_⟩=>s.seq hF) ⟨none,0,rfl,aj.refl _,fun _ _ _ _=>Nat.zero_le _⟩ ?_ ?_⟩⟩
 ·rintro j σ H9 z H3 hj ⟨v3,a,rfl,s3,hle⟩ ⟨rfl,hz⟩
  obtain⟨l,p,hl,rfl,hp⟩:=zcG hf (hz _ (s3.seq hF))
  unfold atP at hl
  rw[List.getElem?_map]at hl
  obtain⟨m,hm,el⟩:=Option.map_eq_some_iff.mp hl
  have mL:=inn m (List.mem_of_getElem? hm)
  have e2:=List.getElem?_eq_getElem mL
  rw[zd9 e2]at el
  rw[el]at e2
  refine⟨fun n σ H'=>∃(a:Nat),σ=[some (.ref fl),some (.ref la),some (.int (a:Int)),some (.ref p)]∧aj H H'∧a≤m∧n=m - a,⟨_,a,rfl,s3,hle j m (Nat.le_refl _) hm,rfl⟩,?_⟩
  rintro n σ H4 ⟨b,rfl,s4,bm,rfl⟩
  obtain⟨k,pk,hk,ek,hpk⟩:=zcG hY (List.getElem?_eq_getElem (show b < ys.length by omega))
  have atb:atI ys (b:Int)=some (.ref pk):=zad ((List.getElem?_eq_getElem (show b < ys.length by omega)).trans (congrArg some ek))
  refine⟨_,rfl,_,rfl,la,_,rfl,.inl (s4.seq hS),_,_,rfl,rfl,_,rfl,?_⟩
  rw[show decide ((b:Int) < ((ys.length:Nat):Int))=true from decide_eq_true (by omega)]
  refine zaQ ⟨_,rfl,_,rfl,la,_,_,_,rfl,rfl,s4.seq hS,atb,_,rfl,dL k,dL l,zdc (s4.tup hpk),zdc (s4.tup hp),(by simp only[dep,za0,dL];decide),_,rfl,?_⟩
  cases eq:peq (dL k) (dL l) with
  | false =>
   have nb:b < m:=by
    have:b≠m:=fun e=>by
     subst e
     cases hk.symm.trans e2
     rw[zcz]at eq
     cases eq
    omega
   refine zaQ ⟨fun σ' H'=>σ'=[some (.ref fl),some (.ref la),some (.int ((b+1:Nat):Int)),some (.ref p)]∧H'=H4,?_,?_⟩
   ·rintro σ' H' ⟨rfl,rfl⟩
    exact⟨m - (b+1),by omega,b+1,rfl,s4,nb,rfl⟩
   ·exact⟨_,rfl,_,_,rfl,rfl,rfl,rfl⟩
  | true =>
   refine zax ⟨_,rfl,_,rfl,la,_,rfl,.inl (s4.seq hS),rfl,_,rfl,?_⟩
   rw[zdT,decide_eq_false (show ¬(b:Int)=((ys.length:Nat):Int) by omega)]
   refine zax ⟨_,rfl,p,l,rfl,s4.tup hp,_,rfl,zax ⟨_,rfl,_,_,rfl,rfl,_,b+1,rfl,s4,fun i r hi hr'=>?_⟩⟩
   have h1:=List.getElem?_eq_some_iff.mp hm
   have h2:=List.getElem?_eq_some_iff.mp hr'
   have:=List.pairwise_iff_getElem.mp lt j i h1.1 h2.1 (by omega)
   rw[h1.2,h2.2]at this
   omega
 rintro σ H3 ⟨v3,a,rfl,s3,_⟩
 exact q _ s3
def zeF (K:W.Frag):Sp:=fun vs H Q _=>∃(tl la:Addr) (x c:Int) (xs ys:List V) (L:List Lk),vs=[.ref tl,.ref la,.int x,.int c]∧SqL K H tl xs∧xs.length≤60∧SqL K H la ys∧ad K H (L.map dL) ys∧InN xs.length L∧(0≤x∧x < (xs.length:Int))∧∀ H' (y:Int),aj H H'→(0≤y∧y < (xs.length:Int))→Q (.int y) H'
theorem zb1:zap ["_law_terms_here","_law_chain_here","_law_one","_law_cell","_law_tops","_law_link","_law_some"] ["_law_terms_here","_law_chain_here","_law_one","_law_cell"] (ai zbr):=⟨rfl,rfl,rfl,by decide +kernel,rfl,by decide +kernel,by decide +kernel⟩
theorem zig (F:Fun K "_law_beside" "_law_beside" zbr f fd) (T:Txt K mg) (Br:FB P w K mg base CX0 1 "_law_relabelled" fR dR ["_law_tops","_law_one","_law_other"] (zcy K)):zay P w K mg base CX0 2 f fd ["_law_terms_here","_law_chain_here","_law_one","_law_cell"] (zeF K):=by
 refine F.ok zb1 (fun vs H Q E h=>?_) (fun cdv A outer s H vs Q E hr h=>?_)
 ·obtain⟨tl,la,x,c,xs,ys,L,rfl,_⟩:=h
  rfl
 obtain⟨tl,la,x,c,xs,ys,L,rfl,hT,t60,hS,hY,inn,hx,q⟩:=h
 have yl:ys.length=L.length:=by rw[←hY.length,List.length_map]
 refine⟨_,(af (aq (i:=4) zb1.nd rfl (Or.inr rfl) (zaD (zca rfl) rfl T.list PyProof.Rows.Boot.list (aa (zc5 rfl T.range (aa (zab zaa rfl T.len PySem.boot_len (aa (pv 0) ac)) ac)) ac)))
  (af (zbe PassesOwn.never rfl (zbw (pv 1)) (zan (i:=5) zb1.nd rfl (Or.inl rfl))
   (ak (aq (i:=4) zb1.nd rfl (Or.inr rfl) (zac Br.ok hr rfl Br.m Br.kp Br.b .nil ay (aa (pv 4) (aa (ar zal (pv 5) ag (fun _ _=>rfl)) (aa (ar zal (pv 5) ag (fun _ _=>rfl)) ac)))))))
  (af (zdM (i:=6) (N':=["_law_term_here","_law_tops","_law_one"]) (ix:=[4,2]) zb1.nd rfl (Or.inl rfl) rfl rfl (by decide +kernel) (by decide +kernel) rfl (fun ok=>zcJ (sc:=ai zbr) ok rfl (by decide +kernel) (by decide +kernel)) (by decide +kernel) rfl rfl (fun j i h=>match j,h with | 0,h=>by cases h;exact⟨_,rfl,rfl,.inl rfl,.inl rfl⟩ | 1,h=>by cases h;exact⟨_,rfl,rfl,.inl rfl,.inl rfl⟩ | n+2,h=>by simp at h) (zbJ rfl T.range (aa (zab zaa rfl T.len PySem.boot_len (aa (pv 0) ac)) ac)) (fun _ _ _ _=>(zag zbk (ar (r:=zc6 K) zah (pv 1) (pv 0) (fun _ _=>rfl)) (ar (r:=zc6 K) zah (pv 1) (pv 2) (fun _ _=>rfl)) (zas _))) (fun _ _ _ _=>(pv 0)))
  (ak (zaj (ar zah (pv 6) (ao zak (pv 3) (zab zaa rfl T.len PySem.boot_len (aa (pv 6) ac))) (fun _ _=>rfl))))))),?_⟩
 refine⟨_,rfl,tl,_,rfl,.inl hT,((xs.length:Nat):Int),rfl,fun r hr'=>?_⟩
 have s1:aj H (upd H r (.rng 0 ((xs.length:Nat):Int))):=ah hr' _
 have n1:=ae (H:=H) (a:=r) (o:=.rng 0 ((xs.length:Nat):Int))
 generalize upd H r (.rng 0 ((xs.length:Nat):Int))=H1 at s1 n1
 refine⟨r,((xs.length:Nat):Int),rfl,n1,by omega,by omega,fun l hl=>?_⟩
 have s2:aj H1 (upd H1 l (.lst (((List.range (((xs.length:Nat):Int)).toNat).map fun i:Nat=>(i:Int)).map V.int))):=ah hl _
 have n2:(upd H1 l (.lst (((List.range (((xs.length:Nat):Int)).toNat).map fun i:Nat=>(i:Int)).map V.int))) l=some (.lst ((zcf (hdL []) xs.length).map V.int)):=ae
 generalize upd H1 l (.lst (((List.range (((xs.length:Nat):Int)).toNat).map fun i:Nat=>(i:Int)).map V.int))=H2 at s2 n2
 have s02:=s1.trans s2
 refine⟨_,rfl,la,rfl,⟨_,s02.seq hS⟩,zcj zbv (fun i σ H'=>∃(v5:Option V) (tp:Addr),σ=[some (.ref tl),some (.ref la),some (.int x),some (.int c),some (.ref tp),v5,none]∧aj H H'∧H' tp=some (.lst ((zcf (hdL (L.take i)) xs.length).map V.int))) (fun i σ H' ⟨_,_,_,s3,_⟩=>s3.seq hS) ⟨none,l,rfl,s02,n2⟩ ?_ ?_⟩
 ·rintro i σ H9 z H3 hi ⟨v5,tp,rfl,s3,tp3⟩ ⟨rfl,hz⟩
  obtain⟨k,p,hk,rfl,hp⟩:=zcG hY (hz _ (s3.seq hS))
  have kb:=inn k (List.mem_of_getElem? hk)
  have a0:atI [V.int k.1,V.int k.2.1,V.int k.2.2] 0=some (.int k.1):=zad (j:=0) rfl
  have a1:atI [V.int k.1,V.int k.2.1,V.int k.2.2] 1=some (.int k.2.1):=zad (j:=1) rfl
  refine⟨_,rfl,_,rfl,p,_,_,_,rfl,rfl,s3.tup hp,a0,_,rfl,p,_,_,_,rfl,rfl,s3.tup hp,a1,tp,k.1,k.2.1,xs.length,_,rfl,SqL.of tp3,kb.1,kb.2,by omega,fun H4 t4 s4 _ ht4=>⟨_,t4,rfl,s3.trans s4,?_⟩⟩
  rw[zaT hk,zbo]
  exact ht4
 rintro σ H3 ⟨v5,tp,rfl,s3,tp3⟩
 rw[yl,List.take_length]at tp3
 refine⟨_,rfl,tl,_,rfl,.inl (s3.seq hT),((xs.length:Nat):Int),rfl,by omega,by omega,fun D hD=>zfK zgD (fun i us H'=>aj H3 H'∧∃ ns:List Int,us=ns.map V.int∧ns.length≤i∧(∀ n∈ns,0≤n∧n < (xs.length:Int))∧(x < (i:Int)→ns≠[])) (fun _ _ _ _=>trivial) ⟨ah hD _,[],rfl,Nat.le_refl _,(fun n hn=>nomatch hn),fun z=>absurd z (by omega)⟩ ?_ ?_⟩
 ·rintro i us H9 z H4 hi hly hDs ⟨s4,ns,rfl,nl,nin,nn⟩ ⟨rfl,rfl⟩
  have hi':i < xs.length:=by
   have:i < ((xs.length:Nat):Int).toNat:=hi
   omega
  refine⟨_,rfl,_,rfl,tp,_,_,_,rfl,rfl,SqL.of (s4 _ _ tp3),zbD _ (by omega) (by omega),_,rfl,_,rfl,tp,_,_,_,rfl,rfl,SqL.of (s4 _ _ tp3),zbD _ hx.1 hx.2,rfl,_,rfl,?_⟩
  rw[zdT]
  by_cases e:hdL L (0+(i:Int))=hdL L x
  ·rw[decide_eq_true e]
   refine zaQ ⟨_,rfl,zbC (bsz _ (by omega)) hi hly hDs ⟨s4.upd hD,ns++[0+(i:Int)],by rw[List.map_append];rfl,by rw[List.length_append];show _+1≤_;omega,fun n hn=>?_,fun _=>by simp⟩⟩
   rcases List.mem_append.mp hn with a | a
   ·exact nin n a
   ·rw[List.mem_singleton.mp a];omega
  ·rw[decide_eq_false e]
   refine zax (zcE hi hly hDs ⟨s4,ns,rfl,by omega,nin,fun z=>nn ?_⟩)
   by_cases c2:x=(i:Int)
   ·exfalso
    apply e
    rw[c2,Int.zero_add]
   ·omega
 rintro us H4 hDs ⟨s4,ns,rfl,nl,nin,nn⟩
 have pos:0 < ns.length:=List.length_pos_iff.mpr (nn (by show x < (((xs.length:Nat):Int).toNat:Int);omega))
 obtain⟨i,lt,e1,e2⟩:=zf9 (xs:=ns.map V.int) c (by rw[List.length_map];exact pos)
 rw[List.length_map]at lt
 rw[List.getElem_map]at e2
 refine⟨_,rfl,_,rfl,_,rfl,D,_,rfl,.inl (SqL.of hDs),_,_,rfl,rfl,(by rw[List.length_map];omega),D,_,_,_,rfl,rfl,SqL.of hDs,e2,q _ _ (s3.trans s4) (nin _ (List.getElem_mem lt))⟩
end
end K14
namespace K14
open PySem L2
section
variable {P:Program} {w:World} {K:W.Frag} {mg:Str→Option Value} {base:Heap} {f fA:Addr} {fd dA:FuncData}
def zeV (K:W.Frag):Sp:=fun vs H Q _=>∃(tl gl tp:Addr) (xs ys:List V) (ts:List Tm) (zs:List Str) (gs:List (Int × Int)) (ls:List Lk),vs=[.ref tl,.ref gl,.ref tp]∧SqL K H tl xs∧ad K H (ts.map dTm) xs∧TmW zs ts∧ts.length≤60∧SqL K H gl ys∧ad K H (gs.map dP) ys∧zcd ts.length gs∧gs.length≤1000∧SqL K H tp ((zcf (hdL ls) ts.length).map V.int) ∧
 ∀(H':Hp) (r:Addr) (ws:List V) (F:List Lk),aj H H'→H r=none→H' r=some (.lst ws)→ad K H' (F.map dL) ws→(∀ l∈F,zc7 ts gs ls l)→Q (.ref r) H'
theorem zcM:zap ["_law_terms_here","_law_given_here","_law_tops","_law_found","_law_one","_law_other"] ["_law_terms_here","_law_given_here","_law_tops"] (ai zbR):=⟨rfl,rfl,rfl,by decide +kernel,rfl,by decide +kernel,by decide +kernel⟩
theorem zjF (F:Fun K "_law_next" "_law_next" zbR f fd) (T:Txt K mg) (Ba:FB P w K mg base CX0 1 "_law_alike" fA dA ["_law_terms_here","_law_tops","_law_one","_law_other"] (zel K)):zay P w K mg base CX0 2 f fd ["_law_terms_here","_law_given_here","_law_tops"] (zeV K):=by
 refine F.ok zcM (fun vs H Q E h=>?_) (fun cdv A outer s H vs Q E hr h=>?_)
 ·obtain⟨tl,gl,tp,xs,ys,ts,zs,gs,ls,rfl,_⟩:=h
  rfl
 obtain⟨tl,gl,tp,xs,ys,ts,zs,gs,ls,rfl,hT,hL,hW,t60,hG,hg,pin,g1000,hP,q⟩:=h
 have xl:xs.length=ts.length:=by rw[←hL.length,List.length_map]
 have yl:ys.length=gs.length:=by rw[←hg.length,List.length_map]
 refine⟨_,(af (zfO (i:=3) (N':=["_law_at","_law_one","_law_other","_law_tops"]) (L:=3) (ix:=[2]) zcM.nd rfl (Or.inl rfl) rfl rfl (by decide +kernel) (by decide +kernel) (fun ok=>zcJ (sc:=ai zbR) ok rfl (by decide +kernel) (by decide +kernel)) rfl (fun j i h=>match j,h with | 0,h=>by cases h;exact⟨_,rfl,rfl,.inl rfl,.inl rfl⟩ | n+1,h=>by simp at h) (ze0 rfl T.enumerate (aa (pv 1) ac)) (fun _ _ _ _=>(ze1 2 K rfl rfl (zaM (zan (i:=0) (show(["_law_at","_law_one","_law_other","_law_tops"]:List Str).Nodup by decide +kernel) rfl (Or.inl rfl)) (zaM (ze1 2 K rfl rfl (zaM (zan (i:=1) (show(["_law_at","_law_one","_law_other","_law_tops"]:List Str).Nodup by decide +kernel) rfl (Or.inl rfl)) (zaM (zan (i:=2) (show(["_law_at","_law_one","_law_other","_law_tops"]:List Str).Nodup by decide +kernel) rfl (Or.inl rfl)) zcb))) zcb)))) (fun _ _ _ _=>(zag zei (ar (r:=zc6 K) zah (pv 3) (pv 1) (fun _ _=>rfl)) (ar (r:=zc6 K) zah (pv 3) (pv 2) (fun _ _=>rfl)) (zas _))) (fun _ _ _ _=>(zaN (aa (pv 1) (aa (pv 2) (aa (pv 0) ac))))))
  (af (zbe PassesOwn.never rfl (zbJ rfl T.range (aa (zab zaa rfl T.len PySem.boot_len (aa (pv 0) ac)) ac)) (zan (i:=4) zcM.nd rfl (Or.inl rfl))
   (ak (zbe PassesOwn.never rfl (zbJ rfl T.range (aa (pv 4) ac)) (zan (i:=5) zcM.nd rfl (Or.inl rfl))
    (ak (zaA (PW.pt (zc1 (zag zei (ar zah (pv 2) (pv 4) (fun _ _=>rfl)) (ar zah (pv 2) (pv 5) (fun _ _=>rfl)) (zas _)) (zcB (zbt (zac Ba.ok hr rfl Ba.m Ba.kp Ba.b .nil ay (aa (pv 0) (aa (pv 2) (aa (pv 4) (aa (pv 5) ac)))))))))
     (ak (zaZ (zb4 PySem.F.plainAttrs_list PySem.F.slot_list_append PySem.F.type_list_append zaH (pv 3) (aa (zaN (aa (pv 5) (aa (pv 4) (aa (zeh zdm ag) ac)))) ac))))
     zaq)))))
  (ak (zaj (pv 3))))),?_⟩
 refine⟨_,rfl,gl,rfl,⟨_,hG⟩,fun Dl hDl=>zf7 zeS (fun i us H'=>aj H H'∧∃ F:List Lk,ad K H' (F.map dL) us∧F.length≤i∧∀ l∈F,zc7 ts gs ls l) (fun i us H' ⟨s1,_⟩=>s1.seq hG) ⟨ah hDl _,[],ad.nil,Nat.le_refl _,fun p hp=>nomatch hp⟩ ?_ ?_⟩
 ·rintro i us H1 x H2 hi hly hDs ⟨s1,F,has,fl,fok⟩ ⟨t,y,rfl,ht,rfl,hy⟩ σ0 hσ0
  obtain⟨pr,p,hpr,rfl,hp⟩:=ze3 hg (hy _ (s1.seq hG))
  have pb:=pin pr (List.mem_of_getElem? hpr)
  have s2:aj H1 (upd H1 t (.tup [.int (i:Int),.ref p])):=ah ht _
  have n2:=ae (H:=H1) (a:=t) (o:=.tup [.int (i:Int),.ref p])
  have hD2:=s2 _ _ hDs
  have has2:=ad.keep s2.kt (zai _) has
  generalize upd H1 t (.tup [.int (i:Int),.ref p])=H2 at s2 n2 hD2 has2
  have s12:=s1.trans s2
  match σ0,hσ0 with
  | [w0,w1,w2],_ =>
   refine⟨t,_,rfl,SqT.of n2,rfl,_,_,rfl,_,_,rfl,p,_,rfl,s12.tup hp,rfl,_,_,rfl,_,_,rfl,rfl,rfl,[some (.int (i:Int)),some (.int pr.1),some (.int pr.2)],rfl,rfl,?_⟩
   refine⟨_,rfl,_,rfl,tp,_,_,_,rfl,rfl,s12.seq hP,zbD _ pb.1.1 pb.1.2,_,rfl,_,rfl,tp,_,_,_,rfl,rfl,s12.seq hP,zbD _ pb.2.1 pb.2.2,rfl,_,rfl,?_⟩
   rw[zdT]
   by_cases c:hdL ls pr.1=hdL ls pr.2
   ·rw[decide_eq_true c]
    exact zax (zcE hi hly hD2 ⟨s12,F,has2,by omega,fok⟩)
   ·rw[decide_eq_false c]
    refine zaQ ⟨_,rfl,_,rfl,_,rfl,lS3,fun r hr'=>?_⟩
    have s3:aj H2 (upd H2 r (.tup [.int pr.1,.int pr.2,.int (i:Int)])):=ah hr' _
    have n3:=ae (H:=H2) (a:=r) (o:=.tup [.int pr.1,.int pr.2,.int (i:Int)])
    have hD3:=s3 _ _ hD2
    have has3:=ad.keep s3.kt (zai _) has2
    generalize upd H2 r (.tup [.int pr.1,.int pr.2,.int (i:Int)])=H3 at s3 n3 hD3 has3
    have kt:=zam.lst (ys:=us++[.ref r]) hD3
    refine zbC (bsz _ (by omega)) hi hly hD3 ⟨(s12.trans s3).upd hDl,F++[(pr.1,pr.2,(i:Int))],?_,by rw[List.length_append];show _+1≤_;omega,fun l hl=>?_⟩
    ·rw[List.map_append]
     exact ad.append (ad.keep kt (zai _) has3) (ad.one (zdc (l:=(pr.1,pr.2,(i:Int))) (kt.sq (SqT.of n3))))
    ·rcases List.mem_append.mp hl with hl | hl
     ·exact fok l hl
     ·cases List.mem_singleton.mp hl
      exact⟨pb.1,pb.2,c,.inl ⟨by show(0:Int)≤(i:Int);omega,by show gs[((i:Int)).toNat]?=some (pr.1,pr.2);rw[Int.toNat_natCast];exact hpr⟩⟩
 rintro us H1 hDs ⟨s1,F,has,fl,fok⟩
 refine⟨_,rfl,tl,_,rfl,.inl (s1.seq hT),((xs.length:Nat):Int),rfl,by omega,by omega,zck (lo:=0) (n:=(((xs.length:Nat):Int)).toNat) (fun i σ H'=>∃(v4 v5:Option V) (us:List V) (F:List Lk),σ=[some (.ref tl),some (.ref gl),some (.ref tp),some (.ref Dl),v4,v5]∧aj H H'∧H' Dl=some (.lst us)∧ad K H' (F.map dL) us∧F.length≤1000+60 * i∧∀ l∈F,zc7 ts gs ls l) ⟨none,none,us,F,rfl,s1,hDs,has,by omega,fok⟩ ?_ ?_⟩
 ·rintro i σ H2 hi ⟨v4,v5,us2,F2,rfl,s2,hD2,has2,fl2,fok2⟩
  have hi':i < ts.length:=by
   have:i < (((xs.length:Nat):Int)).toNat:=hi
   omega
  refine⟨_,rfl,(0+(i:Int)),rfl,by omega,by omega,zck (lo:=0) (n:=(0+(i:Int)).toNat) (fun j σ H'=>∃(v5:Option V) (us:List V) (F:List Lk),σ=[some (.ref tl),some (.ref gl),some (.ref tp),some (.ref Dl),some (.int (0+(i:Int))),v5]∧aj H H'∧H' Dl=some (.lst us)∧ad K H' (F.map dL) us∧F.length≤1000+60 * i+j∧∀ l∈F,zc7 ts gs ls l) ⟨v5,us2,F2,rfl,s2,hD2,has2,by omega,fok2⟩ ?_ ?_⟩
  ·rintro j σ H3 hj ⟨v5,us3,F3,rfl,s3,hD3,has3,fl3,fok3⟩
   have hj':j < i:=by
    have:j < (0+(i:Int)).toNat:=hj
    omega
   have bi:0≤0+(i:Int)∧0+(i:Int) < (ts.length:Int):=by omega
   have bj:0≤0+(j:Int)∧0+(j:Int) < (ts.length:Int):=by omega
   refine⟨_,rfl,_,rfl,tp,_,_,_,rfl,rfl,s3.seq hP,zbD _ bi.1 bi.2,_,rfl,_,rfl,tp,_,_,_,rfl,rfl,s3.seq hP,zbD _ bj.1 bj.2,rfl,_,rfl,?_⟩
   rw[zdT]
   by_cases c:hdL ls (0+(i:Int))=hdL ls (0+(j:Int))
   ·rw[decide_eq_true c]
    exact zax (zax ⟨_,us3,F3,rfl,s3,hD3,has3,by omega,fok3⟩)
   rw[decide_eq_false c]
   refine zaQ ⟨_,rfl,_,rfl,_,rfl,_,rfl,tl,tp,_,_,xs,ts,zs,_,rfl,s3.seq hT,ad.keep s3.kt (zaf _) hL,hW,t60,s3.seq hP,bi,bj,fun H4 s4=>⟨_,rfl,?_⟩⟩
   have hD4:=s4 _ _ hD3
   have has4:=ad.keep s4.kt (zai _) has3
   cases eb:zb9 ts (hdL ls) (0+(i:Int)) (0+(j:Int)) with
   | false=>exact zax ⟨_,us3,F3,rfl,s3.trans s4,hD4,has4,by omega,fok3⟩
   | true =>
    have ul:us3.length=F3.length:=by rw[←has3.length,List.length_map]
    refine zaQ ⟨_,rfl,.inl ⟨rfl,_,SqL.of hD4⟩,_,rfl,_,rfl,_,rfl,lS3,fun r hr'=>?_⟩
    have s5:aj H4 (upd H4 r (.tup [.int (0+(j:Int)),.int (0+(i:Int)),.int (-1)])):=ah hr' _
    have n5:=ae (H:=H4) (a:=r) (o:=.tup [.int (0+(j:Int)),.int (0+(i:Int)),.int (-1)])
    have hD5:=s5 _ _ hD4
    have has5:=ad.keep s5.kt (zai _) has4
    generalize upd H4 r (.tup [.int (0+(j:Int)),.int (0+(i:Int)),.int (-1)])=H5 at s5 n5 hD5 has5
    have kt:=zam.lst (ys:=us3++[.ref r]) hD5
    refine⟨Dl,_,_,rfl,rfl,hD5,zcF (by omega),_,us3++[.ref r],F3++[(0+(j:Int),0+(i:Int),-1)],rfl,((s3.trans s4).trans s5).upd hDl,ae ..,?_,by rw[List.length_append];show _+1≤_;omega,fun l hl=>?_⟩
    ·rw[List.map_append]
     exact ad.append (ad.keep kt (zai _) has5) (ad.one (zdc (l:=(0+(j:Int),0+(i:Int),-1)) (kt.sq (SqT.of n5))))
    ·rcases List.mem_append.mp hl with hl | hl
     ·exact fok3 l hl
     ·cases List.mem_singleton.mp hl
      obtain⟨t,u,h1,h2,h3,h4⟩:=zet.mp eb
      exact⟨bj,bi,fun e=>c e.symm,.inr ⟨rfl,u,t,h2,h1,h3.symm,h4.symm⟩⟩
  ·rintro σ H3 ⟨v5,us3,F3,rfl,s3,hD3,has3,fl3,fok3⟩
   refine⟨_,_,us3,F3,rfl,s3,hD3,has3,?_,fok3⟩
   have:F3.length≤1000+60 * i+(0+(i:Int)).toNat:=fl3
   omega
 ·rintro σ H2 ⟨v4,v5,us2,F2,rfl,s2,hD2,has2,fl2,fok2⟩
  exact⟨_,rfl,q H2 Dl us2 F2 s2 hDl hD2 has2 fok2⟩
end
end K14
namespace K14
open PySem L2
def whileB (s:Stmt):List Stmt:=match s with
 | .While _ b _ _=>b
 | _=>[]
structure zdU (K:W.Frag) (H0 H:Hp) (tp cl:Addr) (ts:List Tm) (gs:List (Int × Int)) (ls:List Lk) (us:List V):Prop where
 same:aj H0 H
 htp:H tp=some (.lst ((zcf (hdL ls) ts.length).map V.int))
 hcl:H cl=some (.lst us)
 has:ad K H (ls.map dL) us
 right:zau ts gs ls
 ne:tp≠cl
 ncl:H0 cl=none
theorem zdU.to {K:W.Frag} {H0 H H':Hp} {tp cl:Addr} {ts:List Tm} {gs:List (Int × Int)} {ls:List Lk} {us:List V} (S:zdU K H0 H tp cl ts gs ls us) (s:aj H H'):zdU K H0 H' tp cl ts gs ls us :=
 ⟨S.same.trans s,s _ _ S.htp,s _ _ S.hcl,ad.keep s.kt (zai _) S.has,S.right,S.ne,S.ncl⟩
section
variable {P:Program} {w:World} {K:W.Frag} {mg:Str→Option Value} {base:Heap} {f fN fM fR:Addr} {fd dN dM dR:FuncData}
abbrev NCh:List Str:=["_law_terms_here","_law_given_here","_law_cell","_law_tops","_law_chain_here","_law_some","_law_mix","_law_one","_law_other","_law_how"]
theorem zaS:zap NCh ["_law_terms_here","_law_given_here","_law_cell"] (ai zba):=⟨rfl,rfl,rfl,by decide +kernel,rfl,by decide +kernel,by decide +kernel⟩
theorem chain3 (T:Txt K mg) (Bn:FB P w K mg base CX0 2 "_law_next" fN dN ["_law_terms_here","_law_given_here","_law_tops"] (zeV K)) (Br:FB P w K mg base CX0 1 "_law_relabelled" fR dR ["_law_tops","_law_one","_law_other"] (zcy K)) {cdv:Value} {A:Around} {outer:List Env} {s:Shared} {H0:Hp} {E:XK} (hr:zaE 2 (A.deeper (PyProof.Rows.envOfC "_law_chain" (ai zba) s.heap.objs.size f cdv))) :
  ∃ t,PSs (zb2 CX0 P w K mg base NCh "_law_chain" (ai zba) f cdv A outer s H0 E).nox ((whileB ((zae zba).getD 3 (.Pass ⟨0,0,0,0⟩))).drop 3) t ∧
   ∀(D:zbO) (HI H:Hp) (tl gl tp cl:Addr) (xs ys us:List V) (ts:List Tm) (zs:List Str) (gs:List (Int × Int)) (ls:List Lk) (l:Lk) (v2 v5 v6:Option V),zdU K HI H tp cl ts gs ls us→SqL K HI tl xs→ad K HI (ts.map dTm) xs→TmW zs ts→ts.length≤60→SqL K HI gl ys→ad K HI (gs.map dP) ys→zcd ts.length gs→gs.length≤1000→zc7 ts gs ls l →
    (∀(H':Hp) (tp' sl':Addr) (us' ws':List V) (F':List Lk),zdU K HI H' tp' cl ts gs (ls++[l]) us'→H' sl'=some (.lst ws')→ad K H' (F'.map dL) ws'→(∀ m∈F',zc7 ts gs (ls++[l]) m)→D.nx [some (.ref tl),some (.ref gl),v2,some (.ref tp'),some (.ref cl),some (.ref sl'),v6,some (.int l.1),some (.int l.2.1),some (.int l.2.2)] H') →
    t D [some (.ref tl),some (.ref gl),v2,some (.ref tp),some (.ref cl),v5,v6,some (.int l.1),some (.int l.2.1),some (.int l.2.2)] H:=by
 have hr1:zaE 1 _:=hr.mono (by decide)
 refine⟨_,(af (zaZ (zb4 PySem.F.plainAttrs_list PySem.F.slot_list_append PySem.F.type_list_append zaH (pv 4) (aa (zaN (aa (pv 7) (aa (pv 8) (aa (pv 9) ac)))) ac)))
    (af (aq (i:=3) zaS.nd rfl (Or.inl rfl) (zac Br.ok hr1 rfl Br.m Br.kp Br.b .nil ay (aa (pv 3) (aa (pv 7) (aa (pv 8) ac)))))
    (ak (aq (i:=5) zaS.nd rfl (Or.inl rfl) (zac Bn.ok hr rfl Bn.m Bn.kp Bn.b .nil ay (aa (pv 0) (aa (pv 1) (aa (pv 3) ac)))))))),?_⟩
 rintro D HI H tl gl tp cl xs ys us ts zs gs ls l v2 v5 v6 S hT hL hW t60 hG hg pin g1000 ok nx
 have ul:us.length=ls.length:=by rw[←S.has.length,List.length_map]
 have ll:=S.right.len
 refine⟨_,rfl,.inl ⟨rfl,_,SqL.of S.hcl⟩,_,rfl,_,rfl,_,rfl,lS3,fun p hp=>?_⟩
 have s1:aj H (upd H p (.tup [.int l.1,.int l.2.1,.int l.2.2])):=ah hp _
 have n1:=ae (H:=H) (a:=p) (o:=.tup [.int l.1,.int l.2.1,.int l.2.2])
 generalize upd H p (.tup [.int l.1,.int l.2.1,.int l.2.2])=H1 at s1 n1
 have S1:=S.to s1
 refine⟨cl,_,_,rfl,rfl,S1.hcl,zcF (by omega),?_⟩
 have kt:=zam.lst (ys:=us++[.ref p]) S1.hcl
 have s2:aj HI (upd H1 cl (.lst (us++[.ref p]))):=S1.same.upd S.ncl
 have c2:=ae (H:=H1) (a:=cl) (o:=.lst (us++[.ref p]))
 have t2:(upd H1 cl (.lst (us++[.ref p]))) tp=some (.lst ((zcf (hdL ls) ts.length).map V.int)):=by rw[ap S.ne];exact S1.htp
 have has2:ad K (upd H1 cl (.lst (us++[.ref p]))) ((ls++[l]).map dL) (us++[.ref p]):=by
  rw[List.map_append]
  exact ad.append (ad.keep kt (zai _) S1.has) (ad.one (zdc (kt.sq (SqT.of n1))))
 generalize upd H1 cl (.lst (us++[.ref p]))=H2 at s2 c2 t2 has2
 refine⟨_,rfl,_,rfl,_,rfl,tp,l.1,l.2.1,ts.length,_,rfl,SqL.of t2,ok.a,ok.b,by omega,fun H3 tp3 s3 hn3 ht3=>?_⟩
 have S3:zdU K HI H3 tp3 cl ts gs (ls++[l]) (us++[.ref p]):=⟨s2.trans s3,by rw[zbo];exact ht3,s3 _ _ c2,ad.keep s3.kt (zai _) has2,S.right.snoc ok,(fun e=>by rw[e,c2]at hn3;cases hn3),S.ncl⟩
 refine⟨_,rfl,_,rfl,_,rfl,tl,gl,tp3,xs,ys,ts,zs,gs,ls++[l],rfl,S3.same.seq hT,ad.keep S3.same.kt (zaf _) hL,hW,t60,S3.same.seq hG,ad.keep S3.same.kt (zaG _) hg,pin,g1000,SqL.of S3.htp,fun H4 sl ws F s4 _ h4 h5 h6=>?_⟩
 exact nx H4 tp3 sl _ ws F (S3.to s4) h4 h5 h6
def zfr (K:W.Frag):Sp:=fun vs H Q _=>∃(tl gl:Addr) (c:Int) (xs ys:List V) (ts:List Tm) (zs:List Str) (gs:List (Int × Int)),vs=[.ref tl,.ref gl,.int c]∧SqL K H tl xs∧ad K H (ts.map dTm) xs∧TmW zs ts∧ts.length≤60∧SqL K H gl ys∧ad K H (gs.map dP) ys∧zcd ts.length gs∧gs.length≤1000 ∧
 ∀(H':Hp) (r:Addr) (us:List V) (ls:List Lk),aj H H'→H r=none→H' r=some (.lst us)→ad K H' (ls.map dL) us→zau ts gs ls→Q (.ref r) H'
theorem ziV (F:Fun K "_law_chain" "_law_chain" zba f fd) (T:Txt K mg) (Bn:FB P w K mg base CX0 2 "_law_next" fN dN ["_law_terms_here","_law_given_here","_law_tops"] (zeV K)) (Br:FB P w K mg base CX0 1 "_law_relabelled" fR dR ["_law_tops","_law_one","_law_other"] (zcy K)) (Bm:FB P w K mg base CX0 1 "_law_mixed" fM dM ["_law_cell","_law_k"] zbQ):zay P w K mg base CX0 3 f fd ["_law_terms_here","_law_given_here","_law_cell"] (zfr K):=by
 refine F.ok zaS (fun vs H Q E h=>?_) (fun cdv A outer s H vs Q E hr h=>?_)
 ·obtain⟨tl,gl,c,xs,ys,ts,zs,gs,rfl,_⟩:=h
  rfl
 obtain⟨tl,gl,c,xs,ys,ts,zs,gs,rfl,hT,hL,hW,t60,hG,hg,pin,g1000,q⟩:=h
 have hr1:zaE 1 _:=hr.mono (by decide)
 have hu:=zbT hr
 have xl:xs.length=ts.length:=by rw[←hL.length,List.length_map]
 obtain⟨t3,h3,q3⟩:=chain3 (P:=P) (w:=w) (base:=base) (f:=f) (cdv:=cdv) (outer:=outer) (H0:=H) (E:=E) T Bn Br hr
 refine⟨_,(af (aq (i:=3) zaS.nd rfl (Or.inl rfl) (zaD (zca rfl) rfl T.list PyProof.Rows.Boot.list (aa (zc5 rfl T.range (aa (zab zaa rfl T.len PySem.boot_len (aa (pv 0) ac)) ac)) ac)))
  (af (aq (i:=4) zaS.nd rfl (Or.inl rfl) (zaF ac))
  (af (aq (i:=5) zaS.nd rfl (Or.inl rfl) (zac Bn.ok hr rfl Bn.m Bn.kp Bn.b .nil ay (aa (pv 0) (aa (pv 1) (aa (pv 3) ac)))))
  (af (zdz PassesOwn.never (zag (zc2 hu) (pv 5) (zaF ac) rfl)
   (af (aq (i:=6) zaS.nd rfl (Or.inl rfl) (zac Bm.ok hr1 rfl Bm.m Bm.kp Bm.b .nil ay (aa (pv 2) (aa (zab zaa rfl T.len PySem.boot_len (aa (pv 4) ac)) ac))))
    (af (zfF (ar zah (pv 5) (ao zak (ao zar (pv 6) ag) (zab zaa rfl T.len PySem.boot_len (aa (pv 5) ac))) (fun _ _=>rfl)) (zdp rfl (zaM (zan (i:=7) zaS.nd rfl (Or.inl rfl)) (zaM (zan (i:=8) zaS.nd rfl (Or.inl rfl)) (zaM (zan (i:=9) zaS.nd rfl (Or.inl rfl)) zcb)))))
    (af (zaA (PW.pt (zc1 (zag zbk (pv 9) (zeh zdm ag) (zas _)) (zcB (zag zbk (ao zak (pv 6) ag) ag (zas _)))))
     (ak (ps_par (i:=7) (j:=8) rfl zaS.nd rfl rfl (by decide) rfl rfl (aa (pv 8) (aa (pv 7) ac)) rfl))
     zaq) h3))))
  (af (zaA (zag zbk (ao zak (pv 2) ag) ag (zas _))
   (ak (zaj (zcQ zeX (pv 4) zdk (zdj (ao zak (ao zar (pv 2) ag) (ao zbf (zab zaa rfl T.len PySem.boot_len (aa (pv 4) ac)) ag))))))
   zaq)
  (ak (zaj (pv 4)))))))),?_⟩
 refine⟨_,rfl,tl,_,rfl,.inl hT,((xs.length:Nat):Int),rfl,fun r hr'=>?_⟩
 have s1:aj H (upd H r (.rng 0 ((xs.length:Nat):Int))):=ah hr' _
 have n1:=ae (H:=H) (a:=r) (o:=.rng 0 ((xs.length:Nat):Int))
 generalize upd H r (.rng 0 ((xs.length:Nat):Int))=H1 at s1 n1
 refine⟨r,((xs.length:Nat):Int),rfl,n1,by omega,by omega,fun tp htp=>?_⟩
 have s2:aj H1 (upd H1 tp (.lst (((List.range (((xs.length:Nat):Int)).toNat).map fun i:Nat=>(i:Int)).map V.int))):=ah htp _
 have n2:(upd H1 tp (.lst (((List.range (((xs.length:Nat):Int)).toNat).map fun i:Nat=>(i:Int)).map V.int))) tp=some (.lst ((zcf (hdL []) xs.length).map V.int)):=ae
 generalize upd H1 tp (.lst (((List.range (((xs.length:Nat):Int)).toNat).map fun i:Nat=>(i:Int)).map V.int))=H2 at s2 n2
 rw[xl]at n2
 have s02:=s1.trans s2
 refine⟨lS0,fun cl hcl=>?_⟩
 have S3:zdU K H (upd H2 cl (.lst [])) tp cl ts gs [] []:=⟨s02.trans (ah hcl _),ah hcl _ _ _ n2,ae ..,ad.nil,zau.nil _ _,(fun e=>by rw[←e,n2]at hcl;cases hcl),s02.free hcl⟩
 generalize upd H2 cl (.lst [])=H3 at S3
 refine⟨_,rfl,_,rfl,_,rfl,tl,gl,tp,xs,ys,ts,zs,gs,[],rfl,S3.same.seq hT,ad.keep S3.same.kt (zaf _) hL,hW,t60,S3.same.seq hG,ad.keep S3.same.kt (zaG _) hg,pin,g1000,SqL.of S3.htp,fun H4 sl ws F s4 _ h4 h5 h6=>?_⟩
 refine⟨fun n σ H'=>∃(v6 v7 v8 v9:Option V) (tp sl:Addr) (us ws:List V) (ls F:List Lk),σ=[some (.ref tl),some (.ref gl),some (.int c),some (.ref tp),some (.ref cl),some (.ref sl),v6,v7,v8,v9]∧zdU K H H' tp cl ts gs ls us∧H' sl=some (.lst ws)∧ad K H' (F.map dL) ws∧(∀ l∈F,zc7 ts gs ls l)∧n=ts.length - ls.length,
  ⟨_,none,none,none,none,tp,sl,[],ws,[],F,rfl,S3.to s4,h4,h5,h6,rfl⟩,?_⟩
 clear h4 h5 h6 s4 S3 n1 n2 s1 s2
 rintro n σ H5 ⟨v6,v7,v8,v9,tp,sl,us,ws,ls,F,rfl,S,hsl,hF,fok,rfl⟩
 have ul:us.length=ls.length:=by rw[←S.has.length,List.length_map]
 have wl:ws.length=F.length:=by rw[←hF.length,List.length_map]
 have ll:=S.right.len
 refine⟨_,rfl,lS0,fun e he=>?_⟩
 have s6:aj H5 (upd H5 e (.lst [])):=ah he _
 have n6:=ae (H:=H5) (a:=e) (o:=.lst [])
 generalize upd H5 e (.lst [])=H6 at s6 n6
 have S6:=S.to s6
 have hsl6:=s6 _ _ hsl
 have hF6:=ad.keep s6.kt (zai _) hF
 refine⟨.lst (F.map dL),.lst [],Has.lst' (SqL.of hsl6) hF6,Has.lst' (SqL.of n6) ad.nil,(by have:=zea F;simp only[dep];omega),_,rfl,?_⟩
 cases F with
 | nil =>
  refine zax ⟨_,rfl,_,_,rfl,rfl,(by show(0:Int) < 3;decide),rfl,_,rfl,zbN (fun _=>?_) (fun _=>?_)⟩
  ·have mo:=za3 (c / 3) (show(0:Int) < ((us.length:Nat):Int)+1 by omega)
   obtain⟨k,ek⟩:∃ k:Nat,c / 3 % (((us.length:Nat):Int)+1)=(k:Int):=⟨(c / 3 % (((us.length:Nat):Int)+1)).toNat,by omega⟩
   refine⟨_,rfl,_,rfl,_,_,rfl,rfl,⟨by decide,by decide⟩,_,rfl,cl,_,rfl,.inl (SqL.of S6.hcl),_,_,rfl,rfl,_,_,rfl,rfl,(by omega),_,rfl,cl,_,rfl,SqL.of S6.hcl,fun rl hrl=>?_⟩
   rw[ek,zfw]
   refine q _ rl _ (ls.take k) (S6.same.trans (ah hrl _)) (S6.same.free hrl) (ae ..) ?_ (S6.right.take k)
   rw[List.map_take]
   exact(ad.keep (ah hrl _).kt (zai _) S6.has).take k
  ·exact⟨_,rfl,q H6 cl us ls S6.same S6.ncl S6.hcl S6.has S6.right⟩
 | cons l0 F0 =>
  refine zaQ ⟨fun σ' H'=>∃(v6 v7 v8 v9:Option V) (tp sl:Addr) (us ws:List V) (l:Lk) (F:List Lk),σ'=[some (.ref tl),some (.ref gl),some (.int c),some (.ref tp),some (.ref cl),some (.ref sl),v6,v7,v8,v9]∧zdU K H H' tp cl ts gs (ls++[l]) us∧H' sl=some (.lst ws)∧ad K H' (F.map dL) ws∧(∀ m∈F,zc7 ts gs (ls++[l]) m),?_,?_⟩
  ·rintro σ' H' ⟨v6,v7,v8,v9,tp,sl,us,ws,l,F,rfl,a,b,c,d⟩
   refine⟨ts.length - (ls++[l]).length,?_,v6,v7,v8,v9,tp,sl,us,ws,ls++[l],F,rfl,a,b,c,d,rfl⟩
   have:=a.right.len
   rw[List.length_append]at this ⊢
   have:ls.length+1≤ts.length:=this
   show _ - (_+1) < _
   omega
  refine⟨_,rfl,_,rfl,cl,_,rfl,.inl (SqL.of S6.hcl),_,_,rfl,?_⟩
  generalize zbB c ((us.length:Nat):Int)=mix
  obtain⟨i,lt,e1,e2⟩:=zf9 (xs:=ws) (mix / 2) (by rw[wl];exact Nat.succ_pos _)
  obtain⟨l,p,hl,ev,hp⟩:=zcG hF6 (List.getElem?_eq_getElem lt)
  rw[ev]at e2
  have lok:=fok l (List.mem_of_getElem? hl)
  refine⟨_,rfl,_,rfl,_,_,rfl,rfl,⟨by decide,by decide⟩,_,rfl,sl,_,rfl,.inl (SqL.of hsl6),_,_,rfl,rfl,(by omega),sl,_,_,_,rfl,rfl,SqL.of hsl6,e2,p,_,rfl,hp,rfl,_,_,rfl,_,_,rfl,_,_,rfl,rfl,?_⟩
  have fin:∀(m:Lk),zc7 ts gs ls m→∀(D:zbO),(D.nx=fun σ' H'=>∃(v6 v7 v8 v9:Option V) (tp sl:Addr) (us ws:List V) (l:Lk) (F:List Lk),σ'=[some (.ref tl),some (.ref gl),some (.int c),some (.ref tp),some (.ref cl),some (.ref sl),v6,v7,v8,v9]∧zdU K H H' tp cl ts gs (ls++[l]) us∧H' sl=some (.lst ws)∧ad K H' (F.map dL) ws∧(∀ m∈F,zc7 ts gs (ls++[l]) m)) →
    t3 D [some (.ref tl),some (.ref gl),some (.int c),some (.ref tp),some (.ref cl),some (.ref sl),some (.int mix),some (.int m.1),some (.int m.2.1),some (.int m.2.2)] H6:=fun m mok D eD=>by
   refine q3 D H H6 tl gl tp cl xs ys us ts zs gs ls m _ _ _ S6 hT hL hW t60 hG hg pin g1000 mok fun H7 tp7 sl7 us7 ws7 F7 a b c d=>?_
   rw[eD]
   exact⟨_,_,_,_,tp7,sl7,us7,ws7,m,F7,rfl,a,b,c,d⟩
  refine⟨_,rfl,_,rfl,rfl,_,rfl,?_⟩
  rw[zdT]
  by_cases c1:l.2.2=-1
  ·rw[decide_eq_true c1]
   refine zaQ ⟨_,rfl,_,_,rfl,rfl,(by show(0:Int) < 2;decide),rfl,_,rfl,zbN (fun _=>?_) (fun _=>?_)⟩
   ·refine⟨_,rfl,_,rfl,_,_,rfl,?_⟩
    refine fin (l.2.1,l.1,l.2.2) ⟨lok.b,lok.a,fun e=>lok.new e.symm,.inr ⟨c1,?_⟩⟩ _ rfl
    rcases lok.how with ⟨a,_⟩ | ⟨_,t,u,k1,k2,k3,k4⟩
    ·omega
    ·exact⟨u,t,k2,k1,k3.symm,k4.symm⟩
   ·exact fin l lok _ rfl
  ·rw[decide_eq_false c1]
   exact zax (zax (fin l lok _ rfl))
end
end K14
namespace K14
open PySem L2
theorem zhE {K:W.Frag} {D:Addr} (h:W.kitOne K (.ref D) (.type "ValueError")=some true):W.kitCls K (.ref D) (.type "ValueError")=some true:=by
 unfold W.kitOne at h
 rw[if_neg (show ¬(Value.ref D == Value.type "ValueError")=true from by intro z;cases z)]at h
 exact h
structure Exm (K:W.Frag) (mg:Str→Option Value) (CJ CE:Addr) (C1 C2 C3 C4 C5 C6 C7:Addr):Prop where
 ce:mg "ChoiceError"=some (.ref CE)
 nj:mg "NotJoined"=some (.ref CJ)
 c1:mg "BadName"=some (.ref C1)
 c2:mg "BadTerm"=some (.ref C2)
 c3:mg "BadPart"=some (.ref C3)
 c4:mg "TooMany"=some (.ref C4)
 c5:mg "NoProblem"=some (.ref C5)
 c6:mg "TooLong"=some (.ref C6)
 c7:mg "BadPaper"=some (.ref C7)
 v:mg "ValueError"=none
 pe:W.exmOne K (.ref CJ) (.ref CE)=some true
 kv:W.kitOne K (.ref CJ) (.type "ValueError")=some true
 kj:W.kitOne K (.ref CJ) (.ref CJ)=some true
 a4:W.kitAny K (.ref CJ) ([C1,C2,C3,C4].map Value.ref)=some false
 a3:W.kitAny K (.ref CJ) ([C5,C6,C7].map Value.ref)=some false
 xc:XcK K CJ
section
variable {P:Program} {w:World} {K:W.Frag} {mg:Str→Option Value} {base:Heap} {f fW:Addr} {fd dW:FuncData} {CJ CE C1 C2 C3 C4 C5 C6 C7:Addr}
def zep (K:W.Frag):Sp:=fun vs H Q _=>∃(tl la:Addr) (x y:Int) (xs ys:List V) (ts:List Tm) (zs:List Str) (gs:List (Int × Int)) (L:List Lk),vs=[.ref tl,.ref la,.int x,.int y]∧SqL K H tl xs∧ad K H (ts.map dTm) xs∧SqL K H la ys∧ad K H (L.map dL) ys∧TmW zs ts∧zau ts gs L∧ts.length≤60∧(0≤x∧x < (ts.length:Int))∧(0≤y∧y < (ts.length:Int))∧hdL L x≠hdL L y∧∀ H',aj H H'→Q (.bl true) H'
theorem zdR:zap ["_law_terms_here","_law_chain_here","_law_one","_law_other","e"] ["_law_terms_here","_law_chain_here","_law_one","_law_other"] (ai zby):=⟨rfl,rfl,rfl,by decide +kernel,rfl,by decide +kernel,by decide +kernel⟩
theorem zhy (F:Fun K "_law_refused" "_law_refused" zby f fd) (T:Txt K mg) (M:Exm K mg CJ CE C1 C2 C3 C4 C5 C6 C7) (Bw:FB P w K mg base (CX1 P w) 2 "ways" fW dW ["terms","links","one","other"] (zeT K CJ)):zay P w K mg base CX0 3 f fd ["_law_terms_here","_law_chain_here","_law_one","_law_other"] (zep K):=by
 refine F.ok zdR (fun vs H Q E h=>?_) (fun cdv A outer s H vs Q E hr h=>?_)
 ·obtain⟨tl,la,x,y,xs,ys,ts,zs,gs,L,rfl,_⟩:=h
  rfl
 obtain⟨tl,la,x,y,xs,ys,ts,zs,gs,L,rfl,hT,hL,hS,hY,hW,R,t60,hx,hy,nj,Q0⟩:=h
 refine⟨_,af (ps_try rfl rfl (fun pins E1 Eb hp=>ak (zaZ (zac Bw.ok hr rfl Bw.m Bw.kp Bw.b .nil hp (aa (pv 0) (aa (pv 1) (aa (pv 2) (aa (pv 3) ac)))))))
  (ph_as (i:=4) rfl M.ce zdR.nd rfl rfl rfl (fun ea=>af (zaA (PW.pt (zeg (zbt (zab (r:=zhp K) zgl rfl T.isinstance PyProof.Rows.Boot.isinstance (aa (pv 4) (aa (zaN (aa (zcC (v:=.ref C1) rfl M.c1 rfl) (aa (zcC (v:=.ref C2) rfl M.c2 rfl) (aa (zcC (v:=.ref C3) rfl M.c3 rfl) (aa (zcC (v:=.ref C4) rfl M.c4 rfl) ac))))) ac)))) (zd0 (zbt (zab (r:=zhp K) zgl rfl T.isinstance PyProof.Rows.Boot.isinstance (aa (pv 4) (aa (zaN (aa (zcC (v:=.ref C5) rfl M.c5 rfl) (aa (zcC (v:=.ref C6) rfl M.c6 rfl) (aa (zcC (v:=.ref C7) rfl M.c7 rfl) ac)))) ac)))))))
    (ak (zaj zb5)) zaq)
   (ak (zaj (zfH (zab (r:=rIsiX K) zis rfl T.isinstance PyProof.Rows.Boot.isinstance (aa (pv 4) (aa (zcC (v:=.ref CJ) rfl M.nj rfl) ac))) (zgx (zab (r:=rIsiE K) zit rfl T.isinstance PyProof.Rows.Boot.isinstance (aa (pv 4) (aa (zd6 (v:=.ty "ValueError") rfl M.v PyProof.Rows.Boot.ValueError rfl) ac)))))))) ziG)) (ak (zaj zb5)),?_⟩
 refine⟨_,rfl,_,rfl,_,rfl,_,rfl,tl,la,x,y,xs,ys,ts,zs,gs,L,rfl,hT,hL,hS,hY,hW,R,t60,hx,hy,fun e=>absurd e nj,fun _ H1 s1=>?_⟩
 refine⟨CJ,rfl,fun σ1 h4=>⟨true,M.pe,zaQ fun ea hea=>?_⟩⟩
 have hg:(σ1.set 4 (some (V.ref ea)))[4]?=some (some (V.ref ea)):=List.getElem?_set_self (by rw[h4];show 4 < 5;decide)
 have s2:aj H1 (upd H1 ea (.ext (zbH ea CJ))):=ah hea _
 have n2:=ae (H:=H1) (a:=ea) (o:=.ext (zbH ea CJ))
 generalize upd H1 ea (.ext (zbH ea CJ))=H2 at s2 n2
 refine⟨_,hg,lS4,fun t4 ht4=>?_⟩
 have s3:aj H2 (upd H2 t4 (.tup [.ref C1,.ref C2,.ref C3,.ref C4])):=ah ht4 _
 refine⟨ea,CJ,t4,[C1,C2,C3,C4],false,rfl,s3 _ _ n2,M.xc,SqT.of (ae ..),M.a4,_,rfl,?_⟩
 have n3:=s3 _ _ n2
 generalize upd H2 t4 (.tup [.ref C1,.ref C2,.ref C3,.ref C4])=H3 at s3 n3
 refine zax ⟨_,hg,lS3,fun t5 ht5=>?_⟩
 have s4:aj H3 (upd H3 t5 (.tup [.ref C5,.ref C6,.ref C7])):=ah ht5 _
 refine⟨ea,CJ,t5,[C5,C6,C7],false,rfl,s4 _ _ n3,M.xc,SqT.of (ae ..),M.a3,_,rfl,zax ?_⟩
 have n4:=s4 _ _ n3
 generalize upd H3 t5 (.tup [.ref C5,.ref C6,.ref C7])=H4 at s4 n4
 exact⟨_,hg,ea,CJ,CJ,true,rfl,n4,M.xc,M.kj,_,rfl,zaQ ⟨_,hg,ea,CJ,"ValueError",rfl,n4,zhE M.kv,Q0 _ (((s1.trans s2).trans s3).trans s4)⟩⟩
end
end K14
namespace K14
open PySem L2
theorem zi4 {xs:List V} {m:Nat} (h:m≤xs.length):zee xs (some (m:Int)) none=xs.drop m:=by
 unfold zee
 rw[HT.sIx_nat,HT.sIx_none,Nat.min_eq_left h]
 rw[List.take_of_length_le (by rw[List.length_drop];exact Nat.le_refl _)]
theorem ad.drop {K:W.Frag} {H:Hp}:∀ {ds:List Dt} {vs:List V} (n:Nat),ad K H ds vs→ad K H (ds.drop n) (vs.drop n)
 | _,_,0,h=>h
 | [],[],n+1,_=>by simp only[List.drop_nil];exact .nil
 | [],_ :: _,_,h=>by simp only[ad]at h;cases h
 | d :: ds,vs,n+1,h=>by
  simp only[ad]at h
  obtain⟨v,r,rfl,h1,h2⟩:=h
  simp only[List.drop_succ_cons]
  exact ad.drop n h2
theorem but_at {M:List Nat} {i q:Nat} (lt:M.Pairwise (· < ·)) (hi:M[i]?=some q):(∀ p∈M.take i++M.drop (i+1),p∈M∧p≠q)∧∀ p∈M,p≠q→p∈M.take i++M.drop (i+1):=by
 obtain⟨li,ei⟩:=List.getElem?_eq_some_iff.mp hi
 have pw:=List.pairwise_iff_getElem.mp lt
 constructor
 ·intro p hp
  rcases List.mem_append.mp hp with h | h
  ·refine⟨List.mem_of_mem_take h,?_⟩
   obtain⟨j,hj⟩:=List.mem_iff_getElem?.mp h
   rw[List.getElem?_take]at hj
   split at hj
   ·obtain⟨lj,ej⟩:=List.getElem?_eq_some_iff.mp hj
    have:=pw j i lj li (by omega)
    omega
   ·cases hj
  ·refine⟨List.mem_of_mem_drop h,?_⟩
   obtain⟨j,hj⟩:=List.mem_iff_getElem?.mp h
   rw[List.getElem?_drop]at hj
   obtain⟨lj,ej⟩:=List.getElem?_eq_some_iff.mp hj
   have:=pw i (i+1+j) li lj (by omega)
   omega
 ·intro p hp ne
  obtain⟨j,hj⟩:=List.mem_iff_getElem?.mp hp
  by_cases c:j < i
  ·exact List.mem_append_left _ (List.mem_of_getElem? (i:=j) (by rw[List.getElem?_take,if_pos c];exact hj))
  ·have nj:j≠i:=fun e=>by
    rw[e,hi]at hj
    cases hj
    exact ne rfl
   refine List.mem_append_right _ (List.mem_of_getElem? (i:=j - (i+1)) ?_)
   rw[List.getElem?_drop,show i+1+(j - (i+1))=j by omega]
   exact hj
theorem zjY (L:List Lk) (M:List Nat) (i:Nat):atP L (M.take i++M.drop (i+1))=(atP L M).take i++(atP L M).drop (i+1):=by
 unfold atP
 rw[List.map_append,List.map_take,List.map_drop]
theorem zhm {n:Nat} {L:List Lk} {M:List Nat} (h:InN n L) (hM:∀ q∈M,q < L.length):InN n (atP L M):=fun l hl=>by
 obtain⟨q,hq,e⟩:=zhR hM hl
 exact h l (List.mem_of_getElem? e)
theorem zaO.ktL {d:Addr} {H H':Hp} {xs:List V} (s:zaO d H H') (h:H d=some (.lst xs)):zam H H':=fun b us z=>by
 have nb:b≠d:=fun e=>by
  rw[e]at z
  rcases z with z | ⟨o,z⟩ <;> (rw[h]at z;cases z)
 rcases z with z | ⟨o,z⟩
 ·exact .inl (s _ _ nb z)
 ·exact .inr ⟨o,s _ _ nb z⟩
def zd4 (K:W.Frag) (H:Hp) (kl:Addr) (es:List V):Prop:=∀ v∈es,∃(p f c:Addr) (rs:List V) (R:List Lk),v=.ref p∧SqT K H p [.ref f,.ref c]∧H f=some (.lst rs)∧H c=some (.lst rs)∧ad K H (R.map dL) rs∧f≠kl∧c≠kl
theorem zd4.x {K:W.Frag} {H H':Hp} {kl:Addr} {es:List V} (h:zd4 K H kl es) (s:zaO kl H H') (kt:zam H H'):zd4 K H' kl es:=fun v hv=>by
 obtain⟨p,f,c,rs,R,h1,h2,h3,h4,h5,h6,h7⟩:=h v hv
 exact⟨p,f,c,rs,R,h1,kt.sq h2,s _ _ h6 h3,s _ _ h7 h4,ad.keep kt (zai _) h5,h6,h7⟩
section
variable {P:Program} {w:World} {K:W.Frag} {mg:Str→Option Value} {base:Heap} {f fR fX fW fS fJ:Addr} {fd dR dX dW dS dJ:FuncData} {CJ:Addr}
abbrev NTo:List Str:=["_law_terms_here","_law_chain_here","_law_one","_law_other","_law_cell","_law_kept","_law_tops","_law_link","_law_handed","_law_found","_law_places","_law_at"]
theorem za7:zap NTo ["_law_terms_here","_law_chain_here","_law_one","_law_other","_law_cell","_law_kept"] (ai zbh):=⟨rfl,rfl,rfl,by decide +kernel,rfl,by decide +kernel,by decide +kernel⟩
theorem told9 (Bj:FB P w K mg base CX0 2 "_law_joins" fJ dJ ["_law_terms_here","_law_chain_here","_law_one","_law_other"] (zek K)) {cdv:Value} {A:Around} {outer:List Env} {s:Shared} {H0:Hp} {E:XK} (hr:zaE 2 (A.deeper (PyProof.Rows.envOfC "_law_told" (ai zbh) s.heap.objs.size f cdv))) :
  ∃ t,PSs (zb2 CX0 P w K mg base NTo "_law_told" (ai zbh) f cdv A outer s H0 E).nox ((zae zbh).drop 9) t ∧
   ∀(Q:VK) (H:Hp) (tl fl pl:Addr) (x y:Int) (xs rs:List V) (ns:List Int) (ts:List Tm) (zs:List Str) (gs:List (Int × Int)) (L:List Lk) (M:List Nat) (v1 v4 v5 v6 v7 v8 v11:Option V),SqL K H tl xs→ad K H (ts.map dTm) xs→TmW zs ts→ts.length≤60→zau ts gs L→(0≤x∧x < (ts.length:Int))→(0≤y∧y < (ts.length:Int))→H fl=some (.lst rs)→ad K H ((atP L M).map dL) rs→zdL ts L x y M→M.Pairwise (· < ·)→H pl=some (.lst (ns.map V.int))→(∀ n∈ns,0≤n∧n < (M.length:Int)) →
    (∀ H',aj H H'→Q (.bl true) H') →
    t { nx:=fun _ H'=>Q .non H',rt:=Q } [some (.ref tl),v1,some (.int x),some (.int y),v4,v5,v6,v7,v8,some (.ref fl),some (.ref pl),v11] H:=by
 refine⟨_,(af (zbe PassesOwn.never rfl (zbw (pv 10)) (zan (i:=11) za7.nd rfl (Or.inl rfl))
   (ak (zaA (zbt (zac Bj.ok hr rfl Bj.m Bj.kp Bj.b .nil ay (aa (pv 0) (aa (ao zgz (zcQ zeX (pv 9) zdk (zdj (pv 11))) (zcQ zeX (pv 9) (zdj (ao zbf (pv 11) ag)) zdk)) (aa (pv 2) (aa (pv 3) ac))))))
     (ak (zaj zb5))
     zaq)))
  (ak (zaj zb5))),?_⟩
 rintro Q H tl fl pl x y xs rs ns ts zs gs L M v1 v4 v5 v6 v7 v8 v11 hT hL hW t60 R hx hy hF hf N lt hP pin q
 have rl:rs.length=M.length:=by rw[←hf.length,List.length_map];unfold atP;rw[List.length_map]
 have ml:M.length≤L.length:=zcv _ (lt.imp fun h=>Nat.ne_of_lt h) N.inn
 have ll:=R.len
 refine⟨_,rfl,pl,rfl,⟨_,SqL.of hP⟩,zcj zbv (fun i σ H'=>∃ v11:Option V,σ=[some (.ref tl),v1,some (.int x),some (.int y),v4,v5,v6,v7,v8,some (.ref fl),some (.ref pl),v11]∧aj H H') (fun i σ H' ⟨_,_,s1⟩=>SqL.of (s1 _ _ hP)) ⟨v11,rfl,aj.refl _⟩ ?_ ?_⟩
 ·rintro i σ H9 z H1 hi ⟨v11,rfl,s1⟩ ⟨rfl,hz⟩
  obtain⟨n,hn,rfl⟩:=zcc (hz _ (SqL.of (s1 _ _ hP)))
  have nb:=pin n (List.mem_of_getElem? hn)
  obtain⟨k,rfl⟩:∃ k:Nat,n=(k:Int):=⟨n.toNat,by omega⟩
  have kM:k < M.length:=by omega
  refine⟨_,rfl,_,rfl,_,rfl,_,rfl,fl,_,rfl,SqL.of (s1 _ _ hF),fun p1 hp1=>?_⟩
  rw[zfw]
  have s2:aj H1 (upd H1 p1 (.lst (rs.take k))):=ah hp1 _
  have n2:=ae (H:=H1) (a:=p1) (o:=.lst (rs.take k))
  generalize upd H1 p1 (.lst (rs.take k))=H2 at s2 n2
  have s02:=s1.trans s2
  refine⟨_,rfl,_,rfl,_,_,rfl,rfl,_,rfl,fl,_,rfl,SqL.of (s02 _ _ hF),fun p2 hp2=>?_⟩
  rw[show(k:Int)+1=((k+1:Nat):Int) by omega,zi4 (show k+1≤rs.length by omega)]
  have s3:aj H2 (upd H2 p2 (.lst (rs.drop (k+1)))):=ah hp2 _
  have n3:=ae (H:=H2) (a:=p2) (o:=.lst (rs.drop (k+1)))
  have n23:=s3 _ _ n2
  generalize upd H2 p2 (.lst (rs.drop (k+1)))=H3 at s3 n3 n23
  have s03:=s02.trans s3
  refine⟨p1,p2,_,_,rfl,rfl,n23,n3,zcV (n:=(rs.take k).length+(rs.drop (k+1)).length) (by rw[List.length_take,List.length_drop];omega),fun p4 hp4=>?_⟩
  have s4:aj H3 (upd H3 p4 (.lst (rs.take k++rs.drop (k+1)))):=ah hp4 _
  have n4:=ae (H:=H3) (a:=p4) (o:=.lst (rs.take k++rs.drop (k+1)))
  generalize upd H3 p4 (.lst (rs.take k++rs.drop (k+1)))=H4 at s4 n4
  have s04:=s03.trans s4
  have has4:ad K H4 ((atP L (M.take k++M.drop (k+1))).map dL) (rs.take k++rs.drop (k+1)):=by
   have h:=ad.keep s04.kt (zai _) hf
   rw[zjY,List.map_append,List.map_take,List.map_drop]
   exact ad.append (h.take k) (ad.drop (k+1) h)
  have hk:=List.getElem?_eq_getElem kM
  obtain⟨b1,b2⟩:=but_at lt hk
  have fin:=N.least R (List.getElem_mem kM) b1 b2
  refine⟨_,rfl,_,rfl,tl,p4,x,y,xs,_,ts,zs,atP L (M.take k++M.drop (k+1)),rfl,s04.seq hT,ad.keep s04.kt (zaf _) hL,hW,t60,SqL.of n4,has4,zhm R.inn (fun q hq=>N.inn q (b1 q hq).1),hx,hy,fun H5 s5=>⟨_,rfl,?_⟩⟩
  rw[fin]
  exact zax ⟨_,rfl,s04.trans s5⟩
 ·rintro σ H1 ⟨v11,rfl,s1⟩
  exact q _ s1
def zf0 (K:W.Frag):Sp:=fun vs H Q _=>∃(tl la kl:Addr) (x y c:Int) (xs ys es:List V) (ts:List Tm) (zs:List Str) (gs:List (Int × Int)) (L:List Lk),vs=[.ref tl,.ref la,.int x,.int y,.int c,.ref kl]∧H tl=some (.lst xs)∧ad K H (ts.map dTm) xs∧H la=some (.lst ys)∧ad K H (L.map dL) ys∧TmW zs ts∧zau ts gs L∧ts.length≤60∧(0≤x∧x < (ts.length:Int))∧(0≤y∧y < (ts.length:Int))∧H kl=some (.lst es)∧zd4 K H kl es∧es.length≤100∧tl≠kl∧la≠kl ∧
 ∀(H':Hp) (es':List V),zaO kl H H'→H' kl=some (.lst es')→zd4 K H' kl es'→es'.length≤es.length+1→Q (.bl true) H'
theorem zjC (F:Fun K "_law_told" "_law_told" zbh f fd) (T:Txt K mg) (Br:FB P w K mg base CX0 1 "_law_relabelled" fR dR ["_law_tops","_law_one","_law_other"] (zcy K)) (Bx:FB P w K mg base CX0 3 "_law_refused" fX dX ["_law_terms_here","_law_chain_here","_law_one","_law_other"] (zep K)) (Bw:FB P w K mg base (CX1 P w) 2 "ways" fW dW ["terms","links","one","other"] (zeT K CJ)) (Bs:FB P w K mg base CX0 3 "_law_some_of" fS dS ["_law_found","_law_chain_here"] (zf2 K)) (Bj:FB P w K mg base CX0 2 "_law_joins" fJ dJ ["_law_terms_here","_law_chain_here","_law_one","_law_other"] (zek K)):zay P w K mg base CX0 4 f fd ["_law_terms_here","_law_chain_here","_law_one","_law_other","_law_cell","_law_kept"] (zf0 K):=by
 refine F.ok za7 (fun vs H Q E h=>?_) (fun cdv A outer s H vs Q E hr h=>?_)
 ·obtain⟨tl,la,kl,x,y,c,xs,ys,es,ts,zs,gs,L,rfl,_⟩:=h
  rfl
 obtain⟨tl,la,kl,x,y,c,xs,ys,es,ts,zs,gs,L,rfl,hT,hL,hS,hY,hW,R,t60,hx,hy,hK,kok,e100,ntk,nlk,q⟩:=h
 have hr1:zaE 1 _:=hr.mono (by decide)
 have hr2:zaE 2 _:=hr.mono (by decide)
 have hu:=zbT hr
 have xl:xs.length=ts.length:=by rw[←hL.length,List.length_map]
 have yl:ys.length=L.length:=by rw[←hY.length,List.length_map]
 have ll:=R.len
 obtain⟨t9,h9,q9⟩:=told9 (P:=P) (w:=w) (base:=base) (f:=f) (cdv:=cdv) (outer:=outer) (H0:=H) (E:=E) Bj hr2
 refine⟨_,(af (aq (i:=6) za7.nd rfl (Or.inl rfl) (zaD (zca rfl) rfl T.list PyProof.Rows.Boot.list (aa (zc5 rfl T.range (aa (zab zaa rfl T.len PySem.boot_len (aa (pv 0) ac)) ac)) ac)))
  (af (zbe PassesOwn.never rfl (zbw (pv 1)) (zan (i:=7) za7.nd rfl (Or.inl rfl))
   (ak (aq (i:=6) za7.nd rfl (Or.inl rfl) (zac Br.ok hr1 rfl Br.m Br.kp Br.b .nil ay (aa (pv 6) (aa (ar zal (pv 7) ag (fun _ _=>rfl)) (aa (ar zal (pv 7) ag (fun _ _=>rfl)) ac)))))))
  (af (zaA (zag zei (ar zah (pv 6) (pv 2) (fun _ _=>rfl)) (ar zah (pv 6) (pv 3) (fun _ _=>rfl)) (zas _))
   (ak (zaj (zac Bx.ok hr rfl Bx.m Bx.kp Bx.b .nil ay (aa (zaD zbb rfl T.list PyProof.Rows.Boot.list (aa (pv 0) ac)) (aa (zaD zbb rfl T.list PyProof.Rows.Boot.list (aa (pv 1) ac)) (aa (pv 2) (aa (pv 3) ac)))))))
   zaq)
  (af (aq (i:=8) za7.nd rfl (Or.inl rfl) (zaF (aa (zaD zbb rfl T.list PyProof.Rows.Boot.list (aa (pv 0) ac)) (aa (zaD zbb rfl T.list PyProof.Rows.Boot.list (aa (pv 1) ac)) ac))))
  (af (aq (i:=9) za7.nd rfl (Or.inl rfl) (zac Bw.ok hr2 rfl Bw.m Bw.kp Bw.b .nil passF (aa (ar zah (pv 8) ag (fun _ _=>rfl)) (aa (ar zah (pv 8) ag (fun _ _=>rfl)) (aa (pv 2) (aa (pv 3) ac))))))
  (af (zaZ (zb4 PySem.F.plainAttrs_list PySem.F.slot_list_append PySem.F.type_list_append zaH (pv 5) (aa (zaN (aa (pv 9) (aa (zaD zbb rfl T.list PyProof.Rows.Boot.list (aa (pv 9) ac)) ac))) ac)))
  (af (zaA (PW.pt (zeg (zag (zc2 hu) (pv 8) (zaF (aa (pv 0) (aa (pv 1) ac))) rfl) (zeg (zb7 (zbt (zac Bs.ok hr rfl Bs.m Bs.kp Bs.b .nil ay (aa (pv 9) (aa (pv 1) ac))))) (zd0 (zb7 (zbt (zac Bj.ok hr2 rfl Bj.m Bj.kp Bj.b .nil ay (aa (pv 0) (aa (pv 9) (aa (pv 2) (aa (pv 3) ac)))))))))))
   (ak (zaj zb5))
   zaq)
  (af (aq (i:=10) za7.nd rfl (Or.inl rfl) (zaD (zca rfl) rfl T.list PyProof.Rows.Boot.list (aa (zc5 rfl T.range (aa (zab zaa rfl T.len PySem.boot_len (aa (pv 9) ac)) ac)) ac)))
  (af (zaA (zag zeN (zab zaa rfl T.len PySem.boot_len (aa (pv 9) ac)) ag (zas _))
   (ak (aq (i:=10) za7.nd rfl (Or.inl rfl) (zaF (aa (ao zak (pv 4) (zab zaa rfl T.len PySem.boot_len (aa (pv 9) ac))) (aa (ao zak (ao zar (pv 4) ag) (zab zaa rfl T.len PySem.boot_len (aa (pv 9) ac))) (aa (ao zak (ao zar (pv 4) ag) (zab zaa rfl T.len PySem.boot_len (aa (pv 9) ac))) ac))))))
   zaq) h9))))))))),?_⟩
 refine⟨_,rfl,tl,_,rfl,.inl (SqL.of hT),((xs.length:Nat):Int),rfl,fun r hr'=>?_⟩
 have s1:aj H (upd H r (.rng 0 ((xs.length:Nat):Int))):=ah hr' _
 have n1:=ae (H:=H) (a:=r) (o:=.rng 0 ((xs.length:Nat):Int))
 generalize upd H r (.rng 0 ((xs.length:Nat):Int))=H1 at s1 n1
 refine⟨r,((xs.length:Nat):Int),rfl,n1,by omega,by omega,fun l hl=>?_⟩
 have s2:aj H1 (upd H1 l (.lst (((List.range (((xs.length:Nat):Int)).toNat).map fun i:Nat=>(i:Int)).map V.int))):=ah hl _
 have n2:(upd H1 l (.lst (((List.range (((xs.length:Nat):Int)).toNat).map fun i:Nat=>(i:Int)).map V.int))) l=some (.lst ((zcf (hdL []) xs.length).map V.int)):=ae
 generalize upd H1 l (.lst (((List.range (((xs.length:Nat):Int)).toNat).map fun i:Nat=>(i:Int)).map V.int))=H2 at s2 n2
 rw[xl]at n2
 have s02:=s1.trans s2
 refine⟨_,rfl,la,rfl,⟨_,SqL.of (s02 _ _ hS)⟩,zcj zbv (fun i σ H'=>∃(v7:Option V) (tp:Addr),σ=[some (.ref tl),some (.ref la),some (.int x),some (.int y),some (.int c),some (.ref kl),some (.ref tp),v7,none,none,none,none]∧aj H H'∧H' tp=some (.lst ((zcf (hdL (L.take i)) ts.length).map V.int))) (fun i σ H' ⟨_,_,_,s3,_⟩=>SqL.of (s3 _ _ hS)) ⟨none,l,rfl,s02,n2⟩ ?_ ?_⟩
 ·rintro i σ H9 z H3 hi ⟨v7,tp,rfl,s3,tp3⟩ ⟨rfl,hz⟩
  obtain⟨k,p,hk,rfl,hp⟩:=zcG hY (hz _ (SqL.of (s3 _ _ hS)))
  have kb:=R.inn k (List.mem_of_getElem? hk)
  have a0:atI [V.int k.1,V.int k.2.1,V.int k.2.2] 0=some (.int k.1):=zad (j:=0) rfl
  have a1:atI [V.int k.1,V.int k.2.1,V.int k.2.2] 1=some (.int k.2.1):=zad (j:=1) rfl
  refine⟨_,rfl,_,rfl,p,_,_,_,rfl,rfl,s3.tup hp,a0,_,rfl,p,_,_,_,rfl,rfl,s3.tup hp,a1,tp,k.1,k.2.1,ts.length,_,rfl,SqL.of tp3,kb.1,kb.2,by omega,fun H4 t4 s4 _ ht4=>⟨_,t4,rfl,s3.trans s4,?_⟩⟩
  rw[zaT hk,zbo]
  exact ht4
 rintro σ H3 ⟨v7,tp,rfl,s3,tp3⟩
 rw[yl,List.take_length]at tp3
 refine⟨_,rfl,_,rfl,tp,_,_,_,rfl,rfl,SqL.of tp3,zbD _ hx.1 hx.2,_,rfl,_,rfl,tp,_,_,_,rfl,rfl,SqL.of tp3,zbD _ hy.1 hy.2,rfl,_,rfl,?_⟩
 rw[zdT]
 by_cases cj:hdL L x=hdL L y
 case neg =>
  rw[decide_eq_false cj]
  refine zaQ ⟨_,rfl,tl,_,rfl,.inl (SqL.of (s3 _ _ hT)),fun l4 hl4=>⟨_,rfl,la,_,rfl,.inl (SqL.of (ah hl4 _ _ _ (s3 _ _ hS))),fun l5 hl5=>?_⟩⟩
  have s4:=ah hl4 (.lst xs)
  have n4:=ae (H:=H3) (a:=l4) (o:=.lst xs)
  generalize upd H3 l4 (.lst xs)=H4 at s4 n4 hl5
  have s5:=ah hl5 (.lst ys)
  have n5:=ae (H:=H4) (a:=l5) (o:=.lst ys)
  generalize upd H4 l5 (.lst ys)=H5 at s5 n5
  have s05:=(s3.trans s4).trans s5
  exact⟨_,rfl,_,rfl,l4,l5,x,y,xs,ys,ts,zs,gs,L,rfl,SqL.of (s5 _ _ n4),ad.keep s05.kt (zaf _) hL,SqL.of n5,ad.keep s05.kt (zai _) hY,hW,R,t60,hx,hy,cj,fun H6 s6=>q H6 es ((s05.trans s6).x kl) ((s05.trans s6) _ _ hK) (kok.x ((s05.trans s6).x kl) (s05.trans s6).kt) (by omega)⟩
 rw[decide_eq_true cj]
 refine zax ⟨_,rfl,tl,_,rfl,.inl (SqL.of (s3 _ _ hT)),fun l4 hl4=>⟨_,rfl,la,_,rfl,.inl (SqL.of (ah hl4 _ _ _ (s3 _ _ hS))),fun l5 hl5=>⟨lS2,fun hd6 hhd6=>?_⟩⟩⟩
 have s4:=ah hl4 (.lst xs)
 have n4:=ae (H:=H3) (a:=l4) (o:=.lst xs)
 generalize upd H3 l4 (.lst xs)=H4 at s4 n4 hl5 hhd6
 have s5:=ah hl5 (.lst ys)
 have n5:=ae (H:=H4) (a:=l5) (o:=.lst ys)
 have n45:=s5 _ _ n4
 generalize upd H4 l5 (.lst ys)=H5 at s5 n5 n45 hhd6
 have s6:=ah hhd6 (.lst [.ref l4,.ref l5])
 have n6:=ae (H:=H5) (a:=hd6) (o:=.lst [.ref l4,.ref l5])
 have n46:=s6 _ _ n45
 have n56:=s6 _ _ n5
 generalize upd H5 hd6 (.lst [.ref l4,.ref l5])=H6 at s6 n6 n46 n56
 have s06:=((s3.trans s4).trans s5).trans s6
 have b0:atI [V.ref l4,V.ref l5] 0=some (.ref l4):=zad (j:=0) rfl
 have b1:atI [V.ref l4,V.ref l5] 1=some (.ref l5):=zad (j:=1) rfl
 refine⟨_,rfl,hd6,_,_,_,rfl,rfl,SqL.of n6,b0,_,rfl,hd6,_,_,_,rfl,rfl,SqL.of n6,b1,_,rfl,_,rfl,l4,l5,x,y,xs,ys,ts,zs,gs,L,rfl,SqL.of n46,ad.keep s06.kt (zaf _) hL,SqL.of n56,ad.keep s06.kt (zai _) hY,hW,R,t60,hx,hy,fun _ H7 fl M rs s7 hfl hF hf N lt=>?_,fun z=>absurd cj z⟩
 have rl:rs.length=M.length:=by rw[←hf.length,List.length_map];unfold atP;rw[List.length_map]
 have ml:M.length≤L.length:=zcv _ (lt.imp fun h=>Nat.ne_of_lt h) N.inn
 have s07:=s06.trans s7
 have n67:=s7 _ _ n6
 have n47:=s7 _ _ n46
 have n57:=s7 _ _ n56
 refine⟨_,rfl,.inl ⟨rfl,_,SqL.of (s07 _ _ hK)⟩,_,rfl,_,rfl,fl,_,rfl,.inl (SqL.of hF),fun c8 hc8=>?_⟩
 have s8:=ah hc8 (.lst rs)
 have n8:=ae (H:=H7) (a:=c8) (o:=.lst rs)
 generalize upd H7 c8 (.lst rs)=H8 at s8 n8
 refine⟨lS2,fun p9 hp9=>?_⟩
 have s9:=ah hp9 (.tup [.ref fl,.ref c8])
 have n9:=ae (H:=H8) (a:=p9) (o:=.tup [.ref fl,.ref c8])
 have n89:=s9 _ _ n8
 generalize upd H8 p9 (.tup [.ref fl,.ref c8])=H9 at s9 n9 n89
 have s79:=s8.trans s9
 have s09:=s07.trans s79
 have k9:=s09 _ _ hK
 have nkf:fl≠kl:=fun e=>by rw[e,s06 _ _ hK]at hfl;cases hfl
 have nkc:c8≠kl:=fun e=>by rw[e,s07 _ _ hK]at hc8;cases hc8
 have nkh:hd6≠kl:=fun e=>by rw[e,((s3.trans s4).trans s5) _ _ hK]at hhd6;cases hhd6
 have nk4:l4≠kl:=fun e=>by rw[e,s3 _ _ hK]at hl4;cases hl4
 have nk5:l5≠kl:=fun e=>by rw[e,(s3.trans s4) _ _ hK]at hl5;cases hl5
 refine⟨kl,_,_,rfl,rfl,k9,zcF (by omega),?_⟩
 have x10:zaO kl H9 (upd H9 kl (.lst (es++[.ref p9]))):=zaO.put _ _
 have kt10:zam H9 (upd H9 kl (.lst (es++[.ref p9]))):=zam.lst k9
 have k10:=ae (H:=H9) (a:=kl) (o:=.lst (es++[.ref p9]))
 generalize upd H9 kl (.lst (es++[.ref p9]))=H10 at x10 kt10 k10
 have X10:zaO kl H H10:=(s09.x kl).trans x10
 have KT:zam H H10:=s09.kt.trans kt10
 have F10:H10 fl=some (.lst rs):=x10 _ _ nkf (s79 _ _ hF)
 have f10:ad K H10 ((atP L M).map dL) rs:=ad.keep (s79.kt.trans kt10) (zai _) hf
 have kok10:zd4 K H10 kl (es++[.ref p9]):=fun v hv=>by
  rcases List.mem_append.mp hv with hv | hv
  ·exact(kok.x X10 KT) v hv
  ·rw[List.mem_singleton.mp hv]
   exact⟨p9,fl,c8,rs,atP L M,rfl,kt10.sq (SqT.of n9),F10,x10 _ _ nkc n89,f10,nkf,nkc⟩
 have T10:H10 tl=some (.lst xs):=X10 _ _ ntk hT
 have S10:H10 la=some (.lst ys):=X10 _ _ nlk hS
 have L10:=ad.keep KT (zaf _) hL
 have Y10:=ad.keep KT (zai _) hY
 refine⟨_,rfl,_,rfl,_,rfl,lS2,fun e11 he11=>?_⟩
 have s11:=ah he11 (.lst [.ref tl,.ref la])
 have n11:=ae (H:=H10) (a:=e11) (o:=.lst [.ref tl,.ref la])
 generalize upd H10 e11 (.lst [.ref tl,.ref la])=H11 at s11 n11
 have T11:=ad.keep s11.kt (zaf _) L10
 have Y11:=ad.keep s11.kt (zai _) Y10
 refine⟨.lst [.lst (ts.map dTm),.lst (L.map dL)],.lst [.lst (ts.map dTm),.lst (L.map dL)],Has.lst' (SqL.of (s11 _ _ (x10 _ _ nkh (s79 _ _ n67)))) (.cons (Has.lst' (SqL.of (s11 _ _ (x10 _ _ nk4 (s79 _ _ n47)))) T11) (.cons (Has.lst' (SqL.of (s11 _ _ (x10 _ _ nk5 (s79 _ _ n57)))) Y11) .nil)),Has.lst' (SqL.of n11) (.cons (Has.lst' (SqL.of (s11 _ _ T10)) T11) (.cons (Has.lst' (SqL.of (s11 _ _ S10)) Y11) .nil)),(by have:=zcR ts;have:=zea L;simp only[dep,za0];omega),_,rfl,?_⟩
 rw[zcz]
 refine zax ⟨_,rfl,_,rfl,fl,la,rs,ys,M,L,rfl,SqL.of (s11 _ _ F10),ad.keep s11.kt (zai _) f10,SqL.of (s11 _ _ S10),Y11,lt,N.inn,fun H12 s12=>⟨_,rfl,zax ?_⟩⟩
 have s1012:=s11.trans s12
 have f12:=ad.keep s1012.kt (zai _) f10
 refine⟨_,rfl,_,rfl,_,rfl,_,rfl,tl,fl,x,y,xs,rs,ts,zs,atP L M,rfl,SqL.of (s1012 _ _ T10),ad.keep s12.kt (zaf _) T11,hW,t60,SqL.of (s1012 _ _ F10),f12,zhm R.inn N.inn,hx,hy,fun H13 s13=>⟨_,rfl,?_⟩⟩
 rw[N.joins R lt]
 have s1013:=s1012.trans s13
 have F13:=s1013 _ _ F10
 have done:∀ H',aj H10 H'→Q (.bl true) H':=fun H' s'=>q H' _ (X10.trans (s'.x kl)) (s' _ _ k10) (kok10.x (s'.x kl) s'.kt) (by rw[List.length_append];exact Nat.le_refl _)
 refine zax ⟨_,rfl,fl,_,rfl,.inl (SqL.of F13),((rs.length:Nat):Int),rfl,fun r14 hr14=>?_⟩
 have s14:aj H13 (upd H13 r14 (.rng 0 ((rs.length:Nat):Int))):=ah hr14 _
 have n14:=ae (H:=H13) (a:=r14) (o:=.rng 0 ((rs.length:Nat):Int))
 generalize upd H13 r14 (.rng 0 ((rs.length:Nat):Int))=H14 at s14 n14
 refine⟨r14,((rs.length:Nat):Int),rfl,n14,by omega,by omega,fun pl hpl=>?_⟩
 have s15:aj H14 (upd H14 pl (.lst (((List.range (((rs.length:Nat):Int)).toNat).map fun i:Nat=>(i:Int)).map V.int))):=ah hpl _
 have n15:=ae (H:=H14) (a:=pl) (o:=.lst (((List.range (((rs.length:Nat):Int)).toNat).map fun i:Nat=>(i:Int)).map V.int))
 generalize upd H14 pl (.lst (((List.range (((rs.length:Nat):Int)).toNat).map fun i:Nat=>(i:Int)).map V.int))=H15 at s15 n15
 have s1015:=(s1013.trans s14).trans s15
 have F15:=s1015 _ _ F10
 refine⟨_,rfl,fl,_,rfl,.inl (SqL.of F15),_,_,rfl,rfl,_,rfl,zbN (fun cg=>?_) (fun _=>?_)⟩
 ·have pos:(0:Int) < ((rs.length:Nat):Int):=by
   have:((rs.length:Nat):Int) > 12:=of_decide_eq_true cg
   omega
  have m1:=za3 c pos
  have m2:=za3 (c / 61) pos
  have m3:=za3 (c / 3721) pos
  refine⟨_,rfl,_,rfl,fl,_,rfl,.inl (SqL.of F15),_,_,rfl,rfl,pos,_,rfl,_,_,rfl,rfl,⟨by decide,by decide⟩,_,rfl,fl,_,rfl,.inl (SqL.of F15),_,_,rfl,rfl,pos,_,rfl,_,_,rfl,rfl,⟨by decide,by decide⟩,_,rfl,fl,_,rfl,.inl (SqL.of F15),_,_,rfl,rfl,pos,lS3,fun pl2 hpl2=>?_⟩
  have s16:=ah hpl2 (.lst [.int (c % ((rs.length:Nat):Int)),.int (c / 61 % ((rs.length:Nat):Int)),.int (c / 3721 % ((rs.length:Nat):Int))])
  have n16:=ae (H:=H15) (a:=pl2) (o:=.lst [.int (c % ((rs.length:Nat):Int)),.int (c / 61 % ((rs.length:Nat):Int)),.int (c / 3721 % ((rs.length:Nat):Int))])
  generalize upd H15 pl2 (.lst [.int (c % ((rs.length:Nat):Int)),.int (c / 61 % ((rs.length:Nat):Int)),.int (c / 3721 % ((rs.length:Nat):Int))])=H16 at s16 n16
  have s1016:=s1015.trans s16
  refine q9 Q H16 tl fl pl2 x y xs rs [c % ((rs.length:Nat):Int),c / 61 % ((rs.length:Nat):Int),c / 3721 % ((rs.length:Nat):Int)] ts zs gs L M _ _ _ _ _ _ _ (SqL.of (s1016 _ _ T10)) (ad.keep s1016.kt (zaf _) L10) hW t60 R hx hy (s1016 _ _ F10) (ad.keep s1016.kt (zai _) f10) N lt n16 (fun n hn=>?_) (fun H' s'=>done H' (s1016.trans s'))
  rw[←rl]
  rcases List.mem_cons.mp hn with e | hn
  ·rw[e];exact m1
  ·rcases List.mem_cons.mp hn with e | hn
   ·rw[e];exact m2
   ·rw[List.mem_singleton.mp hn];exact m3
 ·refine q9 Q H15 tl fl pl x y xs rs ((List.range (((rs.length:Nat):Int)).toNat).map fun i:Nat=>(i:Int)) ts zs gs L M _ _ _ _ _ _ _ (SqL.of (s1015 _ _ T10)) (ad.keep s1015.kt (zaf _) L10) hW t60 R hx hy F15 (ad.keep s1015.kt (zai _) f10) N lt n15 (fun n hn=>?_) (fun H' s'=>done H' (s1015.trans s'))
  obtain⟨i,hi,rfl⟩:=List.mem_map.mp hn
  have:=List.mem_range.mp hi
  omega
end
end K14
namespace K14
open PySem L2
abbrev NLw:List Str:=["_law_script","_law_names_here","_law_terms_here","_law_given_here","_law_chain_here","_law_one","_law_other","_law_cell","_law_built","_law_how","_law_kept"]
def zfD (K:W.Frag):Sp:=fun vs H Q _=>∃(a:Addr) (ns:List Int),vs=[.ref a]∧SqL K H a (ns.map V.int)∧ns.length≤63∧∀ H',Q (.bl true) H'
theorem zbs:zap NLw ["_law_script"] (ai zb3):=⟨rfl,rfl,rfl,by decide +kernel,rfl,by decide +kernel,by decide +kernel⟩
structure Far (P:Program) (w:World) (K:W.Frag) (mg:Str→Option Value) (base:Heap) (fC fM fN fB fT fV fH fS fL fJ:Addr) (dC dM dN dB dT' dV dH dS dL' dJ:FuncData):Prop where
 C:FB P w K mg base CX0 1 "_law_cell_at" fC dC ["_law_script","_law_k"] (zdg K)
 M:FB P w K mg base CX0 1 "_law_mixed" fM dM ["_law_cell","_law_k"] zbQ
 N:FB P w K mg base CX0 3 "_law_names" fN dN ["_law_cell"] zfn
 B:FB P w K mg base CX0 1 "_law_many_by" fB dB ["_law_cell"] zeq
 T:FB P w K mg base CX0 3 "_law_terms" fT dT' ["_law_script","_law_first","_law_names_here","_law_many"] (zfl K)
 V:FB P w K mg base CX0 2 "_law_given" fV dV ["_law_script","_law_first","_law_terms_here"] (zfq K)
 H:FB P w K mg base CX0 3 "_law_chain" fH dH ["_law_terms_here","_law_given_here","_law_cell"] (zfr K)
 S:FB P w K mg base CX0 2 "_law_beside" fS dS ["_law_terms_here","_law_chain_here","_law_one","_law_cell"] (zeF K)
 L:FB P w K mg base CX0 4 "links" fL dL' ["terms","given"] (zfp K)
 J:FB P w K mg base CX0 4 "_law_told" fJ dJ ["_law_terms_here","_law_chain_here","_law_one","_law_other","_law_cell","_law_kept"] (zf0 K)
structure Drw (K:W.Frag) (H:Hp) (tl la:Addr) (xs ys:List V) (ts:List Tm) (zs:List Str) (gs:List (Int × Int)) (L:List Lk):Prop where
 hT:H tl=some (.lst xs)
 hL:ad K H (ts.map dTm) xs
 hS:H la=some (.lst ys)
 hY:ad K H (L.map dL) ys
 hW:TmW zs ts
 R:zau ts gs L
 t60:ts.length≤60
 t1:0 < ts.length
theorem Drw.to {K:W.Frag} {H H':Hp} {tl la:Addr} {xs ys:List V} {ts:List Tm} {zs:List Str} {gs:List (Int × Int)} {L:List Lk} (D:Drw K H tl la xs ys ts zs gs L) (s:aj H H'):Drw K H' tl la xs ys ts zs gs L :=
 ⟨s _ _ D.hT,ad.keep s.kt (zaf _) D.hL,s _ _ D.hS,ad.keep s.kt (zai _) D.hY,D.hW,D.R,D.t60,D.t1⟩
theorem Drw.x {K:W.Frag} {H H':Hp} {tl la kl:Addr} {xs ys es:List V} {ts:List Tm} {zs:List Str} {gs:List (Int × Int)} {L:List Lk} (D:Drw K H tl la xs ys ts zs gs L) (s:zaO kl H H') (hk:H kl=some (.lst es)) (n1:tl≠kl) (n2:la≠kl):Drw K H' tl la xs ys ts zs gs L :=
 ⟨s _ _ n1 D.hT,ad.keep (zaO.ktL s hk) (zaf _) D.hL,s _ _ n2 D.hS,ad.keep (zaO.ktL s hk) (zai _) D.hY,D.hW,D.R,D.t60,D.t1⟩
section
variable {P:Program} {w:World} {K:W.Frag} {mg:Str→Option Value} {base:Heap} {f fC fM fN fB fT fV fH fS fL fJ:Addr} {dC dM dN dB dT' dV dH dS dL' dJ:FuncData}
theorem law10 (T:Txt K mg) (G:Far P w K mg base fC fM fN fB fT fV fH fS fL fJ dC dM dN dB dT' dV dH dS dL' dJ) {cdv:Value} {A:Around} {outer:List Env} {s:Shared} {H0:Hp} {E:XK} (hr:zaE 4 (A.deeper (PyProof.Rows.envOfC "law" (ai zb3) s.heap.objs.size f cdv))) :
  ∃ t,PSs (zb2 CX0 P w K mg base NLw "law" (ai zb3) f cdv A outer s H0 E).nox ((zae zb3).drop 10) t ∧
   ∀(Q:VK) (H:Hp) (tl la:Addr) (x y c:Int) (xs ys:List V) (ts:List Tm) (zs:List Str) (gs:List (Int × Int)) (L:List Lk) (v0 v1 v3 v8 v9 v10:Option V),Drw K H tl la xs ys ts zs gs L→(0≤x∧x < (ts.length:Int))→(0≤y∧y < (ts.length:Int))→(∀ H',Q (.bl true) H') →
    t { nx:=fun _ H'=>Q .non H',rt:=Q } [v0,v1,some (.ref tl),v3,some (.ref la),some (.int x),some (.int y),some (.int c),v8,v9,v10] H:=by
 have hu:=zbT hr
 refine⟨_,(af (aq (i:=10) zbs.nd rfl (Or.inl rfl) (zaF ac))
  (af (zaA (zb7 (zbt (zac G.J.ok hr rfl G.J.m G.J.kp G.J.b .nil ay (aa (pv 2) (aa (pv 4) (aa (pv 5) (aa (pv 6) (aa (ao zar (pv 7) ag) (aa (pv 10) ac)))))))))
   (ak (zaj zb5))
   zaq)
  (af (zaA (zb7 (zbt (zac G.J.ok hr rfl G.J.m G.J.kp G.J.b .nil ay (aa (pv 2) (aa (pv 4) (aa (ao zak (ao zar (pv 7) ag) (zab zaa rfl T.len PySem.boot_len (aa (pv 2) ac))) (aa (ao zak (ao zar (pv 7) ag) (zab zaa rfl T.len PySem.boot_len (aa (pv 2) ac))) (aa (ao zar (pv 7) ag) (aa (pv 10) ac)))))))))
   (ak (zaj zb5))
   zaq)
  (af (zaA (zb7 (zbt (zac G.J.ok hr rfl G.J.m G.J.kp G.J.b .nil ay (aa (pv 2) (aa (pv 4) (aa (pv 5) (aa (pv 6) (aa (ao zar (pv 7) ag) (aa (pv 10) ac)))))))))
   (ak (zaj zb5))
   zaq)
  (ak (zaj (zcD (zfI hu) (zjv (N':=["_law_found","_law_same"]) (L:=2) (ix:=[]) rfl rfl (by decide +kernel) (by decide +kernel) (fun _=>⟨[],zeo (by decide +kernel) (by decide +kernel)⟩) rfl (fun j i h=>by simp at h) (zbw (pv 10)) (fun _ _ _ _=>(ze1 2 K rfl rfl (zaM (zan (i:=0) (show(["_law_found","_law_same"]:List Str).Nodup by decide +kernel) rfl (Or.inl rfl)) (zaM (zan (i:=1) (show(["_law_found","_law_same"]:List Str).Nodup by decide +kernel) rfl (Or.inl rfl)) zcb)))) (fun _ _ _ _=>(zag (r:=rNeD K) (zc2 hu) (pv 0) (pv 1) rfl)) (fun _ _ _ _=>ag)) (zaF ac) rfl))))))),?_⟩
 rintro Q H tl la x y c xs ys ts zs gs L v0 v1 v3 v8 v9 v10 D hx hy q
 have xl:xs.length=ts.length:=by rw[←D.hL.length,List.length_map]
 have t1:=D.t1
 refine⟨lS0,fun kl hkl=>?_⟩
 have D1:=D.to (ah hkl (.lst []))
 have k1:=ae (H:=H) (a:=kl) (o:=.lst [])
 have ntk:tl≠kl:=fun e=>by rw[←e,D.hT]at hkl;cases hkl
 have nlk:la≠kl:=fun e=>by rw[←e,D.hS]at hkl;cases hkl
 generalize upd H kl (.lst [])=H1 at D1 k1
 refine⟨_,rfl,_,rfl,_,rfl,_,rfl,_,rfl,_,_,rfl,rfl,⟨by decide,by decide⟩,_,rfl,tl,la,kl,x,y,_,xs,ys,[],ts,zs,gs,L,rfl,D1.hT,D1.hL,D1.hS,D1.hY,D.hW,D.R,D.t60,hx,hy,k1,(fun v hv=>by simp at hv),(by decide),ntk,nlk,fun H2 es2 x2 k2 ko2 l2=>⟨_,rfl,zax ?_⟩⟩
 have D2:=D1.x x2 k1 ntk nlk
 have pos:(0:Int) < ((xs.length:Nat):Int):=by omega
 have m1:=za3 (c / 7) pos
 have m2:=za3 (c / 427) pos
 have l2:es2.length≤0+1:=l2
 refine⟨_,rfl,_,rfl,_,rfl,_,_,rfl,rfl,⟨by decide,by decide⟩,_,rfl,tl,_,rfl,.inl (SqL.of D2.hT),_,_,rfl,rfl,pos,_,rfl,_,_,rfl,rfl,⟨by decide,by decide⟩,_,rfl,tl,_,rfl,.inl (SqL.of D2.hT),_,_,rfl,rfl,pos,_,rfl,_,_,rfl,rfl,⟨by decide,by decide⟩,_,rfl,tl,la,kl,_,_,_,xs,ys,es2,ts,zs,gs,L,rfl,D2.hT,D2.hL,D2.hS,D2.hY,D.hW,D.R,D.t60,(by omega),(by omega),k2,ko2,(by omega),ntk,nlk,fun H3 es3 x3 k3 ko3 l3=>⟨_,rfl,zax ?_⟩⟩
 have D3:=D2.x x3 k2 ntk nlk
 refine⟨_,rfl,_,rfl,_,rfl,_,rfl,_,rfl,_,_,rfl,rfl,⟨by decide,by decide⟩,_,rfl,tl,la,kl,x,y,_,xs,ys,es3,ts,zs,gs,L,rfl,D3.hT,D3.hL,D3.hS,D3.hY,D.hW,D.R,D.t60,hx,hy,k3,ko3,(by omega),ntk,nlk,fun H4 es4 x4 k4 ko4 l4=>⟨_,rfl,zax ?_⟩⟩
 refine⟨_,rfl,kl,rfl,⟨_,SqL.of k4⟩,fun Dl hDl=>zf7 zbv (fun i us H'=>aj H4 H'∧us=[]) (fun i us H' ⟨s1,_⟩=>s1.seq (SqL.of k4)) ⟨ah hDl _,rfl⟩ ?_ ?_⟩
 ·rintro i us H6 z H5 hi hly hDs ⟨s5,rfl⟩ ⟨rfl,hz⟩ σ0 hσ0
  have hz:=hz _ (s5.seq (SqL.of k4))
  obtain⟨p,fa,ca,rs,R,rfl,hp,hf,hc,hR,_,_⟩:=ko4 z (List.mem_of_getElem? hz)
  have hR5:=ad.keep s5.kt (zai _) hR
  match σ0,hσ0 with
  | [w0,w1],_ =>
   refine⟨p,_,rfl,s5.tup hp,rfl,_,_,rfl,_,_,rfl,rfl,[some (.ref fa),some (.ref ca)],rfl,rfl,?_⟩
   refine⟨_,rfl,_,rfl,.lst (R.map dL),.lst (R.map dL),Has.lst' (SqL.of (s5 _ _ hf)) hR5,Has.lst' (SqL.of (s5 _ _ hc)) hR5,(by have:=zea R;simp only[dep];omega),_,rfl,?_⟩
   rw[zcz]
   exact zax (zcE hi hly hDs ⟨s5,rfl⟩)
 rintro us H5 hDs ⟨s5,rfl⟩
 refine⟨lS0,fun e he=>?_⟩
 refine⟨.lst [],.lst [],Has.lst' (SqL.of (ah he _ _ _ hDs)) ad.nil,Has.lst' (SqL.of ae) ad.nil,(by simp only[dep,za0];decide),?_⟩
 rw[zcz]
 exact q _
theorem law5 (T:Txt K mg) (G:Far P w K mg base fC fM fN fB fT fV fH fS fL fJ dC dM dN dB dT' dV dH dS dL' dJ) {cdv:Value} {A:Around} {outer:List Env} {s:Shared} {H0:Hp} {E:XK} (hr:zaE 4 (A.deeper (PyProof.Rows.envOfC "law" (ai zb3) s.heap.objs.size f cdv))) :
  ∃ t,PSs (zb2 CX0 P w K mg base NLw "law" (ai zb3) f cdv A outer s H0 E).nox ((zae zb3).drop 5) t ∧
   ∀(Q:VK) (H:Hp) (a tl la:Addr) (ns:List Int) (xs ys:List V) (ts:List Tm) (zs:List Str) (gs:List (Int × Int)) (L:List Lk) (v1 v3 v5 v6 v7 v8 v9 v10:Option V),SqL K H a (ns.map V.int)→Drw K H tl la xs ys ts zs gs L→(∀ H',Q (.bl true) H') →
    t { nx:=fun _ H'=>Q .non H',rt:=Q } [some (.ref a),v1,some (.ref tl),v3,some (.ref la),v5,v6,v7,v8,v9,v10] H:=by
 have hu:=zbT hr
 have hr1:zaE 1 _:=hr.mono (by decide)
 have hr2:zaE 2 _:=hr.mono (by decide)
 obtain⟨t3,h3,q3⟩:=law10 (P:=P) (w:=w) (base:=base) (f:=f) (cdv:=cdv) (outer:=outer) (H0:=H0) (E:=E) T G hr
 refine⟨_,(af (aq (i:=5) zbs.nd rfl (Or.inl rfl) (ao zak (zac G.C.ok hr1 rfl G.C.m G.C.kp G.C.b .nil ay (aa (pv 0) (aa ag ac))) (zab zaa rfl T.len PySem.boot_len (aa (pv 2) ac))))
  (af (aq (i:=6) zbs.nd rfl (Or.inl rfl) (ao zak (zac G.C.ok hr1 rfl G.C.m G.C.kp G.C.b .nil ay (aa (pv 0) (aa ag ac))) (zab zaa rfl T.len PySem.boot_len (aa (pv 2) ac))))
  (af (aq (i:=7) zbs.nd rfl (Or.inl rfl) (zac G.M.ok hr1 rfl G.M.m G.M.kp G.M.b .nil ay (aa (zac G.C.ok hr1 rfl G.C.m G.C.kp G.C.b .nil ay (aa (pv 0) (aa ag ac))) (aa ag ac))))
  (af (zdM (i:=8) (N':=["_law_link"]) (ix:=[]) zbs.nd rfl (Or.inl rfl) rfl rfl (by decide +kernel) (by decide +kernel) rfl (fun _=>⟨[],zeo (by decide +kernel) (by decide +kernel)⟩) (by decide +kernel) rfl rfl (fun j i h=>by simp at h) (zbw (pv 4)) (fun _ _ _ _=>(zag zbk (ar (r:=zfg K) zal (pv 0) ag (fun _ _=>rfl)) (zeh zdm ag) (zas _))) (fun _ _ _ _=>(pv 0)))
  (af (zaA (zag zfA (ao zak (pv 7) ag) ag (zas _))
   (ak (aq (i:=6) zbs.nd rfl (Or.inl rfl) (zac G.S.ok hr2 rfl G.S.m G.S.kp G.S.b .nil ay (aa (pv 2) (aa (pv 4) (aa (pv 5) (aa (zac G.C.ok hr1 rfl G.C.m G.C.kp G.C.b .nil ay (aa (pv 0) (aa ag ac))) ac)))))))
   (ak (zaA (PW.pt (zc1 (zag zbk (ao zak (pv 7) ag) ag (zas _)) (zcB (zag (zc2 hu) (pv 8) (zaF ac) rfl))))
     (ak (zfF (ar zah (pv 8) (ao zak (ao zar (pv 7) ag) (zab zaa rfl T.len PySem.boot_len (aa (pv 8) ac))) (fun _ _=>rfl)) (zdp rfl (zaM (zan (i:=5) zbs.nd rfl (Or.inl rfl)) (zaM (zan (i:=6) zbs.nd rfl (Or.inl rfl)) (zaM (zan (i:=9) zbs.nd rfl (Or.inl rfl)) zcb))))))
     zaq))) h3))))),?_⟩
 rintro Q H a tl la ns xs ys ts zs gs L v1 v3 v5 v6 v7 v8 v9 v10 hA D q
 have xl:xs.length=ts.length:=by rw[←D.hL.length,List.length_map]
 have yl:ys.length=L.length:=by rw[←D.hY.length,List.length_map]
 have ll:=D.R.len
 have t1:=D.t1
 have t60:=D.t60
 have pos:(0:Int) < ((xs.length:Nat):Int):=by omega
 have m1:=za3 (ns.getD 14 0) pos
 have m2:=za3 (ns.getD 15 0) pos
 refine⟨_,rfl,a,ns,14,rfl,hA,_,rfl,tl,_,rfl,.inl (SqL.of D.hT),_,_,rfl,rfl,pos,?_⟩
 refine⟨_,rfl,a,ns,15,rfl,hA,_,rfl,tl,_,rfl,.inl (SqL.of D.hT),_,_,rfl,rfl,pos,?_⟩
 refine⟨_,rfl,a,ns,16,rfl,hA,_,_,rfl,?_⟩
 generalize zbB (ns.getD 16 0) 3=c
 refine⟨_,rfl,la,rfl,⟨_,SqL.of D.hS⟩,fun Dl hDl=>zfK zbv (fun i us H'=>aj H H'∧∃ B:List Lk,ad K H' (B.map dL) us∧∀ l∈B,l∈L) (fun i us H' ⟨s1,_⟩=>s1.seq (SqL.of D.hS)) ⟨ah hDl _,[],ad.nil,fun l hl=>nomatch hl⟩ ?_ ?_⟩
 ·rintro i us H2 z H1 hi hly hDs ⟨s1,B,hB,bin⟩ ⟨rfl,hz⟩
  obtain⟨l,p,hl,rfl,hp⟩:=zcG D.hY (hz _ (s1.seq (SqL.of D.hS)))
  have a2:atI [V.int l.1,V.int l.2.1,V.int l.2.2] 2=some (.int l.2.2):=zad (j:=2) rfl
  refine⟨_,rfl,p,_,_,_,rfl,rfl,s1.tup hp,a2,_,rfl,rfl,_,rfl,zbN (fun _=>?_) (fun _=>?_)⟩
  ·have kt:=zam.lst (ys:=us++[.ref p]) hDs
   refine⟨_,rfl,zbC (bsz _ (by omega)) hi hly hDs ⟨s1.upd hDl,B++[l],?_,fun m hm=>?_⟩⟩
   ·rw[List.map_append]
    exact ad.append (ad.keep kt (zai _) hB) (ad.one (zdc (kt.sq (s1.tup hp))))
   ·rcases List.mem_append.mp hm with h | h
    ·exact bin m h
    ·rw[List.mem_singleton.mp h];exact List.mem_of_getElem? hl
  ·exact zcE hi hly hDs ⟨s1,B,hB,bin⟩
 rintro us H1 hDs ⟨s1,B,hB,bin⟩
 have D1:=D.to s1
 have bx:0≤ns.getD 14 0 % ((xs.length:Nat):Int)∧ns.getD 14 0 % ((xs.length:Nat):Int) < (ts.length:Int):=by omega
 have by':0≤ns.getD 15 0 % ((xs.length:Nat):Int)∧ns.getD 15 0 % ((xs.length:Nat):Int) < (ts.length:Int):=by omega
 refine⟨_,rfl,_,_,rfl,rfl,(by show(0:Int) < 4;decide),_,_,rfl,rfl,_,rfl,zbN (fun _=>?_) (fun _=>?_)⟩
 ·refine⟨_,rfl,_,rfl,_,rfl,_,rfl,a,ns,15,rfl,s1.seq hA,tl,la,_,_,xs,ys,L,rfl,SqL.of D1.hT,by omega,SqL.of D1.hS,D1.hY,(by rw[xl];exact D.R.inn),m1,fun H2 y s2 hy=>?_⟩
  exact q3 Q H2 tl la _ y c xs ys ts zs gs L _ _ _ _ _ _ (D1.to s2) bx (by omega) q
 ·refine⟨_,rfl,_,_,rfl,rfl,(by show(0:Int) < 4;decide),rfl,_,rfl,zbN (fun _=>?_) (fun _=>?_)⟩
  ·refine⟨_,rfl,lS0,fun e he=>?_⟩
   have s2:aj H1 (upd H1 e (.lst [])):=ah he _
   have n2:=ae (H:=H1) (a:=e) (o:=.lst [])
   generalize upd H1 e (.lst [])=H2 at s2 n2
   have hB2:=ad.keep s2.kt (zai _) hB
   have hD2:=s2 _ _ hDs
   have ul:us.length=B.length:=by rw[←hB.length,List.length_map]
   refine⟨.lst (B.map dL),.lst [],Has.lst' (SqL.of hD2) hB2,Has.lst' (SqL.of n2) ad.nil,(by have:=zea B;simp only[dep];omega),_,rfl,?_⟩
   cases B with
   | nil=>exact zax (q3 Q H2 tl la _ _ c xs ys ts zs gs L _ _ _ _ _ _ (D1.to s2) bx by' q)
   | cons b0 B0 =>
    obtain⟨i,lt,e1,e2⟩:=zf9 (xs:=us) (c / 4) (by rw[ul];exact Nat.succ_pos _)
    obtain⟨l,p,hl,ev,hp⟩:=zcG hB2 (List.getElem?_eq_getElem lt)
    rw[ev]at e2
    have lb:=D.R.inn l (bin l (List.mem_of_getElem? hl))
    exact zaQ ⟨_,rfl,_,rfl,_,_,rfl,rfl,⟨by decide,by decide⟩,_,rfl,Dl,_,rfl,.inl (SqL.of hD2),_,_,rfl,rfl,(by omega),Dl,_,_,_,rfl,rfl,SqL.of hD2,e2,p,_,rfl,hp,rfl,_,_,rfl,_,_,rfl,_,_,rfl,rfl,q3 Q H2 tl la l.1 l.2.1 c xs ys ts zs gs L _ _ _ _ _ _ (D1.to s2) lb.1 lb.2 q⟩
  ·exact zax (q3 Q H1 tl la _ _ c xs ys ts zs gs L _ _ _ _ _ _ D1 bx by' q)
set_option maxHeartbeats 1000000 in
theorem ok_law {fd:FuncData} (F:Fun K "law" "law" zb3 f fd) (T:Txt K mg) (G:Far P w K mg base fC fM fN fB fT fV fH fS fL fJ dC dM dN dB dT' dV dH dS dL' dJ):zay P w K mg base CX0 5 f fd ["_law_script"] (zfD K):=by
 refine F.ok zbs (fun vs H Q E h=>?_) (fun cdv A outer s H vs Q E hr h=>?_)
 ·obtain⟨a,ns,rfl,_⟩:=h
  rfl
 obtain⟨a,ns,rfl,hS,h63,q⟩:=h
 have hr1:zaE 1 _:=hr.mono (by decide)
 have hr2:zaE 2 _:=hr.mono (by decide)
 have hr3:zaE 3 _:=hr.mono (by decide)
 obtain⟨t3,h3,q3⟩:=law5 (P:=P) (w:=w) (base:=base) (f:=f) (cdv:=cdv) (outer:=outer) (H0:=H) (E:=E) T G hr
 refine⟨_,(af (aq (i:=1) zbs.nd rfl (Or.inl rfl) (zac G.N.ok hr3 rfl G.N.m G.N.kp G.N.b .nil ay (aa (zac G.C.ok hr1 rfl G.C.m G.C.kp G.C.b .nil ay (aa (pv 0) (aa ag ac))) ac)))
  (af (aq (i:=2) zbs.nd rfl (Or.inl rfl) (zac G.T.ok hr3 rfl G.T.m G.T.kp G.T.b .nil ay (aa (pv 0) (aa ag (aa (pv 1) (aa (zab (zeL rfl) rfl T.max PyProof.Rows.Boot.max (aa ag (aa (zac G.B.ok hr1 rfl G.B.m G.B.kp G.B.b .nil ay (aa (zac G.C.ok hr1 rfl G.C.m G.C.kp G.C.b .nil ay (aa (pv 0) (aa ag ac))) ac)) ac))) ac))))))
  (af (aq (i:=3) zbs.nd rfl (Or.inl rfl) (zac G.V.ok hr2 rfl G.V.m G.V.kp G.V.b .nil ay (aa (pv 0) (aa ag (aa (pv 2) ac)))))
  (af (aq (i:=4) zbs.nd rfl (Or.inl rfl) (zaF ac))
  (af (zaA (PW.pt (zc1 (zag zfA (zab zaa rfl T.len PySem.boot_len (aa (pv 2) ac)) ag (zas _)) (zcB (zag zfA (zab zaa rfl T.len PySem.boot_len (aa (pv 3) ac)) ag (zas _)))))
   (ak (aq (i:=4) zbs.nd rfl (Or.inl rfl) (zac G.H.ok hr3 rfl G.H.m G.H.kp G.H.b .nil ay (aa (pv 2) (aa (pv 3) (aa (zac G.C.ok hr1 rfl G.C.m G.C.kp G.C.b .nil ay (aa (pv 0) (aa ag ac))) ac))))))
   (ak (aq (i:=4) zbs.nd rfl (Or.inl rfl) (zac G.L.ok hr rfl G.L.m G.L.kp G.L.b .nil ay (aa (zaD zbb rfl T.list PyProof.Rows.Boot.list (aa (pv 2) ac)) (aa (zaD zbb rfl T.list PyProof.Rows.Boot.list (aa (pv 3) ac)) ac)))))) h3))))),?_⟩
 refine⟨_,rfl,a,ns,0,rfl,hS,_,rfl,fun H1 nl zs s1 hnl nl1 z4=>?_⟩
 refine⟨_,rfl,_,rfl,_,rfl,a,ns,1,rfl,s1.seq hS,_,rfl,fun m m60=>⟨_,_,rfl,?_⟩⟩
 obtain⟨m',em,m1,m60'⟩:∃ m':Nat,hiF 1 (m:Int)=(m':Int)∧0 < m'∧m'≤60:=by
  unfold hiF
  refine⟨if m≤1 then 1 else m,?_,?_,?_⟩
  ·split <;> split <;> omega
  ·split <;> omega
  ·split <;> omega
 refine⟨a,nl,ns,2,m',zs,congrArg (fun z=>[V.ref a,V.int 2,V.ref nl,V.int z]) em,s1.seq hS,SqL.of nl1,z4,m60',fun H2 tl xs ts s2 htl tl2 has2 hW t60 tpos=>?_⟩
 have s02:=s1.trans s2
 refine⟨_,rfl,_,rfl,a,tl,ns,8,xs,ts,zs,rfl,s02.seq hS,SqL.of tl2,has2,hW,t60,fun H3 gl gs ys s3 hgl gl3 hasg pin g201=>?_⟩
 have tl3:=s3 _ _ tl2
 have has3:=ad.keep s3.kt (zaf _) has2
 refine⟨lS0,fun e he=>?_⟩
 have s4:aj H3 (upd H3 e (.lst [])):=ah he _
 generalize upd H3 e (.lst [])=H4 at s4
 have s04:=(s02.trans s3).trans s4
 have tl4:=s4 _ _ tl3
 have gl4:=s4 _ _ gl3
 have has4:=ad.keep s4.kt (zaf _) has3
 have hasg4:=ad.keep s4.kt (zaG _) hasg
 refine⟨_,rfl,tl,_,rfl,.inl (SqL.of tl4),_,_,rfl,rfl,_,rfl,zbN (fun _=>?_) (fun _=>?_)⟩
 ·refine⟨_,rfl,gl,_,rfl,.inl (SqL.of gl4),_,_,rfl,rfl,_,rfl,zbN (fun _=>?_) (fun _=>?_)⟩
  ·exact⟨_,rfl,_,rfl,_,rfl,a,ns,13,rfl,s04.seq hS,tl,gl,_,xs,ys,ts,zs,gs,rfl,SqL.of tl4,has4,hW,t60,SqL.of gl4,hasg4,pin,by omega,fun H5 r us ls s5 _ h5 h6 h7=>q3 Q H5 a tl r ns xs us ts zs gs ls _ _ _ _ _ _ _ _ ((s04.trans s5).seq hS) ⟨s5 _ _ tl4,ad.keep s5.kt (zaf _) has4,h5,h6,hW,h7,t60,tpos m1⟩ q⟩
  ·refine⟨_,rfl,tl,_,rfl,.inl (SqL.of tl4),fun l1 hl1=>?_⟩
   have s5:aj H4 (upd H4 l1 (.lst xs)):=ah hl1 _
   have n5:=ae (H:=H4) (a:=l1) (o:=.lst xs)
   generalize upd H4 l1 (.lst xs)=H5 at s5 n5
   refine⟨_,rfl,gl,_,rfl,.inl (SqL.of (s5 _ _ gl4)),fun l2 hl2=>?_⟩
   have s6:aj H5 (upd H5 l2 (.lst ys)):=ah hl2 _
   have n6:=ae (H:=H5) (a:=l2) (o:=.lst ys)
   generalize upd H5 l2 (.lst ys)=H6 at s6 n6
   have s46:=s5.trans s6
   exact⟨l1,l2,xs,ys,gs,ts,rfl,SqL.of (s6 _ _ n5),ad.keep s46.kt (zaf _) has4,SqL.of n6,ad.keep s46.kt (zaG _) hasg4,pin,(fun t ht=>by have:=(hW.all ht).2.1;omega),by omega,by omega,fun H7 r ls us s7 _ h5 h6 h7 _ _ _=>q3 Q H7 a tl r ns xs us ts zs gs ls _ _ _ _ _ _ _ _ ((s04.trans (s46.trans s7)).seq hS) ⟨(s46.trans s7) _ _ tl4,ad.keep (s46.trans s7).kt (zaf _) has4,h5,h6,hW,h7,t60,tpos m1⟩ q⟩
 ·refine zax ?_
  refine⟨_,rfl,tl,_,rfl,.inl (SqL.of tl4),fun l1 hl1=>?_⟩
  have s5:aj H4 (upd H4 l1 (.lst xs)):=ah hl1 _
  have n5:=ae (H:=H4) (a:=l1) (o:=.lst xs)
  generalize upd H4 l1 (.lst xs)=H5 at s5 n5
  refine⟨_,rfl,gl,_,rfl,.inl (SqL.of (s5 _ _ gl4)),fun l2 hl2=>?_⟩
  have s6:aj H5 (upd H5 l2 (.lst ys)):=ah hl2 _
  have n6:=ae (H:=H5) (a:=l2) (o:=.lst ys)
  generalize upd H5 l2 (.lst ys)=H6 at s6 n6
  have s46:=s5.trans s6
  exact⟨l1,l2,xs,ys,gs,ts,rfl,SqL.of (s6 _ _ n5),ad.keep s46.kt (zaf _) has4,SqL.of n6,ad.keep s46.kt (zaG _) hasg4,pin,(fun t ht=>by have:=(hW.all ht).2.1;omega),by omega,by omega,fun H7 r ls us s7 _ h5 h6 h7 _ _ _=>q3 Q H7 a tl r ns xs us ts zs gs ls _ _ _ _ _ _ _ _ ((s04.trans (s46.trans s7)).seq hS) ⟨(s46.trans s7) _ _ tl4,ad.keep (s46.trans s7).kt (zaf _) has4,h5,h6,hW,h7,t60,tpos m1⟩ q⟩
end
end K14
namespace K14
open PySem L2
set_option maxHeartbeats 4000000 in
theorem all_mk {l:W.OpenLaw} {w:World} {K:W.Frag} {h:Heap} {mg:Str→Option Value} {fa C CE CJ C1 C2 C3 C4 C5 C6 C7 f1 f2 f3 f4 f5 f6 f7 f8 f9 f10 f11 f12 f13 f14 f15 f16 f17 f18 f19 f20 f21 f22 f23 f24 f25 f26 f27 f28 f29 f30 f31 f32:Addr} (X:K.In h) (G:h.Ns mainGlobals mg) (hfa:mg "law"=some (.ref fa))
  {od1 an1 od2 an2 od3 an3 od4 an4 od5 an5 od6 an6 od7 an7 od8 an8 od9 an9 od10 an10 od11 an11 od12 an12 od13 an13 od14 an14 od15 an15 od16 an16 od17 an17 od18 an18 od19 an19 od20 an20 od21 an21 od22 an22 od23 an23 od24 an24 od25 an25 od26 an26 od27 an27 od28 an28 od29 an29 od30 an30 od31 an31 od32 an32:Option Addr} {sl1 sl2 sl3 sl4 sl5 sl6 sl7 sl8 sl9 sl10 sl11 sl12 sl13 sl14 sl15 sl16 sl17 sl18 sl19 sl20 sl21 sl22 sl23 sl24 sl25 sl26 sl27 sl28 sl29 sl30 sl31 sl32:Array (Option Value)} {oc1 kV1 dc1 pm1 cd1 ct1 oc2 kV2 dc2 pm2 cd2 ct2 oc3 kV3 dc3 pm3 cd3 ct3 oc4 kV4 dc4 pm4 cd4 ct4 oc5 kV5 dc5 pm5 cd5 ct5 oc6 kV6 dc6 pm6 cd6 ct6 oc7 kV7 dc7 pm7 cd7 ct7 oc8 kV8 dc8 pm8 cd8 ct8 oc9 kV9 dc9 pm9 cd9 ct9 oc10 kV10 dc10 pm10 cd10 ct10 oc11 kV11 dc11 pm11 cd11 ct11 oc12 kV12 dc12 pm12 cd12 ct12 oc13 kV13 dc13 pm13 cd13 ct13 oc14 kV14 dc14 pm14 cd14 ct14 oc15 kV15 dc15 pm15 cd15 ct15 oc16 kV16 dc16 pm16 cd16 ct16 oc17 kV17 dc17 pm17 cd17 ct17 oc18 kV18 dc18 pm18 cd18 ct18 oc19 kV19 dc19 pm19 cd19 ct19 oc20 kV20 dc20 pm20 cd20 ct20 oc21 kV21 dc21 pm21 cd21 ct21 oc22 kV22 dc22 pm22 cd22 ct22 oc23 kV23 dc23 pm23 cd23 ct23 oc24 kV24 dc24 pm24 cd24 ct24 oc25 kV25 dc25 pm25 cd25 ct25 oc26 kV26 dc26 pm26 cd26 ct26 oc27 kV27 dc27 pm27 cd27 ct27 oc28 kV28 dc28 pm28 cd28 ct28 oc29 kV29 dc29 pm29 cd29 ct29 oc30 kV30 dc30 pm30 cd30 ct30 oc31 kV31 dc31 pm31 cd31 ct31 oc32 kV32 dc32 pm32 cd32 ct32:Value} {cdJ:ClassData}
  (aC:W.nsIn K mainGlobals "Groups"=some (some (.ref C)))
  (x_ce:W.nsIn K mainGlobals "ChoiceError"=some (some (.ref CE)))
  (x_nj:W.nsIn K mainGlobals "NotJoined"=some (some (.ref CJ)))
  (x_c1:W.nsIn K mainGlobals "BadName"=some (some (.ref C1)))
  (x_c2:W.nsIn K mainGlobals "BadTerm"=some (some (.ref C2)))
  (x_c3:W.nsIn K mainGlobals "BadPart"=some (some (.ref C3)))
  (x_c4:W.nsIn K mainGlobals "TooMany"=some (some (.ref C4)))
  (x_c5:W.nsIn K mainGlobals "NoProblem"=some (some (.ref C5)))
  (x_c6:W.nsIn K mainGlobals "TooLong"=some (some (.ref C6)))
  (x_c7:W.nsIn K mainGlobals "BadPaper"=some (some (.ref C7)))
  (a1:W.nsIn K mainGlobals "given_links"=some (some (.ref f1)))
  (l1:K.lookup f1=some ⟨oc1,od1,.func (W.fnOf "given_links" "given_links" (zao zbE) (zae zbE) (ai zbE) .none kV1 dc1 pm1 an1 cd1 ct1),sl1⟩)
  (c1:W.codeIn K cd1 "given_links"=true)
  (k1:W.keepIn K (.ref f1)=true)
  (a2:W.nsIn K mainGlobals "alike_links"=some (some (.ref f2)))
  (l2:K.lookup f2=some ⟨oc2,od2,.func (W.fnOf "alike_links" "alike_links" (zao zbq) (zae zbq) (ai zbq) .none kV2 dc2 pm2 an2 cd2 ct2),sl2⟩)
  (c2:W.codeIn K cd2 "alike_links"=true)
  (k2:W.keepIn K (.ref f2)=true)
  (a3:W.nsIn K mainGlobals "links"=some (some (.ref f3)))
  (l3:K.lookup f3=some ⟨oc3,od3,.func (W.fnOf "links" "links" (zao zdi) (zae zdi) (ai zdi) .none kV3 dc3 pm3 an3 cd3 ct3),sl3⟩)
  (c3:W.codeIn K cd3 "links"=true)
  (k3:W.keepIn K (.ref f3)=true)
  (a4:W.nsIn K mainGlobals "steps_of"=some (some (.ref f4)))
  (l4:K.lookup f4=some ⟨oc4,od4,.func (W.fnOf "steps_of" "steps_of" (zao zcq) (zae zcq) (ai zcq) .none kV4 dc4 pm4 an4 cd4 ct4),sl4⟩)
  (c4:W.codeIn K cd4 "steps_of"=true)
  (k4:W.keepIn K (.ref f4)=true)
  (a5:W.nsIn K mainGlobals "way"=some (some (.ref f5)))
  (l5:K.lookup f5=some ⟨oc5,od5,.func (W.fnOf "way" "way" (zao zdb) (zae zdb) (ai zdb) .none kV5 dc5 pm5 an5 cd5 ct5),sl5⟩)
  (c5:W.codeIn K cd5 "way"=true)
  (k5:W.keepIn K (.ref f5)=true)
  (a6:W.nsIn K mainGlobals "part_pairs"=some (some (.ref f6)))
  (l6:K.lookup f6=some ⟨oc6,od6,.func (W.fnOf "part_pairs" "part_pairs" (zao zbW) (zae zbW) (ai zbW) .none kV6 dc6 pm6 an6 cd6 ct6),sl6⟩)
  (c6:W.codeIn K cd6 "part_pairs"=true)
  (k6:W.keepIn K (.ref f6)=true)
  (a7:W.nsIn K mainGlobals "ways"=some (some (.ref f7)))
  (l7:K.lookup f7=some ⟨oc7,od7,.func (W.fnOf "ways" "ways" (zao zdn) (zae zdn) (ai zdn) .none kV7 dc7 pm7 an7 cd7 ct7),sl7⟩)
  (c7:W.codeIn K cd7 "ways"=true)
  (k7:W.keepIn K (.ref f7)=true)
  (a8:W.nsIn K mainGlobals "_law_cell_at"=some (some (.ref f8)))
  (l8:K.lookup f8=some ⟨oc8,od8,.func (W.fnOf "_law_cell_at" "_law_cell_at" (zao zbA) (zae zbA) (ai zbA) .none kV8 dc8 pm8 an8 cd8 ct8),sl8⟩)
  (c8:W.codeIn K cd8 "_law_cell_at"=true)
  (k8:W.keepIn K (.ref f8)=true)
  (a9:W.nsIn K mainGlobals "_law_mixed"=some (some (.ref f9)))
  (l9:K.lookup f9=some ⟨oc9,od9,.func (W.fnOf "_law_mixed" "_law_mixed" (zao zbZ) (zae zbZ) (ai zbZ) .none kV9 dc9 pm9 an9 cd9 ct9),sl9⟩)
  (c9:W.codeIn K cd9 "_law_mixed"=true)
  (k9:W.keepIn K (.ref f9)=true)
  (a10:W.nsIn K mainGlobals "_law_word"=some (some (.ref f10)))
  (l10:K.lookup f10=some ⟨oc10,od10,.func (W.fnOf "_law_word" "_law_word" (zao zce) (zae zce) (ai zce) .none kV10 dc10 pm10 an10 cd10 ct10),sl10⟩)
  (c10:W.codeIn K cd10 "_law_word"=true)
  (k10:W.keepIn K (.ref f10)=true)
  (a11:W.nsIn K mainGlobals "_law_names"=some (some (.ref f11)))
  (l11:K.lookup f11=some ⟨oc11,od11,.func (W.fnOf "_law_names" "_law_names" (zao zbY) (zae zbY) (ai zbY) .none kV11 dc11 pm11 an11 cd11 ct11),sl11⟩)
  (c11:W.codeIn K cd11 "_law_names"=true)
  (k11:W.keepIn K (.ref f11)=true)
  (a12:W.nsIn K mainGlobals "_law_term"=some (some (.ref f12)))
  (l12:K.lookup f12=some ⟨oc12,od12,.func (W.fnOf "_law_term" "_law_term" (zao za1) (zae za1) (ai za1) .none kV12 dc12 pm12 an12 cd12 ct12),sl12⟩)
  (c12:W.codeIn K cd12 "_law_term"=true)
  (k12:W.keepIn K (.ref f12)=true)
  (a13:W.nsIn K mainGlobals "_law_terms"=some (some (.ref f13)))
  (l13:K.lookup f13=some ⟨oc13,od13,.func (W.fnOf "_law_terms" "_law_terms" (zao za2) (zae za2) (ai za2) .none kV13 dc13 pm13 an13 cd13 ct13),sl13⟩)
  (c13:W.codeIn K cd13 "_law_terms"=true)
  (k13:W.keepIn K (.ref f13)=true)
  (a14:W.nsIn K mainGlobals "_law_many_by"=some (some (.ref f14)))
  (l14:K.lookup f14=some ⟨oc14,od14,.func (W.fnOf "_law_many_by" "_law_many_by" (zao zbz) (zae zbz) (ai zbz) .none kV14 dc14 pm14 an14 cd14 ct14),sl14⟩)
  (c14:W.codeIn K cd14 "_law_many_by"=true)
  (k14:W.keepIn K (.ref f14)=true)
  (a15:W.nsIn K mainGlobals "_law_twin_parts"=some (some (.ref f15)))
  (l15:K.lookup f15=some ⟨oc15,od15,.func (W.fnOf "_law_twin_parts" "_law_twin_parts" (zao zaJ) (zae zaJ) (ai zaJ) .none kV15 dc15 pm15 an15 cd15 ct15),sl15⟩)
  (c15:W.codeIn K cd15 "_law_twin_parts"=true)
  (k15:W.keepIn K (.ref f15)=true)
  (a16:W.nsIn K mainGlobals "_law_given"=some (some (.ref f16)))
  (l16:K.lookup f16=some ⟨oc16,od16,.func (W.fnOf "_law_given" "_law_given" (zao za9) (zae za9) (ai za9) .none kV16 dc16 pm16 an16 cd16 ct16),sl16⟩)
  (c16:W.codeIn K cd16 "_law_given"=true)
  (k16:W.keepIn K (.ref f16)=true)
  (a17:W.nsIn K mainGlobals "_law_relabelled"=some (some (.ref f17)))
  (l17:K.lookup f17=some ⟨oc17,od17,.func (W.fnOf "_law_relabelled" "_law_relabelled" (zao zaY) (zae zaY) (ai zaY) .none kV17 dc17 pm17 an17 cd17 ct17),sl17⟩)
  (c17:W.codeIn K cd17 "_law_relabelled"=true)
  (k17:W.keepIn K (.ref f17)=true)
  (a18:W.nsIn K mainGlobals "_law_whole"=some (some (.ref f18)))
  (l18:K.lookup f18=some ⟨oc18,od18,.func (W.fnOf "_law_whole" "_law_whole" (zao zbX) (zae zbX) (ai zbX) .none kV18 dc18 pm18 an18 cd18 ct18),sl18⟩)
  (c18:W.codeIn K cd18 "_law_whole"=true)
  (k18:W.keepIn K (.ref f18)=true)
  (a19:W.nsIn K mainGlobals "_law_alike"=some (some (.ref f19)))
  (l19:K.lookup f19=some ⟨oc19,od19,.func (W.fnOf "_law_alike" "_law_alike" (zao zbi) (zae zbi) (ai zbi) .none kV19 dc19 pm19 an19 cd19 ct19),sl19⟩)
  (c19:W.codeIn K cd19 "_law_alike"=true)
  (k19:W.keepIn K (.ref f19)=true)
  (a20:W.nsIn K mainGlobals "_law_triple"=some (some (.ref f20)))
  (l20:K.lookup f20=some ⟨oc20,od20,.func (W.fnOf "_law_triple" "_law_triple" (zao zbF) (zae zbF) (ai zbF) .none kV20 dc20 pm20 an20 cd20 ct20),sl20⟩)
  (c20:W.codeIn K cd20 "_law_triple"=true)
  (k20:W.keepIn K (.ref f20)=true)
  (a21:W.nsIn K mainGlobals "_law_next"=some (some (.ref f21)))
  (l21:K.lookup f21=some ⟨oc21,od21,.func (W.fnOf "_law_next" "_law_next" (zao zbR) (zae zbR) (ai zbR) .none kV21 dc21 pm21 an21 cd21 ct21),sl21⟩)
  (c21:W.codeIn K cd21 "_law_next"=true)
  (k21:W.keepIn K (.ref f21)=true)
  (a22:W.nsIn K mainGlobals "_law_chain"=some (some (.ref f22)))
  (l22:K.lookup f22=some ⟨oc22,od22,.func (W.fnOf "_law_chain" "_law_chain" (zao zba) (zae zba) (ai zba) .none kV22 dc22 pm22 an22 cd22 ct22),sl22⟩)
  (c22:W.codeIn K cd22 "_law_chain"=true)
  (k22:W.keepIn K (.ref f22)=true)
  (a23:W.nsIn K mainGlobals "_law_joins"=some (some (.ref f23)))
  (l23:K.lookup f23=some ⟨oc23,od23,.func (W.fnOf "_law_joins" "_law_joins" (zao zb0) (zae zb0) (ai zb0) .none kV23 dc23 pm23 an23 cd23 ct23),sl23⟩)
  (c23:W.codeIn K cd23 "_law_joins"=true)
  (k23:W.keepIn K (.ref f23)=true)
  (a24:W.nsIn K mainGlobals "_law_some_of"=some (some (.ref f24)))
  (l24:K.lookup f24=some ⟨oc24,od24,.func (W.fnOf "_law_some_of" "_law_some_of" (zao zbx) (zae zbx) (ai zbx) .none kV24 dc24 pm24 an24 cd24 ct24),sl24⟩)
  (c24:W.codeIn K cd24 "_law_some_of"=true)
  (k24:W.keepIn K (.ref f24)=true)
  (a25:W.nsIn K mainGlobals "_law_refused"=some (some (.ref f25)))
  (l25:K.lookup f25=some ⟨oc25,od25,.func (W.fnOf "_law_refused" "_law_refused" (zao zby) (zae zby) (ai zby) .none kV25 dc25 pm25 an25 cd25 ct25),sl25⟩)
  (c25:W.codeIn K cd25 "_law_refused"=true)
  (k25:W.keepIn K (.ref f25)=true)
  (a26:W.nsIn K mainGlobals "_law_told"=some (some (.ref f26)))
  (l26:K.lookup f26=some ⟨oc26,od26,.func (W.fnOf "_law_told" "_law_told" (zao zbh) (zae zbh) (ai zbh) .none kV26 dc26 pm26 an26 cd26 ct26),sl26⟩)
  (c26:W.codeIn K cd26 "_law_told"=true)
  (k26:W.keepIn K (.ref f26)=true)
  (a27:W.nsIn K mainGlobals "_law_beside"=some (some (.ref f27)))
  (l27:K.lookup f27=some ⟨oc27,od27,.func (W.fnOf "_law_beside" "_law_beside" (zao zbr) (zae zbr) (ai zbr) .none kV27 dc27 pm27 an27 cd27 ct27),sl27⟩)
  (c27:W.codeIn K cd27 "_law_beside"=true)
  (k27:W.keepIn K (.ref f27)=true)
  (a28:W.nsIn K mainGlobals "law"=some (some (.ref f28)))
  (l28:K.lookup f28=some ⟨oc28,od28,.func (W.fnOf "law" "law" (zao zb3) (zae zb3) (ai zb3) .none kV28 dc28 pm28 an28 cd28 ct28),sl28⟩)
  (c28:W.codeIn K cd28 "law"=true)
  (k28:W.keepIn K (.ref f28)=true)
  (a29:W.findIn K (.ref C) "__init__"=some (some (.ref f29)))
  (i29:W.isFn K (.ref f29)=true)
  (l29:K.lookup f29=some ⟨oc29,od29,.func (W.fnOf "__init__" "Groups.__init__" (zao zdY) (zae zdY) (ai zdY) .none kV29 dc29 pm29 an29 cd29 ct29),sl29⟩)
  (c29:W.codeIn K cd29 "Groups.__init__"=true)
  (k29:W.keepIn K (.ref f29)=true)
  (a30:W.findIn K (.ref C) "head"=some (some (.ref f30)))
  (i30:W.isFn K (.ref f30)=true)
  (l30:K.lookup f30=some ⟨oc30,od30,.func (W.fnOf "head" "Groups.head" (zao zdZ) (zae zdZ) (ai zdZ) .none kV30 dc30 pm30 an30 cd30 ct30),sl30⟩)
  (c30:W.codeIn K cd30 "Groups.head"=true)
  (k30:W.keepIn K (.ref f30)=true)
  (a31:W.findIn K (.ref C) "together"=some (some (.ref f31)))
  (i31:W.isFn K (.ref f31)=true)
  (l31:K.lookup f31=some ⟨oc31,od31,.func (W.fnOf "together" "Groups.together" (zao zcp) (zae zcp) (ai zcp) .none kV31 dc31 pm31 an31 cd31 ct31),sl31⟩)
  (c31:W.codeIn K cd31 "Groups.together"=true)
  (k31:W.keepIn K (.ref f31)=true)
  (a32:W.findIn K (.ref C) "merge"=some (some (.ref f32)))
  (i32:W.isFn K (.ref f32)=true)
  (l32:K.lookup f32=some ⟨oc32,od32,.func (W.fnOf "merge" "Groups.merge" (zao zco) (zae zco) (ai zco) .none kV32 dc32 pm32 an32 cd32 ct32),sl32⟩)
  (c32:W.codeIn K cd32 "Groups.merge"=true)
  (k32:W.keepIn K (.ref f32)=true)
  (z_len:W.nsIn K mainGlobals "len"=some none)
  (z_list:W.nsIn K mainGlobals "list"=some none)
  (z_range:W.nsIn K mainGlobals "range"=some none)
  (z_isinstance:W.nsIn K mainGlobals "isinstance"=some none)
  (z_int:W.nsIn K mainGlobals "int"=some none)
  (z_bool:W.nsIn K mainGlobals "bool"=some none)
  (z_min:W.nsIn K mainGlobals "min"=some none)
  (z_max:W.nsIn K mainGlobals "max"=some none)
  (z_tuple:W.nsIn K mainGlobals "tuple"=some none)
  (z_enumerate:W.nsIn K mainGlobals "enumerate"=some none)
  (z_zip:W.nsIn K mainGlobals "zip"=some none)
  (z_sorted:W.nsIn K mainGlobals "sorted"=some none)
  (z_dict:W.nsIn K mainGlobals "dict"=some none)
  (z_ValueError:W.nsIn K mainGlobals "ValueError"=some none)
  (z_ib:W.kitOne K (.type "int") (.type "bool")=some false)
  (pg:W.plainGet K C Str.empty=true)
  (hd:W.hasDictIn K C=true)
  (po:W.plainOver K C=true)
  (sa:W.findIn K (.ref C) "__setattr__"=some (some (.builtin "object.__setattr__")))
  (mk:W.makesIn K C=true)
  (kc:W.keepIn K (.ref C)=true)
  (nL:W.findIn K (.ref C) "least"=some none)
  (nG:W.findIn K (.ref C) "gathered"=some none)
  (j1:W.excIn K CJ bmV "ValueError.__new__"=true)
  (j2:W.exmOne K (.ref CJ) (.ref CE)=some true)
  (j3:W.kitOne K (.ref CJ) (.type "ValueError")=some true)
  (j4:W.kitOne K (.ref CJ) (.ref CJ)=some true)
  (j5:W.kitAny K (.ref CJ) [.ref C1,.ref C2,.ref C3,.ref C4]=some false)
  (j6:W.kitAny K (.ref CJ) [.ref C5,.ref C6,.ref C7]=some false)
  (y1:W.clsIn K CJ=some cdJ)
  (y2:W.findIn K (.ref CJ) "__getattribute__"=some (some (.builtin "BaseException.__getattribute__")))
  (y3:W.findIn K (.ref CJ) "__getattr__"=some none)
  (y4:W.findIn K (.ref CJ) "__class__"=some (some (.builtin "object.__class__")))
  (y5:W.specialIn K (.builtin "object.__class__") "__get__"=some (some (.builtin "getset_descriptor.__get__")))
  (y6:W.takesIn K (.builtin "object.__class__")=some true)
  (y7:W.mroIn K CJ (.type "object")=some true)
  (y8:W.mroIn K CJ (.type "BaseException")=some true)
  : ∃ fd:FuncData,(∀(s:Shared) (v:Value),BindsTo s fd ⟨[v],[]⟩ [("_law_script",v)])∧∀ base:Heap,K.In base→base.Ns mainGlobals mg→zay l.prog w K mg base CX0 5 fa fd ["_law_script"] (zfD K):=by
 have e:=hfa.symm.trans (W.mg_of X G a28)
 cases e
 have T:Txt K mg:=⟨W.mg_none_of X G z_len,W.mg_none_of X G z_list,W.mg_none_of X G z_range,W.mg_none_of X G z_isinstance,W.mg_none_of X G z_int,W.mg_none_of X G z_bool,W.mg_none_of X G z_min,W.mg_none_of X G z_max,W.mg_none_of X G z_tuple,W.mg_none_of X G z_enumerate,W.mg_none_of X G z_zip,W.mg_none_of X G z_sorted,W.mg_none_of X G z_dict,z_ib⟩
 have TG:TxG K mg C:=⟨⟨pg,hd,po,sa⟩,nL,nG,W.mg_none_of X G z_min,W.mg_none_of X G z_max,W.mg_none_of X G z_range⟩
 have MK:Mk K C f29:=⟨mk,a29,i29,kc⟩
 have EX:Exm K mg CJ CE C1 C2 C3 C4 C5 C6 C7:=⟨W.mg_of X G x_ce,W.mg_of X G x_nj,W.mg_of X G x_c1,W.mg_of X G x_c2,W.mg_of X G x_c3,W.mg_of X G x_c4,W.mg_of X G x_c5,W.mg_of X G x_c6,W.mg_of X G x_c7,W.mg_none_of X G z_ValueError,j2,j3,j4,j5,j6,⟨by rw[y1];rfl,y2,y3,y4,y5,y6,y7,y8⟩⟩
 have F1:=zaC (st:=zbE) l1 c1 k1
 have b1:=F1.binds (ps:=["given","groups"]) fun _ _ _ _ _ _ us hl=>match us,hl with | [_,_],_=>rfl
 have m1:=W.mg_of X G a1
 have F2:=zaC (st:=zbq) l2 c2 k2
 have b2:=F2.binds (ps:=["terms","groups"]) fun _ _ _ _ _ _ us hl=>match us,hl with | [_,_],_=>rfl
 have m2:=W.mg_of X G a2
 have F3:=zaC (st:=zdi) l3 c3 k3
 have b3:=F3.binds (ps:=["terms","given"]) fun _ _ _ _ _ _ us hl=>match us,hl with | [_,_],_=>rfl
 have m3:=W.mg_of X G a3
 have F4:=zaC (st:=zcq) l4 c4 k4
 have b4:=F4.binds (ps:=["links"]) fun _ _ _ _ _ _ us hl=>match us,hl with | [_],_=>rfl
 have m4:=W.mg_of X G a4
 have F5:=zaC (st:=zdb) l5 c5 k5
 have b5:=F5.binds (ps:=["steps","one","other"]) fun _ _ _ _ _ _ us hl=>match us,hl with | [_,_,_],_=>rfl
 have m5:=W.mg_of X G a5
 have F6:=zaC (st:=zbW) l6 c6 k6
 have b6:=F6.binds (ps:=["terms","link"]) fun _ _ _ _ _ _ us hl=>match us,hl with | [_,_],_=>rfl
 have m6:=W.mg_of X G a6
 have F7:=zaC (st:=zdn) l7 c7 k7
 have b7:=F7.binds (ps:=["terms","links","one","other"]) fun _ _ _ _ _ _ us hl=>match us,hl with | [_,_,_,_],_=>rfl
 have m7:=W.mg_of X G a7
 have F8:=zaC (st:=zbA) l8 c8 k8
 have b8:=F8.binds (ps:=["_law_script","_law_k"]) fun _ _ _ _ _ _ us hl=>match us,hl with | [_,_],_=>rfl
 have m8:=W.mg_of X G a8
 have F9:=zaC (st:=zbZ) l9 c9 k9
 have b9:=F9.binds (ps:=["_law_cell","_law_k"]) fun _ _ _ _ _ _ us hl=>match us,hl with | [_,_],_=>rfl
 have m9:=W.mg_of X G a9
 have F10:=zaC (st:=zce) l10 c10 k10
 have b10:=F10.binds (ps:=["_law_cell","_law_size"]) fun _ _ _ _ _ _ us hl=>match us,hl with | [_,_],_=>rfl
 have m10:=W.mg_of X G a10
 have F11:=zaC (st:=zbY) l11 c11 k11
 have b11:=F11.binds (ps:=["_law_cell"]) fun _ _ _ _ _ _ us hl=>match us,hl with | [_],_=>rfl
 have m11:=W.mg_of X G a11
 have F12:=zaC (st:=za1) l12 c12 k12
 have b12:=F12.binds (ps:=["_law_cell","_law_names_here","_law_terms_here","_law_size"]) fun _ _ _ _ _ _ us hl=>match us,hl with | [_,_,_,_],_=>rfl
 have m12:=W.mg_of X G a12
 have F13:=zaC (st:=za2) l13 c13 k13
 have b13:=F13.binds (ps:=["_law_script","_law_first","_law_names_here","_law_many"]) fun _ _ _ _ _ _ us hl=>match us,hl with | [_,_,_,_],_=>rfl
 have m13:=W.mg_of X G a13
 have F14:=zaC (st:=zbz) l14 c14 k14
 have b14:=F14.binds (ps:=["_law_cell"]) fun _ _ _ _ _ _ us hl=>match us,hl with | [_],_=>rfl
 have m14:=W.mg_of X G a14
 have F15:=zaC (st:=zaJ) l15 c15 k15
 have b15:=F15.binds (ps:=["_law_terms_here","_law_mix"]) fun _ _ _ _ _ _ us hl=>match us,hl with | [_,_],_=>rfl
 have m15:=W.mg_of X G a15
 have F16:=zaC (st:=za9) l16 c16 k16
 have b16:=F16.binds (ps:=["_law_script","_law_first","_law_terms_here"]) fun _ _ _ _ _ _ us hl=>match us,hl with | [_,_,_],_=>rfl
 have m16:=W.mg_of X G a16
 have F17:=zaC (st:=zaY) l17 c17 k17
 have b17:=F17.binds (ps:=["_law_tops","_law_one","_law_other"]) fun _ _ _ _ _ _ us hl=>match us,hl with | [_,_,_],_=>rfl
 have m17:=W.mg_of X G a17
 have F18:=zaC (st:=zbX) l18 c18 k18
 have b18:=F18.binds (ps:=["_law_found"]) fun _ _ _ _ _ _ us hl=>match us,hl with | [_],_=>rfl
 have m18:=W.mg_of X G a18
 have F19:=zaC (st:=zbi) l19 c19 k19
 have b19:=F19.binds (ps:=["_law_terms_here","_law_tops","_law_one","_law_other"]) fun _ _ _ _ _ _ us hl=>match us,hl with | [_,_,_,_],_=>rfl
 have m19:=W.mg_of X G a19
 have F20:=zaC (st:=zbF) l20 c20 k20
 have b20:=F20.binds (ps:=["_law_link"]) fun _ _ _ _ _ _ us hl=>match us,hl with | [_],_=>rfl
 have m20:=W.mg_of X G a20
 have F21:=zaC (st:=zbR) l21 c21 k21
 have b21:=F21.binds (ps:=["_law_terms_here","_law_given_here","_law_tops"]) fun _ _ _ _ _ _ us hl=>match us,hl with | [_,_,_],_=>rfl
 have m21:=W.mg_of X G a21
 have F22:=zaC (st:=zba) l22 c22 k22
 have b22:=F22.binds (ps:=["_law_terms_here","_law_given_here","_law_cell"]) fun _ _ _ _ _ _ us hl=>match us,hl with | [_,_,_],_=>rfl
 have m22:=W.mg_of X G a22
 have F23:=zaC (st:=zb0) l23 c23 k23
 have b23:=F23.binds (ps:=["_law_terms_here","_law_chain_here","_law_one","_law_other"]) fun _ _ _ _ _ _ us hl=>match us,hl with | [_,_,_,_],_=>rfl
 have m23:=W.mg_of X G a23
 have F24:=zaC (st:=zbx) l24 c24 k24
 have b24:=F24.binds (ps:=["_law_found","_law_chain_here"]) fun _ _ _ _ _ _ us hl=>match us,hl with | [_,_],_=>rfl
 have m24:=W.mg_of X G a24
 have F25:=zaC (st:=zby) l25 c25 k25
 have b25:=F25.binds (ps:=["_law_terms_here","_law_chain_here","_law_one","_law_other"]) fun _ _ _ _ _ _ us hl=>match us,hl with | [_,_,_,_],_=>rfl
 have m25:=W.mg_of X G a25
 have F26:=zaC (st:=zbh) l26 c26 k26
 have b26:=F26.binds (ps:=["_law_terms_here","_law_chain_here","_law_one","_law_other","_law_cell","_law_kept"]) fun _ _ _ _ _ _ us hl=>match us,hl with | [_,_,_,_,_,_],_=>rfl
 have m26:=W.mg_of X G a26
 have F27:=zaC (st:=zbr) l27 c27 k27
 have b27:=F27.binds (ps:=["_law_terms_here","_law_chain_here","_law_one","_law_cell"]) fun _ _ _ _ _ _ us hl=>match us,hl with | [_,_,_,_],_=>rfl
 have m27:=W.mg_of X G a27
 have F28:=zaC (st:=zb3) l28 c28 k28
 have F29:=zaC (st:=zdY) l29 c29 k29
 have b29:=F29.binds (ps:=["self"]) fun _ _ _ _ _ _ us hl=>match us,hl with | [_],_=>rfl
 have F30:=zaC (st:=zdZ) l30 c30 k30
 have b30:=F30.binds (ps:=["self","term"]) fun _ _ _ _ _ _ us hl=>match us,hl with | [_,_],_=>rfl
 have M30:zcN K C "head" f30:=⟨a30,i30,k30⟩
 have F31:=zaC (st:=zcp) l31 c31 k31
 have b31:=F31.binds (ps:=["self","one","other"]) fun _ _ _ _ _ _ us hl=>match us,hl with | [_,_,_],_=>rfl
 have M31:zcN K C "together" f31:=⟨a31,i31,k31⟩
 have F32:=zaC (st:=zco) l32 c32 k32
 have b32:=F32.binds (ps:=["self","one","other"]) fun _ _ _ _ _ _ us hl=>match us,hl with | [_,_,_],_=>rfl
 have M32:zcN K C "merge" f32:=⟨a32,i32,k32⟩
 refine⟨W.fnOf "law" "law" (zao zb3) (zae zb3) (ai zb3) .none kV28 dc28 pm28 an28 cd28 ct28,fun s v=>.of_eq rfl,fun base _ _=>?_⟩
 have G29:=zjG (P:=l.prog) (w:=w) (base:=base) F29 TG
 have G30:=zjH (P:=l.prog) (w:=w) (base:=base) F30 TG
 have G31:=zgX F31 TG M30 G30 b30
 have G32:=ziR F32 TG M30 G30 b30
 have Bgiven_links:FB l.prog w K mg base CX0 3 "given_links" f1 _ ["given","groups"] (zcS K C):=⟨zge F1 TG T.enumerate M31 G31 b31 M32 G32 b32,b1,k1,m1⟩
 have Balike_links:FB l.prog w K mg base CX0 3 "alike_links" f2 _ ["terms","groups"] (zcT K C):=⟨zgf F2 TG T.enumerate T.tuple M30 G30 b30 M31 G31 b31 M32 G32 b32,b2,k2,m2⟩
 have Blinks:FB l.prog w K mg base CX0 4 "links" f3 _ ["terms","given"] (zfp K):=⟨ziS F3 T.len MK (W.mg_of X G aC) G29 b29 Bgiven_links Balike_links,b3,k3,m3⟩
 have Bsteps_of:FB l.prog w K mg base CX0 1 "steps_of" f4 _ ["links"] (zdW K):=⟨zgY F4 T,b4,k4,m4⟩
 have Bway:FB l.prog w K mg base (CX1 l.prog w) 1 "way" f5 _ ["steps","one","other"] (zgw K CJ):=⟨ok_way F5 T EX.nj j1,b5,k5,m5⟩
 have Bpart_pairs:FB l.prog w K mg base CX0 1 "part_pairs" f6 _ ["terms","link"] (zfm K):=⟨ziO F6 T,b6,k6,m6⟩
 have Bways:FB l.prog w K mg base (CX1 l.prog w) 2 "ways" f7 _ ["terms","links","one","other"] (zeT K CJ):=⟨zjA F7 T Bsteps_of Bway Bpart_pairs,b7,k7,m7⟩
 have B_law_cell_at:FB l.prog w K mg base CX0 1 "_law_cell_at" f8 _ ["_law_script","_law_k"] (zdg K):=⟨zjI F8 T,b8,k8,m8⟩
 have B_law_mixed:FB l.prog w K mg base CX0 1 "_law_mixed" f9 _ ["_law_cell","_law_k"] (zbQ):=⟨ziQ F9,b9,k9,m9⟩
 have B_law_word:FB l.prog w K mg base CX0 2 "_law_word" f10 _ ["_law_cell","_law_size"] (zfZ):=⟨zjz F10 T B_law_mixed,b10,k10,m10⟩
 have B_law_names:FB l.prog w K mg base CX0 3 "_law_names" f11 _ ["_law_cell"] (zfn):=⟨ziP F11 T B_law_word,b11,k11,m11⟩
 have B_law_term:FB l.prog w K mg base CX0 2 "_law_term" f12 _ ["_law_cell","_law_names_here","_law_terms_here","_law_size"] (zf1 K):=⟨zjD F12 T B_law_mixed,b12,k12,m12⟩
 have B_law_terms:FB l.prog w K mg base CX0 3 "_law_terms" f13 _ ["_law_script","_law_first","_law_names_here","_law_many"] (zfl K):=⟨ziM F13 T B_law_cell_at B_law_mixed B_law_term,b13,k13,m13⟩
 have B_law_many_by:FB l.prog w K mg base CX0 1 "_law_many_by" f14 _ ["_law_cell"] (zeq):=⟨zhz F14,b14,k14,m14⟩
 have B_law_twin_parts:FB l.prog w K mg base CX0 1 "_law_twin_parts" f15 _ ["_law_terms_here","_law_mix"] (zeU K):=⟨zjB F15 T,b15,k15,m15⟩
 have B_law_given:FB l.prog w K mg base CX0 2 "_law_given" f16 _ ["_law_script","_law_first","_law_terms_here"] (zfq K):=⟨ziU F16 T B_law_cell_at B_law_mixed B_law_twin_parts,b16,k16,m16⟩
 have B_law_relabelled:FB l.prog w K mg base CX0 1 "_law_relabelled" f17 _ ["_law_tops","_law_one","_law_other"] (zcy K):=⟨ziN F17 T,b17,k17,m17⟩
 have B_law_whole:FB l.prog w K mg base CX0 1 "_law_whole" f18 _ ["_law_found"] (zfk):=⟨ziL F18 T,b18,k18,m18⟩
 have B_law_alike:FB l.prog w K mg base CX0 1 "_law_alike" f19 _ ["_law_terms_here","_law_tops","_law_one","_law_other"] (zel K):=⟨ziW F19 T,b19,k19,m19⟩
 have B_law_triple:FB l.prog w K mg base CX0 2 "_law_triple" f20 _ ["_law_link"] (zeE K):=⟨zif F20 T B_law_whole,b20,k20,m20⟩
 have B_law_next:FB l.prog w K mg base CX0 2 "_law_next" f21 _ ["_law_terms_here","_law_given_here","_law_tops"] (zeV K):=⟨zjF F21 T B_law_alike,b21,k21,m21⟩
 have B_law_chain:FB l.prog w K mg base CX0 3 "_law_chain" f22 _ ["_law_terms_here","_law_given_here","_law_cell"] (zfr K):=⟨ziV F22 T B_law_next B_law_relabelled B_law_mixed,b22,k22,m22⟩
 have B_law_joins:FB l.prog w K mg base CX0 2 "_law_joins" f23 _ ["_law_terms_here","_law_chain_here","_law_one","_law_other"] (zek K):=⟨ziT F23 T B_law_alike B_law_relabelled,b23,k23,m23⟩
 have B_law_some_of:FB l.prog w K mg base CX0 3 "_law_some_of" f24 _ ["_law_found","_law_chain_here"] (zf2 K):=⟨zjE F24 T B_law_triple,b24,k24,m24⟩
 have B_law_refused:FB l.prog w K mg base CX0 3 "_law_refused" f25 _ ["_law_terms_here","_law_chain_here","_law_one","_law_other"] (zep K):=⟨zhy F25 T EX Bways,b25,k25,m25⟩
 have B_law_told:FB l.prog w K mg base CX0 4 "_law_told" f26 _ ["_law_terms_here","_law_chain_here","_law_one","_law_other","_law_cell","_law_kept"] (zf0 K):=⟨zjC F26 T B_law_relabelled B_law_refused Bways B_law_some_of B_law_joins,b26,k26,m26⟩
 have B_law_beside:FB l.prog w K mg base CX0 2 "_law_beside" f27 _ ["_law_terms_here","_law_chain_here","_law_one","_law_cell"] (zeF K):=⟨zig F27 T B_law_relabelled,b27,k27,m27⟩
 exact ok_law F28 T ⟨B_law_cell_at,B_law_mixed,B_law_names,B_law_many_by,B_law_terms,B_law_given,B_law_chain,B_law_beside,Blinks,B_law_told⟩
theorem walk {l:W.OpenLaw} {q:Program} {loose:List Str} {XP:(Str→Option Value)→Heap→Prop} {YP:World→Heap→Prop} {d:DefRec} {K:Params→W.Frag} (hn:l.most=some 63) (hdf:d.params.defaults=[])
  (hY:∀(w:World) (h:Heap),YP w h→(K w.params).In h)
  (F:∀(w:World) (mg:Str→Option Value) (fa:Addr) (h:Heap),(K w.params).In h→h.Ns mainGlobals mg→mg d.name=some (.ref fa) →
   ∃ fd:FuncData,(∀(s:Shared) (u:Value),BindsTo s fd ⟨[u],[]⟩ [("_law_script",u)])∧∀ base:Heap,(K w.params).In base→base.Ns mainGlobals mg→zay l.prog w (K w.params) mg base CX0 5 fa fd ["_law_script"] (zfD (K w.params))) :
  W.WalkO q loose XP YP l.row.toRowW d [] (fun f vs=>PySem.call f vs) :=
 L2.walk_of (n:=63) (k:=5) (x:="_law_script") (CX:=fun _=>CX0) (sp:=fun w=>zfD (K w.params)) hn (by decide) hdf ⟨rfl,by decide,by decide,rfl⟩ hY F (fun _ _ a ns hl _ hS=>⟨a,ns,rfl,hS,hl,fun _=>rfl⟩) fun _ _ _ _ _ z=>z
end K14
namespace PySem.W.Fast
def tw8002206430095985108:=()
def tw2818356365647205220:=()
def tw6837726252103109437:=()
def tw9443851545516722857:=()
def tw6958324066594591087:=()
def tw16693266077399786448:=()
def tw15434963439038116108:=()
def tw8097938527100721612:=()
def tw597533893468049111:=()
def tw3576625956057043612:=()
def tw2382227254026232937:=()
def tw6576064301784580206:=()
def tw4789054566273174004:=()
def tw3729489286679857615:=()
def tw16281858415802999304:=()
def tw11061734048819301646:=()
def tw12982931984913833380:=()
def tw17773070294324520966:=()
def tw15656222085342218619:=()
def tw13852357461591220498:=()
def tw2344032821931249817:=()
def tw14162456743582469330:=()
def tw17835420715869985826:=()
def tw2318471644589222370:=()
def tw7766185675605211006:=()
def tw17991736526935431971:=()
def tw9657134102236832201:=()
def tw14112808366549993764:=()
def tw10490541608973630255:=()
def tw5184089804234827684:=()
def tw6835217727191494058:=()
def tw2844492904067542779:=()
def tw357452509316065837:=()
def tw12360112990830532757:=()
def tw10533150060078980028:=()
def tw5757853031996372593:=()
def tw4582001807395604368:=()
def tw12702279318027850621:=()
def tw16109434522231266755:=()
def tw6035120260389105514:=()
def tw258495761861675075:=()
def tw2946491538337804937:=()
def tw7700173947913053155:=()
def tw10186282735624629017:=()
def tw7029444829026655582:=()
def tw5864696238519608062:=()
def tw470907259202961894:=()
def tw15234231268734003047:=()
def tw8044177849880380199:=()
def tw3915935617699315653:=()
def tw4395315301927489452:=()
def tw10742094739045006035:=()
def tw956313311170436061:=()
def tw1490651455708615544:=()
def tw12575083194089641527:=()
def tw11691717853227915176:=()
def tw10918646983688367159:=()
def tw13006986884893070074:=()
def tw16867655650015538527:=()
def tw15336355234907570816:=()
def tw9151817235057699337:=()
def tw306487521133778477:=()
def tw15067428766067292615:=()
def tw5599809380851725360:=()
def tw9987500420479874423:=()
def tw4404598017648104867:=()
def tw14357153677496969169:=()
def tw11561201979068213494:=()
def tw1299896652887409888:=()
def tw10067449370785499076:=()
def tw11677546179475576766:=()
def tw6434530944858443341:=()
def tw2564341145873099018:=()
def tw4577414656064730871:=()
def tw31548046191065454:=()
def tw9952782913334696472:=()
def tw9065490398860538852:=()
def tw5316448695615424377:=()
def tw16102755924048133453:=()
def tw5308732377115430383:=()
def tw11818488611075242759:=()
def tw8632003746944997567:=()
def tw13610121303462717009:=()
def tw517335847334150109:=()
def tw8075871948609173664:=()
def tw1859508169809394159:=()
def tw4153060075328585013:=()
def tw13035526210169557766:=()
def tw17414163249969773449:=()
def tw17785551114015308111:=()
def tw18054774599284646249:=()
def tw10199416076780394918:=()
def tw9005233203886053634:=()
def tw2665358541937673007:=()
def tw8813967710612405051:=()
def tw13303642175970799487:=()
def tw3680649936065049146:=()
def tw14126838974826307382:=()
def tw995750688507706601:=()
def tw9543219556851509745:=()
def tw17024103563932146258:=()
def tw9689432511555601065:=()
def tw6000052229892604774:=()
def tw16504814170839804074:=()
def tw10409516983793145295:=()
def tw8499567915110048503:=()
def tw12580044966638275926:=()
def tw7523808237534421173:=()
def tw12117961969194538374:=()
def tw2141099696391881057:=()
def tw2995194658437463550:=()
def tw12335267311575428697:=()
def tw4274633961384577173:=()
def tw16677629235588557191:=()
def tw14045614728672755277:=()
def tw11842641722654227207:=()
def tw11997490346665300438:=()
def tw1981682469237005166:=()
def tw17037615650511091302:=()
def tw10109873457225855922:=()
def tw12889646333729779466:=()
def tw6255809285376802712:=()
def tw413575513084273693:=()
def tw7067697989897074562:=()
def tw4568621413109399926:=()
def tw16966628237862126055:=()
def tw11490883070311250910:=()
def tw526663202520704861:=()
def tw8023192575605377440:=()
def tw17316089381250069322:=()
def tw1932349905271830446:=()
def tw16549183471770618755:=()
def tw15233607637753772860:=()
def tw4828554999673162745:=()
def tw14443974041963236101:=()
def tw1800337778806811931:=()
def tw8700587528307140890:=()
def tw306568021968178442:=()
def tw11077082376419674645:=()
def tw14964249985082899999:=()
def tw7615408797252045561:=()
def tw17727941877230295897:=()
def tw17520613265577422441:=()
def tw15196749728201323163:=()
def tw16022723409167642734:=()
def tw731205695147379214:=()
def tw7019802292220678260:=()
def tw6668942404703475941:=()
def tw10876934140351452099:=()
def tw17991416694747490089:=()
def tw12262665718345476361:=()
def tw13902599990494728352:=()
def tw12178249000947570843:=()
def tw3621701223090539875:=()
def tw17195551501120672143:=()
def tw3826368737420798878:=()
def tw17751853720668851113:=()
def tw17722894467849627677:=()
def tw2276261080271720416:=()
def tw672630114491238400:=()
def tw817782044251394023:=()
def tw15019902392956072708:=()
def tw10441477682719475442:=()
def tw10171857808764661699:=()
def tw15094171542356894582:=()
def tw16413210188520985412:=()
def tw2498664204496983364:=()
def tw5218309242268306435:=()
def tw6766019447183847137:=()
def tw15610288341167344757:=()
def tw16232768120685132056:=()
def tw10909329082095731433:=()
def tw5396511804034413263:=()
def tw9975509196171211241:=()
def tw14142195636616096297:=()
def tw12338928588033489082:=()
def tw5372425262939643585:=()
def tw11948514801277840760:=()
def tw7830461227317902220:=()
def tw17861102605706388669:=()
def tw461721157852769887:=()
def tw15417644707359582141:=()
def tw6285829197102978071:=()
def tw8534311891706327679:=()
def tw8579015514637430202:=()
def tw4981996282536344803:=()
def tw11863272112600823377:=()
def tw18305503617054644807:=()
def tw9554683109971665699:=()
def tw7699337381801638610:=()
def tw14005185512076253451:=()
def tw1261052636556622276:=()
def tw8158101105660019043:=()
def tw7991691136868754473:=()
def tw7373612386810207130:=()
def tw13126952746410277312:=()
def tw4577688441606192097:=()
def tw6632989862693906394:=()
def tw10169475841335077859:=()
def tw7147581305153142802:=()
def tw7797896590279073608:=()
def tw14096828368622276265:=()
def tw12359697141395406179:=()
def tw14300187782155624419:=()
def tw8080802013411654150:=()
def tw16127142716122756340:=()
def tw17196559897632686669:=()
def tw9108265380172082052:=()
def tw8867798128453584255:=()
def tw2334559398370951683:=()
def tw1420194743046728065:=()
def tw14383228626707761129:=()
def tw7136258676783982040:=()
def tw4785125689041300511:=()
def tw722029964590483383:=()
def tw3316957321703497032:=()
def tw3569667350754924335:=()
def tw2387091787636610999:=()
def tw13581488772691963118:=()
def tw8656220670467511458:=()
def tw17079686447114454564:=()
def tw6393427862074718216:=()
def tw18073315317346424179:=()
def tw1723785495203772833:=()
def tw7086215929538574174:=()
def tw17076495187649960968:=()
def tw2269877756993942394:=()
def tw14828044632437147198:=()
def tw5225551332269828849:=()
def tw13228916157839928918:=()
def tw5770352991826760000:=()
def tw5826493492708924603:=()
def tw16168992501217123945:=()
def tw5021444977819178755:=()
def tw16445146150778693753:=()
def tw4399853150291357834:=()
def tw15252561655617549348:=()
def tw17940458496566915335:=()
def tw16275934843611443897:=()
def tw653417414790039430:=()
def tw2105736493455460374:=()
def tw1335650037199061777:=()
def tw11580711005107547944:=()
def tw12386603400148238285:=()
def tw5544082947733289134:=()
def tw3607841242761442045:=()
def tw12007989495394756683:=()
def tw4566522305278625715:=()
def tw9680311202371592651:=()
def tw4449334394226213498:=()
def tw7688392106694314986:=()
def tw12999265356962843545:=()
def tw13271649477475287727:=()
def tw17338144925722344714:=()
def tw4523924342997086486:=()
def tw1331678767564019586:=()
def tw8666949920629805011:=()
def tw1975610184778862586:=()
def tw6766955381875157053:=()
def tw7842296206199517622:=()
def tw11528155194220910528:=()
def tw969750342239221456:=()
def tw7707971359919939769:=()
def tw16151659782300443067:=()
def tw18438387331667749429:=()
def tw15105843946347209808:=()
def tw16111064129433726503:=()
def tw3219550034519907824:=()
def tw8547283850205116513:=()
def tw5413445701929983023:=()
def tw5484177354704309040:=()
def tw2922585992313078483:=()
def tw7149812091737302289:=()
def tw5960459248561257150:=()
def tw2718065919611792146:=()
def tw10179967311798284942:=()
def tw8475495059595676392:=()
def tw3370723424637139036:=()
def tw10897454698301908717:=()
def tw14941823215433902420:=()
def tw10808314211626313809:=()
def tw10738632104489471178:=()
def tw14500647102313812922:=()
def tw16071432165399797345:=()
def tw15205893101310579209:=()
def tw2491090367847051429:=()
def tw6358839164325676239:=()
def tw14970944573040534974:=()
def tw17835977837761015839:=()
def tw4713313680147646924:=()
def tw11716811614898099182:=()
def tw5154259176199666469:=()
def tw4598339162056932534:=()
def tw7083685486699198037:=()
def tw8337523470907425251:=()
def tw15906274577897793251:=()
def tw776017792131351172:=()
def tw3056486297739697925:=()
def tw2250120366155375740:=()
def tw12054573485607658961:=()
def tw16768884676636497495:=()
def tw18361536499274083275:=()
def tw3632438497910557452:=()
def tw13519553410635145404:=()
def tw1213766758210659663:=()
def tw877915947530915701:=()
def tw10683308208489922417:=()
def tw14314085873597959560:=()
def tw5207003312576622948:=()
def tw16602959951522255524:=()
def tw15716412034134946310:=()
def tw10151630351156938502:=()
def tw4613109855351246020:=()
def tw16755421566627812554:=()
def tw18195932477689833488:=()
def tw11897776431759977530:=()
def tw7604062141679272428:=()
def tw9493722950137196578:=()
def tw11035952110307555608:=()
def tw13235827044476404320:=()
def tw7383336513528198286:=()
def tw16123769100397697642:=()
def tw17900373082613376111:=()
def tw1041143201004139673:=()
def tw9856111004579830450:=()
def tw78157455623605934:=()
def tw13987334089924630999:=()
def tw2226037863171327089:=()
def tw12653249927458638996:=()
def tw3994002678357891451:=()
def tw16478863380603286099:=()
def tw14832069004223595165:=()
def tw11919739229647371247:=()
def tw9972584156703938559:=()
def tw15082867428054303017:=()
def tw10292797247650779738:=()
def tw218477430823321428:=()
def tw12024957316432466223:=()
def tw16500536230765307749:=()
def tw12662759260149082385:=()
end PySem.W.Fast
open PySem PySem.W PyProof.Rows
set_option maxRecDepth 100000 in
set_option maxHeartbeats 0 in
theorem PySem.Challenge.cw_yesorno_k14_ways_shown_holds : PySem.Challenge.rw_yesorno_k14_ways_shown.Holds := by
 w_on;o_law;k_head;(case hw=>w_witness2)
 k_fill
 refine K14.walk (l:=PySem.Challenge.rw_yesorno_k14_ways_shown) rfl rfl (fun w h Y=>W.kIn_of Y) ?F
 case F =>
  intro w mg fa h KX G hmg
  refine' K14.all_mk KX G hmg ?aC ?x_ce ?x_nj ?x_c1 ?x_c2 ?x_c3 ?x_c4 ?x_c5 ?x_c6 ?x_c7 ?a1 ?l1 ?c1 ?k1 ?a2 ?l2 ?c2 ?k2 ?a3 ?l3 ?c3 ?k3 ?a4 ?l4 ?c4 ?k4 ?a5 ?l5 ?c5 ?k5 ?a6 ?l6 ?c6 ?k6 ?a7 ?l7 ?c7 ?k7 ?a8 ?l8 ?c8 ?k8 ?a9 ?l9 ?c9 ?k9 ?a10 ?l10 ?c10 ?k10 ?a11 ?l11 ?c11 ?k11 ?a12 ?l12 ?c12 ?k12 ?a13 ?l13 ?c13 ?k13 ?a14 ?l14 ?c14 ?k14 ?a15 ?l15 ?c15 ?k15 ?a16 ?l16 ?c16 ?k16 ?a17 ?l17 ?c17 ?k17 ?a18 ?l18 ?c18 ?k18 ?a19 ?l19 ?c19 ?k19 ?a20 ?l20 ?c20 ?k20 ?a21 ?l21 ?c21 ?k21 ?a22 ?l22 ?c22 ?k22 ?a23 ?l23 ?c23 ?k23 ?a24 ?l24 ?c24 ?k24 ?a25 ?l25 ?c25 ?k25 ?a26 ?l26 ?c26 ?k26 ?a27 ?l27 ?c27 ?k27 ?a28 ?l28 ?c28 ?k28 ?a29 ?i29 ?l29 ?c29 ?k29 ?a30 ?i30 ?l30 ?c30 ?k30 ?a31 ?i31 ?l31 ?c31 ?k31 ?a32 ?i32 ?l32 ?c32 ?k32 ?z_len ?z_list ?z_range ?z_isinstance ?z_int ?z_bool ?z_min ?z_max ?z_tuple ?z_enumerate ?z_zip ?z_sorted ?z_dict ?z_ValueError ?z_ib ?pg ?hd ?po ?sa ?mk ?kc ?nL ?nG ?j1 ?j2 ?j3 ?j4 ?j5 ?j6 ?y1 ?y2 ?y3 ?y4 ?y5 ?y6 ?y7 ?y8
  (case aC=>k_is)
  (case x_ce=>k_is)
  (case x_nj=>k_is)
  (case x_c1=>k_is)
  (case x_c2=>k_is)
  (case x_c3=>k_is)
  (case x_c4=>k_is)
  (case x_c5=>k_is)
  (case x_c6=>k_is)
  (case x_c7=>k_is)
  (case a1=>k_is)
  (case l1=>k_is)
  (case c1=>k_is)
  (case k1=>k_is)
  (case a2=>k_is)
  (case l2=>k_is)
  (case c2=>k_is)
  (case k2=>k_is)
  (case a3=>k_is)
  (case l3=>k_is)
  (case c3=>k_is)
  (case k3=>k_is)
  (case a4=>k_is)
  (case l4=>k_is)
  (case c4=>k_is)
  (case k4=>k_is)
  (case a5=>k_is)
  (case l5=>k_is)
  (case c5=>k_is)
  (case k5=>k_is)
  (case a6=>k_is)
  (case l6=>k_is)
  (case c6=>k_is)
  (case k6=>k_is)
  (case a7=>k_is)
  (case l7=>k_is)
  (case c7=>k_is)
  (case k7=>k_is)
  (case a8=>k_is)
  (case l8=>k_is)
  (case c8=>k_is)
  (case k8=>k_is)
  (case a9=>k_is)
  (case l9=>k_is)
  (case c9=>k_is)
  (case k9=>k_is)
  (case a10=>k_is)
  (case l10=>k_is)
  (case c10=>k_is)
  (case k10=>k_is)
  (case a11=>k_is)
  (case l11=>k_is)
  (case c11=>k_is)
  (case k11=>k_is)
  (case a12=>k_is)
  (case l12=>k_is)
  (case c12=>k_is)
  (case k12=>k_is)
  (case a13=>k_is)
  (case l13=>k_is)
  (case c13=>k_is)
  (case k13=>k_is)
  (case a14=>k_is)
  (case l14=>k_is)
  (case c14=>k_is)
  (case k14=>k_is)
  (case a15=>k_is)
  (case l15=>k_is)
  (case c15=>k_is)
  (case k15=>k_is)
  (case a16=>k_is)
  (case l16=>k_is)
  (case c16=>k_is)
  (case k16=>k_is)
  (case a17=>k_is)
  (case l17=>k_is)
  (case c17=>k_is)
  (case k17=>k_is)
  (case a18=>k_is)
  (case l18=>k_is)
  (case c18=>k_is)
  (case k18=>k_is)
  (case a19=>k_is)
  (case l19=>k_is)
  (case c19=>k_is)
  (case k19=>k_is)
  (case a20=>k_is)
  (case l20=>k_is)
  (case c20=>k_is)
  (case k20=>k_is)
  (case a21=>k_is)
  (case l21=>k_is)
  (case c21=>k_is)
  (case k21=>k_is)
  (case a22=>k_is)
  (case l22=>k_is)
  (case c22=>k_is)
  (case k22=>k_is)
  (case a23=>k_is)
  (case l23=>k_is)
  (case c23=>k_is)
  (case k23=>k_is)
  (case a24=>k_is)
  (case l24=>k_is)
  (case c24=>k_is)
  (case k24=>k_is)
  (case a25=>k_is)
  (case l25=>k_is)
  (case c25=>k_is)
  (case k25=>k_is)
  (case a26=>k_is)
  (case l26=>k_is)
  (case c26=>k_is)
  (case k26=>k_is)
  (case a27=>k_is)
  (case l27=>k_is)
  (case c27=>k_is)
  (case k27=>k_is)
  (case a28=>k_is)
  (case l28=>k_is)
  (case c28=>k_is)
  (case k28=>k_is)
  (case a29=>k_is)
  (case i29=>k_is)
  (case l29=>k_is)
  (case c29=>k_is)
  (case k29=>k_is)
  (case a30=>k_is)
  (case i30=>k_is)
  (case l30=>k_is)
  (case c30=>k_is)
  (case k30=>k_is)
  (case a31=>k_is)
  (case i31=>k_is)
  (case l31=>k_is)
  (case c31=>k_is)
  (case k31=>k_is)
  (case a32=>k_is)
  (case i32=>k_is)
  (case l32=>k_is)
  (case c32=>k_is)
  (case k32=>k_is)
  (case z_len=>k_is)
  (case z_list=>k_is)
  (case z_range=>k_is)
  (case z_isinstance=>k_is)
  (case z_int=>k_is)
  (case z_bool=>k_is)
  (case z_min=>k_is)
  (case z_max=>k_is)
  (case z_tuple=>k_is)
  (case z_enumerate=>k_is)
  (case z_zip=>k_is)
  (case z_sorted=>k_is)
  (case z_dict=>k_is)
  (case z_ValueError=>k_is)
  (case z_ib=>kit_is)
  (case pg=>k_is)
  (case hd=>k_is)
  (case po=>k_is)
  (case sa=>k_is)
  (case mk=>k_is)
  (case kc=>k_is)
  (case nL=>k_is)
  (case nG=>k_is)
  (case j1=>k_exc)
  (case j2=>kts_exm)
  (case j3=>kit_is)
  (case j4=>kit_is)
  (case j5=>kit_is)
  (case j6=>kit_is)
  (case y1=>k_is)
  (case y2=>k_is)
  (case y3=>k_is)
  (case y4=>k_is)
  (case y5=>k_is)
  (case y6=>k_is)
  (case y7=>k_is)
  (case y8=>k_is)
